import PyProof.Rows.All
import Wide.All
import OpenK.AllK
import Wide.FinOn
import Lean
import PyProof.EqAt
import PyProof.EqKinds
import PyProof.TupleCall
import KE.RegKIsAll
import KE.RegKTryMore
import PyProof.StationsW
import PyProof.RulesAs
import PyProof.ExcClass3
import PyProof.ListRange
import KE.KRevSl
import PyProof.DictWalks
import PyProof.Rows.SetFrom
import PyProof.CollectWalk
import PyProof.Rows.SortWalk
import KE.KLam
import KE.KNestM
import KE.KSortKey
import PyProof.AutoSeq1
import KE.KEqDict
import PySem.Challenge.RW_linkyard_k20_sections_as_laid
set_option Elab.async false
set_option genInjectivity false
set_option genSizeOf false
set_option genSizeOfSpec false
set_option bootstrap.genMatcherCode false
set_option linter.all false
set_option maxRecDepth 100000
set_option maxHeartbeats 4000000
namespace L2
open PySem PySem.Spec PyProof.Rows

noncomputable abbrev Key := Sum Int Str
noncomputable def keyIs : Key → Value → Bool
  | .inl k, v => Value.isInt k v
  | .inr x, v => Value.isStrOf x v
noncomputable def keyH (w : World) : Key → Int
  | .inl k => hashInt k
  | .inr x => hashStr w x
theorem keyIs_shape : ∀ {k : Key} {v : Value}, keyIs k v = true → (∃ i t, k = Sum.inl i ∧ v = Value.int i t) ∨ (∃ x t, k = Sum.inr x ∧ v = Value.str x t)
  | .inl i, v, h => by
    obtain ⟨t, e⟩ := Value.isInt_shape (k := i) (v := v) h
    exact .inl ⟨i, t, rfl, e⟩
  | .inr x, v, h => by
    obtain ⟨t, e⟩ := Value.isStrOf_shape (x := x) (v := v) h
    exact .inr ⟨x, t, rfl, e⟩
theorem keyIs_int (i : Int) (t : Tok) : keyIs (.inl i) (.int i t) = true := by simp [keyIs, Value.isInt]
theorem keyIs_str (x : Str) (t : Tok) : keyIs (.inr x) (.str x t) = true := by simp [keyIs, Value.isStrOf]
theorem key_ll (a b : Int) : decide ((Sum.inl a : Key) = Sum.inl b) = (a == b) := by
  by_cases e : a = b
  · subst e; simp
  · have h : ¬ (Sum.inl a : Key) = Sum.inl b := fun q => e (Sum.inl.inj q)
    rw [decide_eq_false h]
    exact (beq_eq_false_iff_ne.mpr e).symm
theorem key_rr (a b : Str) : decide ((Sum.inr a : Key) = Sum.inr b) = decide (a = b) := by
  by_cases e : a = b
  · subst e; simp
  · have h : ¬ (Sum.inr a : Key) = Sum.inr b := fun q => e (Sum.inr.inj q)
    rw [decide_eq_false h, decide_eq_false e]
theorem key_lr (a : Int) (b : Str) : decide ((Sum.inl a : Key) = Sum.inr b) = false := decide_eq_false (fun q => nomatch q)
theorem key_rl (a : Str) (b : Int) : decide ((Sum.inr a : Key) = Sum.inl b) = false := decide_eq_false (fun q => nomatch q)

noncomputable def mixKind (prog : Program) (w : World) : PySem.KeyKind prog w Key where
  is := keyIs
  hash := keyH w
  inj := fun v a b ha hb => by
    rcases keyIs_shape ha with ⟨i, t, rfl, rfl⟩ | ⟨x, t, rfl, rfl⟩
    · rcases keyIs_shape hb with ⟨j, u, rfl, e⟩ | ⟨y, u, rfl, e⟩
      · injection e with e1 _; rw [e1]
      · exact nomatch e
    · rcases keyIs_shape hb with ⟨j, u, rfl, e⟩ | ⟨y, u, rfl, e⟩
      · exact nomatch e
      · injection e with e1 _; rw [e1]
  byValue := fun k v h => by
    rcases keyIs_shape h with ⟨i, t, rfl, rfl⟩ | ⟨x, t, rfl, rfl⟩ <;> rfl
  pyHash := fun hv h => by
    rcases keyIs_shape hv with ⟨i, t, rfl, rfl⟩ | ⟨x, t, rfl, rfl⟩
    · exact wpAny_pyHash_int h
    · exact wpAny_pyHash_str h
  eqBool := fun hu hv h => by
    rcases keyIs_shape hu with ⟨i, t, rfl, rfl⟩ | ⟨x, t, rfl, rfl⟩
    · rcases keyIs_shape hv with ⟨j, u, rfl, rfl⟩ | ⟨y, u, rfl, rfl⟩
      · rw [key_ll] at h; exact wpAny_eqBool_int h
      · rw [key_lr] at h; exact SeqAt.EqAt.int_str i t y u _ _ _ _ h
    · rcases keyIs_shape hv with ⟨j, u, rfl, rfl⟩ | ⟨y, u, rfl, rfl⟩
      · rw [key_rl] at h; exact SeqAt.EqAt.str_int x t j u _ _ _ _ h
      · rw [key_rr] at h; exact wpAny_eqBool_str h
  «strs» := fun k x t v h => by
    rcases keyIs_shape h with ⟨i, u, rfl, e⟩ | ⟨y, u, rfl, e⟩
    · exact nomatch e
    · injection e with e1 _
      subst e1
      cases v <;> rfl

theorem mixKind_int (prog : Program) (w : World) (i : Int) (t : Tok) : (mixKind prog w).is (.inl i) (.int i t) = true := keyIs_int i t
theorem mixKind_str (prog : Program) (w : World) (x : Str) (t : Tok) : (mixKind prog w).is (.inr x) (.str x t) = true := keyIs_str x t
end L2

namespace L2
open PySem PySem.Spec PyProof.Rows

set_option genInjectivity true in
inductive V where
  | non | bl (b : Bool) | int (i : Int) | str (x : Str) | byt (b : Array UInt8) | flt (b : UInt64) | ref (a : Addr) | ty (n : String)
  deriving DecidableEq

noncomputable def RelV : V → Value → Prop
  | .non, u => u = Value.none
  | .bl b, u => u = Value.bool b
  | .int i, u => ∃ t, u = Value.int i t
  | .str x, u => ∃ t, u = Value.str x t
  | .byt b, u => ∃ t, u = Value.bytes b t
  | .flt b, u => ∃ t, u = Value.float b t
  | .ref a, u => u = Value.ref a
  | .ty n, u => u = Value.type n

noncomputable abbrev Vals : List V → List Value → Prop := Paired RelV
theorem Vals.length {xs : List V} {us : List Value} (r : Vals xs us) : xs.length = us.length := Paired.length r
theorem Vals.get : ∀ {xs : List V} {us : List Value} {i : Nat} {x : V}, Vals xs us → xs[i]? = some x → ∃ u, us[i]? = some u ∧ RelV x u
  | _, _, _, _, .nil, e => by simp at e
  | _, _, 0, _, .cons r _, e => by simp at e; subst e; exact ⟨_, rfl, r⟩
  | _, _, i + 1, x, .cons _ t, e => by
    obtain ⟨u, h1, h2⟩ := Vals.get (i := i) (x := x) t (by simpa using e)
    exact ⟨u, by simpa using h1, h2⟩
theorem Vals.append : ∀ {xs ys : List V} {us ws : List Value}, Vals xs us → Vals ys ws → Vals (xs ++ ys) (us ++ ws)
  | _, _, _, _, .nil, s => s
  | _, _, _, _, .cons r t, s => .cons r (Vals.append t s)
theorem Vals.take : ∀ {xs : List V} {us : List Value} (n : Nat), Vals xs us → Vals (xs.take n) (us.take n)
  | _, _, 0, _ => .nil
  | _, _, _ + 1, .nil => .nil
  | _, _, n + 1, .cons r t => .cons r (Vals.take n t)
theorem Vals.drop : ∀ {xs : List V} {us : List Value} (n : Nat), Vals xs us → Vals (xs.drop n) (us.drop n)
  | _, _, 0, r => r
  | _, _, _ + 1, .nil => .nil
  | _, _, n + 1, .cons _ t => Vals.drop n t
noncomputable def RelO : Option V → Option Value → Prop
  | some v, some u => RelV v u
  | none, none => True
  | _, _ => False
noncomputable def KV {κ : Type} : List (κ × V) → List (κ × Value) → Prop := Paired fun (p : κ × V) (q : κ × Value) => p.1 = q.1 ∧ RelV p.2 q.2

noncomputable def kV : Key → V
  | .inl i => .int i
  | .inr x => .str x

set_option genInjectivity true in
inductive HO where
  /-- a list -/
  | lst (xs : List V)
  /-- a tuple (never changes) -/
  | tup (xs : List V)
  /-- a dict whose keys are ints and texts; one whose keys are tuples of ints and texts (the empty one is both) -/
  | dK (kvs : List (Key × V)) | dT (kvs : List (List Key × V))
  /-- a set of ints: its members, its size -/
  | set (S : Int → Bool) (n : Nat)
  /-- an instance of the class at C, its dict at dx, its attributes -/
  | ins (C dx : Addr) (fs : List (Str × V))
  /-- the dict of the instance at x -/
  | own (x : Addr)
  /-- the dict of an exception -/
  | xd (fs : List (Str × V))
  /-- a bound method, f of x -/
  | met (f x : Addr)
  /-- a range object lo, lo + 1, .. below hi -/
  | rng (lo hi : Int)
  /-- a thing that is known to the object (the script; a dict while a loop walks it): read, never written while it is so -/
  | frz (o : Obj) (u : HO)
  /-- a code object's table -/
  | tbl (ps : Array Value)
  /-- any other thing, by what is true of its one object (a def of one's own: SetO a S n := HO.ext fun h => ..) -/
  | ext (φ : Heap → Prop)

noncomputable abbrev Hp := Addr → Option HO
noncomputable def upd (H : Hp) (a : Addr) (o : HO) : Hp := fun b => if b = a then some o else H b
theorem upd_same {H : Hp} {a : Addr} {o : HO} : upd H a o a = some o := by unfold upd; rw [if_pos rfl]
theorem upd_ne {H : Hp} {a b : Addr} {o : HO} (h : b ≠ a) : upd H a o b = H b := by unfold upd; rw [if_neg h]
theorem ne_of {H : Hp} {a b : Addr} {o u : HO} (h : H a = some o) (h' : H b = some u) (d : o ≠ u) : a ≠ b := by
  intro e; subst e; rw [h] at h'; exact d (Option.some.inj h')
theorem ne_of_none {H : Hp} {a b : Addr} {o : HO} (h : H a = some o) (h' : H b = none) : a ≠ b := by
  intro e; subst e; rw [h] at h'; cases h'

section
variable (P : Program) (w : World)
noncomputable def ObjOk (H : Hp) (h : Heap) (a : Addr) : HO → Prop
  | .lst xs => xs.length ≤ sizeLine ∧ ∃ (its : List Value) (n : Nat), Vals xs its ∧ h.get? a = some { cls := .type "list", data := .seq its.toArray n }
  | .tup xs => xs.length ≤ sizeLine ∧ ∃ its : List Value, Vals xs its ∧ IsTup h a its.toArray
  | .dK kvs => kvs.length ≤ sizeLine ∧ (a == sysModules) = false ∧ ∃ vs, KV kvs vs ∧ h.DictOf (mixKind P w) a vs
  | .dT kvs => kvs.length ≤ sizeLine ∧ (a == sysModules) = false ∧ ∃ xs : List (List Key × Addr × Value),
      Paired (fun (p : List Key × V) (q : List Key × Addr × Value) => p.1 = q.1 ∧ H q.2.1 = some (.tup (p.1.map kV)) ∧ RelV p.2 q.2.2) kvs xs ∧
      ∃ o es ep, h.get? a = some o ∧ o.ExactDict ∧ o.data = .dict es ep ∧ es.toList = xs.map (entryOfKey (tupleKind (mixKind P w))) ∧ (xs.map (·.1)).Nodup
  | .set S n => h.SetOf (intKind P w) a S n
  | .ins C dx fs => H dx = some (.own a) ∧ fs.length ≤ 1000 ∧ dx ≠ a ∧ h.get? a = some (PySem.W.instObj C dx) ∧
      ∃ mA, h.Ns1 dx mA ∧ (∀ f, RelO (fs.lookup f) (mA f)) ∧ PySem.Within mA (fs.map (·.1))
  | .own _ => ∃ o, h.get? a = some o
  | .xd fs => ∃ mA, h.Ns1 a mA ∧ ∀ f, RelO (fs.lookup f) (mA f)
  | .rng lo hi => ∃ t u v, h.get? a = some { cls := .type "range", data := .fields #[.int lo t, .int hi u, .int 1 v] }
  | .frz o u => h.get? a = some o ∧ ObjOk H h a u
  | .tbl ps => h.get? a = some { cls := .none, data := .fields ps }
  | .met f x => h.get? a = some (PySem.W.methodObj (.ref f) (.ref x))
  | .ext φ => φ h ∧ (∃ o, h.get? a = some o) ∧ ∀ h1 h2 : Heap, φ h1 → (∀ o, h1.get? a = some o → h2.get? a = some o) → φ h2
noncomputable def HOk (H : Hp) (h : Heap) : Prop := ∀ a o, H a = some o → ObjOk P w H h a o
end

section
variable {P : Program} {w : World} {H H' : Hp} {h h' : Heap} {a : Addr} {o : HO}
theorem ObjOk.lt (x : ObjOk P w H h a o) : a < h.objs.size := by
  cases o with
  | lst xs => obtain ⟨_, _, _, _, e⟩ := x; exact Heap.lt_size e
  | tup xs => obtain ⟨_, _, _, p⟩ := x; exact p.lt
  | dK kvs => obtain ⟨_, _, _, _, o, _, _, e, _⟩ := x; exact Heap.lt_size e
  | dT kvs => obtain ⟨_, _, _, _, o, _, _, e, _⟩ := x; exact Heap.lt_size e
  | set S n => obtain ⟨o, _, _, _, e, _⟩ := x; exact Heap.lt_size e
  | ins C dx fs => obtain ⟨_, _, _, e, _⟩ := x; exact Heap.lt_size e
  | own y => obtain ⟨_, e⟩ := x; exact Heap.lt_size e
  | xd fs => obtain ⟨_, ⟨_, _, _, e, _⟩, _⟩ := x; exact Heap.lt_size e
  | rng lo hi => obtain ⟨_, _, _, e⟩ := x; exact Heap.lt_size e
  | frz ob u => obtain ⟨e, _⟩ := x; exact Heap.lt_size e
  | tbl ps => exact Heap.lt_size (show h.get? a = some _ from x)
  | met f y => exact Heap.lt_size (show h.get? a = some _ from x)
  | ext φ => obtain ⟨_, ⟨_, e⟩, _⟩ := x; exact Heap.lt_size e
theorem Paired.mapP {α β : Type} {F G : α → β → Prop} : ∀ {l₁ : List α} {l₂ : List β}, Paired F l₁ l₂ → (∀ a b, F a b → G a b) → Paired G l₁ l₂
  | _, _, .nil, _ => .nil
  | _, _, .cons r t, f => .cons (f _ _ r) (Paired.mapP t f)
theorem ObjOk.stay (x : ObjOk P w H h a o) (k : ∀ b u, (b = a ∨ H b = some (.own a)) → h.get? b = some u → h'.get? b = some u)
    (ho : ∀ b, H b = some (.own a) → H' b = some (.own a)) (ht : ∀ b xs, H b = some (.tup xs) → H' b = some (.tup xs)) : ObjOk P w H' h' a o := by
  induction o with
  | lst xs => obtain ⟨z, its, n, r, e⟩ := x; exact ⟨z, its, n, r, k _ _ (.inl rfl) e⟩
  | tup xs => obtain ⟨z, its, r, ob, e, c⟩ := x; exact ⟨z, its, r, ob, k _ _ (.inl rfl) e, c⟩
  | dK kvs => obtain ⟨z, y, vs, r, ob, es, ep, e, c⟩ := x; exact ⟨z, y, vs, r, ob, es, ep, k _ _ (.inl rfl) e, c⟩
  | dT kvs =>
    obtain ⟨z, y, xs, r, ob, es, ep, e, c⟩ := x
    exact ⟨z, y, xs, Paired.mapP r fun p q z => ⟨z.1, ht _ _ z.2.1, z.2.2⟩, ob, es, ep, k _ _ (.inl rfl) e, c⟩
  | set S n => obtain ⟨ob, es, ep, t, e, c⟩ := x; exact ⟨ob, es, ep, t, k _ _ (.inl rfl) e, c⟩
  | ins C dx fs =>
    obtain ⟨d, z, ne, e, mA, ⟨od, es, ep, e2, c⟩, r⟩ := x
    exact ⟨ho _ d, z, ne, k _ _ (.inl rfl) e, mA, ⟨od, es, ep, k _ _ (.inr d) e2, c⟩, r⟩
  | own y => obtain ⟨ob, e⟩ := x; exact ⟨ob, k _ _ (.inl rfl) e⟩
  | xd fs => obtain ⟨mA, ⟨od, es, ep, e, c⟩, r⟩ := x; exact ⟨mA, ⟨od, es, ep, k _ _ (.inl rfl) e, c⟩, r⟩
  | rng lo hi => obtain ⟨t, u, v, e⟩ := x; exact ⟨t, u, v, k _ _ (.inl rfl) e⟩
  | frz ob u ih => obtain ⟨e, q⟩ := x; exact ⟨k _ _ (.inl rfl) e, ih q⟩
  | tbl ps =>
    have e : h.get? a = some { cls := .none, data := .fields ps } := x
    show h'.get? a = some { cls := .none, data := .fields ps }
    exact k a _ (.inl rfl) e
  | met f y =>
    have e : h.get? a = some (PySem.W.methodObj (.ref f) (.ref y)) := x
    show h'.get? a = some (PySem.W.methodObj (.ref f) (.ref y))
    exact k a _ (.inl rfl) e
  | ext φ => obtain ⟨p, ⟨o, e⟩, st⟩ := x; exact ⟨st _ _ p fun o q => k _ _ (.inl rfl) q, ⟨o, k _ _ (.inl rfl) e⟩, st⟩
theorem HOk.lt (x : HOk P w H h) (e : H a = some o) : a < h.objs.size := (x a o e).lt
theorem HOk.fresh (x : HOk P w H h) (e : h.objs.size ≤ a) : H a = none := by
  cases q : H a with
  | none => rfl
  | some u => exact absurd (Nat.lt_of_lt_of_le (x.lt q) e) (Nat.lt_irrefl _)
theorem HOk.kept (x : HOk P w H h) (k : ∀ b u, h.get? b = some u → h'.get? b = some u) : HOk P w H h' := fun a o e =>
  (x a o e).stay (fun b u _ q => k b u q) (fun _ q => q) fun _ _ q => q
theorem HOk.laid (x : HOk P w H h) (k : ∀ b u, h.get? b = some u → h'.get? b = some u) (hp : h.objs.size ≤ a) (new : ObjOk P w (upd H a o) h' a o) : HOk P w (upd H a o) h' := fun b u e => by
  have hn := x.fresh hp
  by_cases hb : b = a
  · subst hb; rw [upd_same] at e; cases e; exact new
  · rw [upd_ne hb] at e
    exact (x b u e).stay (fun c v _ q => k c v q) (fun c q => by rw [upd_ne (ne_of_none q hn)]; exact q) fun c xs q => by rw [upd_ne (ne_of_none q hn)]; exact q
end

noncomputable def Rd (H : Hp) (a : Addr) (u : HO) : Prop := H a = some u ∨ ∃ o, H a = some (.frz o u)
theorem Rd.ok {P : Program} {w : World} {H : Hp} {h : Heap} {a : Addr} {u : HO} (r : Rd H a u) (x : HOk P w H h) : ObjOk P w H h a u := by
  rcases r with r | ⟨o, r⟩
  · exact x a u r
  · obtain ⟨_, q⟩ := x a _ r
    exact q
noncomputable def Mut : Option HO → Prop
  | some (.lst _) => True
  | some (.dK _) => True
  | some (.dT _) => True
  | some (.set _ _) => True
  | some (.ins _ _ _) => True
  | some (.ext _) => True
  | _ => False
section
variable {P : Program} {w : World} {H : Hp} {h h' : Heap} {x e : Addr} {o' : HO}
theorem HOk.write (ok : HOk P w H h) (mu : Mut (H x)) (he : e = x ∨ H e = some (.own x)) (k : ∀ b u, b ≠ e → h.get? b = some u → h'.get? b = some u) (heo : ∃ u, h'.get? e = some u)
    (new : ObjOk P w (upd H x o') h' x o') : HOk P w (upd H x o') h' := fun b u q => by
  have nown : ∀ c y, H c = some (.own y) → c ≠ x := fun c y r z => by subst z; rw [r] at mu; exact mu
  have ntup : ∀ c xs, H c = some (.tup xs) → c ≠ x := fun c xs r z => by subst z; rw [r] at mu; exact mu
  by_cases hb : b = x
  · subst hb; rw [upd_same] at q; cases q; exact new
  · rw [upd_ne hb] at q
    by_cases hbe : b = e
    · have q' : H b = some (.own x) := by
        rcases he with z | z
        · exact absurd (hbe.trans z) hb
        · rw [hbe]; exact z
      rw [q] at q'; cases q'
      obtain ⟨v, hv⟩ := heo
      exact ⟨v, by rw [hbe]; exact hv⟩
    · refine (ok b u q).stay (fun c v hc r => k c v ?_ r) (fun c r => by rw [upd_ne (nown c b r)]; exact r) fun c xs r => by rw [upd_ne (ntup c xs r)]; exact r
      rcases hc with rfl | hc
      · exact hbe
      · rintro rfl
        rcases he with z | z
        · exact nown c b hc z
        · rw [hc] at z; cases z; exact hb rfl
end

structure Un (fs ex : List Addr) (H H' : Hp) (h h' : Heap) : Prop where
  keep : ∀ b o, h.get? b = some o → H b = none → b ∉ fs → b ∉ ex → h'.get? b = some o
  slot : ∀ b o, h.get? b = some o → H b = none → b ∈ fs → b ∉ ex → ∃ sl, h'.get? b = some { o with slots := sl }
  free : ∀ b o, h.get? b = some o → H b = none → b ∉ ex → H' b = none
  there : ∀ b o, h.get? b = some o → b ∉ ex → ∃ o', h'.get? b = some o'
  tups : ∀ b xs, H b = some (.tup xs) → H' b = some (.tup xs)
  frzs : ∀ b o u, H b = some (.frz o u) → H' b = some (.frz o u)
  tbls : ∀ b ps, H b = some (.tbl ps) → ∃ more, H' b = some (.tbl (ps ++ more))
section
variable {fs fs' ex ex' : List Addr} {H H1 H2 : Hp} {h h1 h2 h' : Heap} {a x e : Addr} {o : HO}
theorem Un.any (u : Un fs ex H H1 h h1) {b : Addr} {ob : Obj} (q : h.get? b = some ob) (n : H b = none) (hx : b ∉ ex) : ∃ sl, h1.get? b = some { ob with slots := sl } := by
  by_cases hb : b ∈ fs
  · exact u.slot b ob q n hb hx
  · exact ⟨ob.slots, u.keep b ob q n hb hx⟩
theorem Un.trans (a : Un fs ex H H1 h h1) (b : Un fs ex H1 H2 h1 h2) : Un fs ex H H2 h h2 where
  keep := fun c ob q n hc hx => b.keep c ob (a.keep c ob q n hc hx) (a.free c ob q n hx) hc hx
  slot := fun c ob q n hc hx => by
    obtain ⟨sl, e1⟩ := a.slot c ob q n hc hx
    obtain ⟨sl', e2⟩ := b.slot c _ e1 (a.free c ob q n hx) hc hx
    exact ⟨sl', e2⟩
  free := fun c ob q n hx => by
    obtain ⟨o', e1⟩ := a.there c ob q hx
    exact b.free c o' e1 (a.free c ob q n hx) hx
  there := fun c ob q hx => by
    obtain ⟨o', e1⟩ := a.there c ob q hx
    exact b.there c o' e1 hx
  tups := fun c xs q => b.tups c xs (a.tups c xs q)
  frzs := fun c ob xs q => b.frzs c ob xs (a.frzs c ob xs q)
  tbls := fun c ps q => by
    obtain ⟨m1, e1⟩ := a.tbls c ps q
    obtain ⟨m2, e2⟩ := b.tbls c _ e1
    exact ⟨m1 ++ m2, by rw [e2, Array.append_assoc]⟩
theorem Un.kept (k : ∀ b u, h.get? b = some u → h'.get? b = some u) : Un fs ex H H h h' :=
  ⟨fun b ob q _ _ _ => k b ob q, fun b ob q _ _ _ => ⟨ob.slots, k b ob q⟩, fun _ _ _ n _ => n, fun b ob q _ => ⟨ob, k b ob q⟩, fun _ _ q => q, fun _ _ _ q => q, fun _ ps q => ⟨#[], by rw [q]; simp⟩⟩
theorem Un.refl : Un fs ex H H h h := Un.kept fun _ _ q => q
theorem Un.laid (k : ∀ b u, h.get? b = some u → h'.get? b = some u) (hp : h.objs.size ≤ a) (hn : H a = none) : Un fs ex H (upd H a o) h h' where
  keep := fun b u q _ _ _ => k b u q
  slot := fun b u q _ _ _ => ⟨u.slots, k b u q⟩
  free := fun b u q n _ => by rw [upd_ne (Nat.ne_of_lt (Nat.lt_of_lt_of_le (Heap.lt_size q) hp))]; exact n
  there := fun b u q _ => ⟨u, k b u q⟩
  tups := fun b xs q => by rw [upd_ne (ne_of_none q hn)]; exact q
  frzs := fun b u xs q => by rw [upd_ne (ne_of_none q hn)]; exact q
  tbls := fun b ps q => ⟨#[], by rw [upd_ne (ne_of_none q hn), q]; simp⟩
theorem Un.write (mu : Mut (H x)) (he : e = x ∨ H e = some (.own x)) (k : ∀ b u, b ≠ e → h.get? b = some u → h'.get? b = some u) (heo : ∃ u, h'.get? e = some u) : Un fs ex H (upd H x o) h h' := by
  have hx : ∀ b, H b = none → b ≠ x := fun b n z => by subst z; rw [n] at mu; exact mu
  have hb : ∀ b, H b = none → b ≠ e := fun b n z => by
    subst z
    rcases he with r | r
    · exact hx b n r
    · rw [n] at r; cases r
  have hm : ∀ b u, H b = some u → ¬ Mut (some u) → b ≠ x := fun b u q nm z => by subst z; rw [q] at mu; exact nm mu
  refine ⟨fun b u q n _ _ => k b u (hb b n) q, fun b u q n _ _ => ⟨u.slots, k b u (hb b n) q⟩, fun b u q n _ => by rw [upd_ne (hx b n)]; exact n, fun b u q _ => ?_,
    fun b xs q => by rw [upd_ne (hm b _ q fun z => z)]; exact q, fun b u xs q => by rw [upd_ne (hm b _ q fun z => z)]; exact q, fun b ps q => ⟨#[], by rw [upd_ne (hm b _ q fun z => z), q]; simp⟩⟩
  by_cases hbe : b = e
  · subst hbe; exact heo
  · exact ⟨u, k b u hbe q⟩
end

noncomputable def trk (h : Heap) (H : Hp) : List Addr := (List.range h.objs.size).filter fun a => (H a).isSome
noncomputable def hidT (h : Heap) (H : Hp) : Heap := PySem.W.hideAll h (trk h H)
theorem hidT_size (h : Heap) (H : Hp) : (hidT h H).objs.size = h.objs.size := PySem.W.hideAll_size _ _
theorem hidT_get {h : Heap} {H : Hp} {b : Addr} {o : Obj} (e : h.get? b = some o) (n : H b = none) : (hidT h H).get? b = some o :=
  PySem.W.hideAll_get _ e fun hm => by
    have q : (H b).isSome = true := (List.mem_filter.mp hm).2
    rw [n] at q; simp at q
theorem of_hidT {h : Heap} {H : Hp} {b : Addr} {o : Obj} (e : (hidT h H).get? b = some o) : h.get? b = some o ∧ H b = none := by
  have e' : h.get? b = some o := PySem.W.of_hideAll (trk h H) e
  refine ⟨e', ?_⟩
  cases q : H b with
  | none => rfl
  | some x =>
    have hm : b ∈ trk h H := List.mem_filter.mpr ⟨List.mem_range.mpr (Heap.lt_size e'), by simp [q]⟩
    have z : (hidT h H).get? b = none := PySem.W.hideAll_none (trk h H) hm
    rw [z] at e; cases e

noncomputable def allNews (g h : Heap) (L : Addr) : List (Addr × Obj) := (List.range h.objs.size).filterMap fun a => if a = L ∨ (g.get? a).isSome = true then none else (h.get? a).map fun o => (a, o)
noncomputable def rest (g h : Heap) (L d : Addr) : List (Addr × Obj) := (allNews g h L).filter fun p => decide (p.1 ≠ d)
end L2

namespace L2
open PySem PySem.Spec PyProof.Rows

structure Mod (K : PySem.W.Frag) (mg : Str → Option Value) (base : Heap) : Prop where
  kin : K.In base
  glob : base.Ns mainGlobals mg
  blt : ∃ mb, base.Ns builtinsNs mb ∧ ∀ x : Str, x ≠ "__name__" → mb x = bootBuiltins x
  nolimit : base.NoLimit

structure Cx where
  prog : Program
  w : World
  K : PySem.W.Frag
  mg : Str → Option Value
  base : Heap
  A : Around
  N : List Str
  s₀ : Shared
  H₀ : Hp
  env : Env
  outer : List Env
  stack : List Env
  ex : List Addr
  fn : Str → Bool
  calm : Bool
  pn : List (Addr × Obj)
  xe : Value → Shared → Prop
noncomputable def frs (l : List Env) : List Addr := l.filterMap (·.frame)
noncomputable abbrev Cx.fs (X : Cx) : List Addr := frs X.outer

noncomputable def Vis (sc : Scope) (x : Str) : Prop := sc.names.lookup x = some .local ∨ sc.names.lookup x = some .cell ∨ sc.names.lookup x = some .free
noncomputable def Loc (sc : Scope) (x : Str) : Prop := sc.names.lookup x = some .local ∨ sc.names.lookup x = some .cell
noncomputable def Look (env : Env) (h : Heap) (m : Str → Option Value) (x : Str) (u : Value) : Prop :=
  (env.kindOf x = some .local ∧ m x = some u) ∨ ((env.kindOf x = some .cell ∨ env.kindOf x = some .free) ∧ ∃ c, env.cells.lookup x = some c ∧ h.IsCell c (some u))

structure Cx.Ok (X : Cx) : Prop where
  mod : Mod X.K X.mg X.base
  kind : X.env.scope.kind = .function
  glob : X.env.globals = mainGlobals
  blt : X.env.builtins = builtinsNs
  above : X.s₀.heap.objs.size ≤ X.env.locals
  inj : ∀ x y c, X.env.cells.lookup x = some c → X.env.cells.lookup y = some c → x = y
  has : ∀ x, (X.env.kindOf x = some .cell ∨ X.env.kindOf x = some .free) → ∃ c, X.env.cells.lookup x = some c
  cab : ∀ x c, X.fn x = true → X.env.cells.lookup x = some c → X.s₀.heap.objs.size ≤ c
  hd : X.calm = true → X.A.handled = none
  frames : X.A.frames = some X.stack
  stk : X.stack = X.outer ∨ (X.stack = X.env :: X.outer ∧ X.env.frame = some X.env.locals)
  exf : ∀ b ∈ X.ex, b ≠ X.env.locals ∧ ∀ x c, X.env.cells.lookup x = some c → c ≠ b
  bs : ∀ b o, X.base.get? b = some o → X.s₀.heap.get? b = some o ∧ X.H₀ b = none
  bsz : X.base.objs.size ≤ X.s₀.heap.objs.size
  noex : ∀ b o, X.base.get? b = some o → b ∉ X.ex
  exfs : ∀ b ∈ X.ex, b ∉ X.fs
  funs : X.s₀.heap.FunFrames X.base X.outer
  frf : ∀ b ∈ X.fs, X.H₀ b = none

structure Inv (X : Cx) (pins : List (Addr × Obj)) (σ : List (Option V)) (H : Hp) (s : Shared) : Prop where
  ok : X.Ok
  os : s.os = X.s₀.os
  bare : AllBare s.gens
  base : Un X.fs X.ex X.H₀ H X.s₀.heap s.heap
  loc : ∃ m, s.heap.Ns X.env.locals m ∧ ∀ (i : Nat) (x : Str) (v : V), X.N[i]? = some x → σ[i]? = some (some v) → Vis X.env.scope x → ∃ u, RelV v u ∧ Look X.env s.heap m x u
  cell : ∀ x c, X.env.cells.lookup x = some c → ∃ v, s.heap.IsCell c v
  free : H X.env.locals = none
  freeC : ∀ x c, X.env.cells.lookup x = some c → H c = none
  pin : ∀ p ∈ X.pn ++ pins, s.heap.get? p.1 = some p.2 ∧ H p.1 = none ∧ p.1 ≠ X.env.locals ∧ p.1 ∉ X.fs ∧ ∀ v, p.2.data ≠ .cell v
  hok : HOk X.prog X.w H s.heap
  len : σ.length = X.N.length

section
variable {X : Cx} {pins : List (Addr × Obj)} {σ : List (Option V)} {H H' : Hp} {s : Shared} {h' : Heap}

theorem Cx.Ok.nofr (ok : X.Ok) {b : Addr} {o : Obj} (e : X.base.get? b = some o) : b ∉ X.fs := fun hb => by
  have := (ok.funs.mem hb).1
  rw [e] at this; cases this
theorem Inv.bs (I : Inv X pins σ H s) : ∀ b o, X.base.get? b = some o → s.heap.get? b = some o ∧ H b = none := fun b o e =>
  ⟨I.base.keep b o (I.ok.bs b o e).1 (I.ok.bs b o e).2 (I.ok.nofr e) (I.ok.noex b o e), I.base.free b o (I.ok.bs b o e).1 (I.ok.bs b o e).2 (I.ok.noex b o e)⟩
theorem Inv.bk (I : Inv X pins σ H s) : ∀ b o, X.base.get? b = some o → s.heap.get? b = some o := fun b o e => (I.bs b o e).1
theorem Inv.mod (I : Inv X pins σ H s) : Mod X.K X.mg X.base := I.ok.mod
theorem Inv.kIn (I : Inv X pins σ H s) : X.K.In s.heap := I.ok.mod.kin.keeps I.bk
theorem Inv.lt (I : Inv X pins σ H s) : X.env.locals < s.heap.objs.size := let ⟨_, hn, _⟩ := I.loc; hn.lt
theorem Inv.sz (I : Inv X pins σ H s) : X.s₀.heap.objs.size ≤ s.heap.objs.size := Nat.le_trans I.ok.above (Nat.le_of_lt I.lt)
theorem Inv.nofs (I : Inv X pins σ H s) {a : Addr} (h : s.heap.objs.size ≤ a) : a ∉ X.fs := fun hb => by
  obtain ⟨_, o, ho, _⟩ := I.ok.funs.mem hb
  exact absurd (Nat.lt_of_lt_of_le (Heap.lt_size ho) (Nat.le_trans I.sz h)) (Nat.lt_irrefl _)
theorem Inv.cne (I : Inv X pins σ H s) : ∀ x c, X.env.cells.lookup x = some c → c ≠ X.env.locals := fun x c e z => by
  obtain ⟨v, o, ho, hd⟩ := I.cell x c e
  obtain ⟨m, ⟨o', es, ep, ho', hd', _⟩, _⟩ := I.loc
  rw [z, ho'] at ho; cases ho; rw [hd'] at hd; cases hd
theorem Inv.funs (I : Inv X pins σ H s) : s.heap.FunFrames X.base X.outer := by
  have all : ∀ (l : List Env), (∀ b ∈ frs l, b ∈ X.fs) → X.s₀.heap.FunFrames X.base l → s.heap.FunFrames X.base l := by
    intro l
    induction l with
    | nil => intro _ _; trivial
    | cons env r ih =>
      intro hs hl
      obtain ⟨hk, ⟨L, o, hf, hn, ho, hd⟩, hr⟩ := hl
      have hL : L ∈ X.fs := hs L (by unfold frs; rw [List.filterMap_cons, hf]; exact List.mem_cons_self)
      obtain ⟨sl, e⟩ := I.base.slot L o ho (I.ok.frf L hL) hL fun z => I.ok.exfs L z hL
      exact ⟨hk, ⟨L, _, hf, hn, e, hd⟩, ih (fun b hb => hs b (by unfold frs; rw [List.filterMap_cons, hf]; exact List.mem_cons_of_mem _ hb)) hr⟩
  exact all X.outer (fun _ hb => hb) I.ok.funs

theorem Inv.stack (I : Inv X pins σ H s) : s.heap.FunFrames X.base X.stack := by
  rcases I.ok.stk with e | ⟨e, hf⟩
  · rw [e]; exact I.funs
  · rw [e]
    obtain ⟨m, hn, _⟩ := I.loc
    refine .cons (by rw [I.ok.kind]; decide) hf hn ?_ I.funs
    exact Heap.get?_none_of_le (Nat.le_trans I.ok.bsz I.ok.above)
theorem Inv.stkSub (I : Inv X pins σ H s) : ∀ b ∈ frs X.stack, b ∈ X.env.locals :: X.fs := fun b hb => by
  rcases I.ok.stk with e | ⟨e, hf⟩
  · rw [e] at hb; exact List.mem_cons_of_mem _ hb
  · rw [e] at hb
    unfold frs at hb
    rw [List.filterMap_cons, hf] at hb
    exact hb
theorem Inv.stkFree (I : Inv X pins σ H s) : ∀ b ∈ frs X.stack, H b = none := fun b hb => by
  rcases List.mem_cons.mp (I.stkSub b hb) with e | hb
  · rw [e]; exact I.free
  · obtain ⟨_, o, ho, _⟩ := I.ok.funs.mem hb
    exact I.base.free b o ho (I.ok.frf b hb) fun z => I.ok.exfs b z hb

theorem Inv.step {g' : Array GenState} {t' : Nat} {d' : Drawn} {ch : List Addr} (I : Inv X pins σ H s)
    (hch : ∀ b ∈ ch, (b ∈ X.ex ∨ X.s₀.heap.objs.size ≤ b) ∧ b ≠ X.env.locals ∧ (∀ x c, X.env.cells.lookup x = some c → c ≠ b) ∧ ∀ p ∈ X.pn ++ pins, p.1 ≠ b)
    (keep : ∀ b o, b ≠ X.env.locals → b ∉ X.fs → b ∉ ch → s.heap.get? b = some o → H b = none → h'.get? b = some o)
    (slot : ∀ b o, b ≠ X.env.locals → b ∈ X.fs → b ∉ ch → s.heap.get? b = some o → H b = none → ∃ sl, h'.get? b = some { o with slots := sl }) (free : ∀ b o, b ∉ ch → s.heap.get? b = some o → H b = none → H' b = none)
    (there : ∀ b o, b ∉ ch → s.heap.get? b = some o → ∃ o', h'.get? b = some o')
    (tups : ∀ b xs, H b = some (.tup xs) → H' b = some (.tup xs)) (frzs : ∀ b o u, H b = some (.frz o u) → H' b = some (.frz o u)) (tbls : ∀ b ps, H b = some (.tbl ps) → ∃ more, H' b = some (.tbl (ps ++ more)))
    (ns : ∀ m, s.heap.Ns X.env.locals m → h'.Ns X.env.locals m) (hok : HOk X.prog X.w H' h') (hg : AllBare g') :
    Inv X pins σ H' { s with heap := h', gens := g', drawn := d', toks := t' } := by
  have neL : ∀ b o, X.s₀.heap.get? b = some o → b ≠ X.env.locals := fun b o e => Nat.ne_of_lt (Nat.lt_of_lt_of_le (Heap.lt_size e) I.ok.above)
  have neC : ∀ b o, X.s₀.heap.get? b = some o → b ∉ X.ex → b ∉ ch := fun b o e hx hb => by
    rcases (hch b hb).1 with z | z
    · exact hx z
    · exact absurd (Nat.lt_of_lt_of_le (Heap.lt_size e) z) (Nat.lt_irrefl _)
  have cellK : ∀ x c, X.env.cells.lookup x = some c → ∀ v, s.heap.IsCell c v → h'.IsCell c v := fun x c e v ⟨o, ho, hd⟩ => by
    have nch : c ∉ ch := fun z => (hch c z).2.2.1 x c e rfl
    by_cases hc : c ∈ X.fs
    · obtain ⟨sl, q⟩ := slot c o (I.cne x c e) hc nch ho (I.freeC x c e)
      exact ⟨_, q, hd⟩
    · exact ⟨o, keep c o (I.cne x c e) hc nch ho (I.freeC x c e), hd⟩
  refine ⟨I.ok, I.os, hg, ⟨fun b o e n hb hx => ?_, fun b o e n hb hx => ?_, fun b o e n hx => ?_, fun b o e hx => ?_, fun b xs e => tups b xs (I.base.tups b xs e), fun b o xs e => frzs b o xs (I.base.frzs b o xs e), fun b ps e => ?_⟩, ?_, fun x c e => ?_, ?_, fun x c e => ?_, fun p hp => ?_, hok, I.len⟩
  · exact keep b o (neL b o e) hb (neC b o e hx) (I.base.keep b o e n hb hx) (I.base.free b o e n hx)
  · obtain ⟨sl, e1⟩ := I.base.slot b o e n hb hx
    obtain ⟨sl', e2⟩ := slot b _ (neL b o e) hb (neC b o e hx) e1 (I.base.free b o e n hx)
    exact ⟨sl', e2⟩
  · obtain ⟨o', e1⟩ := I.base.there b o e hx
    exact free b o' (neC b o e hx) e1 (I.base.free b o e n hx)
  · obtain ⟨o', e1⟩ := I.base.there b o e hx
    exact there b o' (neC b o e hx) e1
  · obtain ⟨m1, e1⟩ := I.base.tbls b ps e
    obtain ⟨m2, e2⟩ := tbls b _ e1
    exact ⟨m1 ++ m2, by rw [e2, Array.append_assoc]⟩
  · obtain ⟨m, hn, hl⟩ := I.loc
    refine ⟨m, ns m hn, fun i x v e1 e2 e3 => ?_⟩
    obtain ⟨u, r, l⟩ := hl i x v e1 e2 e3
    refine ⟨u, r, ?_⟩
    rcases l with l | ⟨k, c, e, z⟩
    · exact .inl l
    · exact .inr ⟨k, c, e, cellK x c e _ z⟩
  · obtain ⟨v, z⟩ := I.cell x c e
    exact ⟨v, cellK x c e v z⟩
  · obtain ⟨m, ⟨o, _, _, ho, _⟩, _⟩ := I.loc
    exact free _ o (fun z => (hch _ z).2.1 rfl) ho I.free
  · obtain ⟨v, o, ho, hd⟩ := I.cell x c e
    exact free c o (fun z => (hch c z).2.2.1 x c e rfl) ho (I.freeC x c e)
  · obtain ⟨e, n, ne, nf, d⟩ := I.pin p hp
    have nch : p.1 ∉ ch := fun z => (hch p.1 z).2.2.2 p hp rfl
    exact ⟨keep p.1 p.2 ne nf nch e n, free p.1 p.2 nch e n, ne, nf, d⟩
theorem Inv.un {t' : Nat} (I : Inv X pins σ H s) (u : Un X.fs [] H H' s.heap h') (hok : HOk X.prog X.w H' h') : Inv X pins σ H' { s with heap := h', toks := t' } := by
  obtain ⟨m, ⟨o, es, ep, ho, r⟩, _⟩ := id I.loc
  obtain ⟨sl, hL⟩ := u.any ho I.free (by simp)
  exact I.step (g' := s.gens) (d' := s.drawn) (ch := []) (fun _ z => nomatch z) (fun b o _ hb _ e n => u.keep b o e n hb (by simp)) (fun b o _ hb _ e n => u.slot b o e n hb (by simp)) (fun b o _ e n => u.free b o e n (by simp)) (fun b o _ e => u.there b o e (by simp)) u.tups u.frzs u.tbls (fun m' hm => by
    obtain ⟨o', es', ep', ho', r'⟩ := hm
    rw [ho] at ho'; cases ho'
    exact ⟨_, es', ep', hL, r'⟩) hok I.bare
theorem Inv.call {g' : Array GenState} {t' : Nat} {d' : Drawn} {ch : List Addr} (I : Inv X pins σ H s) (u : Un (frs X.stack) ch H H' s.heap h') (hok : HOk X.prog X.w H' h') (hg : AllBare g')
    (hch : ∀ b ∈ ch, (b ∈ X.ex ∨ X.s₀.heap.objs.size ≤ b) ∧ b ≠ X.env.locals ∧ (∀ x c, X.env.cells.lookup x = some c → c ≠ b) ∧ ∀ p ∈ X.pn ++ pins, p.1 ≠ b) :
    Inv X pins σ H' { s with heap := h', gens := g', drawn := d', toks := t' } := by
  obtain ⟨m, ⟨o, es, ep, ho, r⟩, _⟩ := id I.loc
  obtain ⟨sl, hL⟩ := u.any ho I.free fun z => (hch _ z).2.1 rfl
  exact I.step (ch := ch) hch (fun b o hL hb hc e n => u.keep b o e n (fun z => (List.mem_cons.mp (I.stkSub b z)).elim hL hb) hc) (fun b o _ _ hc e n => u.any e n hc) (fun b o hc e n => u.free b o e n hc) (fun b o hc e => u.there b o e hc) u.tups u.frzs u.tbls (fun m' hm => by
    obtain ⟨o', es', ep', ho', r'⟩ := hm
    rw [ho] at ho'; cases ho'
    exact ⟨_, es', ep', hL, r'⟩) hok hg
theorem Inv.turned {t' : Nat} {it : Addr} (I : Inv X pins σ H s) (k : ∀ b o, b ≠ it → s.heap.get? b = some o → h'.get? b = some o) (hn : H it = none) (hL : it ≠ X.env.locals)
    (h1 : it ∈ X.ex ∨ X.s₀.heap.objs.size ≤ it) (h2 : ∀ x c, X.env.cells.lookup x = some c → c ≠ it) (h3 : ∀ p ∈ X.pn ++ pins, p.1 ≠ it) : Inv X pins σ H { s with heap := h', toks := t' } := by
  have nit : ∀ b u, H b = some u → b ≠ it := fun b u e z => by rw [z, hn] at e; cases e
  refine I.step (g' := s.gens) (d' := s.drawn) (ch := [it]) (fun b hb => ?_) (fun b o _ _ hc e _ => k b o (fun z => hc (by simp [z])) e) (fun b o _ _ hc e _ => ⟨o.slots, k b o (fun z => hc (by simp [z])) e⟩) (fun _ _ _ _ n => n)
    (fun b o hc e => ⟨o, k b o (fun z => hc (by simp [z])) e⟩) (fun _ _ e => e) (fun _ _ _ e => e) (fun b ps e => ⟨#[], by rw [e]; simp⟩) (fun m hm => ?_) (fun b u e => ?_) I.bare
  · have e : b = it := by simpa using hb
    subst e
    exact ⟨h1, hL, h2, h3⟩
  · obtain ⟨o, es, ep, ho, r⟩ := hm
    exact ⟨o, es, ep, k _ o (Ne.symm hL) ho, r⟩
  · refine (I.hok b u e).stay (fun c v hc q => k c v ?_ q) (fun _ q => q) fun _ _ q => q
    rcases hc with z | z
    · rw [z]; exact nit b u e
    · exact nit c _ z
theorem Inv.tok (I : Inv X pins σ H s) (t : Nat) : Inv X pins σ H { s with toks := t } := I.un (h' := s.heap) (t' := t) Un.refl I.hok
theorem Inv.kept {t' : Nat} (I : Inv X pins σ H s) (k : ∀ b u, s.heap.get? b = some u → h'.get? b = some u) : Inv X pins σ H { s with heap := h', toks := t' } := I.un (Un.kept k) (I.hok.kept k)
theorem Inv.laid {a : Addr} {o : HO} {t' : Nat} (I : Inv X pins σ H s) (k : ∀ b u, s.heap.get? b = some u → h'.get? b = some u) (hp : s.heap.objs.size ≤ a) (new : ObjOk X.prog X.w (upd H a o) h' a o) :
    Inv X pins σ (upd H a o) { s with heap := h', toks := t' } := I.un (Un.laid k hp (I.hok.fresh hp)) (I.hok.laid k hp new)
theorem Inv.write {x e : Addr} {o : HO} {t' : Nat} (I : Inv X pins σ H s) (mu : Mut (H x)) (he : e = x ∨ H e = some (.own x)) (k : ∀ b u, b ≠ e → s.heap.get? b = some u → h'.get? b = some u) (heo : ∃ u, h'.get? e = some u)
    (new : ObjOk X.prog X.w (upd H x o) h' x o) : Inv X pins σ (upd H x o) { s with heap := h', toks := t' } := I.un (Un.write mu he k heo) (I.hok.write mu he k heo new)
theorem Inv.weak {σ' : List (Option V)} (I : Inv X pins σ H s) (hl : σ'.length = σ.length) (w : ∀ (i : Nat) v, σ'[i]? = some (some v) → σ[i]? = some (some v)) : Inv X pins σ' H s :=
  ⟨I.ok, I.os, I.bare, I.base, let ⟨m, hn, hl'⟩ := I.loc; ⟨m, hn, fun i x v e1 e2 e3 => hl' i x v e1 (w i v e2) e3⟩, I.cell, I.free, I.freeC, I.pin, I.hok, hl.trans I.len⟩
theorem Inv.pins_of {pins' : List (Addr × Obj)} (I : Inv X pins σ H s) (h : ∀ p ∈ pins', s.heap.get? p.1 = some p.2 ∧ H p.1 = none ∧ p.1 ≠ X.env.locals ∧ p.1 ∉ X.fs ∧ ∀ v, p.2.data ≠ .cell v) : Inv X pins' σ H s :=
  ⟨I.ok, I.os, I.bare, I.base, I.loc, I.cell, I.free, I.freeC, fun p hp => (List.mem_append.mp hp).elim (fun z => I.pin p (List.mem_append_left _ z)) (h p), I.hok, I.len⟩

theorem nodup_ix {N : List Str} (hN : N.Nodup) {i j : Nat} {x : Str} (a : N[i]? = some x) (b : N[j]? = some x) : i = j := by
  obtain ⟨h1, e1⟩ := List.getElem?_eq_some_iff.mp a
  obtain ⟨h2, e2⟩ := List.getElem?_eq_some_iff.mp b
  exact (List.getElem_inj hN).mp (e1.trans e2.symm)

theorem store_ok2 {M : Model} {A : Around} {E : Value → Shared → Prop} {i : Nat} {x : Str} {v : V} {u : Value} {Q : Unit → Shared → Prop} (I : Inv X pins σ H s) (hN : X.N.Nodup) (hi : X.N[i]? = some x) (hx : Loc X.env.scope x) (r : RelV v u)
    (h : ∀ s', Inv X pins (σ.set i (some v)) H s' → (∃ a, Heap.SameBut a s.heap s'.heap ∧ (a = X.env.locals ∨ X.env.cells.lookup x = some a)) → Q () s') (hf : X.fn x = true ∨ X.env.scope.names.lookup x = some .local := by first | exact .inl rfl | exact .inr rfl | assumption) : wpAny M A (storeName X.env x u) Q E s := by
  obtain ⟨m, hn, hl⟩ := id I.loc
  have hcls : (X.env.scope.kind == .class || (X.env.scope.kind == .module && X.env.locals != X.env.globals)) = false := by rw [I.ok.kind]; rfl
  have hiσ : i < σ.length := by rw [I.len]; exact (List.getElem?_eq_some_iff.mp hi).1
  have cne := I.cne
  have tracked : ∀ {a : Addr} {h' : Heap}, (∃ o, s.heap.get? a = some o ∧ H a = none) → Heap.SameBut a s.heap h' → HOk X.prog X.w H h' := fun {a h'} ha hs b ob e => by
    obtain ⟨_, _, hfree⟩ := ha
    refine (I.hok b ob e).stay (fun c w' hc q => (hs.2 c ?_).trans q) (fun _ q => q) fun _ _ q => q
    rintro rfl
    rcases hc with rfl | hc
    · rw [hfree] at e; cases e
    · rw [hfree] at hc; cases hc
  rcases hx with hk | hk
  · refine wpAny_storeName_local hk hn (fun h' hn' hs => ?_) hcls
    obtain ⟨oL, _, _, hoL, _⟩ := id hn
    refine h _ ⟨I.ok, I.os, I.bare, ⟨fun b o e n hb hx => ?_, fun b o e n hb hx => ?_, I.base.free, fun b o e hx => ?_, I.base.tups, I.base.frzs, I.base.tbls⟩, ⟨_, hn', fun j y v' e1 e2 e3 => ?_⟩, fun y c e => ?_, I.free, I.freeC, fun p hp => ?_, tracked ⟨oL, hoL, I.free⟩ hs, by simpa using I.len⟩ ⟨_, hs, .inl rfl⟩
    · exact (hs.2 b (Nat.ne_of_lt (Nat.lt_of_lt_of_le (Heap.lt_size e) I.ok.above))).trans (I.base.keep b o e n hb hx)
    · obtain ⟨sl, e1⟩ := I.base.slot b o e n hb hx
      exact ⟨sl, (hs.2 b (Nat.ne_of_lt (Nat.lt_of_lt_of_le (Heap.lt_size e) I.ok.above))).trans e1⟩
    · obtain ⟨o', e1⟩ := I.base.there b o e hx
      exact ⟨o', (hs.2 b (Nat.ne_of_lt (Nat.lt_of_lt_of_le (Heap.lt_size e) I.ok.above))).trans e1⟩
    · by_cases hj : j = i
      · subst hj
        rw [hi] at e1; cases e1
        rw [List.getElem?_set_self hiσ] at e2
        cases e2
        exact ⟨u, r, .inl ⟨hk, by simp⟩⟩
      · rw [List.getElem?_set_ne (Ne.symm hj)] at e2
        obtain ⟨u', r', q⟩ := hl j y v' e1 e2 e3
        refine ⟨u', r', ?_⟩
        rcases q with ⟨k, e⟩ | ⟨k, c, e, z⟩
        · refine .inl ⟨k, ?_⟩
          have : y ≠ x := fun e => hj (nodup_ix hN e1 (e ▸ hi))
          simp [this, e]
        · exact .inr ⟨k, c, e, z.sameBut hs (cne y c e)⟩
    · obtain ⟨w', z⟩ := I.cell y c e
      exact ⟨w', z.sameBut hs (cne y c e)⟩
    · obtain ⟨e, n, ne, nf, d⟩ := I.pin p hp
      exact ⟨(hs.2 p.1 ne).trans e, n, ne, nf, d⟩
  · have hfn : X.fn x = true := by
      rcases hf with z | z
      · exact z
      · rw [z] at hk; cases hk
    obtain ⟨c, hc⟩ := I.ok.has x (.inl hk)
    obtain ⟨w', z⟩ := I.cell x c hc
    refine wpAny_storeName_cell I.ok.kind hk hc z (fun h' hc' hs => ?_)
    obtain ⟨oc, hoc, hocd⟩ := id z
    refine h { s with heap := h' } ⟨I.ok, I.os, I.bare, ⟨fun b o e n hb hx => ?_, fun b o e n hb hx => ?_, I.base.free, fun b o e hx => ?_, I.base.tups, I.base.frzs, I.base.tbls⟩, ⟨m, hn.sameBut hs (Ne.symm (cne x c hc)), fun j y v' e1 e2 e3 => ?_⟩, fun y c' e => ?_, I.free, I.freeC, fun p hp => ?_, tracked ⟨oc, hoc, I.freeC x c hc⟩ hs, by simpa using I.len⟩ ⟨c, hs, .inr hc⟩
    · exact (hs.2 b (Nat.ne_of_lt (Nat.lt_of_lt_of_le (Heap.lt_size e) (I.ok.cab x c hfn hc)))).trans (I.base.keep b o e n hb hx)
    · obtain ⟨sl, e1⟩ := I.base.slot b o e n hb hx
      exact ⟨sl, (hs.2 b (Nat.ne_of_lt (Nat.lt_of_lt_of_le (Heap.lt_size e) (I.ok.cab x c hfn hc)))).trans e1⟩
    · obtain ⟨o', e1⟩ := I.base.there b o e hx
      exact ⟨o', (hs.2 b (Nat.ne_of_lt (Nat.lt_of_lt_of_le (Heap.lt_size e) (I.ok.cab x c hfn hc)))).trans e1⟩
    · by_cases hj : j = i
      · subst hj
        rw [hi] at e1; cases e1
        rw [List.getElem?_set_self hiσ] at e2
        cases e2
        exact ⟨u, r, .inr ⟨.inl hk, c, hc, hc'⟩⟩
      · rw [List.getElem?_set_ne (Ne.symm hj)] at e2
        obtain ⟨u', r', q⟩ := hl j y v' e1 e2 e3
        refine ⟨u', r', ?_⟩
        rcases q with q | ⟨k, c', e, z'⟩
        · exact .inl q
        · refine .inr ⟨k, c', e, z'.sameBut hs ?_⟩
          rintro rfl
          exact hj (nodup_ix hN e1 (I.ok.inj _ _ _ e hc ▸ hi))
    · by_cases hcc : c' = c
      · subst hcc; exact ⟨_, hc'⟩
      · obtain ⟨w2, z2⟩ := I.cell y c' e
        exact ⟨w2, z2.sameBut hs hcc⟩
    · obtain ⟨e, n, ne, nf, d⟩ := I.pin p hp
      refine ⟨(hs.2 p.1 ?_).trans e, n, ne, nf, d⟩
      intro q
      rw [q, hoc] at e
      have q' : oc = p.2 := Option.some.inj e
      exact d w' (by rw [← q']; exact hocd)
theorem store_ok {M : Model} {A : Around} {E : Value → Shared → Prop} {i : Nat} {x : Str} {v : V} {u : Value} {Q : Unit → Shared → Prop} (I : Inv X pins σ H s) (hN : X.N.Nodup) (hi : X.N[i]? = some x) (hx : Loc X.env.scope x) (r : RelV v u)
    (h : ∀ s', Inv X pins (σ.set i (some v)) H s' → Q () s') (hf : X.fn x = true ∨ X.env.scope.names.lookup x = some .local := by first | exact .inl rfl | exact .inr rfl | assumption) : wpAny M A (storeName X.env x u) Q E s :=
  store_ok2 I hN hi hx r (fun s' I' _ => h s' I') hf
theorem Inv.call' {s' : Shared} {ch : List Addr} (I : Inv X pins σ H s) (ho : s'.os = s.os) (u : Un (frs X.stack) ch H H' s.heap s'.heap) (hok : HOk X.prog X.w H' s'.heap) (hg : AllBare s'.gens)
    (hch : ∀ b ∈ ch, (b ∈ X.ex ∨ X.s₀.heap.objs.size ≤ b) ∧ b ≠ X.env.locals ∧ (∀ x c, X.env.cells.lookup x = some c → c ≠ b) ∧ ∀ p ∈ X.pn ++ pins, p.1 ≠ b) : Inv X pins σ H' s' := by
  obtain ⟨h', g', d', t', o'⟩ := s'
  have e : o' = s.os := ho
  subst e
  exact I.call (g' := g') (t' := t') (d' := d') u hok hg hch
end

noncomputable abbrev XK := Value → Option Addr → Hp → Prop
noncomputable abbrev St := List (Option V)
noncomputable abbrev VK := V → Hp → Prop
noncomputable abbrev TE := St → Hp → VK → Prop
noncomputable abbrev TT := St → Hp → (Bool → Hp → Prop) → Prop
noncomputable abbrev TA := St → Hp → (List V → Hp → Prop) → Prop
structure Ends where
  nx : St → Hp → Prop
  rt : VK
  bk : St → Hp → Prop := fun _ _ => False
  ct : St → Hp → Prop := fun _ _ => False
noncomputable abbrev TS := Ends → St → Hp → Prop

noncomputable def EP (X : Cx) (pins : List (Addr × Obj)) (σ : St) (Q : VK) (u : Value) (s' : Shared) : Prop := ∃ v H', Inv X pins σ H' s' ∧ RelV v u ∧ Q v H'
noncomputable def TP (X : Cx) (pins : List (Addr × Obj)) (σ : St) (Q : Bool → Hp → Prop) (b : Bool) (s' : Shared) : Prop := ∃ H', Inv X pins σ H' s' ∧ Q b H'
noncomputable def AP (X : Cx) (pins : List (Addr × Obj)) (σ : St) (Q : List V → Hp → Prop) (us : List Value) (s' : Shared) : Prop := ∃ vs H', Inv X pins σ H' s' ∧ Vals vs us ∧ Q vs H'
noncomputable def SP (X : Cx) (pins : List (Addr × Obj)) (D : Ends) (f : Flow) (s' : Shared) : Prop :=
  match f with
  | .next => ∃ σ' H', Inv X pins σ' H' s' ∧ D.nx σ' H'
  | .brk => ∃ σ' H', Inv X pins σ' H' s' ∧ D.bk σ' H'
  | .cont => ∃ σ' H', Inv X pins σ' H' s' ∧ D.ct σ' H'
  | .ret u => ∃ v σ' H', Inv X pins σ' H' s' ∧ RelV v u ∧ D.rt v H'

noncomputable def PE (X : Cx) (e : Expr) (t : TE) : Prop :=
  ∀ (pins : List (Addr × Obj)) (s : Shared) (σ : St) (H : Hp) (Q : VK), Inv X pins σ H s → t σ H Q → wpAny (model X.prog X.w) X.A (eval e X.env) (EP X pins σ Q) X.xe s
noncomputable def PT (X : Cx) (e : Expr) (t : TT) : Prop :=
  ∀ (pins : List (Addr × Obj)) (s : Shared) (σ : St) (H : Hp) (Q : Bool → Hp → Prop), Inv X pins σ H s → t σ H Q → wpAny (model X.prog X.w) X.A (isTrue e X.env (eval e X.env)) (TP X pins σ Q) X.xe s
noncomputable def PW (X : Cx) (e : Expr) (t : TT) : Prop :=
  ∀ (whole : Sem Value) (pins : List (Addr × Obj)) (s : Shared) (σ : St) (H : Hp) (Q : Bool → Hp → Prop), Inv X pins σ H s → t σ H Q → wpAny (model X.prog X.w) X.A (isTrue e X.env whole) (TP X pins σ Q) X.xe s
theorem PW.pt {X : Cx} {e : Expr} {t : TT} (h : PW X e t) : PT X e t := h _
noncomputable def PA (X : Cx) (es : List Expr) (t : TA) : Prop :=
  ∀ (pos : Pos) (pins : List (Addr × Obj)) (s : Shared) (σ : St) (H : Hp) (Q : List V → Hp → Prop), Inv X pins σ H s → t σ H Q → wpAny (model X.prog X.w) X.A (spliced (backTo pos (starEach es X.env))) (AP X pins σ Q) X.xe s
noncomputable def PS (X : Cx) (st : Stmt) (t : TS) : Prop :=
  ∀ (pins : List (Addr × Obj)) (s : Shared) (σ : St) (H : Hp) (D : Ends), Inv X pins σ H s → t D σ H → wpAny (model X.prog X.w) X.A (exec st X.env) (SP X pins D) X.xe s
noncomputable def PSs (X : Cx) (st : List Stmt) (t : TS) : Prop :=
  ∀ (pins : List (Addr × Obj)) (s : Shared) (σ : St) (H : Hp) (D : Ends), Inv X pins σ H s → t D σ H → wpAny (model X.prog X.w) X.A (execs st X.env) (SP X pins D) X.xe s
theorem thn {α : Type} {t : Sem α} {Q Q' : α → Shared → Prop} {M : Model} {A : Around} {E : Value → Shared → Prop} {s : Shared} (h : wpAny M A t Q E s) (hQ : ∀ a s, Q a s → Q' a s) : wpAny M A t Q' E s := wpAny_mono h hQ fun _ _ x => x
end L2

namespace L2
open PySem PySem.Spec PyProof.Rows
section
variable {X : Cx}

noncomputable def tVar (i : Nat) : TE := fun σ H Q => ∃ v, σ[i]? = some (some v) ∧ Q v H
noncomputable def tC (v : V) : TE := fun _ H Q => Q v H
theorem pe_var {i : Nat} {x : Str} {pos : Pos} (hN : X.N[i]? = some x) (hv : Vis X.env.scope x) (hd : (x == ("__debug__" : Str)) = false := by decide) (hcd : (x == ("__classdict__" : Str)) = false := by decide) : PE X (.Name x pos) (tVar i) := by
  intro pins s σ H Q I h
  obtain ⟨v, e, h⟩ := h
  obtain ⟨m, hn, hl⟩ := I.loc
  obtain ⟨u, r, l⟩ := hl i x v hN e hv
  have fin : EP X pins σ Q u s := ⟨v, H, I, r, h⟩
  rcases l with ⟨hk, hm⟩ | ⟨hk, c, hc, hcell⟩
  · exact wpAny_Name (wpAny_loadName_local I.ok.kind hk hn hm fin) hd
  · rcases hk with hk | hk
    · exact wpAny_Name (wpAny_loadName_cell I.ok.kind hk hc hcell fin) hd
    · exact wpAny_Name (wpAny_loadName_free I.ok.kind hk hc hcell fin hcd) hd
theorem pe_int {i j pos} : PE X (.Constant (.int i) j pos) (tC (.int i)) := fun _ _ _ H _ I h => wpAny_Constant_int ⟨.int i, H, I.tok _, ⟨_, rfl⟩, h⟩
theorem pe_bl {b j pos} : PE X (.Constant (.bool b) j pos) (tC (.bl b)) := fun _ _ _ H _ I h => Constant_bool ⟨.bl b, H, I, rfl, h⟩
theorem pe_non {j pos} : PE X (.Constant .none j pos) (tC .non) := fun _ _ _ H _ I h => Constant_none ⟨.non, H, I, rfl, h⟩
theorem pe_str {x j pos} : PE X (.Constant (.str x) j pos) (tC (.str x)) := fun _ _ _ H _ I h => Calls.Constant_str ⟨.str x, H, I.tok _, ⟨_, rfl⟩, h⟩

noncomputable def Gl (X : Cx) (x : Str) : Prop := X.env.kindOf x = some .globalImplicit
theorem ld_glob {E : Value → Shared → Prop} {pins : List (Addr × Obj)} {s : Shared} {σ : St} {H : Hp} {x : Str} {u : Value} {pos : Pos} {Q : Value → Shared → Prop} (I : Inv X pins σ H s) (hg : Gl X x) (hm : X.mg x = some u) (h : Q u s)
    (hd : (x == ("__debug__" : Str)) = false := by decide) : wpAny (model X.prog X.w) X.A (eval (.Name x pos) X.env) Q E s :=
  Calls.Name_function_global I.ok.kind hg (Calls.loadGlobal_global (by rw [I.ok.glob]; exact I.mod.glob.keeps I.bk) hm h) hd
theorem ld_blt {E : Value → Shared → Prop} {pins : List (Addr × Obj)} {s : Shared} {σ : St} {H : Hp} {x : Str} {u : Value} {pos : Pos} {Q : Value → Shared → Prop} (I : Inv X pins σ H s) (hg : Gl X x) (hm : X.mg x = none) (hv : bootBuiltins x = some u) (h : Q u s)
    (hn : x ≠ "__name__" := by decide) (hd : (x == ("__debug__" : Str)) = false := by decide) : wpAny (model X.prog X.w) X.A (eval (.Name x pos) X.env) Q E s := by
  obtain ⟨mb, h1, h2⟩ := I.mod.blt
  exact Calls.Name_function_global I.ok.kind hg (Calls.loadGlobal_builtin (by rw [I.ok.glob]; exact I.mod.glob.keeps I.bk) hm (by rw [I.ok.blt]; exact h1.keeps I.bk) ((h2 x hn).trans hv) h) hd
theorem pe_glob {x : Str} {v : V} {u : Value} {pos : Pos} (hg : Gl X x) (hm : X.mg x = some u) (r : RelV v u) (hd : (x == ("__debug__" : Str)) = false := by decide) : PE X (.Name x pos) (tC v) :=
  fun _ _ _ H _ I h => ld_glob I hg hm ⟨v, H, I, r, h⟩ hd
theorem pe_bltn {x : Str} {v : V} {u : Value} {pos : Pos} (hg : Gl X x) (hm : X.mg x = none) (hv : bootBuiltins x = some u) (r : RelV v u) (hn : x ≠ "__name__" := by decide) (hd : (x == ("__debug__" : Str)) = false := by decide) : PE X (.Name x pos) (tC v) :=
  fun _ _ _ H _ I h => ld_blt I hg hm hv ⟨v, H, I, r, h⟩ hn hd

variable {a b : Expr} {ta tb : TE} {pos : Pos}
noncomputable def PC (X : Cx) (op : CmpOp) (a b : Expr) (t : TE) : Prop :=
  ∀ (pins : List (Addr × Obj)) (s : Shared) (σ : St) (H : Hp) (Q : VK), Inv X pins σ H s → t σ H Q →
    wpAny (model X.prog X.w) X.A (eval a X.env) (fun v s₁ => wpAny (model X.prog X.w) X.A (eval b X.env) (fun u s₂ => wpAny (model X.prog X.w) X.A (compareOp op v u) (EP X pins σ Q) X.xe s₂) X.xe s₁) X.xe s
theorem nobehind (b : Expr) {op : CmpOp} (h : op ≠ .In) (h2 : op ≠ .NotIn) : behindInMarks op b = false := by
  have e1 : (op == CmpOp.In) = false := by cases op <;> first | rfl | exact absurd rfl h
  have e2 : (op == CmpOp.NotIn) = false := by cases op <;> first | rfl | exact absurd rfl h2
  cases b <;> simp [behindInMarks, e1, e2]
noncomputable def tB (t : TE) : TT := fun σ H Q => t σ H fun x H1 => ∃ c, x = .bl c ∧ Q c H1
theorem pe_cmp {op : CmpOp} {t : TE} (h : PC X op a b t) (h1 : behindInMarks op b = false := by first | exact nobehind _ (by decide) (by decide) | rfl) : PE X (.Compare a [op] [b] pos) t := fun pins s σ H Q I hw => wpAny_Compare1 (h pins s σ H Q I hw) h1
theorem pt_val {e : Expr} {t : TE} (h : PE X e t) (he : ∀ whole, isTrue e X.env whole = (do let v ← whole; standAt e.pos; holding [v] (truthy v)) := by intro _; rfl) : PT X e (tB t) := by
  intro pins s σ H Q I hw
  refine isTrue_plain (thn (h pins s σ H _ I hw) fun v s1 ⟨x, H1, I1, r1, q1⟩ => ?_) (he _)
  obtain ⟨d, rfl, q⟩ := q1
  cases r1
  exact wpAny_truthy_bool ⟨H1, I1, q⟩

variable {tA tB' : TT} {rest : List Expr}
noncomputable def tAnd (t u : TT) : TT := fun σ H Q => t σ H fun c H1 => if c = true then u σ H1 Q else Q false H1
noncomputable def tOr (t u : TT) : TT := fun σ H Q => t σ H fun c H1 => if c = true then Q true H1 else u σ H1 Q
noncomputable def tNot (t : TT) : TT := fun σ H Q => t σ H fun c H1 => Q (!c) H1
theorem pw_and1 (ha : PT X a tA) : PW X (.BoolOp .And [a] pos) tA := by
  intro wh pins s σ H Q I h
  refine isTrue_and (thn (ha pins s σ H Q I h) fun c s1 e => ?_)
  cases c with
  | true => exact isTrue_and_nil e
  | false => exact e
theorem pw_or1 (ha : PT X a tA) : PW X (.BoolOp .Or [a] pos) tA := by
  intro wh pins s σ H Q I h
  refine isTrue_or (thn (ha pins s σ H Q I h) fun c s1 e => ?_)
  cases c with
  | false => exact isTrue_or_nil e
  | true => exact e
theorem pw_and (ha : PT X a tA) (hb : PW X (.BoolOp .And (b :: rest) pos) tB') : PW X (.BoolOp .And (a :: b :: rest) pos) (tAnd tA tB') := by
  intro wh pins s σ H Q I h
  refine isTrue_and (thn (ha pins s σ H _ I h) fun c s1 ⟨H1, I1, q1⟩ => ?_)
  cases c with
  | true => exact hb wh pins s1 σ H1 Q I1 q1
  | false => exact ⟨H1, I1, q1⟩
theorem pw_or (ha : PT X a tA) (hb : PW X (.BoolOp .Or (b :: rest) pos) tB') : PW X (.BoolOp .Or (a :: b :: rest) pos) (tOr tA tB') := by
  intro wh pins s σ H Q I h
  refine isTrue_or (thn (ha pins s σ H _ I h) fun c s1 ⟨H1, I1, q1⟩ => ?_)
  cases c with
  | true => exact ⟨H1, I1, q1⟩
  | false => exact hb wh pins s1 σ H1 Q I1 q1
theorem pt_not (ha : PT X a tA) : PT X (.UnaryOp .Not a pos) (tNot tA) := by
  intro pins s σ H Q I h
  exact isTrue_not (ha pins s σ H (fun c H1 => Q (!c) H1) I h)
noncomputable def tAndV (ta tb : TE) : TE := fun σ H Q => ta σ H fun x H1 => ∃ c, x = .bl c ∧ if c = true then tb σ H1 Q else Q (.bl false) H1
noncomputable def tOrV (ta tb : TE) : TE := fun σ H Q => ta σ H fun x H1 => ∃ c, x = .bl c ∧ if c = true then Q (.bl true) H1 else tb σ H1 Q
noncomputable def tNotV (ta : TE) : TE := fun σ H Q => ta σ H fun x H1 => ∃ c, x = .bl c ∧ Q (.bl (!c)) H1
theorem pe_one {op} {t : TE} (h : PE X a t) : PE X (.BoolOp op [a] pos) t := fun pins s σ H Q I hw => BoolOp_one (h pins s σ H Q I hw)
theorem pe_and (ha : PE X a ta) (hb : PE X (.BoolOp .And (b :: rest) pos) tb) : PE X (.BoolOp .And (a :: b :: rest) pos) (tAndV ta tb) := by
  intro pins s σ H Q I h
  refine BoolOp_and (thn (ha pins s σ H _ I h) fun v s1 ⟨x, H1, I1, r1, q1⟩ => ?_)
  obtain ⟨c, rfl, q1⟩ := q1
  cases r1
  refine wpAny_truthy_bool ?_
  cases c with
  | true => exact hb pins s1 σ H1 Q I1 q1
  | false => exact ⟨.bl false, H1, I1, rfl, q1⟩
theorem pe_or (ha : PE X a ta) (hb : PE X (.BoolOp .Or (b :: rest) pos) tb) : PE X (.BoolOp .Or (a :: b :: rest) pos) (tOrV ta tb) := by
  intro pins s σ H Q I h
  refine BoolOp_or (thn (ha pins s σ H _ I h) fun v s1 ⟨x, H1, I1, r1, q1⟩ => ?_)
  obtain ⟨c, rfl, q1⟩ := q1
  cases r1
  refine wpAny_truthy_bool ?_
  cases c with
  | false => exact hb pins s1 σ H1 Q I1 q1
  | true => exact ⟨.bl true, H1, I1, rfl, q1⟩
theorem pe_not (ha : PE X a ta) : PE X (.UnaryOp .Not a pos) (tNotV ta) := by
  intro pins s σ H Q I h
  refine UnaryOp_ (thn (ha pins s σ H _ I h) fun v s1 ⟨x, H1, I1, r1, q1⟩ => ?_)
  obtain ⟨c, rfl, q1⟩ := q1
  cases r1
  exact not_of (wpAny_truthy_bool ⟨.bl (!c), H1, I1, rfl, q1⟩)
noncomputable def tIf (t : TT) (ta tb : TE) : TE := fun σ H Q => t σ H fun c H1 => if c = true then ta σ H1 Q else tb σ H1 Q
theorem pe_ifExp {c : Expr} (hc : PT X c tA) (ha : PE X a ta) (hb : PE X b tb) : PE X (.IfExp c a b pos) (tIf tA ta tb) := by
  intro pins s σ H Q I h
  refine wpAny_IfExp (thn (hc pins s σ H _ I h) fun d s1 ⟨H1, I1, q1⟩ => ?_)
  cases d with
  | true => exact ha pins s1 σ H1 Q I1 q1
  | false => exact hb pins s1 σ H1 Q I1 q1
end
end L2

namespace L2
open PySem PySem.Spec PyProof.Rows

noncomputable def SqL (K : PySem.W.Frag) (H : Hp) (a : Addr) (xs : List V) : Prop :=
  Rd H a (.lst xs) ∨
    ∃ (o : Obj) (its : Array Value) (n : Nat), K.lookup a = some o ∧ o.cls = .type "list" ∧ o.dict = none ∧ o.data = .seq its n ∧ its.size ≤ sizeLine ∧ Vals xs its.toList
noncomputable def SqT (K : PySem.W.Frag) (H : Hp) (a : Addr) (xs : List V) : Prop :=
  Rd H a (.tup xs) ∨
    ∃ (o : Obj) (its : Array Value) (n : Nat), K.lookup a = some o ∧ o.cls = .type "tuple" ∧ o.data = .seq its n ∧ its.size ≤ sizeLine ∧ Vals xs its.toList
noncomputable def absV : Value → Option V
  | .none => some .non
  | .bool b => some (.bl b)
  | .int i _ => some (.int i)
  | .str x _ => some (.str x)
  | .bytes b _ => some (.byt b)
  | .float b _ => some (.flt b)
  | .ref a => some (.ref a)
  | .type n => some (.ty n)
  | _ => none
theorem RelV.abs {x : V} {u : Value} (r : RelV x u) : absV u = some x := by
  cases x with
  | non => cases r; rfl
  | bl _ => cases r; rfl
  | int _ => obtain ⟨t, rfl⟩ := r; rfl
  | str _ => obtain ⟨t, rfl⟩ := r; rfl
  | byt _ => obtain ⟨t, rfl⟩ := r; rfl
  | flt _ => obtain ⟨t, rfl⟩ := r; rfl
  | ref _ => cases r; rfl
  | ty _ => cases r; rfl
theorem RelV.inj {x y : V} {u : Value} (r : RelV x u) (q : RelV y u) : x = y := Option.some.inj (r.abs.symm.trans q.abs)
theorem Vals.inj : ∀ {xs ys : List V} {us : List Value}, Vals xs us → Vals ys us → xs = ys
  | _, _, _, .nil, .nil => rfl
  | _, _, _, .cons r t, .cons r' t' => by rw [r.inj r', Vals.inj t t']
section
variable {X : Cx} {pins : List (Addr × Obj)} {σ : St} {H : Hp} {s : Shared} {a : Addr} {xs ys : List V}
theorem SqL.of {K : PySem.W.Frag} (h : H a = some (.lst xs)) : SqL K H a xs := .inl (.inl h)
theorem SqT.of {K : PySem.W.Frag} (h : H a = some (.tup xs)) : SqT K H a xs := .inl (.inl h)
theorem Inv.list (I : Inv X pins σ H s) (h : SqL X.K H a xs) : ∃ its : List Value, Vals xs its ∧ PlainL s.heap a its.toArray ∧ xs.length ≤ sizeLine := by
  rcases h with h | ⟨o, its, n, hk, hc, hd, hs, hz, r⟩
  · obtain ⟨z, its, n, r, e⟩ := h.ok I.hok
    exact ⟨its, r, ⟨_, n, e, rfl, rfl, rfl⟩, z⟩
  · refine ⟨its.toList, r, ⟨o, n, I.kIn a o hk, hc, hd, by simpa using hs⟩, ?_⟩
    have e := r.length
    simp only [Array.length_toList] at e
    omega
theorem Inv.tuple (I : Inv X pins σ H s) (h : SqT X.K H a xs) : ∃ its : List Value, Vals xs its ∧ IsTup s.heap a its.toArray ∧ xs.length ≤ sizeLine := by
  rcases h with h | ⟨o, its, n, hk, hc, hs, hz, r⟩
  · obtain ⟨z, its, r, p⟩ := h.ok I.hok
    exact ⟨its, r, p, z⟩
  · refine ⟨its.toList, r, ⟨o, I.kIn a o hk, hc, n, by simpa using hs⟩, ?_⟩
    have e := r.length
    simp only [Array.length_toList] at e
    omega
theorem Inv.list_inj (I : Inv X pins σ H s) (h : SqL X.K H a xs) (h' : SqL X.K H a ys) : xs = ys := by
  obtain ⟨its, r, ⟨o, n, e, _, _, d⟩, _⟩ := I.list h
  obtain ⟨its', r', ⟨o', n', e', _, _, d'⟩, _⟩ := I.list h'
  rw [e] at e'; cases e'
  rw [d] at d'
  injection d' with d1 _
  have : its = its' := by simpa using congrArg Array.toList d1
  subst this
  exact r.inj r'
theorem Inv.tuple_inj (I : Inv X pins σ H s) (h : SqT X.K H a xs) (h' : SqT X.K H a ys) : xs = ys := by
  obtain ⟨its, r, ⟨o, e, _, n, d⟩, _⟩ := I.tuple h
  obtain ⟨its', r', ⟨o', e', _, n', d'⟩, _⟩ := I.tuple h'
  rw [e] at e'; cases e'
  rw [d] at d'
  injection d' with d1 _
  have : its = its' := by simpa using congrArg Array.toList d1
  subst this
  exact r.inj r'
end

noncomputable abbrev Cx.wish (X : Cx) (E : Value → Shared → Prop) : Cx := { X with xe := E }
noncomputable abbrev Cx.nox (X : Cx) : Cx := X.wish fun _ _ => False
theorem Cx.Ok.wish {X : Cx} (ok : X.Ok) (E : Value → Shared → Prop) : (X.wish E).Ok :=
  ⟨ok.mod, ok.kind, ok.glob, ok.blt, ok.above, ok.inj, ok.has, ok.cab, ok.hd, ok.frames, ok.stk, ok.exf, ok.bs, ok.bsz, ok.noex, ok.exfs, ok.funs, ok.frf⟩
theorem Cx.Ok.unwish {X : Cx} {E : Value → Shared → Prop} (ok : (X.wish E).Ok) : X.Ok :=
  ⟨ok.mod, ok.kind, ok.glob, ok.blt, ok.above, ok.inj, ok.has, ok.cab, ok.hd, ok.frames, ok.stk, ok.exf, ok.bs, ok.bsz, ok.noex, ok.exfs, ok.funs, ok.frf⟩
section
variable {X : Cx} {pins : List (Addr × Obj)} {σ : St} {H : Hp} {s : Shared} {E : Value → Shared → Prop}
theorem Inv.wish (I : Inv X pins σ H s) (E : Value → Shared → Prop) : Inv (X.wish E) pins σ H s := ⟨I.ok.wish E, I.os, I.bare, I.base, I.loc, I.cell, I.free, I.freeC, I.pin, I.hok, I.len⟩
theorem Inv.unwish (I : Inv (X.wish E) pins σ H s) : Inv X pins σ H s := ⟨I.ok.unwish, I.os, I.bare, I.base, I.loc, I.cell, I.free, I.freeC, I.pin, I.hok, I.len⟩
theorem SP.unwish {D : Ends} {f : Flow} {s' : Shared} (h : SP (X.wish E) pins D f s') : SP X pins D f s' := by
  cases f with
  | next => obtain ⟨σ', H', I, q⟩ := h; exact ⟨σ', H', I.unwish, q⟩
  | brk => obtain ⟨σ', H', I, q⟩ := h; exact ⟨σ', H', I.unwish, q⟩
  | cont => obtain ⟨σ', H', I, q⟩ := h; exact ⟨σ', H', I.unwish, q⟩
  | ret u => obtain ⟨v, σ', H', I, r, q⟩ := h; exact ⟨v, σ', H', I.unwish, r, q⟩
theorem PSs.nox {st : List Stmt} {t : TS} (h : PSs X.nox st t) : PSs X st t := fun pins s σ H D I hw =>
  wpAny_mono (h pins s σ H D (I.wish _) hw) (fun _ _ q => q.unwish) fun _ _ z => False.elim z
end

section
variable {X : Cx} {st : Stmt} {rest : List Stmt} {t u : TS} {e : Expr} {te : TE} {pos : Pos}
noncomputable def tNext : TS := fun D σ H => D.nx σ H
noncomputable def tSeq (t u : TS) : TS := fun D σ H => t { D with nx := u D } σ H
theorem pss_nil : PSs X [] tNext := fun _ _ σ H _ I h => wpAny_execs_nil ⟨σ, H, I, h⟩
theorem pss_cons (h1 : PS X st t) (h2 : PSs X rest u) : PSs X (st :: rest) (tSeq t u) := by
  intro pins s σ H D I h
  refine wpAny_execs_cons (thn (h1 pins s σ H { D with nx := u D } I h) fun f s1 q => ?_)
  cases f with
  | next =>
    obtain ⟨σ', H', I', q⟩ := q
    exact h2 pins s1 σ' H' D I' q
  | ret v => exact q
  | brk => exact q
  | cont => exact q
theorem pss_one (h1 : PS X st t) : PSs X [st] t := by
  intro pins s σ H D I h
  refine wpAny_execs_cons (thn (h1 pins s σ H D I h) fun f s1 q => ?_)
  cases f with
  | next => exact wpAny_execs_nil q
  | ret v => exact q
  | brk => exact q
  | cont => exact q
theorem Inv.quiet {pins : List (Addr × Obj)} {σ : St} {H : Hp} {s : Shared} (I : Inv X pins σ H s) : interactive X.env = false := by simp [interactive, I.ok.kind]
noncomputable def tDrop (te : TE) : TS := fun D σ H => te σ H fun _ H1 => D.nx σ H1
theorem ps_expr (he : PE X e te) (hs : swapsWith e none pos.line X.env = pure false := by rfl) : PS X (.Expr e pos) (tDrop te) := by
  intro pins s σ H D I h
  exact wpAny_Expr_any (thn (he pins s σ H _ I h) fun v s1 ⟨x, H1, I1, r1, q1⟩ => ⟨σ, H1, I1, q1⟩) I.quiet hs
noncomputable def tRet (te : TE) : TS := fun D σ H => te σ H D.rt
theorem ps_ret (he : PE X e te) : PS X (.Return (some e) pos) (tRet te) := by
  intro pins s σ H D I h
  exact wpAny_Return_some (thn (he pins s σ H _ I h) fun v s1 ⟨x, H1, I1, r1, q1⟩ => ⟨x, σ, H1, I1, r1, q1⟩)
noncomputable def tRetN : TS := fun D _ H => D.rt .non H
noncomputable def tIfS (c : TT) (t u : TS) : TS := fun D σ H => c σ H fun b H1 => if b = true then t D σ H1 else u D σ H1
theorem ps_if {c : Expr} {a b : List Stmt} {tc : TT} (hc : PT X c tc) (ha : PSs X a t) (hb : PSs X b u) : PS X (.If c a b pos) (tIfS tc t u) := by
  intro pins s σ H D I h
  refine wpAny_If (thn (hc pins s σ H _ I h) fun d s1 ⟨H1, I1, q1⟩ => ?_)
  cases d with
  | true => exact ha pins s1 σ H1 D I1 q1
  | false => exact hb pins s1 σ H1 D I1 q1
end

noncomputable abbrev TG := V → St → Hp → (St → Hp → Prop) → Prop
noncomputable abbrev TGs := List V → St → Hp → (St → Hp → Prop) → Prop
noncomputable def PG (X : Cx) (target : Expr) (t : TG) : Prop :=
  ∀ (pins : List (Addr × Obj)) (s : Shared) (σ : St) (H : Hp) (v : V) (u : Value) (Q : St → Hp → Prop), Inv X pins σ H s → RelV v u → t v σ H Q →
    wpAny (model X.prog X.w) X.A (assign target X.env u) (fun _ s' => ∃ σ' H', Inv X pins σ' H' s' ∧ Q σ' H') X.xe s
noncomputable def PGs (X : Cx) (ts : List Expr) (t : TGs) : Prop :=
  ∀ (pins : List (Addr × Obj)) (s : Shared) (σ : St) (H : Hp) (vs : List V) (us : List Value) (Q : St → Hp → Prop), Inv X pins σ H s → Vals vs us → t vs σ H Q →
    wpAny (model X.prog X.w) X.A (assignInOrder ((assignEach ts X.env).map (·.2)) us) (fun _ s' => ∃ σ' H', Inv X pins σ' H' s' ∧ Q σ' H') X.xe s
noncomputable abbrev TSet := V → V → V → Hp → (Hp → Prop) → Prop
noncomputable def PSet (X : Cx) (t : TSet) : Prop :=
  ∀ (pins : List (Addr × Obj)) (s : Shared) (σ : St) (H : Hp) (o i v : V) (ov iv u : Value) (Q : Hp → Prop), Inv X pins σ H s → RelV o ov → RelV i iv → RelV v u → t o i v H Q →
    wpAny (model X.prog X.w) X.A (setItem ov iv u) (fun _ s' => ∃ H', Inv X pins σ H' s' ∧ Q H') X.xe s
noncomputable abbrev TIp := V → V → Hp → VK → Prop
noncomputable def PIp (X : Cx) (op : Operator) (t : TIp) : Prop :=
  ∀ (pins : List (Addr × Obj)) (s : Shared) (σ : St) (H : Hp) (x y : V) (v u : Value) (Q : VK), Inv X pins σ H s → RelV x v → RelV y u → t x y H Q →
    wpAny (model X.prog X.w) X.A (inplaceOp op v u) (EP X pins σ Q) X.xe s
section
variable {X : Cx} {pos : Pos}
noncomputable def gName (i : Nat) : TG := fun v σ H Q => Q (σ.set i (some v)) H
theorem pg_name {i : Nat} {x : Str} (hN : X.N.Nodup) (hi : X.N[i]? = some x) (hx : Loc X.env.scope x) (hf : X.fn x = true ∨ X.env.scope.names.lookup x = some .local := by first | exact .inl rfl | exact .inr rfl | assumption) : PG X (.Name x pos) (gName i) := by
  intro pins s σ H v u Q I r h
  exact wpAny_assign_Name (store_ok I hN hi hx r (fun s' I' => ⟨_, H, I', h⟩) hf)
noncomputable def gNil : TGs := fun vs σ H Q => vs = [] ∧ Q σ H
noncomputable def gCons (t : TG) (u : TGs) : TGs := fun vs σ H Q => ∃ v r, vs = v :: r ∧ t v σ H fun σ' H' => u r σ' H' Q
theorem pgs_nil : PGs X [] gNil := by
  intro pins s σ H vs us Q I r h
  obtain ⟨e, h⟩ := h
  subst e
  cases r
  exact assignInOrder_nil ⟨σ, H, I, h⟩
theorem pgs_cons {e : Expr} {es : List Expr} {t : TG} {u : TGs} (h1 : PG X e t) (h2 : PGs X es u)
    (hs : (assignEach (e :: es) X.env).map (·.2) = assign e X.env :: (assignEach es X.env).map (·.2) := by rfl) : PGs X (e :: es) (gCons t u) := by
  intro pins s σ H vs us Q I r h
  obtain ⟨v, vr, e1, h⟩ := h
  subst e1
  cases r with
  | cons r rr =>
    rw [hs]
    refine assignInOrder_cons (thn (h1 pins s σ H _ _ _ I r h) fun _ s1 ⟨σ1, H1, I1, q1⟩ => ?_)
    exact h2 pins s1 σ1 H1 _ _ Q I1 rr q1
noncomputable def gTup (K : PySem.W.Frag) (n : Nat) (t : TGs) : TG := fun v σ H Q => ∃ a xs, v = .ref a ∧ SqT K H a xs ∧ xs.length = n ∧ t xs σ H Q
theorem pg_tup {es : List Expr} {k : Nat} {t : TGs} {n : Nat} (hc : X.calm = true) (h : PGs X es t)
    (hn : (assignEach es X.env).length = n := by rfl) (hst : (assignEach es X.env).findIdx? (·.1) = none := by rfl) : PG X (.Tuple es k pos) (gTup X.K n t) := by
  intro pins s σ H v u Q I r hw
  obtain ⟨a, xs, e1, hq, hl, hw⟩ := hw
  subst e1
  cases r
  obtain ⟨its, rv, ht, hz⟩ := I.tuple hq
  refine assign_Tuple_tuple (I.ok.hd hc) ht (by simp [hn, ← hl, rv.length]) hst fun h' hx => ?_
  have I1 : Inv X pins σ H { s with heap := h' } := I.kept (t' := s.toks) fun b o e => hx b o (Nat.ne_of_lt (Heap.lt_size e)) e
  exact h pins _ σ H xs _ Q I1 (by simpa using rv) hw
noncomputable def tAsg (te : TE) (g : TG) : TS := fun D σ H => te σ H fun x H1 => g x σ H1 D.nx
theorem ps_asg {tg e : Expr} {te : TE} {g : TG} (he : PE X e te) (hg : PG X tg g) (hs : swapsWithSole [tg] e pos.line X.env = pure false := by rfl) (hw : swappedStores [tg] e X.env = pure none := by rfl)
    (h1 : (assignEach [tg] X.env).map (·.2) = [assign tg X.env] := by rfl) : PS X (.Assign [tg] e pos) (tAsg te g) := by
  intro pins s σ H D I h
  refine wpAny_Assign_stores (thn (he pins s σ H _ I h) fun v s1 ⟨x, H1, I1, r1, q1⟩ => ?_) hs hw
  rw [h1]
  exact thn (hg pins s1 σ H1 x v _ I1 r1 q1) fun _ s2 q => q
theorem ps_set {i : Nat} {x : Str} {e : Expr} {te : TE} {pos' : Pos} (hN : X.N.Nodup) (hi : X.N[i]? = some x) (hx : Loc X.env.scope x) (he : PE X e te) (hs : swapsWith e (some (.Name x pos')) pos.line X.env = pure false := by rfl) (hf : X.fn x = true ∨ X.env.scope.names.lookup x = some .local := by first | exact .inl rfl | exact .inr rfl | assumption) :
    PS X (.Assign [.Name x pos'] e pos) (tAsg te (gName i)) := by
  intro pins s σ H D I h
  refine wpAny_Assign_Name (thn (he pins s σ H _ I h) fun v s1 ⟨y, H1, I1, r1, q1⟩ => ?_) hs
  exact store_ok I1 hN hi hx r1 (fun s2 I2 => ⟨_, H1, I2, q1⟩) hf
noncomputable def tAug (i : Nat) (te : TE) (ti : TIp) : TS := fun D σ H => ∃ x, σ[i]? = some (some x) ∧ te σ H fun y H1 => ti x y H1 fun z H2 => D.nx (σ.set i (some z)) H2
theorem ps_aug {i : Nat} {x : Str} {e : Expr} {te : TE} {op : Operator} {ti : TIp} {pos' : Pos} (hN : X.N.Nodup) (hi : X.N[i]? = some x) (hx : Loc X.env.scope x) (he : PE X e te) (ho : PIp X op ti) (hf : X.fn x = true ∨ X.env.scope.names.lookup x = some .local := by first | exact .inl rfl | exact .inr rfl | assumption) :
    PS X (.AugAssign (.Name x pos') op e pos) (tAug i te ti) := by
  intro pins s σ H D I h
  obtain ⟨v, e1, h⟩ := h
  obtain ⟨m, hn, hl⟩ := I.loc
  have vis : Vis X.env.scope x := by rcases hx with k | k; exact .inl k; exact .inr (.inl k)
  obtain ⟨u, r, l⟩ := hl i x v hi e1 vis
  refine wpAny_AugAssign_Name ?_
  have go : wpAny (model X.prog X.w) X.A (eval e X.env) (fun w s₂ => wpAny (model X.prog X.w) X.A (inplaceOp op u w) (fun r s₃ => wpAny (model X.prog X.w) X.A (storeName X.env x r) (fun _ => SP X pins D .next) X.xe s₃) X.xe s₂) X.xe s := by
    refine thn (he pins s σ H _ I h) fun w s1 ⟨y, H1, I1, r1, q1⟩ => ?_
    refine thn (ho pins s1 σ H1 v y u w _ I1 r r1 q1) fun z s2 ⟨zv, H2, I2, r2, q2⟩ => ?_
    exact store_ok I2 hN hi hx r2 (fun s3 I3 => ⟨_, H2, I3, q2⟩) hf
  rcases l with ⟨hk, hm⟩ | ⟨hk, c, hc, hcell⟩
  · exact wpAny_loadName_local I.ok.kind hk hn hm go
  · rcases hk with hk | hk
    · exact wpAny_loadName_cell I.ok.kind hk hc hcell go
    · rcases hx with k | k
      · have : X.env.scope.names.lookup x = some .free := hk
        rw [k] at this; cases this
      · have : X.env.scope.names.lookup x = some .free := hk
        rw [k] at this; cases this
noncomputable def ipI (f : Int → Int → Int) : TIp := fun x y H Q => ∃ i j, x = .int i ∧ y = .int j ∧ Q (.int (f i j)) H
theorem ip_add : PIp X .Add (ipI fun i j => i + j) := by
  intro pins s σ H x y v u Q I r1 r2 h
  obtain ⟨i, j, e1, e2, q⟩ := h
  subst e1; subst e2
  obtain ⟨t, rfl⟩ := r1
  obtain ⟨t', rfl⟩ := r2
  exact iadd_int ⟨.int _, H, I.tok _, ⟨_, rfl⟩, q⟩
end

section
variable {X : Cx} {pos : Pos}
end

structure It where
  go : Nat → Hp → Prop
  yld : Nat → Hp → V → Hp → Prop
  stop : Nat → Hp → Prop
noncomputable def FpOk (X : Cx) (pins : List (Addr × Obj)) (H : Hp) (b : Addr) : Prop :=
  H b = none ∧ b ≠ X.env.locals ∧ b ∉ X.fs ∧ (b ∈ X.ex ∨ X.s₀.heap.objs.size ≤ b) ∧ (∀ x c, X.env.cells.lookup x = some c → c ≠ b) ∧ ∀ p ∈ X.pn ++ pins, p.1 ≠ b
theorem Inv.fpOk {X : Cx} {pins : List (Addr × Obj)} {σ : St} {H H' : Hp} {s : Shared} {b : Addr} (I : Inv X pins σ H s) (hb : s.heap.objs.size ≤ b) (hn : H' b = none) : FpOk X pins H' b := by
  refine ⟨hn, Nat.ne_of_gt (Nat.lt_of_lt_of_le I.lt hb), I.nofs hb, .inr (Nat.le_trans I.sz hb), fun x c e z => ?_, fun p hp z => ?_⟩
  · obtain ⟨v, q⟩ := I.cell x c e
    exact absurd (Nat.lt_of_lt_of_le q.lt (by rw [z]; exact hb)) (Nat.lt_irrefl _)
  · exact absurd (Nat.lt_of_lt_of_le (Heap.lt_size (I.pin p hp).1) (by rw [z]; exact hb)) (Nat.lt_irrefl _)
structure Turn (P : Program) (w : World) (K : PySem.W.Frag) (tg : Expr) (J : It) (fp : List Addr) (it : Addr) (tn : Nat → Heap → Prop) : Prop where
  mem : it ∈ fp
  obj : ∀ i h, tn i h → ∀ b ∈ fp, ∃ o, h.get? b = some o ∧ ∀ v, o.data ≠ .cell v
  keep : ∀ i h h', tn i h → (∀ b ∈ fp, ∀ o, h.get? b = some o → h'.get? b = some o) → tn i h'
  item : ∀ (X : Cx), X.prog = P → X.w = w → X.K = K → X.calm = true → ∀ (i : Nat) (pins : List (Addr × Obj)) (s : Shared) (σ : St) (H : Hp) (E : Value → Shared → Prop), Inv X pins σ H s → (∀ b ∈ fp, FpOk X pins H b) → tn i s.heap → J.go i H →
    wpAny (model P w) X.A (pyNext (.ref it)) (fun r s1 => ∃ u, r = some u ∧
      wpAny (model P w) X.A (letOwnedTupleGo tg (.ref it) u) (fun _ s2 => ∃ x H', Inv X pins σ H' s2 ∧ RelV x u ∧ J.yld i H x H' ∧ tn (i + 1) s2.heap ∧ ∀ b ∈ fp, H' b = none) E s1) E s
  done : ∀ (X : Cx), X.prog = P → X.w = w → X.K = K → X.calm = true → ∀ (i : Nat) (pins : List (Addr × Obj)) (s : Shared) (σ : St) (H : Hp) (E : Value → Shared → Prop), Inv X pins σ H s → (∀ b ∈ fp, FpOk X pins H b) → tn i s.heap → J.stop i H →
    wpAny (model P w) X.A (pyNext (.ref it)) (fun r s1 => r = none ∧ Inv X pins σ H s1) E s
  self : ∀ (A : Around) (i : Nat) (s : Shared) (Q : Value → Shared → Prop) (E : Value → Shared → Prop), tn i s.heap → Q (.ref it) s → wpAny (model P w) A (pyIter (.ref it)) Q E s
noncomputable abbrev TI := St → Hp → (It → Hp → Prop) → Prop
noncomputable def PIE (X : Cx) (pins : List (Addr × Obj)) (σ : St) (tg : Expr) (R : It → Hp → Prop) (itv : Value) (s2 : Shared) : Prop :=
  ∃ (it : Addr) (fp : List Addr) (tn : Nat → Heap → Prop) (J : It) (H' : Hp), itv = .ref it ∧ Inv X pins σ H' s2 ∧ Turn X.prog X.w X.K tg J fp it tn ∧ tn 0 s2.heap ∧ (∀ b ∈ fp, FpOk X pins H' b) ∧ R J H'
noncomputable def PI (X : Cx) (tg iter : Expr) (wi : TI) : Prop :=
  ∀ (pins : List (Addr × Obj)) (s : Shared) (σ : St) (H : Hp) (R : It → Hp → Prop), Inv X pins σ H s → wi σ H R →
    wpAny (model X.prog X.w) X.A (eval iter X.env) (fun v s1 => wpAny (model X.prog X.w) X.A (pyIter v) (PIE X pins σ tg R) X.xe s1) X.xe s

theorem go_of {M : Model} {A : Around} {E : Value → Shared → Prop} {s : Shared} {tg : Expr} {it : Addr} {u : Value} {o : Obj} {n : String} {vs : Array Value} {Q : Unit → Shared → Prop} (ho : s.heap.get? it = some o) (hc : o.cls = .type n) (hd : o.data = .fields vs)
    (hn : ["enumerate", "zip", "dict_itemiterator", "dict_reverseitemiterator", "odict_iterator", "itertools.zip_longest", "itertools.pairwise"].contains n = false) (hQ : Q () s) : wpAny M A (letOwnedTupleGo tg (.ref it) u) Q E s := by
  unfold letOwnedTupleGo
  cases tg <;> first
    | exact wpAny_pure hQ
    | (cases u <;> first
        | exact wpAny_pure hQ
        | (refine wpAny_bind (wpAny_load ho ?_)
           rw [hc, hd]
           show wpAny M A (if (["enumerate", "zip", "dict_itemiterator", "dict_reverseitemiterator", "odict_iterator", "itertools.zip_longest", "itertools.pairwise"].contains n && vs[0]? == some (rawInt _)) = true then _ else _) Q E s
           rw [if_neg (by intro h; rw [hn, Bool.false_and] at h; cases h)]
           exact wpAny_pure hQ))

noncomputable def Itl (K : PySem.W.Frag) (a : Addr) : It :=
  ⟨fun i H => ∃ xs x, SqL K H a xs ∧ xs[i]? = some x, fun i H x H' => H' = H ∧ ∀ xs, SqL K H a xs → xs[i]? = some x, fun i H => ∃ xs, SqL K H a xs ∧ xs.length ≤ i⟩
noncomputable def Itt (K : PySem.W.Frag) (a : Addr) : It :=
  ⟨fun i H => ∃ xs x, SqT K H a xs ∧ xs[i]? = some x, fun i H x H' => H' = H ∧ ∀ xs, SqT K H a xs → xs[i]? = some x, fun i H => ∃ xs, SqT K H a xs ∧ xs.length ≤ i⟩
noncomputable def Itr (lo : Int) (n : Nat) : It := ⟨fun i _ => i < n, fun i H x H' => H' = H ∧ x = .int (lo + i), fun i _ => n ≤ i⟩
theorem turn_list {P : Program} {w : World} {K : PySem.W.Frag} {tg : Expr} (a it : Addr) : Turn P w K tg (Itl K a) [it] it (fun i h => h.IsListIter it a i) where
  mem := by simp
  obj := fun i h st b hb => by
    have e : b = it := by simpa using hb
    subst e
    obtain ⟨o, e, c, d⟩ := st
    exact ⟨o, e, fun v z => by rw [d] at z; cases z⟩
  keep := fun i h h' st k => st.at fun o e => k it (by simp) o e
  item := by
    intro X hP hw hK hc i pins s σ H E I hf st hg
    subst hP hw hK
    obtain ⟨xs, x, hq, hx⟩ := hg
    obtain ⟨its, rv, p, hz⟩ := I.list hq
    obtain ⟨u, hu, ru⟩ := rv.get hx
    obtain ⟨f0, f1, f2, f3, f4, f5⟩ := hf it (by simp)
    refine wpAny_pyNext_list_item st p.isList (x := u) (by simpa using hu) fun h' st' sb => ?_
    have I1 : Inv X pins σ H { s with heap := h' } := I.turned (t' := s.toks) (fun b o hb e => (sb.2 b hb).trans e) f0 f1 f3 f4 f5
    obtain ⟨o, e, c, d⟩ := id st'
    exact ⟨u, rfl, go_of (s := { s with heap := h' }) e c d (by decide) ⟨x, H, I1, ru, ⟨rfl, fun ys hy => by rw [I.list_inj hy hq]; exact hx⟩, st', fun b hb => (hf b hb).1⟩⟩
  done := by
    intro X hP hw hK hc i pins s σ H E I hf st hg
    subst hP hw hK
    obtain ⟨xs, hq, hx⟩ := hg
    obtain ⟨its, rv, p, hz⟩ := I.list hq
    obtain ⟨f0, f1, f2, f3, f4, f5⟩ := hf it (by simp)
    have hl := rv.length
    exact wpAny_pyNext_list_end (I.ok.hd hc) st p.isList (by simp; omega) fun h' eb => ⟨rfl, I.turned (t' := s.toks) (fun b o hb e => eb b o hb e) f0 f1 f3 f4 f5⟩
  self := fun _ _ _ _ _ st h => wpAny_pyIter_listiter st h
theorem turn_tuple {P : Program} {w : World} {K : PySem.W.Frag} {tg : Expr} (a it : Addr) : Turn P w K tg (Itt K a) [it] it (fun i h => h.IsTupleIter it a i) where
  mem := by simp
  obj := fun i h st b hb => by
    have e : b = it := by simpa using hb
    subst e
    obtain ⟨o, e, c, d⟩ := st
    exact ⟨o, e, fun v z => by rw [d] at z; cases z⟩
  keep := fun i h h' st k => st.at fun o e => k it (by simp) o e
  item := by
    intro X hP hw hK hc i pins s σ H E I hf st hg
    subst hP hw hK
    obtain ⟨xs, x, hq, hx⟩ := hg
    obtain ⟨its, rv, p, hz⟩ := I.tuple hq
    obtain ⟨u, hu, ru⟩ := rv.get hx
    obtain ⟨f0, f1, f2, f3, f4, f5⟩ := hf it (by simp)
    refine wpAny_pyNext_tuple_item st (show s.heap.IsTuple a its.toArray from p) (x := u) (by simpa using hu) fun h' st' sb => ?_
    have I1 : Inv X pins σ H { s with heap := h' } := I.turned (t' := s.toks) (fun b o hb e => (sb.2 b hb).trans e) f0 f1 f3 f4 f5
    obtain ⟨o, e, c, d⟩ := id st'
    exact ⟨u, rfl, go_of (s := { s with heap := h' }) e c d (by decide) ⟨x, H, I1, ru, ⟨rfl, fun ys hy => by rw [I.tuple_inj hy hq]; exact hx⟩, st', fun b hb => (hf b hb).1⟩⟩
  done := by
    intro X hP hw hK hc i pins s σ H E I hf st hg
    subst hP hw hK
    obtain ⟨xs, hq, hx⟩ := hg
    obtain ⟨its, rv, p, hz⟩ := I.tuple hq
    obtain ⟨f0, f1, f2, f3, f4, f5⟩ := hf it (by simp)
    have hl := rv.length
    exact wpAny_pyNext_tuple_end (I.ok.hd hc) st (show s.heap.IsTuple a its.toArray from p) (by simp; omega) fun h' eb => ⟨rfl, I.turned (t' := s.toks) (fun b o hb e => eb b o hb e) f0 f1 f3 f4 f5⟩
  self := fun _ _ _ _ _ st h => wpAny_pyIter_tupleiter st h
theorem turn_range {P : Program} {w : World} {K : PySem.W.Frag} {tg : Expr} (it : Addr) (lo : Int) (n : Nat) : Turn P w K tg (Itr lo n) [it] it (fun i h => IsRangeIter h it (lo + (i : Nat) * 1) ((n : Int) - (i : Nat)) 1) where
  mem := by simp
  obj := fun i h st b hb => by
    have e : b = it := by simpa using hb
    subst e
    exact ⟨_, st, fun v z => by
      have z' : Data.fields _ = Data.cell v := z
      cases z'⟩
  keep := fun i h h' st k => k it (by simp) _ st
  item := by
    intro X hP hw hK hc i pins s σ H E I hf st hg
    subst hP hw hK
    obtain ⟨f0, f1, f2, f3, f4, f5⟩ := hf it (by simp)
    have W := Walks.range (prog := X.prog) (w := X.w) (I.ok.hd hc) it lo 1 n
    refine W.item i s _ _ hg st fun v h' tk hv st' kk => ?_
    obtain ⟨t, rfl⟩ := hv
    have I1 : Inv X pins σ H { s with heap := h', toks := tk } := I.turned (fun b o hb e => kk b o (by simpa using hb) e) f0 f1 f3 f4 f5
    refine ⟨_, rfl, go_of (s := { s with heap := h', toks := tk }) (n := "range_iterator") st' rfl rfl (by decide) ⟨.int (lo + i), H, I1, ⟨t, ?_⟩, ⟨rfl, rfl⟩, st', fun b hb => (hf b hb).1⟩⟩
    rw [Int.mul_one]
  done := by
    intro X hP hw hK hc i pins s σ H E I hf st hg
    subst hP hw hK
    obtain ⟨f0, f1, f2, f3, f4, f5⟩ := hf it (by simp)
    exact wpAny_pyNext_range_end (I.ok.hd hc) st (by have : n ≤ i := hg; omega) fun h' eb => ⟨rfl, I.turned (t' := s.toks) (fun b o hb e => eb b o hb e) f0 f1 f3 f4 f5⟩
  self := fun _ _ _ _ _ st h => wpAny_pyIter_rangeiter st h
end L2

namespace L2
open PySem PySem.Spec PyProof.Rows
section
variable {X : Cx} {tg : Expr}
noncomputable def iList (K : PySem.W.Frag) (tl : TE) : TI := fun σ H R => tl σ H fun x H1 => ∃ a, x = .ref a ∧ (∃ xs, SqL K H1 a xs) ∧ R (Itl K a) H1
noncomputable def iTup (K : PySem.W.Frag) (tl : TE) : TI := fun σ H R => tl σ H fun x H1 => ∃ a, x = .ref a ∧ (∃ xs, SqT K H1 a xs) ∧ R (Itt K a) H1
theorem pi_list {l : Expr} {tl : TE} (hl : PE X l tl) : PI X tg l (iList X.K tl) := by
  intro pins s σ H R I h
  refine thn (hl pins s σ H _ I h) fun v s1 ⟨x, H1, I1, r1, q1⟩ => ?_
  obtain ⟨a, e, ⟨xs, hq⟩, q⟩ := q1
  subst e
  cases r1
  obtain ⟨its, rv, p, hz⟩ := I1.list hq
  refine wpAny_pyIter_list p.isList ?_
  refine ⟨s1.heap.objs.size, [s1.heap.objs.size], _, _, H1, rfl, I1.kept (t' := s1.toks) fun b o e => Heap.get?_push_of_some _ e, turn_list a _, ⟨_, Heap.get?_push_size _ rfl, rfl, rfl⟩, fun b hb => ?_, q⟩
  have e : b = s1.heap.objs.size := by simpa using hb
  subst e
  exact I1.fpOk (Nat.le_refl _) (I1.hok.fresh (Nat.le_refl _))
theorem pi_tup {l : Expr} {tl : TE} (hl : PE X l tl) : PI X tg l (iTup X.K tl) := by
  intro pins s σ H R I h
  refine thn (hl pins s σ H _ I h) fun v s1 ⟨x, H1, I1, r1, q1⟩ => ?_
  obtain ⟨a, e, ⟨xs, hq⟩, q⟩ := q1
  subst e
  cases r1
  obtain ⟨its, rv, p, hz⟩ := I1.tuple hq
  refine wpAny_pyIter_tuple (show s1.heap.IsTuple a its.toArray from p) ?_
  refine ⟨s1.heap.objs.size, [s1.heap.objs.size], _, _, H1, rfl, I1.kept (t' := s1.toks) fun b o e => Heap.get?_push_of_some _ e, turn_tuple a _, ⟨_, Heap.get?_push_size _ rfl, rfl, rfl⟩, fun b hb => ?_, q⟩
  have e : b = s1.heap.objs.size := by simpa using hb
  subst e
  exact I1.fpOk (Nat.le_refl _) (I1.hok.fresh (Nat.le_refl _))
theorem range_it {pins : List (Addr × Obj)} {σ : St} {H : Hp} {s : Shared} {R : It → Hp → Prop} {E : Value → Shared → Prop} {lo hi : Int} {t u v : Tok} {tk : Nat} (I : Inv X pins σ H s) (h1 : -(2 ^ 62) ≤ lo) (h2 : lo < 2 ^ 62) (h3 : -(2 ^ 62) ≤ hi) (h4 : hi < 2 ^ 62)
    (q : R (Itr lo (hi - lo).toNat) H) : wpAny (model X.prog X.w) X.A (pyIter (.ref s.heap.objs.size)) (PIE X pins σ tg R) E { s with heap := s.heap.push { cls := .type "range", data := .fields #[.int lo t, .int hi u, .int 1 v] }, toks := tk } := by
  refine wpAny_pyIter_range (IsRange.new ..) (small_one h1 h2 h3 h4) ?_
  have I1 : Inv X pins σ H { s with heap := s.heap.push { cls := .type "range", data := .fields #[.int lo t, .int hi u, .int 1 v] }, toks := tk } := I.kept fun b o e => Heap.get?_push_of_some _ e
  refine ⟨(s.heap.push { cls := .type "range", data := .fields #[.int lo t, .int hi u, .int 1 v] }).objs.size, [(s.heap.push { cls := .type "range", data := .fields #[.int lo t, .int hi u, .int 1 v] }).objs.size], _, _, H, rfl,
    I1.kept (t' := tk) fun b o e => Heap.get?_push_of_some _ e, turn_range _ lo (hi - lo).toNat, ?_, fun b hb => ?_, q⟩
  · have e1 : lo + ((0 : Nat) : Int) * 1 = lo := by simp
    have e2 : (((hi - lo).toNat : Nat) : Int) - ((0 : Nat) : Int) = Builtin.Range.rangeSize lo hi 1 := by rw [rangeSize_one]; split <;> omega
    show IsRangeIter _ _ (lo + ((0 : Nat) : Int) * 1) ((((hi - lo).toNat : Nat) : Int) - ((0 : Nat) : Int)) 1
    rw [e1, e2]
    exact Heap.get?_push_size _ rfl
  · have e : b = (s.heap.push { cls := .type "range", data := .fields #[.int lo t, .int hi u, .int 1 v] }).objs.size := by simpa using hb
    subst e
    exact I1.fpOk (Nat.le_refl _) (I1.hok.fresh (Nat.le_refl _))
noncomputable def iRng1 (ta : TA) : TI := fun σ H R => ta σ H fun vs H1 => ∃ j : Int, vs = [.int j] ∧ -(2 ^ 62) ≤ j ∧ j < 2 ^ 62 ∧ R (Itr 0 j.toNat) H1
theorem pi_range1 {a : Expr} {ta : TA} {p pos : Pos} (hg : Gl X "range") (hm : X.mg "range" = none) (ha : PA X [a] ta) (hs : starEach [a] X.env = [(false, eval a X.env)] := by rfl) : PI X tg (.Call (.Name "range" p) [a] [] pos) (iRng1 ta) := by
  intro pins s σ H R I h
  refine Call_ (ld_blt I hg hm boot_range (PyProof.Rows.callWith_type1 (thn (ha pos pins s σ H _ I h) fun us s1 ⟨vs, H1, I1, r1, q1⟩ => ?_) hs rfl))
  obtain ⟨j, e, q1, q2, q⟩ := q1
  subst e
  cases r1 with
  | cons r rr =>
    cases rr
    obtain ⟨t, rfl⟩ := r
    exact call_range_1 (range_it I1 (by omega) (by omega) q1 q2 (by simpa using q))
noncomputable def tFor (wi : TI) (g : TG) (tb : TS) : TS := fun D σ H => wi σ H fun J H1 => ∃ W : Nat → Nat → St → Hp → Prop, (∃ m, W 0 m σ H1) ∧ ∀ i m σ H, W i m σ H →
  (J.stop i H ∧ D.nx σ H) ∨ (J.go i H ∧ ∃ N : St → Hp → Prop, (∀ σ' H', N σ' H' → ∃ m', m' < m ∧ W (i + 1) m' σ' H') ∧ ∀ x H', J.yld i H x H' → g x σ H' fun σ2 H2 => tb { D with nx := N, ct := N, bk := D.nx } σ2 H2)
noncomputable def pinsAt (fp : List Addr) (h : Heap) : List (Addr × Obj) := fp.filterMap fun b => (h.get? b).map fun o => (b, o)
theorem mem_pinsAt {fp : List Addr} {h : Heap} {b : Addr} {o : Obj} (hb : b ∈ fp) (e : h.get? b = some o) : (b, o) ∈ pinsAt fp h := List.mem_filterMap.mpr ⟨b, hb, by rw [e]; rfl⟩
theorem of_pinsAt {fp : List Addr} {h : Heap} {p : Addr × Obj} (hp : p ∈ pinsAt fp h) : p.1 ∈ fp ∧ h.get? p.1 = some p.2 := by
  obtain ⟨b, hb, e⟩ := List.mem_filterMap.mp hp
  cases q : h.get? b with
  | none => rw [q] at e; cases e
  | some o =>
    rw [q] at e
    have e' : (b, o) = p := Option.some.inj e
    subst e'
    exact ⟨hb, q⟩
theorem Inv.pinned {pins : List (Addr × Obj)} {σ : St} {H : Hp} {s : Shared} {fp : List Addr} (I : Inv X pins σ H s) (hf : ∀ b ∈ fp, FpOk X pins H b) (ho : ∀ b ∈ fp, ∃ o, s.heap.get? b = some o ∧ ∀ v, o.data ≠ .cell v) : Inv X (pins ++ pinsAt fp s.heap) σ H s :=
  I.pins_of fun p hp => (List.mem_append.mp hp).elim (fun z => I.pin p (List.mem_append_right _ z)) fun z => by
    obtain ⟨hb, e⟩ := of_pinsAt z
    obtain ⟨f0, f1, f2, _⟩ := hf p.1 hb
    obtain ⟨o, e', d⟩ := ho p.1 hb
    rw [e] at e'; cases e'
    exact ⟨e, f0, f1, f2, d⟩
theorem Inv.unpinned {pins pl : List (Addr × Obj)} {σ : St} {H : Hp} {s : Shared} (I : Inv X (pins ++ pl) σ H s) : Inv X pins σ H s := I.pins_of fun p hp => I.pin p (List.mem_append_right _ (List.mem_append_left _ hp))
theorem ps_for {iter : Expr} {body : List Stmt} {wi : TI} {g : TG} {tb : TS} {pos : Pos} (hp : PassesOwn (model X.prog X.w) X.A X.env X.xe) (hc : X.calm = true) (hi : PI X tg iter wi) (hg : PG X tg g) (hb : PSs X body tb)
    (hs : ∀ x, foldedSetIterable iter X.env x = pure x := by intro _; rfl) : PS X (.For tg iter body [] pos) (tFor wi g tb) := by
  intro pins s σ H D I h
  refine wpAny_For (thn (hi pins s σ H _ I h) fun v s1 h1 => thn h1 fun itv s2 h2 => ?_) hs
  obtain ⟨it, fp, tn, J, H2, e, I2, T, st2, f2, W, ⟨m0, w0⟩, turn⟩ := h2
  subst e
  -- what stays true of the iterator's objects through the loop
  have stat : ∀ {H' : Hp}, (∀ b ∈ fp, H' b = none) → ∀ b ∈ fp, FpOk X pins H' b := fun hn b hb => ⟨hn b hb, (f2 b hb).2⟩
  refine codeAny_forLoop_any (fun n s' => ∃ i σ' H', Inv X pins σ' H' s' ∧ tn i s'.heap ∧ (∀ b ∈ fp, H' b = none) ∧ W i n σ' H') ?_ m0 ⟨0, σ, H2, I2, st2, fun b hb => (f2 b hb).1, w0⟩
  rintro n s3 ⟨i, σ3, H3, I3, st3, fr3, w3⟩
  rcases turn i n σ3 H3 w3 with ⟨stop, qn⟩ | ⟨go, N, hN, step⟩
  · refine wpAny_passesOwn hp (thn (T.done X rfl rfl rfl hc i pins s3 σ3 H3 X.xe I3 (stat fr3) st3 stop) fun r s4 ⟨hr, I4⟩ => ?_)
    subst hr
    exact wpAny_execs_nil ⟨σ3, H3, I4, qn⟩
  · refine wpAny_passesOwn hp (thn (T.item X rfl rfl rfl hc i pins s3 σ3 H3 X.xe I3 (stat fr3) st3 go) fun r s4 ⟨u, hr, h4⟩ => ?_)
    subst hr
    refine wpAny_passesOwn hp (thn h4 fun _ s5 ⟨x, H5, I5, r5, y5, st5, fr5⟩ => ?_)
    have I5' := I5.pinned (stat fr5) (T.obj _ _ st5)
    refine wpAny_passesOwn hp (thn (hg _ s5 σ3 H5 x u _ I5' r5 (step x H5 y5)) fun _ s6 ⟨σ6, H6, I6, q6⟩ => ?_)
    refine wpAny_passesOwn hp (thn (hb _ s6 σ6 H6 _ I6 q6) fun f s7 q7 => ?_)
    have again : ∀ {σ7 : St} {H7 : Hp}, Inv X (pins ++ pinsAt fp s5.heap) σ7 H7 s7 → N σ7 H7 → ∃ m, m < n ∧ ∃ i σ' H', Inv X pins σ' H' s7 ∧ tn i s7.heap ∧ (∀ b ∈ fp, H' b = none) ∧ W i m σ' H' := fun {σ7 H7} I7 n7 => by
      obtain ⟨m', hm, w7⟩ := hN σ7 H7 n7
      refine ⟨m', hm, i + 1, σ7, H7, I7.unpinned, T.keep _ _ _ st5 fun b hb o e => (I7.pin (b, o) (List.mem_append_right _ (List.mem_append_right _ (mem_pinsAt hb e)))).1, fun b hb => ?_, w7⟩
      obtain ⟨o, e, d⟩ := T.obj _ _ st5 b hb
      exact (I7.pin (b, o) (List.mem_append_right _ (List.mem_append_right _ (mem_pinsAt hb e)))).2.1
    cases f with
    | next => obtain ⟨σ7, H7, I7, n7⟩ := q7; exact again I7 n7
    | cont => obtain ⟨σ7, H7, I7, n7⟩ := q7; exact again I7 n7
    | brk => obtain ⟨σ7, H7, I7, q7⟩ := q7; exact ⟨σ7, H7, I7.unpinned, q7⟩
    | ret v => obtain ⟨x7, σ7, H7, I7, r7, q7⟩ := q7; exact ⟨x7, σ7, H7, I7.unpinned, r7, q7⟩
end

theorem for_range {lo : Int} {n : Nat} {g : TG} {tb : TS} {D : Ends} {σ : St} {H : Hp} (Pv : Nat → St → Hp → Prop) (h0 : Pv 0 σ H)
    (hs : ∀ i σ H, i < n → Pv i σ H → g (.int (lo + i)) σ H fun σ2 H2 => tb { D with nx := Pv (i + 1), ct := Pv (i + 1), bk := D.nx } σ2 H2) (hd : ∀ σ H, Pv n σ H → D.nx σ H) :
    ∃ W : Nat → Nat → St → Hp → Prop, (∃ m, W 0 m σ H) ∧ ∀ i m σ H, W i m σ H →
      ((Itr lo n).stop i H ∧ D.nx σ H) ∨ ((Itr lo n).go i H ∧ ∃ N : St → Hp → Prop, (∀ σ' H', N σ' H' → ∃ m', m' < m ∧ W (i + 1) m' σ' H') ∧ ∀ x H', (Itr lo n).yld i H x H' → g x σ H' fun σ2 H2 => tb { D with nx := N, ct := N, bk := D.nx } σ2 H2) := by
  refine ⟨fun i m σ H => m = n - i ∧ i ≤ n ∧ Pv i σ H, ⟨n, by simp, Nat.zero_le _, h0⟩, ?_⟩
  rintro i m σ H ⟨rfl, hi, p⟩
  by_cases hlt : i < n
  · refine .inr ⟨hlt, Pv (i + 1), fun σ' H' p' => ⟨n - (i + 1), by omega, rfl, hlt, p'⟩, fun x H' y => ?_⟩
    obtain ⟨e, y⟩ := y
    subst e y
    exact hs i σ _ hlt p
  · have e : i = n := by omega
    subst e
    exact .inl ⟨Nat.le_refl _, hd σ H p⟩
end L2

namespace L2
open PySem PySem.Spec PyProof.Rows

noncomputable abbrev R2 := V → V → Hp → VK → Prop
noncomputable def OpR (X : Cx) (f : Value → Value → Sem Value) (r : R2) : Prop :=
  ∀ (pins : List (Addr × Obj)) (s : Shared) (σ : St) (H : Hp) (x y : V) (v u : Value) (Q : VK), Inv X pins σ H s → RelV x v → RelV y u → r x y H Q →
    wpAny (model X.prog X.w) X.A (f v u) (EP X pins σ Q) X.xe s
noncomputable def UnR (X : Cx) (f : Value → Sem Value) (r : V → Hp → VK → Prop) : Prop :=
  ∀ (pins : List (Addr × Obj)) (s : Shared) (σ : St) (H : Hp) (x : V) (v : Value) (Q : VK), Inv X pins σ H s → RelV x v → r x H Q →
    wpAny (model X.prog X.w) X.A (f v) (EP X pins σ Q) X.xe s
noncomputable def CallR (X : Cx) (f : Value) (r : List V → Hp → VK → Prop) : Prop :=
  ∀ (pins : List (Addr × Obj)) (s : Shared) (σ : St) (H : Hp) (xs : List V) (us : List Value) (Q : VK), Inv X pins σ H s → Vals xs us → r xs H Q →
    wpAny (model X.prog X.w) X.A (call f us) (EP X pins σ Q) X.xe s
noncomputable def tOp (r : R2) (ta tb : TE) : TE := fun σ H Q => ta σ H fun x H1 => tb σ H1 fun y H2 => r x y H2 Q
noncomputable def tUn (r : V → Hp → VK → Prop) (ta : TE) : TE := fun σ H Q => ta σ H fun x H1 => r x H1 Q
noncomputable def rI (C : Int → Int → Prop) (g : Int → Int → V) : R2 := fun x y H Q => ∃ i j, x = .int i ∧ y = .int j ∧ C i j ∧ Q (g i j) H
noncomputable def rI0 (g : Int → Int → V) : R2 := fun x y H Q => ∃ i j, x = .int i ∧ y = .int j ∧ Q (g i j) H
noncomputable def rU (g : Int → V) : V → Hp → VK → Prop := fun x H Q => ∃ i, x = .int i ∧ Q (g i) H

section
variable {X : Cx} {a b c : Expr} {ta tb tc : TE} {pos : Pos}

theorem binT (ha : PE X a ta) (hb : PE X b tb) {pins : List (Addr × Obj)} {s : Shared} {σ : St} {H : Hp} {R : V → V → Hp → Prop} (I : Inv X pins σ H s)
    (h : ta σ H fun x H1 => tb σ H1 fun y H2 => R x y H2) {Q : Value → Shared → Prop} {f : Value → Value → Sem Value}
    (hf : ∀ v u s2 x y H2, Inv X pins σ H2 s2 → RelV x v → RelV y u → R x y H2 → wpAny (model X.prog X.w) X.A (f v u) Q X.xe s2) :
    wpAny (model X.prog X.w) X.A (eval a X.env) (fun v s₁ => wpAny (model X.prog X.w) X.A (eval b X.env) (fun u s₂ => wpAny (model X.prog X.w) X.A (f v u) Q X.xe s₂) X.xe s₁) X.xe s := by
  refine thn (ha pins s σ H _ I h) fun v s1 ⟨x, H1, I1, r1, q1⟩ => ?_
  refine thn (hb pins s1 σ H1 _ I1 q1) fun u s2 ⟨y, H2, I2, r2, q2⟩ => ?_
  exact hf v u s2 x y H2 I2 r1 r2 q2

theorem pe_op {op : Operator} {r : R2} (ho : OpR X (binaryOp op) r) (ha : PE X a ta) (hb : PE X b tb) : PE X (.BinOp a op b pos) (tOp r ta tb) := by
  intro pins s σ H Q I h
  exact wpAny_BinOp (binT ha hb I h fun v u s2 x y H2 I2 rx ry q => ho pins s2 σ H2 x y v u Q I2 rx ry q)
theorem pe_un {op : UnaryOp} {r : V → Hp → VK → Prop} (ho : UnR X (unaryOp op) r) (ha : PE X a ta) : PE X (.UnaryOp op a pos) (tUn r ta) := by
  intro pins s σ H Q I h
  exact UnaryOp_ (thn (ha pins s σ H _ I h) fun v s1 ⟨x, H1, I1, r1, q1⟩ => ho pins s1 σ H1 x v Q I1 r1 q1)
theorem opI {f : Value → Value → Sem Value} {C : Int → Int → Prop} {g : Int → Int → Int}
    (rule : ∀ (i j : Int) (t u : Tok) (s : Shared) (Q : Value → Shared → Prop) (E : Value → Shared → Prop), C i j → Q (.int (g i j) s.toks) { s with toks := s.toks + 1 } → wpAny (model X.prog X.w) X.A (f (.int i t) (.int j u)) Q E s) :
    OpR X f (rI C fun i j => .int (g i j)) := by
  intro pins s σ H x y v u Q I rx ry h
  obtain ⟨i, j, rfl, rfl, hc, q⟩ := h
  obtain ⟨t, rfl⟩ := rx
  obtain ⟨t', rfl⟩ := ry
  exact rule i j t t' s _ _ hc ⟨.int (g i j), H, I.tok _, ⟨_, rfl⟩, q⟩
theorem opI0 {f : Value → Value → Sem Value} {g : Int → Int → Int}
    (rule : ∀ (i j : Int) (t u : Tok) (s : Shared) (Q : Value → Shared → Prop) (E : Value → Shared → Prop), Q (.int (g i j) s.toks) { s with toks := s.toks + 1 } → wpAny (model X.prog X.w) X.A (f (.int i t) (.int j u)) Q E s) :
    OpR X f (rI0 fun i j => .int (g i j)) := by
  intro pins s σ H x y v u Q I rx ry h
  obtain ⟨i, j, rfl, rfl, q⟩ := h
  obtain ⟨t, rfl⟩ := rx
  obtain ⟨t', rfl⟩ := ry
  exact rule i j t t' s _ _ ⟨.int (g i j), H, I.tok _, ⟨_, rfl⟩, q⟩
theorem opB0 {f : Value → Value → Sem Value} {g : Int → Int → Bool}
    (rule : ∀ (i j : Int) (t u : Tok) (s : Shared) (Q : Value → Shared → Prop) (E : Value → Shared → Prop), Q (.bool (g i j)) s → wpAny (model X.prog X.w) X.A (f (.int i t) (.int j u)) Q E s) :
    OpR X f (rI0 fun i j => .bl (g i j)) := by
  intro pins s σ H x y v u Q I rx ry h
  obtain ⟨i, j, rfl, rfl, q⟩ := h
  obtain ⟨t, rfl⟩ := rx
  obtain ⟨t', rfl⟩ := ry
  exact rule i j t t' s _ _ ⟨.bl (g i j), H, I, rfl, q⟩

noncomputable def CDiv (i j : Int) : Prop := 0 < j ∧ j < 1073741824
noncomputable def CMul (i j : Int) : Prop := (-(2 ^ 64) < i ∧ i < 2 ^ 64) ∨ (-(2 ^ 64) < j ∧ j < 2 ^ 64)
theorem CMul.ok {i j : Int} (h : CMul i j) : IntMulOk i j := by
  rcases h with ⟨h1, h2⟩ | ⟨h1, h2⟩
  · exact .of_left (intBits_le_64 h1 h2)
  · exact .of_right (intBits_le_64 h1 h2)
theorem op_add : OpR X (binaryOp .Add) (rI0 fun i j => .int (i + j)) := opI0 fun _ _ _ _ _ _ _ q => add_int q
theorem op_sub : OpR X (binaryOp .Sub) (rI0 fun i j => .int (i - j)) := opI0 fun _ _ _ _ _ _ _ q => sub_int q
theorem op_mul : OpR X (binaryOp .Mult) (rI CMul fun i j => .int (i * j)) := opI fun _ _ _ _ _ _ _ hc q => mul_int q hc.ok
theorem op_fdiv : OpR X (binaryOp .FloorDiv) (rI CDiv fun i j => .int (i / j)) := opI fun i j _ _ _ _ _ hc q => by
  have h1 : (0 : Int) < j := hc.1
  have h2 : j < 1073741824 := hc.2
  exact floordiv_int (by omega) (by rw [Int.fdiv_eq_ediv_of_nonneg i (by omega)]; exact q) (.inl (PyProof.noPylong_small (by omega)))
theorem op_mod : OpR X (binaryOp .Mod) (rI (fun _ j => 0 < j) fun i j => .int (i % j)) := opI fun i j _ _ _ _ _ hc q => by
  have h1 : (0 : Int) < j := hc
  exact mod_int' (by omega) (by rw [Int.fmod_eq_emod_of_nonneg i (by omega)]; exact q)
theorem unI {f : Value → Sem Value} {g : Int → Int}
    (rule : ∀ (i : Int) (t : Tok) (s : Shared) (Q : Value → Shared → Prop) (E : Value → Shared → Prop), Q (.int (g i) s.toks) { s with toks := s.toks + 1 } → wpAny (model X.prog X.w) X.A (f (.int i t)) Q E s) :
    UnR X f (rU fun i => .int (g i)) := by
  intro pins s σ H x v Q I rx h
  obtain ⟨i, rfl, q⟩ := h
  obtain ⟨t, rfl⟩ := rx
  exact rule i t s _ _ ⟨.int (g i), H, I.tok _, ⟨_, rfl⟩, q⟩
theorem un_neg : UnR X (unaryOp .USub) (rU fun i => .int (-i)) := unI fun _ _ _ _ _ q => neg_int q
end

noncomputable def scal : V → V → Bool
  | .non, .non => true | .non, .int _ => true | .int _, .non => true | .non, .bl _ => true | .bl _, .non => true | .non, .str _ => true | .str _, .non => true
  | .int _, .int _ => true | .bl _, .bl _ => true | .str _, .str _ => true | .byt _, .byt _ => true
  | .int _, .str _ => true | .str _, .int _ => true | .bl _, .str _ => true | .str _, .bl _ => true
  | _, _ => false
noncomputable def rEq : R2 := fun x y H Q => scal x y = true ∧ Q (.bl (decide (x = y))) H
noncomputable def rNe : R2 := fun x y H Q => scal x y = true ∧ Q (.bl (!decide (x = y))) H

theorem dec_int {i j : Int} : decide (V.int i = V.int j) = (i == j) := by
  rw [Bool.eq_iff_iff]
  simp
theorem dec_bl {i j : Bool} : decide (V.bl i = V.bl j) = (i == j) := by
  rw [Bool.eq_iff_iff]
  simp
theorem dec_str {i j : Str} : decide (V.str i = V.str j) = (i == j) := by
  rw [Bool.eq_iff_iff]
  simp
theorem dec_byt {i j : Array UInt8} : decide (V.byt i = V.byt j) = (i.toList == j.toList) := by
  rw [Bool.eq_iff_iff]
  cases i
  cases j
  simp

section
variable {X : Cx} {a b c : Expr} {ta tb tc : TE} {pos : Pos}
theorem fin_bl {pins : List (Addr × Obj)} {σ : St} {H : Hp} {s : Shared} {Q : VK} {k k' : Bool} (I : Inv X pins σ H s) (q : Q (.bl k) H) (e : k = k') : EP X pins σ Q (.bool k') s := by
  subst e
  exact ⟨.bl k, H, I, rfl, q⟩
theorem op_eq : OpR X (compareOp .Eq) rEq := by
  intro pins s σ H x y v u Q I rx ry h
  obtain ⟨hs, q⟩ := h
  cases x with
  | non =>
    cases rx
    cases y with
    | non => cases ry; exact PySem.EqNone.eq_none_none (fin_bl I q (by simp))
    | bl j => cases ry; exact PySem.EqNone.eq_none_bool (fin_bl I q (by simp))
    | int j => obtain ⟨t', rfl⟩ := ry; exact PySem.EqNone.eq_none_int (fin_bl I q (by simp))
    | str j => obtain ⟨t', rfl⟩ := ry; exact PySem.EqNone.eq_none_str (fin_bl I q (by simp))
    | _ => exact absurd (show false = true from hs) Bool.false_ne_true
  | bl i =>
    cases rx
    cases y with
    | non => cases ry; exact PySem.EqNone.eq_bool_none (fin_bl I q (by simp))
    | bl j => cases ry; exact eq_bool (fin_bl I q dec_bl)
    | str j => obtain ⟨t', rfl⟩ := ry; exact PySem.EqMixed.eq_bool_str (fin_bl I q (by simp))
    | _ => exact absurd (show false = true from hs) Bool.false_ne_true
  | int i =>
    obtain ⟨t, rfl⟩ := rx
    cases y with
    | non => cases ry; exact PySem.EqNone.eq_int_none (fin_bl I q (by simp))
    | int j => obtain ⟨t', rfl⟩ := ry; exact eq_int (fin_bl I q dec_int)
    | str j => obtain ⟨t', rfl⟩ := ry; exact PySem.EqMixed.eq_int_str (fin_bl I q (by simp))
    | _ => exact absurd (show false = true from hs) Bool.false_ne_true
  | str i =>
    obtain ⟨t, rfl⟩ := rx
    cases y with
    | non => cases ry; exact PySem.EqNone.eq_str_none (fin_bl I q (by simp))
    | bl j => cases ry; exact PySem.EqMixed.eq_str_bool (fin_bl I q (by simp))
    | int j => obtain ⟨t', rfl⟩ := ry; exact PySem.EqMixed.eq_str_int (fin_bl I q (by simp))
    | str j => obtain ⟨t', rfl⟩ := ry; exact eq_str (fin_bl I q dec_str)
    | _ => exact absurd (show false = true from hs) Bool.false_ne_true
  | byt i =>
    obtain ⟨t, rfl⟩ := rx
    cases y with
    | byt j => obtain ⟨t', rfl⟩ := ry; exact PySem.W.eq_bytes (fin_bl I q dec_byt)
    | _ => exact absurd (show false = true from hs) Bool.false_ne_true
  | _ => cases y <;> exact absurd (show false = true from hs) Bool.false_ne_true
theorem op_ne : OpR X (compareOp .NotEq) rNe := by
  intro pins s σ H x y v u Q I rx ry h
  obtain ⟨hs, q⟩ := h
  cases x with
  | non =>
    cases rx
    cases y with
    | non => cases ry; exact PySem.EqNone.ne_none_none (fin_bl I q (by simp))
    | bl j => cases ry; exact PySem.EqNone.ne_none_bool (fin_bl I q (by simp))
    | int j => obtain ⟨t', rfl⟩ := ry; exact PySem.EqNone.ne_none_int (fin_bl I q (by simp))
    | str j => obtain ⟨t', rfl⟩ := ry; exact PySem.EqNone.ne_none_str (fin_bl I q (by simp))
    | _ => exact absurd (show false = true from hs) Bool.false_ne_true
  | bl i =>
    cases rx
    cases y with
    | non => cases ry; exact PySem.EqNone.ne_bool_none (fin_bl I q (by simp))
    | bl j => cases ry; exact ne_bool (fin_bl I q (congrArg not dec_bl))
    | str j => obtain ⟨t', rfl⟩ := ry; exact PySem.EqMixed.ne_bool_str (fin_bl I q (by simp))
    | _ => exact absurd (show false = true from hs) Bool.false_ne_true
  | int i =>
    obtain ⟨t, rfl⟩ := rx
    cases y with
    | non => cases ry; exact PySem.EqNone.ne_int_none (fin_bl I q (by simp))
    | int j => obtain ⟨t', rfl⟩ := ry; exact ne_int (fin_bl I q (congrArg not dec_int))
    | str j => obtain ⟨t', rfl⟩ := ry; exact PySem.EqMixed.ne_int_str (fin_bl I q (by simp))
    | _ => exact absurd (show false = true from hs) Bool.false_ne_true
  | str i =>
    obtain ⟨t, rfl⟩ := rx
    cases y with
    | non => cases ry; exact PySem.EqNone.ne_str_none (fin_bl I q (by simp))
    | bl j => cases ry; exact PySem.EqMixed.ne_str_bool (fin_bl I q (by simp))
    | int j => obtain ⟨t', rfl⟩ := ry; exact PySem.EqMixed.ne_str_int (fin_bl I q (by simp))
    | str j => obtain ⟨t', rfl⟩ := ry; exact ne_str (fin_bl I q (congrArg not dec_str))
    | _ => exact absurd (show false = true from hs) Bool.false_ne_true
  | byt i =>
    obtain ⟨t, rfl⟩ := rx
    cases y with
    | byt j => obtain ⟨t', rfl⟩ := ry; exact PySem.W.ne_bytes (fin_bl I q (congrArg not dec_byt))
    | _ => exact absurd (show false = true from hs) Bool.false_ne_true
  | _ => cases y <;> exact absurd (show false = true from hs) Bool.false_ne_true

theorem op_lt : OpR X (compareOp .Lt) (rI0 fun i j => .bl (decide (i < j))) := opB0 fun _ _ _ _ _ _ _ q => lt_int q
theorem op_gt : OpR X (compareOp .Gt) (rI0 fun i j => .bl (decide (j < i))) := opB0 fun _ _ _ _ _ _ _ q => gt_int q
theorem op_in_str : OpR X (compareOp .In) (fun x y H Q => ∃ i j, x = .str i ∧ y = .str j ∧ Q (.bl (!(Builtin.Str.occurrences j i 0 j.length 1).isEmpty)) H) := by
  intro pins s σ H x y v u Q I rx ry h
  obtain ⟨i, j, rfl, rfl, q⟩ := h
  obtain ⟨t, rfl⟩ := rx
  obtain ⟨t', rfl⟩ := ry
  exact in_str (fin_bl I q rfl)

theorem op_notN : OpR X (compareOp .IsNot) (fun x y H Q => y = .non ∧ Q (.bl (!decide (x = .non))) H) := by
  intro pins s σ H x y v u Q I rx ry h
  obtain ⟨rfl, q⟩ := h
  cases ry
  refine isnot_none_gen (fin_bl I q ?_)
  cases x <;> first
    | (cases rx; rfl)
    | (obtain ⟨t, rfl⟩ := rx; rfl)

theorem OpR.or {f : Value → Value → Sem Value} {r r' : R2} (h : OpR X f r) (h' : OpR X f r') : OpR X f (fun x y H Q => r x y H Q ∨ r' x y H Q) := by
  intro pins s σ H x y v u Q I rx ry q
  rcases q with q | q
  · exact h pins s σ H x y v u Q I rx ry q
  · exact h' pins s σ H x y v u Q I rx ry q

theorem nomark (b : Expr) {op : CmpOp} (h : op ≠ .In := by decide) (h2 : op ≠ .NotIn := by decide) : behindInMarks op b = false := by
  have e1 : (op == CmpOp.In) = false := by cases op <;> first | rfl | exact absurd rfl h
  have e2 : (op == CmpOp.NotIn) = false := by cases op <;> first | rfl | exact absurd rfl h2
  cases b <;> simp [behindInMarks, e1, e2]
theorem pe_cmpR {op : CmpOp} {r : R2} (ho : OpR X (compareOp op) r) (ha : PE X a ta) (hb : PE X b tb) (hm : behindInMarks op b = false) : PE X (.Compare a [op] [b] pos) (tOp r ta tb) := by
  intro pins s σ H Q I h
  exact wpAny_Compare1 (binT ha hb I h fun v u s2 x y H2 I2 rx ry q => ho pins s2 σ H2 x y v u Q I2 rx ry q) hm
noncomputable def tTest (t : TE) : TT := fun σ H Q => t σ H fun x H' => ∃ k, x = .bl k ∧ Q k H'
theorem pt_cmpR {op : CmpOp} {r : R2} (ho : OpR X (compareOp op) r) (ha : PE X a ta) (hb : PE X b tb) (hm : behindInMarks op b = false) : PT X (.Compare a [op] [b] pos) (tTest (tOp r ta tb)) := by
  intro pins s σ H Q I h
  refine wpAny_isTrue_Compare1 (thn (ha pins s σ H _ I h) fun v s1 ⟨x, H1, I1, r1, q1⟩ => thn (hb pins s1 σ H1 _ I1 q1) fun u s2 ⟨y, H2, I2, r2, q2⟩ =>
    thn (ho pins s2 σ H2 x y v u _ I2 r1 r2 q2) fun c s3 ⟨z, H3, I3, r3, k, e, q3⟩ => ?_) hm
  subst e
  cases r3
  exact wpAny_truthy_bool ⟨H3, I3, q3⟩
noncomputable def tChain (r r' : R2) (ta tb tc : TE) : TE := fun σ H Q => ta σ H fun x H1 => tb σ H1 fun y H2 => r x y H2 fun z H3 => ∃ k, z = .bl k ∧
  (if k = true then tc σ H3 fun w' H4 => r' y w' H4 Q else Q (.bl false) H3)
theorem line63 : (sizeLine : Nat) < 2 ^ 63 := by rw [sizeLine_eq]; decide
theorem op_add_str : OpR X (binaryOp .Add) (fun x y H Q => ∃ i j, x = .str i ∧ y = .str j ∧ i.length + j.length ≤ sizeLine ∧ Q (.str (i ++ j)) H) := by
  intro pins s σ H x y v u Q I rx ry h
  obtain ⟨i, j, rfl, rfl, hz, q⟩ := h
  obtain ⟨t, rfl⟩ := rx
  obtain ⟨t', rfl⟩ := ry
  exact add_str (fun t' tk => ⟨.str (i ++ j), H, I.tok _, ⟨_, rfl⟩, q⟩) hz
theorem vals1 {x : V} {us : List Value} (r : Vals [x] us) : ∃ u, us = [u] ∧ RelV x u := by
  cases r with
  | cons r1 r2 => cases r2; exact ⟨_, rfl, r1⟩
theorem vals2 {x y : V} {us : List Value} (r : Vals [x, y] us) : ∃ u w', us = [u, w'] ∧ RelV x u ∧ RelV y w' := by
  cases r with
  | cons r1 r2 =>
    cases r2 with
    | cons r3 r4 => cases r4; exact ⟨_, _, rfl, r1, r3⟩
theorem call_int1 : CallR X (.type "int") (fun xs H Q => (∃ i, xs = [.int i] ∧ Q (.int i) H) ∨ ∃ k, xs = [.bl k] ∧ Q (.int (if k then 1 else 0)) H) := by
  intro pins s σ H xs us Q I r h
  rcases h with ⟨i, rfl, q⟩ | ⟨k, rfl, q⟩
  · obtain ⟨u, rfl, t, rfl⟩ := vals1 r
    exact call_int_int ⟨.int i, H, I, ⟨_, rfl⟩, q⟩
  · obtain ⟨u, rfl, r1⟩ := vals1 r
    cases r1
    exact call_int_bool ⟨.int (if k then 1 else 0), H, I.tok _, ⟨_, rfl⟩, q⟩
end
end L2

namespace L2
open PySem PySem.Spec PyProof.Rows

structure ObjM (h : Heap) (x dx C : Addr) (mA : Str → Option Value) : Prop where
  obj : h.get? x = some (PySem.W.instObj C dx)
  ns : h.Ns1 dx mA
  ne : dx ≠ x

theorem lookIn_ns {h : Heap} {dx : Addr} {mA : Str → Option Value} (n : h.Ns1 dx mA) : ∃ od, h.get? dx = some od ∧ ∀ name, PySem.W.lookIn name od = some (mA name) := by
  obtain ⟨o, es, ep, ho, hd, hk, _, hm⟩ := n
  refine ⟨o, ho, fun name => ?_⟩
  have e := hm name
  unfold nsFind findBy at e
  rw [← Array.find?_toList] at e
  unfold PySem.W.lookIn
  rw [hd]
  dsimp only
  split
  · rename_i y q
    rw [q] at e
    exact congrArg some e
  · rename_i q
    rw [q] at e
    have a : es.toList.any (·.refKey) = false := by
      rw [List.any_eq_false]
      intro y hy
      obtain ⟨z, t, hkey⟩ := hk y (Array.mem_toList_iff.mp hy)
      simp [DictEntry.refKey, hkey]
    have a' : ¬ es.toList.any (·.refKey) = true := by rw [a]; exact Bool.false_ne_true
    rw [if_neg a']
    exact congrArg some e

theorem ObjM.look {h : Heap} {x dx C : Addr} {mA : Str → Option Value} (I : ObjM h x dx C mA) : ∃ od, PySem.W.InstAt h x (PySem.W.instObj C dx) C (some od) ∧ ∀ name, PySem.W.lookIn name od = some (mA name) :=
  let ⟨od, ho, hl⟩ := lookIn_ns I.ns
  ⟨od, ⟨I.obj, rfl, rfl, ho⟩, hl⟩

section
variable {prog : Program} {w : World} {A : Around} {E : Value → Shared → Prop} {s : Shared} {K : PySem.W.Frag} {x dx C f : Addr} {mA : Str → Option Value} {name : Str} {v : Value}

theorem get_map {expr : Bool} {Q : Value → Shared → Prop} (X : K.In s.heap) (I : ObjM s.heap x dx C mA) (hg : PySem.W.plainGet K C name = true) (hh : PySem.W.hasDictIn K C = true)
    (ha : PySem.W.findIn K (.ref C) name = some none) (hv : mA name = some v) (hv' : PySem.W.handedIn v = true) (h : Q v { s with toks := s.toks + 1 }) :
    wpAny (model prog w) A (getAttr (.ref x) name expr) Q E s := by
  obtain ⟨od, J, hl⟩ := I.look
  exact PySem.W.get_value X J (PySem.W.plainGet_of hg).1 (PySem.W.findObj_own hh ha rfl (by rw [hl, hv])) hv' h

theorem get_meth {pl : Sem Bool} {Q : Value × List Value → Shared → Prop} (X : K.In s.heap) (I : ObjM s.heap x dx C mA) (hg : PySem.W.plainGet K C name = true)
    (hf : PySem.W.findIn K (.ref C) name = some (some (.ref f))) (ht : PySem.W.isFn K (.ref f) = true) (hv : mA name = none) (h : Q (.ref f, [.ref x]) s) :
    wpAny (model prog w) A (getMethod (.ref x) name pl) Q E s := by
  obtain ⟨od, J, hl⟩ := I.look
  exact PySem.W.method_fn X J (PySem.W.plainGet_of hg).1 (PySem.W.plainGet_of hg).2 hf (beq_iff_eq.mp ht) (by show (PySem.W.lookIn name od).map (·.isSome) = some false; rw [hl, hv]; rfl) h

theorem set_map {ns : List Str} {Q : Unit → Shared → Prop} (X : K.In s.heap) (I : ObjM s.heap x dx C mA)
    (hs : PySem.W.findIn K (.ref C) "__setattr__" = some (some (.builtin "object.__setattr__"))) (hp : PySem.W.plainOver K C = true) (ht : PySem.W.takerIn K C name = some none) (hh : PySem.W.hasDictIn K C = true)
    (hw : PySem.Within mA ns) (hsz : ns.length ≤ sizeLine)
    (h : ∀ h', ObjM h' x dx C (fun y => if y = name then some v else mA y) → Heap.SameBut dx s.heap h' → Q () { s with heap := h', toks := s.toks + 2 }) :
    wpAny (model prog w) A (setAttr (.ref x) name v) Q E s := by
  obtain ⟨od, J, hl⟩ := I.look
  refine PySem.W.set_plain X J hs (PySem.W.osa_open (s := { s with toks := s.toks + 1 }) (r := none) X J hp ht fun b => ?_)
  obtain ⟨cd, hc, hd'⟩ := PySem.W.any_some hh
  have hx : s.heap.get? x = some ⟨.ref C, some dx, .plain, #[]⟩ := I.obj
  refine wpAny_bind (wpAny_pure (wpAny_bind (wpAny_bind (wpAny_loadPart hx (wpAny_bind (PySem.W.Looks.here (s := { s with toks := s.toks + 1 }) (PySem.W.looks_clsIn X hc) ?_))))))
  rw [hd']
  refine wpAny_pure (a := some dx) (wpAny_bind (wpAny_pure (wpAny_bind ?_)))
  refine wpAny_nsSet1 (s := { s with toks := s.toks + 1 }) I.ns fun h' hn2 hs2 => ?_
  obtain ⟨oD, esD, epD, hoD, hdD, hcD⟩ := hn2.count (PySem.Within.cons name v hw)
  refine wpAny_bind (wpAny_lookBehind hoD (by rw [hdD]; exact pastItsLine_dict (Nat.le_trans hcD (by rw [List.length_cons]; omega))) ?_)
  exact wpAny_pure (h _ ⟨(hs2.2 _ (Ne.symm I.ne)).trans I.obj, hn2, I.ne⟩ hs2)

theorem make_map {R : Result → Shared → Prop} {vs : List Value} {kw : List (Str × Value)} (X : K.In s.heap) (hm : PySem.W.makesIn K C = true)
    (hi : PySem.W.findIn K (.ref C) "__init__" = some (some (.ref f))) (hf : PySem.W.typeIn K (.ref f) = some (.type "function"))
    (h : codeAny (model prog w) (A.under (.builtin "type.__call__" ⟨.ref C :: vs, kw⟩)) (.call (.ref f) ⟨.ref (s.heap.objs.size + 1) :: vs, kw⟩) (PySem.W.InitBack (s.heap.objs.size + 1) R)
      { s with heap := (s.heap.push PySem.W.emptyDict).push (PySem.W.instObj C s.heap.objs.size) }) :
    codeAny (model prog w) A (.call (.ref C) ⟨vs, kw⟩) R s := by
  obtain ⟨hh, g, d, t, os⟩ := s
  exact PySem.W.make_core (PySem.W.makes_of X hm) (PySem.W.looks_findIn X hi) (fun self => PySem.W.bind_fn X self hf) (.inl rfl) h
end

noncomputable def putF (f : Str) (v : V) : List (Str × V) → List (Str × V)
  | [] => [(f, v)]
  | (g, x) :: r => if g = f then (g, v) :: r else (g, x) :: putF f v r
theorem lookup_putF (f g : Str) (v : V) : ∀ fs : List (Str × V), (putF f v fs).lookup g = if g = f then some v else fs.lookup g
  | [] => by
    show List.lookup g [(f, v)] = _
    by_cases h : g = f
    · have hb : (g == f) = true := beq_iff_eq.mpr h
      simp only [List.lookup, hb, if_pos h]
    · have hb : (g == f) = false := beq_eq_false_iff_ne.mpr h
      simp only [List.lookup, hb, if_neg h]
  | (k, x) :: r => by
    have ih := lookup_putF f g v r
    rw [show putF f v ((k, x) :: r) = (if k = f then (k, v) :: r else (k, x) :: putF f v r) from rfl]
    by_cases hk : k = f
    · rw [if_pos hk]
      by_cases h : g = k
      · have hb : (g == k) = true := beq_iff_eq.mpr h
        simp only [List.lookup, hb, if_pos (h.trans hk)]
      · have hb : (g == k) = false := beq_eq_false_iff_ne.mpr h
        simp only [List.lookup, hb, if_neg (fun e : g = f => h (e.trans hk.symm))]
    · rw [if_neg hk]
      by_cases h : g = k
      · have hb : (g == k) = true := beq_iff_eq.mpr h
        simp only [List.lookup, hb, if_neg (fun e : g = f => hk (h.symm.trans e))]
      · have hb : (g == k) = false := beq_eq_false_iff_ne.mpr h
        simp only [List.lookup, hb]
        exact ih
theorem keys_putF (f : Str) (v : V) : ∀ fs : List (Str × V), f ∈ (putF f v fs).map (·.1) ∧ ∀ g, g ∈ fs.map (·.1) → g ∈ (putF f v fs).map (·.1)
  | [] => ⟨by simp [putF], fun g h => by simp at h⟩
  | (k, x) :: r => by
    obtain ⟨i1, i2⟩ := keys_putF f v r
    rw [show putF f v ((k, x) :: r) = (if k = f then (k, v) :: r else (k, x) :: putF f v r) from rfl]
    by_cases hk : k = f
    · rw [if_pos hk]
      subst hk
      exact ⟨by simp, fun g h => by simpa using h⟩
    · rw [if_neg hk]
      refine ⟨?_, fun g h => ?_⟩
      · rw [List.map_cons]
        exact List.mem_cons_of_mem _ i1
      · rw [List.map_cons] at h ⊢
        rcases List.mem_cons.mp h with e | e
        · exact List.mem_cons.mpr (.inl e)
        · exact List.mem_cons_of_mem _ (i2 g e)
theorem length_putF (f : Str) (v : V) : ∀ fs : List (Str × V), (putF f v fs).length ≤ fs.length + 1
  | [] => by simp [putF]
  | (k, x) :: r => by
    have ih := length_putF f v r
    rw [show putF f v ((k, x) :: r) = (if k = f then (k, v) :: r else (k, x) :: putF f v r) from rfl]
    by_cases hk : k = f
    · rw [if_pos hk, List.length_cons, List.length_cons]; omega
    · rw [if_neg hk, List.length_cons, List.length_cons]; omega

theorem RelO.some_of {v : V} {o : Option Value} (r : RelO (some v) o) : ∃ u, o = some u ∧ RelV v u := by
  cases o with
  | none => exact (show False from r).elim
  | some u => exact ⟨u, rfl, r⟩
theorem RelO.none_of {o : Option Value} (r : RelO none o) : o = none := by
  cases o with
  | none => rfl
  | some u => exact (show False from r).elim
theorem handed_of {v : V} {u : Value} (r : RelV v u) : PySem.W.handedIn u = true := by
  cases v with
  | non => cases (show u = Value.none from r); rfl
  | bl b => cases (show u = Value.bool b from r); rfl
  | int i => obtain ⟨t, e⟩ := (show ∃ t, u = Value.int i t from r); cases e; rfl
  | str x => obtain ⟨t, e⟩ := (show ∃ t, u = Value.str x t from r); cases e; rfl
  | byt b => obtain ⟨t, e⟩ := (show ∃ t, u = Value.bytes b t from r); cases e; rfl
  | flt b => obtain ⟨t, e⟩ := (show ∃ t, u = Value.float b t from r); cases e; rfl
  | ref a => cases (show u = Value.ref a from r); rfl
  | ty n => cases (show u = Value.type n from r); rfl

section
variable {P : Program} {w : World} {H H' : Hp} {h h' : Heap} {a C dx : Addr} {fs fs' : List (Str × V)}
theorem ins_get (hok : HOk P w H h) (e : H a = some (.ins C dx fs)) : ∃ mA, ObjM h a dx C mA ∧ (∀ f, RelO (fs.lookup f) (mA f)) ∧ PySem.Within mA (fs.map (·.1)) ∧ fs.length ≤ 1000 ∧ H dx = some (.own a) := by
  obtain ⟨d, z, ne, ob, mA, n, r, q⟩ := (show ObjOk P w H h a (.ins C dx fs) from hok a _ e)
  exact ⟨mA, ⟨ob, n, ne⟩, r, q, z, d⟩
end

structure Cls (K : PySem.W.Frag) (C : Addr) : Prop where
  pg : PySem.W.plainGet K C Str.empty = true
  hd : PySem.W.hasDictIn K C = true
  po : PySem.W.plainOver K C = true
  sa : PySem.W.findIn K (.ref C) "__setattr__" = some (some (.builtin "object.__setattr__"))
theorem Cls.get {K : PySem.W.Frag} {C : Addr} (c : Cls K C) (f : Str) : PySem.W.plainGet K C f = true := c.pg
noncomputable def NoAttr (K : PySem.W.Frag) (C : Addr) (f : Str) : Prop := PySem.W.findIn K (.ref C) f = some none
theorem NoAttr.taker {K : PySem.W.Frag} {C : Addr} {f : Str} (n : NoAttr K C f) : PySem.W.takerIn K C f = some none := by
  unfold PySem.W.takerIn
  rw [show PySem.W.findIn K (.ref C) f = some none from n]
  rfl
structure Meth (K : PySem.W.Frag) (C : Addr) (m : Str) (f : Addr) : Prop where
  at_ : PySem.W.findIn K (.ref C) m = some (some (.ref f))
  fn : PySem.W.isFn K (.ref f) = true
  kp : PySem.W.keepIn K (.ref f) = true

section
variable {X : Cx} {pins : List (Addr × Obj)} {σ : St} {H : Hp} {s : Shared} {a C dx : Addr} {fs : List (Str × V)} {f : Str} {v : V} {A : Around} {E : Value → Shared → Prop}

theorem getattr_ok {b : Bool} {Q : Value → Shared → Prop} (I : Inv X pins σ H s) (e : H a = some (.ins C dx fs)) (c : Cls X.K C) (n : NoAttr X.K C f) (l : fs.lookup f = some v)
    (h : ∀ u s', Inv X pins σ H s' → RelV v u → Q u s') : wpAny (model X.prog X.w) A (getAttr (.ref a) f b) Q E s := by
  obtain ⟨mA, O, r, _, _, _⟩ := ins_get I.hok e
  obtain ⟨u, hu, ru⟩ := RelO.some_of (v := v) (o := mA f) (by rw [← l]; exact r f)
  exact get_map I.kIn O (c.get f) c.hd n hu (handed_of ru) (h u _ (I.tok _) ru)

theorem getmeth_ok {m : Str} {g : Addr} {pl : Sem Bool} {Q : Value × List Value → Shared → Prop} (I : Inv X pins σ H s) (e : H a = some (.ins C dx fs)) (c : Cls X.K C) (k : Meth X.K C m g) (l : fs.lookup m = none)
    (h : Q (.ref g, [.ref a]) s) : wpAny (model X.prog X.w) A (getMethod (.ref a) m pl) Q E s := by
  obtain ⟨mA, O, r, _, _, _⟩ := ins_get I.hok e
  have hn : mA m = none := RelO.none_of (by rw [← l]; exact r m)
  exact get_meth I.kIn O (c.get m) k.at_ k.fn hn h

theorem setattr_ok {y : V} {u : Value} {Q : Unit → Shared → Prop} (I : Inv X pins σ H s) (e : H a = some (.ins C dx fs)) (c : Cls X.K C) (n : NoAttr X.K C f) (hl : fs.length < 1000) (ry : RelV y u)
    (h : ∀ s', Inv X pins σ (upd H a (.ins C dx (putF f y fs))) s' → Q () s') : wpAny (model X.prog X.w) A (setAttr (.ref a) f u) Q E s := by
  obtain ⟨mA, O, r, wi, _, ho⟩ := ins_get I.hok e
  have hz : (fs.map (·.1)).length ≤ sizeLine := by rw [List.length_map, sizeLine_eq]; omega
  refine set_map I.kIn O c.sa c.po n.taker c.hd wi hz fun h' O' sb => h _ ?_
  have hd : ∃ o, h'.get? dx = some o := let ⟨o, _, _, e', _⟩ := O'.ns; ⟨o, e'⟩
  refine I.write (x := a) (e := dx) (by rw [e]; exact True.intro) (.inr ho) (fun b q hb z => (sb.2 b hb).trans z) hd ?_
  refine ⟨by rw [upd_ne O.ne]; exact ho, ?_, O.ne, O'.obj, _, O'.ns, fun g => ?_, fun g hg => ?_⟩
  · have := length_putF f y fs; omega
  · show RelO ((putF f y fs).lookup g) (if g = f then some u else mA g)
    rw [lookup_putF]
    by_cases q : g = f
    · rw [if_pos q, if_pos q]; exact ry
    · rw [if_neg q, if_neg q]; exact r g
  · by_cases q : g = f
    · rw [q]; exact (keys_putF f y fs).1
    · refine (keys_putF f y fs).2 g (wi g fun z => hg ?_)
      show (if g = f then some u else mA g) = none
      rw [if_neg q]; exact z

theorem Inv.made (I : Inv X pins σ H s) : Inv X pins σ (upd (upd H s.heap.objs.size (.own (s.heap.objs.size + 1))) (s.heap.objs.size + 1) (.ins C s.heap.objs.size []))
    { s with heap := (s.heap.push PySem.W.emptyDict).push (PySem.W.instObj C s.heap.objs.size) } := by
  have e1 : (s.heap.push PySem.W.emptyDict).get? s.heap.objs.size = some PySem.W.emptyDict := Heap.get?_push_size s.heap rfl
  have e2 : ((s.heap.push PySem.W.emptyDict).push (PySem.W.instObj C s.heap.objs.size)).get? (s.heap.objs.size + 1) = some (PySem.W.instObj C s.heap.objs.size) := by
    have := Heap.get?_push_size (s.heap.push PySem.W.emptyDict) (o := PySem.W.instObj C s.heap.objs.size) rfl
    rwa [Heap.size_push] at this
  have e3 : (s.heap.push PySem.W.emptyDict).Ns s.heap.objs.size (fun _ => none) := ⟨PySem.W.emptyDict, #[], _, e1, rfl, (fun e he => absurd he (by simp)), fun _ => rfl⟩
  have I1 := I.laid (a := s.heap.objs.size) (o := .own (s.heap.objs.size + 1)) (h' := s.heap.push PySem.W.emptyDict) (t' := s.toks) (fun b u q => Heap.get?_push_of_some _ q) (Nat.le_refl _) ⟨_, e1⟩
  refine I1.laid (a := s.heap.objs.size + 1) (o := .ins C s.heap.objs.size []) (t' := s.toks) (fun b u q => Heap.get?_push_of_some _ q) (Nat.le_of_eq (Heap.size_push _ _)) ?_
  have ne : s.heap.objs.size ≠ s.heap.objs.size + 1 := Nat.ne_of_lt (Nat.lt_succ_self _)
  refine ⟨by rw [upd_ne ne, upd_same], Nat.zero_le _, ne, e2, fun _ => none, (Heap.Ns1.of_empty e3).at fun o q => Heap.get?_push_of_some _ q, fun _ => True.intro, fun y hy => absurd rfl hy⟩

theorem attr_of {prog : Program} {w : World} {env : Env} {e : Expr} {f : Str} {pos : Pos} {s : Shared} {Q : Value → Shared → Prop} (hb : attributeBase e f env (eval e env) = eval e env)
    (h : wpAny (model prog w) A (eval e env) (fun o s₁ => wpAny (model prog w) A (getAttr o f true) Q E s₁) E s) : wpAny (model prog w) A (eval (.Attribute e f pos) env) Q E s :=
  Attribute_any_ h (by rw [arm_eval_Attribute, hb])
end

noncomputable def tFld (K : PySem.W.Frag) (ta : TE) (f : Str) : TE := fun σ H Q => ta σ H fun x H1 => ∃ a C dx fs v, x = .ref a ∧ H1 a = some (.ins C dx fs) ∧ Cls K C ∧ NoAttr K C f ∧ fs.lookup f = some v ∧ Q v H1
noncomputable def sFld (K : PySem.W.Frag) (ta tv : TE) (f : Str) : TS := fun D σ H => tv σ H fun y H1 => ta σ H1 fun x H2 => ∃ a C dx fs, x = .ref a ∧ H2 a = some (.ins C dx fs) ∧ Cls K C ∧ NoAttr K C f ∧ fs.length < 1000 ∧
  D.nx σ (upd H2 a (.ins C dx (putF f y fs)))
section
variable {X : Cx} {o e value : Expr} {f : Str} {pos pos' tpos : Pos} {ta tv : TE}
theorem pe_fld (he : PE X e ta) (hb : attributeBase e f X.env (eval e X.env) = eval e X.env) : PE X (.Attribute e f pos) (tFld X.K ta f) := by
  intro pins s σ H Q I h
  refine attr_of hb (thn (he pins s σ H _ I h) fun u s1 zz => ?_)
  obtain ⟨x, H1, I1, rx, a, C, dx, fs, v, ex, ea, c, n, l, q⟩ := zz
  subst ex
  obtain rfl : u = Value.ref a := rx
  exact getattr_ok I1 ea c n l fun u' s2 I2 ru => ⟨v, H1, I2, ru, q⟩
theorem ps_fld (ha : PE X o ta) (hv : PE X value tv) (hs : swapsWith value (some (.Attribute o f pos')) pos.line X.env = pure false) : PS X (.Assign [.Attribute o f pos'] value pos) (sFld X.K ta tv f) := by
  intro pins s σ H D I h
  refine plainObj_wpAny_Assign_Attribute (thn (hv pins s σ H _ I h) fun u s1 ⟨y, H1, I1, ry, q⟩ => thn (ha pins s1 σ H1 _ I1 q) fun ov s2 zz => ?_) hs
  obtain ⟨x, H2, I2, rx, a, C, dx, fs, ex, ea, c, n, l, q2⟩ := zz
  subst ex
  obtain rfl : ov = Value.ref a := rx
  exact setattr_ok I2 ea c n l ry fun s3 I3 => ⟨σ, _, I3, q2⟩
end

section
variable {X : Cx} {pins : List (Addr × Obj)} {σ : St} {H : Hp} {s : Shared} {A : Around} {E : Value → Shared → Prop} {Q : Value → Shared → Prop} {c : Value} {b : Bool}
inductive TyOf (K : PySem.W.Frag) (H : Hp) : V → Value → Prop where
  | non : TyOf K H .non (.type "NoneType")
  | bl (x : Bool) : TyOf K H (.bl x) (.type "bool")
  | int (i : Int) : TyOf K H (.int i) (.type "int")
  | str (x : Str) : TyOf K H (.str x) (.type "str")
  | flt (x : UInt64) : TyOf K H (.flt x) (.type "float")
  | lst {a : Addr} {xs : List V} (e : H a = some (.lst xs)) : TyOf K H (.ref a) (.type "list")
  | frz {a : Addr} {o : Obj} {xs : List V} (e : H a = some (.frz o (.lst xs))) : TyOf K H (.ref a) (.type "list")
  | tup {a : Addr} {xs : List V} (e : H a = some (.tup xs)) : TyOf K H (.ref a) (.type "tuple")
  | dK {a : Addr} {kvs : List (Key × V)} (e : H a = some (.dK kvs)) : TyOf K H (.ref a) (.type "dict")
  | dT {a : Addr} {kvs : List (List Key × V)} (e : H a = some (.dT kvs)) : TyOf K H (.ref a) (.type "dict")
  | ins {a C dx : Addr} {fs : List (Str × V)} (e : H a = some (.ins C dx fs)) (cl : Cls K C) (ha : PySem.W.findIn K (.ref C) "__class__" = some (some (.builtin "object.__class__")))
      (hn : PySem.W.specialIn K (.builtin "object.__class__") "__get__" = some (some (.builtin "getset_descriptor.__get__"))) (htk : PySem.W.takesIn K (.builtin "object.__class__") = some true)
      (hm : PySem.W.mroIn K C (.type "object") = some true) : TyOf K H (.ref a) (.ref C)
theorem isinst_ok {x : V} {u t : Value} (I : Inv X pins σ H s) (rx : RelV x u) (ty : TyOf X.K H x t) (e : PySem.W.kitOne X.K t c = some b) (h : ∀ tk, Q (.bool b) { s with toks := tk }) :
    wpAny (model X.prog X.w) A (call (.builtin "isinstance") [u, c]) Q E s := by
  cases ty with
  | non => cases (show u = Value.none from rx); exact PySem.W.kia_one PySem.W.kitx_none I.kIn True.intro e (fun z => nomatch z) h
  | bl y => cases (show u = Value.bool y from rx); exact PySem.W.kia_one PySem.W.kitx_bool I.kIn True.intro e (fun z => nomatch z) h
  | int i => obtain ⟨t, q⟩ := (show ∃ t, u = Value.int i t from rx); cases q; exact PySem.W.kia_one PySem.W.kitx_int I.kIn True.intro e (fun z => nomatch z) h
  | str y => obtain ⟨t, q⟩ := (show ∃ t, u = Value.str y t from rx); cases q; exact PySem.W.kia_one PySem.W.kitx_str I.kIn True.intro e (fun z => nomatch z) h
  | flt y => obtain ⟨t, q⟩ := (show ∃ t, u = Value.float y t from rx); cases q; exact PySem.W.kia_one PySem.W.kitx_float I.kIn True.intro e (fun z => nomatch z) h
  | @lst a xs ea =>
    cases (show u = Value.ref a from rx)
    obtain ⟨_, _, n, _, h1⟩ := (show ObjOk X.prog X.w H s.heap a (.lst xs) from I.hok a _ ea)
    exact PySem.W.kia_one PySem.W.kitx_list I.kIn ⟨_, h1, rfl⟩ e (fun z => nomatch z) h
  | @frz a ob xs ea =>
    cases (show u = Value.ref a from rx)
    obtain ⟨_, _, _, n, _, h1⟩ := (show ObjOk X.prog X.w H s.heap a (.frz ob (.lst xs)) from I.hok a _ ea)
    exact PySem.W.kia_one PySem.W.kitx_list I.kIn ⟨_, h1, rfl⟩ e (fun z => nomatch z) h
  | @tup a xs ea =>
    cases (show u = Value.ref a from rx)
    obtain ⟨_, _, _, p⟩ := (show ObjOk X.prog X.w H s.heap a (.tup xs) from I.hok a _ ea)
    obtain ⟨o, h1, h2, _⟩ := p
    exact PySem.W.kia_one PySem.W.kitx_tuple I.kIn ⟨o, h1, h2⟩ e (fun z => nomatch z) h
  | @dK a kvs ea =>
    cases (show u = Value.ref a from rx)
    obtain ⟨_, _, vs, _, p⟩ := (show ObjOk X.prog X.w H s.heap a (.dK kvs) from I.hok a _ ea)
    obtain ⟨o, es, ep, h1, h2, _⟩ := p
    exact PySem.W.kia_one PySem.W.kitx_dict I.kIn ⟨o, h1, h2.1⟩ e (fun z => nomatch z) h
  | @dT a kvs ea =>
    cases (show u = Value.ref a from rx)
    obtain ⟨_, _, xs, _, o, es, ep, h1, h2, _⟩ := (show ObjOk X.prog X.w H s.heap a (.dT kvs) from I.hok a _ ea)
    exact PySem.W.kia_one PySem.W.kitx_dict I.kIn ⟨o, h1, h2.1⟩ e (fun z => nomatch z) h
  | @ins a C dx fs ea cl ha hn htk hm =>
    cases (show u = Value.ref a from rx)
    obtain ⟨mA, O, _⟩ := ins_get I.hok ea
    obtain ⟨od, J, _⟩ := O.look
    exact PySem.W.kia_one (PySem.W.kitx_own (cl.get _) cl.hd ha hn htk hm) I.kIn J e (fun z => nomatch z) h
end
end L2

namespace L2
open PySem PySem.Spec PyProof.Rows

structure Room (k : Nat) (A : Around) : Prop where
  hd : A.handled = none
  dp : A.depth + 3 * k + 5 < recursionLimit
  un : A.units + 16 * k + 200 < cLine
theorem Room.mono {j k : Nat} {A : Around} (r : Room k A) (h : j ≤ k) : Room j A := ⟨r.hd, by have := r.dp; omega, by have := r.un; omega⟩
theorem Room.deeper {k : Nat} {A : Around} (r : Room (k + 1) A) (env : Env) : Room k (A.deeper env) :=
  ⟨r.hd, by have := r.dp; show A.depth + 1 + 3 * k + 5 < _; omega, by have := r.un; show A.units + 3 + 16 * k + 200 < _; omega⟩
theorem Room.in1 {k : Nat} {A : Around} (r : Room (k + 1) A) : Room k A.in1 :=
  ⟨r.hd, by have := r.dp; show A.depth + 3 * k + 5 < _; omega, by have := r.un; show A.units + 1 + 16 * k + 200 < _; omega⟩
theorem make_depth {A : Around} {C : Addr} {us : List Value} {kw : List (Str × Value)} : (A.under (.builtin "type.__call__" ⟨.ref C :: us, kw⟩)).depth = A.depth + 1 := by
  first | rfl | simp [Around.under, Code.weight, Code.isCreation, Code.isGuard, Code.isCaller, Code.frames, Code.isFrame, guardIds]
theorem make_units {A : Around} {C : Addr} {us : List Value} {kw : List (Str × Value)} : (A.under (.builtin "type.__call__" ⟨.ref C :: us, kw⟩)).units = A.units + 1 := by
  first | rfl | simp [Around.under, Code.cUnits, Code.frames, Code.isFrame]
theorem Room.make {k : Nat} {A : Around} (r : Room (k + 1) A) (C : Addr) (us : List Value) (kw : List (Str × Value)) : Room k (A.under (.builtin "type.__call__" ⟨.ref C :: us, kw⟩)) :=
  ⟨r.hd, by have := r.dp; rw [make_depth]; omega, by have := r.un; rw [make_units]; omega⟩
theorem Room.depth {k : Nat} {A : Around} (r : Room k A) : A.depth < recursionLimit := by have := r.dp; omega
theorem Room.units {k : Nat} {A : Around} (r : Room k A) : A.units + 64 < cLine := by have := r.un; omega
theorem Room.units0 {k : Nat} {A : Around} (r : Room k A) : A.units < cLine := by have := r.un; omega

noncomputable def tNil : TA := fun _ H Q => Q [] H
noncomputable def tCons (ta : TE) (tr : TA) : TA := fun σ H Q => ta σ H fun x H1 => tr σ H1 fun xs H2 => Q (x :: xs) H2
section
variable {X : Cx} {e : Expr} {es : List Expr} {te : TE} {t : TA} {pos : Pos}
theorem pa_nil : PA X [] tNil := fun _ _ _ _ H Q I h => Calls.spliced_nil ⟨[], H, I, .nil, h⟩
theorem pa_cons (ha : PE X e te) (hr : PA X es t) (hs : starEach (e :: es) X.env = (false, eval e X.env) :: starEach es X.env := by rfl) : PA X (e :: es) (tCons te t) := by
  intro pos pins s σ H Q I h
  rw [hs]
  show wpAny _ _ (spliced ((false, eval e X.env) :: backTo pos (starEach es X.env))) _ _ s
  refine Calls.spliced_cons (thn (ha pins s σ H _ I h) fun u s1 ⟨x, H1, I1, r1, q1⟩ => ?_)
  exact thn (hr pos pins s1 σ H1 _ I1 q1) fun us s2 ⟨xs, H2, I2, r2, q2⟩ => ⟨x :: xs, H2, I2, .cons r1 r2, q2⟩

noncomputable def tTup (t : TA) : TE := fun σ H Q => t σ H fun xs H1 => xs.length ≤ sizeLine ∧ ∀ p, H1 p = none → Q (.ref p) (upd H1 p (.tup xs))
noncomputable def tLst (t : TA) : TE := fun σ H Q => t σ H fun xs H1 => xs.length ≤ sizeLine ∧ ∀ p, H1 p = none → Q (.ref p) (upd H1 p (.lst xs))
theorem pe_tup {x1} (h : PA X es t) : PE X (.Tuple es x1 pos) (tTup t) := by
  intro pins s σ H Q I hq
  refine wpAny_Tuple_spliced (thn (h pos pins s σ H _ I hq) fun us s1 ⟨xs, H1, I1, r, z, q⟩ => ⟨by rw [← r.length]; exact z, ?_⟩)
  have hf : H1 s1.heap.objs.size = none := I1.hok.fresh (Nat.le_refl _)
  refine ⟨.ref s1.heap.objs.size, upd H1 s1.heap.objs.size (.tup xs), I1.laid (t' := s1.toks) (fun b u e => Heap.get?_push_of_some _ e) (Nat.le_refl _) ?_, rfl, q _ hf⟩
  exact ⟨z, us, r, ⟨_, Heap.get?_push_size _ rfl, rfl, _, rfl⟩⟩
theorem pe_lst (h : PA X es t) : PE X (.List es pos) (tLst t) := by
  intro pins s σ H Q I hq
  refine wpAny_List_spliced (thn (h pos pins s σ H _ I hq) fun us s1 ⟨xs, H1, I1, r, z, q⟩ => ⟨by rw [← r.length]; exact z, ?_⟩)
  have hf : H1 s1.heap.objs.size = none := I1.hok.fresh (Nat.le_refl _)
  refine ⟨.ref s1.heap.objs.size, upd H1 s1.heap.objs.size (.lst xs), I1.laid (t' := s1.toks) (fun b u e => Heap.get?_push_of_some _ e) (Nat.le_refl _) ?_, rfl, q _ hf⟩
  exact ⟨z, us, 0, r, Heap.get?_push_size _ rfl⟩
end

noncomputable abbrev Sp := List V → Hp → VK → XK → Prop
noncomputable abbrev CXT := List Env → Hp → Shared → XK → Value → Shared → Prop

structure Env0 (P : Program) (w : World) (K : PySem.W.Frag) (mg : Str → Option Value) (base : Heap) (A : Around) (outer : List Env) (s : Shared) (H : Hp) : Prop where
  frames : A.frames = some outer
  mod : Mod K mg base
  bs : ∀ b o, base.get? b = some o → s.heap.get? b = some o ∧ H b = none
  bsz : base.objs.size ≤ s.heap.objs.size
  funs : s.heap.FunFrames base outer
  frf : ∀ b ∈ frs outer, H b = none
  hok : HOk P w H s.heap
  bare : AllBare s.gens
noncomputable def CE (outer : List Env) (P : Program) (w : World) (H : Hp) (s : Shared) (Q : VK) (u : Value) (s' : Shared) : Prop :=
  ∃ v H', s'.os = s.os ∧ AllBare s'.gens ∧ Un (frs outer) [] H H' s.heap s'.heap ∧ HOk P w H' s'.heap ∧ RelV v u ∧ Q v H'
noncomputable def CR (CX : CXT) (outer : List Env) (P : Program) (w : World) (H : Hp) (s : Shared) (Q : VK) (E : XK) (r : Result) (s' : Shared) : Prop :=
  match r with
  | .ok (.ret u) => CE outer P w H s Q u s'
  | .ok _ => False
  | .error e => CX outer H s E e s'
structure FnOk (P : Program) (w : World) (K : PySem.W.Frag) (mg : Str → Option Value) (base : Heap) (CX : CXT) (k : Nat) (f : Addr) (fd : FuncData) (ps : List Str) (sp : Sp) : Prop where
  len : ∀ vs H Q E, sp vs H Q E → vs.length = ps.length
  run : ∀ (A : Around) (outer : List Env) (s : Shared) (H : Hp) (args : Args) (us : List Value) (vs : List V) (Q : VK) (E : XK), Room k A → Env0 P w K mg base A outer s H → BindsTo s fd args (ps.zip us) → Vals vs us → sp vs H Q E →
    codeAny (model P w) A (.call (.ref f) args) (CR CX outer P w H s Q E) s
theorem Env0.make {P : Program} {w : World} {K : PySem.W.Frag} {mg : Str → Option Value} {base : Heap} {A : Around} {outer : List Env} {s : Shared} {H : Hp} (e : Env0 P w K mg base A outer s H) (C : Addr) (us : List Value) (kw : List (Str × Value)) :
    Env0 P w K mg base (A.under (.builtin "type.__call__" ⟨.ref C :: us, kw⟩)) outer s H := ⟨by first | exact e.frames | (simpa [Around.under, Code.envs, Code.isFrame, pushEnvs] using e.frames), e.mod, e.bs, e.bsz, e.funs, e.frf, e.hok, e.bare⟩
theorem Env0.in1 {P : Program} {w : World} {K : PySem.W.Frag} {mg : Str → Option Value} {base : Heap} {A : Around} {outer : List Env} {s : Shared} {H : Hp} (e : Env0 P w K mg base A outer s H) :
    Env0 P w K mg base A.in1 outer s H := ⟨e.frames, e.mod, e.bs, e.bsz, e.funs, e.frf, e.hok, e.bare⟩

section
variable {X : Cx} {pins : List (Addr × Obj)} {σ : St} {H : Hp} {s s' : Shared}
theorem Inv.env0 (I : Inv X pins σ H s) : Env0 X.prog X.w X.K X.mg X.base X.A X.stack s H :=
  ⟨I.ok.frames, I.ok.mod, I.bs, Nat.le_trans I.ok.bsz I.sz, I.stack, I.stkFree, I.hok, I.bare⟩
theorem Inv.after {Q : VK} {u : Value} (I : Inv X pins σ H s) (h : CE X.stack X.prog X.w H s Q u s') : EP X pins σ Q u s' := by
  obtain ⟨v, H', os, bare, un, hok, r, q⟩ := h
  obtain ⟨hh, g, d, t, os'⟩ := s'
  obtain rfl : os' = s.os := os
  exact ⟨v, H', I.call (h' := hh) (g' := g) (d' := d) (t' := t) (ch := []) un hok bare (fun b z => absurd z (by simp)), r, q⟩
end

noncomputable def tCall (sp : Sp) (dvs : List V) (E : XK) (t : TA) : TE := fun σ H Q => t σ H fun vs H1 => sp (vs ++ dvs) H1 Q E
noncomputable def tMeth (C : Addr) (m : Str) (sp : Sp) (dvs : List V) (E : XK) (ta : TE) (t : TA) : TE := fun σ H Q => ta σ H fun x H1 => ∃ a dx fs, x = .ref a ∧ H1 a = some (.ins C dx fs) ∧ fs.lookup m = none ∧
  t σ H1 fun vs H2 => sp (x :: (vs ++ dvs)) H2 Q E
noncomputable def tMake (C : Addr) (sp : Sp) (dvs : List V) (E : XK) (t : TA) : TE := fun σ H Q => t σ H fun vs H1 => ∀ x dx, H1 x = none → H1 dx = none → dx ≠ x →
  sp (.ref x :: (vs ++ dvs)) (upd (upd H1 dx (.own x)) x (.ins C dx [])) (fun v H2 => v = .non ∧ Q (.ref x) H2) E

noncomputable def Binds (K : PySem.W.Frag) (fd : FuncData) (ps : List Str) (ds : List Value) : Prop :=
  ∀ (s : Shared) (us : List Value), K.In s.heap → (us ++ ds).length = ps.length → BindsTo s fd ⟨us, []⟩ (ps.zip (us ++ ds))
theorem Binds.all {K : PySem.W.Frag} {fd : FuncData} {ps : List Str} (h : ∀ us : List Value, us.length = ps.length → bindArgs fd ⟨us, []⟩ = pure (ps.zip us)) : Binds K fd ps [] := fun s us _ hl => by
  rw [List.append_nil] at hl ⊢
  exact .of_eq (h us hl)

noncomputable def Passes (CX : CXT) (X : Cx) (E : XK) : Prop := ∀ (pins : List (Addr × Obj)) (σ : St) (H : Hp) (s : Shared) (e : Value) (s' : Shared), Inv X pins σ H s → CX X.stack H s E e s' → X.xe e s'

section
variable {X : Cx} {CX : CXT} {k : Nat} {f C : Addr} {fd : FuncData} {ps : List Str} {sp : Sp} {dvs : List V} {ds : List Value} {E : XK} {x m : Str} {p pos apos : Pos} {e o : Expr} {es : List Expr} {ta : TE} {t : TA}

theorem run_fn {pins : List (Addr × Obj)} {σ : St} {H : Hp} {s : Shared} {Q : VK} {us : List Value} {vs : List V} (F : FnOk X.prog X.w X.K X.mg X.base CX k f fd ps sp) (hr : Room k X.A) (hb : Binds X.K fd ps ds) (hd : Vals dvs ds) (hx : Passes CX X E)
    (I : Inv X pins σ H s) (r : Vals vs us) (h : sp (vs ++ dvs) H Q E) : wpAny (model X.prog X.w) X.A (call (.ref f) us) (EP X pins σ Q) X.xe s := by
  have r2 : Vals (vs ++ dvs) (us ++ ds) := r.append hd
  have hl : (us ++ ds).length = ps.length := by rw [← r2.length]; exact F.len _ _ _ _ h
  refine wpAny_call (codeAny_mono (F.run X.A X.stack s H ⟨us, []⟩ (us ++ ds) (vs ++ dvs) Q E hr I.env0 (hb s us I.kIn hl) r2 h) fun r s' hq => ?_)
  cases r with
  | error e => exact hx pins σ H s e s' I hq
  | ok fl =>
    cases fl with
    | ret u => exact I.after hq
    | next => exact False.elim hq
    | brk => exact False.elim hq
    | cont => exact False.elim hq

theorem pe_call (F : FnOk X.prog X.w X.K X.mg X.base CX k f fd ps sp) (hr : Room k X.A) (hg : Gl X x) (hm : X.mg x = some (.ref f)) (hk : PySem.W.keepIn X.K (.ref f) = true) (hb : Binds X.K fd ps ds) (hd : Vals dvs ds) (hx : Passes CX X E)
    (ha : PA X (e :: es) t) (hdb : (x == ("__debug__" : Str)) = false := by decide) (he : starEach (e :: es) X.env = (false, eval e X.env) :: starEach es X.env := by rfl) (hpl : (backTo pos (starEach es X.env)).any (·.1) = false := by rfl) :
    PE X (.Call (.Name x p) (e :: es) [] pos) (tCall sp dvs E t) := by
  intro pins s σ H Q I h
  refine wpAny_Call_Name_kw (ld_glob I hg hm ?_ hdb)
  refine PySem.W.callWith_K (h₀ := X.base) I.ok.mod.kin hk (thn (ha pos pins s σ H _ I h) fun us s1 ⟨vs, H1, I1, r, q⟩ => ⟨I1.kIn, ?_⟩) he hpl
  exact run_fn F hr hb hd hx I1 r q
theorem pe_meth0 {pl : Sem Bool} (he : PE X o ta) (c : Cls X.K C) (hm : Meth X.K C m f) (F : FnOk X.prog X.w X.K X.mg X.base CX k f fd ps sp) (hr : Room k X.A) (hb : Binds X.K fd ps ds) (hd : Vals dvs ds) (hx : Passes CX X E)
    (ht : eval (.Call (.Attribute o m apos) [] [] pos) X.env = (do
      let ov ← eval o X.env
      standAt apos.atName
      let (f, first) ← holding [ov] (getMethod ov m pl)
      callWith pos f first (backTo pos (starEach [] X.env)) (backToKw pos (keywordEach [] X.env))) := by rfl) :
    PE X (.Call (.Attribute o m apos) [] [] pos) (tMeth C m sp dvs E ta tNil) := by
  intro pins s σ H Q I h
  refine PySem.W.methodCall_KW (pl := pl) (thn (he pins s σ H _ I h) fun u s1 ⟨x, H1, I1, rx, a, dx, fs, ex, ea, l, q⟩ => ?_) ht
  subst ex
  obtain rfl : u = Value.ref a := rx
  refine getmeth_ok I1 ea c hm l ?_
  exact PySem.W.callWith_K0 (first := [.ref a]) I1.kIn hm.kp (run_fn (us := [.ref a]) (vs := [.ref a]) F hr hb hd hx I1 (.cons rfl .nil) q)

structure Mk (K : PySem.W.Frag) (C f : Addr) : Prop where
  makes : PySem.W.makesIn K C = true
  init : PySem.W.findIn K (.ref C) "__init__" = some (some (.ref f))
  fn : PySem.W.isFn K (.ref f) = true
  kp : PySem.W.keepIn K (.ref C) = true

theorem run_make {pins : List (Addr × Obj)} {σ : St} {H : Hp} {s : Shared} {Q : VK} {us : List Value} {vs : List V} (M : Mk X.K C f) (F : FnOk X.prog X.w X.K X.mg X.base CX k f fd ps sp) (hr : Room (k + 1) X.A) (hb : Binds X.K fd ps ds) (hd : Vals dvs ds)
    (hx : Passes CX X E) (I : Inv X pins σ H s) (r : Vals vs us)
    (h : ∀ x dx, H x = none → H dx = none → dx ≠ x → sp (.ref x :: (vs ++ dvs)) (upd (upd H dx (.own x)) x (.ins C dx [])) (fun v H2 => v = .non ∧ Q (.ref x) H2) E) :
    wpAny (model X.prog X.w) X.A (call (.ref C) us) (EP X pins σ Q) X.xe s := by
  have hq := h (s.heap.objs.size + 1) s.heap.objs.size (I.hok.fresh (Nat.le_succ _)) (I.hok.fresh (Nat.le_refl _)) (Nat.ne_of_lt (Nat.lt_succ_self _))
  have I2 := Inv.made (C := C) I
  have r2 : Vals (V.ref (s.heap.objs.size + 1) :: (vs ++ dvs)) (Value.ref (s.heap.objs.size + 1) :: (us ++ ds)) := .cons rfl (r.append hd)
  have hl : (Value.ref (s.heap.objs.size + 1) :: us ++ ds).length = ps.length := by
    have e := r2.length
    rw [F.len _ _ _ _ hq] at e
    exact e.symm
  refine wpAny_call (make_map (f := f) I.kIn M.makes M.init (beq_iff_eq.mp M.fn) (codeAny_mono (F.run _ X.stack _ _ ⟨Value.ref (s.heap.objs.size + 1) :: us, []⟩ (Value.ref (s.heap.objs.size + 1) :: (us ++ ds)) _ _ E (hr.make C us [])
    (I2.env0.make C us []) (hb _ (Value.ref (s.heap.objs.size + 1) :: us) I2.kIn hl) r2 hq) fun r s' hq' => ?_))
  cases r with
  | error e => exact hx pins σ _ _ e s' I2 hq'
  | ok fl =>
    cases fl with
    | ret u =>
      obtain ⟨v, H', I3, rv, ev, q3⟩ := I2.after hq'
      subst ev
      exact ⟨rv, ⟨V.ref (s.heap.objs.size + 1), H', I3, rfl, q3⟩⟩
    | next => exact False.elim hq'
    | brk => exact False.elim hq'
    | cont => exact False.elim hq'
theorem pe_make (M : Mk X.K C f) (F : FnOk X.prog X.w X.K X.mg X.base CX k f fd ps sp) (hr : Room (k + 1) X.A) (hg : Gl X x) (hm : X.mg x = some (.ref C)) (hb : Binds X.K fd ps ds) (hd : Vals dvs ds) (hx : Passes CX X E)
    (ha : PA X (e :: es) t) (hdb : (x == ("__debug__" : Str)) = false := by decide) (he : starEach (e :: es) X.env = (false, eval e X.env) :: starEach es X.env := by rfl) (hpl : (backTo pos (starEach es X.env)).any (·.1) = false := by rfl) :
    PE X (.Call (.Name x p) (e :: es) [] pos) (tMake C sp dvs E t) := by
  intro pins s σ H Q I h
  refine wpAny_Call_Name_kw (ld_glob I hg hm ?_ hdb)
  refine PySem.W.callWith_K (h₀ := X.base) I.ok.mod.kin M.kp (thn (ha pos pins s σ H _ I h) fun us s1 ⟨vs, H1, I1, r, q⟩ => ⟨I1.kIn, ?_⟩) he hpl
  exact run_make M F hr hb hd hx I1 r q
end

section
variable {X : Cx} {CX : CXT} {k : Nat} {f C : Addr} {fd : FuncData} {ps ks : List Str} {sp : Sp} {E : XK} {x m : Str} {p pos apos kpos : Pos} {e o : Expr} {es : List Expr} {kws : List Keyword} {te ta : TE} {t tk : TA} {nm : Option Str}
variable {g : List Value → List Value → List Value} {gV : List V → List V → List V}
end

structure FnScope (N P : List Str) (sc : Scope) : Prop where
  kind : sc.kind = .function
  co : sc.isCoroutine = false
  gen : sc.isGenerator = false
  nd : N.Nodup
  pre : N.take P.length = P
  par : ∀ x ∈ P, sc.names.lookup x = some .local ∨ sc.names.lookup x = some .cell
  nofree : ∀ y ∈ sc.names, y.2 ≠ .free

theorem bindL_out {kindOf : Str → Option NameKind} {x : Str} : ∀ {binds : List (Str × Value)} {m : Str → Option Value}, (∀ v, (x, v) ∉ binds) → bindL kindOf binds m x = m x
  | [], _, _ => rfl
  | (n, v) :: r, m, h => by
    unfold bindL
    rw [bindL_out fun w hw => h w (List.mem_cons_of_mem _ hw)]
    split
    · have : x ≠ n := by rintro rfl; exact h v List.mem_cons_self
      simp [this]
    · rfl
theorem bindC_out {kindOf : Str → Option NameKind} {x : Str} : ∀ {binds : List (Str × Value)} {m : Str → Option Value}, (∀ v, (x, v) ∉ binds) → bindC kindOf binds m x = m x
  | [], _, _ => rfl
  | (n, v) :: r, m, h => by
    unfold bindC
    rw [bindC_out fun w hw => h w (List.mem_cons_of_mem _ hw)]
    split
    · rfl
    · have : x ≠ n := by rintro rfl; exact h v List.mem_cons_self
      simp [this]
theorem bindL_get {kindOf : Str → Option NameKind} {x : Str} {v : Value} : ∀ {P : List Str} {vs : List Value} {i : Nat} {m : Str → Option Value}, P.Nodup → P[i]? = some x → vs[i]? = some v → kindOf x = some .local →
    bindL kindOf (P.zip vs) m x = some v
  | [], _, _, _, _, h, _, _ => by simp at h
  | _ :: _, [], _, _, _, _, h, _ => by simp at h
  | p :: P, w :: vs, 0, m, nd, h1, h2, hk => by
    simp at h1 h2; subst h1; subst h2
    show bindL kindOf ((p, w) :: P.zip vs) m p = _
    unfold bindL
    rw [bindL_out fun v hv => (List.nodup_cons.mp nd).1 (List.of_mem_zip hv).1, if_pos hk]
    simp
  | p :: P, w :: vs, i + 1, m, nd, h1, h2, hk => by
    show bindL kindOf ((p, w) :: P.zip vs) m x = _
    unfold bindL
    exact bindL_get (i := i) (List.nodup_cons.mp nd).2 (by simpa using h1) (by simpa using h2) hk
theorem bindC_get {kindOf : Str → Option NameKind} {x : Str} {v : Value} : ∀ {P : List Str} {vs : List Value} {i : Nat} {m : Str → Option Value}, P.Nodup → P[i]? = some x → vs[i]? = some v → kindOf x ≠ some .local →
    bindC kindOf (P.zip vs) m x = some v
  | [], _, _, _, _, h, _, _ => by simp at h
  | _ :: _, [], _, _, _, _, h, _ => by simp at h
  | p :: P, w :: vs, 0, m, nd, h1, h2, hk => by
    simp at h1 h2; subst h1; subst h2
    show bindC kindOf ((p, w) :: P.zip vs) m p = _
    unfold bindC
    rw [bindC_out fun v hv => (List.nodup_cons.mp nd).1 (List.of_mem_zip hv).1, if_neg hk]
    simp
  | p :: P, w :: vs, i + 1, m, nd, h1, h2, hk => by
    show bindC kindOf ((p, w) :: P.zip vs) m x = _
    unfold bindC
    exact bindC_get (i := i) (List.nodup_cons.mp nd).2 (by simpa using h1) (by simpa using h2) hk

noncomputable def start (N : List Str) (vs : List V) : St := vs.map some ++ List.replicate (N.length - vs.length) none

noncomputable def cxOf (CX : CXT) (P : Program) (w : World) (K : PySem.W.Frag) (mg : Str → Option Value) (base : Heap) (N : List Str) (qual : Str) (scope : Scope) (f : Addr) (cd : Value) (A : Around) (outer : List Env) (s : Shared) (H : Hp) (E : XK) : Cx where
  prog := P
  w := w
  K := K
  mg := mg
  base := base
  A := A.deeper (envOfC qual scope s.heap.objs.size f cd)
  N := N
  s₀ := s
  H₀ := H
  env := envOfC qual scope s.heap.objs.size f cd
  outer := outer
  stack := envOfC qual scope s.heap.objs.size f cd :: outer
  ex := []
  calm := true
  fn := fun _ => true
  pn := []
  xe := fun e s' => wpAny (model P w) (A.deeper (envOfC qual scope s.heap.objs.size f cd)) (leaving (envOfC qual scope s.heap.objs.size f cd) e) (fun _ s'' => CX outer H s E e s'') (fun e' s'' => CX outer H s E e' s'') s'

theorem cell_has {sc : Scope} {n : Nat} {x : Str} (h : sc.names.lookup x = some .cell) : ∃ c, (cellsFrom n sc.names []).lookup x = some c := by
  have q := PySem.W.cellsFrom_some sc.names n [] (.inl h)
  exact Option.isSome_iff_exists.mp q

theorem inv_start {CX : CXT} {P : Program} {w : World} {K : PySem.W.Frag} {mg : Str → Option Value} {base : Heap} {N ps : List Str} {qual : Str} {scope : Scope} {f : Addr} {cd : Value} {A : Around} {outer : List Env} {s s1 : Shared} {H : Hp} {E : XK} {us : List Value} {vs : List V}
    (S : FnScope N ps scope) (hd : A.handled = none) (e0 : Env0 P w K mg base A outer s H) (hl : vs.length = ps.length) (r : Vals vs us)
    (x : InCallC s s.heap.objs.size (bindL (envOfC qual scope s.heap.objs.size f cd).kindOf (ps.zip us) fun _ => none) (cellsFrom (s.heap.objs.size + 1) scope.names []) (bindC (envOfC qual scope s.heap.objs.size f cd).kindOf (ps.zip us) fun _ => none) s1) :
    Inv (cxOf CX P w K mg base N qual scope f cd A outer s H E) [] (start N vs) H s1 := by
  have hpl : ps.length ≤ N.length := by have := congrArg List.length S.pre; rw [List.length_take] at this; omega
  obtain ⟨h1, tk, rfl, hk⟩ := x.done
  have noA : ∀ b : Addr, b ∉ (cxOf CX P w K mg base N qual scope f cd A outer s H E).ex := fun b z => absurd (show b ∈ ([] : List Addr) from z) (by simp)
  refine ⟨⟨e0.mod, S.kind, rfl, rfl, Nat.le_refl _, fun y z c h1 h2 => ?_, fun y hy => ?_, fun y c _ h => ?_, fun _ => hd, Around.frames_deeper e0.frames, .inr ⟨rfl, rfl⟩, fun b z => absurd z (noA b), e0.bs, e0.bsz, fun b _ _ => noA b, fun b z => absurd z (noA b), e0.funs, e0.frf⟩,
    rfl, e0.bare, Un.kept hk, ⟨_, x.toInCall.ns, fun i y v h1 h2 h3 => ?_⟩, fun y c h => ⟨_, x.cell y c h⟩, e0.hok.fresh (Nat.le_refl _), fun y c h => ?_, fun p hp => absurd (show p ∈ ([] : List (Addr × Obj)) from hp) (by simp), e0.hok.kept hk, ?_⟩
  · exact name_of_addr x.apart (PySem.mem_of_lookup h1) (PySem.mem_of_lookup h2)
  · have hy : scope.names.lookup y = some .cell ∨ scope.names.lookup y = some .free := hy
    rcases hy with hy | hy
    · exact cell_has hy
    · exact absurd rfl (S.nofree _ (PySem.mem_of_lookup hy))
  · exact Nat.le_of_lt (x.above y c (PySem.mem_of_lookup h))
  · have hi : i < vs.length := by
      unfold start at h2
      by_cases hi : i < vs.length
      · exact hi
      · rw [List.getElem?_append_right (by simpa using hi)] at h2
        rw [List.getElem?_replicate] at h2
        split at h2 <;> cases h2
    have ha : vs[i]? = some v := by
      unfold start at h2
      rw [List.getElem?_append_left (by simpa using hi), List.getElem?_map] at h2
      cases e : vs[i]? with
      | none => rw [e] at h2; cases h2
      | some a => rw [e] at h2; cases h2; rfl
    obtain ⟨u, hu, rv⟩ := r.get ha
    have hp : ps[i]? = some y := by
      rw [← S.pre, List.getElem?_take_of_lt (by omega)]; exact h1
    have ndP : ps.Nodup := by rw [← S.pre]; exact S.nd.sublist (List.take_sublist _ _)
    refine ⟨u, rv, ?_⟩
    rcases S.par y (List.mem_of_getElem? hp) with k | k
    · exact .inl ⟨k, bindL_get ndP hp hu k⟩
    · obtain ⟨c, e⟩ := cell_has (n := s.heap.objs.size + 1) k
      refine .inr ⟨.inl k, c, e, ?_⟩
      have q := x.cell y c e
      rw [bindC_get ndP hp hu (by show scope.names.lookup y ≠ _; rw [k]; decide)] at q
      exact q
  · exact e0.hok.fresh (Nat.le_of_lt (x.above y c (PySem.mem_of_lookup h)))
  · unfold start
    show _ = N.length
    rw [List.length_append, List.length_map, List.length_replicate]
    omega

theorem fn_of {CX : CXT} {P : Program} {w : World} {K : PySem.W.Frag} {mg : Str → Option Value} {base : Heap} {k : Nat} {f : Addr} {name qual : Str} {params : Arguments} {body : List Stmt} {scope : Scope} {dV kV doc pm cdv ct oc : Value} {an od : Option Addr}
    {osl : Array (Option Value)} {N ps : List Str} {sp : Sp} (lk : K.lookup f = some ⟨oc, od, .func (PySem.W.fnOf name qual params body scope dV kV doc pm an cdv ct), osl⟩) (hcd : PySem.W.codeIn K cdv qual = true) (S : FnScope N ps scope)
    (len : ∀ vs H Q E, sp vs H Q E → vs.length = ps.length)
    (hbody : ∀ (A : Around) (outer : List Env) (s : Shared) (H : Hp) (vs : List V) (Q : VK) (E : XK), Room k (A.deeper (envOfC qual scope s.heap.objs.size f cdv)) → sp vs H Q E →
      ∃ t, PSs (cxOf CX P w K mg base N qual scope f cdv A outer s H E) body t ∧ t { nx := fun _ H' => Q .non H', rt := Q } (start N vs) H) :
    FnOk P w K mg base CX (k + 1) f (PySem.W.fnOf name qual params body scope dV kV doc pm an cdv ct) ps sp := by
  refine ⟨len, fun A outer s H args us vs Q E hr e0 hb r hsp => ?_⟩
  have hl := len _ _ _ _ hsp
  have KX : K.In s.heap := e0.mod.kin.keeps fun b o e => (e0.bs b o e).1
  have lim : s.heap.NoLimit := e0.mod.nolimit.keeps fun b o e => (e0.bs b o e).1
  have hkind : ∀ y ∈ ps.zip us, scope.names.lookup y.1 = some .local ∨ (scope.names.lookup y.1 = some .cell ∧ ((cellsFrom (s.heap.objs.size + 1) scope.names []).lookup y.1).isSome = true) := fun ⟨n, v⟩ hy => by
    rcases S.par n (List.of_mem_zip hy).1 with q | q
    · exact .inl q
    · exact .inr ⟨q, PySem.W.cellsFrom_some _ _ _ (.inl q)⟩
  refine codeAny_call_function hr.depth (KX _ _ lk) rfl S.co S.gen rfl (PySem.W.codeRec_of KX hcd) (hb _ _ _ _ ?_)
  refine wpAny_newFunctionEnv_cells S.kind hkind fun env he s1 x => ?_
  subst he
  refine ⟨lim.keeps x.toInCall.keep, codeAny_func ?_⟩
  obtain ⟨t, ht, hq⟩ := hbody A outer s H vs Q E (hr.deeper _) hsp
  have I : Inv (cxOf CX P w K mg base N qual scope f cdv A outer s H E) [] (start N vs) H s1 := inv_start S hr.hd e0 hl r x
  refine wpAny_mono (ht [] s1 (start N vs) H _ I hq) (fun fl s' hs => ?_) fun e s' hs => hs
  have fin : ∀ {σ' : St} {H' : Hp} {v : V} {u : Value}, Inv (cxOf CX P w K mg base N qual scope f cdv A outer s H E) [] σ' H' s' → RelV v u → Q v H' → CE outer P w H s Q u s' :=
    fun {σ' H' v u} J rv q => ⟨v, H', J.os, J.bare, J.base, J.hok, rv, q⟩
  cases fl with
  | ret u =>
    obtain ⟨v, σ', H', J, rv, q⟩ := hs
    exact fin J rv q
  | next =>
    obtain ⟨σ', H', J, q⟩ := hs
    exact fin (v := V.non) (u := Value.none) J rfl q
  | brk =>
    obtain ⟨_, _, _, q⟩ := hs
    exact False.elim q
  | cont =>
    obtain ⟨_, _, _, q⟩ := hs
    exact False.elim q
end L2

namespace L2
open PySem PySem.Spec PyProof.Rows
section
variable {X : Cx} {x : Str} {p pos : Pos} {e : Expr} {es : List Expr} {t : TA} {id T : String} {r : List V → Hp → VK → Prop}

noncomputable def tCB (r : List V → Hp → VK → Prop) (t : TA) : TE := fun σ H Q => t σ H fun vs H1 => r vs H1 Q
theorem pe_callB (hc : CallR X (.builtin id) r) (hg : Gl X x) (hm : X.mg x = none) (hv : bootBuiltins x = some (.builtin id)) (ha : PA X (e :: es) t) (hn : x ≠ "__name__" := by decide) (hdb : (x == ("__debug__" : Str)) = false := by decide)
    (he : starEach (e :: es) X.env = (false, eval e X.env) :: starEach es X.env := by rfl) (hpl : (backTo pos (starEach es X.env)).any (·.1) = false := by rfl) : PE X (.Call (.Name x p) (e :: es) [] pos) (tCB r t) := by
  intro pins s σ H Q I h
  refine wpAny_Call_Name_kw (ld_blt I hg hm hv ?_ hn hdb)
  exact PyProof.Rows.callWith_builtin1 (thn (ha pos pins s σ H _ I h) fun us s1 ⟨vs, H1, I1, r1, q1⟩ => hc pins s1 σ H1 vs us Q I1 r1 q1) he hpl
theorem pe_callTy (hc : CallR X (.type T) r) (hg : Gl X x) (hm : X.mg x = none) (hv : bootBuiltins x = some (.type T)) (ha : PA X (e :: es) t) (hn : x ≠ "__name__" := by decide) (hdb : (x == ("__debug__" : Str)) = false := by decide)
    (he : starEach (e :: es) X.env = (false, eval e X.env) :: starEach es X.env := by rfl) (hpl : (backTo pos (starEach es X.env)).any (·.1) = false := by rfl) : PE X (.Call (.Name x p) (e :: es) [] pos) (tCB r t) := by
  intro pins s σ H Q I h
  refine wpAny_Call_Name_kw (ld_blt I hg hm hv ?_ hn hdb)
  exact PyProof.Rows.callWith_type1 (thn (ha pos pins s σ H _ I h) fun us s1 ⟨vs, H1, I1, r1, q1⟩ => hc pins s1 σ H1 vs us Q I1 r1 q1) he hpl
end
end L2

namespace HT
open PySem PyProof.Rows

section
open PySem.SeqAt
open PySem.AutoSeq1 (wpAny_loadPart')
open PySem.MeetsSeq PySem.MeetsSeq2 PySem.MeetsSeq3

end

section
variable {prog : Program} {w : World} {A : Around} {E : Value → Shared → Prop} {s : Shared}

noncomputable def sIx (n d : Nat) : Option Int → Nat
  | none => d
  | some v => if v < 0 then (v + (n : Int)).toNat else min v.toNat n
theorem sIx_none (n d : Nat) : sIx n d none = d := rfl
theorem sIx_nat (n d k : Nat) : sIx n d (some (k : Int)) = min k n := by
  show (if (k : Int) < 0 then ((k : Int) + (n : Int)).toNat else min (k : Int).toNat n) = min k n
  rw [if_neg (by omega), Int.toNat_natCast]
theorem sIx_le (n d : Nat) (hd : d ≤ n) (o : Option Int) : sIx n d o ≤ n := by
  cases o with
  | none => exact hd
  | some v =>
    show (if v < 0 then (v + (n : Int)).toNat else min v.toNat n) ≤ n
    by_cases hv : v < 0
    · rw [if_pos hv]; omega
    · rw [if_neg hv]; exact Nat.min_le_right _ _
end
end HT

namespace L2
open PySem PySem.Spec PyProof.Rows

noncomputable abbrev TO := St → Hp → (Option Int → Hp → Prop) → Prop
noncomputable def PO (X : Cx) (e : Option Expr) (t : TO) : Prop :=
  ∀ (pins : List (Addr × Obj)) (s : Shared) (σ : St) (H : Hp) (Q : Option Int → Hp → Prop), Inv X pins σ H s → t σ H Q →
    wpAny (model X.prog X.w) X.A (evalPart e X.env) (fun u s' => ∃ o H', Inv X pins σ H' s' ∧ IsPart u o ∧ Q o H') X.xe s
noncomputable def tNoPart : TO := fun _ H Q => Q none H
noncomputable def tPart (t : TE) : TO := fun σ H Q => t σ H fun x H1 => ∃ i, x = .int i ∧ Q (some i) H1

section
variable {X : Cx} {e : Expr} {te : TE} {lo hi : Option Expr} {tl th : TO} {pos p2 : Pos}

theorem po_none : PO X none tNoPart := by
  intro pins s σ H Q I h
  rw [evalPart_none]
  exact wpAny_pure ⟨none, H, I, .none, h⟩
theorem po_some (h : PE X e te) : PO X (some e) (tPart te) := by
  intro pins s σ H Q I hw
  rw [evalPart_some]
  refine thn (h pins s σ H _ I hw) fun u s1 ⟨x, H1, I1, r1, q1⟩ => ?_
  obtain ⟨i, rfl, q⟩ := q1
  obtain ⟨t, rfl⟩ := r1
  exact ⟨some i, H1, I1, .int i t, q⟩

noncomputable def SlR (X : Cx) (r : V → Option Int → Option Int → Hp → VK → Prop) : Prop :=
  ∀ (pins : List (Addr × Obj)) (s : Shared) (σ : St) (H : Hp) (x : V) (v vl vu : Value) (lo hi : Option Int) (sl : Addr) (Q : VK), Inv X pins σ H s → RelV x v → s.heap.IsSliceOf sl vl vu .none → IsPart vl lo → IsPart vu hi → r x lo hi H Q →
    ∃ T id, typeLookup (.type T) "__getitem__" = pure (some (.builtin id)) ∧ s.TypeIs v T ∧ wpAny (model X.prog X.w) X.A (getItem v (.ref sl)) (EP X pins σ Q) X.xe s
theorem SlR.or {r r' : V → Option Int → Option Int → Hp → VK → Prop} (h : SlR X r) (h' : SlR X r') : SlR X (fun x lo hi H Q => r x lo hi H Q ∨ r' x lo hi H Q) := by
  intro pins s σ H x v vl vu lo hi sl Q I rx hs pl pu q
  rcases q with q | q
  · exact h pins s σ H x v vl vu lo hi sl Q I rx hs pl pu q
  · exact h' pins s σ H x v vl vu lo hi sl Q I rx hs pl pu q
noncomputable def tSl (r : V → Option Int → Option Int → Hp → VK → Prop) (te : TE) (tl th : TO) : TE := fun σ H Q => te σ H fun x H1 => tl σ H1 fun l H2 => th σ H2 fun u H3 => r x l u H3 Q
theorem pe_slice {r : V → Option Int → Option Int → Hp → VK → Prop} (hr : SlR X r) (he : PE X e te) (hl : PO X lo tl) (hu : PO X hi th) : PE X (.Subscript e (.Slice lo hi none p2) pos) (tSl r te tl th) := by
  intro pins s σ H Q I h
  refine Subscript_ (thn (he pins s σ H _ I h) fun v s1 ⟨x, H1, I1, r1, q1⟩ => ?_)
  refine wpAny_Slice (thn (hl pins s1 σ H1 _ I1 q1) fun vl s2 ⟨l, H2, I2, pl, q2⟩ => thn (hu pins s2 σ H2 _ I2 q2) fun vu s3 ⟨u, H3, I3, pu, q3⟩ => ?_)
  rw [evalPart_none]
  refine wpAny_pure ?_
  have I4 : Inv X pins σ H3 { s3 with heap := s3.heap.push { cls := .type "slice", data := .fields #[vl, vu, .none] } } := I3.kept (t' := s3.toks) fun b ob q => Heap.get?_push_of_some _ q
  obtain ⟨T, id, hT, ht, hg⟩ := hr pins { s3 with heap := s3.heap.push { cls := .type "slice", data := .fields #[vl, vu, .none] } } σ H3 x v vl vu l u s3.heap.objs.size Q I4 r1 (Heap.IsSliceOf.new ..) pl pu q3
  show wpAny (model X.prog X.w) X.A (subscriptTail e (.Slice lo hi none p2) v (.ref s3.heap.objs.size)) (EP X pins σ Q) X.xe { s3 with heap := s3.heap.push { cls := .type "slice", data := .fields #[vl, vu, .none] } }
  exact tail_any (ops := [.ref s3.heap.objs.size, v]) ht hT hg (by with_unfolding_all rfl)

noncomputable def cutV (xs : List V) (lo hi : Option Int) : List V := (xs.drop (HT.sIx xs.length 0 lo)).take (HT.sIx xs.length xs.length hi - HT.sIx xs.length 0 lo)
theorem cutV_length (xs : List V) (lo hi : Option Int) : (cutV xs lo hi).length ≤ xs.length := by
  unfold cutV
  rw [List.length_take, List.length_drop]
  omega
end
end L2

namespace L2
open PySem PySem.Spec PyProof.Rows

noncomputable def ixN (n : Nat) (i : Int) : Option Nat := if 0 ≤ i then (if i < n then some i.toNat else none) else if -(n : Int) ≤ i then some (i + n).toNat else none
noncomputable def atI {α : Type} (xs : List α) (i : Int) : Option α := (ixN xs.length i).bind fun j => xs[j]?
theorem ixN_seq {n : Nat} {i : Int} {j : Nat} (h : ixN n i = some j) : seqIndex? i n = some j ∧ j < n ∧ -(n : Int) ≤ i ∧ i < n := by
  unfold ixN at h
  by_cases h0 : 0 ≤ i
  · rw [if_pos h0] at h
    by_cases h1 : i < n
    · rw [if_pos h1] at h
      have e : i.toNat = j := Option.some.inj h
      exact ⟨by rw [seqIndex_of h0 h1, e], by omega, by omega, h1⟩
    · rw [if_neg h1] at h; cases h
  · rw [if_neg h0] at h
    by_cases h1 : -(n : Int) ≤ i
    · rw [if_pos h1] at h
      have e : (i + n).toNat = j := Option.some.inj h
      exact ⟨by rw [seqIndex_neg (by omega) h1, e], by omega, h1, by omega⟩
    · rw [if_neg h1] at h; cases h
theorem atI_get {α : Type} {xs : List α} {i : Int} {v : α} (h : atI xs i = some v) : ∃ j, seqIndex? i xs.length = some j ∧ xs[j]? = some v ∧ j < xs.length ∧ -(xs.length : Int) ≤ i ∧ i < xs.length := by
  unfold atI at h
  cases e : ixN xs.length i with
  | none => rw [e] at h; cases h
  | some j =>
    rw [e] at h
    obtain ⟨h1, h2, h3, h4⟩ := ixN_seq e
    exact ⟨j, h1, h, h2, h3, h4⟩
theorem atI_nat {α : Type} {xs : List α} {j : Nat} {v : α} (h : xs[j]? = some v) : atI xs (j : Int) = some v := by
  have hj : j < xs.length := (List.getElem?_eq_some_iff.mp h).1
  have e : ixN xs.length (j : Int) = some j := by
    unfold ixN
    rw [if_pos (by omega), if_pos (by omega)]; simp
  unfold atI; rw [e]; exact h
noncomputable def PlainIx (b : Expr) : Prop := ∀ o i, subscripted b false o i = operate [o, i] (getItem o i)
noncomputable def IxR (X : Cx) (r : R2) : Prop :=
  ∀ (value slice : Expr) (pins : List (Addr × Obj)) (s : Shared) (σ : St) (H : Hp) (x y : V) (v u : Value) (Q : VK), Inv X pins σ H s → RelV x v → RelV y u → r x y H Q →
    subscripted slice false v u = operate [v, u] (getItem v u) → wpAny (model X.prog X.w) X.A (subscriptTail value slice v u) (EP X pins σ Q) X.xe s
noncomputable def MtR (X : Cx) (id : String) (r : V → List V → Hp → VK → Prop) : Prop :=
  ∀ (pins : List (Addr × Obj)) (s : Shared) (σ : St) (H : Hp) (x : V) (xs : List V) (v : Value) (us : List Value) (Q : VK), Inv X pins σ H s → RelV x v → Vals xs us → r x xs H Q →
    wpAny (model X.prog X.w) X.A (call (.builtin id) (v :: us)) (EP X pins σ Q) X.xe s
section
variable {X : Cx} {a b : Expr} {ta tb : TE} {pos : Pos}
theorem IxR.or {r r' : R2} (h : IxR X r) (h' : IxR X r') : IxR X (fun x y H Q => r x y H Q ∨ r' x y H Q) := by
  intro value slice pins s σ H x y v u Q I rx ry q hs
  rcases q with q | q
  · exact h value slice pins s σ H x y v u Q I rx ry q hs
  · exact h' value slice pins s σ H x y v u Q I rx ry q hs
theorem pe_ix {r : R2} (hr : IxR X r) (ha : PE X a ta) (hb : PE X b tb) (hs : PlainIx b) : PE X (.Subscript a b pos) (tOp r ta tb) := by
  intro pins s σ H Q I h
  exact Subscript_ (binT ha hb I h fun v u s2 x y H2 I2 rx ry q => hr a b pins s2 σ H2 x y v u Q I2 rx ry q (hs _ _))

noncomputable def rIxL (K : PySem.W.Frag) : R2 := fun x y H Q => ∃ p xs i v, x = .ref p ∧ y = .int i ∧ SqL K H p xs ∧ atI xs i = some v ∧ Q v H
noncomputable def rIxT (K : PySem.W.Frag) : R2 := fun x y H Q => ∃ p xs i v, x = .ref p ∧ y = .int i ∧ SqT K H p xs ∧ atI xs i = some v ∧ Q v H
noncomputable def rIxS : R2 := fun x y H Q => ∃ z i c, x = .str z ∧ y = .int i ∧ z.length ≤ sizeLine ∧ atI z.cps.toList i = some c ∧ Q (.str ⟨#[c]⟩) H
theorem ix_list : IxR X (rIxL X.K) := by
  intro value slice pins s σ H x y v u Q I rx ry h hs
  obtain ⟨p, xs, i, z, rfl, rfl, hq, he, q⟩ := h
  cases rx
  obtain ⟨t, rfl⟩ := ry
  obtain ⟨its, r, pl, hz⟩ := I.list hq
  obtain ⟨j, h1, h2, h3, h4, h5⟩ := atI_get he
  obtain ⟨w, ew, rw'⟩ := r.get h2
  have hl := r.length
  have hn := line63
  have fin : EP X pins σ Q w s := ⟨z, H, I, rw', q⟩
  by_cases h0 : 0 ≤ i
  · have hj : i.toNat = j := by
      rw [seqIndex_of h0 h5] at h1
      exact Option.some.inj h1
    exact item_listR pl.isList h0 (by omega) (by rw [hj]; simpa using ew) fin hs
  · have hj : (i + (its.toArray.size : Int)).toNat = j := by
      rw [seqIndex_neg (by omega) h4] at h1
      rw [List.size_toArray, ← hl]
      exact Option.some.inj h1
    exact subscriptTail_builtinR (x := w) pl.isList.typeIs slot_list_getitem.lookup
      (wpAny_getItem_list_neg (Q := fun r s' => r = w ∧ EP X pins σ Q r s') pl.isList (by omega) (by rw [List.size_toArray] <;> omega) (by omega) (by rw [hj]; simpa using ew) ⟨rfl, fin⟩) hs
theorem ix_tup : IxR X (rIxT X.K) := by
  intro value slice pins s σ H x y v u Q I rx ry h hs
  obtain ⟨p, xs, i, z, rfl, rfl, hq, he, q⟩ := h
  cases rx
  obtain ⟨t, rfl⟩ := ry
  obtain ⟨its, r, pl, hz⟩ := I.tuple hq
  obtain ⟨j, h1, h2, h3, h4, h5⟩ := atI_get he
  obtain ⟨w, ew, rw'⟩ := r.get h2
  have hl := r.length
  have hn := line63
  have fin : EP X pins σ Q w s := ⟨z, H, I, rw', q⟩
  exact subscriptTail_builtinR (x := w) pl.typeIs slot_tuple_getitem.lookup
    (getItem_tuple (j := j) (Q := fun r s' => r = w ∧ EP X pins σ Q r s') pl (by omega) (by omega) (by rw [List.size_toArray, ← hl]; exact h1) (by simpa using ew) ⟨rfl, fin⟩) hs
theorem ix_str : IxR X rIxS := by
  intro value slice pins s σ H x y v u Q I rx ry h hs
  obtain ⟨z, i, c, rfl, rfl, hz, he, q⟩ := h
  obtain ⟨t, rfl⟩ := rx
  obtain ⟨t', rfl⟩ := ry
  obtain ⟨j, h1, h2, h3, h4, h5⟩ := atI_get he
  have hl : z.cps.toList.length = z.length := by simp [Str.length]
  rw [hl] at h1 h4 h5
  have hn := line63
  exact tail_any (typeIs_str s z t) slot_str_getitem.lookup (getItem_str (c := c) (by
    have e1 : decide (i < -(2 ^ 63 : Int)) = false := decide_eq_false (by omega)
    have e2 : decide (i ≥ 2 ^ 63) = false := decide_eq_false (by omega)
    rw [e1, e2, Bool.or_false]) (by rw [h1]; simpa using h2) ⟨.str ⟨#[c]⟩, H, I.tok _, ⟨_, rfl⟩, q⟩) hs
noncomputable def rIx (K : PySem.W.Frag) : R2 := fun x y H Q => rIxL K x y H Q ∨ rIxT K x y H Q ∨ rIxS x y H Q
theorem ix_seq : IxR X (rIx X.K) := ix_list.or (ix_tup.or ix_str)

theorem Inv.lst {pins : List (Addr × Obj)} {σ : St} {H : Hp} {s : Shared} {p : Addr} {xs : List V} (I : Inv X pins σ H s) (h : H p = some (.lst xs)) :
    ∃ (its : List Value) (n : Nat), Vals xs its ∧ s.heap.get? p = some { cls := .type "list", data := .seq its.toArray n } ∧ xs.length ≤ sizeLine := by
  obtain ⟨z, its, n, r, e⟩ := I.hok p _ h
  exact ⟨its, n, r, e, z⟩
theorem slice_bounds (lo hi : Option Int) (n : Nat) : (sliceBounds lo hi none n).1 = ((HT.sIx n 0 lo : Nat) : Int) ∧ (sliceBounds lo hi none n).2.1 = ((HT.sIx n n hi : Nat) : Int) ∧ (sliceBounds lo hi none n).2.2 = 1 := by
  refine ⟨?_, ?_, rfl⟩
  · cases lo with
    | none => simp [sliceBounds, HT.sIx]
    | some i =>
      simp only [sliceBounds, HT.sIx, Option.getD_none, show (1 : Int) > 0 by decide, if_true]
      by_cases h : i < 0
      · simp only [h, if_true] <;> omega
      · simp only [h, if_false] <;> omega
  · cases hi with
    | none => simp [sliceBounds, HT.sIx]
    | some i =>
      simp only [sliceBounds, HT.sIx, Option.getD_none, show (1 : Int) > 0 by decide, if_true]
      by_cases h : i < 0
      · simp only [h, if_true] <;> omega
      · simp only [h, if_false] <;> omega
theorem slicePick_cut (its : List Value) (lo hi : Option Int) : slicePick its.toArray lo hi none = ((its.drop (HT.sIx its.length 0 lo)).take (HT.sIx its.length its.length hi - HT.sIx its.length 0 lo)).toArray := by
  obtain ⟨h1, h2, h3⟩ := slice_bounds lo hi its.toArray.size
  unfold slicePick
  rw [h1, h2, h3]
  simp only [sliceRange_one, pick_run, List.size_toArray] <;> rfl
noncomputable def rSlL (K : PySem.W.Frag) : V → Option Int → Option Int → Hp → VK → Prop := fun x lo hi H Q => ∃ a xs, x = .ref a ∧ SqL K H a xs ∧ ∀ p, H p = none → Q (.ref p) (upd H p (.lst (cutV xs lo hi)))
theorem sl_list : SlR X (rSlL X.K) := by
  intro pins s σ H x v vl vu lo hi sl Q I rx hs pl pu h
  obtain ⟨a, xs, rfl, hx, q⟩ := h
  cases rx
  obtain ⟨its, r, ht, hz⟩ := I.list hx
  have hlen := r.length
  refine ⟨"list", _, slot_list_getitem.lookup, ht.isList.typeIs, ?_⟩
  refine wpAny_getItem_list_slice ht.isList hs pl pu .none (by simp) ?_ (by rw [List.size_toArray] <;> omega)
  rw [slicePick_cut, ← hlen]
  refine ⟨.ref s.heap.objs.size, _, I.laid (t' := s.toks) (o := .lst (cutV xs lo hi)) (fun b ob q => Heap.get?_push_of_some _ q) (Nat.le_refl _) ?_, rfl, q _ (I.hok.fresh (Nat.le_refl _))⟩
  exact ⟨Nat.le_trans (cutV_length xs lo hi) hz, _, 0, (r.drop (HT.sIx xs.length 0 lo)).take (HT.sIx xs.length xs.length hi - HT.sIx xs.length 0 lo), Heap.get?_push_size _ rfl⟩

noncomputable def flatV : V → Bool
  | .non => true
  | .bl _ => true
  | .int _ => true
  | .str _ => true
  | _ => false
noncomputable def eqV : V → V → Bool
  | .non, .non => true
  | .bl a, .bl b => a == b
  | .bl a, .int b => (if a then 1 else 0) == b
  | .int a, .bl b => a == (if b then 1 else 0)
  | .int a, .int b => a == b
  | .str a, .str b => a == b
  | _, _ => false
theorem eqAt_V {A : Around} {s : Shared} {y x : V} {u v : Value} (ry : RelV y u) (rx : RelV x v) (fy : flatV y = true) (fx : flatV x = true) : SeqAt.EqAt A s u v (eqV y x) := by
  cases y with
  | non =>
    cases ry
    cases x with
    | non => cases rx; exact SeqAt.EqAt.same _
    | bl b => cases rx; exact SeqAt.EqAt.none_bool b
    | int b => obtain ⟨t, rfl⟩ := rx; exact SeqAt.EqAt.none_int b t
    | str b => obtain ⟨t, rfl⟩ := rx; exact SeqAt.EqAt.none_str b t
    | _ => exact absurd (show false = true from fx) Bool.false_ne_true
  | bl a =>
    cases ry
    cases x with
    | non => cases rx; exact SeqAt.EqAt.bool_none a
    | bl b => cases rx; exact SeqAt.EqAt.bool_bool a b
    | int b => obtain ⟨t, rfl⟩ := rx; exact SeqAt.EqAt.bool_int a b t
    | str b => obtain ⟨t, rfl⟩ := rx; exact SeqAt.EqAt.bool_str a b t
    | _ => exact absurd (show false = true from fx) Bool.false_ne_true
  | int a =>
    obtain ⟨t', rfl⟩ := ry
    cases x with
    | non => cases rx; exact SeqAt.EqAt.int_none a t'
    | bl b => cases rx; exact SeqAt.EqAt.int_bool a t' b
    | int b => obtain ⟨t, rfl⟩ := rx; exact SeqAt.EqAt.int_int a t' b t
    | str b => obtain ⟨t, rfl⟩ := rx; exact SeqAt.EqAt.int_str a t' b t
    | _ => exact absurd (show false = true from fx) Bool.false_ne_true
  | str a =>
    obtain ⟨t', rfl⟩ := ry
    cases x with
    | non => cases rx; exact SeqAt.EqAt.str_none a t'
    | bl b => cases rx; exact SeqAt.EqAt.str_bool a t' b
    | int b => obtain ⟨t, rfl⟩ := rx; exact SeqAt.EqAt.str_int a t' b t
    | str b => obtain ⟨t, rfl⟩ := rx; exact SeqAt.EqAt.str_str a t' b t
    | _ => exact absurd (show false = true from fx) Bool.false_ne_true
  | _ => exact absurd (show false = true from fy) Bool.false_ne_true
noncomputable def eqU (x : V) (u : Value) : Bool := match u with
  | .none => eqV .non x
  | .bool b => eqV (.bl b) x
  | .int i _ => eqV (.int i) x
  | .str z _ => eqV (.str z) x
  | _ => false
theorem eqU_of {x y : V} {u : Value} (r : RelV y u) (f : flatV y = true) : eqU x u = eqV y x := by
  cases y with
  | non => cases r; rfl
  | bl b => cases r; rfl
  | int i => obtain ⟨t, rfl⟩ := r; rfl
  | str z => obtain ⟨t, rfl⟩ := r; rfl
  | _ => exact absurd (show false = true from f) Bool.false_ne_true
theorem any_eqU {x : V} : ∀ {xs : List V} {us : List Value}, Vals xs us → xs.all flatV = true → us.any (eqU x) = xs.any fun y => eqV y x
  | _, _, .nil, _ => rfl
  | y :: xs, u :: us, .cons r t, f => by
    rw [List.all_cons, Bool.and_eq_true] at f
    rw [List.any_cons, List.any_cons, eqU_of r f.1, any_eqU t f.2]
theorem mem_eqAt {A : Around} {s : Shared} {x : V} {v : Value} (rx : RelV x v) (fx : flatV x = true) : ∀ {xs : List V} {us : List Value}, Vals xs us → xs.all flatV = true → ∀ u ∈ us, SeqAt.EqAt A s u v (eqU x u)
  | _, _, .nil, _ => fun u hu => by cases hu
  | y :: xs, u :: us, .cons r t, f => fun u' hu => by
    rw [List.all_cons, Bool.and_eq_true] at f
    rcases List.mem_cons.mp hu with rfl | hu
    · rw [eqU_of r f.1]; exact eqAt_V r rx f.1 fx
    · exact mem_eqAt rx fx t f.2 u' hu
noncomputable def inV (x : V) (xs : List V) : Bool := xs.any fun y => eqV y x
noncomputable def rIn (K : PySem.W.Frag) (neg : Bool) : R2 := fun x y H Q => ∃ p xs, y = .ref p ∧ (SqL K H p xs ∨ SqT K H p xs) ∧ flatV x = true ∧ xs.all flatV = true ∧ Q (.bl (if neg then !inV x xs else inV x xs)) H
theorem op_in_seq : OpR X (compareOp .In) (rIn X.K false) := by
  intro pins s σ H x y v u Q I rx ry h
  obtain ⟨p, xs, rfl, hq, fx, fs, q⟩ := h
  cases ry
  rcases hq with hq | hq
  · obtain ⟨its, r, pl, hz⟩ := I.list hq
    refine SeqAt.in_listAt (eqU x) pl.isList (fun w hw => mem_eqAt rx fx r fs w (by simpa using hw)) ⟨.bl _, H, I, rfl, ?_⟩
    rw [show its.toArray.any (eqU x) = its.any (eqU x) by simp, any_eqU r fs]
    exact q
  · obtain ⟨its, r, pl, hz⟩ := I.tuple hq
    refine SeqAt.in_tupleAt (eqU x) pl (fun w hw => mem_eqAt rx fx r fs w (by simpa using hw)) ⟨.bl _, H, I, rfl, ?_⟩
    rw [show its.toArray.any (eqU x) = its.any (eqU x) by simp, any_eqU r fs]
    exact q
theorem op_notIn_seq : OpR X (compareOp .NotIn) (rIn X.K true) := by
  intro pins s σ H x y v u Q I rx ry h
  obtain ⟨p, xs, rfl, hq, fx, fs, q⟩ := h
  cases ry
  rcases hq with hq | hq
  · obtain ⟨its, r, pl, hz⟩ := I.list hq
    refine SeqAt.notIn_listAt (eqU x) pl.isList (fun w hw => mem_eqAt rx fx r fs w (by simpa using hw)) ⟨.bl _, H, I, rfl, ?_⟩
    rw [show its.toArray.any (eqU x) = its.any (eqU x) by simp, any_eqU r fs]
    exact q
  · obtain ⟨its, r, pl, hz⟩ := I.tuple hq
    refine SeqAt.notIn_tupleAt (eqU x) pl (fun w hw => mem_eqAt rx fx r fs w (by simpa using hw)) ⟨.bl _, H, I, rfl, ?_⟩
    rw [show its.toArray.any (eqU x) = its.any (eqU x) by simp, any_eqU r fs]
    exact q
theorem op_notIn_str : OpR X (compareOp .NotIn) (fun x y H Q => ∃ i j, x = .str i ∧ y = .str j ∧ Q (.bl (!(!(Builtin.Str.occurrences j i 0 j.length 1).isEmpty))) H) := by
  intro pins s σ H x y v u Q I rx ry h
  obtain ⟨i, j, rfl, rfl, q⟩ := h
  obtain ⟨t, rfl⟩ := rx
  obtain ⟨t', rfl⟩ := ry
  exact notIn_str ⟨.bl _, H, I, rfl, q⟩

theorem call_len_seq : CallR X (.builtin "len") (fun xs H Q => ∃ p ys, xs = [.ref p] ∧ (SqL X.K H p ys ∨ SqT X.K H p ys) ∧ Q (.int ys.length) H) := by
  intro pins s σ H xs us Q I r h
  obtain ⟨p, ys, rfl, hq, q⟩ := h
  obtain ⟨u, rfl, rx⟩ := vals1 r
  cases rx
  have hn := line63
  rcases hq with hq | hq
  · obtain ⟨its, r', pl, hz⟩ := I.list hq
    have hlen := r'.length
    exact Calls.call_len_list pl.isList (by simp only [List.size_toArray] <;> omega) ⟨.int ys.length, H, I.tok _, ⟨s.toks + 1, by rw [List.size_toArray, hlen]⟩, q⟩
  · obtain ⟨its, r', pl, hz⟩ := I.tuple hq
    have hlen := r'.length
    exact len_tuple pl (by simp only [List.size_toArray] <;> omega) ⟨.int ys.length, H, I.tok _, ⟨s.toks + 1, by rw [List.size_toArray, hlen]⟩, q⟩
theorem call_len_str : CallR X (.builtin "len") (fun xs H Q => ∃ z, xs = [.str z] ∧ z.length ≤ sizeLine ∧ Q (.int z.length) H) := by
  intro pins s σ H xs us Q I r h
  obtain ⟨z, rfl, hz, q⟩ := h
  obtain ⟨u, rfl, t, rfl⟩ := vals1 r
  have hn := line63
  exact len_str (by omega) ⟨.int z.length, H, I.tok _, ⟨_, rfl⟩, q⟩
theorem CallR.or {f : Value} {r r' : List V → Hp → VK → Prop} (h : CallR X f r) (h' : CallR X f r') : CallR X f (fun xs H Q => r xs H Q ∨ r' xs H Q) := by
  intro pins s σ H xs us Q I rs q
  rcases q with q | q
  · exact h pins s σ H xs us Q I rs q
  · exact h' pins s σ H xs us Q I rs q
theorem call_list_of : CallR X (.type "list") (fun xs H Q => ∃ p ys, xs = [.ref p] ∧ (SqL X.K H p ys ∨ SqT X.K H p ys) ∧ ∀ l, H l = none → Q (.ref l) (upd H l (.lst ys))) := by
  intro pins s σ H xs us Q I r h
  obtain ⟨p, ys, rfl, hq, q⟩ := h
  obtain ⟨u, rfl, rx⟩ := vals1 r
  cases rx
  have fin : ∀ (its : List Value), Vals ys its → ys.length ≤ sizeLine → ∀ (h' : Heap) (c' : Nat), (∀ b o', s.heap.get? b = some o' → h'.get? b = some o') →
      h'.get? s.heap.objs.size = some { cls := .type "list", dict := none, data := .seq its.toArray c', slots := #[] } → EP X pins σ Q (.ref s.heap.objs.size) { s with heap := h' } := fun its r' hz h' c' kp e =>
    ⟨.ref s.heap.objs.size, _, I.laid (t' := s.toks) kp (Nat.le_refl _) (show ObjOk X.prog X.w _ h' _ (.lst ys) from ⟨hz, its, c', r', e⟩), rfl, q _ (I.hok.fresh (Nat.le_refl _))⟩
  rcases hq with hq | hq
  · obtain ⟨its, r', pl, hz⟩ := I.list hq
    have hlen := r'.length
    obtain ⟨o, ho, hc, n, hd⟩ := pl.isList
    exact call_list_seq p (.inl rfl) ho hc hd (fun h' c' kp e => fin its r' hz h' c' kp e) (by simp only [List.size_toArray] <;> omega)
  · obtain ⟨its, r', pl, hz⟩ := I.tuple hq
    have hlen := r'.length
    obtain ⟨o, ho, hc, n, hd⟩ := pl
    exact call_list_seq p (.inr rfl) ho hc hd (fun h' c' kp e => fin its r' hz h' c' kp e) (by simp only [List.size_toArray] <;> omega)
noncomputable def tyV (K : PySem.W.Frag) (T : String) (x : V) (H : Hp) : Prop := match x with
  | .str _ => T = "str"
  | .int _ => T = "int"
  | .ref p => (T = "list" ∧ ∃ xs, SqL K H p xs) ∨ (T = "tuple" ∧ ∃ o, K.lookup p = some o ∧ o.cls = .type "tuple" ∧ o.dict = none) ∨
      (T = "dict" ∧ ((∃ kvs, H p = some (.dK kvs)) ∨ ∃ kvs, H p = some (.dT kvs))) ∨ (T = "set" ∧ ∃ S n, H p = some (.set S n))
  | _ => False
theorem tyV_is {pins : List (Addr × Obj)} {σ : St} {H : Hp} {s : Shared} {T : String} {x : V} {v : Value} (I : Inv X pins σ H s) (r : RelV x v) (ty : tyV X.K T x H) :
    s.TypeIs v T ∧ ∀ a, v = .ref a → ∃ ob, s.heap.get? a = some ob ∧ ob.dict = none := by
  cases x with
  | str z =>
    obtain ⟨t, rfl⟩ := r
    cases (show T = "str" from ty)
    exact ⟨typeIs_str s z t, fun _ e => nomatch e⟩
  | int i =>
    obtain ⟨t, rfl⟩ := r
    cases (show T = "int" from ty)
    exact ⟨typeIs_int s i t, fun _ e => nomatch e⟩
  | ref p =>
    cases r
    rcases ty with ⟨rfl, xs, hq⟩ | ⟨rfl, o, hk, hc, hd⟩ | ⟨rfl, hk⟩ | ⟨rfl, S, n, hk⟩
    · obtain ⟨its, _, pl, _⟩ := I.list hq
      refine ⟨pl.isList.typeIs, fun a e => ?_⟩
      cases e
      obtain ⟨o, n, e, c, hd, _⟩ := pl
      exact ⟨o, e, hd⟩
    · refine ⟨⟨o, I.kIn p o hk, hc⟩, fun a e => ?_⟩
      cases e
      exact ⟨o, I.kIn _ o hk, hd⟩
    · have z : ∃ o, s.heap.get? p = some o ∧ o.ExactDict := by
        rcases hk with ⟨kvs, hk⟩ | ⟨kvs, hk⟩
        · obtain ⟨_, _, _, _, o, _, _, e, ex, _⟩ := I.hok p _ hk
          exact ⟨o, e, ex⟩
        · obtain ⟨_, _, _, _, o, _, _, e, ex, _⟩ := I.hok p _ hk
          exact ⟨o, e, ex⟩
      obtain ⟨o, e, ex⟩ := z
      refine ⟨⟨o, e, ex.1⟩, fun a e2 => ?_⟩
      cases e2
      exact ⟨o, e, ex.2.1⟩
    · obtain ⟨o, _, _, _, e, ex, _⟩ := I.hok p _ hk
      refine ⟨⟨o, e, ex.1⟩, fun a e2 => ?_⟩
      cases e2
      exact ⟨o, e, ex.2.1⟩
  | _ => exact False.elim ty
noncomputable def tBM0 (K : PySem.W.Frag) (T : String) (r : V → List V → Hp → VK → Prop) (to : TE) : TE := fun σ H Q => to σ H fun x H1 => tyV K T x H1 ∧ r x [] H1 Q
noncomputable def tBM (K : PySem.W.Frag) (T : String) (r : V → List V → Hp → VK → Prop) (to : TE) (t : TA) : TE := fun σ H Q => to σ H fun x H1 => tyV K T x H1 ∧ t σ H1 fun xs H2 => r x xs H2 Q
variable {o e : Expr} {es : List Expr} {to : TE} {t : TA} {name : Str} {apos cpos : Pos} {T id : String} {r : V → List V → Hp → VK → Prop}
theorem pe_bm0 (pa : PlainAttrs T) (slot : Slot T name id) (hty : typeOf (.builtin id) = pure (.type "method_descriptor")) (hm : MtR X id r) (ho : PE X o to)
    (hbase : attributeBase o name X.env (eval o X.env) = eval o X.env := by rfl) (hline : (apos.endLine == cpos.line) = true := by rfl) : PE X (.Call (.Attribute o name apos) [] [] cpos) (tBM0 X.K T r to) := by
  intro pins s σ H Q I h
  refine wpAny_Call_method0_late hbase hline (thn (ho pins s σ H _ I h) fun v s1 ⟨x, H1, I1, r1, ty, q1⟩ => ?_)
  obtain ⟨h1, h2⟩ := tyV_is I1 r1 ty
  exact ⟨T, id, pa, slot, hty, h1, h2, Calls.callWith_builtin rfl (PySem.evalArgs_none (hm pins s1 σ H1 x [] v [] Q I1 r1 .nil q1))⟩
theorem pe_bm (pa : PlainAttrs T) (slot : Slot T name id) (hty : typeOf (.builtin id) = pure (.type "method_descriptor")) (hm : MtR X id r) (ho : PE X o to) (ha : PA X (e :: es) t)
    (hbase : attributeBase o name X.env (eval o X.env) = eval o X.env := by rfl)
    (hfew : ((backTo cpos (starEach (e :: es) X.env)).all (fun x => !x.1) && (backToKw cpos (keywordEach [] X.env)).all (fun x => x.1.isSome)
      && decide ((e :: es).length + ([] : List Keyword).length + (if ([] : List Keyword).isEmpty then 0 else 1) < 30)) = true := by rfl)
    (hline : (apos.endLine == cpos.line) = true := by rfl) (hs : starEach (e :: es) X.env = (false, eval e X.env) :: starEach es X.env := by rfl) (hplain : (backTo cpos (starEach es X.env)).any (·.1) = false := by rfl) :
    PE X (.Call (.Attribute o name apos) (e :: es) [] cpos) (tBM X.K T r to t) := by
  intro pins s σ H Q I h
  refine wpAny_Call_method_late hbase hfew hline rfl (thn (ho pins s σ H _ I h) fun v s1 ⟨x, H1, I1, r1, ty, q1⟩ => ?_)
  obtain ⟨h1, h2⟩ := tyV_is I1 r1 ty
  refine ⟨T, id, pa, slot, hty, h1, h2, ?_⟩
  have hA := ha cpos pins s1 σ H1 _ I1 q1
  rw [hs] at hA ⊢
  refine Calls.callWith_builtin (by show (false || (backTo cpos (starEach es X.env)).any (·.1)) = false; rw [hplain] <;> rfl) (Calls.evalArgs_plain ?_)
  exact thn hA fun us s2 ⟨vs, H2, I2, r2, q2⟩ => hm pins s2 σ H2 x vs v us Q I2 r1 r2 q2
end
end L2

namespace L2
open PySem PySem.Spec PyProof.Rows

noncomputable def MtM (X : Cx) (id : String) (r : V → List V → Hp → VK → Prop) : Prop :=
  ∀ (pins : List (Addr × Obj)) (s : Shared) (σ : St) (H : Hp) (x : V) (xs : List V) (v : Value) (us : List Value) (Q : VK), Inv X pins σ H s → RelV x v → Vals xs us → r x xs H Q →
    wpAny (model X.prog X.w) X.A (call (.builtin id) (v :: us)) (EP X pins σ Q) X.xe s

theorem Vals.one : ∀ {x : V} {us : List Value}, Vals [x] us → ∃ u, us = [u] ∧ RelV x u
  | _, _, .cons r .nil => ⟨_, rfl, r⟩
theorem Vals.zero : ∀ {us : List Value}, Vals [] us → us = []
  | _, .nil => rfl
theorem Vals.reverse {xs : List V} {us : List Value} (h : Vals xs us) : Vals xs.reverse us.reverse := by
  induction h with
  | nil => exact .nil
  | cons r t ih => rw [List.reverse_cons, List.reverse_cons]; exact Vals.append ih (.cons r .nil)
theorem Vals.rep {xs : List V} {us : List Value} (h : Vals xs us) : ∀ k : Nat, Vals (List.replicate k xs).flatten (List.replicate k us).flatten
  | 0 => .nil
  | k + 1 => by
    rw [List.replicate_succ, List.replicate_succ, List.flatten_cons, List.flatten_cons]
    exact Vals.append h (Vals.rep h k)
theorem foldl_rep (its : List Value) : ∀ (k : Nat) (acc : List Value),
    List.foldl (fun x1 x2 => x1 ++ x2) acc.toArray (List.replicate k its.toArray) = (acc ++ (List.replicate k its).flatten).toArray
  | 0, acc => by simp
  | k + 1, acc => by
    have e : acc.toArray ++ its.toArray = (acc ++ its).toArray := by simp
    have e2 : (acc ++ its) ++ (List.replicate k its).flatten = acc ++ (List.replicate (k + 1) its).flatten := by
      rw [List.replicate_succ, List.flatten_cons, List.append_assoc]
    rw [← e2, ← foldl_rep its k (acc ++ its), ← e, List.replicate_succ, List.foldl_cons]

section
variable {X : Cx} {pins : List (Addr × Obj)} {σ : St} {H : Hp} {s : Shared} {l b : Addr} {xs ys zs : List V}

theorem Inv.lset {its its' : List Value} {n : Nat} {f : Array Value → Array Value} {t' : Nat} (I : Inv X pins σ H s) (hH : H l = some (.lst xs))
    (e : s.heap.get? l = some { cls := .type "list", data := .seq its.toArray n }) (hf : f its.toArray = its'.toArray) (hv : Vals ys its') (hz : ys.length ≤ sizeLine) :
    Inv X pins σ (upd H l (.lst ys)) { s with heap := s.heap.update l (Obj.mapSeq f), toks := t' } := by
  have q := PySem.IsL.update e f
  rw [hf] at q
  refine I.write (x := l) (e := l) (by rw [hH]; exact trivial) (.inl rfl) (fun b' u hb hu => (Heap.get?_update_other s.heap (Obj.mapSeq f) (Ne.symm hb)).trans hu) ⟨_, q⟩ ?_
  exact ⟨hz, its', _, hv, q⟩
theorem Inv.lnew {its : List Value} {t' : Nat} (I : Inv X pins σ H s) (hv : Vals ys its) (hz : ys.length ≤ sizeLine) :
    Inv X pins σ (upd H s.heap.objs.size (.lst ys)) { s with heap := s.heap.push { cls := .type "list", data := .seq its.toArray }, toks := t' } :=
  I.laid (fun _ _ q => Heap.get?_push_of_some _ q) (Nat.le_refl _) ⟨hz, its, 0, hv, Heap.get?_push_size _ rfl⟩
theorem Inv.fresh (I : Inv X pins σ H s) : H s.heap.objs.size = none := I.hok.fresh (Nat.le_refl _)
theorem Inv.lstM (I : Inv X pins σ H s) (hH : H l = some (.lst xs)) : xs.length ≤ sizeLine ∧ ∃ (its : List Value) (n : Nat), Vals xs its ∧ xs.length = its.length ∧ s.heap.get? l = some { cls := .type "list", data := .seq its.toArray n } := by
  obtain ⟨z, its, n, r, e⟩ := I.hok l _ hH
  exact ⟨z, its, n, r, r.length, e⟩

theorem notLongL {n : Nat} (h : n ≤ sizeLine) : Builtin.List.listTooLong n = false := by
  unfold Builtin.List.listTooLong
  exact decide_eq_false (by omega)
end

section
variable {X : Cx}

noncomputable def rAppend : V → List V → Hp → VK → Prop := fun x vs H Q => ∃ l xs y, x = .ref l ∧ vs = [y] ∧ H l = some (.lst xs) ∧ xs.length < sizeLine ∧ Q .non (upd H l (.lst (xs ++ [y])))
theorem mt_append : MtM X "list.append" rAppend := by
  intro pins s σ H x vs v us Q I rx rv h
  obtain ⟨l, xs, y, rfl, rfl, hH, hz, q⟩ := h
  cases rx
  obtain ⟨u, rfl, ru⟩ := rv.one
  obtain ⟨z, its, n, r, hl, e⟩ := I.lstM hH
  refine call_meets F.slot_list_append ⟨_, e, rfl⟩ F.entry_list_append (F.args_list_append_2 _ _) (PySem.list_append l its.toArray n u (by rw [List.size_toArray]; omega)) ⟨e, ?_⟩
  refine ⟨.non, _, I.lset (its' := its ++ [u]) hH e (by simp) (r.append (.cons ru .nil)) ?_, rfl, q⟩
  rw [List.length_append, List.length_singleton]
  omega

noncomputable def rClear : V → List V → Hp → VK → Prop := fun x vs H Q => ∃ l xs, x = .ref l ∧ vs = [] ∧ H l = some (.lst xs) ∧ Q .non (upd H l (.lst []))
theorem mt_clear : MtM X "list.clear" rClear := by
  intro pins s σ H x vs v us Q I rx rv h
  obtain ⟨l, xs, rfl, rfl, hH, q⟩ := h
  cases rx
  have hus := rv.zero
  subst hus
  obtain ⟨z, its, n, r, hl, e⟩ := I.lstM hH
  refine call_meets F.slot_list_clear ⟨_, e, rfl⟩ F.entry_list_clear (F.args_list_clear_1 _) (AutoSeq1.list_clear_list_0 l its.toArray n (by rw [List.size_toArray]; omega)) ⟨e, ?_⟩
  exact ⟨.non, _, I.lset (its' := []) (ys := []) hH e rfl .nil (Nat.zero_le _), rfl, q⟩

noncomputable def rCat : R2 := fun x y H Q => ∃ l b xs zs, x = .ref l ∧ y = .ref b ∧ H l = some (.lst xs) ∧ H b = some (.lst zs) ∧ xs.length + zs.length ≤ sizeLine ∧ ∀ p, H p = none → Q (.ref p) (upd H p (.lst (xs ++ zs)))
theorem op_cat : OpR X (binaryOp .Add) rCat := by
  intro pins s σ H x y v u Q I rx ry h
  obtain ⟨l, b, xs, zs, rfl, rfl, hH, hB, hz, q⟩ := h
  cases rx
  cases ry
  obtain ⟨z, its, n, r, hl, e⟩ := I.lstM hH
  obtain ⟨z2, its2, n2, r2, hl2, e2⟩ := I.lstM hB
  refine PySem.P.add_list e e2 ?_ (by rw [List.size_toArray, List.size_toArray]; omega)
  have ea : its.toArray ++ its2.toArray = (its ++ its2).toArray := by simp
  rw [ea]
  exact ⟨.ref _, _, I.lnew (t' := s.toks) (r.append r2) (by rw [List.length_append]; omega), rfl, q _ I.fresh⟩
noncomputable def rRep : R2 := fun x y H Q => ∃ l k xs, x = .ref l ∧ y = .int k ∧ H l = some (.lst xs) ∧ -(2 ^ 63) ≤ k ∧ k < 2 ^ 63 ∧ xs.length * k.toNat ≤ sizeLine ∧
  ∀ p, H p = none → Q (.ref p) (upd H p (.lst (List.replicate k.toNat xs).flatten))
theorem len_rep {α : Type} (xs : List α) (k : Nat) : (List.replicate k xs).flatten.length = k * xs.length := by
  induction k with
  | zero => simp
  | succ k ih => rw [List.replicate_succ, List.flatten_cons, List.length_append, ih, Nat.succ_mul, Nat.add_comm]
theorem op_rep : OpR X (binaryOp .Mult) rRep := by
  intro pins s σ H x y v u Q I rx ry h
  obtain ⟨l, k, xs, rfl, rfl, hH, h1, h2, hz, q⟩ := h
  cases rx
  obtain ⟨t, rfl⟩ := ry
  obtain ⟨z, its, n, r, hl, e⟩ := I.lstM hH
  have hlen : its.toArray.size * k.toNat ≤ sizeLine := by rw [List.size_toArray, ← hl]; exact hz
  have hcap : ¬ its.toArray.size * k.toNat > (2 ^ 63 - 1) / 8 := by
    have : (sizeLine : Nat) ≤ (2 ^ 63 - 1) / 8 := by decide
    omega
  have hfit : ¬ (!Builtin.List.listFitsIndex k) = true := by
    rw [fitsIndex_both h1 h2]
    exact Bool.false_ne_true
  have hlong : ¬ Builtin.List.listTooLong (its.toArray.size * k.toNat) = true := by
    rw [notLongL hlen]
    exact Bool.false_ne_true
  have hnew : List.foldl (fun x1 x2 => x1 ++ x2) #[] (List.replicate (if its.toArray.isEmpty = true then 0 else k.toNat) its.toArray) = (List.replicate k.toNat its).flatten.toArray := by
    have f0 : ∀ m : Nat, List.foldl (fun x1 x2 => x1 ++ x2) #[] (List.replicate m its.toArray) = (List.replicate m its).flatten.toArray := fun m => by
      have := foldl_rep its m []
      rw [List.nil_append] at this
      exact this
    rw [f0]
    cases its with
    | nil => simp
    | cons a r' => rw [if_neg (by simp)]
  refine wpAny_binaryOp_repeat_ref (T := "list") (U := "int") (by decide) ⟨_, e, rfl⟩ (fun s' => typeIs_int s' k t) noFill_list_mul F.fills_int_mul F.slot_int_rmul repeat_list F.slot_int_index.lookup
    (call_meets F.slot_int_rmul (typeIs_int s k t) F.entry_int_rmul (F.args_int_rmul_2 _ _) (int___rmul___int_list k t l its.toArray n)
      ⟨e, rfl, ⟨_, e, rfl⟩, call_meets F.slot_list_mul ⟨_, e, rfl⟩ F.entry_list_mul (F.args_list_mul_2 _ _) (AutoListH.list___mul___list_int_3 l its.toArray n k t hfit hcap hlong) ⟨e, ?_⟩⟩)
  rw [hnew]
  exact ⟨.ref _, _, I.lnew (t' := s.toks) (r.rep k.toNat) (by rw [len_rep, Nat.mul_comm]; exact hz), rfl, q _ I.fresh⟩

end

section
variable {prog : Program} {w : World} {A : Around} {E : Value → Shared → Prop} {s : Shared}
end

section
variable {X : Cx}
end
end L2

namespace Att
open PySem PySem.W PySem.Calls PyProof.Rows

theorem ints_of_wellAll {P : Params} {h : Heap} : ∀ (ns : List Int) (vs : List Value), WellAll P h vs (ns.map WData.int) → IntsAre vs ns := by
  intro ns
  induction ns with
  | nil =>
    intro vs w
    rw [List.map_nil] at w
    cases w
    exact .nil
  | cons n ns ih =>
    intro vs w
    rw [List.map_cons] at w
    cases w with
    | cons a b =>
      cases a
      exact .cons _ _ (ih _ b)

theorem script_of {l : OpenLaw} {n : Nat} (hn : l.most = some n) {P : Params} {h : Heap} {args : List WData} {vals : List Value}
    (hpre : l.row.toRowW.claim.pre args = true) (hwl : WellAll P h vals args) :
    ∃ a vs ns, vals = [Value.ref a] ∧ args = [WData.list (ns.map WData.int)] ∧ h.get? a = some { cls := .type "list", data := .seq vs.toArray } ∧ IntsAre vs ns ∧ ns.length ≤ n := by
  have hsh : WShape.hasAll [] args [.list .int] = true := (pre_splitW hpre).1
  have hc : l.pre.holds [] { args := args } = true := (pre_splitW hpre).2
  obtain ⟨d, r, rfl, h1, h2⟩ := hasAllW_cons hsh
  obtain rfl := hasAllW_nil h2
  obtain ⟨xs, rfl, h3⟩ := hasW_list h1
  obtain ⟨ns, rfl⟩ := items_int h3
  have hlen : ns.length ≤ n := by
    unfold OpenLaw.pre at hc
    have h4 : (WTm.not (.lt (.lit (.int (n : Int))) (.len (.arg 0)))).holds [] { args := [.list (ns.map .int)] } = true := by
      have h4 := (holds_andW hc).1
      rw [hn] at h4
      exact h4
    have h5 := condW_of h4 (w_not (w_lt w_lit (w_len_list (w_arg rfl))))
    rw [List.length_map] at h5
    refine Nat.le_of_not_lt fun q => ?_
    have q' : (n : Int) < ((ns.length : Nat) : Int) := by omega
    first
      | (rw [decide_eq_true q'] at h5; exact absurd h5 (by decide))
      | (simp at h5; omega)
  cases hwl with
  | cons w1 w2 =>
    cases w2
    cases w1 with
    | list ho hall => exact ⟨_, _, ns, rfl, rfl, ho, ints_of_wellAll ns _ hall, hlen⟩

theorem post_true (l : OpenLaw) (args : List WData) : l.row.toRowW.claim.post args (.bool true) args = true :=
  postW_of (r := l.row.toRowW) (X := (true == true))
    (show WShape.has [] (.bool true) .bool = true by first | rfl | decide | simp [WShape.has, WShape.arms, WShape.armsAll])
    (show (WTm.eq .res (.lit (.bool true))).value [] { args := args, res := some (.bool true), after := args } = some (.bool (true == true)) from w_eq_bool (w_res rfl) w_lit) rfl

theorem attach_call {l : OpenLaw} {n : Nat} {q : Program} {loose : List Str} {XP : (Str → Option Value) → Heap → Prop} {YP : World → Heap → Prop} {d : DefRec}
    (hn : l.most = some n) (hdf : d.params.defaults = [])
    (call : ∀ (w : World) (s₀ s₁ : Shared) (mg mb : Str → Option Value) (fa : Addr) (o : Obj) (pm cd doc : Value) (a : Addr) (vs : List Value) (ns : List Int),
      Ground q loose [] XP w s₀ mg mb s₁.heap → YP w s₁.heap →
      s₁.heap.get? fa = some o → o.data = .func (docDef d.name d.params d.body d.scope pm cd doc) → s₁.heap.CodeRec cd d.name → mg d.name = some (.ref fa) →
      s₁.heap.get? a = some { cls := .type "list", data := .seq vs.toArray } → IntsAre vs ns → ns.length ≤ n → s₁.gens = #[] →
      codeAny (model l.prog w) callerA (.call (.ref fa) ⟨[.ref a], []⟩) (fun r s' => r = .ok (.ret (.bool true)) ∧ OldK s₁.heap s'.heap ∧ s'.os = s₁.os ∧ AllBare s'.gens) s₁) :
    WalkO q loose XP YP l.row.toRowW d [] (fun f vs => PySem.call f vs) := by
  intro w s₀ s₁ mg mb G Y fa o pm cd doc dV kV ho hd hcd hD hmg hg args vals as hpre hlay hrd hwl hlo
  obtain rfl : dV = .none := Dflts.none hD hdf
  obtain rfl : kV = .none := Dflts.noKw hD
  obtain ⟨a, vs, ns, rfl, rfl, hobj, hints, hlen⟩ := script_of hn hpre hwl
  refine enter_call (codeAny_mono (call w s₀ s₁ mg mb fa o pm cd doc a vs ns G Y ho (fd_plain hd) hcd hmg hobj hints hlen hg) fun r s' hq => ?_)
  obtain ⟨rfl, h2, h3, h4⟩ := hq
  exact ⟨.inl ⟨.bool true, .bool true, [], rfl, fun _ => rfl, .bool true, post_true l _, fun _ => ⟨List.Pairwise.nil, fun _ hm => (nomatch hm)⟩⟩, h2, h3, h4⟩

section
variable {prog : Program} {w : World} {A : Around} {E : Value → Shared → Prop} {s : Shared} {K : Frag}

end
end Att

namespace L2
open PySem PySem.Spec PyProof.Rows

theorem vals_ints : ∀ {vs : List Value} {ns : List Int}, IntsAre vs ns → Vals (ns.map V.int) vs
  | _, _, .nil => .nil
  | _, _, .cons n t h => .cons ⟨t, rfl⟩ (vals_ints h)

end L2

namespace L2
open PySem PySem.Spec PyProof.Rows

end L2

namespace L2
open PySem PySem.Spec PyProof.Rows

noncomputable def inClass (s : Stmt) (j : Nat) : Stmt := match s with
  | .ClassDef _ _ _ body _ _ _ _ _ _ _ => body.getD j (.Pass ⟨0, 0, 0, 0⟩)
  | _ => .Pass ⟨0, 0, 0, 0⟩
noncomputable def defArgs (s : Stmt) : Arguments := match s with
  | .FunctionDef _ a _ _ _ _ _ _ _ _ => a
  | _ => { posonlyargs := [], args := [], vararg := none, kwonlyargs := [], kw_defaults := [], kwarg := none, defaults := [] }
noncomputable def defBody (s : Stmt) : List Stmt := match s with
  | .FunctionDef _ _ b _ _ _ _ _ _ _ => b
  | _ => []
noncomputable def defScope (s : Stmt) : Scope := match s with
  | .FunctionDef _ _ _ _ _ _ sc _ _ _ => sc
  | _ => { kind := .function, names := [], isGenerator := false, isCoroutine := false }

noncomputable abbrev CX0 : CXT := fun _ _ _ _ _ _ => False
noncomputable abbrev E0 : XK := fun _ _ _ => False
theorem pass0 {X : Cx} : Passes CX0 X E0 := fun _ _ _ _ _ _ _ h => h.elim

section
variable {P : Program} {w : World} {K : PySem.W.Frag} {mg : Str → Option Value} {base : Heap}
end
theorem hu_of {A : Around} {k : Nat} (hr : Room k A) : A.units + 1 < cLine := Nat.lt_of_le_of_lt (Nat.add_le_add_left (by decide : 1 ≤ 64) _) hr.units
section
variable {X : Cx}
theorem pv (i : Nat) {x : Str} {pos : Pos} (hN : X.N[i]? = some x := by rfl) (hv : Vis X.env.scope x := by first | exact Or.inl rfl | exact Or.inr (Or.inl rfl) | exact Or.inr (Or.inr rfl)) (hd : (x == ("__debug__" : Str)) = false := by decide)
    (hcd : (x == ("__classdict__" : Str)) = false := by decide) : PE X (.Name x pos) (tVar i) := pe_var hN hv hd hcd
end

theorem iteF {A B : Prop} (h : B) : if false = true then A else B := by
  rw [if_neg Bool.false_ne_true]
  exact h
theorem iteT {A B : Prop} (h : A) : if true = true then A else B := by
  rw [if_pos rfl]
  exact h
theorem ite2 {c A B : Prop} [Decidable c] (h1 : c → A) (h2 : ¬ c → B) : if c then A else B := by
  by_cases h : c
  · rw [if_pos h]
    exact h1 h
  · rw [if_neg h]
    exact h2 h
noncomputable def Same (H H' : Hp) : Prop := ∀ b o, H b = some o → H' b = some o
theorem Same.refl (H : Hp) : Same H H := fun _ _ h => h
theorem Same.trans {H H1 H2 : Hp} (a : Same H H1) (b : Same H1 H2) : Same H H2 := fun c o h => b c o (a c o h)
theorem Same.free {H H' : Hp} (e : Same H H') {l : Addr} (h : H' l = Option.none) : H l = Option.none := by
  cases q : H l with
  | none => rfl
  | some o =>
    rw [e l o q] at h
    cases h
theorem Same.seq {K : PySem.W.Frag} {H H' : Hp} {a : Addr} {xs : List V} (e : Same H H') (h : SqL K H a xs) : SqL K H' a xs := by
  rcases h with (h | ⟨o, h⟩) | h
  · exact .inl (.inl (e _ _ h))
  · exact .inl (.inr ⟨o, e _ _ h⟩)
  · exact .inr h

end L2

namespace L2
open PySem PySem.Spec PyProof.Rows

end L2

namespace L2
open PySem PySem.Spec PyProof.Rows

section
variable (P : Program) (w : World)
end

section
variable {P : Program} {w : World} {H H' : Hp} {h h' : Heap} {a : Addr} {o : HO}
end

section
variable {P : Program} {w : World} {H : Hp} {h h' : Heap} {x e : Addr} {o' : HO}
end

section
variable {fs fs' ex ex' : List Addr} {H H1 H2 : Hp} {h h1 h2 h' : Heap} {a x e : Addr} {o : HO}
end

end L2

namespace L2
open PySem PySem.Spec PyProof.Rows

section
variable {X : Cx} {pins : List (Addr × Obj)} {σ : List (Option V)} {H H' : Hp} {s : Shared} {h' : Heap}

end

end L2

namespace L2
open PySem PySem.Spec PyProof.Rows
section
variable {X : Cx}

variable {a b : Expr} {ta tb : TE} {pos : Pos}
variable {tA tB' : TT} {rest : List Expr}
end
end L2

namespace L2
open PySem PySem.Spec PyProof.Rows

section
variable {X : Cx} {pins : List (Addr × Obj)} {σ : St} {H : Hp} {s : Shared} {a : Addr} {xs ys : List V}
end

section
variable {X : Cx} {pins : List (Addr × Obj)} {σ : St} {H : Hp} {s : Shared} {E : Value → Shared → Prop}
end

section
variable {X : Cx} {st : Stmt} {rest : List Stmt} {t u : TS} {e : Expr} {te : TE} {pos : Pos}
end

section
variable {X : Cx} {pos : Pos}
end

section
variable {X : Cx} {pos : Pos}
end

end L2

namespace L2
open PySem PySem.Spec PyProof.Rows
section
variable {X : Cx} {tg : Expr}
end

end L2

namespace L2
open PySem PySem.Spec PyProof.Rows

section
variable {X : Cx} {a b c : Expr} {ta tb tc : TE} {pos : Pos}

end

section
variable {X : Cx} {a b c : Expr} {ta tb tc : TE} {pos : Pos}
end
end L2

namespace L2
open PySem PySem.Spec PyProof.Rows

section
variable {prog : Program} {w : World} {A : Around} {E : Value → Shared → Prop} {s : Shared} {K : PySem.W.Frag} {x dx C f : Addr} {mA : Str → Option Value} {name : Str} {v : Value}

end

section
variable {P : Program} {w : World} {H H' : Hp} {h h' : Heap} {a C dx : Addr} {fs fs' : List (Str × V)}
end

section
variable {X : Cx} {pins : List (Addr × Obj)} {σ : St} {H : Hp} {s : Shared} {a C dx : Addr} {fs : List (Str × V)} {f : Str} {v : V} {A : Around} {E : Value → Shared → Prop}

end

section
variable {X : Cx} {o e value : Expr} {f : Str} {pos pos' tpos : Pos} {ta tv : TE}
end

section
variable {X : Cx} {pins : List (Addr × Obj)} {σ : St} {H : Hp} {s : Shared} {A : Around} {E : Value → Shared → Prop} {Q : Value → Shared → Prop} {c : Value} {b : Bool}
end
end L2

namespace L2
open PySem PySem.Spec PyProof.Rows

section
variable {X : Cx} {e : Expr} {es : List Expr} {te : TE} {t : TA} {pos : Pos}
end

section
variable {X : Cx} {pins : List (Addr × Obj)} {σ : St} {H : Hp} {s s' : Shared}
end

section
variable {X : Cx} {CX : CXT} {k : Nat} {f C : Addr} {fd : FuncData} {ps : List Str} {sp : Sp} {dvs : List V} {ds : List Value} {E : XK} {x m : Str} {p pos apos : Pos} {e o : Expr} {es : List Expr} {ta : TE} {t : TA}

end

section
variable {X : Cx} {CX : CXT} {k : Nat} {f C : Addr} {fd : FuncData} {ps ks : List Str} {sp : Sp} {E : XK} {x m : Str} {p pos apos kpos : Pos} {e o : Expr} {es : List Expr} {kws : List Keyword} {te ta : TE} {t tk : TA} {nm : Option Str}
variable {g : List Value → List Value → List Value} {gV : List V → List V → List V}
end

end L2

namespace L2
open PySem PySem.Spec PyProof.Rows
section
variable {X : Cx} {x : Str} {p pos : Pos} {e : Expr} {es : List Expr} {t : TA} {id T : String} {r : List V → Hp → VK → Prop}

end
end L2

namespace L2
open PySem PySem.Spec PyProof.Rows

section
variable {κ : Type} [DecidableEq κ]
noncomputable def valV (kvs : List (κ × V)) (k : κ) : Option V := (kvs.find? fun kv => decide (kv.1 = k)).map (·.2)
noncomputable def putK (kvs : List (κ × V)) (k : κ) (v : V) : List (κ × V) :=
  if (kvs.any fun kv => decide (kv.1 = k)) = true then kvs.map (fun kv => if kv.1 = k then (kv.1, v) else kv) else kvs ++ [(k, v)]
theorem valV_pos {p : κ × V} {r : List (κ × V)} {k : κ} (e : p.1 = k) : valV (p :: r) k = some p.2 := by simp [valV, List.find?_cons, e]
theorem valV_neg {p : κ × V} {r : List (κ × V)} {k : κ} (e : ¬ p.1 = k) : valV (p :: r) k = valV r k := by simp [valV, List.find?_cons, e]
theorem valV_any (k : κ) : ∀ kvs : List (κ × V), (kvs.any fun kv => decide (kv.1 = k)) = (valV kvs k).isSome
  | [] => rfl
  | p :: r => by
    rw [List.any_cons]
    by_cases e : p.1 = k
    · simp only [valV_pos e, decide_eq_true e, Bool.true_or, Option.isSome_some]
    · rw [valV_neg e, decide_eq_false e, Bool.false_or]; exact valV_any k r
theorem length_putK (kvs : List (κ × V)) (k : κ) (v : V) : (putK kvs k v).length ≤ kvs.length + 1 := by
  unfold putK
  split
  · rw [List.length_map]; omega
  · rw [List.length_append, List.length_cons, List.length_nil]; omega
theorem putK_new {kvs : List (κ × V)} {k : κ} (v : V) (h : valV kvs k = none) : putK kvs k v = kvs ++ [(k, v)] := by
  unfold putK
  rw [valV_any, h]
  exact if_neg (by decide)

theorem RelO.isSome_eq {o : Option V} {u : Option Value} (r : RelO o u) : o.isSome = u.isSome := by
  cases o with
  | none => cases u with
    | none => rfl
    | some _ => exact (show False from r).elim
  | some _ => cases u with
    | none => exact (show False from r).elim
    | some _ => rfl
theorem KV.val {kvs : List (κ × V)} {vs : List (κ × Value)} (r : KV kvs vs) (k : κ) : RelO (valV kvs k) (valueAt vs k) := by
  unfold KV at r
  induction r with
  | nil => exact True.intro
  | @cons p q ps qs h t ih =>
    obtain ⟨h1, h2⟩ := h
    by_cases e : p.1 = k
    · have e' : q.1 = k := h1.symm.trans e
      have b : valueAt (q :: qs) k = some q.2 := by simp [valueAt, List.find?_cons, e']
      rw [valV_pos e, b]; exact h2
    · have e' : ¬ q.1 = k := fun z => e (h1.trans z)
      have b : valueAt (q :: qs) k = valueAt qs k := by simp [valueAt, List.find?_cons, e']
      rw [valV_neg e, b]; exact ih
theorem KV.any {kvs : List (κ × V)} {vs : List (κ × Value)} (r : KV kvs vs) (k : κ) : (kvs.any fun kv => decide (kv.1 = k)) = vs.any fun kv => decide (kv.1 = k) := by
  unfold KV at r
  induction r with
  | nil => rfl
  | cons h t ih => rw [List.any_cons, List.any_cons, ih, h.1]
theorem KV.repl {kvs : List (κ × V)} {vs : List (κ × Value)} (r : KV kvs vs) (k : κ) {y : V} {u : Value} (ry : RelV y u) :
    KV (kvs.map fun kv => if kv.1 = k then (kv.1, y) else kv) (vs.map fun kv => if kv.1 = k then (kv.1, u) else kv) := by
  unfold KV at r ⊢
  induction r with
  | nil => exact .nil
  | @cons p q ps qs h t ih =>
    rw [List.map_cons, List.map_cons]
    refine .cons ?_ ih
    obtain ⟨h1, h2⟩ := h
    by_cases e : p.1 = k
    · rw [if_pos e, if_pos (h1.symm.trans e)]; exact ⟨h1, ry⟩
    · rw [if_neg e, if_neg (fun z => e (h1.trans z))]; exact ⟨h1, h2⟩
theorem KV.put {kvs : List (κ × V)} {vs : List (κ × Value)} (r : KV kvs vs) (k : κ) {y : V} {u : Value} (ry : RelV y u) : KV (putK kvs k y) (stored vs k u) := by
  unfold putK stored
  rw [r.any k]
  by_cases e : (vs.any fun kv => decide (kv.1 = k)) = true
  · rw [if_pos e, if_pos e]; exact r.repl k ry
  · rw [if_neg e, if_neg e]; exact Paired.snoc r ⟨rfl, ry⟩
theorem KV.length {kvs : List (κ × V)} {vs : List (κ × Value)} (r : KV kvs vs) : kvs.length = vs.length := Paired.length r
end


theorem kV_is {P : Program} {w : World} {k : Key} {u : Value} (r : RelV (kV k) u) : (mixKind P w).is k u = true := by
  cases k with
  | inl i => obtain ⟨t, e⟩ := (show ∃ t, u = Value.int i t from r); subst e; exact mixKind_int P w i t
  | inr x => obtain ⟨t, e⟩ := (show ∃ t, u = Value.str x t from r); subst e; exact mixKind_str P w x t
theorem items_are {P : Program} {w : World} : ∀ {ks : List Key} {us : List Value}, Vals (ks.map kV) us → ItemsAre (mixKind P w) ks us
  | [], _, r => by rw [List.map_nil] at r; cases r; exact .nil
  | k :: ks, _, r => by
    rw [List.map_cons] at r
    cases r with
    | cons h t => exact .cons (kV_is h) (items_are t)

noncomputable abbrev KT (H : Hp) : List (List Key × V) → List (List Key × Addr × Value) → Prop := Paired fun p q => p.1 = q.1 ∧ H q.2.1 = some (.tup (p.1.map kV)) ∧ RelV p.2 q.2.2
theorem KT.val {H : Hp} {kvs : List (List Key × V)} {xs : List (List Key × Addr × Value)} (r : KT H kvs xs) (k : List Key) : RelO (valV kvs k) ((atKey xs k).map (·.2)) := by
  induction r with
  | nil => exact True.intro
  | @cons p q ps qs h t ih =>
    obtain ⟨h1, _, h2⟩ := h
    by_cases e : p.1 = k
    · have e' : q.1 = k := h1.symm.trans e
      have b : atKey (q :: qs) k = some q.2 := by simp [atKey, List.find?_cons, e']
      rw [valV_pos e, b]; exact h2
    · have e' : ¬ q.1 = k := fun z => e (h1.trans z)
      have b : atKey (q :: qs) k = atKey qs k := by simp [atKey, List.find?_cons, e']
      rw [valV_neg e, b]; exact ih
theorem KT.repl {H : Hp} {kvs : List (List Key × V)} {xs : List (List Key × Addr × Value)} (r : KT H kvs xs) (k : List Key) {y : V} {u : Value} (ry : RelV y u) :
    KT H (kvs.map fun kv => if kv.1 = k then (kv.1, y) else kv) (xs.map (putAt k u)) := by
  induction r with
  | nil => exact .nil
  | @cons p q ps qs h t ih =>
    rw [List.map_cons, List.map_cons]
    refine .cons ?_ ih
    obtain ⟨h1, h2, h3⟩ := h
    unfold putAt
    by_cases e : p.1 = k
    · rw [if_pos e, if_pos (h1.symm.trans e)]; exact ⟨h1, h2, ry⟩
    · rw [if_neg e, if_neg (fun z => e (h1.trans z))]; exact ⟨h1, h2, h3⟩
theorem KT.put {H : Hp} {kvs : List (List Key × V)} {xs : List (List Key × Addr × Value)} (r : KT H kvs xs) (k : List Key) {b : Addr} {y : V} {u : Value} (hb : H b = some (.tup (k.map kV))) (ry : RelV y u) :
    KT H (putK kvs k y) (storedH xs k b u) := by
  have e : (kvs.any fun kv => decide (kv.1 = k)) = (atKey xs k).isSome := by
    rw [valV_any, (r.val k).isSome_eq, Option.isSome_map]
  unfold putK storedH
  rw [e]
  by_cases q : (atKey xs k).isSome = true
  · rw [if_pos q, if_pos q]; exact r.repl k ry
  · rw [if_neg q, if_neg q]; exact Paired.snoc r ⟨rfl, hb, ry⟩
theorem KT.keeps {H H' : Hp} {kvs : List (List Key × V)} {xs : List (List Key × Addr × Value)} (r : KT H kvs xs) (ht : ∀ b ys, H b = some (.tup ys) → H' b = some (.tup ys)) : KT H' kvs xs :=
  Paired.mapP r fun _ _ z => ⟨z.1, ht _ _ z.2.1, z.2.2⟩

section
variable {P : Program} {w : World} {H : Hp} {h : Heap} {a : Addr}
theorem rd_of {u : HO} (ok : HOk P w H h) (e : Rd H a u) : ObjOk P w H h a u := e.ok ok
theorem dk_rd {kvs : List (Key × V)} (ok : HOk P w H h) (e : Rd H a (.dK kvs)) : kvs.length ≤ sizeLine ∧ (a == sysModules) = false ∧ ∃ vs, KV kvs vs ∧ h.DictOf (mixKind P w) a vs :=
  show ObjOk P w H h a (.dK kvs) from rd_of ok e
theorem dk_of {kvs : List (Key × V)} (ok : HOk P w H h) (e : H a = some (.dK kvs)) : kvs.length ≤ sizeLine ∧ (a == sysModules) = false ∧ ∃ vs, KV kvs vs ∧ h.DictOf (mixKind P w) a vs := dk_rd ok (.inl e)
theorem key_of {ks : List Key} (ok : HOk P w H h) (e : H a = some (.tup (ks.map kV))) : (tupleKind (mixKind P w)).is h ks a := by
  obtain ⟨_, its, r, o, h1, h2, n, h3⟩ := (show ObjOk P w H h a (.tup (ks.map kV)) from ok a _ e)
  exact ⟨o, its.toArray, n, h1, h2, h3, by simpa using items_are r⟩
theorem dt_rd {kvs : List (List Key × V)} (ok : HOk P w H h) (e : Rd H a (.dT kvs)) : kvs.length ≤ sizeLine ∧ (a == sysModules) = false ∧
    ∃ xs, KT H kvs xs ∧ h.DictOfH (tupleKind (mixKind P w)) a xs := by
  obtain ⟨z, y, xs, r, o, es, ep, h1, h2, h3, h4, h5⟩ := (show ObjOk P w H h a (.dT kvs) from rd_of ok e)
  refine ⟨z, y, xs, r, o, es, ep, h1, h2, h3, h4, fun x hx => ?_, h5⟩
  have all : ∀ {l : List (List Key × V)} {m : List (List Key × Addr × Value)}, KT H l m → ∀ x ∈ m, (tupleKind (mixKind P w)).is h x.1 x.2.1 := by
    intro l m q
    induction q with
    | nil => intro x hx; exact nomatch hx
    | @cons p q ps qs hq t ih =>
      intro x hx
      rcases List.mem_cons.mp hx with e | hx
      · subst e
        exact key_of ok (by rw [← hq.1]; exact hq.2.1)
      · exact ih x hx
  exact all r x hx
theorem dt_of {kvs : List (List Key × V)} (ok : HOk P w H h) (e : H a = some (.dT kvs)) : kvs.length ≤ sizeLine ∧ (a == sysModules) = false ∧
    ∃ xs, KT H kvs xs ∧ h.DictOfH (tupleKind (mixKind P w)) a xs := dt_rd ok (.inl e)
end

noncomputable def DGet (H : Hp) (a : Addr) (y : V) (r : Option V) : Prop :=
  (∃ kvs k, Rd H a (.dK kvs) ∧ y = kV k ∧ r = valV kvs k) ∨ ∃ kvs k b, Rd H a (.dT kvs) ∧ y = .ref b ∧ H b = some (.tup (k.map kV)) ∧ r = valV kvs k
noncomputable def DPut (H : Hp) (a : Addr) (y v : V) (H' : Hp) : Prop :=
  (∃ kvs k, H a = some (.dK kvs) ∧ y = kV k ∧ kvs.length < sizeLine ∧ H' = upd H a (.dK (putK kvs k v))) ∨
  ∃ kvs k b, H a = some (.dT kvs) ∧ y = .ref b ∧ H b = some (.tup (k.map kV)) ∧ kvs.length < sizeLine ∧ H' = upd H a (.dT (putK kvs k v))
theorem DGet.k {H : Hp} {a : Addr} {kvs : List (Key × V)} {k : Key} (e : H a = some (.dK kvs)) : DGet H a (kV k) (valV kvs k) := .inl ⟨kvs, k, .inl e, rfl, rfl⟩
theorem DPut.k {H : Hp} {a : Addr} {kvs : List (Key × V)} {k : Key} {v : V} (e : H a = some (.dK kvs)) (hl : kvs.length < sizeLine) : DPut H a (kV k) v (upd H a (.dK (putK kvs k v))) := .inl ⟨kvs, k, e, rfl, hl, rfl⟩
section
variable {X : Cx} {pins : List (Addr × Obj)} {σ : St} {H : Hp} {s : Shared} {a : Addr} {y v : V} {u r : Value} {o : Option V} {A : Around} {E : Value → Shared → Prop}

theorem Inv.big (I : Inv X pins σ H s) : sysModules < s.heap.objs.size := by
  have h : mainGlobals < s.heap.objs.size := (I.mod.glob.keeps I.bk).lt
  exact Nat.lt_trans (by decide) h

theorem d_getItem {Q : Value → Shared → Prop} (hu : A.units + 1 < cLine) (I : Inv X pins σ H s) (g : DGet H a y (some v)) (ry : RelV y u) (h : ∀ w' s', Inv X pins σ H s' → RelV v w' → Q w' s') :
    wpAny (model X.prog X.w) A (getItem (.ref a) u) Q E s := by
  rcases g with ⟨kvs, k, e, ey, l⟩ | ⟨kvs, k, b, e, ey, eb, l⟩
  · subst ey
    obtain ⟨z, hd, vs, rel, dd⟩ := dk_rd I.hok e
    obtain ⟨w', hw, rw'⟩ := RelO.some_of (v := v) (o := valueAt vs k) (by rw [l]; exact rel.val k)
    exact wpAny_getItem_of (kV_is ry) dd.mapOf hw (h w' _ (I.tok _) rw')
  · subst ey
    cases (show u = Value.ref b from ry)
    obtain ⟨z, hd, xs, rel, dd⟩ := dt_rd I.hok e
    obtain ⟨w', hw, rw'⟩ := RelO.some_of (v := v) (o := (atKey xs k).map (·.2)) (by rw [l]; exact rel.val k)
    obtain ⟨p, hp, hp2⟩ := Option.map_eq_some_iff.mp hw
    refine wpAny_getItem_heap (tupleKind_room_in1 hu) (key_of I.hok eb) dd hp ?_
    rw [hp2]
    exact h w' _ (I.tok _) rw'
theorem d_notIn {Q : Value → Shared → Prop} (hu : A.units + 1 < cLine) (I : Inv X pins σ H s) (g : DGet H a y o) (ry : RelV y u) (h : ∀ s', Inv X pins σ H s' → Q (.bool (!o.isSome)) s') :
    wpAny (model X.prog X.w) A (compareOp .NotIn u (.ref a)) Q E s := by
  rcases g with ⟨kvs, k, e, ey, l⟩ | ⟨kvs, k, b, e, ey, eb, l⟩
  · subst ey
    obtain ⟨z, hd, vs, rel, dd⟩ := dk_rd I.hok e
    refine wpAny_notIn_of (kV_is ry) hd dd.mapOf ?_
    rw [← (rel.val k).isSome_eq, ← l]
    exact h _ (I.tok _)
  · subst ey
    cases (show u = Value.ref b from ry)
    obtain ⟨z, hd, xs, rel, dd⟩ := dt_rd I.hok e
    refine wpAny_notIn_heap (tupleKind_room_in1 hu) (key_of I.hok eb) hd dd ?_
    have q := (rel.val k).isSome_eq
    rw [Option.isSome_map] at q
    rw [← q, ← l]
    exact h _ (I.tok _)
theorem d_write {h' : Heap} {t' : Nat} {ob : HO} (I : Inv X pins σ H s) (mu : Mut (H a)) (hs : Heap.SameBut a s.heap h') (he : ∃ q, h'.get? a = some q) (new : ObjOk X.prog X.w (upd H a ob) h' a ob) :
    Inv X pins σ (upd H a ob) { s with heap := h', toks := t' } :=
  I.write (x := a) (e := a) mu (.inl rfl) (fun b q hb z => (hs.2 b hb).trans z) he new
theorem dk_new {P : Program} {w : World} {H' : Hp} {h' : Heap} {kvs : List (Key × V)} {vs : List (Key × Value)} (z : kvs.length ≤ sizeLine) (hd : (a == sysModules) = false) (rel : KV kvs vs) (dd : h'.DictOf (mixKind P w) a vs) :
    ObjOk P w H' h' a (.dK kvs) := ⟨z, hd, vs, rel, dd⟩
theorem d_setItem {H' : Hp} {Q : Unit → Shared → Prop} (hu : A.units + 1 < cLine) (I : Inv X pins σ H s) (g : DPut H a y v H') (ry : RelV y u) (rv : RelV v r) (h : ∀ s', Inv X pins σ H' s' → Q () s') :
    wpAny (model X.prog X.w) A (setItem (.ref a) u r) Q E s := by
  rcases g with ⟨kvs, k, e, ey, l, eH⟩ | ⟨kvs, k, b, e, ey, eb, l, eH⟩
  · subst ey eH
    obtain ⟨z, hd, vs, rel, dd⟩ := dk_of I.hok e
    have hz : vs.length ≤ sizeLine := by rw [← rel.length]; exact z
    have hl : (putK kvs k v).length ≤ sizeLine := by have := length_putK kvs k v; omega
    refine wpAny_setItem_pairs (hsz := hz) (kV_is ry) dd fun h' dd' hs => h _ ?_
    have he : ∃ q, h'.get? a = some q := let ⟨q, _, _, hq, _⟩ := dd'; ⟨q, hq⟩
    exact d_write I (by rw [e]; exact True.intro) hs he (dk_new hl hd (rel.put k rv) dd')
  · subst ey eH
    cases (show u = Value.ref b from ry)
    obtain ⟨z, hd, xs, rel, dd⟩ := dt_of I.hok e
    have hz : xs.length ≤ sizeLine := by rw [← Paired.length rel]; exact z
    have hl : (putK kvs k v).length ≤ sizeLine := by have := length_putK kvs k v; omega
    refine wpAny_setItem_heap (hsz := hz) (tupleKind_room_in1 hu) (key_of I.hok eb) dd fun h' dd' hs => h _ ?_
    obtain ⟨q, es, ep, hq, h2, h3, h4, _, h5⟩ := dd'
    refine d_write I (by rw [e]; exact True.intro) hs ⟨q, hq⟩ ⟨hl, hd, _, (rel.put k eb rv).keeps fun c ys ec => ?_, q, es, ep, hq, h2, h3, h4, h5⟩
    rw [upd_ne (ne_of ec e (fun z => nomatch z))]
    exact ec
end

section
variable {X : Cx} {pins : List (Addr × Obj)} {σ : St} {H : Hp} {s : Shared} {a : Addr} {kvs : List (Key × V)} {k : Key} {u : Value} {A : Around} {E : Value → Shared → Prop}
theorem d_clear {Q : Value → Shared → Prop} (I : Inv X pins σ H s) (e : H a = some (.dK kvs)) (h : ∀ s', Inv X pins σ (upd H a (.dK [])) s' → Q .none s') : wpAny (model X.prog X.w) A (call (.builtin "dict.clear") [.ref a]) Q E s := by
  obtain ⟨z, hd, vs, rel, dd⟩ := dk_of I.hok e
  refine call_meetsIn PySem.F.slot_dict_clear dd.typeIs PySem.F.entry_dict_clear (PySem.F.args_dict_clear_1 _) (meets_dict_clear (mixKind X.prog X.w) a) ⟨vs, dd, by rw [← rel.length]; exact z, fun h' dd' hs => h _ ?_⟩
  have he : ∃ q, h'.get? a = some q := let ⟨q, _, _, hq, _⟩ := dd'; ⟨q, hq⟩
  exact d_write (t' := s.toks) I (by rw [e]; exact True.intro) hs he (dk_new (Nat.zero_le _) hd .nil dd')
end


noncomputable def NoSl (i : Expr) : Prop := ∀ ov iv, subscripted i false ov iv = operate [ov, iv] (getItem ov iv)
theorem subD_of {prog : Program} {w : World} {A : Around} {E : Value → Shared → Prop} {s : Shared} {env : Env} {value slice : Expr} {pos : Pos} {T id : String} {Q : Value → Shared → Prop}
    (hl : typeLookup (.type T) "__getitem__" = pure (some (.builtin id))) (hs : NoSl slice)
    (h : wpAny (model prog w) A (eval value env) (fun o s₁ => wpAny (model prog w) A (eval slice env) (fun i s₂ => s₂.TypeIs o T ∧ wpAny (model prog w) A (getItem o i) Q E s₂) E s₁) E s) :
    wpAny (model prog w) A (eval (.Subscript value slice pos) env) Q E s := by
  refine Subscript_ (wpAny_mono h (fun o s₁ h₁ => wpAny_mono h₁ (fun i s₂ h₂ => ?_) fun _ _ x => x) fun _ _ x => x)
  obtain ⟨hT, h₂⟩ := h₂
  unfold subscriptTail
  refine wpAny_bind ?_
  rw [getitemInPython_of_ne hT.not_modules]
  refine wpAny_bind (wpAny_specialOf hT hl ?_)
  have fin : wpAny (model prog w) A (subscripted slice false o i) (fun r s₃ => wpAny (model prog w) A (letTemporaryGo value o r >>= fun _ => pure r) Q E s₃) E s₂ := by
    rw [hs o i]
    exact wpAny_operating (wpAny_mono h₂ (fun r s₃ h₃ => wpAny_bind (wpAny_letTemporaryGo (wpAny_pure h₃))) fun _ _ x => x)
  first
    | exact wpAny_pure (wpAny_bind fin)
    | exact wpAny_bind (wpAny_pure (wpAny_bind fin))
    | exact wpAny_bind fin

theorem dict_typeIs {X : Cx} {pins : List (Addr × Obj)} {σ : St} {H : Hp} {s : Shared} {a : Addr} {y : V} {o : Option V} (I : Inv X pins σ H s) (g : DGet H a y o) : s.TypeIs (.ref a) "dict" := by
  rcases g with ⟨kvs, k, e, _, _⟩ | ⟨kvs, k, b, e, _, _, _⟩
  · obtain ⟨_, _, vs, _, dd⟩ := dk_rd I.hok e
    exact dd.typeIs
  · obtain ⟨_, _, xs, _, dd⟩ := dt_rd I.hok e
    exact dd.typeIs
noncomputable def tDGet (td ty : TE) : TE := fun σ H Q => td σ H fun x H1 => ty σ H1 fun y H2 => ∃ a v, x = .ref a ∧ DGet H2 a y (some v) ∧ Q v H2
noncomputable def tDNotIn (ty td : TE) : TE := fun σ H Q => ty σ H fun y H1 => td σ H1 fun x H2 => ∃ a o, x = .ref a ∧ DGet H2 a y o ∧ Q (.bl (!o.isSome)) H2
noncomputable def sDPut (td ty tv : TE) : TS := fun D σ H => tv σ H fun v H1 => td σ H1 fun x H2 => ty σ H2 fun y H3 => ∃ a H4, x = .ref a ∧ DPut H3 a y v H4 ∧ D.nx σ H4
section
variable {X : Cx} {o i e value : Expr} {pos pos' tpos : Pos} {td ty tv : TE}
theorem pe_dget (hu : X.A.units + 1 < cLine) (ho : PE X o td) (hi : PE X i ty) (hs : NoSl i) : PE X (.Subscript o i pos) (tDGet td ty) := by
  intro pins s σ H Q I h
  refine subD_of PySem.F.slot_dict_getitem.lookup hs (thn (ho pins s σ H _ I h) fun u s1 ⟨x, H1, I1, rx, q1⟩ => thn (hi pins s1 σ H1 _ I1 q1) fun iv s2 ⟨y, H2, I2, ry, a, v, ex, g, q2⟩ => ?_)
  subst ex
  obtain rfl : u = Value.ref a := rx
  exact ⟨dict_typeIs I2 g, d_getItem hu I2 g ry fun w' s3 I3 rw' => ⟨v, H2, I3, rw', q2⟩⟩
theorem pc_dnotin (hu : X.A.units + 1 < cLine) (hi : PE X i ty) (ho : PE X o td) : PC X .NotIn i o (tDNotIn ty td) := by
  intro pins s σ H Q I h
  refine thn (hi pins s σ H _ I h) fun iv s1 ⟨y, H1, I1, ry, q1⟩ => thn (ho pins s1 σ H1 _ I1 q1) fun u s2 ⟨x, H2, I2, rx, a, ov, ex, g, q2⟩ => ?_
  subst ex
  obtain rfl : u = Value.ref a := rx
  exact d_notIn hu I2 g ry fun s3 I3 => ⟨.bl (!ov.isSome), H2, I3, rfl, q2⟩
theorem ps_dput (hu : X.A.units + 1 < cLine) (ho : PE X o td) (hi : PE X i ty) (hv : PE X value tv) (hs : swapsWith value (some (.Subscript o i pos')) pos.line X.env = pure false) :
    PS X (.Assign [.Subscript o i pos'] value pos) (sDPut td ty tv) := by
  intro pins s σ H D I h
  refine wpAny_Assign_Subscript (thn (hv pins s σ H _ I h) fun r s1 ⟨v, H1, I1, rv, q1⟩ => thn (ho pins s1 σ H1 _ I1 q1) fun u s2 ⟨x, H2, I2, rx, q2⟩ => thn (hi pins s2 σ H2 _ I2 q2) fun iv s3 ⟨y, H3, I3, ry, a, H4, ex, g, q3⟩ => ?_) hs
  subst ex
  obtain rfl : u = Value.ref a := rx
  exact d_setItem hu I3 g ry rv fun s4 I4 => ⟨σ, H4, I4, q3⟩
end


theorem dk_empty {P : Program} {w : World} {H : Hp} (h : Heap) (hb : sysModules < h.objs.size) : ObjOk P w H (h.push { cls := .type "dict", data := .dict #[] }) h.objs.size (.dK []) :=
  ⟨Nat.zero_le _, beq_eq_false_iff_ne.mpr (Ne.symm (Nat.ne_of_lt hb)), [], .nil, Heap.DictOf.new h⟩
noncomputable def tDNewK : TE := fun _ H Q => ∀ p, H p = none → Q (.ref p) (upd H p (.dK []))
section
variable {X : Cx} {pos : Pos}
theorem pe_dnewK : PE X (.Dict [] [] pos) tDNewK := fun pins s σ H Q I h =>
  wpAny_Dict_empty ⟨.ref s.heap.objs.size, _, I.laid (a := s.heap.objs.size) (o := .dK []) (t' := s.toks) (fun _ _ q => Heap.get?_push_of_some _ q) (Nat.le_refl _) (dk_empty s.heap I.big), rfl, h _ (I.hok.fresh (Nat.le_refl _))⟩
end

noncomputable def tPairs : List (TE × TE) → St → Hp → (List (V × V) → Hp → Prop) → Prop
  | [], _, H, Q => Q [] H
  | (tk, tv) :: r, σ, H, Q => tk σ H fun x H1 => tv σ H1 fun y H2 => tPairs r σ H2 fun ps H3 => Q ((x, y) :: ps) H3
noncomputable abbrev VV : List (V × V) → List (Value × Value) → Prop := Paired fun p q => RelV p.1 q.1 ∧ RelV p.2 q.2
noncomputable def PPs (X : Cx) (pos : Pos) (keys : List (Option Expr)) (values : List Expr) (trs : List (TE × TE)) : Prop :=
  ∀ (pins : List (Addr × Obj)) (s : Shared) (σ : St) (H : Hp) (Q : List (V × V) → Hp → Prop), Inv X pins σ H s → tPairs trs σ H Q →
    wpAny (model X.prog X.w) X.A (evalPairs (pairTrees keys values X.env pos)) (fun vs s' => ∃ ps H', Inv X pins σ H' s' ∧ VV ps vs ∧ Q ps H') X.xe s
noncomputable def mergeK (kvs more : List (Key × V)) : List (Key × V) := more.foldl (fun acc kv => putK acc kv.1 kv.2) kvs
noncomputable def tDisp (trs : List (TE × TE)) : TE := fun σ H Q => ∀ p, H p = none → tPairs trs σ (upd H p (.dK [])) fun ps H2 => H2 p = some (.dK []) ∧ ∃ kvs : List (Key × V), ps = kvs.map (fun kv => (kV kv.1, kv.2)) ∧ kvs.length ≤ 15 ∧ Q (.ref p) (upd H2 p (.dK (mergeK [] kvs)))
section
variable {X : Cx} {pins : List (Addr × Obj)} {σ : St} {H : Hp} {s : Shared} {a : Addr} {y d : V} {u r : Value} {o : Option V} {A : Around} {E : Value → Shared → Prop}
end

section
variable {X : Cx} {o e f : Expr} {apos cpos : Pos} {td ty tx : TE}
end

section
variable {X : Cx} {pins : List (Addr × Obj)} {σ : St} {H : Hp} {s : Shared} {a : Addr} {kvs : List (Key × V)} {A : Around} {E : Value → Shared → Prop}
end


section
variable {X : Cx} {pins : List (Addr × Obj)} {σ : St} {H : Hp} {s : Shared} {a : Addr} {y : V} {u : Value} {A : Around} {E : Value → Shared → Prop}
end
end L2

namespace Att
open PySem PySem.W PySem.Calls PyProof.Rows

section
variable {prog : Program} {w : World} {A : Around} {E : Value → Shared → Prop} {s : Shared} {K : Frag}

end
end Att

namespace L2
open PySem PySem.Spec PyProof.Rows

end L2

namespace L2
open PySem PySem.Spec PyProof.Rows

end L2

namespace L2
open PySem PySem.Spec PyProof.Rows

section
variable {P : Program} {w : World} {K : PySem.W.Frag} {mg : Str → Option Value} {base : Heap}
end
section
variable {X : Cx}
end

section
variable {κ : Type} [DecidableEq κ]
theorem valV_not {kvs : List (κ × V)} {k : κ} (h : valV kvs k = none) : ¬ k ∈ kvs.map (·.1) := by
  intro m
  obtain ⟨p, hp, e⟩ := List.mem_map.mp m
  have q : (kvs.any fun kv => decide (kv.1 = k)) = true := List.any_eq_true.mpr ⟨p, hp, decide_eq_true e⟩
  rw [valV_any, h] at q
  exact absurd q (by simp)
theorem valV_in {kvs : List (κ × V)} {k : κ} {v : V} (h : valV kvs k = some v) : k ∈ kvs.map (·.1) := by
  have q : (kvs.any fun kv => decide (kv.1 = k)) = true := by
    rw [valV_any, h]
    all_goals rfl
  obtain ⟨p, hp, e⟩ := List.any_eq_true.mp q
  exact List.mem_map.mpr ⟨p, hp, of_decide_eq_true e⟩
end
end L2


namespace L2
open PySem PySem.Spec PyProof.Rows

theorem clo_forIn {env : Env} {f : Str × NameKind → List (Str × Addr) → Sem (ForInStep (List (Str × Addr)))}
    (f1 : ∀ n k cs, k ≠ NameKind.free → f (n, k) cs = pure (.yield cs)) (f2 : ∀ n cs c, env.cells.lookup n = some c → f (n, .free) cs = pure (.yield ((n, c) :: cs))) :
    ∀ (names : List (Str × NameKind)) (acc : List (Str × Addr)), (∀ x ∈ names, x.2 = .free → ∃ c, env.cells.lookup x.1 = some c) → (∀ p ∈ acc, env.cells.lookup p.1 = some p.2) →
      ∃ cl, forIn names acc f = pure cl ∧ (∀ p ∈ cl, env.cells.lookup p.1 = some p.2) ∧ (∀ p ∈ acc, p ∈ cl) ∧ ∀ x ∈ names, x.2 = .free → ∃ c, (x.1, c) ∈ cl
  | [], acc, _, ha => ⟨acc, rfl, ha, fun _ h => h, fun x hx => nomatch hx⟩
  | (n, k) :: r, acc, hn, ha => by
    by_cases hk : k = .free
    · subst hk
      obtain ⟨c, hc⟩ := hn (n, .free) List.mem_cons_self rfl
      obtain ⟨cl, e, h1, h2, h3⟩ := clo_forIn f1 f2 r ((n, c) :: acc) (fun x hx => hn x (List.mem_cons_of_mem _ hx)) (fun p hp => by
        rcases List.mem_cons.mp hp with z | z
        · subst z; exact hc
        · exact ha p z)
      refine ⟨cl, ?_, h1, fun p hp => h2 p (List.mem_cons_of_mem _ hp), fun x hx hf => ?_⟩
      · rw [List.forIn_cons, f2 n acc c hc, pure_bind]
        exact e
      · rcases List.mem_cons.mp hx with z | z
        · subst z; exact ⟨c, h2 _ List.mem_cons_self⟩
        · exact h3 x z hf
    · obtain ⟨cl, e, h1, h2, h3⟩ := clo_forIn f1 f2 r acc (fun x hx => hn x (List.mem_cons_of_mem _ hx)) ha
      refine ⟨cl, ?_, h1, h2, fun x hx hf => ?_⟩
      · rw [List.forIn_cons, f1 n k acc hk, pure_bind]
        exact e
      · rcases List.mem_cons.mp hx with z | z
        · subst z; exact absurd hf hk
        · exact h3 x z hf
theorem closure_ok {scope : Scope} {env : Env} (h : ∀ x ∈ scope.names, x.2 = .free → ∃ c, env.cells.lookup x.1 = some c) :
    ∃ cl, closureFor scope env = pure cl ∧ (∀ p ∈ cl, env.cells.lookup p.1 = some p.2) ∧ ∀ x ∈ scope.names, x.2 = .free → ∃ c, (x.1, c) ∈ cl := by
  obtain ⟨cl, e, h1, _, h3⟩ := clo_forIn (env := env) (f := fun (x : Str × NameKind) (cs : List (Str × Addr)) => if (x.2 == NameKind.free) = true then (do let a ← cellOf env x.1; pure (ForInStep.yield ((x.1, a) :: cs))) else pure (ForInStep.yield cs)) (fun n k cs hk => by
    have hk' : (k == NameKind.free) = false := by simpa using hk
    simp only [hk', Bool.false_eq_true, if_false]) (fun n cs c hc => by
    simp only [beq_self_eq_true, if_true, cellOf, hc, pure_bind]) scope.names [] h (fun p hp => nomatch hp)
  refine ⟨cl, ?_, h1, h3⟩
  rw [← e]
  simp only [closureFor]
  simp
theorem lookup_has {cl : List (Str × Addr)} {n : Str} {c : Addr} (h : (n, c) ∈ cl) : ∃ d, cl.lookup n = some d := by
  induction cl with
  | nil => exact nomatch h
  | cons p r ih =>
    obtain ⟨m, d⟩ := p
    rw [List.lookup_cons]
    cases e : n == m with
    | true => exact ⟨d, rfl⟩
    | false =>
      rcases List.mem_cons.mp h with z | z
      · cases z; simp at e
      · exact ih z

noncomputable def relS (scope sc : Scope) : List (Str × NameKind) := scope.names.map fun (n, k) => if (k == .free && sc.kind == .function && sc.names.lookup n == some .cell) then (n, .cell) else (n, k)
noncomputable def compChk (sc scope : Scope) (NX N' : List Str) (src : List (Option Nat)) : Bool :=
  decide (scope.kind = .function) && scope.names.all (fun y => decide (y.2 ≠ .cell)) && scope.names.all (fun y => decide (y.2 ≠ .local) || decide (scope.names.lookup y.1 = some .local)) &&
  scope.names.all (fun y => decide (y.2 ≠ .free) || decide (sc.names.lookup y.1 = some .cell) || decide (sc.names.lookup y.1 = some .free)) && decide (src.length = N'.length) &&
  (N'.zip src).all (fun p => match p.2 with
    | none => true
    | some j => decide (NX[j]? = some p.1) && (decide (sc.names.lookup p.1 = some .cell) || decide (sc.names.lookup p.1 = some .free)) && (decide ((relS scope sc).lookup p.1 = some .cell) || decide ((relS scope sc).lookup p.1 = some .free)))
structure CompScope (sc scope : Scope) (NX N' : List Str) (src : List (Option Nat)) : Prop where
  kind : scope.kind = .function
  nocell : ∀ y ∈ scope.names, y.2 ≠ .cell
  names : ∀ y ∈ scope.names, y.2 = .local → scope.names.lookup y.1 = some .local
  free : ∀ y ∈ scope.names, y.2 = .free → sc.names.lookup y.1 = some .cell ∨ sc.names.lookup y.1 = some .free
  len : src.length = N'.length
  at_ : ∀ (i j : Nat) (x : Str), src[i]? = some (some j) → N'[i]? = some x → NX[j]? = some x ∧ (sc.names.lookup x = some .cell ∨ sc.names.lookup x = some .free) ∧ ((relS scope sc).lookup x = some .cell ∨ (relS scope sc).lookup x = some .free)
theorem CompScope.of {sc scope : Scope} {NX N' : List Str} {src : List (Option Nat)} (h : compChk sc scope NX N' src = true) : CompScope sc scope NX N' src := by
  unfold compChk at h
  simp only [Bool.and_eq_true, List.all_eq_true, decide_eq_true_eq, Bool.or_eq_true] at h
  obtain ⟨⟨⟨⟨⟨h1, h2⟩, h3⟩, h4⟩, h5⟩, h6⟩ := h
  refine ⟨h1, h2, fun y hy e => ?_, fun y hy e => ?_, h5, fun i j x e1 e2 => ?_⟩
  · rcases h3 y hy with z | z
    · exact absurd e z
    · exact z
  · rcases h4 y hy with (z | z) | z
    · exact absurd e z
    · exact .inl z
    · exact .inr z
  · have hm : (x, some j) ∈ N'.zip src := by
      refine List.mem_of_getElem? (i := i) ?_
      rw [List.getElem?_zip_eq_some]
      exact ⟨e2, e1⟩
    have q := h6 _ hm
    simp only [Bool.and_eq_true, Bool.or_eq_true, decide_eq_true_eq] at q
    exact ⟨q.1.1, q.1.2, q.2⟩

noncomputable def cxComp (X : Cx) (N' : List Str) (scope : Scope) (cl : List (Str × Addr)) (C : Addr) (fp : List Addr) (pn : List (Addr × Obj)) (s₂ : Shared) (H₂ : Hp) : Cx where
  prog := X.prog
  w := X.w
  K := X.K
  mg := X.mg
  base := X.base
  A := X.A
  N := N'
  s₀ := s₂
  H₀ := H₂
  env := compEnvC scope cl C X.env
  outer := X.stack
  stack := X.stack
  ex := fp
  fn := fun _ => false
  calm := X.calm
  pn := pn
  xe := fun _ _ => False
noncomputable def stComp (src : List (Option Nat)) (σ : St) : St := src.map fun o => match o with
  | none => none
  | some j => (σ[j]?).join
theorem stComp_get {src : List (Option Nat)} {σ : St} {i : Nat} {v : V} (h : (stComp src σ)[i]? = some (some v)) : ∃ j, src[i]? = some (some j) ∧ σ[j]? = some (some v) := by
  unfold stComp at h
  rw [List.getElem?_map] at h
  cases e : src[i]? with
  | none => rw [e] at h; cases h
  | some o =>
    rw [e] at h
    cases o with
    | none => cases h
    | some j =>
      refine ⟨j, rfl, ?_⟩
      have h' : (σ[j]?).join = some v := Option.some.inj h
      cases q : σ[j]? with
      | none => rw [q] at h'; cases h'
      | some z => rw [q] at h'; rw [show z = some v from h']

noncomputable def PIf (X : Cx) (ifs : List Expr) (t : TT) : Prop :=
  ∀ (pins : List (Addr × Obj)) (s : Shared) (σ : St) (H : Hp) (Q : Bool → Hp → Prop), Inv X pins σ H s → t σ H Q →
    wpAny (model X.prog X.w) X.A (forIn ifs true fun c r => if r = true then do let ok ← isTrue c X.env (eval c X.env); pure (ForInStep.yield ok) else pure (ForInStep.yield r)) (TP X pins σ Q) X.xe s
noncomputable def tYes : TT := fun _ H Q => Q true H
theorem pif_nil {X : Cx} : PIf X [] tYes := fun pins s σ H Q I h => wpAny_tests_nil ⟨H, I, h⟩
theorem pif_one {X : Cx} {c : Expr} {t : TT} (h : PT X c t) : PIf X [c] t := fun pins s σ H Q I q => wpAny_tests_one (h pins s σ H Q I q)

noncomputable def KeepSt (σ σ' : St) : Prop := σ'.length = σ.length ∧ ∀ (i : Nat) v, σ[i]? = some (some v) → σ'[i]? = some (some v)
theorem KeepSt.set {src : List (Option Nat)} {σ : St} {i : Nat} {x : V} (h : src[i]? = some none) : KeepSt (stComp src σ) ((stComp src σ).set i (some x)) := by
  refine ⟨List.length_set, fun j v e => ?_⟩
  have ne : i ≠ j := by
    rintro rfl
    obtain ⟨k, e1, _⟩ := stComp_get e
    rw [h] at e1; cases e1
  rw [List.getElem?_set_ne ne]
  exact e
noncomputable def tComp (src : List (Option Nat)) (wi : TI) (g : TG) (tc : TT) (te : TE) : TE := fun σ H Q => wi σ H fun J H1 => ∃ W : Nat → Nat → List V → Hp → Prop, (∃ m, W 0 m [] H1) ∧ ∀ i m ys H, W i m ys H →
  (J.stop i H ∧ ∀ l, H l = none → Q (.ref l) (upd H l (.lst ys))) ∨
  (J.go i H ∧ ys.length < sizeLine ∧ ∀ x H', J.yld i H x H' → g x (stComp src σ) H' fun σ2 H2 => KeepSt (stComp src σ) σ2 ∧ tc σ2 H2 fun b H3 => if b = true then te σ2 H3 fun y H4 => ∃ m', m' < m ∧ W (i + 1) m' (ys ++ [y]) H4 else ∃ m', m' < m ∧ W (i + 1) m' ys H3)

section
variable {prog : Program} {w : World} {A : Around} {R : Result → Shared → Prop} {s : Shared}
theorem compLoop_go {elt target iter : Expr} {ifs : List Expr} {scope : Scope} {pos : Pos} {it acc : Value} {env : Env} (I : Nat → Shared → Prop)
    (turn : ∀ n s, I n s → wpAny (model prog w) A (pyNext it) (fun r s₁ => match r with
      | none => R (.ok .next) s₁
      | some v => wpAny (model prog w) A (letOwnedTupleGo target it v) (fun _ s₀ => wpAny (model prog w) A (assign target env v) (fun _ s₂ =>
          wpAny (model prog w) A (forIn ifs true fun c r => if r = true then do let ok ← isTrue c env (eval c env); pure (ForInStep.yield ok) else pure (ForInStep.yield r)) (fun ok s₃ =>
            if ok = true then wpAny (model prog w) A (eval elt env) (fun x s₄ =>
              wpAny (model prog w) A (call (.builtin "list.append") [acc, x]) (fun _ s₅ => ∃ m, m < n ∧ I m s₅) (fun _ _ => False) s₄) (fun _ _ => False) s₃
            else ∃ m, m < n ∧ I m s₃) (fun _ _ => False) s₂) (fun _ _ => False) s₀) (fun _ _ => False) s₁) (fun _ _ => False) s)
    (n : Nat) (h : I n s) : codeAny (model prog w) A (.compLoop (.ListComp elt [⟨target, iter, ifs, 0⟩] scope pos) 0 it acc env) R s := by
  refine codeAny_loop rfl I (fun n s hI => ?_) n h
  show wpAny _ A ((compTurn (.ListComp elt [⟨target, iter, ifs, 0⟩] scope pos) 0 it acc env).onRaise (fun x => do noteFrame x env; theTreesLotGoes x)) _ _ s
  refine wpAny_noted ?_
  rw [compTurn_list]
  refine wpAny_bind (wpAny_standAt (wpAny_bind (wpAny_mono (turn n s hI) (fun r s₁ h₁ => ?_) fun _ _ h' => h'.elim)))
  cases r with
  | none => exact wpAny_pure h₁
  | some v =>
    refine wpAny_bind (wpAny_mono h₁ (fun _ s₀ h₀ => ?_) fun _ _ h' => h'.elim)
    refine wpAny_bind (wpAny_mono h₀ (fun _ s₂ h₂ => wpAny_bind (wpAny_mono h₂ (fun ok s₃ h₃ => ?_) fun _ _ h' => h'.elim)) fun _ _ h' => h'.elim)
    cases ok with
    | false => exact wpAny_pure ⟨rfl, h₃⟩
    | true =>
      exact wpAny_bind (wpAny_bind (wpAny_mono h₃ (fun x s₄ h₄ => wpAny_bind (wpAny_mono h₄ (fun _ s₅ h₅ => wpAny_pure (wpAny_pure ⟨rfl, h₅⟩)) fun _ _ h' => h'.elim)) fun _ _ h' => h'.elim))
end

section
variable {X : Cx}
theorem rel_free {scope : Scope} {env : Env} (hn : ∀ y ∈ scope.names, y.2 ≠ .cell) {x : Str} (h : (relabel scope env).names.lookup x = some .cell ∨ (relabel scope env).names.lookup x = some .free) : (x, NameKind.free) ∈ scope.names := by
  have key : ∀ k, (k = NameKind.cell ∨ k = .free) → (relabel scope env).names.lookup x = some k → (x, NameKind.free) ∈ scope.names := fun k hk e => by
    have hm := mem_of_lookup_some e
    obtain ⟨⟨n, k0⟩, h1, h2⟩ := List.mem_map.mp hm
    dsimp only at h2
    split at h2
    · rename_i hc
      simp only [Bool.and_eq_true, beq_iff_eq] at hc
      cases h2
      rw [hc.1.1] at h1
      exact h1
    · cases h2
      rcases hk with z | z
      · subst z; exact absurd rfl (hn _ h1)
      · subst z; exact h1
  rcases h with h | h
  · exact key _ (.inl rfl) h
  · exact key _ (.inr rfl) h
theorem Inv.compOk {pins : List (Addr × Obj)} {σ : St} {H₂ : Hp} {s₂ : Shared} {scope : Scope} {N' : List Str} {src : List (Option Nat)} {cl : List (Str × Addr)} {C : Addr} {fp : List Addr} (I : Inv X pins σ H₂ s₂) (S : CompScope X.env.scope scope X.N N' src)
    (hcl1 : ∀ p ∈ cl, X.env.cells.lookup p.1 = some p.2) (hcl2 : ∀ x ∈ scope.names, x.2 = .free → ∃ c, (x.1, c) ∈ cl) (hC : s₂.heap.objs.size ≤ C) (f2 : ∀ b ∈ fp, FpOk X pins H₂ b) (fo : ∀ b ∈ fp, ∃ o, s₂.heap.get? b = some o) :
    (cxComp X N' scope cl C fp (X.pn ++ pins) s₂ H₂).Ok := by
  have cells : ∀ x c, cl.lookup x = some c → X.env.cells.lookup x = some c := fun x c e => hcl1 (x, c) (mem_of_lookup_some e)
  refine ⟨I.ok.mod, S.kind, I.ok.glob, I.ok.blt, hC, fun x y c h1 h2 => I.ok.inj x y c (cells x c h1) (cells y c h2), fun x hx => ?_, (fun _ _ h _ => nomatch h), I.ok.hd, I.ok.frames, .inl rfl, fun b hb => ⟨?_, fun x c e => ?_⟩, I.bs, ?_, fun b o e hb => ?_, fun b hb z => ?_, I.stack, I.stkFree⟩
  · obtain ⟨c, hc⟩ := hcl2 _ (rel_free S.nocell hx) rfl
    exact lookup_has hc
  · obtain ⟨o, e⟩ := fo b hb
    exact Nat.ne_of_lt (Nat.lt_of_lt_of_le (Heap.lt_size e) hC)
  · exact (f2 b hb).2.2.2.2.1 x c (cells x c e)
  · exact Nat.le_trans I.ok.bsz I.sz
  · rcases (f2 b hb).2.2.2.1 with z | z
    · exact I.ok.noex b o e z
    · exact absurd (Nat.lt_of_lt_of_le (Heap.lt_size e) (Nat.le_trans I.ok.bsz z)) (Nat.lt_irrefl _)
  · rcases List.mem_cons.mp (I.stkSub b z) with z | z
    · exact (f2 b hb).2.1 z
    · exact (f2 b hb).2.2.1 z

structure TurnC (cal : Cx → Prop) (P : Program) (w : World) (K : PySem.W.Frag) (tg : Expr) (J : It) (fp : List Addr) (it : Addr) (tn : Nat → Heap → Prop) : Prop where
  mem : it ∈ fp
  obj : ∀ i h, tn i h → ∀ b ∈ fp, ∃ o, h.get? b = some o ∧ ∀ v, o.data ≠ .cell v
  keep : ∀ i h h', tn i h → (∀ b ∈ fp, ∀ o, h.get? b = some o → h'.get? b = some o) → tn i h'
  item : ∀ (X : Cx), X.prog = P → X.w = w → X.K = K → cal X → ∀ (i : Nat) (pins : List (Addr × Obj)) (s : Shared) (σ : St) (H : Hp) (E : Value → Shared → Prop), Inv X pins σ H s → (∀ b ∈ fp, FpOk X pins H b) → tn i s.heap → J.go i H →
    wpAny (model P w) X.A (pyNext (.ref it)) (fun r s1 => ∃ u, r = some u ∧
      wpAny (model P w) X.A (letOwnedTupleGo tg (.ref it) u) (fun _ s2 => ∃ x H', Inv X pins σ H' s2 ∧ RelV x u ∧ J.yld i H x H' ∧ tn (i + 1) s2.heap ∧ ∀ b ∈ fp, H' b = none) E s1) E s
  done : ∀ (X : Cx), X.prog = P → X.w = w → X.K = K → cal X → ∀ (i : Nat) (pins : List (Addr × Obj)) (s : Shared) (σ : St) (H : Hp) (E : Value → Shared → Prop), Inv X pins σ H s → (∀ b ∈ fp, FpOk X pins H b) → tn i s.heap → J.stop i H →
    wpAny (model P w) X.A (pyNext (.ref it)) (fun r s1 => r = none ∧ Inv X pins σ H s1) E s
  self : ∀ (A : Around) (i : Nat) (s : Shared) (Q : Value → Shared → Prop) (E : Value → Shared → Prop), tn i s.heap → Q (.ref it) s → wpAny (model P w) A (pyIter (.ref it)) Q E s
theorem Turn.c {P : Program} {w : World} {K : PySem.W.Frag} {tg : Expr} {J : It} {fp : List Addr} {it : Addr} {tn : Nat → Heap → Prop} (T : Turn P w K tg J fp it tn) : TurnC (fun X => X.calm = true) P w K tg J fp it tn := ⟨T.mem, T.obj, T.keep, T.item, T.done, T.self⟩
noncomputable def PIEC (cal : Cx → Prop) (X : Cx) (pins : List (Addr × Obj)) (σ : St) (tg : Expr) (R : It → Hp → Prop) (itv : Value) (s2 : Shared) : Prop :=
  ∃ (it : Addr) (fp : List Addr) (tn : Nat → Heap → Prop) (J : It) (H' : Hp), itv = .ref it ∧ Inv X pins σ H' s2 ∧ TurnC cal X.prog X.w X.K tg J fp it tn ∧ tn 0 s2.heap ∧ (∀ b ∈ fp, FpOk X pins H' b) ∧ R J H'
noncomputable def PIC (cal : Cx → Prop) (X : Cx) (tg iter : Expr) (wi : TI) : Prop :=
  ∀ (pins : List (Addr × Obj)) (s : Shared) (σ : St) (H : Hp) (R : It → Hp → Prop), Inv X pins σ H s → wi σ H R →
    wpAny (model X.prog X.w) X.A (eval iter X.env) (fun v s1 => wpAny (model X.prog X.w) X.A (pyIter v) (PIEC cal X pins σ tg R) X.xe s1) X.xe s
theorem PI.c {X : Cx} {tg iter : Expr} {wi : TI} (h : PI X tg iter wi) : PIC (fun X => X.calm = true) X tg iter wi := fun pins s σ H R I q =>
  thn (h pins s σ H R I q) fun v s1 q1 => thn q1 fun u s2 ⟨it, fp, tn, J, H', e, I', T, t0, f, r⟩ => ⟨it, fp, tn, J, H', e, I', T.c, t0, f, r⟩
theorem lcomp_core {elt tg iter : Expr} {ifs : List Expr} {scope : Scope} {pos : Pos} {wi : TI} {g : TG} {tc : TT} {te : TE} {N' : List Str} {src : List (Option Nat)} {cal : Cx → Prop} (hc : ∀ {pins : List (Addr × Obj)} {σ : St} {H₂ : Hp} {s₂ : Shared} (cl : List (Str × Addr)) (C : Addr) (fp : List Addr) (pn : List (Addr × Obj)), Inv X pins σ H₂ s₂ → cal (cxComp X N' scope cl C fp pn s₂ H₂)) (S : CompScope X.env.scope scope X.N N' src)
    (hi : PIC cal X tg iter wi) (hg : ∀ cl C fp pn s₂ H₂, cal (cxComp X N' scope cl C fp pn s₂ H₂) → PG (cxComp X N' scope cl C fp pn s₂ H₂) tg g) (ht : ∀ cl C fp pn s₂ H₂, cal (cxComp X N' scope cl C fp pn s₂ H₂) → PIf (cxComp X N' scope cl C fp pn s₂ H₂) ifs tc) (he : ∀ cl C fp pn s₂ H₂, cal (cxComp X N' scope cl C fp pn s₂ H₂) → PE (cxComp X N' scope cl C fp pn s₂ H₂) elt te)
    (hs : ∀ x, foldedSetIterable iter X.env x = pure x) {use : Option (Value → Sem Unit)} {Qc : Value → Shared → Prop} {pins : List (Addr × Obj)} {s : Shared} {σ : St} {H : Hp} {Q : VK} {cpos : Pos} (I : Inv X pins σ H s) (hq : tComp src wi g tc te σ H Q)
    (hfin : ∀ (D C : Addr) (oC : Obj) (ys : List V) (H' : Hp) (s4 : Shared), Inv X (pins ++ [(C, oC)]) σ (upd H' D (.lst ys)) s4 → (∃ m, s4.heap.Ns C m) → FpOk X pins (upd H' D (.lst ys)) C → Q (.ref D) (upd H' D (.lst ys)) →
      compPost (model X.prog X.w) X.A X.xe use Qc (.ref D) C (.ok .next) s4) :
    wpAny (model X.prog X.w) X.A (comprehension (.ListComp elt [⟨tg, iter, ifs, 0⟩] scope pos) scope X.env cpos (newList []) false (eval iter X.env) use) Qc X.xe s := by
  obtain ⟨cl, hcl, hcl1, hcl2⟩ := closure_ok (scope := scope) (env := X.env) fun x hx hf => I.ok.has x.1 (S.free x hx hf)
  refine wpAny_comprehension_free (use := use) rfl hs hcl S.kind S.names (thn (hi pins s σ H _ I hq) fun v s1 h1 => thn h1 fun itv s2 h2 => ?_)
  obtain ⟨it, fp, tn, J, H2, e, I2, T, st2, f2, W, ⟨m0, w0⟩, turn⟩ := h2
  subst e
  refine wpAny_newObj_type (wpAny_newFunctionEnv S.nocell (by intro y hy; simp at hy) (fun h₁ hns₁ hsb₁ => ?_) S.kind)
  dsimp only at hns₁ hsb₁ ⊢
  generalize hP : s2.heap.push { cls := .type "list", dict := none, data := .seq ([] : List Value).toArray } = P2 at hns₁ hsb₁ ⊢
  have hC : P2.objs.size = s2.heap.objs.size + 1 := by rw [← hP, Heap.size_push]
  have hCle : s2.heap.objs.size ≤ P2.objs.size := by rw [hC]; exact Nat.le_succ _
  have hDC : s2.heap.objs.size ≠ P2.objs.size := by rw [hC]; exact Nat.ne_of_lt (Nat.lt_succ_self _)
  have old : ∀ b o, s2.heap.get? b = some o → h₁.get? b = some o := fun b o e =>
    hsb₁.extBut b o (Nat.ne_of_lt (Nat.lt_of_lt_of_le (Heap.lt_size e) hCle)) (Heap.get?_push_of_some _ (hP ▸ Heap.get?_push_of_some _ e))
  have oldD : h₁.get? s2.heap.objs.size = some { cls := .type "list", data := .seq ([] : List Value).toArray } := hsb₁.extBut _ _ hDC (Heap.get?_push_of_some _ (hP ▸ Heap.get?_push_size _ rfl))
  have fo : ∀ b ∈ fp, ∃ o, s2.heap.get? b = some o := fun b hb => let ⟨o, e, _⟩ := T.obj _ _ st2 b hb; ⟨o, e⟩
  have fpD : ∀ b ∈ fp, s2.heap.objs.size ≠ b := fun b hb z => by
    obtain ⟨o, e⟩ := fo b hb
    exact absurd (Heap.lt_size e) (by rw [← z]; exact Nat.lt_irrefl _)
  have fpC : ∀ b ∈ fp, b ≠ P2.objs.size := fun b hb => by
    obtain ⟨o, e⟩ := fo b hb
    exact Nat.ne_of_lt (Nat.lt_of_lt_of_le (Heap.lt_size e) hCle)
  have ok' := I2.compOk (C := P2.objs.size) S hcl1 hcl2 hCle f2 fo
  have cells : ∀ x c, cl.lookup x = some c → X.env.cells.lookup x = some c := fun x c e => hcl1 (x, c) (mem_of_lookup_some e)
  have stkne : ∀ p ∈ X.pn ++ pins, p.1 ∉ frs X.stack := fun p hp z => by
    obtain ⟨_, _, n1, n2, _⟩ := I2.pin p hp
    rcases List.mem_cons.mp (I2.stkSub _ z) with z | z
    · exact n1 z
    · exact n2 z
  have stkD : ∀ b, s2.heap.objs.size ≤ b → b ∉ frs X.stack := fun b hb z => by
    rcases List.mem_cons.mp (I2.stkSub _ z) with z | z
    · exact absurd I2.lt (by rw [← z]; exact Nat.not_lt.mpr hb)
    · exact I2.nofs hb z
  -- the state at the block's beginning
  have I4 : Inv (cxComp X N' scope cl P2.objs.size fp (X.pn ++ pins) s2 H2) [(s2.heap.objs.size, { cls := .type "list", data := .seq ([] : List Value).toArray })] (stComp src σ) H2 { s2 with heap := h₁, toks := s2.toks + ([] : List (Str × Value)).length } := by
    refine ⟨ok', rfl, I2.bare, Un.kept old, ⟨_, hns₁, fun i x v e1 e2 e3 => ?_⟩, fun x c e => ?_, I2.hok.fresh hCle, fun x c e => I2.freeC x c (cells x c e), fun p hp => ?_, I2.hok.kept old, ?_⟩
    · obtain ⟨j, q1, q2⟩ := stComp_get e2
      obtain ⟨a1, a2, a3⟩ := S.at_ i j x q1 e1
      obtain ⟨m, hm, hl⟩ := I2.loc
      have vis : Vis X.env.scope x := a2.elim (fun z => .inr (.inl z)) fun z => .inr (.inr z)
      obtain ⟨u, r, l⟩ := hl j x v a1 q2 vis
      refine ⟨u, r, ?_⟩
      rcases l with ⟨k, _⟩ | ⟨_, c, hcx, z⟩
      · have k' : X.env.scope.names.lookup x = some .local := k
        rcases a2 with a2 | a2 <;> (rw [a2] at k'; cases k')
      · have hfree := rel_free (env := X.env) S.nocell a3
        obtain ⟨c', hc'⟩ := hcl2 _ hfree rfl
        obtain ⟨d, hd⟩ := lookup_has hc'
        have ed : d = c := by
          have := cells x d hd
          rw [hcx] at this; exact (Option.some.inj this).symm
        subst ed
        refine .inr ⟨a3, d, hd, ?_⟩
        obtain ⟨o, ho, hod⟩ := z
        exact ⟨o, old _ _ ho, hod⟩
    · obtain ⟨v, o, ho, hod⟩ := I2.cell x c (cells x c e)
      exact ⟨v, o, old _ _ ho, hod⟩
    · rcases List.mem_append.mp hp with hp | hp
      · obtain ⟨a1, a2, a3, a4, a5⟩ := I2.pin p hp
        exact ⟨old _ _ a1, a2, Nat.ne_of_lt (Nat.lt_of_lt_of_le (Heap.lt_size a1) hCle), stkne p hp, a5⟩
      · obtain rfl := List.mem_singleton.mp hp
        exact ⟨oldD, I2.hok.fresh (Nat.le_refl _), hDC, stkD _ (Nat.le_refl _), fun v z => by cases z⟩
    · show (stComp src σ).length = N'.length
      unfold stComp
      rw [List.length_map]; exact S.len
  have pinD : ∀ {o : Obj} {H' : Hp} {σ' : St} {s' : Shared} {pl : List (Addr × Obj)}, Inv (cxComp X N' scope cl P2.objs.size fp (X.pn ++ pins) s2 H2) pl σ' H' s' → (s2.heap.objs.size, o) ∈ pl → s'.heap.get? s2.heap.objs.size = some o ∧ H' s2.heap.objs.size = none :=
    fun {o H' σ' s' pl} J hm => let q := J.pin _ (List.mem_append_right _ hm); ⟨q.1, q.2.1⟩
  have stat : ∀ {H' : Hp} {o : Obj}, (∀ b ∈ fp, H' b = none) → ∀ b ∈ fp, FpOk (cxComp X N' scope cl P2.objs.size fp (X.pn ++ pins) s2 H2) [(s2.heap.objs.size, o)] H' b := fun {H' o} hn b hb => by
    refine ⟨hn b hb, fpC b hb, fun z => ?_, .inl hb, fun x c e => (f2 b hb).2.2.2.2.1 x c (cells x c e), fun p hp => ?_⟩
    · rcases List.mem_cons.mp (I2.stkSub b z) with z | z
      · exact (f2 b hb).2.1 z
      · exact (f2 b hb).2.2.1 z
    · rcases List.mem_append.mp hp with hp | hp
      · exact (f2 b hb).2.2.2.2.2 p hp
      · obtain rfl := List.mem_singleton.mp hp
        exact fpD b hb
  -- the loop
  have loop : ∀ s₃ : Shared, s₃ = { s2 with heap := h₁, toks := s2.toks + ([] : List (Str × Value)).length } →
      codeAny (model X.prog X.w) X.A (.compLoop (.ListComp elt [⟨tg, iter, ifs, 0⟩] scope pos) 0 (.ref it) (.ref s2.heap.objs.size) (compEnvC scope cl P2.objs.size X.env)) (compPost (model X.prog X.w) X.A X.xe use Qc (.ref s2.heap.objs.size) P2.objs.size) s₃ := by
    rintro s₃ rfl
    refine compLoop_go (fun n s' => ∃ i ys H' its k, Inv (cxComp X N' scope cl P2.objs.size fp (X.pn ++ pins) s2 H2) [(s2.heap.objs.size, { cls := .type "list", data := .seq (its : List Value).toArray k })] (stComp src σ) H' s' ∧ tn i s'.heap ∧ (∀ b ∈ fp, H' b = none) ∧ Vals ys its ∧ ys.length ≤ sizeLine ∧ W i n ys H') ?_ m0
      ⟨0, [], H2, [], _, I4, T.keep _ _ _ st2 fun b hb o e => old b o e, fun b hb => (f2 b hb).1, .nil, Nat.zero_le _, w0⟩
    rintro n s3 ⟨i, ys, H3, its, k, I3, st3, fr3, rv, hz, w3⟩
    rcases turn i n ys H3 w3 with ⟨stop, qn⟩ | ⟨go, hlt, step⟩
    · refine thn (T.done (cxComp X N' scope cl P2.objs.size fp (X.pn ++ pins) s2 H2) rfl rfl rfl (hc _ _ _ _ I2) i _ s3 _ H3 _ I3 (stat fr3) st3 stop) fun r s4 ⟨hr, I4'⟩ => ?_
      subst hr
      obtain ⟨gD, nD⟩ := pinD I4' List.mem_cons_self
      obtain ⟨m, hm, _⟩ := id I4'.loc
      obtain ⟨oC, es, ep, hoC, hdC, hrC⟩ := id hm
      have ltC : ∀ b o, s2.heap.get? b = some o → b ≠ P2.objs.size := fun b o e => Nat.ne_of_lt (Nat.lt_of_lt_of_le (Heap.lt_size e) hCle)
      have ltD : ∀ b o, s2.heap.get? b = some o → b ≠ s2.heap.objs.size := fun b o e => Nat.ne_of_lt (Heap.lt_size e)
      have hC' : H3 P2.objs.size = none := I4'.free
      have hC'' : upd H3 s2.heap.objs.size (.lst ys) P2.objs.size = none := by rw [upd_ne (Ne.symm hDC)]; exact hC'
      have J : Inv X pins σ (upd H3 s2.heap.objs.size (.lst ys)) s4 := by
        refine I2.call' (ch := fp) I4'.os ⟨fun b o e n hb hx => I4'.base.keep b o e n hb hx, fun b o e n hb hx => I4'.base.slot b o e n hb hx, fun b o e n hx => ?_, fun b o e hx => I4'.base.there b o e hx, fun b xs e => ?_, fun b o xs e => ?_, fun b ps e => ?_⟩ (fun b u e => ?_) I4'.bare fun b hb => ?_
        · rw [upd_ne (ltD b o e)]
          exact I4'.base.free b o e n hx
        · have q := I4'.base.tups b xs e
          rw [upd_ne (ne_of_none q nD)]; exact q
        · have q := I4'.base.frzs b o xs e
          rw [upd_ne (ne_of_none q nD)]; exact q
        · obtain ⟨more, q⟩ := I4'.base.tbls b ps e
          exact ⟨more, by rw [upd_ne (ne_of_none q nD)]; exact q⟩
        · by_cases hb : b = s2.heap.objs.size
          · subst hb
            rw [upd_same] at e
            cases e
            exact ⟨hz, its, k, rv, gD⟩
          · rw [upd_ne hb] at e
            exact (I4'.hok b u e).stay (fun c v _ q => q) (fun c q => by rw [upd_ne (ne_of_none q nD)]; exact q) fun c xs q => by rw [upd_ne (ne_of_none q nD)]; exact q
        · exact ⟨(f2 b hb).2.2.2.1, (f2 b hb).2.1, (f2 b hb).2.2.2.2.1, (f2 b hb).2.2.2.2.2⟩
      have fC : FpOk X pins (upd H3 s2.heap.objs.size (.lst ys)) P2.objs.size := I2.fpOk hCle hC''
      have J' : Inv X (pins ++ [(P2.objs.size, oC)]) σ (upd H3 s2.heap.objs.size (.lst ys)) s4 := J.pins_of fun p hp => by
        rcases List.mem_append.mp hp with hp | hp
        · exact J.pin p (List.mem_append_right _ hp)
        · obtain rfl := List.mem_singleton.mp hp
          exact ⟨hoC, hC'', fC.2.1, fC.2.2.1, fun v z => by rw [hdC] at z; cases z⟩
      exact hfin _ _ oC ys H3 s4 J' ⟨m, hm⟩ fC (qn _ nD)
    · refine thn (T.item (cxComp X N' scope cl P2.objs.size fp (X.pn ++ pins) s2 H2) rfl rfl rfl (hc _ _ _ _ I2) i _ s3 _ H3 _ I3 (stat fr3) st3 go) fun r s4 ⟨u, hr, h4⟩ => ?_
      subst hr
      refine thn h4 fun _ s5 ⟨x, H5, I5, r5, y5, st5, fr5⟩ => ?_
      have I5' := I5.pinned (stat fr5) (T.obj _ _ st5)
      refine thn (hg cl P2.objs.size fp (X.pn ++ pins) s2 H2 (hc _ _ _ _ I2) _ s5 _ H5 x u _ I5' r5 (step x H5 y5)) fun _ s6 ⟨σ6, H6, I6, ks6, q6⟩ => ?_
      refine thn (ht cl P2.objs.size fp (X.pn ++ pins) s2 H2 (hc _ _ _ _ I2) _ s6 σ6 H6 _ I6 q6) fun okb s7 ⟨H7, I7, q7⟩ => ?_
      have again : ∀ {s8 : Shared} {H8 : Hp}, Inv (cxComp X N' scope cl P2.objs.size fp (X.pn ++ pins) s2 H2) ([(s2.heap.objs.size, ({ cls := .type "list", data := .seq (its : List Value).toArray k } : Obj))] ++ pinsAt fp s5.heap) σ6 H8 s8 → tn (i + 1) s8.heap ∧ (∀ b ∈ fp, H8 b = none) := fun {s8 H8} I8 => by
        refine ⟨T.keep _ _ _ st5 fun b hb o e => (I8.pin (b, o) (List.mem_append_right _ (List.mem_append_right _ (mem_pinsAt hb e)))).1, fun b hb => ?_⟩
        obtain ⟨o, e, d⟩ := T.obj _ _ st5 b hb
        exact (I8.pin (b, o) (List.mem_append_right _ (List.mem_append_right _ (mem_pinsAt hb e)))).2.1
      cases okb with
      | false =>
        simp only [Bool.false_eq_true, if_false] at q7 ⊢
        obtain ⟨m', hm', w7⟩ := q7
        obtain ⟨t7, n7⟩ := again I7
        exact ⟨m', hm', i + 1, ys, H7, its, k, (I7.unpinned).weak ks6.1.symm ks6.2, t7, n7, rv, hz, w7⟩
      | true =>
        simp only [if_true] at q7 ⊢
        refine thn (he cl P2.objs.size fp (X.pn ++ pins) s2 H2 (hc _ _ _ _ I2) _ s7 σ6 H7 _ I7 q7) fun yv s8 ⟨y, H8, I8, r8, m', hm', w8⟩ => ?_
        obtain ⟨t8, n8⟩ := again I8
        obtain ⟨gD, nD⟩ := pinD I8 (List.mem_append_left _ List.mem_cons_self)
        have hsz : its.toArray.size ≤ sizeLine := by
          have := rv.length
          rw [List.size_toArray]
          omega
        refine wpAny_list_append_plain (hsz := hsz) ⟨_, gD⟩ fun h9 hl9 hs9 => ?_
        obtain ⟨k9, g9⟩ := hl9
        have I8n : Inv (cxComp X N' scope cl P2.objs.size fp (X.pn ++ pins) s2 H2) [] σ6 H8 s8 := I8.pins_of fun p hp => nomatch hp
        have fo' : ∀ p ∈ (cxComp X N' scope cl P2.objs.size fp (X.pn ++ pins) s2 H2).pn ++ ([] : List (Addr × Obj)), p.1 ≠ s2.heap.objs.size := fun p hp => by
          rw [List.append_nil] at hp
          exact Nat.ne_of_lt (Heap.lt_size (I2.pin p hp).1)
        have I9 : Inv (cxComp X N' scope cl P2.objs.size fp (X.pn ++ pins) s2 H2) [] σ6 H8 { s8 with heap := h9 } := I8n.turned (t' := s8.toks) (it := s2.heap.objs.size) (fun b o hb e => (hs9.2 b hb).trans e) nD hDC (.inr (Nat.le_refl _))
          (fun x c e z => by
            obtain ⟨v, q⟩ := I2.cell x c (cells x c e)
            exact absurd q.lt (by rw [z]; exact Nat.lt_irrefl _)) fo'
        have I9' : Inv (cxComp X N' scope cl P2.objs.size fp (X.pn ++ pins) s2 H2) [(s2.heap.objs.size, ({ cls := .type "list", data := .seq (its ++ [yv]).toArray k9 } : Obj))] σ6 H8 { s8 with heap := h9 } := I9.pins_of fun p hp => by
          obtain rfl := List.mem_singleton.mp hp
          refine ⟨?_, nD, hDC, stkD _ (Nat.le_refl _), fun v z => by cases z⟩
          show h9.get? s2.heap.objs.size = _
          rw [g9]
          simp
        refine ⟨m', hm', i + 1, ys ++ [y], H8, its ++ [yv], k9, I9'.weak ks6.1.symm ks6.2, T.keep _ _ _ t8 fun b hb o e => (hs9.2 b (Ne.symm (fpD b hb))).trans e, n8, rv.append (.cons r8 .nil), ?_, w8⟩
        rw [List.length_append, List.length_singleton]
        exact hlt
  have st1 : tn 0 h₁ := T.keep _ _ _ st2 fun b hb o e => old b o e
  exact codeAny_compStart_list (loop _ rfl) (T.self X.A 0 _ _ _ st1 (loop _ rfl))

theorem pe_lcomp {elt tg iter : Expr} {ifs : List Expr} {scope : Scope} {pos : Pos} {wi : TI} {g : TG} {tc : TT} {te : TE} {N' : List Str} {src : List (Option Nat)} (hc : X.calm = true) (S : CompScope X.env.scope scope X.N N' src)
    (hi : PI X tg iter wi) (hg : ∀ cl C fp pn s₂ H₂, PG (cxComp X N' scope cl C fp pn s₂ H₂) tg g) (ht : ∀ cl C fp pn s₂ H₂, PIf (cxComp X N' scope cl C fp pn s₂ H₂) ifs tc) (he : ∀ cl C fp pn s₂ H₂, PE (cxComp X N' scope cl C fp pn s₂ H₂) elt te)
    (hs : ∀ x, foldedSetIterable iter X.env x = pure x := by intro _; rfl) : PE X (.ListComp elt [⟨tg, iter, ifs, 0⟩] scope pos) (tComp src wi g tc te) := by
  intro pins s σ H Q I hq
  rw [eval_ListComp]
  refine lcomp_core (use := none) (cal := fun Y => Y.calm = true) (fun _ _ _ _ _ => hc) S hi.c (fun cl C fp pn s₂ H₂ _ => hg cl C fp pn s₂ H₂) (fun cl C fp pn s₂ H₂ _ => ht cl C fp pn s₂ H₂) (fun cl C fp pn s₂ H₂ _ => he cl C fp pn s₂ H₂) hs I hq fun D C oC ys H' s4 J hm fC q => ?_
  obtain ⟨m, hm⟩ := hm
  refine ⟨m, hm, fun h' hs' => ⟨.ref D, _, (J.unpinned).turned (t' := s4.toks) (it := C) (fun b o hb e => (hs'.2 b hb).trans e) fC.1 fC.2.1 fC.2.2.2.1 fC.2.2.2.2.1 fC.2.2.2.2.2, rfl, q⟩⟩
noncomputable def tAsgC (i : Nat) (t : TE) : TS := fun D σ H => t σ H fun v H1 => D.nx (σ.set i (some v)) H1
theorem ps_set_lcomp {i : Nat} {y : Str} {py spos : Pos} {elt tg iter : Expr} {ifs : List Expr} {scope : Scope} {pos : Pos} {wi : TI} {g : TG} {tc : TT} {te : TE} {N' : List Str} {src : List (Option Nat)} (hN : X.N.Nodup) (hy : X.N[i]? = some y) (hl : X.env.scope.names.lookup y = some .local)
    (hc : X.calm = true) (S : CompScope X.env.scope scope X.N N' src)
    (hi : PI X tg iter wi) (hg : ∀ cl C fp pn s₂ H₂, PG (cxComp X N' scope cl C fp pn s₂ H₂) tg g) (ht : ∀ cl C fp pn s₂ H₂, PIf (cxComp X N' scope cl C fp pn s₂ H₂) ifs tc) (he : ∀ cl C fp pn s₂ H₂, PE (cxComp X N' scope cl C fp pn s₂ H₂) elt te)
    (hsw : swapsWith (.ListComp elt [⟨tg, iter, ifs, 0⟩] scope pos) (some (.Name y py)) spos.line X.env = pure true := by rfl)
    (hs : ∀ x, foldedSetIterable iter X.env x = pure x := by intro _; rfl) : PS X (.Assign [.Name y py] (.ListComp elt [⟨tg, iter, ifs, 0⟩] scope pos) spos) (tAsgC i (tComp src wi g tc te)) := by
  intro pins s σ H D I hq
  rw [exec_Assign_Name_used _ _ _ _ hsw]
  refine wpAny_bind (wpAny_standAt (wpAny_bind ?_))
  show wpAny _ X.A (do let _ ← comprehension (.ListComp elt [⟨tg, iter, ifs, 0⟩] scope pos) scope X.env _ (newList []) false (eval iter X.env) (some (assign (.Name y py) X.env))) _ _ s
  refine wpAny_bind (wpAny_mono (lcomp_core (use := some (assign (.Name y py) X.env)) (Qc := fun _ s' => SP X pins D .next s') (cal := fun Y => Y.calm = true) (fun _ _ _ _ _ => hc) S hi.c (fun cl C fp pn s₂ H₂ _ => hg cl C fp pn s₂ H₂) (fun cl C fp pn s₂ H₂ _ => ht cl C fp pn s₂ H₂) (fun cl C fp pn s₂ H₂ _ => he cl C fp pn s₂ H₂) hs I hq fun Dl C oC ys H' s4 J hm fC q => ?_) (fun _ s' hq => wpAny_pure (wpAny_pure hq)) fun _ _ e => e)
  obtain ⟨m, hm⟩ := hm
  show wpAny _ X.A (assign (.Name y py) X.env (.ref Dl)) _ _ s4
  refine thn ((pg_name (i := i) (pos := py) hN hy (.inl hl) (.inr hl)) _ s4 σ _ (.ref Dl) (.ref Dl) (fun σ' H' => D.nx σ' H' ∧ H' C = none) J rfl ⟨q, fC.1⟩) fun _ s5 ⟨σ5, H5, J5, q5, n5⟩ => ?_
  obtain ⟨p1, _⟩ := J5.pin (C, oC) (List.mem_append_right _ (List.mem_append_right _ List.mem_cons_self))
  obtain ⟨p2, _⟩ := J.pin (C, oC) (List.mem_append_right _ (List.mem_append_right _ List.mem_cons_self))
  obtain ⟨o, es, ep, ho, r⟩ := hm
  have eo : o = oC := by
    have z : s4.heap.get? C = some oC := p2
    rw [ho] at z; exact Option.some.inj z
  subst eo
  refine ⟨m, ⟨o, es, ep, p1, r⟩, fun h' hs' => ⟨σ5, H5, (J5.unpinned).turned (t' := s5.toks) (it := C) (fun b o hb e => (hs'.2 b hb).trans e) n5 fC.2.1 fC.2.2.2.1 fC.2.2.2.2.1 fC.2.2.2.2.2, q5⟩⟩
end

noncomputable def Wk (J : It) (xs : List V) (Pv : Hp → Prop) : Prop := ∀ i H, Pv H → (i < xs.length → J.go i H) ∧ (xs.length ≤ i → J.stop i H) ∧ (i < xs.length → ∀ x H', J.yld i H x H' → H' = H ∧ xs[i]? = some x)
theorem wk_list {K : PySem.W.Frag} {a : Addr} {xs : List V} {Pv : Hp → Prop} (hl : ∀ H, Pv H → SqL K H a xs) : Wk (Itl K a) xs Pv := fun i H p =>
  ⟨fun h => ⟨xs, xs[i], hl H p, by simp [h]⟩, fun h => ⟨xs, hl H p, h⟩, fun _ _ _ y => ⟨y.1, y.2 xs (hl H p)⟩⟩
theorem wk_tup {K : PySem.W.Frag} {a : Addr} {xs : List V} {Pv : Hp → Prop} (hl : ∀ H, Pv H → SqT K H a xs) : Wk (Itt K a) xs Pv := fun i H p =>
  ⟨fun h => ⟨xs, xs[i], hl H p, by simp [h]⟩, fun h => ⟨xs, hl H p, h⟩, fun _ _ _ y => ⟨y.1, y.2 xs (hl H p)⟩⟩
noncomputable def rngV (lo : Int) (n : Nat) : List V := (List.range n).map fun i : Nat => V.int (lo + (i : Int))
theorem rngV_length (lo : Int) (n : Nat) : (rngV lo n).length = n := by simp [rngV]
theorem rngV_get {lo : Int} {n i : Nat} (h : i < n) : (rngV lo n)[i]? = some (V.int (lo + (i : Int))) := by simp [rngV, h]
theorem wk_range {lo : Int} {n : Nat} {Pv : Hp → Prop} : Wk (Itr lo n) (rngV lo n) Pv := fun i H p =>
  ⟨fun h => by rw [rngV_length] at h; exact h, fun h => by rw [rngV_length] at h; exact h, fun h x H' y => ⟨y.1, by rw [rngV_length] at h; rw [rngV_get h, y.2]⟩⟩
end L2

namespace L2
open PySem PySem.Spec PyProof.Rows

noncomputable abbrev sg (x : Str) : List Nat := x.cps.toList
noncomputable def mkS (l : List Nat) : Str := ⟨l.toArray⟩
theorem sg_mk (l : List Nat) : sg (mkS l) = l := by simp [mkS]
theorem mk_sg (x : Str) : mkS (sg x) = x := by
  cases x
  simp [mkS]
theorem sg_len (x : Str) : (sg x).length = x.length := by simp [Str.length]
theorem mk_len (l : List Nat) : (mkS l).length = l.length := by simp [mkS, Str.length]
theorem sg_inj {x y : Str} (h : sg x = sg y) : x = y := by rw [← mk_sg x, ← mk_sg y, h]
theorem sg_app (x y : Str) : sg (x ++ y) = sg x ++ sg y := PySem.W.KT.app_list x y
theorem mk_app (a b : List Nat) : mkS a ++ mkS b = mkS (a ++ b) := sg_inj (by rw [sg_app, sg_mk, sg_mk, sg_mk])
theorem mk_one (c : Nat) : (⟨#[c]⟩ : Str) = mkS [c] := rfl
theorem mk_inj {a b : List Nat} (h : mkS a = mkS b) : a = b := by rw [← sg_mk a, ← sg_mk b, h]
noncomputable def cutL {α : Type} (xs : List α) (lo hi : Option Int) : List α := (xs.drop (HT.sIx xs.length 0 lo)).take (HT.sIx xs.length xs.length hi - HT.sIx xs.length 0 lo)
theorem cutL_le {α : Type} (xs : List α) (lo hi : Option Int) : (cutL xs lo hi).length ≤ xs.length := by
  unfold cutL
  rw [List.length_take, List.length_drop]
  omega
theorem pickN (l : List Nat) (a : Nat) : ∀ k : Nat, ((List.range k).map (a + ·)).filterMap (l.toArray[·]?) = (l.drop a).take k
  | 0 => by simp
  | k + 1 => by
    rw [List.range_succ, List.map_append, List.filterMap_append, pickN l a k, List.take_add_one, List.getElem?_drop]
    cases h : l[a + k]? with
    | none => simp [h]
    | some v => simp [h]
theorem slice_idx (lo hi : Option Int) (n : Nat) : Builtin.Str.strSliceIndices lo hi 1 n = (List.range (HT.sIx n n hi - HT.sIx n 0 lo)).map (HT.sIx n 0 lo + ·) := by
  obtain ⟨h1, h2, h3⟩ := slice_bounds lo hi n
  have e : Builtin.Str.strSliceIndices lo hi 1 n = sliceRange (sliceBounds lo hi none n).1 (sliceBounds lo hi none n).2.1 1 := by
    cases lo <;> cases hi <;> rfl
  rw [e, h1, h2, sliceRange_one]
theorem slice_cut (x : Str) (lo hi : Option Int) : Txt.slice x lo hi = mkS (cutL (sg x) lo hi) := by
  have hl := sg_len x
  unfold Txt.slice
  rw [slice_idx]
  split
  · rename_i hc
    simp only [beq_self_eq_true, Bool.true_and, List.length_map, List.length_range, beq_iff_eq] at hc
    have b1 := HT.sIx_le x.length 0 (Nat.zero_le _) lo
    have b2 := HT.sIx_le x.length x.length (Nat.le_refl _) hi
    have a0 : HT.sIx x.length 0 lo = 0 := by omega
    have a1 : HT.sIx x.length x.length hi = x.length := by omega
    unfold cutL
    rw [hl, a0, a1, List.drop_zero, Nat.sub_zero, List.take_of_length_le (by rw [hl]; exact Nat.le_refl _), mk_sg]
  · unfold cutL mkS
    rw [hl]
    have := pickN (sg x) (HT.sIx x.length 0 lo) (HT.sIx x.length x.length hi - HT.sIx x.length 0 lo)
    rw [← this]
section
variable {X : Cx}
noncomputable def rSlS : V → Option Int → Option Int → Hp → VK → Prop := fun x lo hi H Q => ∃ z, x = .str z ∧ z.length ≤ sizeLine ∧ Q (.str (mkS (cutL (sg z) lo hi))) H
theorem sl_str : SlR X rSlS := by
  intro pins s σ H x v vl vu lo hi sl Q I rx hs pl pu h
  obtain ⟨z, rfl, hz, q⟩ := h
  obtain ⟨t, rfl⟩ := rx
  refine ⟨"str", _, F.slot_str_getitem.lookup, typeIs_str _ _ _, ?_⟩
  have fin : ∀ (lo hi : Option Int), Q (.str (mkS (cutL (sg z) lo hi))) H → (Txt.slice z lo hi).length ≤ sizeLine ∧ ∀ t' k, EP X pins σ Q (.str (Txt.slice z lo hi) t') { s with toks := k } := fun lo hi q =>
    ⟨Nat.le_trans (Txt.slice_le z _ _) hz, fun t' k => ⟨.str (Txt.slice z lo hi), H, I.tok k, ⟨t', rfl⟩, by rw [slice_cut]; exact q⟩⟩
  cases pl with
  | none =>
    cases pu with
    | none => exact wpAny_getItem_str_slice (l := none) (u := none) (st := none) hs rfl (post_val_or_str (fin none none q))
    | int j uj => exact wpAny_getItem_str_slice (l := none) (u := some (j, uj)) (st := none) hs rfl (post_val_or_str (fin none (some j) q))
  | int i ui =>
    cases pu with
    | none => exact wpAny_getItem_str_slice (l := some (i, ui)) (u := none) (st := none) hs rfl (post_val_or_str (fin (some i) none q))
    | int j uj => exact wpAny_getItem_str_slice (l := some (i, ui)) (u := some (j, uj)) (st := none) hs rfl (post_val_or_str (fin (some i) (some j) q))

theorem strsAre_of {ns : List Str} : ∀ {us : List Value}, Vals (ns.map V.str) us → StrsAre us ns := by
  induction ns with
  | nil => intro us r; rw [List.map_nil] at r; cases r; exact .nil
  | cons n ns ih =>
    intro us r
    rw [List.map_cons] at r
    cases r with
    | cons r1 r2 =>
      obtain ⟨t, e⟩ := r1
      subst e
      exact .cons n t (ih r2)
theorem mt_join : MtR X "str.join" (fun x xs H Q => ∃ a p ys, x = .str a ∧ xs = [.ref p] ∧ SqL X.K H p (ys.map V.str) ∧ (ys.map (·.length)).sum + ys.length * a.length ≤ 16777216 ∧ Q (.str (Str.join a ys)) H) := by
  intro pins s σ H x xs v us Q I rx rs h
  obtain ⟨a, p, ys, rfl, rfl, hq, hz, q⟩ := h
  obtain ⟨t, rfl⟩ := rx
  obtain ⟨u, rfl, rp⟩ := vals1 rs
  cases rp
  obtain ⟨its, r, pl, _⟩ := I.list hq
  refine join_list (ys := ys) pl.isList (strsAre_of (by simpa using r)) hz fun t' k => ⟨.str (Str.join a ys), H, I.tok k, ⟨t', ?_⟩, q⟩
  rw [← StrLaws.glued_eq_join]
  rfl
theorem op_mul_str : OpR X (binaryOp .Mult) (fun x y H Q => ∃ a n, x = .str a ∧ y = .int n ∧ MulOk a n ∧ Q (.str (Txt.mul a n)) H) := by
  intro pins s σ H x y v u Q I rx ry h
  obtain ⟨a, n, rfl, rfl, hm, q⟩ := h
  obtain ⟨t, rfl⟩ := rx
  obtain ⟨t', rfl⟩ := ry
  exact SB.mul hm fun t'' k => ⟨.str (Txt.mul a n), H, I.tok k, ⟨t'', rfl⟩, q⟩

noncomputable def hasS (fig : List Nat) (c : Nat) : Bool := decide (c ∈ fig)
theorem op_in_one : OpR X (compareOp .In) (fun x y H Q => ∃ c l, x = .str (mkS [c]) ∧ y = .str (mkS l) ∧ Q (.bl (hasS l c)) H) := by
  intro pins s σ H x y v u Q I rx ry h
  obtain ⟨c, l, rfl, rfl, q⟩ := h
  refine op_in_str pins s σ H _ _ v u Q I rx ry ⟨_, _, rfl, rfl, ?_⟩
  have e := StrLaws.found_one (mkS l) c
  rw [show (mkS l).cps.toList = l from sg_mk l] at e
  show Q (V.bl (!(Builtin.Str.occurrences (mkS l) (mkS [c]) 0 (mkS l).length 1).isEmpty)) H
  rw [show mkS [c] = (⟨#[c]⟩ : Str) from rfl, e]
  exact q
theorem op_notin_one : OpR X (compareOp .NotIn) (fun x y H Q => ∃ c l, x = .str (mkS [c]) ∧ y = .str (mkS l) ∧ Q (.bl (!hasS l c)) H) := by
  intro pins s σ H x y v u Q I rx ry h
  obtain ⟨c, l, rfl, rfl, q⟩ := h
  refine op_notIn_str pins s σ H _ _ v u Q I rx ry ⟨_, _, rfl, rfl, ?_⟩
  have e := StrLaws.found_one (mkS l) c
  rw [show (mkS l).cps.toList = l from sg_mk l] at e
  show Q (V.bl (!(!(Builtin.Str.occurrences (mkS l) (mkS [c]) 0 (mkS l).length 1).isEmpty))) H
  rw [show mkS [c] = (⟨#[c]⟩ : Str) from rfl, e]
  exact q
theorem for_walk {J : It} {xs : List V} {g : TG} {tb : TS} {D : Ends} {σ : St} {H : Hp} (Pv : Nat → St → Hp → Prop) (h0 : Pv 0 σ H) (hw : Wk J xs fun H => ∃ i σ, Pv i σ H)
    (hs : ∀ i x σ H, xs[i]? = some x → Pv i σ H → g x σ H fun σ2 H2 => tb { D with nx := Pv (i + 1), ct := Pv (i + 1), bk := D.nx } σ2 H2) (hd : ∀ σ H, Pv xs.length σ H → D.nx σ H) :
    ∃ W : Nat → Nat → St → Hp → Prop, (∃ m, W 0 m σ H) ∧ ∀ i m σ H, W i m σ H →
      (J.stop i H ∧ D.nx σ H) ∨ (J.go i H ∧ ∃ N : St → Hp → Prop, (∀ σ' H', N σ' H' → ∃ m', m' < m ∧ W (i + 1) m' σ' H') ∧ ∀ x H', J.yld i H x H' → g x σ H' fun σ2 H2 => tb { D with nx := N, ct := N, bk := D.nx } σ2 H2) := by
  refine ⟨fun i m σ H => m = xs.length - i ∧ i ≤ xs.length ∧ Pv i σ H, ⟨xs.length, rfl, Nat.zero_le _, h0⟩, ?_⟩
  rintro i m σ H ⟨rfl, hi, p⟩
  obtain ⟨g1, g2, g3⟩ := hw i H ⟨i, σ, p⟩
  by_cases hlt : i < xs.length
  · refine .inr ⟨g1 hlt, Pv (i + 1), fun σ' H' p' => ⟨xs.length - (i + 1), by omega, rfl, hlt, p'⟩, fun x H' y => ?_⟩
    obtain ⟨e, hx⟩ := g3 hlt x H' y
    subst e
    exact hs i x σ _ hx p
  · have e : i = xs.length := by omega
    subst e
    exact .inl ⟨g2 (Nat.le_refl _), hd σ H p⟩

noncomputable def kitB (T T' : String) : Option Bool := if (Value.type T == Value.type T') = true then some true else if PySem.W.kitMeta T' = true then (fastBuiltinMro T).map (·.contains (Value.type T')) else none
theorem kitOne_b (K : PySem.W.Frag) (T T' : String) : PySem.W.kitOne K (.type T) (.type T') = kitB T T' := rfl
theorem call_isiB : CallR X (.builtin "isinstance") (fun xs H Q => ∃ x T T' b, xs = [x, .ty T'] ∧ TyOf X.K H x (.type T) ∧ kitB T T' = some b ∧ Q (.bl b) H) := by
  intro pins s σ H xs us Q I r h
  obtain ⟨x, T, T', b, rfl, ty, e, q⟩ := h
  obtain ⟨u1, u2, rfl, r1, r2⟩ := vals2 r
  cases r2
  exact isinst_ok I r1 ty (by rw [kitOne_b]; exact e) fun tk => ⟨.bl b, H, I.tok tk, rfl, q⟩

theorem op_isnot_bl : OpR X (compareOp .IsNot) (fun x y H Q => ∃ a b, x = .bl a ∧ y = .bl b ∧ Q (.bl (a != b)) H) := by
  intro pins s σ H x y v u Q I rx ry h
  obtain ⟨a, b, rfl, rfl, q⟩ := h
  cases rx
  cases ry
  exact isnot_bool ⟨.bl _, H, I, rfl, q⟩
noncomputable def eqL : List V → List V → Bool
  | [], [] => true
  | x :: xs, y :: ys => eqV x y && eqL xs ys
  | _, _ => false
theorem eqL_len : ∀ {xs ys : List V}, xs.length ≠ ys.length → eqL xs ys = false
  | [], [], h => absurd rfl h
  | [], _ :: _, _ => rfl
  | _ :: _, [], _ => rfl
  | x :: xs, y :: ys, h => by
    unfold eqL
    rw [eqL_len (by simpa using h), Bool.and_false]
theorem eqL_range : ∀ {xs ys : List V}, xs.length = ys.length → eqL xs ys = (List.range xs.length).all fun j => eqV (xs.getD j .non) (ys.getD j .non)
  | [], [], _ => rfl
  | [], _ :: _, h => by cases h
  | _ :: _, [], h => by cases h
  | x :: xs, y :: ys, h => by
    unfold eqL
    rw [eqL_range (by simpa using h), List.length_cons, List.range_succ_eq_map, List.all_cons, List.all_map]
    rfl
theorem eqV_self : ∀ x : V, flatV x = true → eqV x x = true := fun x h => by
  cases x <;> simp [eqV, flatV] at h ⊢
theorem eqL_self : ∀ xs : List V, xs.all flatV = true → eqL xs xs = true
  | [], _ => rfl
  | x :: xs, h => by
    rw [List.all_cons, Bool.and_eq_true] at h
    unfold eqL
    rw [eqV_self x h.1, eqL_self xs h.2]
    rfl
theorem eqs_of {A : Around} {s : Shared} {xs ys : List V} {us ws : List Value} (r1 : Vals xs us) (r2 : Vals ys ws) (f1 : xs.all flatV = true) (f2 : ys.all flatV = true) (j : Nat) (h1 : j < us.toArray.size) (h2 : j < ws.toArray.size) :
    SeqAt.EqAt A s us.toArray[j] ws.toArray[j] (eqV (xs.getD j .non) (ys.getD j .non)) := by
  have l1 := r1.length
  have l2 := r2.length
  rw [List.size_toArray] at h1 h2
  have g1 : xs[j]? = some xs[j] := by simp [l1, h1]
  have g2 : ys[j]? = some ys[j] := by simp [l2, h2]
  obtain ⟨u, e1, q1⟩ := r1.get g1
  obtain ⟨w, e2, q2⟩ := r2.get g2
  have e1' : us.toArray[j] = u := by
    have := List.getElem?_eq_some_iff.mp e1
    obtain ⟨_, z⟩ := this
    simpa using z
  have e2' : ws.toArray[j] = w := by
    have := List.getElem?_eq_some_iff.mp e2
    obtain ⟨_, z⟩ := this
    simpa using z
  rw [e1', e2', show xs.getD j .non = xs[j] by simp [List.getD, g1], show ys.getD j .non = ys[j] by simp [List.getD, g2]]
  exact eqAt_V q1 q2 (List.all_eq_true.mp f1 _ (List.getElem_mem _)) (List.all_eq_true.mp f2 _ (List.getElem_mem _))
noncomputable def rEqL (K : PySem.W.Frag) (neg : Bool) : R2 := fun x y H Q => ∃ a b xs ys, x = .ref a ∧ y = .ref b ∧ SqL K H a xs ∧ SqL K H b ys ∧ xs.all flatV = true ∧ ys.all flatV = true ∧ Q (.bl (if neg then !eqL xs ys else eqL xs ys)) H
theorem op_eqL (hu : X.A.units < cLine) : OpR X (compareOp .Eq) (rEqL X.K false) := by
  intro pins s σ H x y v u Q I rx ry h
  obtain ⟨a, b, xs, ys, rfl, rfl, ha, hb, f1, f2, q⟩ := h
  cases rx
  cases ry
  obtain ⟨us, r1, p1, _⟩ := I.list ha
  obtain ⟨ws, r2, p2, _⟩ := I.list hb
  have l1 := r1.length
  have l2 := r2.length
  by_cases hl : xs.length = ys.length
  · have hsz : us.toArray.size = ws.toArray.size := by simp only [List.size_toArray]; omega
    refine SeqAt.eq_listAt p1.isList p2.isList hsz hu (fun j h1 h2 => eqs_of r1 r2 f1 f2 j h1 h2) ⟨.bl _, H, I, rfl, ?_⟩
    rw [List.size_toArray, ← l1, ← eqL_range hl]
    exact q
  · have hsz : (us.toArray.size != ws.toArray.size) = true := by simp only [List.size_toArray, bne_iff_ne]; omega
    refine SeqAt.eq_list_lengthsAt p1.isList p2.isList hsz hu ⟨.bl _, H, I, rfl, ?_⟩
    have e := eqL_len hl
    simp only [Bool.false_eq_true, if_false, e] at q
    exact q
theorem op_neL (hu : X.A.units < cLine) : OpR X (compareOp .NotEq) (rEqL X.K true) := by
  intro pins s σ H x y v u Q I rx ry h
  obtain ⟨a, b, xs, ys, rfl, rfl, ha, hb, f1, f2, q⟩ := h
  cases rx
  cases ry
  obtain ⟨us, r1, p1, _⟩ := I.list ha
  obtain ⟨ws, r2, p2, _⟩ := I.list hb
  have l1 := r1.length
  have l2 := r2.length
  by_cases hl : xs.length = ys.length
  · have hsz : us.toArray.size = ws.toArray.size := by simp only [List.size_toArray]; omega
    refine SeqAt.RcNeAt.lists p1.isList p2.isList hsz hu (fun j h1 h2 => eqs_of r1 r2 f1 f2 j h1 h2) _ _ _ _ ⟨.bl _, H, I, rfl, ?_⟩
    rw [List.size_toArray, ← l1, ← eqL_range hl]
    exact q
  · have hsz : (us.toArray.size != ws.toArray.size) = true := by simp only [List.size_toArray, bne_iff_ne]; omega
    refine SeqAt.RcNeAt.lists_lengths p1.isList p2.isList hsz hu _ _ _ _ ⟨.bl _, H, I, rfl, ?_⟩
    have e := eqL_len hl
    simp only [if_true, e] at q
    exact q

theorem call_all (hh : X.calm = true) : CallR X (.builtin "all") (fun xs H Q => ∃ (p : Addr) (bs : List Bool), xs = [.ref p] ∧ SqL X.K H p (bs.map V.bl) ∧ Q (.bl (bs.all id)) H) := by
  intro pins s σ H xs us Q I r h
  obtain ⟨p, bs, rfl, hq, q⟩ := h
  obtain ⟨u, rfl, rp⟩ := vals1 r
  cases rp
  obtain ⟨its, rv, pl, hz⟩ := I.list hq
  have hlen := rv.length
  rw [List.length_map] at hlen
  have hA : X.A.in1.handled = none := I.ok.hd hh
  obtain ⟨ob, ho, hoc, hn⟩ := id pl.isList
  have hne : p ≠ s.heap.objs.size := Nat.ne_of_lt (Heap.lt_size ho)
  refine call_all_walk (wpAny_pyIter_list pl.isList ?_)
  refine ⟨s.heap.objs.size, _, _, _, _, _, fun i => bs.getD i true, rfl, Walks.list hA s.heap.objs.size p hne its.toArray, ⟨⟨_, Heap.get?_push_size _ rfl, rfl, rfl⟩, ⟨ob, Heap.get?_push_of_some _ ho, hoc, hn⟩⟩, fun i v s' Q' E' hP hQ => ?_, fun h' tk kk => ?_⟩
  · have hP' : its[i]? = some v := by simpa using hP
    have hi : i < bs.length := by
      have := (List.getElem?_eq_some_iff.mp hP').1
      omega
    have g : (bs.map V.bl)[i]? = some (V.bl bs[i]) := by simp [hi]
    obtain ⟨u, e1, q1⟩ := rv.get g
    rw [hP'] at e1
    cases e1
    cases q1
    have e : bs.getD i true = bs[i] := by simp [List.getD, hi]
    dsimp only at hQ
    rw [e] at hQ
    exact wpAny_truthy_bool hQ
  · have I1 : Inv X pins σ H { s with heap := h', toks := tk } := I.kept fun b o e => kk b o (by
      simp only [List.mem_singleton]
      exact Nat.ne_of_lt (Heap.lt_size e)) (Heap.get?_push_of_some _ e)
    refine ⟨.bl (bs.all id), H, I1, ?_, q⟩
    have e : (List.range its.toArray.size).all (fun i => bs.getD i true) = bs.all id := by
      rw [List.size_toArray, ← hlen]
      clear hlen rv pl hz ho hn I1 q hq I
      induction bs with
      | nil => rfl
      | cons b bs ih =>
        rw [List.length_cons, List.range_succ_eq_map, List.all_cons, List.all_map, List.all_cons]
        show (b && _) = (b && _)
        rw [← ih]
        rfl
    rw [e]
    rfl
end
end L2

namespace L2
open PySem PySem.Spec PyProof.Rows
section
variable {X : Cx}
noncomputable def rAddA : R2 := fun x y H Q => rI0 (fun i j => .int (i + j)) x y H Q ∨ (∃ i j, x = .str i ∧ y = .str j ∧ i.length + j.length ≤ sizeLine ∧ Q (.str (i ++ j)) H) ∨ rCat x y H Q
theorem o_add : OpR X (binaryOp .Add) rAddA := op_add.or (op_add_str.or op_cat)
noncomputable def rMulA : R2 := fun x y H Q => rI CMul (fun i j => .int (i * j)) x y H Q ∨ (∃ a n, x = .str a ∧ y = .int n ∧ MulOk a n ∧ Q (.str (Txt.mul a n)) H) ∨ rRep x y H Q
theorem o_mul : OpR X (binaryOp .Mult) rMulA := op_mul.or (op_mul_str.or op_rep)
noncomputable def rEqA (K : PySem.W.Frag) : R2 := fun x y H Q => rEq x y H Q ∨ rEqL K false x y H Q
theorem o_eq {K : PySem.W.Frag} (hu : X.A.units < cLine) (hK : X.K = K := by rfl) : OpR X (compareOp .Eq) (rEqA K) := by subst hK; exact op_eq.or (op_eqL hu)
noncomputable def rNeA (K : PySem.W.Frag) : R2 := fun x y H Q => rNe x y H Q ∨ rEqL K true x y H Q
theorem o_ne {K : PySem.W.Frag} (hu : X.A.units < cLine) (hK : X.K = K := by rfl) : OpR X (compareOp .NotEq) (rNeA K) := by subst hK; exact op_ne.or (op_neL hu)
noncomputable def rInA (K : PySem.W.Frag) : R2 := fun x y H Q => (∃ c l, x = .str (mkS [c]) ∧ y = .str (mkS l) ∧ Q (.bl (hasS l c)) H) ∨ rIn K false x y H Q
theorem o_in {K : PySem.W.Frag} (hK : X.K = K := by rfl) : OpR X (compareOp .In) (rInA K) := by subst hK; exact op_in_one.or op_in_seq
noncomputable def rNotInA (K : PySem.W.Frag) : R2 := fun x y H Q => (∃ c l, x = .str (mkS [c]) ∧ y = .str (mkS l) ∧ Q (.bl (!hasS l c)) H) ∨ rIn K true x y H Q
theorem o_notin {K : PySem.W.Frag} (hK : X.K = K := by rfl) : OpR X (compareOp .NotIn) (rNotInA K) := by subst hK; exact op_notin_one.or op_notIn_seq
noncomputable def rIsNotA : R2 := fun x y H Q => (y = .non ∧ Q (.bl (!decide (x = .non))) H) ∨ ∃ a b, x = .bl a ∧ y = .bl b ∧ Q (.bl (a != b)) H
theorem o_isnot : OpR X (compareOp .IsNot) rIsNotA := op_notN.or op_isnot_bl
noncomputable def rSlA (K : PySem.W.Frag) : V → Option Int → Option Int → Hp → VK → Prop := fun x lo hi H Q => rSlL K x lo hi H Q ∨ rSlS x lo hi H Q
theorem o_sl {K : PySem.W.Frag} (hK : X.K = K := by rfl) : SlR X (rSlA K) := by subst hK; exact sl_list.or sl_str
theorem o_ix {K : PySem.W.Frag} (hK : X.K = K := by rfl) : IxR X (rIx K) := by subst hK; exact ix_seq
noncomputable def rLenA (K : PySem.W.Frag) : List V → Hp → VK → Prop := fun xs H Q => (∃ p ys, xs = [.ref p] ∧ (SqL K H p ys ∨ SqT K H p ys) ∧ Q (.int ys.length) H) ∨ ∃ z, xs = [.str z] ∧ z.length ≤ sizeLine ∧ Q (.int z.length) H
theorem o_len {K : PySem.W.Frag} (hK : X.K = K := by rfl) : CallR X (.builtin "len") (rLenA K) := by subst hK; exact call_len_seq.or call_len_str
noncomputable def rIsi (K : PySem.W.Frag) : List V → Hp → VK → Prop := fun xs H Q => ∃ x T T' b, xs = [x, .ty T'] ∧ TyOf K H x (.type T) ∧ kitB T T' = some b ∧ Q (.bl b) H
theorem o_isinstance {K : PySem.W.Frag} (hK : X.K = K := by rfl) : CallR X (.builtin "isinstance") (rIsi K) := by subst hK; exact call_isiB
noncomputable def rAll (K : PySem.W.Frag) : List V → Hp → VK → Prop := fun xs H Q => ∃ (p : Addr) (bs : List Bool), xs = [.ref p] ∧ SqL K H p (bs.map V.bl) ∧ Q (.bl (bs.all id)) H
theorem o_all {K : PySem.W.Frag} (hh : X.calm = true := by rfl) (hK : X.K = K := by rfl) : CallR X (.builtin "all") (rAll K) := by subst hK; exact call_all hh
noncomputable def rAbs : List V → Hp → VK → Prop := fun xs H Q => ∃ i, xs = [.int i] ∧ Q (.int (if i < 0 then -i else i)) H
noncomputable def rIntT : List V → Hp → VK → Prop := fun xs H Q => (∃ i, xs = [.int i] ∧ Q (.int i) H) ∨ ∃ k, xs = [.bl k] ∧ Q (.int (if k then 1 else 0)) H
theorem call_int : CallR X (.type "int") rIntT := call_int1
noncomputable def rJoin (K : PySem.W.Frag) : V → List V → Hp → VK → Prop := fun x xs H Q => ∃ (a : Str) (p : Addr) (ys : List Str), x = .str a ∧ xs = [.ref p] ∧ SqL K H p (ys.map V.str) ∧ (ys.map (·.length)).sum + ys.length * a.length ≤ 16777216 ∧ Q (.str (Str.join a ys)) H
theorem o_join {K : PySem.W.Frag} (hK : X.K = K := by rfl) : MtR X "str.join" (rJoin K) := by subst hK; exact mt_join
theorem o_append : MtR X "list.append" rAppend := mt_append
theorem pe_bmK {K : PySem.W.Frag} {o e : Expr} {es : List Expr} {to : TE} {t : TA} {name : Str} {apos cpos : Pos} {T id : String} {r : V → List V → Hp → VK → Prop} (pa : PlainAttrs T) (slot : Slot T name id) (hty : typeOf (.builtin id) = pure (.type "method_descriptor")) (hm : MtR X id r) (ho : PE X o to) (ha : PA X (e :: es) t) (hK : X.K = K := by rfl)
    (hbase : attributeBase o name X.env (eval o X.env) = eval o X.env := by rfl)
    (hfew : ((backTo cpos (starEach (e :: es) X.env)).all (fun x => !x.1) && (backToKw cpos (keywordEach [] X.env)).all (fun x => x.1.isSome)
      && decide ((e :: es).length + ([] : List Keyword).length + (if ([] : List Keyword).isEmpty then 0 else 1) < 30)) = true := by rfl)
    (hline : (apos.endLine == cpos.line) = true := by rfl) (hs : starEach (e :: es) X.env = (false, eval e X.env) :: starEach es X.env := by rfl) (hplain : (backTo cpos (starEach es X.env)).any (·.1) = false := by rfl) :
    PE X (.Call (.Attribute o name apos) (e :: es) [] cpos) (tBM K T r to t) := by
  subst hK
  exact pe_bm pa slot hty hm ho ha hbase hfew hline hs hplain
theorem pi_listK {K : PySem.W.Frag} {tg l : Expr} {tl : TE} (hl : PE X l tl) (hK : X.K = K := by rfl) : PI X tg l (iList K tl) := by subst hK; exact pi_list hl
theorem pi_tupK {K : PySem.W.Frag} {tg l : Expr} {tl : TE} (hl : PE X l tl) (hK : X.K = K := by rfl) : PI X tg l (iTup K tl) := by subst hK; exact pi_tup hl
theorem pg_tupK {K : PySem.W.Frag} {es : List Expr} {k : Nat} {t : TGs} {n : Nat} {pos : Pos} (hc : X.calm = true) (h : PGs X es t) (hK : X.K = K := by rfl)
    (hn : (assignEach es X.env).length = n := by rfl) (hst : (assignEach es X.env).findIdx? (·.1) = none := by rfl) : PG X (.Tuple es k pos) (gTup K n t) := by subst hK; exact pg_tup hc h hn hst
theorem pe_gl {x : Str} {v : V} {pos : Pos} (hg : Gl X x) (h : ∃ u, X.mg x = some u ∧ RelV v u) (hd : (x == ("__debug__" : Str)) = false := by decide) : PE X (.Name x pos) (tC v) := by
  obtain ⟨u, hm, r⟩ := h
  exact pe_glob hg hm r hd
end

structure Fn (K : PySem.W.Frag) (x qual : Str) (st : Stmt) (f : Addr) (fd : FuncData) : Prop where
  ex : ∃ (oc : Value) (od : Option Addr) (dV kV doc pm : Value) (an : Option Addr) (cdv ct : Value) (osl : Array (Option Value)),
    fd = PySem.W.fnOf x qual (defArgs st) (defBody st) (defScope st) dV kV doc pm an cdv ct ∧ K.lookup f = some ⟨oc, od, .func fd, osl⟩ ∧ PySem.W.codeIn K cdv qual = true
  kp : PySem.W.keepIn K (.ref f) = true
section
variable {P : Program} {w : World} {K : PySem.W.Frag} {mg : Str → Option Value} {base : Heap}
theorem Fn.ok {x qual : Str} {st : Stmt} {f : Addr} {fd : FuncData} {N ps : List Str} {k : Nat} {sp : Sp} (F : Fn K x qual st f fd) (S : FnScope N ps (defScope st)) (len : ∀ vs H Q E, sp vs H Q E → vs.length = ps.length)
    (hbody : ∀ (cdv : Value) (A : Around) (outer : List Env) (s : Shared) (H : Hp) (vs : List V) (Q : VK) (E : XK), Room k (A.deeper (envOfC qual (defScope st) s.heap.objs.size f cdv)) → sp vs H Q E →
      ∃ t, PSs (cxOf CX0 P w K mg base N qual (defScope st) f cdv A outer s H E).nox (defBody st) t ∧ t { nx := fun _ H' => Q .non H', rt := Q } (start N vs) H) : FnOk P w K mg base CX0 (k + 1) f fd ps sp := by
  obtain ⟨oc, od, dV, kV, doc, pm, an, cdv, ct, osl, rfl, lk, hcd⟩ := F.ex
  refine fn_of lk hcd S len fun A outer s H vs Q E hr hsp => ?_
  obtain ⟨t, h, q⟩ := hbody cdv A outer s H vs Q E hr hsp
  exact ⟨t, h.nox, q⟩
theorem fn_mk {x qual : Str} {st : Stmt} {f : Addr} {oc : Value} {od an : Option Addr} {osl : Array (Option Value)} {dV kV doc pm cdv ct : Value} (l : K.lookup f = some ⟨oc, od, .func (PySem.W.fnOf x qual (defArgs st) (defBody st) (defScope st) dV kV doc pm an cdv ct), osl⟩)
    (c : PySem.W.codeIn K cdv qual = true) (k : PySem.W.keepIn K (.ref f) = true) : Fn K x qual st f (PySem.W.fnOf x qual (defArgs st) (defBody st) (defScope st) dV kV doc pm an cdv ct) := ⟨⟨oc, od, dV, kV, doc, pm, an, cdv, ct, osl, rfl, l, c⟩, k⟩
end
structure DefAt (K : PySem.W.Frag) (mg : Str → Option Value) (x : Str) (st : Stmt) (ps : List Str) where
  f : Addr
  fd : FuncData
  F : Fn K x x st f fd
  b : Binds K fd ps []
  m : mg x = some (.ref f)
section
variable {X : Cx} {k : Nat} {ps : List Str} {sp : Sp} {x : Str} {st : Stmt} {p pos : Pos} {e : Expr} {es : List Expr} {t : TA}
theorem pc (D : DefAt X.K X.mg x st ps) (G : FnOk X.prog X.w X.K X.mg X.base CX0 k D.f D.fd ps sp) (hr : Room k X.A) (ha : PA X (e :: es) t) (hg : Gl X x := by rfl) (hdb : (x == ("__debug__" : Str)) = false := by decide)
    (he : starEach (e :: es) X.env = (false, eval e X.env) :: starEach es X.env := by rfl) (hpl : (backTo pos (starEach es X.env)).any (·.1) = false := by rfl) : PE X (.Call (.Name x p) (e :: es) [] pos) (tCall sp [] E0 t) :=
  pe_call G hr hg D.m D.F.kp D.b .nil pass0 ha hdb he hpl
end
theorem Same.upd {H H' : Hp} {l : Addr} {o : HO} (e : Same H H') (h : H' l = none) : Same H (upd H' l o) := fun b u q => by
  rw [upd_ne (ne_of_none (e b u q) h)]
  exact e b u q
end L2

namespace L2
open PySem PySem.Spec PyProof.Rows
theorem mk_iff (a b : List Nat) : mkS a = mkS b ↔ a = b := ⟨mk_inj, fun h => by rw [h]⟩
theorem tyV_str {K : PySem.W.Frag} {z : Str} {H : Hp} : tyV K "str" (.str z) H ↔ True := by simp [tyV]
theorem tyV_lst {K : PySem.W.Frag} {p : Addr} {xs : List V} {H : Hp} (h : SqL K H p xs) : tyV K "list" (.ref p) H := Or.inl ⟨rfl, xs, h⟩
section
variable {tb : TS} {D : Ends} {σ : St} {H : Hp} {k : Nat}
theorem tfor_list {K : PySem.W.Frag} {a : Addr} {xs : List V} {te : TE} (hte : ∀ R : VK, R (.ref a) H → te σ H R) (hq : SqL K H a xs) (Pv : Nat → St → Hp → Prop) (h0 : Pv 0 σ H) (hl : ∀ i σ H, Pv i σ H → SqL K H a xs)
    (hs : ∀ (i : Nat) (x : V) (σ : St) (H : Hp), xs[i]? = some x → Pv i σ H → tb { D with nx := Pv (i + 1), ct := Pv (i + 1), bk := D.nx } (σ.set k (some x)) H) (hd : ∀ σ H, Pv xs.length σ H → D.nx σ H) :
    tFor (iList K te) (gName k) tb D σ H :=
  hte _ ⟨a, rfl, ⟨xs, hq⟩, for_walk (xs := xs) Pv h0 (wk_list fun H ⟨i, σ, p⟩ => hl i σ H p) (fun i x σ H hx p => hs i x σ H hx p) hd⟩
theorem tfor_rng {te : TE} (j : Int) (h1 : 0 ≤ j) (h2 : j < 1073741824) (hte : ∀ R : VK, R (.int j) H → te σ H R) (Pv : Nat → St → Hp → Prop) (h0 : Pv 0 σ H)
    (hs : ∀ (i : Nat) (σ : St) (H : Hp), (i : Int) < j → Pv i σ H → tb { D with nx := Pv (i + 1), ct := Pv (i + 1), bk := D.nx } (σ.set k (some (.int (i : Int)))) H) (hd : ∀ σ H, Pv j.toNat σ H → D.nx σ H) :
    tFor (iRng1 (tCons te tNil)) (gName k) tb D σ H := by
  refine hte _ ⟨j, rfl, by omega, by omega, for_range (n := j.toNat) Pv h0 (fun i σ H hi p => ?_) hd⟩
  rw [Int.zero_add]
  exact hs i σ H (by omega) p
end
section
variable {tc : TT} {te : TE} {src : List (Option Nat)} {σ : St} {H : Hp} {Q : VK} {k : Nat}
end
end L2

namespace L2
open PySem PySem.Spec PyProof.Rows
section
variable {K : PySem.W.Frag} {H : Hp} {Q : VK} {a b : Int} {x y : Str} {p q : Bool} {l : List Nat} {c : Nat} {v : V}
theorem add_ii : rAddA (.int a) (.int b) H Q ↔ Q (.int (a + b)) H := by simp [rAddA, rI0, rCat]
theorem add_ss : rAddA (.str x) (.str y) H Q ↔ x.length + y.length ≤ sizeLine ∧ Q (.str (x ++ y)) H := by simp [rAddA, rI0, rCat]
theorem mul_ii : rMulA (.int a) (.int b) H Q ↔ CMul a b ∧ Q (.int (a * b)) H := by simp [rMulA, rI, rRep]
theorem ix_si : rIx K (.str x) (.int a) H Q ↔ x.length ≤ sizeLine ∧ ∃ c, atI x.cps.toList a = some c ∧ Q (.str (mkS [c])) H := by
  simp [rIx, rIxL, rIxT, rIxS, mk_one]
theorem eq_ii : rEqA K (.int a) (.int b) H Q ↔ Q (.bl (decide (a = b))) H := by
  have s : scal (V.int a) (V.int b) = true := rfl
  simp [rEqA, rEq, rEqL, s]
theorem eq_ss : rEqA K (.str x) (.str y) H Q ↔ Q (.bl (decide (x = y))) H := by
  have s : scal (V.str x) (V.str y) = true := rfl
  simp [rEqA, rEq, rEqL, s]
theorem ne_ii : rNeA K (.int a) (.int b) H Q ↔ Q (.bl (!decide (a = b))) H := by
  have s : scal (V.int a) (V.int b) = true := rfl
  simp [rNeA, rNe, rEqL, s]
theorem ne_ss : rNeA K (.str x) (.str y) H Q ↔ Q (.bl (!decide (x = y))) H := by
  have s : scal (V.str x) (V.str y) = true := rfl
  simp [rNeA, rNe, rEqL, s]
theorem isnot_xn : rIsNotA v .non H Q ↔ Q (.bl (!decide (v = .non))) H := by simp [rIsNotA]
variable {r s t : Addr} {xs ys : List V}
theorem ixL (h : SqL K H r xs) (e : atI xs a = some v) (z : Q v H) : rIx K (.ref r) (.int a) H Q := .inl ⟨r, xs, a, v, rfl, rfl, h, e, z⟩
theorem ixT (h : SqT K H r xs) (e : atI xs a = some v) (z : Q v H) : rIx K (.ref r) (.int a) H Q := .inr (.inl ⟨r, xs, a, v, rfl, rfl, h, e, z⟩)
theorem eqLL (h1 : SqL K H r xs) (h2 : SqL K H s ys) (f1 : xs.all flatV = true) (f2 : ys.all flatV = true) (z : Q (.bl (eqL xs ys)) H) : rEqA K (.ref r) (.ref s) H Q := .inr ⟨r, s, xs, ys, rfl, rfl, h1, h2, f1, f2, z⟩
theorem neLL (h1 : SqL K H r xs) (h2 : SqL K H s ys) (f1 : xs.all flatV = true) (f2 : ys.all flatV = true) (z : Q (.bl (!eqL xs ys)) H) : rNeA K (.ref r) (.ref s) H Q := .inr ⟨r, s, xs, ys, rfl, rfl, h1, h2, f1, f2, z⟩
theorem lenL (h : SqL K H r xs) (z : Q (.int xs.length) H) : rLenA K [.ref r] H Q := .inl ⟨r, xs, rfl, .inl h, z⟩
theorem catL (h1 : H r = some (.lst xs)) (h2 : H s = some (.lst ys)) (hz : xs.length + ys.length ≤ sizeLine) (z : ∀ p, H p = none → Q (.ref p) (upd H p (.lst (xs ++ ys)))) : rAddA (.ref r) (.ref s) H Q := .inr (.inr ⟨r, s, xs, ys, rfl, rfl, h1, h2, hz, z⟩)
theorem slL {lo hi : Option Int} (h : SqL K H r xs) (z : ∀ p, H p = none → Q (.ref p) (upd H p (.lst (cutL xs lo hi)))) : rSlA K (.ref r) lo hi H Q := .inl ⟨r, xs, rfl, h, z⟩
theorem appL (h : H r = some (.lst xs)) (hz : xs.length < sizeLine) (z : Q .non (upd H r (.lst (xs ++ [v])))) : rAppend (.ref r) [v] H Q := ⟨r, xs, v, rfl, rfl, h, hz, z⟩
theorem allL {bs : List Bool} (h : SqL K H r (bs.map V.bl)) (z : Q (.bl (bs.all id)) H) : rAll K [.ref r] H Q := ⟨r, bs, rfl, h, z⟩
theorem isi_t {v : V} {T0 T' : String} (k : TyOf K H v (.type T0)) (q : Q (.bl true) H) (e : kitB T0 T' = some true := by decide +kernel) : rIsi K [v, .ty T'] H Q := ⟨v, T0, T', true, rfl, k, e, q⟩
theorem isi_f {v : V} {T0 T' : String} (k : TyOf K H v (.type T0)) (q : Q (.bl false) H) (e : kitB T0 T' = some false := by decide +kernel) : rIsi K [v, .ty T'] H Q := ⟨v, T0, T', false, rfl, k, e, q⟩
theorem atIn {α : Type} {xs : List α} {i : Int} {c : α} (h0 : 0 ≤ i) (h : xs[i.toNat]? = some c) : atI xs i = some c := by
  have := atI_nat (j := i.toNat) h
  rw [Int.toNat_of_nonneg h0] at this
  exact this
end
end L2

namespace L2
open PySem PySem.Spec PyProof.Rows
section
variable {tb : TS} {D : Ends} {σ : St} {H : Hp} {k : Nat}
theorem tfor_tupd {K : PySem.W.Frag} {ta : TA} {xs : List V} (hta : ∀ R : List V → Hp → Prop, R xs H → ta σ H R) (hz : xs.length ≤ sizeLine) (Pv : Addr → Nat → St → Hp → Prop) (h0 : ∀ t, H t = none → Pv t 0 σ (upd H t (.tup xs)))
    (hl : ∀ t i σ H', Pv t i σ H' → H' t = some (.tup xs)) (hs : ∀ (t : Addr) (i : Nat) (x : V) (σ : St) (H' : Hp), xs[i]? = some x → Pv t i σ H' → tb { D with nx := Pv t (i + 1), ct := Pv t (i + 1), bk := D.nx } (σ.set k (some x)) H')
    (hd : ∀ t σ H', Pv t xs.length σ H' → D.nx σ H') : tFor (iTup K (tTup ta)) (gName k) tb D σ H :=
  hta _ ⟨hz, fun t ht => ⟨t, rfl, ⟨xs, SqT.of upd_same⟩, for_walk (xs := xs) (Pv t) (h0 t ht) (wk_tup fun H ⟨i, σ, p⟩ => SqT.of (hl t i σ H p)) (fun i x σ H hx p => hs t i x σ H hx p) (hd t)⟩⟩
end
end L2

namespace L2
open PySem PySem.Spec PyProof.Rows
end L2

namespace L2
open PySem PySem.Spec PyProof.Rows
noncomputable def plE : Expr → Bool
  | .Starred .. => false
  | _ => true
theorem star_cons {e : Expr} {es : List Expr} {env : Env} (h : plE e = true) : starEach (e :: es) env = (false, eval e env) :: starEach es env := by
  cases e <;> first
    | rfl
    | cases h
theorem star_any {pos : Pos} {env : Env} : ∀ {es : List Expr}, es.all plE = true → (backTo pos (starEach es env)).any (·.1) = false
  | [], _ => rfl
  | e :: es, h => by
    rw [List.all_cons, Bool.and_eq_true] at h
    rw [star_cons h.1]
    show (false || (backTo pos (starEach es env)).any (·.1)) = false
    rw [star_any h.2]
    rfl
theorem star_all {pos : Pos} {env : Env} : ∀ {es : List Expr}, es.all plE = true → (backTo pos (starEach es env)).all (fun x => !x.1) = true
  | [], _ => rfl
  | e :: es, h => by
    rw [List.all_cons, Bool.and_eq_true] at h
    rw [star_cons h.1]
    show (true && (backTo pos (starEach es env)).all (fun x => !x.1)) = true
    rw [star_all h.2]
    rfl
section
variable {X : Cx} {k : Nat} {ps : List Str} {sp : Sp} {x : Str} {st : Stmt} {p pos : Pos} {e : Expr} {es : List Expr} {t : TA} {te : TE} {id T : String} {r : List V → Hp → VK → Prop}
theorem pa1 (ha : PE X e te) (hr : PA X es t) (h : plE e = true := by rfl) : PA X (e :: es) (tCons te t) := pa_cons ha hr (star_cons h)
theorem pcB (hc : CallR X (.builtin id) r) (hg : Gl X x) (hm : X.mg x = none) (hv : bootBuiltins x = some (.builtin id)) (ha : PA X (e :: es) t) (h : plE e = true := by rfl) (h2 : es.all plE = true := by rfl) (hn : x ≠ "__name__" := by decide) (hdb : (x == ("__debug__" : Str)) = false := by decide) : PE X (.Call (.Name x p) (e :: es) [] pos) (tCB r t) :=
  pe_callB hc hg hm hv ha hn hdb (star_cons h) (star_any h2)
theorem pcT (hc : CallR X (.type T) r) (hg : Gl X x) (hm : X.mg x = none) (hv : bootBuiltins x = some (.type T)) (ha : PA X (e :: es) t) (h : plE e = true := by rfl) (h2 : es.all plE = true := by rfl) (hn : x ≠ "__name__" := by decide) (hdb : (x == ("__debug__" : Str)) = false := by decide) : PE X (.Call (.Name x p) (e :: es) [] pos) (tCB r t) :=
  pe_callTy hc hg hm hv ha hn hdb (star_cons h) (star_any h2)
theorem pc1 (D : DefAt X.K X.mg x st ps) (G : FnOk X.prog X.w X.K X.mg X.base CX0 k D.f D.fd ps sp) (hr : Room k X.A) (ha : PA X (e :: es) t) (h : plE e = true := by rfl) (h2 : es.all plE = true := by rfl) (hg : Gl X x := by rfl) (hdb : (x == ("__debug__" : Str)) = false := by decide) : PE X (.Call (.Name x p) (e :: es) [] pos) (tCall sp [] E0 t) :=
  pc D G hr ha hg hdb (star_cons h) (star_any h2)
theorem pm1 {K : PySem.W.Frag} {o : Expr} {to : TE} {name : Str} {apos cpos : Pos} {r : V → List V → Hp → VK → Prop} (pa : PlainAttrs T) (slot : Slot T name id) (hty : typeOf (.builtin id) = pure (.type "method_descriptor")) (hm : MtR X id r) (ho : PE X o to) (ha : PA X (e :: es) t) (h : plE e = true := by rfl) (h2 : es.all plE = true := by rfl) (h3 : es.length < 20 := by decide) (hK : X.K = K := by rfl)
    (hbase : attributeBase o name X.env (eval o X.env) = eval o X.env := by rfl) (hline : (apos.endLine == cpos.line) = true := by rfl) : PE X (.Call (.Attribute o name apos) (e :: es) [] cpos) (tBM K T r to t) :=
  pe_bmK pa slot hty hm ho ha hK hbase (by
    rw [star_all (by rw [List.all_cons, h, h2]; rfl)]
    have : decide ((e :: es).length + ([] : List Keyword).length + (if ([] : List Keyword).isEmpty then 0 else 1) < 30) = true := decide_eq_true (by
      show es.length + 1 + 0 + 0 < 30
      omega)
    rw [this]
    rfl) hline (star_cons h) (star_any h2)
end
end L2

namespace L2
open PySem
noncomputable def ExAt (h : Heap) (x : Addr) (cls a0 : Value) (T : Addr) (fl : Value) : Prop :=
  ∃ ox vs oT ts, h.get? x = some ox ∧ (ox.cls = cls ∧ ox.dict = none) ∧ ox.data = .fields vs ∧ vs[0]? = some a0 ∧ vs[1]? = some (.ref T) ∧ vs[2]? = some .none ∧ T ≠ x ∧ h.get? T = some oT ∧ oT.data = .fields ts ∧ ts[3]? = some fl
section
variable {M : Model} {A : Around} {E : Value → Shared → Prop} {s : Shared}
end
end L2

namespace L2
open PySem PyProof.Rows
section
variable {prog : Program} {w : World} {A : Around} {E : Value → Shared → Prop} {s : Shared}
end
end L2

namespace L2
open PySem PySem.W PyProof.Rows
section
variable {K : Frag} {prog : Program} {w : World} {A : Around} {E : Value → Shared → Prop} {s : Shared} {x D : Addr} {ox : Obj} {odo : Option Obj}
end
end L2

namespace L2
open PySem PySem.Spec PyProof.Rows
section
variable {P : Program} {w : World} {H H' : Hp} {h h1 h2 : Heap} {l fs : List Addr}
end
section
variable {X : Cx} {pins : List (Addr × Obj)} {σ : St} {H H' : Hp} {s s' : Shared}
end
section
variable {P : Program} {w : World} {K : PySem.W.Frag} {mg : Str → Option Value} {base : Heap} {N : List Str} {qual : Str} {scope : Scope} {f : Addr} {cd : Value} {A : Around} {outer : List Env} {s₀ : Shared} {H₀ : Hp} {E : XK}
end
end L2

namespace L2
open PySem PySem.Spec PyProof.Rows
noncomputable def tRaise (C : Addr) (E : XK) (t : TA) : TS := fun _ σ H => t σ H fun vs H1 => vs.length ≤ sizeLine ∧ E (.ref C) none H1
section
variable {X : Cx} {E : XK} {x : Str} {C : Addr} {np cpos pos : Pos} {e : Expr} {es : List Expr} {t : TA}
end
end L2

namespace L2
open PySem PySem.Spec PyProof.Rows
section
variable {P : Program} {w : World} {K : PySem.W.Frag} {mg : Str → Option Value} {base : Heap}
end
section
variable {X : Cx} {k : Nat} {ps : List Str} {sp : Sp} {x : Str} {st : Stmt} {p pos : Pos} {e : Expr} {es : List Expr} {t : TA} {E : XK}
end
noncomputable def XP (X : Cx) (pins : List (Addr × Obj)) (σ : St) (Ex : XK) (e : Value) (s' : Shared) : Prop := ∃ (x C T : Addr) (a0 : Value) (H' : Hp), e = .ref x ∧ Inv X pins σ H' s' ∧ ExAt s'.heap x (.ref C) a0 T .none ∧ X.s₀.heap.get? x = none ∧ X.s₀.heap.get? T = none ∧
  (∀ p ∈ X.pn ++ pins, p.1 ≠ x ∧ p.1 ≠ T) ∧ H' x = none ∧ H' T = none ∧ Ex (.ref C) none H'
noncomputable def PEX (X : Cx) (e : Expr) (tx : XK → TE) : Prop := ∀ (pins : List (Addr × Obj)) (s : Shared) (σ : St) (H : Hp) (Q : VK) (Ex : XK), Inv X pins σ H s → tx Ex σ H Q → wpAny (model X.prog X.w) X.A (eval e X.env) (EP X pins σ Q) (XP X pins σ Ex) s
section
variable {X : Cx} {pins : List (Addr × Obj)} {σ : St} {H H' : Hp} {s s' : Shared}
end
end L2

namespace L2
open PySem PySem.Spec PyProof.Rows
noncomputable def HX (H : Hp) (x : Addr) (ox : Obj) : Prop := H x = some (.frz ox (.own x)) ∧ ∃ vs, ox.data = .fields vs ∧ vs[2]? = some .none
section
variable {P : Program} {w : World} {K : PySem.W.Frag} {mg : Str → Option Value} {base : Heap}
end
noncomputable def tCallH (x : Addr) (sp : Sp) (t : TA) : TE := fun σ H Q => t σ H fun vs H1 => (∃ ox, HX H1 x ox) ∧ sp (vs ++ []) H1 Q E0
section
variable {X : Cx} {k : Nat} {ps : List Str} {sp : Sp} {x : Str} {st : Stmt} {p pos : Pos} {e : Expr} {es : List Expr} {t : TA} {y : Addr}
end
noncomputable def ExOb (ox : Obj) (D : Addr) : Prop := ox.cls = .ref D ∧ ox.dict = none ∧ ∃ vs, ox.data = .fields vs ∧ vs[2]? = some .none
end L2

namespace L2
open PySem PySem.Spec PyProof.Rows
section
variable {prog : Program} {w : World} {A : Around} {E : Value → Shared → Prop} {s : Shared} {env : Env}
end
noncomputable def tTryR (K : PySem.W.Frag) (C : Addr) (i : Nat) (tx : XK → TE) (ts : Addr → TS) : TS := fun D σ H => tx (fun cls _ H1 => ∃ C', cls = .ref C' ∧ PySem.W.exmOne K (.ref C') (.ref C) = some true ∧
  ∀ x ox, H1 x = none → ExOb ox C' → ts x { nx := fun _ _ => False, rt := D.rt } (σ.set i (some (.ref x))) (upd H1 x (.frz ox (.own x)))) σ H D.rt
section
variable {X : Cx} {K : PySem.W.Frag} {e : Expr} {tx : XK → TE} {cn n : Str} {C : Addr} {i : Nat} {b₀ : Stmt} {suite : List Stmt} {rpos np hpos pos : Pos} {ts : Addr → TS}
end
end L2

namespace L2
open PySem
noncomputable def isInt : V → Bool
  | .int _ => true
  | _ => false
theorem sl1000 {n : Nat} (h : n ≤ 100000) : n ≤ sizeLine := by rw [sizeLine_eq]; omega
theorem ifN {c : Bool} {A B : Prop} (h : c = false) (b : B) : if c = true then A else B := by
  subst h
  exact iteF b
theorem ifY {c : Bool} {A B : Prop} (h : c = true) (a : A) : if c = true then A else B := by
  subst h
  exact iteT a
noncomputable def cellF (ns : List Int) (k : Int) : Int := ns.getD k.toNat 0
theorem Same.set {H H' : Hp} {l : Addr} {o : HO} (e : Same H H') (h : H l = none) : Same H (L2.upd H' l o) := fun b u q => by
  rw [upd_ne (ne_of_none q h)]
  exact e b u q
theorem Same.no {H H' : Hp} (e : Same H H') {l : Addr} (h : H' l = none) : H l = none := e.free h
theorem isi_l {K : PySem.W.Frag} {H : Hp} {a : Addr} {xs : List V} {Q : VK} (k : H a = some (.lst xs)) (q : Q (.bl true) H) : rIsi K [.ref a, .ty "list"] H Q := isi_t (.lst k) q
end L2
namespace L2
open PySem
section
variable {X : Cx} {K : PySem.W.Frag}
noncomputable def rList (K : PySem.W.Frag) : List V → Hp → VK → Prop := fun xs H Q => ∃ p ys, xs = [.ref p] ∧ (SqL K H p ys ∨ SqT K H p ys) ∧ ∀ l, H l = none → Q (.ref l) (upd H l (.lst ys))
theorem call_listK (hK : X.K = K := by rfl) : CallR X (.type "list") (rList K) := by subst hK; exact call_list_of
end
theorem listL {K : PySem.W.Frag} {H : Hp} {Q : VK} {p : Addr} {ys : List V} (h : SqL K H p ys) (q : ∀ l, H l = none → Q (.ref l) (upd H l (.lst ys))) : rList K [.ref p] H Q := ⟨p, ys, rfl, .inl h, q⟩
end L2
namespace L2
open PySem
theorem comp_walkG {J : It} {xs : List V} {src : List (Option Nat)} {g : TG} {tc : TT} {te : TE} {σ : St} {H : Hp} {Q : VK} (F : Nat → List V) (Pv : Hp → Prop) (h0 : Pv H) (hw : Wk J xs Pv) (hz : xs.length ≤ sizeLine)
    (hs : ∀ (i : Nat) (x : V) (H' : Hp) (Cy : VK) (Cn : Hp → Prop), xs[i]? = some x → Pv H' → (∀ y H4, F i = [y] → Pv H4 → Cy y H4) → (∀ H3, F i = [] → Pv H3 → Cn H3) →
      g x (stComp src σ) H' fun σ2 H2 => KeepSt (stComp src σ) σ2 ∧ tc σ2 H2 fun b H3 => if b = true then te σ2 H3 Cy else Cn H3)
    (hd : ∀ H' l, Pv H' → H' l = none → Q (.ref l) (upd H' l (.lst ((List.range xs.length).flatMap F)))) :
    ∃ W : Nat → Nat → List V → Hp → Prop, (∃ m, W 0 m [] H) ∧ ∀ i m ys H, W i m ys H →
      (J.stop i H ∧ ∀ l, H l = none → Q (.ref l) (upd H l (.lst ys))) ∨
      (J.go i H ∧ ys.length < sizeLine ∧ ∀ x H', J.yld i H x H' → g x (stComp src σ) H' fun σ2 H2 => KeepSt (stComp src σ) σ2 ∧ tc σ2 H2 fun b H3 => if b = true then te σ2 H3 fun y H4 => ∃ m', m' < m ∧ W (i + 1) m' (ys ++ [y]) H4 else ∃ m', m' < m ∧ W (i + 1) m' ys H3) := by
  have flen : ∀ i : Nat, (∀ j, j < i → (F j).length ≤ 1) → ((List.range i).flatMap F).length ≤ i := by
    intro i
    induction i with
    | zero => intro _; simp
    | succ i ih =>
      intro hF
      have a1 := hF i (Nat.lt_succ_self _)
      have a2 := ih fun j hj => hF j (by omega)
      rw [List.range_succ, List.flatMap_append]
      simp only [List.length_append, List.flatMap_cons, List.flatMap_nil, List.append_nil]
      omega
  refine ⟨fun i m ys H => m = xs.length - i ∧ i ≤ xs.length ∧ ys = (List.range i).flatMap F ∧ (∀ j, j < i → (F j).length ≤ 1) ∧ Pv H, ⟨xs.length, rfl, Nat.zero_le _, by simp, fun j h => absurd h (Nat.not_lt_zero _), h0⟩, ?_⟩
  rintro i m ys H1 ⟨rfl, hi, rfl, hF, p⟩
  obtain ⟨g1, g2, g3⟩ := hw i H1 p
  by_cases hlt : i < xs.length
  · have hL := flen i hF
    refine .inr ⟨g1 hlt, by omega, fun x H' y => ?_⟩
    obtain ⟨e, hx⟩ := g3 hlt x H' y
    subst e
    have tk : ∀ z, F i = z → z.length ≤ 1 → (List.range i).flatMap F ++ z = (List.range (i + 1)).flatMap F ∧ ∀ j, j < i + 1 → (F j).length ≤ 1 := fun z ez hz => by
      constructor
      · rw [List.range_succ, List.flatMap_append]
        simp [ez]
      · intro j hj
        by_cases hji : j = i
        · subst hji
          rw [ez]; exact hz
        · exact hF j (by omega)
    refine hs i x H' _ _ hx p (fun y' H4 h4 p4 => ?_) (fun H3 h3 p3 => ?_)
    · obtain ⟨t1, t2⟩ := tk [y'] h4 (Nat.le_refl _)
      exact ⟨xs.length - (i + 1), by omega, rfl, hlt, t1, t2, p4⟩
    · obtain ⟨t1, t2⟩ := tk [] h3 (Nat.zero_le _)
      exact ⟨xs.length - (i + 1), by omega, rfl, hlt, by rw [← t1, List.append_nil], t2, p3⟩
  · have e : i = xs.length := by omega
    subst e
    exact .inl ⟨g2 (Nat.le_refl _), fun l hn => hd H1 l p hn⟩
theorem tcomp_listG {K : PySem.W.Frag} {a : Addr} {xs : List V} {tl : TE} {src : List (Option Nat)} {g : TG} {tc : TT} {te : TE} {σ : St} {H : Hp} {Q : VK} (H0 : Hp) (hte : ∀ R : VK, R (.ref a) H0 → tl σ H R) (hq : SqL K H0 a xs) (F : Nat → List V) (Pv : Hp → Prop) (h0 : Pv H0) (hl : ∀ H, Pv H → SqL K H a xs) (hz : xs.length ≤ sizeLine)
    (hs : ∀ (i : Nat) (x : V) (H' : Hp) (Cy : VK) (Cn : Hp → Prop), xs[i]? = some x → Pv H' → (∀ y H4, F i = [y] → Pv H4 → Cy y H4) → (∀ H3, F i = [] → Pv H3 → Cn H3) →
      g x (stComp src σ) H' fun σ2 H2 => KeepSt (stComp src σ) σ2 ∧ tc σ2 H2 fun b H3 => if b = true then te σ2 H3 Cy else Cn H3)
    (hd : ∀ H' l, Pv H' → H' l = none → Q (.ref l) (upd H' l (.lst ((List.range xs.length).flatMap F)))) : tComp src (iList K tl) g tc te σ H Q :=
  hte _ ⟨a, rfl, ⟨xs, hq⟩, comp_walkG F Pv h0 (wk_list hl) hz hs hd⟩
theorem tupT {K : PySem.W.Frag} {H : Hp} {p : Addr} {x y : V} {σ : St} {Q : St → Hp → Prop} {i j : Nat} (h : H p = some (.tup [x, y])) (q : Q ((σ.set i (some x)).set j (some y)) H) : gTup K 2 (gCons (gName i) (gCons (gName j) gNil)) (.ref p) σ H Q :=
  ⟨p, [x, y], rfl, SqT.of h, rfl, x, [y], rfl, y, [], rfl, rfl, q⟩
end L2
namespace L2
open PySem
end L2
namespace L2
open PySem
end L2
namespace L2
open PySem
theorem eqLL_same {K : PySem.W.Frag} {H : Hp} {Q : VK} {r s : Addr} {xs : List V} (h1 : H r = some (.lst xs)) (h2 : H s = some (.lst xs)) (f : xs.all flatV = true) (z : Q (.bl true) H) : rEqA K (.ref r) (.ref s) H Q :=
  eqLL (SqL.of h1) (SqL.of h2) f f (by rw [eqL_self xs f]; exact z)
end L2

namespace L2
open PySem PySem.Spec PyProof.Rows
section
variable {X : Cx} {tg : Expr}
end
noncomputable def Ite (K : PySem.W.Frag) (a : Addr) : It := ⟨fun i H => ∃ xs, SqL K H a xs ∧ i < xs.length, fun i H x H' => ∃ p v, (∀ xs, SqL K H a xs → xs[i]? = some v) ∧ H p = none ∧ x = .ref p ∧ H' = upd H p (.tup [.int i, v]), fun i H => ∃ xs, SqL K H a xs ∧ xs.length ≤ i⟩
theorem Inv.turnedL {X : Cx} {pins : List (Addr × Obj)} {σ : St} {H : Hp} {s : Shared} {h' : Heap} {t' : Nat} {fp : List Addr} (I : Inv X pins σ H s) (k : ∀ b o, b ∉ fp → s.heap.get? b = some o → h'.get? b = some o) (hf : ∀ b ∈ fp, FpOk X pins H b) : Inv X pins σ H { s with heap := h', toks := t' } := by
  have nit : ∀ b u, H b = some u → b ∉ fp := fun b u e z => by rw [(hf b z).1] at e; cases e
  refine I.step (g' := s.gens) (d' := s.drawn) (ch := fp) (fun b hb => ⟨(hf b hb).2.2.2.1, (hf b hb).2.1, (hf b hb).2.2.2.2.1, (hf b hb).2.2.2.2.2⟩) (fun b o _ _ hc e _ => k b o hc e) (fun b o _ _ hc e _ => ⟨o.slots, k b o hc e⟩) (fun _ _ _ _ n => n)
    (fun b o hc e => ⟨o, k b o hc e⟩) (fun _ _ e => e) (fun _ _ _ e => e) (fun b ps e => ⟨#[], by rw [e]; simp⟩) (fun m hm => ?_) (fun b u e => ?_) I.bare
  · obtain ⟨o, es, ep, ho, r⟩ := hm
    exact ⟨o, es, ep, k _ o (fun z => (hf _ z).2.1 rfl) ho, r⟩
  · refine (I.hok b u e).stay (fun c v hc q => k c v ?_ q) (fun _ q => q) fun _ _ q => q
    rcases hc with z | z
    · rw [z]; exact nit b u e
    · exact nit c _ z
theorem turn_enum {P : Program} {w : World} {K : PySem.W.Frag} {elts : List Expr} {x1} {pos : Pos} (a e it : Addr) (hne : e ≠ it) :
    Turn P w K (.Tuple elts x1 pos) (Ite K a) [e, it] e (fun i h => (∃ old, IsEnum h e it (i : Nat) old) ∧ h.IsListIter it a i) where
  mem := by simp
  obj := fun i h st b hb => by
    obtain ⟨⟨old, he⟩, o, ho, c, d⟩ := st
    have hb' : b = e ∨ b = it := by simpa using hb
    rcases hb' with z | z
    · subst z
      exact ⟨_, he, fun v z => by
        have z' : Data.fields _ = Data.cell v := z
        cases z'⟩
    · subst z
      exact ⟨o, ho, fun v z => by rw [d] at z; cases z⟩
  keep := fun i h h' st k => by
    obtain ⟨⟨old, he⟩, o, ho, r⟩ := st
    exact ⟨⟨old, k e (by simp) _ he⟩, o, k it (by simp) _ ho, r⟩
  item := by
    intro X hP hw hK hc i pins s σ H E I hf st hg
    subst hP hw hK
    obtain ⟨xs, hq, hi⟩ := hg
    obtain ⟨⟨old, he⟩, hit⟩ := st
    obtain ⟨its, rv, p, hz⟩ := I.list hq
    have hl := rv.length
    obtain ⟨x, hx⟩ : ∃ x, xs[i]? = some x := ⟨xs[i], List.getElem?_eq_getElem hi⟩
    obtain ⟨u, hu, ru⟩ := rv.get hx
    have hS := I.fresh
    have ht := Heap.lt_size he
    obtain ⟨oi, hoi, _⟩ := id hit
    have hti := Heap.lt_size hoi
    refine wpAny_pyNext_enum_item he hit p.isList (x := u) (by simpa using hu) hne fun h1 heo hit1 ht1 hz1 hk1 => ?_
    refine ⟨_, rfl, wpAny_letOwnedTupleGo_enum heo fun h2 he2 hs2 => ?_⟩
    replace hs2 : Heap.SameBut e h1 h2 := hs2
    have et : h2.get? s.heap.objs.size = some { cls := .type "tuple", data := .seq #[.int i s.toks, u] } := (hs2.2 _ (Nat.ne_of_gt ht)).trans ht1
    have I1 : Inv X pins σ (upd H s.heap.objs.size (.tup [.int i, x])) { s with heap := s.heap.push { cls := .type "tuple", data := .seq #[.int i s.toks, u] }, toks := s.toks + 1 } :=
      I.laid (fun b o z => Heap.get?_push_of_some _ z) (Nat.le_refl _) ⟨by simp only [List.length_cons, List.length_nil]; rw [sizeLine_eq]; decide, [.int i s.toks, u], .cons ⟨_, rfl⟩ (.cons ru .nil), ⟨_, Heap.get?_push_size s.heap rfl, rfl, 0, rfl⟩⟩
    have hf' : ∀ b ∈ [e, it], FpOk X pins (upd H s.heap.objs.size (.tup [.int i, x])) b := fun b hb => by
      obtain ⟨f0, fr⟩ := hf b hb
      refine ⟨?_, fr⟩
      have hb' : b = e ∨ b = it := by simpa using hb
      have hne' : b ≠ s.heap.objs.size := by
        rcases hb' with z | z
        · rw [z]; exact Nat.ne_of_lt ht
        · rw [z]; exact Nat.ne_of_lt hti
      rw [upd_ne hne']
      exact f0
    have I2 : Inv X pins σ (upd H s.heap.objs.size (.tup [.int i, x])) { s with heap := h2, toks := s.toks + 1 } := Inv.turnedL (s := { s with heap := s.heap.push { cls := .type "tuple", data := .seq #[.int i s.toks, u] }, toks := s.toks + 1 }) (fp := [e, it]) (h' := h2) (t' := s.toks + 1) I1 (fun b o hb z => by
      have hb1 : b ≠ e := fun q => hb (by simp [q])
      have hb2 : b ≠ it := fun q => hb (by simp [q])
      rcases Heap.get?_push_cases z with ⟨q, q'⟩ | z'
      · rw [q, q']; exact et
      · exact (hs2.2 b hb1).trans (hk1 b o hb1 hb2 z')) hf'
    refine ⟨.ref s.heap.objs.size, _, I2, rfl, ⟨s.heap.objs.size, x, fun ys hy => by rw [I.list_inj hy hq]; exact hx, hS, rfl, rfl⟩, ⟨⟨u, by exact he2⟩, ?_⟩, fun b hb => (hf' b hb).1⟩
    obtain ⟨o, ho, r⟩ := hit1
    exact ⟨o, (hs2.2 it (Ne.symm hne)).trans ho, r⟩
  done := by
    intro X hP hw hK hc i pins s σ H E I hf st hg
    subst hP hw hK
    obtain ⟨xs, hq, hi⟩ := hg
    obtain ⟨⟨old, he⟩, hit⟩ := st
    obtain ⟨its, rv, p, hz⟩ := I.list hq
    have hl := rv.length
    exact wpAny_pyNext_enum_end (I.ok.hd hc) he hit p.isList (by simp; omega) fun h' eb => ⟨rfl, I.turnedL (t' := s.toks) (fp := [e, it]) (fun b o hb z => eb b o (fun q => hb (by simp [q])) z) hf⟩
  self := fun _ _ _ _ _ st h => by
    obtain ⟨⟨old, he⟩, _⟩ := st
    exact wpAny_pyIter_enum he h
theorem boot_enumerate : bootBuiltins "enumerate" = some (.type "enumerate") := by decide +kernel
noncomputable def iEnum (K : PySem.W.Frag) (ta : TA) : TI := fun σ H R => ta σ H fun vs H1 => ∃ a, vs = [.ref a] ∧ (∃ xs, SqL K H1 a xs) ∧ R (Ite K a) H1
section
variable {X : Cx} {elts : List Expr} {x1 : Nat} {tpos : Pos}
theorem pi_enum {a : Expr} {ta : TA} {p pos : Pos} (hg : Gl X "enumerate") (hm : X.mg "enumerate" = none) (ha : PA X [a] ta) (hs : starEach [a] X.env = [(false, eval a X.env)] := by rfl) : PI X (.Tuple elts x1 tpos) (.Call (.Name "enumerate" p) [a] [] pos) (iEnum X.K ta) := by
  intro pins s σ H R I h
  refine Call_ (ld_blt I hg hm boot_enumerate (PyProof.Rows.callWith_type1 (thn (ha pos pins s σ H _ I h) fun us s1 ⟨vs, H1, I1, r1, q1⟩ => ?_) hs rfl))
  obtain ⟨l, e, ⟨xs, hq⟩, q⟩ := q1
  subst e
  cases r1 with
  | cons r rr =>
    cases rr
    cases r
    obtain ⟨its, rv, p, hz⟩ := I1.list hq
    refine call_enumerate_list p.isList fun h' he hit hsz hk => ?_
    have I2 : Inv X pins σ H1 { s1 with heap := h', toks := s1.toks } := I1.kept hk
    refine wpAny_pyIter_enum he ⟨s1.heap.objs.size + 1, [s1.heap.objs.size + 1, s1.heap.objs.size], _, _, H1, rfl, I2, turn_enum l _ _ (Nat.succ_ne_self _), ⟨⟨_, he⟩, hit⟩, fun b hb => ?_, q⟩
    have hb' : s1.heap.objs.size ≤ b := by
      have : b = s1.heap.objs.size + 1 ∨ b = s1.heap.objs.size := by simpa using hb
      rcases this with z | z
      · rw [z]; exact Nat.le_succ _
      · rw [z]; exact Nat.le_refl _
    exact I1.fpOk hb' (I1.hok.fresh hb')
end
end L2

namespace L2
open PySem PySem.Spec PyProof.Rows Builtin Builtin.Str
variable {X : Cx}
end L2

namespace L2
open PySem PySem.Spec PyProof.Rows
section
variable {X : Cx} {pins : List (Addr × Obj)} {σ : St} {H : Hp} {s : Shared}
end
end L2

namespace L2
open PySem
theorem comp_walkP {J : It} {xs : List V} {src : List (Option Nat)} {g : TG} {tc : TT} {te : TE} {σ : St} {H : Hp} {Q : VK} (Pv : Nat → List V → Hp → Prop) (h0 : Pv 0 [] H) (hw : Wk J xs fun H => ∃ i ys, Pv i ys H) (hz : xs.length ≤ sizeLine)
    (hs : ∀ (i : Nat) (x : V) (ys : List V) (H' : Hp) (Cy : VK) (Cn : Hp → Prop), xs[i]? = some x → Pv i ys H' → (∀ y H4, Pv (i + 1) (ys ++ [y]) H4 → Cy y H4) → (∀ H3, Pv (i + 1) ys H3 → Cn H3) →
      g x (stComp src σ) H' fun σ2 H2 => KeepSt (stComp src σ) σ2 ∧ tc σ2 H2 fun b H3 => if b = true then te σ2 H3 Cy else Cn H3)
    (hd : ∀ ys H' l, Pv xs.length ys H' → H' l = none → Q (.ref l) (upd H' l (.lst ys))) :
    ∃ W : Nat → Nat → List V → Hp → Prop, (∃ m, W 0 m [] H) ∧ ∀ i m ys H, W i m ys H →
      (J.stop i H ∧ ∀ l, H l = none → Q (.ref l) (upd H l (.lst ys))) ∨
      (J.go i H ∧ ys.length < sizeLine ∧ ∀ x H', J.yld i H x H' → g x (stComp src σ) H' fun σ2 H2 => KeepSt (stComp src σ) σ2 ∧ tc σ2 H2 fun b H3 => if b = true then te σ2 H3 fun y H4 => ∃ m', m' < m ∧ W (i + 1) m' (ys ++ [y]) H4 else ∃ m', m' < m ∧ W (i + 1) m' ys H3) := by
  refine ⟨fun i m ys H => m = xs.length - i ∧ i ≤ xs.length ∧ ys.length ≤ i ∧ Pv i ys H, ⟨xs.length, rfl, Nat.zero_le _, Nat.le_refl _, h0⟩, ?_⟩
  rintro i m ys H1 ⟨rfl, hi, hl, p⟩
  obtain ⟨g1, g2, g3⟩ := hw i H1 ⟨i, ys, p⟩
  by_cases hlt : i < xs.length
  · refine .inr ⟨g1 hlt, by omega, fun x H' y => ?_⟩
    obtain ⟨e, hx⟩ := g3 hlt x H' y
    subst e
    exact hs i x ys _ _ _ hx p (fun y' H4 p4 => ⟨xs.length - (i + 1), by omega, rfl, hlt, by rw [List.length_append]; simp; omega, p4⟩) fun H3 p3 => ⟨xs.length - (i + 1), by omega, rfl, hlt, by omega, p3⟩
  · have e : i = xs.length := by omega
    subst e
    exact .inl ⟨g2 (Nat.le_refl _), fun l hn => hd ys H1 l p hn⟩
section
variable {tc : TT} {te ta tb' td : TE} {src : List (Option Nat)} {σ : St} {H : Hp} {Q : VK} {k : Nat}
end
section
variable {tb : TS} {D : Ends} {σ : St} {H : Hp} {k : Nat}
theorem tfor_enum {K : PySem.W.Frag} {g : TG} {a : Addr} {xs : List V} {ta : TA} (hte : ∀ R : List V → Hp → Prop, R [.ref a] H → ta σ H R) (hq : SqL K H a xs) (Pv : Nat → St → Hp → Prop) (h0 : Pv 0 σ H) (hl : ∀ i σ H, Pv i σ H → SqL K H a xs)
    (hs : ∀ (i : Nat) (x : V) (p : Addr) (σ : St) (H : Hp), xs[i]? = some x → Pv i σ H → H p = none → g (.ref p) σ (upd H p (.tup [.int i, x])) fun σ2 H2 => tb { D with nx := Pv (i + 1), ct := Pv (i + 1), bk := D.nx } σ2 H2) (hd : ∀ σ H, Pv xs.length σ H → D.nx σ H) :
    tFor (iEnum K ta) g tb D σ H := by
  refine hte _ ⟨a, rfl, ⟨xs, hq⟩, fun i m σ H => m = xs.length - i ∧ i ≤ xs.length ∧ Pv i σ H, ⟨xs.length, rfl, Nat.zero_le _, h0⟩, ?_⟩
  rintro i m σ H ⟨rfl, hi, p⟩
  by_cases hlt : i < xs.length
  · refine .inr ⟨⟨xs, hl i σ H p, hlt⟩, Pv (i + 1), fun σ' H' p' => ⟨xs.length - (i + 1), by omega, rfl, hlt, p'⟩, fun x H' y => ?_⟩
    obtain ⟨q, v, hv, hn, rfl, rfl⟩ := y
    exact hs i v q σ H (hv xs (hl i σ H p)) p hn
  · have e : i = xs.length := by omega
    subst e
    exact .inl ⟨⟨xs, hl _ σ H p, Nat.le_refl _⟩, hd σ H p⟩
theorem tfor_tup {K : PySem.W.Frag} {g : TG} {te : TE} (P : Addr → List V → Hp → Prop) (hte : ∀ R : VK, (∀ a xs H0, P a xs H0 → R (.ref a) H0) → te σ H R) (hq : ∀ a xs H0, P a xs H0 → SqT K H0 a xs) (Pv : Addr → List V → Nat → St → Hp → Prop) (h0 : ∀ a xs H0, P a xs H0 → Pv a xs 0 σ H0) (hl : ∀ a xs i σ H, Pv a xs i σ H → SqT K H a xs)
    (hs : ∀ (a : Addr) (xs : List V) (i : Nat) (x : V) (σ : St) (H : Hp), xs[i]? = some x → Pv a xs i σ H → g x σ H fun σ2 H2 => tb { D with nx := Pv a xs (i + 1), ct := Pv a xs (i + 1), bk := D.nx } σ2 H2) (hd : ∀ a xs σ H, Pv a xs xs.length σ H → D.nx σ H) :
    tFor (iTup K te) g tb D σ H := by
  refine hte _ fun a xs H0 p => ⟨a, rfl, ⟨xs, hq a xs H0 p⟩, fun i m σ H => m = xs.length - i ∧ i ≤ xs.length ∧ Pv a xs i σ H, ⟨xs.length, rfl, Nat.zero_le _, h0 a xs H0 p⟩, ?_⟩
  rintro i m σ H ⟨rfl, hi, p⟩
  by_cases hlt : i < xs.length
  · refine .inr ⟨⟨xs, xs[i], hl a xs i σ H p, by simp [hlt]⟩, Pv a xs (i + 1), fun σ' H' p' => ⟨xs.length - (i + 1), by omega, rfl, hlt, p'⟩, fun x H' y => ?_⟩
    obtain ⟨e, hv⟩ := y
    subst e
    exact hs a xs i x σ _ (hv xs (hl a xs i σ _ p)) p
  · have e : i = xs.length := by omega
    subst e
    exact .inl ⟨⟨xs, hl a xs _ σ H p, Nat.le_refl _⟩, hd a xs σ H p⟩
end
end L2

namespace L2
open PySem PySem.Spec PyProof.Rows Builtin Builtin.Str
section
variable {X : Cx} {e a b o : Expr} {te ta tb to : TE} {lo hi : Option Expr} {tl th : TO} {pos p2 : Pos}
theorem nm_at {i : Nat} {x : Str} {v : V} {pos : Pos} {pins : List (Addr × Obj)} {s : Shared} {σ : St} {H : Hp} (I : Inv X pins σ H s) (hm : σ[i]? = some (some v)) (hN : X.N[i]? = some x) (hv : Vis X.env.scope x) (hd : (x == ("__debug__" : Str)) = false)
    (hcd : (x == ("__classdict__" : Str)) = false) : ∃ u, RelV v u ∧ ∀ (Q : Value → Shared → Prop) (E : Value → Shared → Prop), Q u s → wpAny (model X.prog X.w) X.A (eval (.Name x pos) X.env) Q E s := by
  obtain ⟨m, hn, hl⟩ := I.loc
  obtain ⟨u, r, l⟩ := hl i x v hN hm hv
  refine ⟨u, r, fun Q E fin => ?_⟩
  rcases l with ⟨hk, hm⟩ | ⟨hk, c, hc, hcell⟩
  · exact wpAny_Name (wpAny_loadName_local I.ok.kind hk hn hm fin) hd
  · rcases hk with hk | hk
    · exact wpAny_Name (wpAny_loadName_cell I.ok.kind hk hc hcell fin) hd
    · exact wpAny_Name (wpAny_loadName_free I.ok.kind hk hc hcell fin hcd) hd
end
end L2

namespace L2
open PySem PySem.Spec PyProof.Rows
mutual
def RdD (K : PySem.W.Frag) (H : Hp) : PyData → V → Prop
  | .none, x => x = .non
  | .bool b, x => x = .bl b
  | .int i, x => x = .int i
  | .str z, x => x = .str z
  | .list ds, x => ∃ a xs, x = .ref a ∧ SqL K H a xs ∧ RdDs K H ds xs
  | .tuple ds, x => ∃ a xs, x = .ref a ∧ SqT K H a xs ∧ RdDs K H ds xs
  | .dict _, _ => False
def RdDs (K : PySem.W.Frag) (H : Hp) : List PyData → List V → Prop
  | [], xs => xs = []
  | d :: ds, xs => ∃ y ys, xs = y :: ys ∧ RdD K H d y ∧ RdDs K H ds ys
end
section
variable {X : Cx} {pins : List (Addr × Obj)} {σ : St} {H : Hp} {s : Shared}
mutual
theorem RdD.reads (I : Inv X pins σ H s) : ∀ (d : PyData) (x : V) (u : Value), RdD X.K H d x → RelV x u → ∃ as, Reads s.heap u d as
  | .none, x, u, h, r => by
    rw [RdD] at h; subst h; cases r; exact ⟨_, .none⟩
  | .bool b, x, u, h, r => by
    rw [RdD] at h; subst h; cases r; exact ⟨_, .bool b⟩
  | .int i, x, u, h, r => by
    rw [RdD] at h; subst h; obtain ⟨t, rfl⟩ := r; exact ⟨_, .int i t⟩
  | .str z, x, u, h, r => by
    rw [RdD] at h; subst h; obtain ⟨t, rfl⟩ := r; exact ⟨_, .str z t⟩
  | .list ds, x, u, h, r => by
    rw [RdD] at h
    obtain ⟨a, xs, rfl, hq, hd⟩ := h
    cases r
    obtain ⟨its, rv, pl, hz⟩ := I.list hq
    obtain ⟨as, ra⟩ := RdDs.reads I ds xs its hd rv
    obtain ⟨o, h1, h2, n, h3⟩ := pl.isList
    exact ⟨_, .list h1 h2 h3 (by simpa using ra)⟩
  | .tuple ds, x, u, h, r => by
    rw [RdD] at h
    obtain ⟨a, xs, rfl, hq, hd⟩ := h
    cases r
    obtain ⟨its, rv, pl, hz⟩ := I.tuple hq
    obtain ⟨as, ra⟩ := RdDs.reads I ds xs its hd rv
    obtain ⟨o, h1, h2, n, h3⟩ := pl
    exact ⟨_, .tuple h1 h2 h3 (by simpa using ra)⟩
  | .dict _, x, u, h, r => by rw [RdD] at h; exact h.elim
theorem RdDs.reads (I : Inv X pins σ H s) : ∀ (ds : List PyData) (xs : List V) (us : List Value), RdDs X.K H ds xs → Vals xs us → ∃ as, ReadsAll s.heap us ds as
  | [], xs, us, h, r => by
    rw [RdDs] at h; subst h; cases r; exact ⟨_, .nil⟩
  | d :: ds, xs, us, h, r => by
    rw [RdDs] at h
    obtain ⟨y, ys, rfl, h1, h2⟩ := h
    cases r with
    | cons r1 r2 =>
      obtain ⟨as, a1⟩ := RdD.reads I d y _ h1 r1
      obtain ⟨bs, a2⟩ := RdDs.reads I ds ys _ h2 r2
      exact ⟨_, .cons a1 a2⟩
end
noncomputable def rEqD (K : PySem.W.Frag) (neg : Bool) : R2 := fun x y H Q => ∃ d e, RdD K H d x ∧ RdD K H e y ∧ d.canLay0 = true ∧ e.canLay0 = true ∧ d.depth ≤ 60 ∧ Q (.bl (if neg then !PyData.eqv d e else PyData.eqv d e)) H
theorem o_eqD {K : PySem.W.Frag} (hu : X.A.units + 64 < cLine) (hK : X.K = K := by rfl) : OpR X (compareOp .Eq) (rEqD K false) := by
  subst hK
  intro pins s σ H x y v u Q I rx ry h
  obtain ⟨d, e, h1, h2, l1, l2, hd, q⟩ := h
  obtain ⟨as, r1⟩ := RdD.reads I d x v h1 rx
  obtain ⟨bs, r2⟩ := RdD.reads I e y u h2 ry
  exact SeqAt.compareEq_reads r1 r2 l1 l2 (by omega) ⟨.bl _, H, I, rfl, q⟩
theorem o_neD {K : PySem.W.Frag} (hu : X.A.units + 64 < cLine) (hK : X.K = K := by rfl) : OpR X (compareOp .NotEq) (rEqD K true) := by
  subst hK
  intro pins s σ H x y v u Q I rx ry h
  obtain ⟨d, e, h1, h2, l1, l2, hd, q⟩ := h
  obtain ⟨as, r1⟩ := RdD.reads I d x v h1 rx
  obtain ⟨bs, r2⟩ := RdD.reads I e y u h2 ry
  exact SeqAt.compareNe_reads r1 r2 l1 l2 (by omega) ⟨.bl _, H, I, rfl, q⟩
theorem eqD_same {K : PySem.W.Frag} {x y : V} {Q : VK} (d : PyData) (h1 : RdD K H d x) (h2 : RdD K H d y) (l : d.canLay0 = true) (hd : d.depth ≤ 60) (q : Q (.bl true) H) : rEqD K false x y H Q :=
  ⟨d, d, h1, h2, l, l, hd, by rw [SeqAt.eqv_refl d l]; exact q⟩
theorem neD_same {K : PySem.W.Frag} {x y : V} {Q : VK} (d : PyData) (h1 : RdD K H d x) (h2 : RdD K H d y) (l : d.canLay0 = true) (hd : d.depth ≤ 60) (q : Q (.bl false) H) : rEqD K true x y H Q :=
  ⟨d, d, h1, h2, l, l, hd, by rw [SeqAt.eqv_refl d l]; exact q⟩
end
section
variable {X : Cx} {K : PySem.W.Frag} {e : Expr} {tx : XK → TE} {cn n : Str} {C : Addr} {i : Nat} {b₀ : Stmt} {suite : List Stmt} {rpos np hpos pos : Pos} {ts : Addr → TS}
end
end L2

namespace L2
open PySem PySem.Spec PyProof.Rows
structure MethAt (K : PySem.W.Frag) (C : Addr) (m qual : Str) (st : Stmt) (ps : List Str) where
  f : Addr
  fd : FuncData
  F : Fn K m qual st f fd
  b : Binds K fd ps []
  at_ : PySem.W.findIn K (.ref C) m = some (some (.ref f))
  fn : PySem.W.isFn K (.ref f) = true
section
variable {X : Cx} {K : PySem.W.Frag} {k : Nat} {ps : List Str} {sp : Sp} {x m qual : Str} {st : Stmt} {p pos apos : Pos} {e o value : Expr} {es : List Expr} {t : TA} {ta tv : TE} {E : XK} {C : Addr} {f : Str} {pos' : Pos}
theorem pe_fldK (he : PE X e ta) (hb : attributeBase e f X.env (eval e X.env) = eval e X.env := by rfl) (hK : X.K = K := by rfl) : PE X (.Attribute e f pos) (tFld K ta f) := by
  subst hK
  exact pe_fld he hb
theorem ps_fldK (ha : PE X o ta) (hv : PE X value tv) (hs : swapsWith value (some (.Attribute o f pos')) pos.line X.env = pure false := by rfl) (hK : X.K = K := by rfl) : PS X (.Assign [.Attribute o f pos'] value pos) (sFld K ta tv f) := by
  subst hK
  exact ps_fld ha hv hs
theorem pmk (hk : PySem.W.makesIn X.K C = true) (hp : PySem.W.keepIn X.K (.ref C) = true) (hm : X.mg x = some (.ref C)) (D : MethAt X.K C "__init__" qual st ps) (G : FnOk X.prog X.w X.K X.mg X.base CX0 k D.f D.fd ps sp) (hr : Room (k + 1) X.A) (ha : PA X (e :: es) t)
    (h : plE e = true := by rfl) (h2 : es.all plE = true := by rfl) (hg : Gl X x := by rfl) (hdb : (x == ("__debug__" : Str)) = false := by decide) : PE X (.Call (.Name x p) (e :: es) [] pos) (tMake C sp [] E0 t) :=
  pe_make ⟨hk, D.at_, D.fn, hp⟩ G hr hg hm D.b .nil pass0 ha hdb (star_cons h) (star_any h2)
theorem pmt0 {pl : Sem Bool} (he : PE X o ta) (c : Cls X.K C) (D : MethAt X.K C m qual st ps) (G : FnOk X.prog X.w X.K X.mg X.base CX0 k D.f D.fd ps sp) (hr : Room k X.A)
    (ht : eval (.Call (.Attribute o m apos) [] [] pos) X.env = (do
      let ov ← eval o X.env
      standAt apos.atName
      let (f, first) ← holding [ov] (getMethod ov m pl)
      callWith pos f first (backTo pos (starEach [] X.env)) (backToKw pos (keywordEach [] X.env))) := by rfl) :
    PE X (.Call (.Attribute o m apos) [] [] pos) (tMeth C m sp [] E0 ta tNil) := pe_meth0 he c ⟨D.at_, D.fn, D.F.kp⟩ G hr D.b .nil pass0 ht
end
end L2

namespace L2
open PySem PySem.Spec PyProof.Rows
theorem Same.seqT {K : PySem.W.Frag} {H H' : Hp} {a : Addr} {xs : List V} (e : Same H H') (h : SqT K H a xs) : SqT K H' a xs := by
  rcases h with (h | ⟨o, h⟩) | h
  · exact .inl (.inl (e _ _ h))
  · exact .inl (.inr ⟨o, e _ _ h⟩)
  · exact .inr h
mutual
theorem RdD.same {K : PySem.W.Frag} {H H' : Hp} (e : Same H H') : ∀ (d : PyData) (x : V), RdD K H d x → RdD K H' d x
  | .none, x, h => by rw [RdD] at h ⊢; exact h
  | .bool b, x, h => by rw [RdD] at h ⊢; exact h
  | .int i, x, h => by rw [RdD] at h ⊢; exact h
  | .str z, x, h => by rw [RdD] at h ⊢; exact h
  | .list ds, x, h => by
    rw [RdD] at h ⊢
    obtain ⟨a, xs, rfl, hq, hd⟩ := h
    exact ⟨a, xs, rfl, e.seq hq, RdDs.same e ds xs hd⟩
  | .tuple ds, x, h => by
    rw [RdD] at h ⊢
    obtain ⟨a, xs, rfl, hq, hd⟩ := h
    exact ⟨a, xs, rfl, e.seqT hq, RdDs.same e ds xs hd⟩
  | .dict _, x, h => by rw [RdD] at h; exact h.elim
theorem RdDs.same {K : PySem.W.Frag} {H H' : Hp} (e : Same H H') : ∀ (ds : List PyData) (xs : List V), RdDs K H ds xs → RdDs K H' ds xs
  | [], xs, h => by rw [RdDs] at h ⊢; exact h
  | d :: ds, xs, h => by
    rw [RdDs] at h ⊢
    obtain ⟨y, ys, rfl, h1, h2⟩ := h
    exact ⟨y, ys, rfl, RdD.same e d y h1, RdDs.same e ds ys h2⟩
end
section
variable {σ : St} {H : Hp} {D : Ends} {k : Nat} {tb : TS}
end
section
variable {tc : TT} {te : TE} {src : List (Option Nat)} {σ : St} {H : Hp} {Q : VK} {k : Nat}
theorem tcomp_rngP {tl : TE} (j : Int) (h1 : 0 ≤ j) (h2 : j ≤ 100000) (hte : ∀ R : VK, R (.int j) H → tl σ H R) (Pv : Nat → List V → Hp → Prop) (hsrc : src[k]? = some none) (h0 : Pv 0 [] H)
    (hs : ∀ (i : Nat) (ys : List V) (H' : Hp) (Cy : VK) (Cn : Hp → Prop), (i : Int) < j → Pv i ys H' → (∀ y H4, Pv (i + 1) (ys ++ [y]) H4 → Cy y H4) → (∀ H3, Pv (i + 1) ys H3 → Cn H3) →
      tc ((stComp src σ).set k (some (.int (i : Int)))) H' fun b H3 => if b = true then te ((stComp src σ).set k (some (.int (i : Int)))) H3 Cy else Cn H3)
    (hd : ∀ ys H' l, Pv j.toNat ys H' → H' l = none → Q (.ref l) (upd H' l (.lst ys))) : tComp src (iRng1 (tCons tl tNil)) (gName k) tc te σ H Q := by
  refine hte _ ⟨j, rfl, by omega, by omega, comp_walkP (xs := rngV 0 j.toNat) Pv h0 wk_range (by rw [rngV_length, sizeLine_eq]; omega) (fun i x ys H' Cy Cn hx p cy cn => ?_) (fun ys H' a p hn => hd ys H' a (by rw [rngV_length] at p; exact p) hn)⟩
  have hi : i < j.toNat := by
    have := (List.getElem?_eq_some_iff.mp hx).1
    rw [rngV_length] at this
    exact this
  rw [rngV_get hi] at hx
  have ex : x = V.int (i : Int) := by rw [← Option.some.inj hx, Int.zero_add]
  subst ex
  exact ⟨KeepSt.set hsrc, hs i ys H' Cy Cn (by omega) p cy cn⟩
theorem tcomp_listM {K : PySem.W.Frag} {xs : List V} {tl : TE} {g : TG} (P : Addr → Hp → Prop) (hte : ∀ R : VK, (∀ a H0, P a H0 → R (.ref a) H0) → tl σ H R) (Pv : Addr → Nat → List V → Hp → Prop) (h0 : ∀ a H0, P a H0 → Pv a 0 [] H0) (hq : ∀ a i ys H', Pv a i ys H' → SqL K H' a xs) (hz : xs.length ≤ sizeLine)
    (hs : ∀ (a : Addr) (i : Nat) (x : V) (ys : List V) (H' : Hp) (Cy : VK) (Cn : Hp → Prop), xs[i]? = some x → Pv a i ys H' → (∀ y H4, Pv a (i + 1) (ys ++ [y]) H4 → Cy y H4) → (∀ H3, Pv a (i + 1) ys H3 → Cn H3) →
      g x (stComp src σ) H' fun σ2 H2 => KeepSt (stComp src σ) σ2 ∧ tc σ2 H2 fun b H3 => if b = true then te σ2 H3 Cy else Cn H3)
    (hd : ∀ a ys H' l, Pv a xs.length ys H' → H' l = none → Q (.ref l) (upd H' l (.lst ys))) : tComp src (iList K tl) g tc te σ H Q :=
  hte _ fun a H0 p => ⟨a, rfl, ⟨xs, hq a 0 [] H0 (h0 a H0 p)⟩, comp_walkP (xs := xs) (Pv a) (h0 a H0 p) (wk_list fun H' ⟨i, ys, z⟩ => hq a i ys H' z) hz (fun i x ys H' Cy Cn hx p cy cn => hs a i x ys H' Cy Cn hx p cy cn) (hd a)⟩
end
theorem tSeq_gen {t u : TS} {D : Ends} {σ : St} {H : Hp} (h : ∀ B : TS, B = u → tSeq t B D σ H) : tSeq t u D σ H := h u rfl
end L2

namespace L2
open PySem PySem.Spec PyProof.Rows
theorem vals_of_strs : ∀ {vs : List Value} {ss : List Str}, StrsAre vs ss → Vals (ss.map V.str) vs
  | _, _, .nil => .nil
  | _, _, .cons x t r => .cons ⟨t, rfl⟩ (vals_of_strs r)
theorem rising_pw : ∀ (l : List Str) (p : Str), risingS p l = true → (p :: l).Pairwise (fun a b => a.cps.toList ≤ b.cps.toList)
  | [], p, _ => by simp
  | x :: r, p, h => by
    have h' : (!ltCps x.cps.toList p.cps.toList && risingS x r) = true := h
    rw [Bool.and_eq_true, Bool.not_eq_true', ltCps_eq, decide_eq_false_iff_not] at h'
    have ih := rising_pw r x h'.2
    refine List.pairwise_cons.mpr ⟨fun y hy => ?_, ih⟩
    have hx : p.cps.toList ≤ x.cps.toList := h'.1
    rcases List.mem_cons.mp hy with z | z
    · rw [z]; exact hx
    · exact List.le_trans hx ((List.pairwise_cons.mp ih).1 y z)
theorem sorted_pw {l : List Str} (h : sortedS l = true) : l.Pairwise (fun a b => a.cps.toList ≤ b.cps.toList) := by
  cases l with
  | nil => exact .nil
  | cons x r => exact rising_pw r x h
section
variable {X : Cx}
noncomputable def rSortS (K : PySem.W.Frag) : List V → Hp → VK → Prop := fun xs H Q => ∃ (p : Addr) (ss : List Str), xs = [.ref p] ∧ SqL K H p (ss.map V.str) ∧ ss.length < 64 ∧ ∀ l ss', H l = none → ss'.Perm ss → sortedS ss' = true → Q (.ref l) (upd H l (.lst (ss'.map V.str)))
theorem o_sorted {K : PySem.W.Frag} (hK : X.K = K := by rfl) : CallR X (.builtin "sorted") (rSortS K) := by
  subst hK
  intro pins s σ H xs us Q I r h
  obtain ⟨p, ss, rfl, hq, hn, q⟩ := h
  obtain ⟨u, rfl, rp⟩ := vals1 r
  cases rp
  obtain ⟨its, rv, pl, hz⟩ := I.list hq
  have hlen := rv.length
  rw [List.length_map] at hlen
  refine sorted_strs pl.isList (strsAre_of rv) (by omega) fun out ss' a1 a2 a3 => ?_
  obtain ⟨e, he⟩ := sortedAll_at s.heap its out
  have hf : H (s.heap.objs.size + 1) = none := I.hok.fresh (Nat.le_succ _)
  have hl' := a2.length_eq
  refine ⟨.ref (s.heap.objs.size + 1), upd H (s.heap.objs.size + 1) (.lst (ss'.map V.str)), I.laid (t' := s.toks) (fun b u e => sortedAll_old e) (Nat.le_succ _) ?_, rfl, q _ _ hf a2 a3⟩
  exact ⟨by rw [List.length_map, sizeLine_eq]; omega, out.toList, e, vals_of_strs a1, by simpa using he⟩
end
end L2

namespace PySem.SeqAt
open AutoSeq1 (wpAny_loadPart')
open MeetsSeq MeetsSeq2 MeetsSeq3 SeqRoads2
end PySem.SeqAt
namespace L2
open PySem PySem.Spec PyProof.Rows
noncomputable def tDead : TS := fun _ _ _ => False
section
variable {X : Cx}
theorem o_clear : MtR X "list.clear" rClear := mt_clear
theorem pm0 {K : PySem.W.Frag} {T id : String} {o : Expr} {to : TE} {name : Str} {apos cpos : Pos} {r : V → List V → Hp → VK → Prop} (pa : PlainAttrs T) (slot : Slot T name id) (hty : typeOf (.builtin id) = pure (.type "method_descriptor")) (hm : MtR X id r) (ho : PE X o to) (hK : X.K = K := by rfl)
    (hbase : attributeBase o name X.env (eval o X.env) = eval o X.env := by rfl) (hline : (apos.endLine == cpos.line) = true := by rfl) : PE X (.Call (.Attribute o name apos) [] [] cpos) (tBM0 K T r to) := by
  subst hK
  exact pe_bm0 pa slot hty hm ho hbase hline
noncomputable def KTup (K : PySem.W.Frag) (a : Addr) (xs : List V) : Prop := ∃ (o : Obj) (its : Array Value) (n : Nat), K.lookup a = some o ∧ o.cls = .type "tuple" ∧ o.dict = none ∧ o.data = .seq its n ∧ its.size ≤ sizeLine ∧ Vals xs its.toList
theorem KTup.sq {K : PySem.W.Frag} {a : Addr} {xs : List V} (h : KTup K a xs) {H : Hp} : SqT K H a xs := let ⟨o, its, n, h1, h2, _, h4⟩ := h; .inr ⟨o, its, n, h1, h2, h4⟩
end
section
variable {tb : TS} {D : Ends} {σ : St} {H : Hp}
theorem tfor_listG {K : PySem.W.Frag} {g : TG} {a : Addr} {xs : List V} {te : TE} (hte : ∀ R : VK, R (.ref a) H → te σ H R) (hq : SqL K H a xs) (Pv : Nat → St → Hp → Prop) (h0 : Pv 0 σ H) (hl : ∀ i σ H, Pv i σ H → SqL K H a xs)
    (hs : ∀ (i : Nat) (x : V) (σ : St) (H : Hp), xs[i]? = some x → Pv i σ H → g x σ H fun σ2 H2 => tb { D with nx := Pv (i + 1), ct := Pv (i + 1), bk := D.nx } σ2 H2) (hd : ∀ σ H, Pv xs.length σ H → D.nx σ H) :
    tFor (iList K te) g tb D σ H :=
  hte _ ⟨a, rfl, ⟨xs, hq⟩, for_walk (xs := xs) Pv h0 (wk_list fun H ⟨i, σ, p⟩ => hl i σ H p) (fun i x σ H hx p => hs i x σ H hx p) hd⟩
end
section
variable {tc : TT} {te : TE} {src : List (Option Nat)} {σ : St} {H : Hp} {Q : VK} {k : Nat}
end
end L2

namespace L2
open PySem PySem.Spec PyProof.Rows
section
variable {X : Cx}
end
section
variable {tb : TS} {D : Ends} {σ : St} {H : Hp} {k : Nat}
end
section
variable {X : Cx} {k : Nat} {ps : List Str} {sp : Sp} {x : Str} {st : Stmt} {p pos : Pos}
end
theorem tup3 {K : PySem.W.Frag} {H : Hp} {p : Addr} {x y z : V} {σ : St} {Q : St → Hp → Prop} {i j k : Nat} (h : H p = some (.tup [x, y, z])) (q : Q (((σ.set i (some x)).set j (some y)).set k (some z)) H) : gTup K 3 (gCons (gName i) (gCons (gName j) (gCons (gName k) gNil))) (.ref p) σ H Q :=
  ⟨p, [x, y, z], rfl, SqT.of h, rfl, x, _, rfl, y, _, rfl, z, [], rfl, rfl, q⟩
end L2

namespace PySem
open Sem (wp)
section
variable {prog : Program} {w : World} {A : Around} {R : Result → Shared → Prop} {I : Addr} {fp wr : List Addr} {n : Nat} {P : Nat → Value → Prop} {St : Nat → Heap → Prop}
end
section
variable {prog : Program} {w : World} {A : Around} {E : Value → Shared → Prop} {s : Shared}
end
end PySem
namespace L2
open PySem PySem.Spec PyProof.Rows
section
variable {X : Cx}
end
section
variable {X : Cx}
end
section
variable {X : Cx}
noncomputable def tRev (K : PySem.W.Frag) (te ts : TE) : TE := fun σ H Q => te σ H fun x H1 => ts σ H1 fun y H2 => ∃ a xs, x = .ref a ∧ y = .int (-1) ∧ SqL K H2 a xs ∧ ∀ p, H2 p = none → Q (.ref p) (upd H2 p (.lst xs.reverse))
theorem pe_rev {K : PySem.W.Frag} {e se : Expr} {te ts : TE} {p2 pos : Pos} (he : PE X e te) (hs : PE X se ts) (hsub : ∀ o i, subscripted (.Slice none none (some se) p2) false o i = operate [o, i] (getItem o i)) (hK : X.K = K := by rfl) : PE X (.Subscript e (.Slice none none (some se) p2) pos) (tRev K te ts) := by
  subst hK
  intro pins s σ H Q I h
  refine Subscript_ (thn (he pins s σ H _ I h) fun v s1 ⟨x, H1, I1, r1, q1⟩ => ?_)
  refine wpAny_Slice ?_
  rw [evalPart_none, evalPart_some]
  refine wpAny_pure (wpAny_pure (thn (hs pins s1 σ H1 _ I1 q1) fun u s3 ⟨y, H3, I3, r3, a, xs, e1, e2, hq, q⟩ => ?_))
  subst e1 e2
  cases r1
  obtain ⟨t, rfl⟩ := r3
  have I4 : Inv X pins σ H3 { s3 with heap := s3.heap.push { cls := .type "slice", data := .fields #[.none, .none, .int (-1) t] } } := I3.kept (t' := s3.toks) fun b ob q => Heap.get?_push_of_some _ q
  obtain ⟨its, r, ht, hz⟩ := I4.list hq
  have hlen := r.length
  refine tail_any (ops := [.ref a, .ref s3.heap.objs.size]) ht.isList.typeIs slot_list_getitem.lookup ?_ (hsub _ _)
  refine wpAny_getItem_list_slice ht.isList (Heap.IsSliceOf.new ..) .none .none (.int (-1) t) (by decide) ?_ (by rw [List.size_toArray] <;> omega)
  rw [PySem.W.krv_pick]
  refine ⟨.ref _, _, I4.laid (t' := s3.toks) (o := .lst xs.reverse) (fun b ob q => Heap.get?_push_of_some _ q) (Nat.le_refl _) ?_, rfl, q _ (I4.hok.fresh (Nat.le_refl _))⟩
  exact ⟨by rw [List.length_reverse]; exact hz, _, 0, r.reverse, Heap.get?_push_size _ rfl⟩
end
end L2

namespace L2
open PySem PySem.Spec PyProof.Rows
end L2

namespace L2
open PySem PySem.Spec PyProof.Rows
section
variable {prog : Program} {w : World} {A : Around} {E : Value → Shared → Prop} {s : Shared} {a : Addr} {b : Bool} {ms : List Int}
end
end L2

namespace L2
open PySem PySem.Spec PyProof.Rows
section
variable {prog : Program} {w : World} {A : Around} {R : Result → Shared → Prop} {I : Addr} {fp wr : List Addr} {G : Array GenState → Array GenState → Prop} {n : Nat} {P : Nat → Value → Prop} {St : Nat → Shared → Prop} {b : Bool}
end
section
variable {prog : Program} {w : World} {A : Around} {E : Value → Shared → Prop} {s : Shared}
end
namespace SF
end SF
section
variable {prog : Program} {w : World} {A : Around} {E : Value → Shared → Prop} {s : Shared} {I S T : Addr} {es : Array (Int × Value)} {ep : Nat} {t : SetTable} {i : Nat}
end
end L2

namespace L2
open PySem PySem.Spec PyProof.Rows
section
variable {prog : Program} {w : World} {A : Around} {E : Value → Shared → Prop} {s : Shared} {S : Addr} {es : Array (Int × Value)} {ep : Nat} {t : SetTable} {i : Nat}
end
end L2

namespace L2
open PySem PySem.Spec PyProof.Rows
section
variable {prog : Program} {w : World} {A : Around} {E : Value → Shared → Prop} {s : Shared}
end
end L2

namespace L2
open PySem PySem.Spec PyProof.Rows
section
variable {prog : Program} {w : World} {A : Around} {E : Value → Shared → Prop} {s : Shared}
end
end L2

namespace L2
open PySem PySem.Spec PyProof.Rows
section
variable {X : Cx}
end
end L2
namespace L2
open PySem PySem.Spec PyProof.Rows
section
variable {tc : TT} {te : TE} {src : List (Option Nat)} {σ : St} {H : Hp} {Q : VK} {k : Nat}
end
end L2

namespace L2
open PySem PySem.Spec PyProof.Rows
theorem strs_snoc {x : Str} {t : Tok} : ∀ {vs : List Value} {ss : List Str}, StrsAre vs ss → StrsAre (vs ++ [.str x t]) (ss ++ [x])
  | _, _, .nil => .cons x t .nil
  | _, _, .cons y u h => .cons y u (strs_snoc h)
theorem strs_len : ∀ {vs : List Value} {ss : List Str}, StrsAre vs ss → vs.length = ss.length
  | _, _, .nil => rfl
  | _, _, .cons _ _ h => by rw [List.length_cons, List.length_cons, strs_len h]
theorem keys_out {keys : Array Value} {vs : List Value} {ks : List Str} (hk : StrsAre keys.toList ks) {xs : Array Keyed} (hp : xs.Perm (keys.zip vs.toArray)) (hs : SortedToK strKind xs xs.size) :
    ∃ ps : List (Str × Value), ps.Perm (ks.zip vs) ∧ (xs.map (·.2)).toList = ps.map Prod.snd ∧ ps.Pairwise (fun p q => p.1.cps.toList ≤ q.1.cps.toList) := by
  have hl : xs.toList.Perm (keys.toList.zip vs) := by rw [← ksk_zip]; exact Array.perm_iff_toList_perm.mp hp
  have hall : ∀ p ∈ xs.toList, ∃ x t, p.1 = .str x t := fun p hp' => by
    have hm := hl.mem_iff.mp hp'
    obtain ⟨u, v⟩ := p
    exact hk.all _ (List.of_mem_zip hm).1
  refine ⟨xs.toList.map fun p => (strOf p.1, p.2), ?_, ?_, ?_⟩
  · have e2 : (keys.toList.zip vs).map (fun p : Keyed => (strOf p.1, p.2)) = ks.zip vs := by
      rw [← hk.strs, List.zip_map_left]
      exact List.map_congr_left fun ⟨x, y⟩ _ => rfl
    rw [← e2]
    exact hl.map _
  · rw [Array.toList_map, List.map_map]
    rfl
  · rw [List.pairwise_iff_getElem]
    intro i j hi hj hij
    have hi' : i < xs.size := by simpa using hi
    have hj' : j < xs.size := by simpa using hj
    have h1 := hs i j (Nat.le_of_lt hij) hj'
    obtain ⟨x, t, ex⟩ := hall xs[i] (by simp)
    obtain ⟨y, u, ey⟩ := hall xs[j] (by simp)
    rw [KK_str hi' (x := x) (t := t) (q := xs[i].2) (Prod.ext ex rfl), KK_str hj' (x := y) (t := u) (q := xs[j].2) (Prod.ext ey rfl)] at h1
    change decide (y.cps.toList < x.cps.toList) = false at h1
    simp only [List.getElem_map, Array.getElem_toList]
    rw [show strOf xs[i].1 = x by rw [ex]; rfl, show strOf xs[j].1 = y by rw [ey]; rfl]
    exact List.not_lt.mp (decide_eq_false_iff_not.mp h1)
theorem keys_kind {keys : Array Value} {ks : List Str} (hk : StrsAre keys.toList ks) (h2 : 2 ≤ keys.size) : keyKind' keys = pure oneType' := by
  obtain ⟨v₁, v₂, rest, e⟩ : ∃ v₁ v₂ rest, keys.toList = v₁ :: v₂ :: rest := by
    have hl : 2 ≤ keys.toList.length := by rw [Array.length_toList]; exact h2
    match q : keys.toList, hl with
    | v₁ :: v₂ :: rest, _ => exact ⟨v₁, v₂, rest, rfl⟩
  have ek : keys = (v₁ :: v₂ :: rest).toArray := by rw [← e, Array.toArray_toList]
  rw [e] at hk
  rw [ek]
  exact keyKind_strs hk
theorem keys_of {keys : Array Value} {vs : List Value} {ks : List Str} (hk : StrsAre keys.toList ks) : KeysOf strKind (keys.zip vs.toArray) := by
  intro p hp
  rw [ksk_zip] at hp
  obtain ⟨x, y⟩ := p
  obtain ⟨z, t, e⟩ := hk.all _ (List.of_mem_zip hp).1
  exact ⟨z.cps.toList, by show strKind.keyOf x = _; rw [show x = Value.str z t from e]⟩
section
variable {prog : Program} {w : World} {A : Around} {E : Value → Shared → Prop}
theorem sort_tree {J : Shared → Prop} {n0 : Nat} (hsz : ∀ s, J s → n0 ≤ s.heap.objs.size) (hpush : ∀ (s : Shared) (o : Obj), J s → J { s with heap := s.heap.push o })
    (hupd : ∀ (s : Shared) (a : Addr) (g : Obj → Obj), n0 ≤ a → J s → J { s with heap := s.heap.update a g }) {f : Value} {vs : List Value} {ks : List Str} (hlen : ks.length = vs.length) (h64 : vs.length < 64)
    (turn : ∀ (i : Nat) (v : Value) (k : Str) (s : Shared), vs[i]? = some v → ks[i]? = some k → J s → wpAny (model prog w) A (call f [v]) (fun u s' => (∃ t, u = .str k t) ∧ J s' ∧ ∀ b o, n0 ≤ b → s.heap.get? b = some o → s'.heap.get? b = some o) (fun _ _ => False) s)
    {a : Addr} {n : Nat} {s : Shared} (ha : n0 ≤ a) (ho : s.heap.get? a = some (seqObj "list" vs.toArray n)) (hJ : J s) {P : PySem.Fin → Shared → Prop}
    (h : ∀ (s' : Shared) (out : Array Value) (c : Nat) (ps : List (Str × Value)), J s' → s'.heap.get? a = some (seqObj "list" out c) → ps.Perm (ks.zip vs) → out.toList = ps.map Prod.snd → ps.Pairwise (fun p q => p.1.cps.toList ≤ q.1.cps.toList) → P (.done (.ret .none)) s') :
    wpAny (model prog w) A (ksk_tree a f false) P E s := by
  have hlt := Heap.lt_size ho
  unfold ksk_tree
  refine wpAny_bind (listItems_at ho rfl ?_)
  refine wpAny_bind (listUpdate_at ho rfl ?_ (by rw [List.size_toArray, sizeLine_eq]; omega) (Nat.zero_le _))
  obtain ⟨e1, ho1⟩ : ∃ e1, (s.heap.update a (Obj.mapSeq fun _ => (#[] : Array Value))).get? a = some (seqObj "list" #[] e1) := ⟨_, get?_update_seq ho fun _ => #[]⟩
  have hJ1 := hupd s a (Obj.mapSeq fun _ => (#[] : Array Value)) ha hJ
  refine wpAny_bind (seqEpoch_at ho1 rfl ?_)
  refine wpAny_bind (wpAny_newTuple ?_ (by show vs.length ≤ _; rw [sizeLine_eq]; omega))
  refine wpAny_bind (wpAny_newList ?_ (Nat.zero_le _))
  refine wpAny_holding ?_
  generalize s.heap.update a (Obj.mapSeq fun _ => (#[] : Array Value)) = g1 at ho1 hJ1 ⊢
  have hJ2 := hpush _ (seqObj "list" #[] 0) (hpush _ (seqObj "tuple" vs.toArray 0) hJ1)
  have hk0 : ((g1.push (seqObj "tuple" vs.toArray 0)).push (seqObj "list" #[] 0)).get? (g1.push (seqObj "tuple" vs.toArray 0)).objs.size = some (seqObj "list" #[] 0) := Heap.get?_push_size _ rfl
  have ho2 : ((g1.push (seqObj "tuple" vs.toArray 0)).push (seqObj "list" #[] 0)).get? a = some (seqObj "list" #[] e1) := Heap.get?_push_of_some _ (Heap.get?_push_of_some _ ho1)
  have hkn : n0 ≤ (g1.push (seqObj "tuple" vs.toArray 0)).objs.size := hsz _ (hpush _ (seqObj "tuple" vs.toArray 0) hJ1)
  have hka : (g1.push (seqObj "tuple" vs.toArray 0)).objs.size ≠ a := Nat.ne_of_gt (by have := Heap.lt_size ho1; rw [size_push']; exact Nat.lt_succ_of_lt this)
  show wpAny (model prog w) A (ksk_rest a f false vs.toArray e1 (.ref (g1.push (seqObj "tuple" vs.toArray 0)).objs.size)) P E { s with heap := (g1.push (seqObj "tuple" vs.toArray 0)).push (seqObj "list" #[] 0) }
  generalize (g1.push (seqObj "tuple" vs.toArray 0)).objs.size = kS at hk0 hkn hka ⊢
  unfold ksk_rest
  refine wpAny_bind (wpAny_rule ?_)
  first
    | rw [List.forIn_toArray]
    | (rw [← Array.forIn_toList]; simp only [List.toList_toArray])
    | rw [← Array.forIn_toList]
  refine wpAny_bind (ksk_fold (fun i s' => ∃ kA e, J s' ∧ s'.heap.get? kS = some (seqObj "list" kA e) ∧ s'.heap.get? a = some (seqObj "list" #[] e1) ∧ StrsAre kA.toList (ks.take i)) vs 0 _
    ⟨#[], 0, hJ2, hk0, ho2, .nil⟩ ?step ?done)
  case step =>
    rintro j x s' hx ⟨kA, e, hJ', hk', ha', hs⟩
    simp only [Nat.zero_add] at hs ⊢
    have hj : j < vs.length := (List.getElem?_eq_some_iff.mp hx).1
    obtain ⟨k, hkj⟩ : ∃ k, ks[j]? = some k := ⟨_, List.getElem?_eq_getElem (by omega)⟩
    have hz : kA.size ≤ vs.length := by
      have h1 := strs_len hs
      rw [Array.length_toList, List.length_take] at h1
      omega
    refine wpAny_bind (wpAny_attempt (wpAny_mono (turn j x k s' hx hkj hJ') (fun v s'' he => ?_) fun _ _ hF => hF.elim))
    obtain ⟨⟨t, rfl⟩, hJ'', hkp⟩ := he
    dsimp only
    have hk2 := hkp kS _ hkn hk'
    have ha2 := hkp a _ ha ha'
    refine wpAny_bind (listUpdate_at hk2 rfl ?_ (by rw [sizeLine_eq]; omega) (Nat.le_trans (Nat.le_of_eq (Array.size_push ..)) (by rw [sizeLine_eq]; omega)))
    refine wpAny_pure ⟨rfl, kA.push (.str k t), _, hupd s'' kS _ hkn hJ'', get?_update_seq hk2 (·.push (.str k t)), (Heap.get?_update_other _ _ hka).trans ha2, ?_⟩
    rw [List.take_add_one, hkj, Array.toList_push]
    exact strs_snoc hs
  case done =>
    rintro s' ⟨kA, e, hJ', hk', ha', hs⟩
    rw [List.take_of_length_le (by omega)] at hs
    have hkl := strs_len hs
    rw [Array.length_toList] at hkl
    have hzs : (kA.zip vs.toArray).size = vs.length := by rw [Array.size_zip, hkl, List.size_toArray, hlen, Nat.min_self]
    refine wpAny_bind (listItems_at hk' rfl ?_)
    have tail : ∀ (st : SortSt), (arrOf st).Perm (kA.zip vs.toArray) → SortedToK strKind (arrOf st) (arrOf st).size → failedOf st = none → wpAny (model prog w) A (ksk_tail a false e1 (.ref kS) st) P E s' := by
      intro st hp hst hfl
      obtain ⟨ps, q1, q2, q3⟩ := keys_out hs hp hst
      have hasz : (arrOf st).size = vs.length := hp.size_eq.trans hzs
      unfold ksk_tail
      dsimp only
      refine wpAny_bind (listUpdate_at hk' rfl ?_ (by rw [hkl, hlen, sizeLine_eq]; omega) (Nat.zero_le _))
      refine wpAny_bind (wpAny_letGo ?_)
      have ha3 : (s'.heap.update kS (Obj.mapSeq fun _ => (#[] : Array Value))).get? a = some (seqObj "list" #[] e1) := (Heap.get?_update_other _ _ hka).trans ha'
      refine wpAny_bind (seqEpoch_at ha3 rfl ?_)
      refine wpAny_bind (listUpdate_at ha3 rfl ?_ (Nat.zero_le _) (by show (if false = true then _ else (arrOf st).map (·.2)).size ≤ _; rw [if_neg (by decide), Array.size_map, hasz, sizeLine_eq]; omega))
      rw [hfl]
      simp only [bne_self_eq_false, Bool.false_eq_true, if_false]
      exact wpAny_pure (h _ _ _ ps (hupd _ a _ ha (hupd s' kS _ hkn hJ')) (get?_update_seq ha3 fun _ => (arrOf st).map (·.2)) q1 q2 q3)
    unfold ksk_end
    simp only [Bool.false_eq_true, if_false]
    by_cases h2 : vs.toArray.size < 2
    · rw [if_pos h2, if_pos h2]
      refine wpAny_bind (wpAny_pure ?_)
      rw [StateT.run_pure]
      refine wpAny_bind (wpAny_pure ?_)
      refine tail (SortSt.mk' general' (kA.zip vs.toArray) #[] 7 none) (Array.Perm.refl _) ?_ rfl
      intro i j hij hj
      have hj2 : j < (kA.zip vs.toArray).size := hj
      rw [hzs] at hj2
      rw [List.size_toArray] at h2
      have : i = j := by omega
      subst this
      exact KeyOrd.kle_refl _
    · rw [if_neg h2, if_neg h2]
      rw [List.size_toArray] at h2
      rw [keys_kind hs (by omega)]
      refine wpAny_bind (wpAny_pure ?_)
      refine wpAny_bind (wpAny_mono (wpS_sortRunsK (κ := strKind) strKind_oneLt (a₀ := kA.zip vs.toArray) (st := SortSt.mk' oneType' (kA.zip vs.toArray) #[] 7 none)
        (Q := fun _ st' => (arrOf st').Perm (kA.zip vs.toArray) ∧ failedOf st' = none ∧ SortedToK strKind (arrOf st') (kA.zip vs.toArray).size)
        (keys_of hs) ⟨Array.Perm.refl _, rfl, rfl, rfl⟩ (by rw [hzs]; omega) (by rw [hzs]; exact h64) fun st' a1 a2 a3 => ⟨a1, a2, a3⟩) ?_ fun _ _ e => e)
      rintro ⟨⟨⟩, st'⟩ s'' ⟨rfl, hp, hf, hs'⟩
      exact tail st' hp (by rw [hp.size_eq]; exact hs') hf
end
end L2

namespace L2
open PySem PySem.Spec PyProof.Rows
section
variable {P : Program} {w : World} {K : PySem.W.Frag} {mg : Str → Option Value} {base : Heap}
noncomputable abbrev lamO (qual : Str) (params : Arguments) (body : Expr) (scope : Scope) (pm : Value) (c : Addr) (ct : Value) : Obj := PySem.W.kla_obj (Str.ofString "<lambda>") qual params body scope [] pm c ct
theorem lam_call {k : Nat} {f c : Addr} {qual : Str} {params : Arguments} {body : Expr} {scope : Scope} {pm ct : Value} {N ps : List Str} {A : Around} {outer : List Env} {s : Shared} {H : Hp} {us : List Value} {vs : List V} {t : TE} {Q : VK}
    (ho : s.heap.get? f = some (lamO qual params body scope pm c ct)) (hcd : s.heap.CodeRec (.ref c) qual) (S : FnScope N ps scope) (hbind : ∀ us : List Value, us.length = ps.length → bindArgs (PySem.W.kla_fn (Str.ofString "<lambda>") qual params body scope [] pm (.ref c) ct) ⟨us, []⟩ = pure (ps.zip us))
    (hl : vs.length = ps.length) (r : Vals vs us) (hr : Room (k + 1) A) (e0 : Env0 P w K mg base A outer s H)
    (he : PE (cxOf CX0 P w K mg base N qual scope f (.ref c) A outer s H E0) body t) (h : t (start N vs) H Q) :
    wpAny (model P w) A (call (.ref f) us) (fun u s' => CE outer P w H s Q u s') (fun _ _ => False) s := by
  have lim : s.heap.NoLimit := e0.mod.nolimit.keeps fun b o e => (e0.bs b o e).1
  have hkind : ∀ y ∈ ps.zip us, scope.names.lookup y.1 = some .local ∨ (scope.names.lookup y.1 = some .cell ∧ ((cellsFrom (s.heap.objs.size + 1) scope.names []).lookup y.1).isSome = true) := fun ⟨n, v⟩ hy => by
    rcases S.par n (List.of_mem_zip hy).1 with q | q
    · exact .inl q
    · exact .inr ⟨q, PySem.W.cellsFrom_some _ _ _ (.inl q)⟩
  refine wpAny_call (PySem.W.kla_callFunE hr.depth ho rfl S.co S.gen rfl hcd ?_)
  rw [hbind us (by rw [← r.length]; exact hl)]
  refine wpAny_pure (wpAny_newFunctionEnv_cells S.kind hkind fun env hE s1 x => ?_)
  subst hE
  refine ⟨lim.keeps x.toInCall.keep, PySem.W.kla_codeExpr ?_⟩
  have I : Inv (cxOf CX0 P w K mg base N qual scope f (.ref c) A outer s H E0) [] (start N vs) H s1 := inv_start S hr.hd e0 hl r x
  exact wpAny_mono (he [] s1 (start N vs) H Q I h) (fun u s' ⟨v, H', J, rv, q⟩ => ⟨v, H', J.os, J.bare, J.base, J.hok, rv, q⟩) fun e s' hx => hx
end
noncomputable abbrev codeX (c : Addr) (qual : Str) : HO := .ext fun h => h.CodeRec (.ref c) qual
noncomputable def TabAt (Pt : Addr) (pos : Pos) (qual : Str) (H : Hp) : Prop := H Pt = some (.tbl #[]) ∨ ∃ c, H Pt = some (.tbl #[rawInt pos.line, rawInt pos.col, .ref c]) ∧ H c = some (codeX c qual)
theorem codeRec_at {h1 h2 : Heap} {c : Addr} {qual : Str} (x : h1.CodeRec (.ref c) qual) (k : ∀ o, h1.get? c = some o → h2.get? c = some o) : h2.CodeRec (.ref c) qual := by
  obtain ⟨c₂, oc, vs, t, e2, hoc, hd, hv⟩ := x
  cases e2
  exact ⟨c, oc, vs, t, rfl, k _ hoc, hd, hv⟩
theorem codeX_ok {P : Program} {w : World} {H : Hp} {h : Heap} {c : Addr} {qual : Str} (x : h.CodeRec (.ref c) qual) : ObjOk P w H h c (codeX c qual) := by
  obtain ⟨c₂, oc, vs, t, e2, hoc, hd, hv⟩ := id x
  cases e2
  exact ⟨x, ⟨oc, hoc⟩, fun h1 h2 p k => codeRec_at p k⟩
section
variable {X : Cx} {pins : List (Addr × Obj)} {σ : St} {H : Hp} {s : Shared}
noncomputable def Stay (Pt : Addr) (H H' : Hp) : Prop := ∀ b o, b ≠ Pt → H b = some o → H' b = some o
theorem Stay.trans {Pt : Addr} {H H1 H2 : Hp} (a : Stay Pt H H1) (b : Stay Pt H1 H2) : Stay Pt H H2 := fun c o n e => b c o n (a c o n e)
theorem Stay.of {Pt : Addr} {H H' : Hp} (a : Same H H') : Stay Pt H H' := fun c o _ e => a c o e
theorem lam_make {Pt c : Addr} {qual : Str} {params : Arguments} {body : Expr} {scope : Scope} {pos : Pos} {bm : Addr} {ob : Obj} (I : Inv X pins σ H s) (hT : TabAt Pt pos qual H) (hq : X.env.qual ++ Str.ofString "<lambda>" = qual) (hcode : X.env.code = .ref c) (hC : PySem.W.codeHdIn X.K c Pt = true)
    (hm : X.mg (Str.ofString "__builtins__") = some (.ref bm)) (hn : bm ≠ builtinsNs) (hb : X.base.get? bm = some ob) (hb1 : ob.cls = .type "module") (hb2 : ob.dict = some builtinsNs) (hb3 : ob.data = .plain)
    (hdef : defaultsOf params X.env = ([], [])) (hcl : closureFor scope X.env = pure []) {Q : Value → Shared → Prop}
    (h : ∀ f c' ct pm H' s', TabAt Pt pos qual H' → Stay Pt H H' → H' c' = some (codeX c' qual) → s.heap.objs.size ≤ f → f < s'.heap.objs.size → H' f = none → Inv X pins σ H' s' → s'.heap.get? f = some (lamO qual params body scope pm c' ct) → Q (.ref f) s') :
    wpAny (model X.prog X.w) X.A (eval (.Lambda params body scope pos) X.env) Q X.xe s := by
  subst hq
  have hg : s.heap.Ns mainGlobals X.mg := I.ok.mod.glob.keeps I.bk
  have hbo := (I.bs bm ob hb).1
  have hbH : H bm = none := (I.bs bm ob hb).2
  have hCH : PySem.W.CodeHd s.heap c Pt := PySem.W.codeHd_of_K I.kIn hC
  have gP : mainGlobals ≠ Pt := fun q => by
    obtain ⟨o, es, ep, e, _⟩ := I.ok.mod.glob
    have := (I.bs _ o e).2
    rw [q] at this
    rcases hT with z | ⟨c', z, _⟩ <;> rw [z] at this <;> cases this
  have bP : bm ≠ Pt := fun q => by
    rw [q] at hbH
    rcases hT with z | ⟨c', z, _⟩ <;> rw [z] at hbH <;> cases hbH
  have bG : bm ≠ mainGlobals := fun q => by
    obtain ⟨o, es, ep, e, hd, _⟩ := I.ok.mod.glob
    have e2 := hb
    rw [q, e] at e2
    cases e2
    rw [hd] at hb3
    cases hb3
  have hB : s.heap.BuiltinsAt X.mg Pt := ⟨bm, ob, hm, hn, bG, bP, hbo, hb1, hb2, hb3⟩
  refine PySem.W.kla_eval hdef ?_
  rcases hT with hT | ⟨c', hT, hc'⟩
  · have hP : s.heap.get? Pt = some (PySem.W.tabObj #[]) := I.hok Pt _ hT
    refine PySem.W.kla_makeFunction (mg := X.mg) hcl I.ok.glob hg hcode hCH hP trivial rfl gP hB fun c' ct h' tk hx hge hlt hrec htb => ?_
    have hfc : H c' = none := I.hok.fresh hge
    have hPc : Pt ≠ c' := Nat.ne_of_lt (Nat.lt_of_lt_of_le (Heap.lt_size hP) hge)
    have hpt : h'.get? Pt = some (PySem.W.tabObj #[rawInt pos.line, rawInt pos.col, .ref c']) := by simpa using htb
    have kp : ∀ o : Obj, ∀ b u, b ≠ Pt → s.heap.get? b = some u → (h'.push o).get? b = some u := fun o b u hb e => Heap.get?_push_of_some _ (hx b u hb e)
    have hle : s.heap.objs.size ≤ h'.objs.size := Nat.le_of_lt (Nat.lt_of_le_of_lt hge hlt)
    have st : Stay Pt H (upd (upd H Pt (.tbl #[rawInt pos.line, rawInt pos.col, .ref c'])) c' (codeX c' (X.env.qual ++ Str.ofString "<lambda>"))) := fun b o hb e => by
      rw [upd_ne (fun z => by rw [z, hfc] at e; cases e), upd_ne hb]; exact e
    refine h _ c' ct _ (upd (upd H Pt (.tbl #[rawInt pos.line, rawInt pos.col, .ref c'])) c' (codeX c' (X.env.qual ++ Str.ofString "<lambda>"))) _ (.inr ⟨c', by rw [upd_ne hPc, upd_same], upd_same⟩) st upd_same hle (by show h'.objs.size < (h'.push _).objs.size; rw [Heap.size_push]; exact Nat.lt_succ_self _) ?_ ?_ (Heap.get?_push_size _ rfl)
    · rw [upd_ne (Nat.ne_of_gt hlt), upd_ne (Nat.ne_of_gt (Nat.lt_of_lt_of_le (Heap.lt_size hP) hle))]
      exact I.hok.fresh hle
    · refine I.un ⟨fun b o e n _ _ => kp _ b o (fun z => by rw [z, hT] at n; cases n) e, fun b o e n _ _ => ⟨o.slots, kp _ b o (fun z => by rw [z, hT] at n; cases n) e⟩, fun b o e n _ => ?_, fun b o e _ => ?_, fun b xs e => st b _ (fun z => by rw [z, hT] at e; cases e) e, fun b o xs e => st b _ (fun z => by rw [z, hT] at e; cases e) e, fun b ps e => ?_⟩ fun b o e => ?_
      · rw [upd_ne (Nat.ne_of_lt (Nat.lt_of_lt_of_le (Heap.lt_size e) hge)), upd_ne (fun z => by rw [z, hT] at n; cases n)]
        exact n
      · by_cases z : b = Pt
        · exact ⟨_, by rw [z]; exact Heap.get?_push_of_some _ hpt⟩
        · exact ⟨o, kp _ b o z e⟩
      · by_cases z : b = Pt
        · subst z
          rw [hT] at e
          cases e
          exact ⟨#[rawInt pos.line, rawInt pos.col, .ref c'], by rw [upd_ne hPc, upd_same]; simp⟩
        · exact ⟨#[], by rw [st b _ z e]; simp⟩
      · by_cases zc : b = c'
        · subst zc
          rw [upd_same] at e
          cases e
          exact codeX_ok (codeRec_at hrec fun o q => Heap.get?_push_of_some _ q)
        · rw [upd_ne zc] at e
          by_cases z : b = Pt
          · subst z
            rw [upd_same] at e
            cases e
            exact Heap.get?_push_of_some _ hpt
          · rw [upd_ne z] at e
            refine (I.hok b o e).stay (fun d u hd q => kp _ d u (fun zz => ?_) q) (fun d q => st d _ (fun zz => by rw [zz, hT] at q; cases q) q) fun d xs q => st d _ (fun zz => by rw [zz, hT] at q; cases q) q
            rcases hd with hd | hd
            · exact z (hd.symm.trans zz)
            · rw [zz, hT] at hd; cases hd
  · have hP : s.heap.get? Pt = some (PySem.W.tabObj #[rawInt pos.line, rawInt pos.col, .ref c']) := I.hok Pt _ hT
    refine PySem.W.kla_makeFunctionHit (cv := .ref c') (mg := X.mg) hcl I.ok.glob hg hcode hCH hP trivial (by simp [codeAmong, rawInt]) hB fun ct h' tk hk hle => ?_
    refine h _ c' ct _ H _ (.inr ⟨c', hT, hc'⟩) (fun _ _ _ e => e) hc' hle (by show h'.objs.size < (h'.push _).objs.size; rw [Heap.size_push]; exact Nat.lt_succ_self _) (I.hok.fresh hle) (I.kept (t' := tk) fun b u e => Heap.get?_push_of_some _ (hk b u e)) (Heap.get?_push_size _ rfl)
end
end L2

namespace L2
open PySem PySem.Spec PyProof.Rows
theorem Un.new {fs ex : List Addr} {H H' : Hp} {h h' h'' : Heap} (u : Un fs ex H H' h h') (k : ∀ b o, b < h.objs.size → h'.get? b = some o → h''.get? b = some o) : Un fs ex H H' h h'' where
  keep := fun b o e n hb hx => k b o (Heap.lt_size e) (u.keep b o e n hb hx)
  slot := fun b o e n hb hx => let ⟨sl, q⟩ := u.slot b o e n hb hx; ⟨sl, k b _ (Heap.lt_size e) q⟩
  free := u.free
  there := fun b o e hx => let ⟨o', q⟩ := u.there b o e hx; ⟨o', k b _ (Heap.lt_size e) q⟩
  tups := u.tups
  frzs := u.frzs
  tbls := u.tbls
theorem HOk.new {P : Program} {w : World} {H : Hp} {h h' : Heap} (x : HOk P w H h) (k : ∀ b o, H b ≠ none → h.get? b = some o → h'.get? b = some o) : HOk P w H h' := fun a o e =>
  (x a o e).stay (fun b u hb q => k b u (fun z => by
    rcases hb with hb | hb
    · rw [hb, e] at z; cases z
    · rw [hb] at z; cases z) q) (fun _ q => q) fun _ _ q => q
theorem vals_refs : ∀ {xs : List Addr} {us : List Value}, Vals (xs.map V.ref) us → us = xs.map Value.ref
  | [], _, .nil => rfl
  | x :: xs, _, .cons e r => by rw [List.map_cons, ← vals_refs r]; congr 1
theorem Stay.seq {K : PySem.W.Frag} {Pt : Addr} {H H' : Hp} {a : Addr} {xs : List V} (e : Stay Pt H H') (n : ∀ u, H Pt = some u → (∃ ps, u = .tbl ps)) (h : SqL K H a xs) : SqL K H' a xs := by
  have ne : ∀ {u : HO}, H a = some u → (∀ ps, u ≠ .tbl ps) → a ≠ Pt := fun {u} q d z => by
    rw [z] at q
    obtain ⟨ps, z2⟩ := n u q
    exact d ps z2
  rcases h with (h | ⟨o, h⟩) | h
  · exact .inl (.inl (e _ _ (ne h fun _ q => nomatch q) h))
  · exact .inl (.inr ⟨o, e _ _ (ne h fun _ q => nomatch q) h⟩)
  · exact .inr h
noncomputable def adrOf : Value → Addr
  | .ref a => a
  | _ => 0
theorem refs_vals : ∀ (l : List (Str × Addr)), Vals (l.map fun q => V.ref q.2) (l.map fun q => Value.ref q.2)
  | [] => .nil
  | q :: l => .cons rfl (refs_vals l)
section
variable {X : Cx}
noncomputable def tSortK (K : PySem.W.Frag) (Pt : Addr) (posL : Pos) (qual : Str) (tb : TE) (t : TA) : TE := fun σ H Q => t σ H fun vs H1 => ∃ (p : Addr) (xs : List Addr) (ks : List Str), vs = [.ref p] ∧ SqL K H1 p (xs.map V.ref) ∧ ks.length = xs.length ∧ xs.length < 64 ∧ TabAt Pt posL qual H1 ∧
  (∀ H2, TabAt Pt posL qual H2 → Stay Pt H1 H2 → ∀ (i : Nat) (a : Addr) (k : Str), xs[i]? = some a → ks[i]? = some k → tb [some (.ref a)] H2 fun v H' => v = .str k ∧ H' = H2) ∧
  ∀ (H2 : Hp) (l : Addr) (qs : List (Str × Addr)), TabAt Pt posL qual H2 → Stay Pt H1 H2 → H2 l = none → qs.Perm (ks.zip xs) → qs.Pairwise (fun p q => p.1.cps.toList ≤ q.1.cps.toList) → Q (.ref l) (upd H2 l (.lst (qs.map fun q => V.ref q.2)))
theorem pe_sortK {K : PySem.W.Frag} {e : Expr} {t : TA} {tb : TE} {params : Arguments} {body : Expr} {scope : Scope} {posL p1 pos kp : Pos} {Pt c bm : Addr} {ob : Obj} {qual x0 : Str} (hK : X.K = K) (hr : Room 3 X.A)
    (hg : Gl X "sorted") (hm : X.mg "sorted" = none) (ha : PA X [e] t) (hq : X.env.qual ++ Str.ofString "<lambda>" = qual) (hcode : X.env.code = .ref c) (hC : PySem.W.codeHdIn X.K c Pt = true)
    (hmb : X.mg (Str.ofString "__builtins__") = some (.ref bm)) (hn : bm ≠ builtinsNs) (hb : X.base.get? bm = some ob) (hb1 : ob.cls = .type "module") (hb2 : ob.dict = some builtinsNs) (hb3 : ob.data = .plain)
    (S : FnScope [x0] [x0] scope) (hbind : ∀ (pm : Value) (c : Addr) (ct u : Value), bindArgs (PySem.W.kla_fn (Str.ofString "<lambda>") qual params body scope [] pm (.ref c) ct) ⟨[u], []⟩ = pure [(x0, u)])
    (he : ∀ (f c : Addr) (A : Around) (outer : List Env) (s : Shared) (H : Hp), PE (cxOf CX0 X.prog X.w X.K X.mg X.base [x0] qual scope f (.ref c) A outer s H E0) body tb)
    (hdef : defaultsOf params X.env = ([], []) := by rfl) (hcl : closureFor scope X.env = pure [] := by rfl)
    (hs1 : backTo pos (starEach [e] X.env) = (false, eval e X.env) :: backTo pos (starEach [] X.env) := by rfl) (hs2 : (backTo pos (starEach [e] X.env)).any (·.1) = false := by rfl) :
    PE X (.Call (.Name "sorted" p1) [e] [⟨some (Str.ofString "key"), .Lambda params body scope posL, kp⟩] pos) (tSortK K Pt posL qual tb t) := by
  subst hK
  intro pins s σ H Q I h
  refine wpAny_Call_Name_kw (ld_blt I hg hm (show bootBuiltins "sorted" = some (.builtin "sorted") by kernel_rfl) ?_)
  refine callWith_kw (thn (ha pos pins s σ H _ I h) fun us s1 ⟨vs, H1, I1, r1, q1⟩ => ?_) hs1 hs2
  obtain ⟨p, xs, ks, rfl, hp, hlen, h64, hT, hbody, q⟩ := q1
  obtain ⟨u, rfl, rp⟩ := vals1 r1
  cases rp
  refine kws_cons (lam_make I1 hT hq hcode hC hmb hn hb hb1 hb2 hb3 hdef hcl fun f c' ct pm H2 s2 hT2 hSt hc2 hf1 hf2 hf3 I2 hfo => ?_)
  refine kws_nil ?_
  have hptb : ∀ u, H1 Pt = some u → ∃ ps, u = .tbl ps := fun u e => by
    rcases hT with z | ⟨_, z, _⟩ <;> rw [z] at e <;> cases e <;> exact ⟨_, rfl⟩
  obtain ⟨its, rv, pl, hz⟩ := I2.list (hSt.seq hptb hp)
  have eits := vals_refs rv
  have hil : its.length = xs.length := by rw [eits, List.length_map]
  show wpAny _ _ (call (.builtin "sorted") [.ref p] [(Str.ofString "key", .ref f)]) _ _ s2
  refine call_function_entry_kw kind_sorted plain_sorted entry_sorted (ksk_s1 _ _) ?_
  unfold Builtin.«sorted»
  refine wpAny_bind (m := checkCount "sorted" 1 1 _) (wpAny_pure ?_)
  refine wpAny_bind (collect_list pl.isList ?_ (by rw [sizeLine_eq]; omega))
  refine wpAny_bind (wpAny_newList ?_ (by rw [sizeLine_eq]; omega))
  have hsz : ((s2.heap.push (seqObj "list" #[] 0)).update s2.heap.objs.size (Obj.mapSeq (· ++ its.toArray))).objs.size = s2.heap.objs.size + 1 := by rw [Heap.size_update, size_push']
  have keep : ∀ b o, s2.heap.get? b = some o → ((s2.heap.push (seqObj "list" #[] 0)).update s2.heap.objs.size (Obj.mapSeq (· ++ its.toArray))).get? b = some o := fun b o e => by
    have hlt : b < s2.heap.objs.size := Heap.lt_size e
    rw [Heap.get?_update_ne _ _ _ _ (Nat.ne_of_lt hlt), Heap.get?_push_ne _ _ _ (Nat.ne_of_lt hlt)]
    exact e
  have hn0 : ∃ o, ((s2.heap.push (seqObj "list" #[] 0)).update s2.heap.objs.size (Obj.mapSeq (· ++ its.toArray))).get? s2.heap.objs.size = some o := ⟨_, get?_update_seq (Heap.get?_push_size _ rfl) _⟩
  show wpAny _ _ _ _ _ { s2 with heap := ((s2.heap.push (seqObj "list" #[] 0)).update s2.heap.objs.size (Obj.mapSeq (· ++ its.toArray))).push (seqObj "list" its.toArray 0) }
  generalize (s2.heap.push (seqObj "list" #[] 0)).update s2.heap.objs.size (Obj.mapSeq (· ++ its.toArray)) = h3 at hsz keep hn0 ⊢
  have hoD : (h3.push (seqObj "list" its.toArray 0)).get? h3.objs.size = some (seqObj "list" its.toArray 0) := Heap.get?_push_size _ rfl
  have hD : s2.heap.objs.size + 1 ≤ h3.objs.size := Nat.le_of_eq hsz.symm
  have trk : ∀ b, H2 b ≠ none → b < s2.heap.objs.size := fun b hb => by
    cases q : H2 b with
    | none => exact absurd q hb
    | some u => exact I2.hok.lt q
  have frl : ∀ b ∈ frs X.stack, b < s1.heap.objs.size := fun b hb => by
    obtain ⟨_, o, ho, _⟩ := I1.stack.mem hb
    exact Heap.lt_size ho
  have hs12 : s1.heap.objs.size ≤ s2.heap.objs.size := Nat.le_of_lt (Nat.lt_of_le_of_lt hf1 hf2)
  refine wpAny_bind (wpAny_holding (wpAny_call_entry_kw slot_list_sort ⟨_, hoD, rfl⟩ entry_list_sort ?_ (ksk_l1 _ _)))
  show wpAny _ _ (Builtin.«list.sort» ⟨[.ref h3.objs.size], [(Str.ofString "key", .ref f)]⟩) _ _ _
  rw [ksk_t1]
  refine sort_tree (J := fun s' => Un (frs X.stack) [] H2 H2 s2.heap s'.heap ∧ HOk X.prog X.w H2 s'.heap ∧ AllBare s'.gens ∧ s'.os = s2.os ∧ (∃ o, s'.heap.get? s2.heap.objs.size = some o) ∧ s'.heap.get? f = some (lamO qual params body scope pm c' ct)) (n0 := s2.heap.objs.size + 1) (ks := ks)
    (fun s' J => let ⟨o, e⟩ := J.2.2.2.2.1; Heap.lt_size e) (fun s' o J => ?hpush) (fun s' a g hna J => ?hupd) (by omega) (by omega) (fun i v k s' hv hk J => ?turn) hD hoD ?hJ fun s' out cc ps J hout hps heq hsort => ?fin
  case hpush =>
    obtain ⟨u, ok, ba, os, le, fo⟩ := J
    exact ⟨u.new fun b o _ e => Heap.get?_push_of_some _ e, ok.kept fun b o e => Heap.get?_push_of_some _ e, ba, os, let ⟨o, e⟩ := le; ⟨o, Heap.get?_push_of_some _ e⟩, Heap.get?_push_of_some _ fo⟩
  case hupd =>
    obtain ⟨u, ok, ba, os, le, fo⟩ := J
    have k : ∀ b o, b < s2.heap.objs.size + 1 → s'.heap.get? b = some o → (s'.heap.update a g).get? b = some o := fun b o hb e => (Heap.get?_update_other _ _ (Nat.ne_of_gt (Nat.lt_of_lt_of_le hb hna))).trans e
    exact ⟨u.new fun b o hb e => k b o (Nat.lt_succ_of_lt hb) e, ok.new fun b o hb e => k b o (Nat.lt_succ_of_lt (trk b hb)) e, ba, os, let ⟨o, e⟩ := le; ⟨o, k _ o (Nat.lt_succ_self _) e⟩, k f _ (Nat.lt_succ_of_lt hf2) fo⟩
  case turn =>
    obtain ⟨u, ok, ba, os, le, fo⟩ := J
    have J1 : Inv X pins σ H2 s' := I2.call' (ch := []) os u ok ba (fun _ z => nomatch z)
    have hx : ∃ a, xs[i]? = some a ∧ v = .ref a := by
      rw [eits, List.getElem?_map] at hv
      cases q : xs[i]? with
      | none => rw [q] at hv; cases hv
      | some a => rw [q] at hv; exact ⟨a, rfl, (Option.some.inj hv).symm⟩
    obtain ⟨a, hxa, rfl⟩ := hx
    refine wpAny_mono (lam_call (k := 0) (N := [x0]) (ps := [x0]) (vs := [V.ref a]) fo (ok c' _ hc2).1 S (fun us hl => by
      match us, hl with
      | [u], _ => exact hbind pm c' ct u) rfl (.cons rfl .nil) hr.in1.in1 J1.env0.in1.in1 (he f c' _ _ s' H2) (hbody H2 hT2 hSt i a k hxa hk)) (fun y s'' ce => ?_) fun _ _ z => z
    obtain ⟨v', H', os', ba', un, ok', rv', e1, e2⟩ := ce
    subst e1; subst e2
    have kp : ∀ b o, s2.heap.objs.size ≤ b → s'.heap.get? b = some o → s''.heap.get? b = some o := fun b o hb e => un.keep b o e (I2.hok.fresh hb) (fun z => absurd (frl b z) (Nat.not_lt.mpr (Nat.le_trans hs12 hb))) (fun z => nomatch z)
    exact ⟨rv', ⟨u.trans un, ok', ba', os'.trans os, let ⟨o, e⟩ := le; ⟨o, kp _ o (Nat.le_refl _) e⟩, un.keep f _ fo hf3 (fun z => absurd (frl f z) (Nat.not_lt.mpr hf1)) (fun z => nomatch z)⟩, fun b o hb e => kp b o (Nat.le_of_succ_le hb) e⟩
  case hJ =>
    exact ⟨Un.kept fun b o e => Heap.get?_push_of_some _ (keep b o e), I2.hok.kept fun b o e => Heap.get?_push_of_some _ (keep b o e), I2.bare, rfl, let ⟨o, e⟩ := hn0; ⟨o, Heap.get?_push_of_some _ e⟩, Heap.get?_push_of_some _ (keep _ _ hfo)⟩
  case fin =>
    obtain ⟨u, ok, ba, os, le, fo⟩ := J
    refine ⟨_, rfl, wpAny_pure ⟨_, rfl, ?_⟩⟩
    have hDs : s2.heap.objs.size ≤ h3.objs.size := Nat.le_of_succ_le hD
    have hfD : H2 h3.objs.size = none := I2.hok.fresh hDs
    have hrf : ∀ p ∈ ps, ∃ a, p.2 = Value.ref a := fun p hp' => by
      have hm := hps.mem_iff.mp hp'
      obtain ⟨k, v⟩ := p
      have := (List.of_mem_zip hm).2
      rw [eits] at this
      obtain ⟨a, _, e⟩ := List.mem_map.mp this
      exact ⟨a, e.symm⟩
    have e1 : out.toList = (ps.map fun p => (p.1, adrOf p.2)).map fun q => Value.ref q.2 := by
      rw [heq, List.map_map]
      refine List.map_congr_left fun p hp' => ?_
      obtain ⟨a, e⟩ := hrf p hp'
      show p.2 = Value.ref (adrOf p.2)
      rw [e]
      rfl
    have e2 : (ps.map fun p => (p.1, adrOf p.2)).Perm (ks.zip xs) := by
      have := hps.map fun p => (p.1, adrOf p.2)
      rw [eits] at this
      refine this.trans (List.Perm.of_eq ?_)
      rw [List.zip_map_right, List.map_map]
      exact (List.map_congr_left fun p _ => rfl).trans (List.map_id _)
    refine ⟨.ref h3.objs.size, upd H2 h3.objs.size (.lst ((ps.map fun p => (p.1, adrOf p.2)).map fun q => V.ref q.2)), I2.call' (ch := []) os ⟨u.keep, u.slot, fun b o e n hx => ?_, u.there, fun b xs e => ?_, fun b o xs e => ?_, fun b qs e => ⟨#[], ?_⟩⟩ (fun b o e => ?_) ba (fun _ z => nomatch z), rfl, q H2 _ _ hT2 hSt hfD e2 (List.pairwise_map.mpr hsort)⟩
    · rw [upd_ne (Nat.ne_of_lt (Nat.lt_of_lt_of_le (Heap.lt_size e) hDs))]; exact n
    · rw [upd_ne (fun z => by rw [z, hfD] at e; cases e)]; exact e
    · rw [upd_ne (fun z => by rw [z, hfD] at e; cases e)]; exact e
    · rw [upd_ne (fun z => by rw [z, hfD] at e; cases e), e]; simp
    · by_cases zb : b = h3.objs.size
      · subst zb
        rw [upd_same] at e
        cases e
        refine ⟨?_, out.toList, cc, ?_, by simpa using hout⟩
        · rw [List.length_map, e2.length_eq, List.length_zip, sizeLine_eq]
          omega
        · rw [e1]
          exact refs_vals _
      · rw [upd_ne zb] at e
        exact (ok b o e).stay (fun _ _ _ q => q) (fun d q => by rw [upd_ne (fun z => by rw [z, hfD] at q; cases q)]; exact q) fun d xs q => by rw [upd_ne (fun z => by rw [z, hfD] at q; cases q)]; exact q
end
end L2

namespace L2
open PySem PySem.Spec PyProof.Rows
section
variable {P : Program} {w : World} {K : PySem.W.Frag} {mg : Str → Option Value} {base : Heap}
theorem Fn.okC {x qual : Str} {st : Stmt} {f : Addr} {fd : FuncData} {N ps : List Str} {k : Nat} {sp : Sp} (F : Fn K x qual st f fd) (S : FnScope N ps (defScope st)) (len : ∀ vs H Q E, sp vs H Q E → vs.length = ps.length)
    (hbody : ∀ (A : Around) (outer : List Env) (s : Shared) (H : Hp) (vs : List V) (Q : VK) (E : XK), Room k (A.deeper (envOfC qual (defScope st) s.heap.objs.size f fd.code)) → sp vs H Q E →
      ∃ t, PSs (cxOf CX0 P w K mg base N qual (defScope st) f fd.code A outer s H E).nox (defBody st) t ∧ t { nx := fun _ H' => Q .non H', rt := Q } (start N vs) H) : FnOk P w K mg base CX0 (k + 1) f fd ps sp := by
  obtain ⟨oc, od, dV, kV, doc, pm, an, cdv, ct, osl, rfl, lk, hcd⟩ := F.ex
  refine fn_of lk hcd S len fun A outer s H vs Q E hr hsp => ?_
  obtain ⟨t, h, q⟩ := hbody A outer s H vs Q E hr hsp
  exact ⟨t, h.nox, q⟩
theorem law_callT {mb : Str → Option Value} {k : Nat} {fa a Pt c bm : Addr} {ob : Obj} {fd : FuncData} {x : Str} {sp : Sp} {s₁ : Shared} {vs : List Value} {ns : List Int}
    (KX : K.In s₁.heap) (hP : s₁.heap.get? Pt = some (PySem.W.tabObj #[])) (hC : PySem.W.codeHdIn K c Pt = true) (hKP : K.lookup Pt = none) (hB : s₁.heap.get? bm = some ob) (hB1 : ob.cls = .type "module") (hB3 : ob.data = .plain)
    (hns : s₁.heap.Ns mainGlobals mg) (hb : s₁.heap.Ns builtinsNs mb) (hbb : ∀ x : Str, x ≠ "__name__" → mb x = bootBuiltins x) (hlim : s₁.heap.NoLimit) (hg : s₁.gens = #[])
    (ha : s₁.heap.get? a = some { cls := .type "list", data := .seq vs.toArray }) (hi : IntsAre vs ns) (hl : ns.length ≤ sizeLine) (hr : Room k callerA)
    (F : ∀ base : Heap, K.In base → base.Ns mainGlobals mg → base.get? bm = some ob → FnOk P w K mg base CX0 k fa fd [x] sp) (hbind : ∀ (s : Shared) (u : Value), BindsTo s fd ⟨[u], []⟩ [(x, u)])
    (hsp : ∀ H : Hp, H Pt = some (.tbl #[]) → SqL K H a (ns.map V.int) → sp [.ref a] H (fun v _ => v = .bl true) fun _ _ _ => False) :
    codeAny (model P w) callerA (.call (.ref fa) ⟨[.ref a], []⟩) (fun r s' => r = .ok (.ret (.bool true)) ∧ OldK s₁.heap s'.heap ∧ s'.os = s₁.os ∧ AllBare s'.gens) s₁ := by
  have rv := vals_ints hi
  have haP : a ≠ Pt := fun z => by rw [z, hP] at ha; cases ha
  have core : ∀ H : Hp, H Pt = some (.tbl #[]) → (∀ b, b ≠ Pt → H b = none ∨ (b = a ∧ K.lookup a = none ∧ H a = some (.frz { cls := .type "list", data := .seq vs.toArray } (.lst (ns.map V.int))))) → SqL K H a (ns.map V.int) →
      codeAny (model P w) callerA (.call (.ref fa) ⟨[.ref a], []⟩) (fun r s' => r = .ok (.ret (.bool true)) ∧ OldK s₁.heap s'.heap ∧ s'.os = s₁.os ∧ AllBare s'.gens) s₁ := by
    intro H hHP hA hS
    have hok : HOk P w H s₁.heap := fun b o e => by
      by_cases zP : b = Pt
      · subst zP
        rw [hHP] at e
        cases e
        exact hP
      · rcases hA b zP with n | ⟨zb, _, ea⟩
        · rw [n] at e; cases e
        · subst zb
          rw [ea] at e
          cases e
          exact ⟨ha, by rw [List.length_map]; exact hl, vs, _, rv, ha⟩
    have free : ∀ {b : Addr} {o : Obj}, s₁.heap.get? b = some o → o.cls ≠ .none → (∀ xs n, o.data ≠ .seq xs n) → H b = none := fun {b o} e hc d => by
      by_cases zP : b = Pt
      · rw [zP, hP] at e; cases e; exact absurd rfl hc
      · rcases hA b zP with n | ⟨zb, _, _⟩
        · exact n
        · rw [zb, ha] at e; cases e; exact absurd rfl (d _ _)
    have noD : ∀ {b : Addr} {o : Obj} {es : Array DictEntry} {ep : Nat}, s₁.heap.get? b = some o → o.data = .dict es ep → H b = none := fun {b o es ep} e d => by
      by_cases zP : b = Pt
      · rw [zP, hP] at e; cases e; cases d
      · rcases hA b zP with n | ⟨zb, _, _⟩
        · exact n
        · rw [zb, ha] at e; cases e; cases d
    have nsK : ∀ {b : Addr} {m : Str → Option Value}, s₁.heap.Ns b m → (hidT s₁.heap H).Ns b m := fun {b m} ⟨o, es, ep, e, d, r⟩ => ⟨o, es, ep, hidT_get e (noD e d), d, r⟩
    have hKb : K.In (hidT s₁.heap H) := fun b o e => hidT_get (KX b o e) (by
      by_cases zP : b = Pt
      · rw [zP, hKP] at e; cases e
      · rcases hA b zP with n | ⟨zb, hk, _⟩
        · exact n
        · rw [zb, hk] at e; cases e)
    have hM : Mod K mg (hidT s₁.heap H) := ⟨hKb, nsK hns, ⟨mb, nsK hb, hbb⟩, let ⟨mc, h1, h2⟩ := hlim; ⟨mc, nsK h1, h2⟩⟩
    have e0 : Env0 P w K mg (hidT s₁.heap H) callerA [] s₁ H := ⟨rfl, hM, fun b o e => of_hidT e, Nat.le_of_eq (hidT_size _ _), trivial, fun b hb => absurd (show b ∈ ([] : List Addr) from hb) (by simp), hok, .of_eq hg⟩
    refine codeAny_mono ((F _ hKb (nsK hns) (hidT_get hB (free hB (fun z => by rw [hB1] at z; cases z) fun xs n z => by rw [hB3] at z; cases z))).run callerA [] s₁ H ⟨[.ref a], []⟩ [.ref a] [.ref a] _ _ hr e0 (hbind s₁ (.ref a)) (.cons rfl .nil) (hsp H hHP hS)) fun r s' h => ?_
    cases r with
    | error e => exact h.elim
    | ok fl =>
      cases fl with
      | next => exact False.elim h
      | brk => exact False.elim h
      | cont => exact False.elim h
      | ret u =>
        obtain ⟨v, H', os, bare, un, hok', r', q⟩ := h
        have q' : v = .bl true := q
        subst q'
        obtain rfl : u = Value.bool true := r'
        obtain ⟨more, hm⟩ := un.tbls Pt _ hHP
        have hPt : s'.heap.get? Pt = some (PySem.W.tabObj (#[] ++ more)) := hok' Pt _ hm
        have kept : ∀ b o, b ≠ Pt → s₁.heap.get? b = some o → s'.heap.get? b = some o := fun b o zP e => by
          rcases hA b zP with n | ⟨zb, _, ea⟩
          · exact un.keep b o e n (fun z => absurd (show b ∈ ([] : List Addr) from z) (by simp)) (fun z => nomatch z)
          · subst zb
            have e2 := hok' b _ (un.frzs b _ _ ea)
            rw [ha] at e
            cases e
            exact e2.1
        refine ⟨rfl, ⟨fun b o e => ?_, fun b o e => ?_⟩, os, bare⟩
        · by_cases zP : b = Pt
          · subst zP
            rw [hP] at e
            cases e
            exact .inr (.inl ⟨((PySem.W.codeHd_of_K KX hC).tab hP).isCodeTable, rfl, #[], more, rfl, hPt⟩)
          · exact .inl (kept b o zP e)
        · by_cases zP : b = Pt
          · exact ⟨_, by rw [zP]; exact hPt⟩
          · exact ⟨o, kept b o zP e⟩
  cases hk : K.lookup a with
  | some o =>
    have e := KX a o hk
    rw [ha] at e
    cases e
    refine core (fun b => if b = Pt then some (.tbl #[]) else none) (if_pos rfl) (fun b hb => .inl (if_neg hb)) (.inr ⟨_, vs.toArray, _, hk, rfl, rfl, rfl, by rw [List.size_toArray, hi.length]; exact hl, by simpa using rv⟩)
  | none =>
    refine core (fun b => if b = Pt then some (.tbl #[]) else if b = a then some (.frz { cls := .type "list", data := .seq vs.toArray } (.lst (ns.map V.int))) else none) (if_pos rfl) (fun b hb => ?_) (.inl (.inr ⟨{ cls := .type "list", data := .seq vs.toArray }, ?_⟩))
    · by_cases zb : b = a
      · refine .inr ⟨zb, hk, ?_⟩
        rw [if_neg haP, if_pos rfl]
      · exact .inl (by rw [if_neg hb, if_neg zb])
    · exact (if_neg haP).trans (if_pos rfl)
end
theorem walk_ofT {l : PySem.W.OpenLaw} {n k : Nat} {q : Program} {loose : List Str} {XP : (Str → Option Value) → Heap → Prop} {YP : World → Heap → Prop} {d : DefRec} {K : Params → PySem.W.Frag} {sp : World → Sp} {x : Str} {Pt : Addr}
    (hn : l.most = some n) (hn2 : n ≤ sizeLine) (hdf : d.params.defaults = []) (hr : Room k callerA)
    (hY : ∀ (w : World) (h : Heap), YP w h → (K w.params).In h) (hYT : ∀ (w : World) (h : Heap), YP w h → h.get? Pt = some (PySem.W.tabObj #[]))
    (F : ∀ (w : World) (mg : Str → Option Value) (fa : Addr) (h : Heap) (bm : Addr) (ob : Obj), (K w.params).In h → h.Ns mainGlobals mg → mg d.name = some (.ref fa) → mg (Str.ofString "__builtins__") = some (.ref bm) → bm ≠ builtinsNs → ob.cls = .type "module" → ob.dict = some builtinsNs → ob.data = .plain →
      ∃ (fd : FuncData) (c : Addr), PySem.W.codeHdIn (K w.params) c Pt = true ∧ (K w.params).lookup Pt = none ∧ (∀ (s : Shared) (u : Value), BindsTo s fd ⟨[u], []⟩ [(x, u)]) ∧
        ∀ base : Heap, (K w.params).In base → base.Ns mainGlobals mg → base.get? bm = some ob → FnOk l.prog w (K w.params) mg base CX0 k fa fd [x] (sp w))
    (hsp : ∀ (w : World) (H : Hp) (a : Addr) (ns : List Int), ns.length ≤ n → H Pt = some (.tbl #[]) → SqL (K w.params) H a (ns.map V.int) → sp w [.ref a] H (fun v _ => v = .bl true) fun _ _ _ => False) :
    PySem.W.WalkO q loose XP YP l.row.toRowW d [] (fun f vs => PySem.call f vs) := by
  refine Att.attach_call hn hdf fun w s₀ s₁ mg mb fa o pm cd doc a vs ns G Y ho hd hcd hmg hobj hints hlen hg => ?_
  have KX := hY w _ Y
  obtain ⟨bm, ob, b1, b2, b3, b4, b5, b6⟩ := G.T.bmain
  obtain ⟨fd, c, hC, hKP, hb, hF⟩ := F w mg fa _ bm ob KX G.T.g hmg b1 b2 b4 b5 b6
  exact law_callT KX (hYT w _ Y) hC hKP b3 b4 b6 G.T.g G.T.b G.T.builtins G.T.nolimit hg hobj hints (Nat.le_trans hlen hn2) hr hF hb fun H hO hS => hsp w H a ns hlen hO hS
end L2

namespace L2
open PySem PySem.Spec PyProof.Rows
section
variable {X : Cx}
noncomputable def rInsert : V → List V → Hp → VK → Prop := fun x xs H Q => ∃ (p : Addr) (i : Int) (v : V) (ys : List V), x = .ref p ∧ xs = [.int i, v] ∧ H p = some (.lst ys) ∧ 0 ≤ i ∧ i ≤ (ys.length : Int) ∧ ys.length ≤ 1000 ∧ Q .non (upd H p (.lst (ys.take i.toNat ++ v :: ys.drop i.toNat)))
theorem o_insert : MtR X "list.insert" rInsert := by
  intro pins s σ H x xs v us Q I rx rs h
  obtain ⟨p, i, y, ys, rfl, rfl, hp, i0, i1, hl, q⟩ := h
  cases rx
  cases rs with
  | cons r1 rs =>
    cases rs with
    | cons r2 rs =>
      cases rs
      obtain ⟨t, rfl⟩ := r1
      obtain ⟨its, n, r, e, hz⟩ := I.lst hp
      have hlen := r.length
      rename_i w
      have hi : i.toNat ≤ its.length := by omega
      refine call_meets F.slot_list_insert ⟨_, e, rfl⟩ F.entry_list_insert (F.args_list_insert_3 _ _ _) (AutoSeq1.list_insert_list_int_val_1 p its.toArray n i t w ?_ (by rw [List.size_toArray, sizeLine_eq]; omega)) ⟨e, ?_⟩
      · have : Builtin.List.listFitsIndex i = true := by
          simp only [Builtin.List.listFitsIndex, Bool.and_eq_true, decide_eq_true_eq]
          omega
        rw [this]
        decide
      · refine ⟨.non, _, I.lset (its' := its.take i.toNat ++ w :: its.drop i.toNat) hp e ?_ ((r.take i.toNat).append (.cons r2 (r.drop i.toNat))) ?_, rfl, q⟩
        · have hk : (if i < 0 then (i + (its.toArray.size : Int)).toNat else min i.toNat its.toArray.size) = i.toNat := by
            rw [if_neg (by omega), List.size_toArray]
            omega
          show (have k := (if i < 0 then (i + (its.toArray.size : Int)).toNat else min i.toNat its.toArray.size); (its.toArray.extract 0 k).push w ++ its.toArray.extract k) = _
          rw [hk]
          apply Array.toList_inj.mp
          simp [List.extract_eq_take_drop, List.take_of_length_le]
        · rw [List.length_append, List.length_cons, List.length_take, List.length_drop, sizeLine_eq]
          omega
noncomputable def rDClear : V → List V → Hp → VK → Prop := fun x xs H Q => ∃ (p : Addr) (kvs : List (Key × V)), x = .ref p ∧ xs = [] ∧ H p = some (.dK kvs) ∧ Q .non (upd H p (.dK []))
theorem o_dclear : MtR X "dict.clear" rDClear := by
  intro pins s σ H x xs v us Q I rx rs h
  obtain ⟨p, kvs, rfl, rfl, hp, q⟩ := h
  cases rx
  cases rs
  exact d_clear I hp fun s' I' => ⟨.non, _, I', rfl, q⟩
noncomputable def Itk (a : Addr) (o : Obj) (kvs : List (Key × V)) : It := ⟨fun i H => i < kvs.length ∧ H a = some (.frz o (.dK kvs)), fun i H x H' => H' = H ∧ ∃ p, kvs[i]? = some p ∧ x = kV p.1, fun i H => kvs.length ≤ i ∧ H a = some (.frz o (.dK kvs))⟩
theorem kv_get {kvs : List (Key × V)} {vs : List (Key × Value)} (r : KV kvs vs) {i : Nat} {p : Key × V} (h : kvs[i]? = some p) : ∃ u, vs[i]? = some (p.1, u) ∧ RelV p.2 u := by
  induction r generalizing i with
  | nil => cases h
  | @cons a b l1 l2 r t ih =>
    cases i with
    | zero => cases h; exact ⟨b.2, by rw [r.1]; rfl, r.2⟩
    | succ i => exact ih h
theorem dict_at {pins : List (Addr × Obj)} {σ : St} {H : Hp} {s : Shared} {a : Addr} {o : Obj} {kvs : List (Key × V)} {es : Array DictEntry} {ep : Nat} (I : Inv X pins σ H s) (h : H a = some (.frz o (.dK kvs))) (hd : o.data = .dict es ep) :
    (a == sysModules) = false ∧ ∃ vs, KV kvs vs ∧ s.heap.DictAt (mixKind X.prog X.w) a vs ep := by
  obtain ⟨ho, hz, hs, vs, rv, o', es', ep', ho', r⟩ := I.hok a _ h
  rw [ho] at ho'
  cases ho'
  rw [hd] at r
  obtain ⟨r1, r2, r3⟩ := r
  cases r2
  exact ⟨hs, vs, rv, o, es, ho, r1, hd, r3⟩
theorem turn_dict {P : Program} {w : World} {K : PySem.W.Frag} {tg : Expr} {kvs : List (Key × V)} (a it : Addr) {o : Obj} {es : Array DictEntry} {ep : Nat} (hd : o.data = .dict es ep) : Turn P w K tg (Itk a o kvs) [it] it (fun i h => h.IsKeyIter it a i kvs.length ep) where
  mem := by simp
  obj := fun i h st b hb => by
    have e : b = it := by simpa using hb
    subst e
    obtain ⟨o, e, c, d⟩ := st
    exact ⟨o, e, fun v z => by rw [d] at z; cases z⟩
  keep := fun i h h' st k => st.at fun o e => k it (by simp) o e
  item := by
    intro X hP hw hK hc i pins s σ H E I hf st hg
    subst hP hw hK
    obtain ⟨hsm, vs, rv, da⟩ := dict_at I hg.2 hd
    have hl : vs.length = kvs.length := rv.length.symm
    obtain ⟨f0, f1, f2, f3, f4, f5⟩ := hf it (by simp)
    have hg1 : i < kvs.length := hg.1
    have hx := List.getElem?_eq_getElem hg1
    obtain ⟨u, hu, _⟩ := kv_get rv hx
    rw [← hl] at st
    refine wpAny_pyNext_dict_item st da hu fun key h' hkey st' sb => ?_
    rw [hl] at st'
    have I1 : Inv X pins σ H { s with heap := h' } := I.turned (t' := s.toks) (fun b o hb e => (sb.2 b hb).trans e) f0 f1 f3 f4 f5
    obtain ⟨ob, e, c, d⟩ := id st'
    have rk : RelV (kV kvs[i].1) key := by
      rcases keyIs_shape hkey with ⟨z, t, e1, e2⟩ | ⟨z, t, e1, e2⟩
      · rw [e1, e2]; exact ⟨t, rfl⟩
      · rw [e1, e2]; exact ⟨t, rfl⟩
    exact ⟨_, rfl, go_of (s := { s with heap := h' }) e c d (by decide) ⟨kV kvs[i].1, H, I1, rk, ⟨rfl, _, hx, rfl⟩, st', fun b hb => (hf b hb).1⟩⟩
  done := by
    intro X hP hw hK hc i pins s σ H E I hf st hg
    subst hP hw hK
    obtain ⟨hsm, vs, rv, da⟩ := dict_at I hg.2 hd
    have hl : vs.length = kvs.length := rv.length.symm
    obtain ⟨f0, f1, f2, f3, f4, f5⟩ := hf it (by simp)
    rw [← hl] at st
    have hg' : kvs.length ≤ i := hg.1
    exact wpAny_pyNext_dict_end (I.ok.hd hc) st da (List.getElem?_eq_none (by omega)) fun h' eb => ⟨rfl, I.turned (t' := s.toks) (fun b o hb e => eb b o hb e) f0 f1 f3 f4 f5⟩
  self := fun _ _ _ _ _ st h => wpAny_pyIter_keyiter st h
noncomputable def Frz (a : Addr) (o : Obj) (kvs : List (Key × V)) (H H' : Hp) : Prop := H' a = some (.frz o (.dK kvs)) ∧ ∀ b, b ≠ a → H' b = H b
noncomputable def iDict (tl : TE) : TI := fun σ H R => tl σ H fun x H1 => ∃ a kvs, x = .ref a ∧ Rd H1 a (.dK kvs) ∧ ∀ o H2, Frz a o kvs H1 H2 → R (Itk a o kvs) H2
theorem pi_dict {tg l : Expr} {tl : TE} (hl : PE X l tl) : PI X tg l (iDict tl) := by
  intro pins s σ H R I h
  refine thn (hl pins s σ H _ I h) fun v s1 ⟨x, H1, I1, r1, q1⟩ => ?_
  obtain ⟨a, kvs, e, hr, q⟩ := q1
  subst e
  cases r1
  have key : ∃ o H2, Frz a o kvs H1 H2 ∧ Inv X pins σ H2 s1 := by
    rcases hr with hr | ⟨o, hr⟩
    · obtain ⟨hz, hs, vs, rv, o, es, ep, ho, rest⟩ := id (I1.hok a _ hr)
      refine ⟨o, upd H1 a (.frz o (.dK kvs)), ⟨upd_same, fun b hb => upd_ne hb⟩, ?_⟩
      have := I1.write (t' := s1.toks) (x := a) (e := a) (o := .frz o (.dK kvs)) (h' := s1.heap) (by rw [hr]; trivial) (.inl rfl) (fun b u _ q => q) ⟨_, ho⟩ ⟨ho, hz, hs, vs, rv, o, es, ep, ho, rest⟩
      exact this
    · exact ⟨o, H1, ⟨hr, fun _ _ => rfl⟩, I1⟩
  obtain ⟨o, H2, fz, I2⟩ := key
  obtain ⟨ho, hz, hs, vs, rv, o', es, ep, ho', hx, hd, rest⟩ := id (I2.hok a _ fz.1)
  rw [ho] at ho'
  cases ho'
  have da : s1.heap.DictAt (mixKind X.prog X.w) a vs ep := ⟨o, es, ho, hx, hd, rest⟩
  refine wpAny_pyIter_dict hs da ?_
  have hl : vs.length = kvs.length := rv.length.symm
  rw [hl]
  refine ⟨s1.heap.objs.size, [s1.heap.objs.size], _, _, H2, rfl, I2.kept (t' := s1.toks) fun b o e => Heap.get?_push_of_some _ e, turn_dict a _ hd, ⟨_, Heap.get?_push_size _ rfl, rfl, rfl⟩, fun b hb => ?_, q o H2 fz⟩
  have e : b = s1.heap.objs.size := by simpa using hb
  subst e
  exact I2.fpOk (Nat.le_refl _) (I2.hok.fresh (Nat.le_refl _))
theorem wk_dict {a : Addr} {o : Obj} {kvs : List (Key × V)} {Pv : Hp → Prop} (hl : ∀ H, Pv H → H a = some (.frz o (.dK kvs))) : Wk (Itk a o kvs) (kvs.map fun p => kV p.1) Pv := fun i H p => by
  rw [List.length_map]
  refine ⟨fun h => ⟨h, hl H p⟩, fun h => ⟨h, hl H p⟩, fun h x H' y => ?_⟩
  obtain ⟨e, z, e1, e2⟩ := y
  exact ⟨e, by rw [List.getElem?_map, e1, e2]; rfl⟩
noncomputable def rNeDict (K : PySem.W.Frag) : R2 := fun x y H Q => ∃ (a b : Addr) (ka kb : List (Key × V)), x = .ref a ∧ y = .ref b ∧ H a = some (.dK ka) ∧ H b = some (.dK kb) ∧ ka.length = kb.length ∧
  (∀ (k : Key) (v : V), (k, v) ∈ ka → ∃ v' d, valV kb k = some v' ∧ RdD K H d v ∧ RdD K H d v' ∧ SeqAt.shaped d = true ∧ PyData.eqv d d = true) ∧ Q (.bl false) H
theorem valueAt_valV : ∀ {kvs : List (Key × V)} {vs : List (Key × Value)} {k : Key} {v : V}, KV kvs vs → valV kvs k = some v → ∃ u, valueAt vs k = some u ∧ RelV v u := by
  intro kvs vs k v r h
  induction r with
  | nil => cases h
  | @cons p w l1 l2 r t ih =>
    by_cases e : p.1 = k
    · rw [valV_pos e] at h
      cases h
      exact ⟨w.2, by simp [valueAt, ← r.1, e], r.2⟩
    · rw [valV_neg e] at h
      obtain ⟨u, h1, h2⟩ := ih h
      exact ⟨u, by simpa [valueAt, ← r.1, e] using h1, h2⟩
theorem o_neDict {K : PySem.W.Frag} (hu : X.A.units + 100 < cLine) (hK : X.K = K := by rfl) : OpR X (compareOp .NotEq) (rNeDict K) := by
  subst hK
  intro pins s σ H x y v u Q I rx ry h
  obtain ⟨a, b, ka, kb, rfl, rfl, ha, hb, hl, hall, q⟩ := h
  cases rx
  cases ry
  obtain ⟨_, sa, va, ra, da⟩ := I.hok a _ ha
  obtain ⟨_, sb, vb, rb, db⟩ := I.hok b _ hb
  have la : va.length = ka.length := ra.length.symm
  have lb : vb.length = kb.length := rb.length.symm
  have hits : ∀ (k1 : List (Key × V)) (v1 : List (Key × Value)), KV k1 v1 → (∀ p ∈ k1, p ∈ ka) → PySem.W.KeqHits X.A.in1 s vb v1 true := by
    intro k1 v1 r
    induction r with
    | nil => intro _; exact .nil
    | @cons p w l1 l2 r t ih =>
      intro hm
      obtain ⟨k, v⟩ := p
      obtain ⟨k', u⟩ := w
      obtain ⟨e, rv⟩ := r
      have e : k = k' := e
      have rv : RelV v u := rv
      subst e
      obtain ⟨v', d, h1, h2, h3, h4, h5⟩ := hall k v (hm _ List.mem_cons_self)
      obtain ⟨u', hu', ru'⟩ := valueAt_valV rb h1
      obtain ⟨as, q1⟩ := RdD.reads I d v u h2 rv
      obtain ⟨bs, q2⟩ := RdD.reads I d v' u' h3 ru'
      have := PySem.W.keq_at (A := X.A) q1 q2 h4 h4 (by show X.A.units + 1 + 64 < cLine; omega)
      rw [h5] at this
      exact .hit (e := true) (b := true) hu' this (ih fun p hp => hm p (List.mem_cons_of_mem _ hp))
  refine PySem.W.keq_ne sa sb da db (by omega) (r := true) (fun _ => hits ka va ra fun _ h => h) ⟨.bl false, H, I, ?_, q⟩
  show Value.bool _ = Value.bool false
  rw [la, lb, hl]
  simp
end
end L2

namespace K20
open PySem L2

noncomputable def top (i : Nat) : Stmt := PySem.Challenge.pw_linkyard_k20_sections_as_laid.main.body.getD i (.Pass ⟨0, 0, 0, 0⟩)
noncomputable abbrev s_Part___init__ : Stmt := inClass (top 3) 0
noncomputable abbrev s_Part_names : Stmt := inClass (top 3) 1
noncomputable abbrev s_Image___init__ : Stmt := inClass (top 5) 0
noncomputable abbrev s_by_names : Stmt := top 6
noncomputable abbrev s_laid : Stmt := top 7
noncomputable abbrev s_shared_of : Stmt := top 8
noncomputable abbrev s__law_cell_at : Stmt := top 10
noncomputable abbrev s__law_mixed : Stmt := top 11
noncomputable abbrev s__law_names : Stmt := top 12
noncomputable abbrev s__law_heads : Stmt := top 13
noncomputable abbrev s__law_goal : Stmt := top 14
noncomputable abbrev s__law_op : Stmt := top 15
noncomputable abbrev s__law_code : Stmt := top 16
noncomputable abbrev s__law_data : Stmt := top 17
noncomputable abbrev s__law_wants : Stmt := top 18
noncomputable abbrev s__law_part : Stmt := top 19
noncomputable abbrev s__law_made : Stmt := top 20
noncomputable abbrev s__law_as_part : Stmt := top 21
noncomputable abbrev s__law_order : Stmt := top 22
noncomputable abbrev s__law_layout : Stmt := top 23
noncomputable abbrev s__law_shared : Stmt := top 24
noncomputable abbrev s__law_are_whole : Stmt := top 25
noncomputable abbrev s__law_image_kept : Stmt := top 26
noncomputable abbrev s_law : Stmt := top 27

theorem iteF' {c : Prop} [Decidable c] {a b : Prop} (h : ¬ c) (z : b) : if c then a else b := by rw [if_neg h]; exact z
theorem iteT' {c : Prop} [Decidable c] {a b : Prop} (h : c) (z : a) : if c then a else b := by rw [if_pos h]; exact z
structure Sec where
  k : Str
  n : Str
  sh : Bool
  row : List Int
noncomputable def SecAt (H : Hp) (e : Addr × Sec) : Prop := ∃ r, H e.1 = some (.tup [.str e.2.k, .str e.2.n, .bl e.2.sh, .ref r]) ∧ H r = some (.lst (e.2.row.map V.int))
theorem SecAt.same {H H' : Hp} {e : Addr × Sec} (h : SecAt H e) (k : Same H H') : SecAt H' e := let ⟨r, a, b⟩ := h; ⟨r, k _ _ a, k _ _ b⟩
noncomputable def SecsAt (H : Hp) (ts : List (Addr × Sec)) : Prop := ∀ e ∈ ts, SecAt H e
theorem SecsAt.same {H H' : Hp} {ts : List (Addr × Sec)} (h : SecsAt H ts) (k : Same H H') : SecsAt H' ts := fun e he => (h e he).same k
noncomputable def refsS {α : Type} (ts : List (Addr × α)) : List V := ts.map fun e => V.ref e.1
theorem refsS_get {α : Type} {ts : List (Addr × α)} {i : Nat} {x : V} (h : (refsS ts)[i]? = some x) : ∃ e, ts[i]? = some e ∧ x = V.ref e.1 := by
  unfold refsS at h
  rw [List.getElem?_map] at h
  cases e : ts[i]? with
  | none => rw [e] at h; cases h
  | some t => rw [e] at h; cases h; exact ⟨t, rfl, rfl⟩
noncomputable def fldP (n : Str) (s w p : Addr) : List (Str × V) := putF "places" (.ref p) (putF "wants" (.ref w) (putF "sections" (.ref s) (putF "name" (.str n) [])))
theorem fP_name (n : Str) (s w p : Addr) : (fldP n s w p).lookup ("name" : Str) = some (.str n) := by
  unfold fldP
  rw [lookup_putF, if_neg (by decide +kernel), lookup_putF, if_neg (by decide +kernel), lookup_putF, if_neg (by decide +kernel), lookup_putF, if_pos rfl]
theorem fP_sections (n : Str) (s w p : Addr) : (fldP n s w p).lookup ("sections" : Str) = some (.ref s) := by
  unfold fldP
  rw [lookup_putF, if_neg (by decide +kernel), lookup_putF, if_neg (by decide +kernel), lookup_putF, if_pos rfl]
theorem fP_no (n : Str) (s w p : Addr) {m : Str} (h1 : ¬ m = "places") (h2 : ¬ m = "wants") (h3 : ¬ m = "sections") (h4 : ¬ m = "name") : (fldP n s w p).lookup m = none := by
  unfold fldP
  rw [lookup_putF, if_neg h1, lookup_putF, if_neg h2, lookup_putF, if_neg h3, lookup_putF, if_neg h4]
  rfl
theorem take_snoc {α : Type} {fs : List α} {i : Nat} {p : α} (h : fs[i]? = some p) : fs.take (i + 1) = fs.take i ++ [p] := by
  rw [List.take_add_one, h]
  rfl
noncomputable def NotO (o : HO) : Prop := ∀ C dx fs, o ≠ .ins C dx fs
theorem ne_ins {H : Hp} {p c C dx : Addr} {fs : List (Str × V)} {o : HO} (ep : H p = some (.ins C dx fs)) (ec : H c = some o) (h : NotO o) : c ≠ p := fun z => by
  rw [z, ep] at ec
  exact h _ _ _ (Option.some.inj ec).symm
theorem SecsAt.updP {H : Hp} {p C dx : Addr} {fs : List (Str × V)} {ts : List (Addr × Sec)} {o : HO} (h : SecsAt H ts) (ep : H p = some (.ins C dx fs)) : SecsAt (upd H p o) ts := fun e he => by
  obtain ⟨r, a, b⟩ := h e he
  exact ⟨r, by rw [upd_ne (ne_ins ep a (by intro _ _ _ z; cases z))]; exact a, by rw [upd_ne (ne_ins ep b (by intro _ _ _ z; cases z))]; exact b⟩
noncomputable def SecsN (H0 H : Hp) (ts : List (Addr × Sec)) : Prop := ∀ e ∈ ts, ∃ r, H e.1 = some (.tup [.str e.2.k, .str e.2.n, .bl e.2.sh, .ref r]) ∧ H r = some (.lst (e.2.row.map V.int)) ∧ H0 e.1 = none ∧ H0 r = none
theorem SecsN.at {H0 H : Hp} {ts : List (Addr × Sec)} (h : SecsN H0 H ts) : SecsAt H ts := fun e he => let ⟨r, a, b, _⟩ := h e he; ⟨r, a, b⟩
theorem SecsN.same {H0 H H' : Hp} {ts : List (Addr × Sec)} (h : SecsN H0 H ts) (k : Same H H') : SecsN H0 H' ts := fun e he => let ⟨r, a, b, c⟩ := h e he; ⟨r, k _ _ a, k _ _ b, c⟩
theorem SecsN.updP {H0 H : Hp} {p C dx : Addr} {fs : List (Str × V)} {ts : List (Addr × Sec)} {o : HO} (h : SecsN H0 H ts) (ep : H p = some (.ins C dx fs)) : SecsN H0 (upd H p o) ts := fun e he => by
  obtain ⟨r, a, b, c⟩ := h e he
  exact ⟨r, by rw [upd_ne (ne_ins ep a (by intro _ _ _ z; cases z))]; exact a, by rw [upd_ne (ne_ins ep b (by intro _ _ _ z; cases z))]; exact b, c⟩
theorem keepU {H : Hp} {p c : Addr} {o u : HO} (e : H c = some u) (n : c ≠ p) : upd H p o c = some u := by rw [upd_ne n]; exact e
noncomputable def RowsOk (ts : List (Addr × Sec)) : Prop := ∀ e ∈ ts, e.2.row.length ≤ 20
noncomputable def OkN (l : List Nat) : Prop := l.length ≤ 20 ∧ ∀ c ∈ l, c < 128
noncomputable def letL : List Nat := [97, 98, 99, 100, 101, 102, 103, 104, 105, 106, 107, 108, 109, 110, 111, 112, 113, 114, 115, 116, 117, 118, 119, 120, 121, 122]
theorem l_let : Str.ofString "abcdefghijklmnopqrstuvwxyz" = mkS letL := by decide +kernel
theorem l_fig : Str.ofString "0123456789" = mkS [48, 49, 50, 51, 52, 53, 54, 55, 56, 57] := by decide +kernel
theorem l_e : Str.ofString "" = mkS [] := by decide +kernel
theorem join_e : ∀ fs : List Nat, Str.join (mkS []) (fs.map fun c => mkS [c]) = mkS fs
  | [] => rfl
  | [a] => rfl
  | a :: b :: r => by
    have ih := join_e (b :: r)
    show mkS [a] ++ mkS [] ++ Str.join (mkS []) ((b :: r).map fun c => mkS [c]) = _
    rw [ih, mk_app, mk_app]
    rfl
noncomputable def shs (ts : List (Addr × Sec)) : List Str := (ts.filter fun e => e.2.sh).map fun e => e.2.n
theorem shs_snoc (ts : List (Addr × Sec)) (e : Addr × Sec) : shs (ts ++ [e]) = if e.2.sh = true then shs ts ++ [e.2.n] else shs ts := by
  unfold shs
  rw [List.filter_append]
  cases h : e.2.sh <;> simp [h]
theorem shs_len (ts : List (Addr × Sec)) : (shs ts).length ≤ ts.length := by
  unfold shs
  rw [List.length_map]
  exact List.length_filter_le _ _
noncomputable def LayS (z : Str) : Prop := PyData.canLay0 (.str z) = true
theorem lay_ok {w : List Nat} (h : OkN w) : LayS (mkS w) := by
  unfold LayS
  rw [PyData.canLay0]
  show (w.toArray).all (fun c => decide (c < 0x110000)) = true
  rw [List.all_toArray, List.all_eq_true]
  exact fun c hc => decide_eq_true (Nat.lt_trans (h.2 c hc) (by decide))
noncomputable def SecG (ts : List (Addr × Sec)) : Prop := ∀ e ∈ ts, LayS e.2.k ∧ LayS e.2.n
theorem cutL_map {α β : Type} (f : α → β) (xs : List α) (lo hi : Option Int) : cutL (xs.map f) lo hi = (cutL xs lo hi).map f := by
  unfold cutL
  rw [List.length_map, List.map_take, List.map_drop]
theorem flat_strs (l : List Str) : (l.map V.str).all flatV = true := by simp [List.all_map, flatV]
theorem inV_str {ss : List Str} {z : Str} : inV (.str z) (ss.map V.str) = decide (z ∈ ss) := by
  unfold inV
  rw [List.any_map]
  by_cases h : z ∈ ss
  · rw [decide_eq_true h, List.any_eq_true]
    exact ⟨z, h, by simp [eqV]⟩
  · rw [decide_eq_false h, List.any_eq_false]
    intro y hy
    have : y ≠ z := fun e => h (e ▸ hy)
    simp [eqV, this]
theorem in_str {K : PySem.W.Frag} {H : Hp} {Q : VK} {o : Addr} {ss : List Str} {z : Str} (h : H o = some (.lst (ss.map V.str))) (q : Q (.bl (decide (z ∈ ss))) H) : rInA K (.str z) (.ref o) H Q :=
  .inr ⟨o, _, rfl, .inl (SqL.of h), rfl, flat_strs ss, by rw [if_neg (by simp), inV_str]; exact q⟩
noncomputable def fldI (m : Int) (s b f : Addr) : List (Str × V) := putF "far" (.ref f) (putF "body" (.ref b) (putF "sections" (.ref s) (putF "main" (.int m) [])))
theorem fI_main (m : Int) (s b f : Addr) : (fldI m s b f).lookup ("main" : Str) = some (.int m) := by
  unfold fldI
  rw [lookup_putF, if_neg (by decide +kernel), lookup_putF, if_neg (by decide +kernel), lookup_putF, if_neg (by decide +kernel), lookup_putF, if_pos rfl]
theorem fI_sections (m : Int) (s b f : Addr) : (fldI m s b f).lookup ("sections" : Str) = some (.ref s) := by
  unfold fldI
  rw [lookup_putF, if_neg (by decide +kernel), lookup_putF, if_neg (by decide +kernel), lookup_putF, if_pos rfl]
theorem fI_body (m : Int) (s b f : Addr) : (fldI m s b f).lookup ("body" : Str) = some (.ref b) := by
  unfold fldI
  rw [lookup_putF, if_neg (by decide +kernel), lookup_putF, if_pos rfl]
theorem fI_far (m : Int) (s b f : Addr) : (fldI m s b f).lookup ("far" : Str) = some (.ref f) := by
  unfold fldI
  rw [lookup_putF, if_pos rfl]
theorem fld_new {H : Hp} {p C dx l : Addr} {fs fs' : List (Str × V)} {o : HO} (ep : H p = some (.ins C dx fs)) (nl : upd H p (.ins C dx fs') l = none) :
    ∃ H', (H' p = some (.ins C dx fs') ∧ (∀ c u, H c = some u → c ≠ p → H' c = some u) ∧ (∀ c, upd H p (.ins C dx fs') c = none → H c = none) ∧ ∀ c, H' c = none → H c = none) ∧ H' l = some o ∧ upd (upd H p (.ins C dx fs')) l o = H' := by
  have np : p ≠ l := fun z => by rw [← z, upd_same] at nl; cases nl
  have k : ∀ c, upd H p (.ins C dx fs') c = none → H c = none := fun c h => by
    by_cases z : c = p
    · rw [z, upd_same] at h; cases h
    · rw [upd_ne z] at h; exact h
  refine ⟨_, ⟨by rw [upd_ne np, upd_same], fun c u e nc => ?_, k, fun c h => k c ((Same.upd (Same.refl _) nl).no h)⟩, upd_same, rfl⟩
  have : c ≠ l := fun z => by rw [← z, upd_ne nc, e] at nl; cases nl
  rw [upd_ne this, upd_ne nc]
  exact e
theorem fl3 (m : Int) (s : Addr) : (putF "sections" (V.ref s) (putF "main" (V.int m) [])).length < 1000 := by
  have := length_putF "sections" (V.ref s) (putF "main" (V.int m) []); have := length_putF "main" (V.int m) []; simp at *; omega
theorem fl4 (m : Int) (s b : Addr) : (putF "body" (V.ref b) (putF "sections" (V.ref s) (putF "main" (V.int m) []))).length < 1000 := by
  have := length_putF "body" (V.ref b) (putF "sections" (V.ref s) (putF "main" (V.int m) [])); have := length_putF "sections" (V.ref s) (putF "main" (V.int m) []); have := length_putF "main" (V.int m) []; simp at *; omega
theorem refsS_snoc {α : Type} (ts : List (Addr × α)) (e : Addr × α) : refsS (ts ++ [e]) = refsS ts ++ [V.ref e.1] := by simp [refsS]
noncomputable def mixT (c k : Int) : Int := ((c % 1000000007 + 1) * 48271 % 2147483647) * (16807 + 7919 * k * k + 31 * k) % 2147483629 / 7
theorem mixT_b (c k : Int) : 0 ≤ mixT c k ∧ mixT c k < 306783376 := by unfold mixT; omega
structure SecH where
  k : Str
  n : Str
  sh : Bool
noncomputable def SecHAt (H : Hp) (e : Addr × SecH) : Prop := H e.1 = some (.tup [.str e.2.k, .str e.2.n, .bl e.2.sh])
structure HeadD where
  n : Str
  ss : List (Addr × SecH)
noncomputable def HeadAt (H : Hp) (e : Addr × HeadD) : Prop := ∃ r, H e.1 = some (.tup [.str e.2.n, .ref r]) ∧ H r = some (.lst (refsS e.2.ss)) ∧ ∀ s ∈ e.2.ss, SecHAt H s
noncomputable def GoAt (H : Hp) (e : Addr × (Str × Str)) : Prop := H e.1 = some (.tup [.str e.2.1, .str e.2.2])
noncomputable def DOk (H : Hp) (kvs : List (Key × V)) : Prop := ∀ p ∈ kvs, ∃ z t i kd, p.1 = Sum.inr z ∧ p.2 = V.ref t ∧ H t = some (.tup [.int i, .str kd])
theorem DOk.same {H H' : Hp} {kvs : List (Key × V)} (h : DOk H kvs) (k : Same H H') : DOk H' kvs := fun p hp => let ⟨z, t, i, kd, a, b, c⟩ := h p hp; ⟨z, t, i, kd, a, b, k _ _ c⟩
theorem perm_map {α β : Type} {f : α → β} {l l' : List β} (h : l.Perm l') : ∀ ms : List α, l' = ms.map f → ∃ ms' : List α, ms'.Perm ms ∧ l = ms'.map f := by
  induction h with
  | nil =>
    intro ms e
    cases ms with
    | nil => exact ⟨[], .nil, rfl⟩
    | cons _ _ => cases e
  | cons x _ ih =>
    intro ms e
    cases ms with
    | nil => cases e
    | cons m ms =>
      rw [List.map_cons] at e
      injection e with e1 e2
      obtain ⟨ms', p, q⟩ := ih ms e2
      exact ⟨m :: ms', p.cons m, by rw [List.map_cons, e1, q]⟩
  | swap x y l =>
    intro ms e
    match ms, e with
    | [], e => cases e
    | [_], e => simp at e
    | m1 :: m2 :: ms, e =>
      simp only [List.map_cons, List.cons.injEq] at e
      obtain ⟨e1, e2, e3⟩ := e
      exact ⟨m2 :: m1 :: ms, .swap _ _ _, by simp [e1, e2, e3]⟩
  | trans _ _ ih1 ih2 =>
    intro ms e
    obtain ⟨m2, p2, q2⟩ := ih2 ms e
    obtain ⟨m1, p1, q1⟩ := ih1 m2 q2
    exact ⟨m1, p1.trans p2, q1⟩
noncomputable def goF (kd : Str) (gs : List (Addr × (Str × Str))) (i : Nat) : List V := match gs[i]? with
  | some e => if e.2.2 = kd then [V.str e.2.1] else []
  | none => []
theorem goF_strs (kd : Str) (gs : List (Addr × (Str × Str))) : ∀ n, ∃ ys : List Str, (List.range n).flatMap (goF kd gs) = ys.map V.str
  | 0 => ⟨[], rfl⟩
  | n + 1 => by
    obtain ⟨ys, e⟩ := goF_strs kd gs n
    rw [List.range_succ, List.flatMap_append, e, List.flatMap_cons, List.flatMap_nil, List.append_nil]
    unfold goF
    split
    · split
      · exact ⟨ys ++ [_], by rw [List.map_append]; rfl⟩
      · exact ⟨ys, by simp⟩
    · exact ⟨ys, by simp⟩
theorem KeepSt.twoOne {x y : V} {z : Option V} : KeepSt [none, none, z] [some x, some y, z] := ⟨rfl, fun i v h => by
  match i with
  | 0 => cases h
  | 1 => cases h
  | i + 2 => exact h⟩
noncomputable def lamP : Pos := ⟨28, 29, 28, 51⟩
noncomputable def lamQ : Str := Str.ofString "by_names.<locals>.<lambda>"
structure PM where
  a : Addr
  n : Str
  ts : List (Addr × Sec)
noncomputable def PMAt (C : Addr) (H : Hp) (m : PM) : Prop := ∃ dx s w l, H m.a = some (.ins C dx (fldP m.n s w l)) ∧ H s = some (.lst (refsS m.ts)) ∧ SecsAt H m.ts
theorem PMAt.stay {C Pt : Addr} {H H' : Hp} {m : PM} (hp : ∃ ps, H Pt = some (.tbl ps)) (h : PMAt C H m) (k : Stay Pt H H') : PMAt C H' m := by
  obtain ⟨ps, hp⟩ := hp
  obtain ⟨dx, s, w, l, a, b, c⟩ := h
  have ne : ∀ {q : Addr} {o : HO}, H q = some o → (∀ ps, o ≠ .tbl ps) → q ≠ Pt := fun {q o} e d z => by rw [z, hp] at e; exact d _ (Option.some.inj e).symm
  exact ⟨dx, s, w, l, k _ _ (ne a fun _ z => nomatch z) a, k _ _ (ne b fun _ z => nomatch z) b, fun e he => let ⟨r, x, y⟩ := c e he; ⟨r, k _ _ (ne x fun _ z => nomatch z) x, k _ _ (ne y fun _ z => nomatch z) y⟩⟩
theorem PMAt.same {C : Addr} {H H' : Hp} {m : PM} (h : PMAt C H m) (k : Same H H') : PMAt C H' m := by
  obtain ⟨dx, s, w, l, a, b, c⟩ := h
  exact ⟨dx, s, w, l, k _ _ a, k _ _ b, c.same k⟩
theorem tcomp_dict {src : List (Option Nat)} {g : TG} {tc : TT} {te tl : TE} {σ : St} {H : Hp} {Q : VK} {d : Addr} {kvs : List (Key × V)} (hte : ∀ R : VK, R (.ref d) H → tl σ H R) (hr : Rd H d (.dK kvs)) (Pv : Obj → Hp → Nat → List V → Hp → Prop) (h0 : ∀ o H2, Frz d o kvs H H2 → Pv o H2 0 [] H2)
    (hl : ∀ o H2 i ys H', Pv o H2 i ys H' → H' d = some (.frz o (.dK kvs))) (hz : kvs.length ≤ sizeLine)
    (hs : ∀ (o : Obj) (H2 : Hp) (i : Nat) (x : V) (ys : List V) (H' : Hp) (Cy : VK) (Cn : Hp → Prop), (kvs.map fun p => kV p.1)[i]? = some x → Pv o H2 i ys H' → (∀ y H4, Pv o H2 (i + 1) (ys ++ [y]) H4 → Cy y H4) → (∀ H3, Pv o H2 (i + 1) ys H3 → Cn H3) →
      g x (stComp src σ) H' fun σ2 H2 => KeepSt (stComp src σ) σ2 ∧ tc σ2 H2 fun b H3 => if b = true then te σ2 H3 Cy else Cn H3)
    (hd : ∀ o H2 ys H' l, Pv o H2 kvs.length ys H' → H' l = none → Q (.ref l) (upd H' l (.lst ys))) : tComp src (iDict tl) g tc te σ H Q :=
  hte _ ⟨d, kvs, rfl, hr, fun o H2 fz => comp_walkP (xs := kvs.map fun p => kV p.1) (Pv o H2) (h0 o H2 fz) (wk_dict fun H' ⟨i, ys, z⟩ => hl o H2 i ys H' z) (by rw [List.length_map]; exact hz) (fun i x ys H' Cy Cn hx p cy cn => hs o H2 i x ys H' Cy Cn hx p cy cn) (fun ys H' l p n => hd o H2 ys H' l (by rw [List.length_map] at p; exact p) n)⟩
theorem rd_neL {H : Hp} {d q : Addr} {kvs : List (Key × V)} {xs : List V} (h : Rd H d (.dK kvs)) (e : H q = some (.lst xs)) : q ≠ d := fun z => by
  rw [z] at e
  rcases h with h | ⟨o, h⟩ <;> (rw [h] at e; cases e)
theorem rd_neT {H : Hp} {d q : Addr} {kvs : List (Key × V)} {xs : List V} (h : Rd H d (.dK kvs)) (e : H q = some (.tup xs)) : q ≠ d := fun z => by
  rw [z] at e
  rcases h with h | ⟨o, h⟩ <;> (rw [h] at e; cases e)
theorem rd_same {H H' : Hp} {d : Addr} {u : HO} (h : Rd H d u) (k : Same H H') : Rd H' d u := by
  rcases h with h | ⟨o, h⟩
  · exact .inl (k _ _ h)
  · exact .inr ⟨o, k _ _ h⟩
theorem _root_.L2.Stay.no {H H' : Hp} {d l : Addr} {u : HO} (T : Stay d H H') (r : Rd H' d u) (n : H' l = none) : H l = none := by
  cases e : H l with
  | none => rfl
  | some o =>
    by_cases z : l = d
    · subst z
      rcases r with r | ⟨_, r⟩ <;> (rw [n] at r; cases r)
    · rw [T _ _ z e] at n; cases n
theorem Stay.set {H H' : Hp} {d l : Addr} {o : HO} (T : Stay d H H') (n : H l = none) : Stay d H (upd H' l o) := fun b u hb e => keepU (T b u hb e) (ne_of_none e n)
theorem rd_set {H : Hp} {d l : Addr} {u o : HO} {xs : List V} (r : Rd H d u) (h : H l = some (.lst xs)) (hu : ∀ ys, u ≠ .lst ys) : Rd (upd H l o) d u := by
  have ne : d ≠ l := fun z => by
    subst z
    rcases r with r | ⟨_, r⟩
    · rw [r] at h; exact hu _ (Option.some.inj h)
    · rw [r] at h; cases h
  rcases r with r | ⟨q, r⟩
  · exact .inl (keepU r ne)
  · exact .inr ⟨q, keepU r ne⟩
theorem notInL {K : PySem.W.Frag} {H : Hp} {f : Addr} {ws : List Str} {z : Str} {F : VK} (h : H f = some (.lst (ws.map V.str))) (q : ∀ b, F (.bl b) H) : rNotInA K (.str z) (.ref f) H F :=
  .inr ⟨f, _, rfl, .inl (SqL.of h), rfl, flat_strs ws, q _⟩
theorem DOk.stay {H H' : Hp} {d : Addr} {kvs : List (Key × V)} (h : DOk H kvs) (r : Rd H d (.dK kvs)) (k : Stay d H H') : DOk H' kvs := fun p hp => let ⟨z, t, i, kd, a, b, c⟩ := h p hp; ⟨z, t, i, kd, a, b, k _ _ (rd_neT r c) c⟩
theorem HeadAt.stay {H H' : Hp} {d : Addr} {kvs : List (Key × V)} {e : Addr × HeadD} (h : HeadAt H e) (r : Rd H d (.dK kvs)) (k : Stay d H H') : HeadAt H' e := let ⟨q, a, b, c⟩ := h; ⟨q, k _ _ (rd_neT r a) a, k _ _ (rd_neL r b) b, fun s hs => k _ _ (rd_neT r (c s hs)) (c s hs)⟩
noncomputable def InD (kvs : List (Key × V)) (z : Str) : Prop := ∃ p ∈ kvs, p.1 = Sum.inr z
theorem InD.val {H : Hp} {kvs : List (Key × V)} {z : Str} (h : InD kvs z) (k : DOk H kvs) : ∃ t i kd, valV kvs (Sum.inr z) = some (V.ref t) ∧ H t = some (.tup [.int i, .str kd]) := by
  obtain ⟨p, hp, e⟩ := h
  induction kvs with
  | nil => cases hp
  | cons q r ih =>
    by_cases eq : q.1 = Sum.inr z
    · obtain ⟨z', t, i, kd, a, b, c⟩ := k q List.mem_cons_self
      exact ⟨t, i, kd, by rw [valV_pos eq, b], c⟩
    · rw [valV_neg eq]
      refine ih (fun p hp => k p (List.mem_cons_of_mem _ hp)) ?_
      rcases List.mem_cons.mp hp with h | h
      · rw [h] at e; exact absurd e eq
      · exact h
structure Md where
  n : Str
  ts : List (Addr × Sec)
noncomputable def MdAt (H : Hp) (e : Addr × Md) : Prop := ∃ s w l ws ps, H e.1 = some (.tup [.str e.2.n, .ref s, .ref w, .ref l]) ∧ H s = some (.lst (refsS e.2.ts)) ∧ SecsAt H e.2.ts ∧ H w = some (.lst (List.map V.str ws)) ∧ H l = some (.lst ps)
theorem MdAt.same {H H' : Hp} {e : Addr × Md} (h : MdAt H e) (k : Same H H') : MdAt H' e := let ⟨s, w, l, ws, ps, a, b, c, d, f⟩ := h; ⟨s, w, l, ws, ps, k _ _ a, k _ _ b, c.same k, k _ _ d, k _ _ f⟩
structure Rw where
  p : Str
  s : Str
  k : Str
  at' : Int
  z : Int
noncomputable def RwAt (H : Hp) (e : Addr × Rw) : Prop := H e.1 = some (.tup [.str e.2.p, .str e.2.s, .str e.2.k, .int e.2.at', .int e.2.z])
noncomputable def stepR (a : List Rw × Int) (x : Str × Sec) : List Rw × Int := (a.1 ++ [⟨x.1, x.2.n, x.2.k, a.2, x.2.row.length⟩], a.2 + x.2.row.length)
noncomputable def placeR (I : List (Str × Sec)) : List Rw × Int := I.foldl stepR ([], 0)
theorem placeR_snoc (I : List (Str × Sec)) (x : Str × Sec) : placeR (I ++ [x]) = stepR (placeR I) x := by simp [placeR, List.foldl_append]
theorem placeR_len (I : List (Str × Sec)) : (placeR I).1.length = I.length := by
  have : ∀ (I : List (Str × Sec)) (a : List Rw × Int), (I.foldl stepR a).1.length = a.1.length + I.length := by
    intro I
    induction I with
    | nil => intro a; rfl
    | cons x r ih => intro a; rw [List.foldl_cons, ih]; simp [stepR]; omega
  have := this I ([], 0)
  simpa [placeR] using this
noncomputable def itm (kd n : Str) (ss : List Sec) : List (Str × Sec) := (ss.filter fun s => decide (s.k = kd)).map fun s => (n, s)
theorem itm_snoc (kd n : Str) (ss : List Sec) (s : Sec) : itm kd n (ss ++ [s]) = if s.k = kd then itm kd n ss ++ [(n, s)] else itm kd n ss := by
  unfold itm
  rw [List.filter_append]
  by_cases h : s.k = kd <;> simp [h]
noncomputable def secs (ts : List (Addr × Sec)) : List Sec := ts.map (·.2)
theorem itm_len (kd n : Str) (ss : List Sec) : (itm kd n ss).length ≤ ss.length := by
  unfold itm
  rw [List.length_map]
  exact List.length_filter_le _ _
noncomputable def dkS (es : List (Addr × (Str × Str))) : List (Key × V) := es.map fun e => (Sum.inr e.2.2, V.ref e.1)
noncomputable def layI (kd : Str) (ns : List Str) (ms : List (Addr × Md)) : List (Str × Sec) := ns.flatMap fun n => ms.flatMap fun e => if e.2.n = n then itm kd n (secs e.2.ts) else []
theorem putK_new {kvs : List (Key × V)} {k : Key} {v : V} (h : valV kvs k = none) : putK kvs k v = kvs ++ [(k, v)] := by
  unfold putK
  rw [valV_any, h]
  rfl
theorem valV_dkS {es : List (Addr × (Str × Str))} {z : Str} (h : z ∉ es.map (·.2.2)) : valV (dkS es) (Sum.inr z) = none := by
  induction es with
  | nil => rfl
  | cons e r ih =>
    rw [List.map_cons, List.mem_cons, not_or] at h
    show valV ((Sum.inr e.2.2, V.ref e.1) :: dkS r) (Sum.inr z) = none
    rw [valV_neg (fun q => h.1 (by injection q with q; exact q.symm))]
    exact ih h.2
theorem nd_step {α : Type} {ms : List α} {f : α → List Str} (nd : (ms.flatMap f).Nodup) {i : Nat} {m : α} (hm : ms[i]? = some m) {pre post : List Str} {z : Str} (h : f m = pre ++ z :: post) : z ∉ (ms.take i).flatMap f ++ pre := by
  obtain ⟨hi, e⟩ := List.getElem?_eq_some_iff.mp hm
  have e1 : ms = ms.take i ++ m :: ms.drop (i + 1) := by
    rw [← e, List.getElem_cons_drop, List.take_append_drop]
  rw [e1, List.flatMap_append, List.flatMap_cons, h, ← List.append_assoc, ← List.append_assoc, List.append_assoc (_ ++ pre)] at nd
  intro hz
  exact (List.nodup_append.mp nd).2.2 z hz z (by simp) rfl
theorem shs_at {ts : List (Addr × Sec)} {j : Nat} {e : Addr × Sec} (h : ts[j]? = some e) (hs : e.2.sh = true) : ∃ post, shs ts = shs (ts.take j) ++ e.2.n :: post := by
  obtain ⟨hi, ee⟩ := List.getElem?_eq_some_iff.mp h
  refine ⟨shs (ts.drop (j + 1)), ?_⟩
  have e1 : ts = ts.take j ++ e :: ts.drop (j + 1) := by
    rw [← ee, List.getElem_cons_drop, List.take_append_drop]
  have : shs (ts.take j ++ e :: ts.drop (j + 1)) = shs (ts.take j) ++ e.2.n :: shs (ts.drop (j + 1)) := by
    unfold shs
    rw [List.filter_append, List.map_append, List.filter_cons_of_pos (by simpa using hs), List.map_cons]
  rw [← e1] at this
  exact this
theorem GoAt.set {H : Hp} {d : Addr} {kvs : List (Key × V)} {o : HO} {e : Addr × (Str × Str)} (h : GoAt H e) (k : H d = some (.dK kvs)) : GoAt (upd H d o) e := keepU h (fun z => by unfold GoAt at h; rw [z, k] at h; cases h)
noncomputable def Lv (H : Hp) (l : Addr) (I : List (Str × Sec)) (N : Nat) : Prop := ∃ rs : List (Addr × Rw), H l = some (.lst (refsS rs)) ∧ (∀ e ∈ rs, RwAt H e) ∧ rs.map (·.2) = (placeR I).1 ∧ I.length ≤ N
theorem Lv.same {H H' : Hp} {l : Addr} {I : List (Str × Sec)} {N : Nat} (h : Lv H l I N) (k : Same H H') : Lv H' l I N := let ⟨rs, a, b, c, d⟩ := h; ⟨rs, k _ _ a, fun e he => k _ _ (b e he), c, d⟩
theorem Lv.more {H : Hp} {l : Addr} {I : List (Str × Sec)} {N M : Nat} (h : Lv H l I N) (k : N ≤ M) : Lv H l I M := let ⟨rs, a, b, c, d⟩ := h; ⟨rs, a, b, c, Nat.le_trans d k⟩
theorem Lv.add {H : Hp} {l : Addr} {I : List (Str × Sec)} {N : Nat} (h : Lv H l I N) (n : Str) (s : Sec) : ∃ xs, H l = some (.lst xs) ∧ xs.length ≤ N ∧ ∀ t, H t = none → Lv (upd (upd H t (.tup [.str n, .str s.n, .str s.k, .int (placeR I).2, .int s.row.length])) l (.lst (xs ++ [.ref t]))) l (I ++ [(n, s)]) (N + 1) := by
  obtain ⟨rs, a, b, c, d⟩ := h
  have ll : rs.length = I.length := by rw [← placeR_len I, ← c, List.length_map]
  refine ⟨refsS rs, a, by simp only [refsS, List.length_map]; omega, fun t nt => ⟨rs ++ [(t, ⟨n, s.n, s.k, (placeR I).2, s.row.length⟩)], by rw [upd_same, refsS_snoc], fun e he => ?_, ?_, by simp; omega⟩⟩
  · have nl : t ≠ l := (ne_of_none a nt).symm
    rcases List.mem_append.mp he with h | h
    · have := b e h
      exact keepU (keepU this (ne_of_none this nt)) (fun z => by unfold RwAt at this; rw [z, a] at this; cases this)
    · rw [List.mem_singleton.mp h]
      exact keepU upd_same nl
  · rw [List.map_append, c, placeR_snoc]
    rfl
theorem zip_snoc {α β : Type} : ∀ {ks : List α} {ns : List β} {k : α} {n : β}, ks[ns.length]? = some k → ks.zip (ns ++ [n]) = ks.zip ns ++ [(k, n)]
  | [], _, _, _, h => by cases h
  | a :: r, [], k, n, h => by cases h; simp
  | a :: r, b :: t, k, n, h => by
    have := zip_snoc (ks := r) (ns := t) (k := k) (n := n) (by simpa using h)
    simp [this]
noncomputable def kds : List Str := [Str.ofString "code", Str.ofString "data"]
noncomputable def layK (ns : List (List Str)) (ms : List (Addr × Md)) : List (Str × Sec) := (kds.zip ns).flatMap fun p => layI p.1 p.2 ms
theorem layK_snoc {ns : List (List Str)} {ms : List (Addr × Md)} {kd : Str} {n : List Str} (h : kds[ns.length]? = some kd) : layK (ns ++ [n]) ms = layK ns ms ++ layI kd n ms := by
  unfold layK
  rw [zip_snoc h, List.flatMap_append]
  simp
theorem kds_at {i : Nat} {x : V} (h : [V.str (Str.ofString "code"), V.str (Str.ofString "data")][i]? = some x) : ∃ kd, kds[i]? = some kd ∧ x = V.str kd := by
  match i, h with
  | 0, h => cases h; exact ⟨_, rfl, rfl⟩
  | 1, h => cases h; exact ⟨_, rfl, rfl⟩
  | i + 2, h => cases h
noncomputable def layQ (kd nm n : Str) (ts : List (Addr × Sec)) : List (Str × Sec) := if n = nm then itm kd nm (secs ts) else []
noncomputable def layP (kd nm : Str) (e : Addr × Md) : List (Str × Sec) := layQ kd nm e.2.n e.2.ts
theorem layQ_nil (kd nm n : Str) : layQ kd nm n [] = [] := by unfold layQ; split <;> rfl
theorem flat_snoc {α β : Type} {ms : List α} {f : α → List β} {i : Nat} {m : α} (h : ms[i]? = some m) : (ms.take (i + 1)).flatMap f = (ms.take i).flatMap f ++ f m := by
  rw [take_snoc h, List.flatMap_append]
  simp
theorem secs_snoc {ts : List (Addr × Sec)} {k : Nat} {e : Addr × Sec} (h : ts[k]? = some e) : secs (ts.take (k + 1)) = secs (ts.take k) ++ [e.2] := by
  unfold secs
  rw [take_snoc h, List.map_append]
  rfl
theorem layQ_snoc {kd nm n : Str} {ts : List (Addr × Sec)} {k : Nat} {e : Addr × Sec} (h : ts[k]? = some e) : layQ kd nm n (ts.take (k + 1)) = layQ kd nm n (ts.take k) ++ (if n = nm then if e.2.k = kd then [(nm, e.2)] else [] else []) := by
  unfold layQ
  by_cases h1 : n = nm
  · rw [if_pos h1, if_pos h1, if_pos h1, secs_snoc h, itm_snoc]
    by_cases h2 : e.2.k = kd
    · rw [if_pos h2, if_pos h2]
    · rw [if_neg h2, if_neg h2, List.append_nil]
  · rw [if_neg h1, if_neg h1, if_neg h1]
    rfl
theorem TabAt.same' {Pt : Addr} {pos : Pos} {q : Str} {H H' : Hp} (h : TabAt Pt pos q H) (k : Same H H') : TabAt Pt pos q H' := by
  rcases h with h | ⟨c, h, h2⟩
  · exact .inl (k _ _ h)
  · exact .inr ⟨c, k _ _ h, k _ _ h2⟩
theorem TabAt.set' {Pt l : Addr} {pos : Pos} {q : Str} {H : Hp} {xs : List V} {o : HO} (h : TabAt Pt pos q H) (e : H l = some (.lst xs)) : TabAt Pt pos q (upd H l o) := by
  have ne : ∀ {b : Addr} {u : HO}, H b = some u → (∀ ys, u ≠ .lst ys) → b ≠ l := fun {b u} eb d z => by rw [z, e] at eb; exact d _ (Option.some.inj eb).symm
  rcases h with h | ⟨c, h, h2⟩
  · exact .inl (keepU h (ne h fun _ z => nomatch z))
  · exact .inr ⟨c, keepU h (ne h fun _ z => nomatch z), keepU h2 (ne h2 fun _ z => nomatch z)⟩
theorem stayN {Pt : Addr} {H H' : Hp} {ps : Array Value} (hp : H Pt = some (.tbl ps)) (k : Stay Pt H H') {q : Addr} {o : HO} (e : H q = some o) (d : ∀ ps, o ≠ .tbl ps) : H' q = some o := k _ _ (fun z => by rw [z, hp] at e; exact d _ (Option.some.inj e).symm) e
noncomputable def itP (kd : Str) (m : PM) : List (Str × Sec) := itm kd m.n (secs m.ts)
noncomputable def SrtP (ms : List PM) : Prop := ms.Pairwise (fun p q => p.n.cps.toList ≤ q.n.cps.toList)
noncomputable def lidK (ns : List (List PM)) : List (Str × Sec) := (kds.zip ns).flatMap fun q => q.2.flatMap (itP q.1)
theorem lidK_snoc {ns : List (List PM)} {kd : Str} {n : List PM} (h : kds[ns.length]? = some kd) : lidK (ns ++ [n]) = lidK ns ++ n.flatMap (itP kd) := by
  unfold lidK
  rw [zip_snoc h, List.flatMap_append]
  simp
theorem getM {ms : List PM} {i : Nat} {x : V} (h : (ms.map fun m => V.ref m.a)[i]? = some x) : ∃ m, ms[i]? = some m ∧ x = V.ref m.a := by
  rw [List.getElem?_map] at h
  cases e : ms[i]? with
  | none => rw [e] at h; cases h
  | some m => rw [e] at h; cases h; exact ⟨m, rfl, rfl⟩
theorem getZ {ws : List Str} {i : Nat} {x : V} (h : (ws.map V.str)[i]? = some x) : ∃ z, ws[i]? = some z ∧ x = V.str z := by
  rw [List.getElem?_map] at h
  cases e : ws[i]? with
  | none => rw [e] at h; cases h
  | some m => rw [e] at h; cases h; exact ⟨m, rfl, rfl⟩
noncomputable def mainL : List Nat := [109, 97, 105, 110]
theorem l_main : Str.ofString "main" = mkS mainL := by decide +kernel
noncomputable def shH (ss : List (Addr × SecH)) : List Str := (ss.filter fun e => e.2.sh).map fun e => e.2.n
noncomputable def HeadOk (e : HeadD) : Prop := LayS e.n ∧ e.ss.length ≤ 4 ∧ ∀ s ∈ e.ss, LayS s.2.k ∧ LayS s.2.n
noncomputable def hdr (x : Addr × Sec) : SecH := ⟨x.2.k, x.2.n, x.2.sh⟩
noncomputable def MdN (w : Addr) (H0 H : Hp) (e : Addr × Md) : Prop := ∃ s l ws ps, H e.1 = some (.tup [.str e.2.n, .ref s, .ref w, .ref l]) ∧ H s = some (.lst (refsS e.2.ts)) ∧ (∀ x ∈ e.2.ts, ∃ r, H x.1 = some (.tup [.str x.2.k, .str x.2.n, .bl x.2.sh, .ref r]) ∧ H r = some (.lst (x.2.row.map V.int)) ∧ H0 r = none) ∧ H w = some (.lst (List.map V.str ws)) ∧ H l = some (.lst ps) ∧ H0 s = none ∧ H0 l = none
noncomputable def MdX (f : Addr) (H : Hp) (e : Addr × Md) : Prop := ∃ s w l ws ps, H e.1 = some (.tup [.str e.2.n, .ref s, .ref w, .ref l]) ∧ H s = some (.lst (refsS e.2.ts)) ∧ (∀ x ∈ e.2.ts, ∃ r, H x.1 = some (.tup [.str x.2.k, .str x.2.n, .bl x.2.sh, .ref r]) ∧ H r = some (.lst (x.2.row.map V.int)) ∧ r ≠ f) ∧ H w = some (.lst (List.map V.str ws)) ∧ H l = some (.lst ps) ∧ s ≠ f ∧ w ≠ f ∧ l ≠ f
theorem MdX.at {f : Addr} {H : Hp} {e : Addr × Md} (h : MdX f H e) : MdAt H e := let ⟨s, w, l, ws, ps, a, b, c, d, g, _⟩ := h; ⟨s, w, l, ws, ps, a, b, fun x hx => let ⟨r, y, z, _⟩ := c x hx; ⟨r, y, z⟩, d, g⟩
theorem MdX.same {f : Addr} {H H' : Hp} {e : Addr × Md} (h : MdX f H e) (k : Same H H') : MdX f H' e := let ⟨s, w, l, ws, ps, a, b, c, d, g, i⟩ := h; ⟨s, w, l, ws, ps, k _ _ a, k _ _ b, fun x hx => let ⟨r, y, z, u⟩ := c x hx; ⟨r, k _ _ y, k _ _ z, u⟩, k _ _ d, k _ _ g, i⟩
theorem MdX.stay {f d : Addr} {H H' : Hp} {kvs : List (Key × V)} {e : Addr × Md} (h : MdX f H e) (r : Rd H d (.dK kvs)) (k : Stay d H H') : MdX f H' e := let ⟨s, w, l, ws, ps, a, b, c, d, g, i⟩ := h; ⟨s, w, l, ws, ps, k _ _ (rd_neT r a) a, k _ _ (rd_neL r b) b, fun x hx => let ⟨q, y, z, u⟩ := c x hx; ⟨q, k _ _ (rd_neT r y) y, k _ _ (rd_neL r z) z, u⟩, k _ _ (rd_neL r d) d, k _ _ (rd_neL r g) g, i⟩
theorem MdX.set {f : Addr} {H : Hp} {xs : List V} {o : HO} {e : Addr × Md} (h : MdX f H e) (hf : H f = some (.lst xs)) : MdX f (upd H f o) e := by
  obtain ⟨s, w, l, ws, ps, a, b, c, d, g, i1, i2, i3⟩ := h
  have ne : ∀ {q : Addr} {ys : List V}, H q = some (.tup ys) → q ≠ f := fun {q ys} e z => by rw [z, hf] at e; cases e
  exact ⟨s, w, l, ws, ps, keepU a (ne a), keepU b i1, fun x hx => let ⟨q, y, z, u⟩ := c x hx; ⟨q, keepU y (ne y), keepU z u, u⟩, keepU d i2, keepU g i3, i1, i2, i3⟩
theorem MdN.x {w f : Addr} {H0 H : Hp} {o : HO} {e : Addr × Md} (h : MdN w H0 H e) (hf : H0 f = some o) (hw : w ≠ f) : MdX f H e := by
  obtain ⟨s, l, ws, ps, a, b, c, d, g, i1, i2⟩ := h
  exact ⟨s, w, l, ws, ps, a, b, fun x hx => let ⟨q, y, z, u⟩ := c x hx; ⟨q, y, z, (ne_of_none hf u).symm⟩, d, g, (ne_of_none hf i1).symm, hw, (ne_of_none hf i2).symm⟩
noncomputable def hd2 (e : Addr × Md) : Str × List SecH := (e.2.n, e.2.ts.map hdr)
noncomputable def hd1 (e : Addr × HeadD) : Str × List SecH := (e.2.n, e.2.ss.map (·.2))
noncomputable def shD (l : List SecH) : List Str := (l.filter (·.sh)).map (·.n)
theorem shs_hdr (ts : List (Addr × Sec)) : shs ts = shD (ts.map hdr) := by
  unfold shs shD
  rw [List.filter_map, List.map_map]
  rfl
theorem shH_hdr (ss : List (Addr × SecH)) : shH ss = shD (ss.map (·.2)) := by
  unfold shH shD
  rw [List.filter_map, List.map_map]
  rfl
noncomputable def nmF (ls : List (List Nat)) (X : Int) (j : Nat) : Str := mkS (ls.getD ((X + 3 * (j : Int)) % 20).toNat [])
theorem nmF_nodup {ls : List (List Nat)} (l20 : ls.length = 20) (nd : ls.Nodup) (X : Int) {n : Nat} (hn : n ≤ 6) : ((List.range n).map (nmF ls X)).Nodup := by
  refine List.pairwise_map.mpr ((List.pairwise_lt_range (n := n)).imp_of_mem fun {a b} ha hb hab he => ?_)
  rw [List.mem_range] at ha hb
  unfold nmF at he
  have h1 : ((X + 3 * (a : Int)) % 20).toNat < ls.length := by omega
  have h2 : ((X + 3 * (b : Int)) % 20).toNat < ls.length := by omega
  rw [mk_iff] at he
  have := (List.getD_inj h1 h2 nd).mp he
  omega
theorem nm_at {ls : List (List Nat)} (l20 : ls.length = 20) (i : Int) : ∃ w ∈ ls, ls[(i % 20).toNat]? = some w := by
  have h : (i % 20).toNat < ls.length := by omega
  exact ⟨ls[(i % 20).toNat], List.getElem_mem _, List.getElem?_eq_getElem h⟩
noncomputable def KyI (H : Hp) (d : Addr) (kvs : List (Key × V)) (keys : List Str) (N : Nat) : Prop := H d = some (.dK kvs) ∧ DOk H kvs ∧ kvs.map (·.1) = keys.map Sum.inr ∧ keys.Nodup ∧ kvs.length ≤ N
theorem KyI.same {H H' : Hp} {d : Addr} {kvs : List (Key × V)} {keys : List Str} {N : Nat} (h : KyI H d kvs keys N) (k : Same H H') : KyI H' d kvs keys N := ⟨k _ _ h.1, h.2.1.same k, h.2.2⟩
theorem KyI.more {H : Hp} {d : Addr} {kvs : List (Key × V)} {keys : List Str} {N M : Nat} (h : KyI H d kvs keys N) (k : N ≤ M) : KyI H d kvs keys M := ⟨h.1, h.2.1, h.2.2.1, h.2.2.2.1, Nat.le_trans h.2.2.2.2 k⟩
theorem KyI.set {H : Hp} {d s : Addr} {kvs : List (Key × V)} {keys : List Str} {N : Nat} {xs : List V} {o : HO} (h : KyI H d kvs keys N) (e : H s = some (.lst xs)) : KyI (upd H s o) d kvs keys N := by
  obtain ⟨a, b, c⟩ := h
  refine ⟨keepU a (fun z => by rw [z, e] at a; cases a), fun p hp => ?_, c⟩
  obtain ⟨z, t, i, kd, x, y, u⟩ := b p hp
  exact ⟨z, t, i, kd, x, y, keepU u (fun z => by rw [z, e] at u; cases u)⟩
theorem KyI.val {H : Hp} {d : Addr} {kvs : List (Key × V)} {keys : List Str} {N : Nat} (h : KyI H d kvs keys N) {z : Str} : z ∉ keys ↔ valV kvs (Sum.inr z) = none := by
  have e : z ∈ keys ↔ (Sum.inr z : Key) ∈ kvs.map (·.1) := by
    rw [h.2.2.1, List.mem_map]
    exact ⟨fun q => ⟨z, q, rfl⟩, fun ⟨y, a, b⟩ => by injection b with b; rw [← b]; exact a⟩
  constructor
  · intro q
    cases v : valV kvs (Sum.inr z) with
    | none => rfl
    | some v' => exact absurd (e.mpr (valV_in v)) q
  · intro q hz
    exact valV_not q (e.mp hz)
theorem KyI.put {H : Hp} {d t : Addr} {kvs : List (Key × V)} {keys : List Str} {N : Nat} {z kd : Str} {i : Int} (h : KyI H d kvs keys N) (hz : z ∉ keys) (et : H t = some (.tup [.int i, .str kd])) : KyI (upd H d (.dK (putK kvs (Sum.inr z) (.ref t)))) d (putK kvs (Sum.inr z) (.ref t)) (keys ++ [z]) (N + 1) := by
  rw [putK_new (h.val.mp hz)]
  obtain ⟨a, b, c, nd, l⟩ := h
  refine ⟨upd_same, fun p hp => ?_, by rw [List.map_append, c, List.map_append]; rfl, ?_, by rw [List.length_append]; exact Nat.succ_le_succ l⟩
  · have ne : ∀ {q : Addr} {ys : List V}, H q = some (.tup ys) → q ≠ d := fun {q ys} e z => by rw [z, a] at e; cases e
    rcases List.mem_append.mp hp with hp | hp
    · obtain ⟨z, t, i, kd, x, y, u⟩ := b p hp
      exact ⟨z, t, i, kd, x, y, keepU u (ne u)⟩
    · rw [List.mem_singleton.mp hp]
      exact ⟨z, t, i, kd, rfl, rfl, keepU et (ne et)⟩
  · exact List.nodup_append.mpr ⟨nd, by simp, fun x hx y hy e => hz (by rw [List.mem_singleton.mp hy] at e; rw [← e]; exact hx)⟩
noncomputable def SsI (H : Hp) (s : Addr) (ss : List (Addr × SecH)) (j : Nat) : Prop := H s = some (.lst (refsS ss)) ∧ ss.length ≤ j ∧ ∀ x ∈ ss, SecHAt H x ∧ LayS x.2.k ∧ LayS x.2.n
theorem SsI.same {H H' : Hp} {s : Addr} {ss : List (Addr × SecH)} {j : Nat} (h : SsI H s ss j) (k : Same H H') : SsI H' s ss j := ⟨k _ _ h.1, h.2.1, fun x hx => ⟨k _ _ (h.2.2 x hx).1, (h.2.2 x hx).2⟩⟩
theorem SsI.setD {H : Hp} {s d : Addr} {ss : List (Addr × SecH)} {j : Nat} {kvs : List (Key × V)} {o : HO} (h : SsI H s ss j) (e : H d = some (.dK kvs)) : SsI (upd H d o) s ss j :=
  ⟨keepU h.1 (fun z => by have := h.1; rw [z, e] at this; cases this), h.2.1, fun x hx => ⟨keepU (h.2.2 x hx).1 (fun z => by have := (h.2.2 x hx).1; unfold SecHAt at this; rw [z, e] at this; cases this), (h.2.2 x hx).2⟩⟩
theorem SsI.ins {H : Hp} {s t : Addr} {ss : List (Addr × SecH)} {j : Nat} {x : SecH} (h : SsI H s ss j) (et : H t = some (.tup [.str x.k, .str x.n, .bl x.sh])) (l1 : LayS x.k) (l2 : LayS x.n) (n : Nat) : SsI (upd H s (.lst ((refsS ss).take n ++ V.ref t :: (refsS ss).drop n))) s (ss.take n ++ (t, x) :: ss.drop n) (j + 1) := by
  obtain ⟨a, b, c⟩ := h
  have ne : ∀ {q : Addr} {ys : List V}, H q = some (.tup ys) → q ≠ s := fun {q ys} e z => by rw [z, a] at e; cases e
  refine ⟨by rw [upd_same]; simp [refsS, List.map_take, List.map_drop], by simp; omega, fun y hy => ?_⟩
  rcases List.mem_append.mp hy with hy | hy
  · have := c y (List.mem_of_mem_take hy)
    exact ⟨keepU this.1 (ne this.1), this.2⟩
  · rcases List.mem_cons.mp hy with hy | hy
    · rw [hy]
      exact ⟨keepU et (ne et), l1, l2⟩
    · have := c y (List.mem_of_mem_drop hy)
      exact ⟨keepU this.1 (ne this.1), this.2⟩
theorem shH_snoc (ss : List (Addr × SecH)) (e : Addr × SecH) : shH (ss ++ [e]) = if e.2.sh = true then shH ss ++ [e.2.n] else shH ss := by
  unfold shH
  rw [List.filter_append]
  cases h : e.2.sh <;> simp [h]
theorem shH_perm {a b : List (Addr × SecH)} (h : a.Perm b) : (shH a).Perm (shH b) := (h.filter _).map _
noncomputable def HeadX (h : Addr) (H : Hp) (e : Addr × HeadD) : Prop := ∃ r, H e.1 = some (.tup [.str e.2.n, .ref r]) ∧ H r = some (.lst (refsS e.2.ss)) ∧ (∀ s ∈ e.2.ss, SecHAt H s) ∧ r ≠ h
theorem HeadX.stay {h d : Addr} {H H' : Hp} {kvs : List (Key × V)} {e : Addr × HeadD} (x : HeadX h H e) (r : Rd H d (.dK kvs)) (k : Stay d H H') : HeadX h H' e := let ⟨q, a, b, c, y⟩ := x; ⟨q, k _ _ (rd_neT r a) a, k _ _ (rd_neL r b) b, fun s hs => k _ _ (rd_neT r (c s hs)) (c s hs), y⟩
theorem HeadX.same {h : Addr} {H H' : Hp} {e : Addr × HeadD} (x : HeadX h H e) (k : Same H H') : HeadX h H' e := let ⟨q, a, b, c, y⟩ := x; ⟨q, k _ _ a, k _ _ b, fun s hs => k _ _ (c s hs), y⟩
theorem HeadX.set {h : Addr} {H : Hp} {xs : List V} {o : HO} {e : Addr × HeadD} (x : HeadX h H e) (eh : H h = some (.lst xs)) : HeadX h (upd H h o) e := by
  obtain ⟨q, a, b, c, y⟩ := x
  have ne : ∀ {q : Addr} {ys : List V}, H q = some (.tup ys) → q ≠ h := fun {q ys} e z => by rw [z, eh] at e; cases e
  exact ⟨q, keepU a (ne a), keepU b y, fun s hs => keepU (c s hs) (ne (c s hs)), y⟩
noncomputable def InN (ls : List (List Nat)) (b : Prop) (z : Str) : Prop := (∃ w ∈ ls, z = mkS w) ∨ (z = mkS mainL ∧ b)
theorem kd3 {j : Nat} (h : j < 3) : ∃ kd : Str, ([V.str (Str.ofString "code"), V.str (Str.ofString "code"), V.str (Str.ofString "data")] : List V)[j]? = some (V.str kd) ∧ LayS kd := by
  have l1 : LayS (Str.ofString "code") := by unfold LayS; decide +kernel
  have l2 : LayS (Str.ofString "data") := by unfold LayS; decide +kernel
  match j, h with
  | 0, _ => exact ⟨_, rfl, l1⟩
  | 1, _ => exact ⟨_, rfl, l1⟩
  | 2, _ => exact ⟨_, rfl, l2⟩
theorem cut_to {α : Type} (l : List α) {k : Int} (h : 0 ≤ k) : cutL l none (some k) = l.take k.toNat := by
  obtain ⟨n, rfl⟩ := Int.eq_ofNat_of_zero_le h
  unfold cutL
  rw [HT.sIx_none, HT.sIx_nat, List.drop_zero, Nat.sub_zero, Int.toNat_natCast]
  by_cases h : n ≤ l.length
  · rw [Nat.min_eq_left h]
  · rw [Nat.min_eq_right (by omega), List.take_length, List.take_of_length_le (by omega)]
theorem cut_mid {α : Type} (l : List α) {a b : Int} (h : 0 ≤ a) (hab : a ≤ b) (hb : b ≤ l.length) : cutL l (some a) (some b) = (l.take b.toNat).drop a.toNat := by
  obtain ⟨m, rfl⟩ := Int.eq_ofNat_of_zero_le h
  obtain ⟨n, rfl⟩ := Int.eq_ofNat_of_zero_le (Int.le_trans h hab)
  unfold cutL
  rw [HT.sIx_nat, HT.sIx_nat, Int.toNat_natCast, Int.toNat_natCast, Nat.min_eq_left (by omega), Nat.min_eq_left (by omega), List.drop_take]
theorem jcut {K : PySem.W.Frag} {H : Hp} {Q : VK} {l : Addr} {fs : List Nat} {lo hi : Option Int} (h : H l = some (.lst (fs.map fun c => V.str (mkS [c])))) (lf : fs.length ≤ 100) (q : ∀ H', Same H H' → Q (.str (mkS (cutL fs lo hi))) H') : rSlA K (.ref l) lo hi H fun x H1 => rJoin K (.str (mkS [])) [x] H1 Q := by
  refine slL (SqL.of h) fun p np => ⟨mkS [], p, (cutL fs lo hi).map fun c => mkS [c], rfl, rfl, SqL.of (by rw [upd_same, cutL_map, List.map_map]; rfl), ?_, by rw [join_e]; exact q _ (Same.upd (Same.refl H) np)⟩
  have l1 := cutL_le fs lo hi
  generalize cutL fs lo hi = gs at l1 ⊢
  have : ((gs.map fun c => mkS [c]).map (·.length)).sum = gs.length := by
    clear l1
    induction gs with
    | nil => rfl
    | cons a r ih => simp only [List.map_cons, List.sum_cons, ih, List.length_cons, mk_len]; simp; omega
  rw [this, mk_len]
  simp
  omega
noncomputable def frF (q : Int) (j : Nat) : Nat := 97 + ((q + 5 * (j : Int) + (j : Int) * (j : Int)) % 26).toNat
noncomputable def frL (q : Int) : List Nat := (List.range 8).map (frF q)
theorem let_val {i : Int} (h0 : 0 ≤ i) (h1 : i < 26) : atI letL i = some (97 + i.toNat) := by
  refine atIn h0 ?_
  have : ∀ k < 26, letL[k]? = some (97 + k) := by decide
  exact this _ (by omega)
noncomputable def sigF (i : Int) : Nat := if i < 26 then 97 + i.toNat else 22 + i.toNat
theorem sig_val {i : Int} (h0 : 0 ≤ i) (h1 : i < 36) : atI (letL ++ [48, 49, 50, 51, 52, 53, 54, 55, 56, 57]) i = some (sigF i) := by
  refine atIn h0 ?_
  have : ∀ k < 36, (letL ++ [48, 49, 50, 51, 52, 53, 54, 55, 56, 57])[k]? = some (if k < 26 then 97 + k else 22 + k) := by decide
  rw [this _ (by omega)]
  unfold sigF
  congr 1
  by_cases h : i < 26
  · rw [if_pos h, if_pos (by omega)]
  · rw [if_neg h, if_neg (by omega)]
noncomputable def nmA (q : Int) : List (List Nat) := ((List.range 8).map (fun k => (frL q).take (k + 1)) ++ (List.range 20).map fun k => (frL q).take (1 + k % 7) ++ [48 + k / 7]).take 20
noncomputable def nmB (q e : Int) (sz at' : Nat) : List (List Nat) := (List.range 20).map fun k : Nat => (frL q).take at' ++ [if at' = 0 then 97 + ((e + 7 * (k : Int)) % 26).toNat else sigF ((e + 7 * (k : Int)) % 36)] ++ ((frL q).take sz).drop (at' + 1)
theorem frL_val (q : Int) : frL q = [frF q 0, frF q 1, frF q 2, frF q 3, frF q 4, frF q 5, frF q 6, frF q 7] := rfl
theorem frF_b (q : Int) (j : Nat) : 97 ≤ frF q j ∧ frF q j < 123 := by unfold frF; omega
noncomputable def keyN (l : List Nat) : Nat × Nat := (l.length, min (l.getLastD 0) 97)
theorem nodup_map {α β : Type} {f : α → β} {l : List α} (h : (l.map f).Nodup) : l.Nodup := (List.pairwise_map.mp h).imp fun a e => a (by rw [e])
theorem nmA_ok (q : Int) : (nmA q).length = 20 ∧ (nmA q).Nodup ∧ mainL ∉ nmA q ∧ ∀ w ∈ nmA q, OkN w := by
  have hb := frF_b q
  have b0 := hb 0
  have b1 := hb 1
  have b2 := hb 2
  have b3 := hb 3
  have b4 := hb 4
  have b5 := hb 5
  have b6 := hb 6
  have b7 := hb 7
  have hm : ¬ (frF q 0 = 109 ∧ frF q 1 = 97) := by unfold frF; omega
  have ev : nmA q = [[frF q 0], [frF q 0, frF q 1], [frF q 0, frF q 1, frF q 2], [frF q 0, frF q 1, frF q 2, frF q 3], [frF q 0, frF q 1, frF q 2, frF q 3, frF q 4], [frF q 0, frF q 1, frF q 2, frF q 3, frF q 4, frF q 5], [frF q 0, frF q 1, frF q 2, frF q 3, frF q 4, frF q 5, frF q 6], [frF q 0, frF q 1, frF q 2, frF q 3, frF q 4, frF q 5, frF q 6, frF q 7],
    [frF q 0, 48], [frF q 0, frF q 1, 48], [frF q 0, frF q 1, frF q 2, 48], [frF q 0, frF q 1, frF q 2, frF q 3, 48], [frF q 0, frF q 1, frF q 2, frF q 3, frF q 4, 48], [frF q 0, frF q 1, frF q 2, frF q 3, frF q 4, frF q 5, 48], [frF q 0, frF q 1, frF q 2, frF q 3, frF q 4, frF q 5, frF q 6, 48],
    [frF q 0, 49], [frF q 0, frF q 1, 49], [frF q 0, frF q 1, frF q 2, 49], [frF q 0, frF q 1, frF q 2, frF q 3, 49], [frF q 0, frF q 1, frF q 2, frF q 3, frF q 4, 49]] := rfl
  rw [ev]
  clear ev hb
  generalize frF q 0 = f0 at *
  generalize frF q 1 = f1 at *
  generalize frF q 2 = f2 at *
  generalize frF q 3 = f3 at *
  generalize frF q 4 = f4 at *
  generalize frF q 5 = f5 at *
  generalize frF q 6 = f6 at *
  generalize frF q 7 = f7 at *
  refine ⟨rfl, nodup_map (f := keyN) ?_, ?_, ?_⟩
  · have m : ∀ x, 97 ≤ x → min x 97 = 97 := fun x h => Nat.min_eq_right h
    simp only [List.map_cons, List.map_nil, keyN, List.length_cons, List.length_nil, List.getLastD_cons, List.getLastD_nil, m _ b0.1, m _ b1.1, m _ b2.1, m _ b3.1, m _ b4.1, m _ b5.1, m _ b6.1, m _ b7.1]
    decide
  · simp only [mainL, List.mem_cons, List.cons.injEq, List.not_mem_nil, and_false, or_false, false_or, reduceCtorEq, and_true, not_or]
    omega
  · intro w hw
    simp only [List.mem_cons, List.not_mem_nil, or_false] at hw
    rcases hw with h | h | h | h | h | h | h | h | h | h | h | h | h | h | h | h | h | h | h | h <;> (subst h; refine ⟨by simp, fun c hc => ?_⟩; simp only [List.mem_cons, List.not_mem_nil, or_false] at hc; omega)
theorem sigF_inj {a b : Int} (a0 : 0 ≤ a) (a1 : a < 36) (b0 : 0 ≤ b) (b1 : b < 36) (h : sigF a = sigF b) : a = b := by
  unfold sigF at h
  split at h <;> split at h <;> omega
theorem sigF_b {a : Int} (a0 : 0 ≤ a) (a1 : a < 36) : sigF a < 128 := by
  unfold sigF
  split <;> omega
theorem nmB_ok (q e : Int) {sz at' : Nat} (h1 : at' < sz) (h2 : sz ≤ 8) : (nmB q e sz at').length = 20 ∧ (nmB q e sz at').Nodup ∧ mainL ∉ nmB q e sz at' ∧ ∀ w ∈ nmB q e sz at', OkN w := by
  have lf : (frL q).length = 8 := rfl
  refine ⟨by simp [nmB], ?_, ?_, ?_⟩
  · refine List.pairwise_map.mpr ((List.pairwise_lt_range (n := 20)).imp_of_mem fun {a b} ha hb hab he => ?_)
    rw [List.mem_range] at ha hb
    have := List.append_cancel_right he
    have := List.append_cancel_left this
    rw [List.cons.injEq] at this
    have := this.1
    by_cases z : at' = 0
    · rw [if_pos z, if_pos z] at this
      omega
    · rw [if_neg z, if_neg z] at this
      have := sigF_inj (by omega) (by omega) (by omega) (by omega) this
      omega
  · intro hm
    obtain ⟨k, hk, ek⟩ := List.mem_map.mp hm
    have l4 := congrArg List.length ek
    simp only [List.length_append, List.length_take, List.length_drop, lf, List.length_cons, List.length_nil, mainL] at l4
    have s4 : sz = 4 := by omega
    subst s4
    generalize (if at' = 0 then 97 + ((e + 7 * (k : Int)) % 26).toNat else sigF ((e + 7 * (k : Int)) % 36)) = x at ek
    rw [frL_val] at ek
    match at', h1, ek with
    | 0, _, ek => simp only [List.take, List.drop, List.nil_append, List.cons_append, mainL, List.cons.injEq] at ek; unfold frF at ek; omega
    | 1, _, ek => simp only [List.take, List.drop, List.nil_append, List.cons_append, mainL, List.cons.injEq] at ek; unfold frF at ek; omega
    | 2, _, ek => simp only [List.take, List.drop, List.nil_append, List.cons_append, mainL, List.cons.injEq] at ek; unfold frF at ek; omega
    | 3, _, ek => simp only [List.take, List.drop, List.nil_append, List.cons_append, mainL, List.cons.injEq] at ek; unfold frF at ek; omega
  · intro w hw
    obtain ⟨k, hk, rfl⟩ := List.mem_map.mp hw
    have hf : ∀ c ∈ frL q, c < 128 := fun c hc => by
      obtain ⟨j, _, rfl⟩ := List.mem_map.mp hc
      have := frF_b q j
      omega
    refine ⟨by simp [lf]; omega, fun c hc => ?_⟩
    rcases List.mem_append.mp hc with hc | hc
    · rcases List.mem_append.mp hc with hc | hc
      · exact hf c (List.mem_of_mem_take hc)
      · rw [List.mem_singleton.mp hc]
        split
        · omega
        · exact sigF_b (by omega) (by omega)
    · exact hf c (List.mem_of_mem_take (List.mem_of_mem_drop hc))
theorem tSeq_nx {t u : TS} {D : Ends} {σ : St} {H : Hp} (h : ∀ B : St → Hp → Prop, B = u D → t { D with nx := B } σ H) : tSeq t u D σ H := h _ rfl
noncomputable def SecL (H0 : Hp) (s l : Addr) (H : Hp) (e : Addr × Sec) : Prop := ∃ r, H e.1 = some (.tup [.str e.2.k, .str e.2.n, .bl e.2.sh, .ref r]) ∧ H r = some (.lst (e.2.row.map V.int)) ∧ r ≠ s ∧ r ≠ l ∧ H0 r = none
theorem SecL.same {H0 : Hp} {s l : Addr} {H H' : Hp} {e : Addr × Sec} (h : SecL H0 s l H e) (k : Same H H') : SecL H0 s l H' e := let ⟨r, a, b, c⟩ := h; ⟨r, k _ _ a, k _ _ b, c⟩
theorem SecL.stay {H0 : Hp} {s l q : Addr} {H H' : Hp} {e : Addr × Sec} {xs : List V} (h : SecL H0 s l H e) (k : Stay q H H') (hq : H q = some (.lst xs)) (h2 : q = s ∨ q = l) : SecL H0 s l H' e := by
  obtain ⟨r, a, b, c, d, f⟩ := h
  refine ⟨r, k _ _ (fun z => by rw [z, hq] at a; cases a) a, k _ _ ?_ b, c, d, f⟩
  rcases h2 with h2 | h2
  · rw [h2]; exact c
  · rw [h2]; exact d
noncomputable def PtL (H H' : Hp) (g s l : Addr) (G : List (Addr × (Str × Str))) (ss : List (Addr × SecH)) (i : Nat) : Prop := Same H H' ∧ H' g = some (.lst (refsS G)) ∧ (∀ x ∈ G, GoAt H' x) ∧ (∃ ts : List (Addr × Sec), H' s = some (.lst (refsS ts)) ∧ (∀ e ∈ ts, SecL H s l H' e) ∧ ts.map hdr = (ss.take i).map (·.2) ∧ RowsOk ts) ∧ ∃ ps, H' l = some (.lst ps) ∧ ps.length ≤ 4 * i
theorem tfor_unf {K : PySem.W.Frag} {te : TE} {g : TG} {tb : TS} {D : Ends} {σ : St} {H : Hp} (h : te σ H fun x H1 => ∃ a, x = .ref a ∧ (∃ xs, SqL K H1 a xs) ∧ tFor (fun _ H R => R (Itl K a) H) g tb D σ H1) : tFor (iList K te) g tb D σ H := h
theorem tfor_it {K : PySem.W.Frag} {a : Addr} {xs : List V} {k : Nat} {tb : TS} {D : Ends} {σ : St} {H : Hp} (Pv : Nat → St → Hp → Prop) (h0 : Pv 0 σ H) (hl : ∀ i σ H, Pv i σ H → SqL K H a xs)
    (hs : ∀ (i : Nat) (x : V) (σ : St) (H : Hp), xs[i]? = some x → Pv i σ H → tb { D with nx := Pv (i + 1), ct := Pv (i + 1), bk := D.nx } (σ.set k (some x)) H) (hd : ∀ σ H, Pv xs.length σ H → D.nx σ H) : tFor (fun _ H R => R (Itl K a) H) (gName k) tb D σ H :=
  for_walk (xs := xs) Pv h0 (wk_list fun H ⟨i, σ, p⟩ => hl i σ H p) (fun i x σ H hx p => hs i x σ H hx p) hd
noncomputable def imgD (c : Int) : PyData := .list [.int (c % 100), .list [.tuple [.str (Str.ofString "code"), .int (1 + c % 9)], .tuple [.str (Str.ofString "data"), .int 4]], .list [.int (c / 9 % 256), .int 7], .list [.int (c / 3 % 100)]]
theorem imgD_lay (c : Int) : (imgD c).canLay0 = true := by
  simp only [imgD, PyData.canLay0, PyData.canLayAll0, Bool.and_true]
  decide +kernel
theorem imgD_dep (c : Int) : (imgD c).depth ≤ 60 := by
  simp [imgD, PyData.depth, PyData.depthAll]
noncomputable def PlO (H : Hp) (e : Addr × Int) : Prop := ∃ x y, H e.1 = some (.tup [.int e.2, x, y]) ∧ 0 ≤ e.2 ∧ e.2 ≤ 30
theorem PlO.same {H H' : Hp} {e : Addr × Int} (h : PlO H e) (k : Same H H') : PlO H' e := let ⟨x, y, a, b⟩ := h; ⟨x, y, k _ _ a, b⟩
theorem PlO.set {H : Hp} {l : Addr} {xs : List V} {o : HO} {e : Addr × Int} (h : PlO H e) (hl : H l = some (.lst xs)) : PlO (upd H l o) e := let ⟨x, y, a, b⟩ := h; ⟨x, y, keepU a (fun z => by rw [z, hl] at a; cases a), b⟩
theorem lamQ_eq : (PyProof.Rows.envOfC (Str.ofString "by_names") (defScope s_by_names) 0 0 .none).qual ++ Str.ofString "<lambda>" = lamQ := by decide +kernel
theorem ifIx {K : PySem.W.Frag} {p : Addr} {H1 : Hp} {F : VK} {x y : Str} {c d : Prop} [Decidable c] [Decidable d] (ep : H1 p = some (.lst [.str x, .str y])) (h : ∀ z, F (.str z) H1) : if c then rIx K (.ref p) (.int 1) H1 F else rIx K (.ref p) (.int (if d then 1 else 0)) H1 F := by
  refine ite2 (fun _ => ixL (SqL.of ep) (atIn (by decide) rfl) (h _)) fun _ => ?_
  by_cases e : d
  · rw [if_pos e]; exact ixL (SqL.of ep) (atIn (by decide) rfl) (h _)
  · rw [if_neg e]; exact ixL (SqL.of ep) (atIn (by decide) rfl) (h _)
theorem inTT {K : PySem.W.Frag} {H : Hp} {a i j : Int} {F : VK} (h : ∀ b H', Same H H' → F (.bl b) H') : [V.int i, V.int j].length ≤ sizeLine ∧ ∀ p, H p = none → rInA K (.int a) (.ref p) (upd H p (.tup [.int i, .int j])) F :=
  ⟨sl1000 (by simp), fun p np => .inr ⟨p, _, rfl, .inr (SqT.of upd_same), rfl, rfl, h _ _ (Same.upd (Same.refl H) np)⟩⟩
noncomputable def hdP (m : PM) : Str × List Sec := (m.n, secs m.ts)
noncomputable def hdM (e : Addr × Md) : Str × List Sec := (e.2.n, secs e.2.ts)
theorem fm_congr {α β : Type} {f g : α → List β} : ∀ {l : List α}, (∀ x ∈ l, f x = g x) → l.flatMap f = l.flatMap g
  | [], _ => rfl
  | a :: r, h => by rw [List.flatMap_cons, List.flatMap_cons, h a List.mem_cons_self, fm_congr fun x hx => h x (List.mem_cons_of_mem _ hx)]
theorem flat_one {α β : Type} {f : α → Str} (G : α → List β) {e : α} : ∀ {ms : List α}, (ms.map f).Nodup → e ∈ ms → (ms.flatMap fun x => if f x = f e then G x else []) = G e
  | [], _, h => nomatch h
  | x :: r, nd, h => by
    rw [List.map_cons, List.nodup_cons] at nd
    rw [List.flatMap_cons]
    by_cases z : f x = f e
    · have hx : e = x := by
        rcases List.mem_cons.mp h with h | h
        · exact h
        · exact absurd (by rw [z]; exact List.mem_map.mpr ⟨e, h, rfl⟩) nd.1
      subst hx
      rw [if_pos rfl]
      have : (r.flatMap fun y => if f y = f e then G y else []) = [] := by
        rw [List.flatMap_eq_nil_iff]
        intro y hy
        rw [if_neg]
        intro q
        exact nd.1 (by rw [← q]; exact List.mem_map.mpr ⟨y, hy, rfl⟩)
      rw [this, List.append_nil]
    · rw [if_neg z, List.nil_append]
      rcases List.mem_cons.mp h with h | h
      · exact absurd (by rw [h]) z
      · exact flat_one G nd.2 h
theorem str_anti {x y : Str} (h1 : x.cps.toList ≤ y.cps.toList) (h2 : y.cps.toList ≤ x.cps.toList) : x = y := by
  have := List.le_antisymm h1 h2
  cases x; cases y
  congr 1
  exact Array.toList_inj.mp this
theorem lay_eq {kd : Str} {m : List PM} {n : List Str} {ms : List (Addr × Md)} (nd : (ms.map (·.2.n)).Nodup) (hp : (m.map hdP).Perm (ms.map hdM)) (hs : SrtP m) (hn : n.Perm (ms.map (·.2.n))) (hsn : PyProof.Rows.sortedS n = true) : m.flatMap (itP kd) = layI kd n ms := by
  have e1 : m.map (·.n) = n := by
    refine List.Perm.eq_of_pairwise (fun x y _ _ h1 h2 => str_anti h1 h2) (List.pairwise_map.mpr hs) (sorted_pw hsn) ?_
    have := hp.map Prod.fst
    rw [List.map_map, List.map_map] at this
    exact List.Perm.trans this hn.symm
  subst e1
  unfold layI
  rw [List.flatMap_map]
  refine fm_congr fun x hx => ?_
  have : hdP x ∈ ms.map hdM := hp.mem_iff.mp (List.mem_map.mpr ⟨x, hx, rfl⟩)
  obtain ⟨e, he, hh⟩ := List.mem_map.mp this
  have h1 : e.2.n = x.n := congrArg Prod.fst hh
  have h2 : secs e.2.ts = secs x.ts := congrArg Prod.snd hh
  have := flat_one (f := fun e : Addr × Md => e.2.n) (fun e' => itm kd x.n (secs e'.2.ts)) nd he
  rw [h1] at this
  show itm kd x.n (secs x.ts) = _
  rw [this, h2]
noncomputable def rwD (r : Rw) : PyData := .tuple [.str r.p, .str r.s, .str r.k, .int r.at', .int r.z]
theorem rd_rows {K : PySem.W.Frag} {H : Hp} : ∀ {rs : List (Addr × Rw)}, (∀ e ∈ rs, RwAt H e) → RdDs K H ((rs.map (·.2)).map rwD) (refsS rs)
  | [], _ => by simp [refsS, RdDs]
  | e :: rs, h => by
    have a1 := rd_rows (K := K) (rs := rs) fun e he => h e (List.mem_cons_of_mem _ he)
    show RdDs K H (.tuple [.str e.2.p, .str e.2.s, .str e.2.k, .int e.2.at', .int e.2.z] :: (rs.map (·.2)).map rwD) (V.ref e.1 :: refsS rs)
    simp only [RdDs, RdD]
    exact ⟨_, _, rfl, ⟨_, _, rfl, SqT.of (h e List.mem_cons_self), _, _, rfl, rfl, _, _, rfl, rfl, _, _, rfl, rfl, _, _, rfl, rfl, _, _, rfl, rfl, rfl⟩, a1⟩
theorem lay_rows : ∀ {ws : List Rw}, (∀ r ∈ ws, LayS r.p ∧ LayS r.s ∧ LayS r.k) → PyData.canLayAll0 (ws.map rwD) = true ∧ PyData.depthAll (ws.map rwD) ≤ 5
  | [], _ => ⟨rfl, by simp [PyData.depthAll]⟩
  | r :: ws, h => by
    obtain ⟨a1, a2⟩ := lay_rows (ws := ws) fun e he => h e (List.mem_cons_of_mem _ he)
    obtain ⟨h1, h2, h3⟩ := h r List.mem_cons_self
    unfold LayS at h1 h2 h3
    constructor
    · show PyData.canLayAll0 (.tuple [.str r.p, .str r.s, .str r.k, .int r.at', .int r.z] :: ws.map rwD) = true
      simp only [PyData.canLayAll0, a1, Bool.and_true]
      rw [PyData.canLay0, PyData.canLayAll0, PyData.canLayAll0, PyData.canLayAll0, h1, h2, h3]
      rfl
    · show PyData.depthAll (.tuple [.str r.p, .str r.s, .str r.k, .int r.at', .int r.z] :: ws.map rwD) ≤ 5
      simp [PyData.depthAll, PyData.depth]
      omega
theorem placeR_mem {I : List (Str × Sec)} {r : Rw} (h : r ∈ (placeR I).1) : ∃ x ∈ I, r.p = x.1 ∧ r.s = x.2.n ∧ r.k = x.2.k := by
  have : ∀ (I : List (Str × Sec)) (a : List Rw × Int), r ∈ (I.foldl stepR a).1 → r ∈ a.1 ∨ ∃ x ∈ I, r.p = x.1 ∧ r.s = x.2.n ∧ r.k = x.2.k := by
    intro I
    induction I with
    | nil => intro a h; exact .inl h
    | cons x t ih =>
      intro a h
      rw [List.foldl_cons] at h
      rcases ih _ h with h | ⟨y, hy, e⟩
      · rcases List.mem_append.mp h with h | h
        · exact .inl h
        · rw [List.mem_singleton.mp h]
          exact .inr ⟨x, List.mem_cons_self, rfl, rfl, rfl⟩
      · exact .inr ⟨y, List.mem_cons_of_mem _ hy, e⟩
  rcases this I ([], 0) h with h | h
  · cases h
  · exact h
theorem layI_mem {kd : Str} {n : List Str} {ms : List (Addr × Md)} (hl : ∀ e ∈ ms, LayS e.2.n ∧ SecG e.2.ts) {x : Str × Sec} (h : x ∈ layI kd n ms) : LayS x.1 ∧ LayS x.2.n ∧ LayS x.2.k := by
  unfold layI at h
  obtain ⟨nm, _, h⟩ := List.mem_flatMap.mp h
  obtain ⟨e, he, h⟩ := List.mem_flatMap.mp h
  by_cases z : e.2.n = nm
  · rw [if_pos z] at h
    obtain ⟨s, hs, rfl⟩ := List.mem_map.mp h
    obtain ⟨t, ht, rfl⟩ := List.mem_map.mp (List.mem_filter.mp hs).1
    obtain ⟨a, b⟩ := hl e he
    exact ⟨z ▸ a, (b t ht).2, (b t ht).1⟩
  · rw [if_neg z] at h
    cases h
theorem lay_place {k1 k2 : Str} {n1 n2 : List Str} {ms : List (Addr × Md)} (hl : ∀ e ∈ ms, LayS e.2.n ∧ SecG e.2.ts) {ws : List Rw} (h : ws = (placeR (layI k1 n1 ms ++ layI k2 n2 ms)).1) : ∀ r ∈ ws, LayS r.p ∧ LayS r.s ∧ LayS r.k := by
  intro r hr
  rw [h] at hr
  obtain ⟨x, hx, a, b, c⟩ := placeR_mem hr
  rw [a, b, c]
  rcases List.mem_append.mp hx with hx | hx
  · exact layI_mem hl hx
  · exact layI_mem hl hx
theorem flat_len {α β : Type} {f : α → List β} {k : Nat} : ∀ {l : List α}, (∀ x ∈ l, (f x).length ≤ k) → (l.flatMap f).length ≤ k * l.length
  | [], _ => by simp
  | a :: r, h => by
    have h1 := h a List.mem_cons_self
    have h2 := flat_len (l := r) fun x hx => h x (List.mem_cons_of_mem _ hx)
    rw [List.flatMap_cons, List.length_append, List.length_cons, Nat.mul_succ]
    omega
noncomputable def shS (l : List Sec) : List Str := (l.filter (·.sh)).map (·.n)
theorem shs_secs (ts : List (Addr × Sec)) : shs ts = shS (secs ts) := by
  unfold shs shS secs
  rw [List.filter_map, List.map_map]
  rfl
noncomputable def prF (h : Str × List Sec) : List (Str × Str) := (shS h.2).map fun z => (h.1, z)
theorem pr_P (qs : List PM) : (qs.flatMap fun m => (shs m.ts).map fun z => (m.n, z)) = (qs.map hdP).flatMap prF := by
  rw [List.flatMap_map]
  refine fm_congr fun m _ => ?_
  rw [shs_secs]
  rfl
theorem pr_M (ms : List (Addr × Md)) : (ms.flatMap fun e => (shs e.2.ts).map fun z => (e.2.n, z)) = (ms.map hdM).flatMap prF := by
  rw [List.flatMap_map]
  refine fm_congr fun m _ => ?_
  rw [shs_secs]
  rfl
theorem sh_P (qs : List PM) : (qs.flatMap fun m => shs m.ts) = ((qs.map hdP).flatMap prF).map (·.2) := by
  rw [List.map_flatMap, List.flatMap_map]
  refine fm_congr fun m _ => ?_
  rw [shs_secs, prF, List.map_map]
  exact (List.map_id _).symm
theorem sh_M (ms : List (Addr × Md)) : (ms.flatMap fun e => shs e.2.ts) = ((ms.map hdM).flatMap prF).map (·.2) := by
  rw [List.map_flatMap, List.flatMap_map]
  refine fm_congr fun m _ => ?_
  rw [shs_secs, prF, List.map_map]
  exact (List.map_id _).symm
theorem valV_dkS_in {es : List (Addr × (Str × Str))} (nd : (es.map (·.2.2)).Nodup) {e : Addr × (Str × Str)} (he : e ∈ es) : valV (dkS es) (Sum.inr e.2.2) = some (V.ref e.1) := by
  induction es with
  | nil => cases he
  | cons x r ih =>
    rw [List.map_cons, List.nodup_cons] at nd
    show valV ((Sum.inr x.2.2, V.ref x.1) :: dkS r) (Sum.inr e.2.2) = _
    rcases List.mem_cons.mp he with h | h
    · rw [h]
      exact valV_pos rfl
    · rw [valV_neg (fun q => nd.1 (by injection q with q; rw [q]; exact List.mem_map.mpr ⟨e, h, rfl⟩))]
      exact ih nd.2 h
theorem neDict_same {K : PySem.W.Frag} {H : Hp} {Q : VK} {d d' : Addr} {es es' : List (Addr × (Str × Str))} (h1 : H d = some (.dK (dkS es))) (h2 : H d' = some (.dK (dkS es'))) (g1 : ∀ e ∈ es, GoAt H e) (g2 : ∀ e ∈ es', GoAt H e) (hp : (es.map (·.2)).Perm (es'.map (·.2))) (nd : (es'.map (·.2.2)).Nodup) (hl : ∀ x ∈ es'.map (·.2), LayS x.1 ∧ LayS x.2) (q : Q (.bl false) H) : rNeDict K (.ref d) (.ref d') H Q := by
  refine ⟨d, d', _, _, rfl, rfl, h1, h2, ?_, fun k v hkv => ?_, q⟩
  · have := hp.length_eq
    simpa [dkS] using this
  · obtain ⟨e, he, z⟩ := List.mem_map.mp hkv
    cases z
    have : e.2 ∈ es'.map (·.2) := hp.mem_iff.mp (List.mem_map.mpr ⟨e, he, rfl⟩)
    obtain ⟨e', he', z⟩ := List.mem_map.mp this
    have gg : ∀ x : Addr × (Str × Str), GoAt H x → RdD K H (.tuple [.str x.2.1, .str x.2.2]) (V.ref x.1) := fun x hx => by
      simp only [RdDs, RdD]
      exact ⟨_, _, rfl, SqT.of hx, _, _, rfl, rfl, _, _, rfl, rfl, rfl⟩
    refine ⟨V.ref e'.1, .tuple [.str e.2.1, .str e.2.2], ?_, gg e (g1 e he), ?_, ?_, ?_⟩
    · rw [← z]
      exact valV_dkS_in nd he'
    · rw [← z]
      exact gg e' (g2 e' he')
    · obtain ⟨h1, h2⟩ := hl _ this
      unfold LayS at h1 h2
      simp only [SeqAt.shaped, PyData.depth, PyData.depthAll, Bool.and_eq_true]
      refine ⟨?_, by simp⟩
      rw [PyData.canLay0, PyData.canLayAll0, PyData.canLayAll0, h1, h2]
      rfl
    · simp [PyData.eqv, PyData.eqvAll]
theorem pr_lay {ms : List (Addr × Md)} (hl : ∀ e ∈ ms, LayS e.2.n ∧ SecG e.2.ts) : ∀ x ∈ (ms.flatMap fun e => (shs e.2.ts).map fun z => (e.2.n, z)), LayS x.1 ∧ LayS x.2 := by
  intro x hx
  obtain ⟨e, he, hx⟩ := List.mem_flatMap.mp hx
  obtain ⟨z, hz, rfl⟩ := List.mem_map.mp hx
  obtain ⟨t, ht, rfl⟩ := List.mem_map.mp hz
  exact ⟨(hl e he).1, ((hl e he).2 t (List.mem_filter.mp ht).1).2⟩
theorem tfor_unfT {K : PySem.W.Frag} {te : TE} {g : TG} {tb : TS} {D : Ends} {σ : St} {H : Hp} (h : te σ H fun x H1 => ∃ a, x = .ref a ∧ (∃ xs, SqT K H1 a xs) ∧ tFor (fun _ H R => R (Itt K a) H) g tb D σ H1) : tFor (iTup K te) g tb D σ H := h
theorem tfor_itT {K : PySem.W.Frag} {a : Addr} {xs : List V} {k : Nat} {tb : TS} {D : Ends} {σ : St} {H : Hp} (Pv : Nat → St → Hp → Prop) (h0 : Pv 0 σ H) (hl : ∀ i σ H, Pv i σ H → SqT K H a xs)
    (hs : ∀ (i : Nat) (x : V) (σ : St) (H : Hp), xs[i]? = some x → Pv i σ H → tb { D with nx := Pv (i + 1), ct := Pv (i + 1), bk := D.nx } (σ.set k (some x)) H) (hd : ∀ σ H, Pv xs.length σ H → D.nx σ H) : tFor (fun _ H R => R (Itt K a) H) (gName k) tb D σ H :=
  for_walk (xs := xs) Pv h0 (wk_tup fun H ⟨i, σ, p⟩ => hl i σ H p) (fun i x σ H hx p => hs i x σ H hx p) hd
theorem ts_len {qs : List PM} {ms : List (Addr × Md)} (hp : (qs.map hdP).Perm (ms.map hdM)) {k : Nat} (h : ∀ e ∈ ms, e.2.ts.length ≤ k) : ∀ m ∈ qs, m.ts.length ≤ k := by
  intro m hm
  have : hdP m ∈ ms.map hdM := hp.mem_iff.mp (List.mem_map.mpr ⟨m, hm, rfl⟩)
  obtain ⟨e, he, hh⟩ := List.mem_map.mp this
  have h2 : secs e.2.ts = secs m.ts := congrArg Prod.snd hh
  have h3 := congrArg List.length h2
  unfold secs at h3
  rw [List.length_map, List.length_map] at h3
  have := h e he
  omega
theorem MdAt.stayT {H H' : Hp} {Pt : Addr} {ps : Array Value} {e : Addr × Md} (hp : H Pt = some (.tbl ps)) (h : MdAt H e) (k : Stay Pt H H') : MdAt H' e := by
  obtain ⟨s, w, l, ws, qs, a, b, c, d, f⟩ := h
  have nL : ∀ {xs : List V}, ∀ ps, HO.lst xs ≠ .tbl ps := fun _ z => nomatch z
  have nT : ∀ {xs : List V}, ∀ ps, HO.tup xs ≠ .tbl ps := fun _ z => nomatch z
  exact ⟨s, w, l, ws, qs, stayN hp k a nT, stayN hp k b nL, fun e he => let ⟨r, x, y⟩ := c e he; ⟨r, stayN hp k x nT, stayN hp k y nL⟩, stayN hp k d nL, stayN hp k f nL⟩
theorem TabAt.setD {Pt l : Addr} {pos : Pos} {q : Str} {H : Hp} {kvs : List (Key × V)} {o : HO} (h : TabAt Pt pos q H) (e : H l = some (.dK kvs)) : TabAt Pt pos q (upd H l o) := by
  have ne : ∀ {b : Addr} {u : HO}, H b = some u → (∀ ys, u ≠ .dK ys) → b ≠ l := fun {b u} eb d z => by rw [z, e] at eb; exact d _ (Option.some.inj eb).symm
  rcases h with h | ⟨c, h, h2⟩
  · exact .inl (keepU h (ne h fun _ z => nomatch z))
  · exact .inr ⟨c, keepU h (ne h fun _ z => nomatch z), keepU h2 (ne h2 fun _ z => nomatch z)⟩
theorem sh_len {ms : List (Addr × Md)} (lm : ms.length ≤ 6) (h : ∀ e ∈ ms, e.2.ts.length ≤ 4) : (ms.flatMap fun e => shs e.2.ts).length ≤ 1000 := by
  have := flat_len (k := 4) (f := fun e : Addr × Md => shs e.2.ts) (l := ms) fun e he => Nat.le_trans (by unfold shs; rw [List.length_map]; exact List.length_filter_le _ _) (h e he)
  omega
theorem it_len {kd : Str} {m : List PM} (h : ∀ x ∈ m, x.ts.length ≤ 4) : (m.flatMap (itP kd)).length ≤ 4 * m.length :=
  flat_len (k := 4) fun x hx => Nat.le_trans (itm_len _ _ _) (by unfold secs; rw [List.length_map]; exact h x hx)
theorem hu100 {k : Nat} {A : Around} (hr : Room k A) : A.units + 100 < cLine := by have := hr.un; omega
noncomputable def nmBF (q e : Int) (sz at' k : Nat) : List Nat := (frL q).take at' ++ [if at' = 0 then 97 + ((e + 7 * (k : Int)) % 26).toNat else sigF ((e + 7 * (k : Int)) % 36)] ++ ((frL q).take sz).drop (at' + 1)
theorem tab_some {Pt : Addr} {pos : Pos} {q : Str} {H : Hp} (h : TabAt Pt pos q H) : ∃ ps, H Pt = some (.tbl ps) := by
  rcases h with h | ⟨c, h, _⟩
  · exact ⟨_, h⟩
  · exact ⟨_, h⟩

structure Txt (K : PySem.W.Frag) (mg : Str → Option Value) where
  d_by_names : DefAt K mg "by_names" s_by_names ["parts"]
  d_laid : DefAt K mg "laid" s_laid ["parts"]
  d_shared_of : DefAt K mg "shared_of" s_shared_of ["parts"]
  d__law_cell_at : DefAt K mg "_law_cell_at" s__law_cell_at ["_law_script", "_law_k"]
  d__law_mixed : DefAt K mg "_law_mixed" s__law_mixed ["_law_cell", "_law_k"]
  d__law_names : DefAt K mg "_law_names" s__law_names ["_law_cell", "_law_many"]
  d__law_heads : DefAt K mg "_law_heads" s__law_heads ["_law_script", "_law_names_here", "_law_many", "_law_at_main"]
  d__law_goal : DefAt K mg "_law_goal" s__law_goal ["_law_cell", "_law_goals", "_law_kind"]
  d__law_op : DefAt K mg "_law_op" s__law_op ["_law_cell", "_law_at", "_law_goals"]
  d__law_code : DefAt K mg "_law_code" s__law_code ["_law_cell", "_law_goals"]
  d__law_data : DefAt K mg "_law_data" s__law_data ["_law_cell"]
  d__law_wants : DefAt K mg "_law_wants" s__law_wants ["_law_heads_here", "_law_shared_here", "_law_i", "_law_cell"]
  d__law_part : DefAt K mg "_law_part" s__law_part ["_law_head", "_law_wants_here", "_law_shared_here", "_law_cell"]
  d__law_made : DefAt K mg "_law_made" s__law_made ["_law_script", "_law_many"]
  d__law_as_part : DefAt K mg "_law_as_part" s__law_as_part ["_law_one"]
  d__law_order : DefAt K mg "_law_order" s__law_order ["_law_some", "_law_cell"]
  d__law_layout : DefAt K mg "_law_layout" s__law_layout ["_law_made_here"]
  d__law_shared : DefAt K mg "_law_shared" s__law_shared ["_law_made_here"]
  d__law_are_whole : DefAt K mg "_law_are_whole" s__law_are_whole ["_law_rows"]
  d__law_image_kept : DefAt K mg "_law_image_kept" s__law_image_kept ["_law_cell"]
  d_law : DefAt K mg "law" s_law ["_law_script"]
  x_KINDS : Addr
  c_KINDS : ∃ u, mg "KINDS" = some u ∧ RelV (.ref x_KINDS) u
  sq_KINDS : KTup K x_KINDS [V.str (Str.ofString "code"), V.str (Str.ofString "data")]
  n_all : mg "all" = none
  n_bool : mg "bool" = none
  n_dict : mg "dict" = none
  n_enumerate : mg "enumerate" = none
  n_int : mg "int" = none
  n_isinstance : mg "isinstance" = none
  n_len : mg "len" = none
  n_list : mg "list" = none
  n_range : mg "range" = none
  n_sorted : mg "sorted" = none
  n_tuple : mg "tuple" = none
  x_Part : Addr
  x_Image : Addr
  m_Part : mg "Part" = some (.ref x_Part)
  m_Image : mg "Image" = some (.ref x_Image)
  ocg_Part : PySem.W.plainGet K x_Part Str.empty = true
  och_Part : PySem.W.hasDictIn K x_Part = true
  oco_Part : PySem.W.plainOver K x_Part = true
  ocs_Part : PySem.W.findIn K (.ref x_Part) "__setattr__" = some (some (.builtin "object.__setattr__"))
  mk_Part : PySem.W.makesIn K x_Part = true
  kp_Part : PySem.W.keepIn K (.ref x_Part) = true
  nf_Part_name : PySem.W.findIn K (.ref x_Part) "name" = some none
  nf_Part_sections : PySem.W.findIn K (.ref x_Part) "sections" = some none
  nf_Part_wants : PySem.W.findIn K (.ref x_Part) "wants" = some none
  nf_Part_places : PySem.W.findIn K (.ref x_Part) "places" = some none
  ocg_Image : PySem.W.plainGet K x_Image Str.empty = true
  och_Image : PySem.W.hasDictIn K x_Image = true
  oco_Image : PySem.W.plainOver K x_Image = true
  ocs_Image : PySem.W.findIn K (.ref x_Image) "__setattr__" = some (some (.builtin "object.__setattr__"))
  mk_Image : PySem.W.makesIn K x_Image = true
  kp_Image : PySem.W.keepIn K (.ref x_Image) = true
  nf_Image_main : PySem.W.findIn K (.ref x_Image) "main" = some none
  nf_Image_sections : PySem.W.findIn K (.ref x_Image) "sections" = some none
  nf_Image_body : PySem.W.findIn K (.ref x_Image) "body" = some none
  nf_Image_far : PySem.W.findIn K (.ref x_Image) "far" = some none
  d_Part___init__ : MethAt K x_Part "__init__" "Part.__init__" s_Part___init__ ["self", "name", "sections", "wants", "places"]
  d_Part_names : MethAt K x_Part "names" "Part.names" s_Part_names ["self"]
  d_Image___init__ : MethAt K x_Image "__init__" "Image.__init__" s_Image___init__ ["self", "main", "sections", "body", "far"]
  x_tab : Addr
  e_tab : x_tab = 76
  x_cod : Addr
  x_bm : Addr
  o_bm : Obj
  hcod : d_by_names.fd.code = .ref x_cod
  htab : PySem.W.codeHdIn K x_cod x_tab = true
  ktab : K.lookup x_tab = none
  m_bm : mg (Str.ofString "__builtins__") = some (.ref x_bm)
  b_ne : x_bm ≠ builtinsNs
  b_1 : o_bm.cls = .type "module"
  b_2 : o_bm.dict = some builtinsNs
  b_3 : o_bm.data = .plain
theorem Txt.oc_Part {K : PySem.W.Frag} {mg : Str → Option Value} (T : Txt K mg) : Cls K T.x_Part := ⟨T.ocg_Part, T.och_Part, T.oco_Part, T.ocs_Part⟩
theorem Txt.oc_Image {K : PySem.W.Frag} {mg : Str → Option Value} (T : Txt K mg) : Cls K T.x_Image := ⟨T.ocg_Image, T.och_Image, T.oco_Image, T.ocs_Image⟩

end K20
namespace K20
open PySem L2
seal L2.PA L2.PE L2.PS L2.PSs L2.PT L2.PW L2.PI L2.PG L2.PGs L2.PIf L2.PO L2.OpR L2.UnR L2.CallR L2.IxR L2.MtR L2.SlR L2.PSet L2.PEX L2.PIC L2.PPs
section
variable {P : Program} {w : World} {K : PySem.W.Frag} {mg : Str → Option Value} {base : Heap}
noncomputable def sp_Part___init__ (T : Txt K mg) : Sp := fun vs H Q E => ∃ (p dx : Addr) (n : Str) (s w l : Addr) (ts : List (Addr × Sec)) (ws : List Str) (ps : List V), vs = [.ref p, .str n, .ref s, .ref w, .ref l] ∧ H p = some (.ins T.x_Part dx []) ∧ H s = some (.lst (refsS ts)) ∧ SecsAt H ts ∧ ts.length ≤ 10 ∧ H w = some (.lst (ws.map V.str)) ∧ H l = some (.lst ps) ∧ ∀ s' w' l' ts' H', H s' = none → H' p = some (.ins T.x_Part dx (fldP n s' w' l')) → H' s' = some (.lst (refsS ts')) → ts'.map (·.2) = ts.map (·.2) → SecsN H H' ts' → H w' = none → H l' = none → H' w' = some (.lst (ws.map V.str)) → H' l' = some (.lst ps) → (∀ c o, H c = some o → c ≠ p → H' c = some o) → Q .non H'
theorem sc_Part___init__ : FnScope ["self", "name", "sections", "wants", "places"] ["self", "name", "sections", "wants", "places"] (defScope s_Part___init__) := ⟨rfl, rfl, rfl, by decide +kernel, rfl, by decide +kernel, by decide +kernel⟩
theorem ok_Part___init__ (T : Txt K mg) : FnOk P w K mg base CX0 1 T.d_Part___init__.f T.d_Part___init__.fd ["self", "name", "sections", "wants", "places"] (sp_Part___init__ T) := by
  have nd := sc_Part___init__.nd
  refine T.d_Part___init__.F.ok sc_Part___init__ (fun vs H Q E h => ?_) (fun cdv A outer s H vs Q E hr h => ?_)
  · obtain ⟨p, dx, n, s, w, l, ts, ws, ps, rfl, hp, hs, hts, lt, hw, hl, q⟩ := h
    rfl
  · obtain ⟨p, dx, n, s, w, l, ts, ws, ps, rfl, hp, hs, hts, lt, hw, hl, q⟩ := h
    have hu := hr.units0
    refine ⟨_, (pss_cons (ps_fldK (K := K) (pv 0) (pv 1))
      (pss_cons (ps_fldK (K := K) (pv 0) (pe_lcomp (N' := ["section"]) (src := [none]) rfl (CompScope.of (by kernel_rfl)) (pi_listK (K := K) (pv 2)) (fun _ _ _ _ _ _ => (pg_name (i := 0) (show (["section"] : List Str).Nodup by decide +kernel) rfl (Or.inl rfl))) (fun _ _ _ _ _ _ => pif_nil) (fun _ _ _ _ _ _ => (pe_tup (pa1 (pe_ix (o_ix (K := K)) (pv 0) pe_int (fun _ _ => rfl)) (pa1 (pe_ix (o_ix (K := K)) (pv 0) pe_int (fun _ _ => rfl)) (pa1 (pe_ix (o_ix (K := K)) (pv 0) pe_int (fun _ _ => rfl)) (pa1 (pcT (call_listK (K := K)) rfl T.n_list (by kernel_rfl) (pa1 (pe_ix (o_ix (K := K)) (pv 0) pe_int (fun _ _ => rfl)) pa_nil)) pa_nil))))))))
      (pss_cons (ps_fldK (K := K) (pv 0) (pcT (call_listK (K := K)) rfl T.n_list (by kernel_rfl) (pa1 (pv 3) pa_nil)))
      (pss_one (ps_fldK (K := K) (pv 0) (pcT (call_listK (K := K)) rfl T.n_list (by kernel_rfl) (pa1 (pv 4) pa_nil))))))), ?_⟩
    rw [show start ["self", "name", "sections", "wants", "places"] [V.ref p, V.str n, V.ref s, V.ref w, V.ref l] = [some (V.ref p), some (V.str n), some (V.ref s), some (V.ref w), some (V.ref l)] from rfl]
    simp only [tSeq, tIfS, tRet, tRetN, tC, tVar, tOp, tUn, tTest, tB, tAnd, tOr, tNot, tAndV, tOrV, tNotV, tIf, tChain, tCons, tNil, tCall, tCB, tLst, tTup, tSl, tNoPart, tPart, gName, tNext, tDrop, tAsg, tAsgC, tBM, tYes, tDNewK, rI, rI0, rU, rEq, rNe, rAbs, rIntT, CDiv, add_ii, add_ss, mul_ii, ix_si, eq_ii, eq_ss, ne_ii, ne_ss, isnot_xn, List.append_nil, List.cons_append, List.nil_append, List.getElem?_cons_succ, List.getElem?_cons_zero, List.set_cons_succ, List.set_cons_zero, Option.some.injEq, V.int.injEq, V.bl.injEq, V.str.injEq, V.ref.injEq, V.ty.injEq, List.cons.injEq, and_true, true_and, exists_eq_left, exists_eq_left', exists_and_left, exists_eq', exists_const, exists_and_right, exists_eq_right, exists_eq_right', reduceCtorEq, false_and, and_false, exists_false, or_false, false_or, decide_eq_true_eq, Bool.not_eq_true', decide_eq_false_iff_not, Bool.false_eq_true, if_false, if_true, mk_app, mk_len, sg_mk, mk_one, decide_true, decide_false, Bool.not_true, Bool.not_false, ite_true, ite_false, not_true_eq_false, not_false_eq_true, mk_iff, tyV_str, stComp, List.map_cons, List.map_nil, Option.join_some, Option.join_none, gt_iff_lt, ge_iff_le, tRaise, tTryR, tCallH, tDisp, tPairs, tFld, sFld, tMake, tMeth, tAug, ipI, tDead, tBM0, tRev, l_let, l_fig, l_e, tDGet, tDNotIn, sDPut, tDNewK]
    have nsp := ne_ins hp hs (by intro _ _ _ z; cases z)
    have nwp := ne_ins hp hw (by intro _ _ _ z; cases z)
    have nlp := ne_ins hp hl (by intro _ _ _ z; cases z)
    refine ⟨_, dx, [], hp, T.oc_Part, T.nf_Part_name, (by show 0 < 1000; decide), ?_⟩
    have k1 : ∀ c o, H c = some o → c ≠ p → upd H p (.ins T.x_Part dx (putF "name" (V.str n) [])) c = some o := fun c o e nc => keepU e nc
    have hts1 := hts.updP hp (o := .ins T.x_Part dx (putF "name" (V.str n) []))
    have ep1 : upd H p (.ins T.x_Part dx (putF "name" (V.str n) [])) p = some (.ins T.x_Part dx (putF "name" (V.str n) [])) := upd_same
    have n1 : ∀ c, upd H p (.ins T.x_Part dx (putF "name" (V.str n) [])) c = none → H c = none := fun c h => by
      by_cases z : c = p
      · rw [z, upd_same] at h; cases h
      · rw [upd_ne z] at h; exact h
    generalize upd H p (.ins T.x_Part dx (putF "name" (V.str n) [])) = H1 at k1 hts1 ep1 n1 ⊢
    refine tcomp_listM (xs := refsS ts) (fun a' H0 => a' = s ∧ H0 = H1) (fun R h => ⟨_, rfl, h _ _ ⟨rfl, rfl⟩⟩) (fun a' i ys H' => a' = s ∧ Same H1 H' ∧ ∃ ts', ys = refsS ts' ∧ ts'.map (·.2) = (ts.take i).map (·.2) ∧ SecsN H H' ts') (fun a' H0 h => ⟨h.1, by rw [h.2]; exact Same.refl _, [], rfl, by simp, fun e he => nomatch he⟩) (fun a' i ys H' h => by rw [h.1]; exact SqL.of (h.2.1 _ _ (k1 _ _ hs nsp))) (sl1000 (by simp [refsS]; omega)) ?_ ?_
    · rintro a' i x ys H' Cy Cn hx ⟨rfl, S1, ts', rfl, em, hts'⟩ cy cn
      obtain ⟨e, ee, rfl⟩ := refsS_get hx
      obtain ⟨r, e1, e2⟩ := (hts1.same S1) e (List.mem_of_getElem? ee)
      refine ⟨KeepSt.set rfl, ?_⟩
      simp only [tSeq, tIfS, tRet, tRetN, tC, tVar, tOp, tUn, tTest, tB, tAnd, tOr, tNot, tAndV, tOrV, tNotV, tIf, tChain, tCons, tNil, tCall, tCB, tLst, tTup, tSl, tNoPart, tPart, gName, tNext, tDrop, tAsg, tAsgC, tBM, tYes, tDNewK, rI, rI0, rU, rEq, rNe, rAbs, rIntT, CDiv, add_ii, add_ss, mul_ii, ix_si, eq_ii, eq_ss, ne_ii, ne_ss, isnot_xn, List.append_nil, List.cons_append, List.nil_append, List.getElem?_cons_succ, List.getElem?_cons_zero, List.set_cons_succ, List.set_cons_zero, Option.some.injEq, V.int.injEq, V.bl.injEq, V.str.injEq, V.ref.injEq, V.ty.injEq, List.cons.injEq, and_true, true_and, exists_eq_left, exists_eq_left', exists_and_left, exists_eq', exists_const, exists_and_right, exists_eq_right, exists_eq_right', reduceCtorEq, false_and, and_false, exists_false, or_false, false_or, decide_eq_true_eq, Bool.not_eq_true', decide_eq_false_iff_not, Bool.false_eq_true, if_false, if_true, mk_app, mk_len, sg_mk, mk_one, decide_true, decide_false, Bool.not_true, Bool.not_false, ite_true, ite_false, not_true_eq_false, not_false_eq_true, mk_iff, tyV_str, stComp, List.map_cons, List.map_nil, Option.join_some, Option.join_none, gt_iff_lt, ge_iff_le, tRaise, tTryR, tCallH, tDisp, tPairs, tFld, sFld, tMake, tMeth, tAug, ipI, tDead, tBM0, tRev, l_let, l_fig, l_e, tDGet, tDNotIn, sDPut, tDNewK]
      refine ixT (SqT.of e1) (atIn (by decide) rfl) (ixT (SqT.of e1) (atIn (by decide) rfl) (ixT (SqT.of e1) (atIn (by decide) rfl) (ixT (SqT.of e1) (atIn (by decide) rfl) (listL (SqL.of e2) fun r' nr' => ⟨sl1000 (by simp), fun z nz => ?_⟩))))
      have S2 := Same.upd (Same.upd S1 nr' (o := .lst (e.2.row.map V.int))) nz (o := .tup [V.str e.2.k, V.str e.2.n, V.bl e.2.sh, V.ref r'])
      have S3 := Same.upd (Same.upd (Same.refl H') nr' (o := .lst (e.2.row.map V.int))) nz (o := .tup [V.str e.2.k, V.str e.2.n, V.bl e.2.sh, V.ref r'])
      have er := Same.upd (Same.refl (upd H' r' (.lst (e.2.row.map V.int)))) nz (o := .tup [V.str e.2.k, V.str e.2.n, V.bl e.2.sh, V.ref r']) _ _ upd_same
      refine cy _ _ ⟨rfl, S2, ts' ++ [(z, e.2)], by simp [refsS], by rw [take_snoc ee]; simp [em], fun y hy => ?_⟩
      rcases List.mem_append.mp hy with hy | hy
      · exact (hts'.same S3) y hy
      · rw [List.mem_singleton.mp hy]
        exact ⟨r', upd_same, er, n1 _ (S1.no ((Same.upd (Same.refl H') nr').no nz)), n1 _ (S1.no nr')⟩
    rintro a' ys H' l1 ⟨rfl, S1, ts', rfl, em, hts'⟩ nl1
    rw [show (refsS ts).length = ts.length by simp [refsS], List.take_length] at em
    have k2 : ∀ c o, H c = some o → c ≠ p → upd H' l1 (.lst (refsS ts')) c = some o := fun c o e nc => Same.upd S1 nl1 _ _ (k1 c o e nc)
    have ep2 := Same.upd S1 nl1 (o := .lst (refsS ts')) _ _ ep1
    have hts2 := hts'.same (Same.upd (Same.refl H') nl1 (o := .lst (refsS ts')))
    have el1 : upd H' l1 (.lst (refsS ts')) l1 = some (.lst (refsS ts')) := upd_same
    have nl1H := n1 _ (S1.no nl1)
    have n2 : ∀ c, upd H' l1 (.lst (refsS ts')) c = none → H c = none := fun c h => n1 _ (S1.no ((Same.upd (Same.refl H') nl1).no h))
    generalize upd H' l1 (.lst (refsS ts')) = H2 at k2 ep2 hts2 el1 n2 ⊢
    have l1p := ne_ins ep2 el1 (by intro _ _ _ z; cases z)
    refine ⟨_, dx, _, ep2, T.oc_Part, T.nf_Part_sections, (by have := length_putF "name" (V.str n) []; simp at *; omega), listL (SqL.of (keepU (k2 _ _ hw nwp) nwp)) fun w' nw' => ?_⟩
    generalize hf1 : putF "sections" (V.ref l1) (putF "name" (V.str n) []) = f1 at nw' ⊢
    have ep3 : upd H2 p (.ins T.x_Part dx f1) p = some (.ins T.x_Part dx f1) := upd_same
    have k3 : ∀ c o, H c = some o → c ≠ p → upd H2 p (.ins T.x_Part dx f1) c = some o := fun c o e nc => keepU (k2 c o e nc) nc
    have hts3 := hts2.updP ep2 (o := .ins T.x_Part dx f1)
    have el3 : upd H2 p (.ins T.x_Part dx f1) l1 = some (.lst (refsS ts')) := keepU el1 l1p
    have n3 : ∀ c, upd H2 p (.ins T.x_Part dx f1) c = none → H c = none := fun c h => by
      by_cases z : c = p
      · rw [z, upd_same] at h; cases h
      · rw [upd_ne z] at h; exact n2 c h
    have nw'H := n3 _ nw'
    generalize upd H2 p (.ins T.x_Part dx f1) = H3 at k3 ep3 hts3 el3 nw' n3 ⊢
    have S4 := Same.upd (Same.refl H3) nw' (o := .lst (ws.map V.str))
    have ew4 : upd H3 w' (.lst (ws.map V.str)) w' = some (.lst (ws.map V.str)) := upd_same
    generalize upd H3 w' (.lst (ws.map V.str)) = H4 at S4 ew4 ⊢
    have n4 : ∀ c, H4 c = none → H c = none := fun c h => n3 c (S4.no h)
    have k4 : ∀ c o, H c = some o → c ≠ p → H4 c = some o := fun c o e nc => S4 _ _ (k3 c o e nc)
    have hts4 := hts3.same S4
    have el4 := S4 _ _ el3
    have ep4 := S4 _ _ ep3
    have wp := ne_ins ep4 ew4 (by intro _ _ _ z; cases z)
    refine ⟨_, dx, _, ep4, T.oc_Part, T.nf_Part_wants, (by rw [← hf1]; have := length_putF "sections" (V.ref l1) (putF "name" (V.str n) []); have := length_putF "name" (V.str n) []; simp at *; omega), listL (SqL.of (keepU (k4 _ _ hl nlp) nlp)) fun l' nl' => ?_⟩
    generalize hf2 : putF "wants" (V.ref w') f1 = f2 at nl' ⊢
    have ep5 : upd H4 p (.ins T.x_Part dx f2) p = some (.ins T.x_Part dx f2) := upd_same
    have k5 : ∀ c o, H c = some o → c ≠ p → upd H4 p (.ins T.x_Part dx f2) c = some o := fun c o e nc => keepU (k4 c o e nc) nc
    have hts5 := hts4.updP ep4 (o := .ins T.x_Part dx f2)
    have el5 : upd H4 p (.ins T.x_Part dx f2) l1 = some (.lst (refsS ts')) := keepU el4 l1p
    have ew5 : upd H4 p (.ins T.x_Part dx f2) w' = some (.lst (ws.map V.str)) := keepU ew4 wp
    have nl'H : H l' = none := by
      have h := nl'
      by_cases z : l' = p
      · rw [z, upd_same] at h; cases h
      · rw [upd_ne z] at h; exact n4 _ h
    generalize upd H4 p (.ins T.x_Part dx f2) = H5 at k5 ep5 hts5 el5 ew5 nl' ⊢
    have S6 := Same.upd (Same.refl H5) nl' (o := .lst ps)
    have el6 : upd H5 l' (.lst ps) l' = some (.lst ps) := upd_same
    generalize upd H5 l' (.lst ps) = H6 at S6 el6 ⊢
    have ep6 := S6 _ _ ep5
    have lp := ne_ins ep6 el6 (by intro _ _ _ z; cases z)
    refine ⟨_, dx, _, ep6, T.oc_Part, T.nf_Part_places, (by rw [← hf2, ← hf1]; have := length_putF "wants" (V.ref w') (putF "sections" (V.ref l1) (putF "name" (V.str n) [])); have := length_putF "sections" (V.ref l1) (putF "name" (V.str n) []); have := length_putF "name" (V.str n) []; simp at *; omega), ?_⟩
    rw [← hf2, ← hf1]
    refine q l1 w' l' ts' _ nl1H upd_same (keepU (S6 _ _ el5) l1p) em ?_ nw'H nl'H (keepU (S6 _ _ ew5) wp) (keepU el6 lp) fun c o e nc => keepU (S6 _ _ (k5 c o e nc)) nc
    exact (hts5.same S6).updP ep6
noncomputable def sp_Part_names (T : Txt K mg) : Sp := fun vs H Q E => ∃ (p dx : Addr) (n : Str) (s w l : Addr) (ts : List (Addr × Sec)), vs = [.ref p] ∧ H p = some (.ins T.x_Part dx (fldP n s w l)) ∧ H s = some (.lst (refsS ts)) ∧ SecsAt H ts ∧ ts.length ≤ 10 ∧ ∀ l' ss H', H l' = none → Same H H' → ss.Perm (shs ts) → PyProof.Rows.sortedS ss = true → H' l' = some (.lst (ss.map V.str)) → Q (.ref l') H'
theorem sc_Part_names : FnScope ["self"] ["self"] (defScope s_Part_names) := ⟨rfl, rfl, rfl, by decide +kernel, rfl, by decide +kernel, by decide +kernel⟩
theorem ok_Part_names (T : Txt K mg) : FnOk P w K mg base CX0 1 T.d_Part_names.f T.d_Part_names.fd ["self"] (sp_Part_names T) := by
  have nd := sc_Part_names.nd
  refine T.d_Part_names.F.ok sc_Part_names (fun vs H Q E h => ?_) (fun cdv A outer s H vs Q E hr h => ?_)
  · obtain ⟨p, dx, n, s, w, l, ts, rfl, hp, hs, hts, lt, q⟩ := h
    rfl
  · obtain ⟨p, dx, n, s, w, l, ts, rfl, hp, hs, hts, lt, q⟩ := h
    have hu := hr.units0
    refine ⟨_, (pss_one (ps_ret (pcB (o_sorted (K := K)) rfl T.n_sorted (by kernel_rfl) (pa1 (pe_lcomp (N' := ["section"]) (src := [none]) rfl (CompScope.of (by kernel_rfl)) (pi_listK (K := K) (pe_fldK (K := K) (pv 0))) (fun _ _ _ _ _ _ => (pg_name (i := 0) (show (["section"] : List Str).Nodup by decide +kernel) rfl (Or.inl rfl))) (fun _ _ _ _ _ _ => (pif_one (pt_val (pe_ix (o_ix (K := K)) (pv 0) pe_int (fun _ _ => rfl))))) (fun _ _ _ _ _ _ => (pe_ix (o_ix (K := K)) (pv 0) pe_int (fun _ _ => rfl)))) pa_nil)))), ?_⟩
    rw [show start ["self"] [V.ref p] = [some (V.ref p)] from rfl]
    simp only [tSeq, tIfS, tRet, tRetN, tC, tVar, tOp, tUn, tTest, tB, tAnd, tOr, tNot, tAndV, tOrV, tNotV, tIf, tChain, tCons, tNil, tCall, tCB, tLst, tTup, tSl, tNoPart, tPart, gName, tNext, tDrop, tAsg, tAsgC, tBM, tYes, tDNewK, rI, rI0, rU, rEq, rNe, rAbs, rIntT, CDiv, add_ii, add_ss, mul_ii, ix_si, eq_ii, eq_ss, ne_ii, ne_ss, isnot_xn, List.append_nil, List.cons_append, List.nil_append, List.getElem?_cons_succ, List.getElem?_cons_zero, List.set_cons_succ, List.set_cons_zero, Option.some.injEq, V.int.injEq, V.bl.injEq, V.str.injEq, V.ref.injEq, V.ty.injEq, List.cons.injEq, and_true, true_and, exists_eq_left, exists_eq_left', exists_and_left, exists_eq', exists_const, exists_and_right, exists_eq_right, exists_eq_right', reduceCtorEq, false_and, and_false, exists_false, or_false, false_or, decide_eq_true_eq, Bool.not_eq_true', decide_eq_false_iff_not, Bool.false_eq_true, if_false, if_true, mk_app, mk_len, sg_mk, mk_one, decide_true, decide_false, Bool.not_true, Bool.not_false, ite_true, ite_false, not_true_eq_false, not_false_eq_true, mk_iff, tyV_str, stComp, List.map_cons, List.map_nil, Option.join_some, Option.join_none, gt_iff_lt, ge_iff_le, tRaise, tTryR, tCallH, tDisp, tPairs, tFld, sFld, tMake, tMeth, tAug, ipI, tDead, tBM0, tRev, l_let, l_fig, l_e, tDGet, tDNotIn, sDPut, tDNewK]
    have NS : NoAttr K T.x_Part "sections" := T.nf_Part_sections
    refine tcomp_listM (xs := refsS ts) (fun a' H0 => a' = s ∧ H0 = H) (fun R h => ⟨_, rfl, _, _, _, _, _, rfl, hp, T.oc_Part, NS, fP_sections _ _ _ _, h _ _ ⟨rfl, rfl⟩⟩) (fun a' i ys H' => a' = s ∧ H' = H ∧ ys = (shs (ts.take i)).map V.str) (fun a' H0 h => ⟨h.1, h.2, by simp [shs]⟩) (fun a' i ys H' h => by rw [h.1, h.2.1]; exact SqL.of hs) (sl1000 (by simp [refsS]; omega)) ?_ ?_
    · rintro a' i x ys H' Cy Cn hx ⟨rfl, rfl, rfl⟩ cy cn
      obtain ⟨e, ee, rfl⟩ := refsS_get hx
      obtain ⟨r, e1, e2⟩ := hts e (List.mem_of_getElem? ee)
      refine ⟨KeepSt.set rfl, ?_⟩
      simp only [tSeq, tIfS, tRet, tRetN, tC, tVar, tOp, tUn, tTest, tB, tAnd, tOr, tNot, tAndV, tOrV, tNotV, tIf, tChain, tCons, tNil, tCall, tCB, tLst, tTup, tSl, tNoPart, tPart, gName, tNext, tDrop, tAsg, tAsgC, tBM, tYes, tDNewK, rI, rI0, rU, rEq, rNe, rAbs, rIntT, CDiv, add_ii, add_ss, mul_ii, ix_si, eq_ii, eq_ss, ne_ii, ne_ss, isnot_xn, List.append_nil, List.cons_append, List.nil_append, List.getElem?_cons_succ, List.getElem?_cons_zero, List.set_cons_succ, List.set_cons_zero, Option.some.injEq, V.int.injEq, V.bl.injEq, V.str.injEq, V.ref.injEq, V.ty.injEq, List.cons.injEq, and_true, true_and, exists_eq_left, exists_eq_left', exists_and_left, exists_eq', exists_const, exists_and_right, exists_eq_right, exists_eq_right', reduceCtorEq, false_and, and_false, exists_false, or_false, false_or, decide_eq_true_eq, Bool.not_eq_true', decide_eq_false_iff_not, Bool.false_eq_true, if_false, if_true, mk_app, mk_len, sg_mk, mk_one, decide_true, decide_false, Bool.not_true, Bool.not_false, ite_true, ite_false, not_true_eq_false, not_false_eq_true, mk_iff, tyV_str, stComp, List.map_cons, List.map_nil, Option.join_some, Option.join_none, gt_iff_lt, ge_iff_le, tRaise, tTryR, tCallH, tDisp, tPairs, tFld, sFld, tMake, tMeth, tAug, ipI, tDead, tBM0, tRev, l_let, l_fig, l_e, tDGet, tDNotIn, sDPut, tDNewK]
      refine ixT (SqT.of e1) (atIn (by decide) rfl) ⟨_, rfl, ?_⟩
      cases hc : e.2.sh with
      | true => exact iteT' rfl (ixT (SqT.of e1) (atIn (by decide) rfl) (cy _ _ ⟨rfl, rfl, by rw [take_snoc ee, shs_snoc, if_pos hc]; simp⟩))
      | false => exact iteF' (by simp) (cn _ ⟨rfl, rfl, by rw [take_snoc ee, shs_snoc, if_neg (by simp [hc])]⟩)
    rintro a' ys H' l1 ⟨rfl, rfl, rfl⟩ n1
    rw [show (refsS ts).length = ts.length by simp [refsS], List.take_length]
    have := shs_len ts
    refine ⟨l1, shs ts, rfl, SqL.of upd_same, by omega, fun l2 ss n2 hp2 hs2 => ?_⟩
    have S1 := Same.upd (Same.refl H') n1 (o := .lst ((shs ts).map V.str))
    exact q l2 ss _ (S1.no n2) (Same.upd S1 n2) hp2 hs2 upd_same
noncomputable def sp_Image___init__ (T : Txt K mg) : Sp := fun vs H Q E => ∃ (p dx : Addr) (m : Int) (s b f : Addr) (ss bs fs : List V), vs = [.ref p, .int m, .ref s, .ref b, .ref f] ∧ H p = some (.ins T.x_Image dx []) ∧ H s = some (.lst ss) ∧ H b = some (.lst bs) ∧ H f = some (.lst fs) ∧ ∀ s' b' f' H', H s' = none → H b' = none → H f' = none → H' p = some (.ins T.x_Image dx (fldI m s' b' f')) → H' s' = some (.lst ss) → H' b' = some (.lst bs) → H' f' = some (.lst fs) → (∀ c o, H c = some o → c ≠ p → H' c = some o) → Q .non H'
theorem sc_Image___init__ : FnScope ["self", "main", "sections", "body", "far"] ["self", "main", "sections", "body", "far"] (defScope s_Image___init__) := ⟨rfl, rfl, rfl, by decide +kernel, rfl, by decide +kernel, by decide +kernel⟩
theorem ok_Image___init__ (T : Txt K mg) : FnOk P w K mg base CX0 1 T.d_Image___init__.f T.d_Image___init__.fd ["self", "main", "sections", "body", "far"] (sp_Image___init__ T) := by
  have nd := sc_Image___init__.nd
  refine T.d_Image___init__.F.ok sc_Image___init__ (fun vs H Q E h => ?_) (fun cdv A outer s H vs Q E hr h => ?_)
  · obtain ⟨p, dx, m, s, b, f, ss, bs, fs, rfl, hp, hs, hb, hf, q⟩ := h
    rfl
  · obtain ⟨p, dx, m, s, b, f, ss, bs, fs, rfl, hp, hs, hb, hf, q⟩ := h
    have hu := hr.units0
    refine ⟨_, (pss_cons (ps_fldK (K := K) (pv 0) (pv 1))
      (pss_cons (ps_fldK (K := K) (pv 0) (pcT (call_listK (K := K)) rfl T.n_list (by kernel_rfl) (pa1 (pv 2) pa_nil)))
      (pss_cons (ps_fldK (K := K) (pv 0) (pcT (call_listK (K := K)) rfl T.n_list (by kernel_rfl) (pa1 (pv 3) pa_nil)))
      (pss_one (ps_fldK (K := K) (pv 0) (pcT (call_listK (K := K)) rfl T.n_list (by kernel_rfl) (pa1 (pv 4) pa_nil))))))), ?_⟩
    rw [show start ["self", "main", "sections", "body", "far"] [V.ref p, V.int m, V.ref s, V.ref b, V.ref f] = [some (V.ref p), some (V.int m), some (V.ref s), some (V.ref b), some (V.ref f)] from rfl]
    simp only [tSeq, tIfS, tRet, tRetN, tC, tVar, tOp, tUn, tTest, tB, tAnd, tOr, tNot, tAndV, tOrV, tNotV, tIf, tChain, tCons, tNil, tCall, tCB, tLst, tTup, tSl, tNoPart, tPart, gName, tNext, tDrop, tAsg, tAsgC, tBM, tYes, tDNewK, rI, rI0, rU, rEq, rNe, rAbs, rIntT, CDiv, add_ii, add_ss, mul_ii, ix_si, eq_ii, eq_ss, ne_ii, ne_ss, isnot_xn, List.append_nil, List.cons_append, List.nil_append, List.getElem?_cons_succ, List.getElem?_cons_zero, List.set_cons_succ, List.set_cons_zero, Option.some.injEq, V.int.injEq, V.bl.injEq, V.str.injEq, V.ref.injEq, V.ty.injEq, List.cons.injEq, and_true, true_and, exists_eq_left, exists_eq_left', exists_and_left, exists_eq', exists_const, exists_and_right, exists_eq_right, exists_eq_right', reduceCtorEq, false_and, and_false, exists_false, or_false, false_or, decide_eq_true_eq, Bool.not_eq_true', decide_eq_false_iff_not, Bool.false_eq_true, if_false, if_true, mk_app, mk_len, sg_mk, mk_one, decide_true, decide_false, Bool.not_true, Bool.not_false, ite_true, ite_false, not_true_eq_false, not_false_eq_true, mk_iff, tyV_str, stComp, List.map_cons, List.map_nil, Option.join_some, Option.join_none, gt_iff_lt, ge_iff_le, tRaise, tTryR, tCallH, tDisp, tPairs, tFld, sFld, tMake, tMeth, tAug, ipI, tDead, tBM0, tRev, l_let, l_fig, l_e, tDGet, tDNotIn, sDPut, tDNewK]
    have ns := ne_ins hp hs (by intro _ _ _ z; cases z)
    have nb := ne_ins hp hb (by intro _ _ _ z; cases z)
    have nf := ne_ins hp hf (by intro _ _ _ z; cases z)
    refine ⟨_, dx, [], hp, T.oc_Image, T.nf_Image_main, (by show 0 < 1000; decide), listL (SqL.of (keepU hs ns)) fun s' ns' => ?_⟩
    obtain ⟨H1, k1, e1, x1⟩ := fld_new hp ns' (o := .lst ss)
    rw [x1]
    refine ⟨_, dx, _, k1.1, T.oc_Image, T.nf_Image_sections, (by show 1 < 1000; decide), listL (SqL.of (keepU (k1.2.1 _ _ hb nb) nb)) fun b' nb' => ?_⟩
    obtain ⟨H2, k2, e2, x2⟩ := fld_new k1.1 nb' (o := .lst bs)
    rw [x2]
    refine ⟨_, dx, _, k2.1, T.oc_Image, T.nf_Image_body, fl3 _ _, listL (SqL.of (keepU (k2.2.1 _ _ (k1.2.1 _ _ hf nf) nf) nf)) fun f' nf' => ?_⟩
    obtain ⟨H3, k3, e3, x3⟩ := fld_new k2.1 nf' (o := .lst fs)
    rw [x3]
    refine ⟨_, dx, _, k3.1, T.oc_Image, T.nf_Image_far, fl4 _ _ _, ?_⟩
    have p1 := ne_ins k1.1 e1 (by intro _ _ _ z; cases z)
    have p2 := ne_ins k2.1 e2 (by intro _ _ _ z; cases z)
    have p3 := ne_ins k3.1 e3 (by intro _ _ _ z; cases z)
    exact q s' b' f' _ (k1.2.2.1 _ ns') (k1.2.2.2 _ (k2.2.2.1 _ nb')) (k1.2.2.2 _ (k2.2.2.2 _ (k3.2.2.1 _ nf'))) upd_same (keepU (k3.2.1 _ _ (k2.2.1 _ _ e1 p1) p1) p1) (keepU (k3.2.1 _ _ e2 p2) p2) (keepU e3 p3) fun c o e nc => keepU (k3.2.1 _ _ (k2.2.1 _ _ (k1.2.1 _ _ e nc) nc) nc) nc
noncomputable def sp_by_names (T : Txt K mg) : Sp := fun vs H Q E => ∃ (p : Addr) (ms : List PM), vs = [.ref p] ∧ SqL K H p (ms.map fun m => V.ref m.a) ∧ ms.length < 64 ∧ TabAt T.x_tab lamP lamQ H ∧ (∀ m ∈ ms, PMAt T.x_Part H m) ∧ ∀ (H2 : Hp) (l : Addr) (ms' : List PM), TabAt T.x_tab lamP lamQ H2 → Stay T.x_tab H H2 → H2 l = none → ms'.Perm ms → ms'.Pairwise (fun p q => p.n.cps.toList ≤ q.n.cps.toList) → Q (.ref l) (upd H2 l (.lst (ms'.map fun m => V.ref m.a)))
theorem sc_by_names : FnScope ["parts"] ["parts"] (defScope s_by_names) := ⟨rfl, rfl, rfl, by decide +kernel, rfl, by decide +kernel, by decide +kernel⟩
theorem ok_by_names (T : Txt K mg) (hbm : base.get? T.x_bm = some T.o_bm) : FnOk P w K mg base CX0 4 T.d_by_names.f T.d_by_names.fd ["parts"] (sp_by_names T) := by
  have nd := sc_by_names.nd
  refine T.d_by_names.F.okC sc_by_names (fun vs H Q E h => ?_) (fun A outer s H vs Q E hr h => ?_)
  · obtain ⟨p, ms, rfl, hp, hl, hT, hm, q⟩ := h
    rfl
  · obtain ⟨p, ms, rfl, hp, hl, hT, hm, q⟩ := h
    have hu := hr.units0
    refine ⟨_, (pss_one (ps_ret (pe_sortK (K := K) (Pt := T.x_tab) (qual := lamQ) (x0 := "part") rfl hr rfl T.n_sorted (pa1 (pv 0) pa_nil) lamQ_eq T.hcod T.htab T.m_bm T.b_ne hbm T.b_1 T.b_2 T.b_3 ⟨rfl, rfl, rfl, by decide +kernel, rfl, by decide +kernel, by decide +kernel⟩ (fun _ _ _ _ => rfl) (fun _ _ _ _ _ _ => (pe_fldK (K := K) (pv 0)))))), ?_⟩
    rw [show start (["parts"] : List Str) [V.ref p] = [some (V.ref p)] from rfl]
    refine ⟨_, rfl, ?_⟩
    refine ⟨p, ms.map (·.a), ms.map (·.n), rfl, by rw [List.map_map]; exact hp, by simp, by simpa using hl, hT, fun H2 hT2 hSt i a k ha hk => ?_, fun H2 l qs hT2 hSt hl2 hq hs => ?_⟩
    · rw [List.getElem?_map] at ha hk
      cases e : ms[i]? with
      | none => rw [e] at ha; cases ha
      | some m =>
        rw [e] at ha hk
        cases ha
        cases hk
        obtain ⟨dx, s', w', l', a1, _⟩ := (hm m (List.mem_of_getElem? e)).stay (tab_some hT) hSt
        exact ⟨_, rfl, _, _, dx, _, _, rfl, a1, T.oc_Part, T.nf_Part_name, fP_name _ _ _ _, rfl, rfl⟩
    · rw [List.zip_map'] at hq
      obtain ⟨ms', pm, rfl⟩ := perm_map hq ms rfl
      rw [List.map_map]
      exact q H2 l ms' hT2 hSt hl2 pm ((List.pairwise_map (R := fun p q : Str × Addr => p.1.cps.toList ≤ q.1.cps.toList)).mp hs)
noncomputable def sp_laid (T : Txt K mg) : Sp := fun vs H Q E => ∃ (p : Addr) (ms : List PM), vs = [.ref p] ∧ H p = some (.lst (ms.map fun m => V.ref m.a)) ∧ ms.length ≤ 6 ∧ TabAt T.x_tab lamP lamQ H ∧ (∀ m ∈ ms, PMAt T.x_Part H m ∧ m.ts.length ≤ 4) ∧ ∀ l (rs : List (Addr × Rw)) (m1 m2 : List PM) H', TabAt T.x_tab lamP lamQ H' → Stay T.x_tab H H' → H l = none → H' l = some (.lst (refsS rs)) → (∀ e ∈ rs, RwAt H' e) → m1.Perm ms → SrtP m1 → m2.Perm ms → SrtP m2 → rs.map (·.2) = (placeR (m1.flatMap (itP (Str.ofString "code")) ++ m2.flatMap (itP (Str.ofString "data")))).1 → Q (.ref l) H'
theorem sc_laid : FnScope ["parts", "told", "place", "kind", "part", "section"] ["parts"] (defScope s_laid) := ⟨rfl, rfl, rfl, by decide +kernel, rfl, by decide +kernel, by decide +kernel⟩
theorem ok_laid (T : Txt K mg) (hbm : base.get? T.x_bm = some T.o_bm) : FnOk P w K mg base CX0 5 T.d_laid.f T.d_laid.fd ["parts"] (sp_laid T) := by
  have nd := sc_laid.nd
  refine T.d_laid.F.ok sc_laid (fun vs H Q E h => ?_) (fun cdv A outer s H vs Q E hr h => ?_)
  · obtain ⟨p, ms, rfl, hp, lm, hT, hm, q⟩ := h
    rfl
  · obtain ⟨p, ms, rfl, hp, lm, hT, hm, q⟩ := h
    have hu := hr.units0
    refine ⟨_, (pss_cons (ps_set (i := 1) nd rfl (Or.inl rfl) (pe_lst pa_nil))
      (pss_cons (ps_set (i := 2) nd rfl (Or.inl rfl) pe_int)
      (pss_cons (ps_for PassesOwn.never rfl (pi_tupK (K := K) (pe_gl rfl T.c_KINDS)) (pg_name (i := 3) nd rfl (Or.inl rfl))
        (pss_one (ps_for PassesOwn.never rfl (pi_listK (K := K) (pc1 T.d_by_names (ok_by_names T hbm) (hr.mono (by decide)) (pa1 (pv 0) pa_nil))) (pg_name (i := 4) nd rfl (Or.inl rfl))
        (pss_one (ps_for PassesOwn.never rfl (pi_listK (K := K) (pe_fldK (K := K) (pv 4))) (pg_name (i := 5) nd rfl (Or.inl rfl))
        (pss_one (ps_if (pt_cmpR (o_eq (K := K) hu) (pe_ix (o_ix (K := K)) (pv 5) pe_int (fun _ _ => rfl)) (pv 3) (nomark _)) (pss_cons (ps_expr (pm1 (K := K) PySem.F.plainAttrs_list PySem.F.slot_list_append PySem.F.type_list_append o_append (pv 1) (pa1 (pe_tup (pa1 (pe_fldK (K := K) (pv 4)) (pa1 (pe_ix (o_ix (K := K)) (pv 5) pe_int (fun _ _ => rfl)) (pa1 (pv 3) (pa1 (pv 2) (pa1 (pcB (o_len (K := K)) rfl T.n_len (by kernel_rfl) (pa1 (pe_ix (o_ix (K := K)) (pv 5) pe_int (fun _ _ => rfl)) pa_nil)) pa_nil)))))) pa_nil)))
      (pss_one (ps_aug (i := 2) nd rfl (Or.inl rfl) (pcB (o_len (K := K)) rfl T.n_len (by kernel_rfl) (pa1 (pe_ix (o_ix (K := K)) (pv 5) pe_int (fun _ _ => rfl)) pa_nil)) ip_add))) pss_nil)))))))
      (pss_one (ps_ret (pv 1)))))), ?_⟩
    rw [show start ["parts", "told", "place", "kind", "part", "section"] [V.ref p] = [some (V.ref p), none, none, none, none, none] from rfl]
    have S := Same.refl H
    obtain ⟨tbs, htb⟩ := tab_some hT
    refine tSeq_gen fun B hB => ?_
    simp only [tSeq, tIfS, tRet, tRetN, tC, tVar, tOp, tUn, tTest, tB, tAnd, tOr, tNot, tAndV, tOrV, tNotV, tIf, tChain, tCons, tNil, tCall, tCB, tLst, tTup, tSl, tNoPart, tPart, gName, tNext, tDrop, tAsg, tAsgC, tBM, tYes, tDNewK, rI, rI0, rU, rEq, rNe, rAbs, rIntT, CDiv, add_ii, add_ss, mul_ii, ix_si, eq_ii, eq_ss, ne_ii, ne_ss, isnot_xn, List.append_nil, List.cons_append, List.nil_append, List.getElem?_cons_succ, List.getElem?_cons_zero, List.set_cons_succ, List.set_cons_zero, Option.some.injEq, V.int.injEq, V.bl.injEq, V.str.injEq, V.ref.injEq, V.ty.injEq, List.cons.injEq, and_true, true_and, exists_eq_left, exists_eq_left', exists_and_left, exists_eq', exists_const, exists_and_right, exists_eq_right, exists_eq_right', reduceCtorEq, false_and, and_false, exists_false, or_false, false_or, decide_eq_true_eq, Bool.not_eq_true', decide_eq_false_iff_not, Bool.false_eq_true, if_false, if_true, mk_app, mk_len, sg_mk, mk_one, decide_true, decide_false, Bool.not_true, Bool.not_false, ite_true, ite_false, not_true_eq_false, not_false_eq_true, mk_iff, tyV_str, stComp, List.map_cons, List.map_nil, Option.join_some, Option.join_none, gt_iff_lt, ge_iff_le, tRaise, tTryR, tCallH, tDisp, tPairs, tFld, sFld, tMake, tMeth, tAug, ipI, tDead, tBM0, tRev, l_let, l_fig, l_e, tDGet, tDNotIn, sDPut, tDNewK]
    refine ⟨sl1000 (by simp), fun l nl => ?_⟩
    have n0_l := S.no nl
    have X_ := Same.upd (Same.refl H) nl (o := .lst [])
    have e_l : upd H l (.lst []) l = some (.lst []) := upd_same
    replace S := S.trans X_
    replace hT := TabAt.same' hT X_
    generalize upd H l (.lst []) = H1 at X_ e_l hT S ⊢
    clear X_ nl
    
    subst hB
    simp only [tSeq, tIfS, tRet, tRetN, tC, tVar, tOp, tUn, tTest, tB, tAnd, tOr, tNot, tAndV, tOrV, tNotV, tIf, tChain, tCons, tNil, tCall, tCB, tLst, tTup, tSl, tNoPart, tPart, gName, tNext, tDrop, tAsg, tAsgC, tBM, tYes, tDNewK, rI, rI0, rU, rEq, rNe, rAbs, rIntT, CDiv, add_ii, add_ss, mul_ii, ix_si, eq_ii, eq_ss, ne_ii, ne_ss, isnot_xn, List.append_nil, List.cons_append, List.nil_append, List.getElem?_cons_succ, List.getElem?_cons_zero, List.set_cons_succ, List.set_cons_zero, Option.some.injEq, V.int.injEq, V.bl.injEq, V.str.injEq, V.ref.injEq, V.ty.injEq, List.cons.injEq, and_true, true_and, exists_eq_left, exists_eq_left', exists_and_left, exists_eq', exists_const, exists_and_right, exists_eq_right, exists_eq_right', reduceCtorEq, false_and, and_false, exists_false, or_false, false_or, decide_eq_true_eq, Bool.not_eq_true', decide_eq_false_iff_not, Bool.false_eq_true, if_false, if_true, mk_app, mk_len, sg_mk, mk_one, decide_true, decide_false, Bool.not_true, Bool.not_false, ite_true, ite_false, not_true_eq_false, not_false_eq_true, mk_iff, tyV_str, stComp, List.map_cons, List.map_nil, Option.join_some, Option.join_none, gt_iff_lt, ge_iff_le, tRaise, tTryR, tCallH, tDisp, tPairs, tFld, sFld, tMake, tMeth, tAug, ipI, tDead, tBM0, tRev, l_let, l_fig, l_e, tDGet, tDNotIn, sDPut, tDNewK]
    have L0 : Lv H1 l [] 0 := ⟨[], e_l, (fun _ h => nomatch h), rfl, by simp⟩
    have St : Stay T.x_tab H H1 := Stay.of S
    clear e_l S
    refine tfor_tup (fun a xs H0 => a = T.x_KINDS ∧ xs = [V.str (Str.ofString "code"), V.str (Str.ofString "data")] ∧ H0 = H1) (fun R z => z _ _ _ ⟨rfl, rfl, rfl⟩) (fun a xs H0 z => by rw [z.1, z.2.1]; exact T.sq_KINDS.sq) (fun a xs i σ H' => (a = T.x_KINDS ∧ xs = [V.str (Str.ofString "code"), V.str (Str.ofString "data")]) ∧ TabAt T.x_tab lamP lamQ H' ∧ Stay T.x_tab H H' ∧ ∃ (ns : List (List PM)) (v3 v4 v5 : Option V), ns.length = i ∧ (∀ n ∈ ns, n.Perm ms ∧ SrtP n) ∧ Lv H' l (lidK ns) (24 * i) ∧ σ = [some (V.ref p), some (V.ref l), some (V.int (placeR (lidK ns)).2), v3, v4, v5]) (fun a xs H0 z => ⟨⟨z.1, z.2.1⟩, by rw [z.2.2]; exact hT, by rw [z.2.2]; exact St, [], none, none, none, rfl, (fun _ h => nomatch h), by rw [z.2.2]; exact L0, rfl⟩) (fun a xs i σ H' z => by rw [z.1.1, z.1.2]; exact T.sq_KINDS.sq) ?_ ?_
    · clear St L0 hT H1
      rintro a xs i x σ H1 hx ⟨⟨rfl, rfl⟩, hT, St, ns, v3, v4, v5, lns, hns, L1, rfl⟩
      obtain ⟨kd, hkd, rfl⟩ := kds_at hx
      rw [← lns] at hkd
      have hi2 : i ≤ 2 := by
        have := (List.getElem?_eq_some_iff.mp hx).1
        simp at this
        omega
      refine tfor_unf ?_
      simp only [tSeq, tIfS, tRet, tRetN, tC, tVar, tOp, tUn, tTest, tB, tAnd, tOr, tNot, tAndV, tOrV, tNotV, tIf, tChain, tCons, tNil, tCall, tCB, tLst, tTup, tSl, tNoPart, tPart, gName, tNext, tDrop, tAsg, tAsgC, tBM, tYes, tDNewK, rI, rI0, rU, rEq, rNe, rAbs, rIntT, CDiv, add_ii, add_ss, mul_ii, ix_si, eq_ii, eq_ss, ne_ii, ne_ss, isnot_xn, List.append_nil, List.cons_append, List.nil_append, List.getElem?_cons_succ, List.getElem?_cons_zero, List.set_cons_succ, List.set_cons_zero, Option.some.injEq, V.int.injEq, V.bl.injEq, V.str.injEq, V.ref.injEq, V.ty.injEq, List.cons.injEq, and_true, true_and, exists_eq_left, exists_eq_left', exists_and_left, exists_eq', exists_const, exists_and_right, exists_eq_right, exists_eq_right', reduceCtorEq, false_and, and_false, exists_false, or_false, false_or, decide_eq_true_eq, Bool.not_eq_true', decide_eq_false_iff_not, Bool.false_eq_true, if_false, if_true, mk_app, mk_len, sg_mk, mk_one, decide_true, decide_false, Bool.not_true, Bool.not_false, ite_true, ite_false, not_true_eq_false, not_false_eq_true, mk_iff, tyV_str, stComp, List.map_cons, List.map_nil, Option.join_some, Option.join_none, gt_iff_lt, ge_iff_le, tRaise, tTryR, tCallH, tDisp, tPairs, tFld, sFld, tMake, tMeth, tAug, ipI, tDead, tBM0, tRev, l_let, l_fig, l_e, tDGet, tDNotIn, sDPut, tDNewK]
      refine ⟨p, ms, rfl, SqL.of (stayN htb St hp (fun _ z => nomatch z)), by omega, hT, fun m hmem => (hm m hmem).1.stay ⟨_, htb⟩ St, fun H2 l' ms' hT2 St2 nl' hperm hsort => ?_⟩
      have ell : ∃ xs, H1 l = some (.lst xs) := let ⟨_, e, _⟩ := L1; ⟨_, e⟩
      obtain ⟨xs0, ell⟩ := ell
      obtain ⟨tb1, htb1⟩ := tab_some hT
      have dl : l' ≠ l := fun z => by
        have := stayN htb1 St2 ell (fun _ z => nomatch z)
        rw [← z, nl'] at this
        cases this
      have L2 : Lv H2 l (lidK ns) (24 * i) := by
        obtain ⟨rs, b1, b2, b3, b4⟩ := L1
        exact ⟨rs, stayN htb1 St2 b1 (fun _ z => nomatch z), fun e he => stayN htb1 St2 (b2 e he) (fun _ z => nomatch z), b3, b4⟩
      replace St2 := St.trans St2
      have X := Same.upd (Same.refl H2) nl' (o := .lst (ms'.map fun m => V.ref m.a))
      refine ⟨l', rfl, ⟨_, SqL.of upd_same⟩, tfor_it (xs := ms'.map fun m => V.ref m.a) (fun j σ H' => TabAt T.x_tab lamP lamQ H' ∧ Stay T.x_tab H H' ∧ H' l' = some (.lst (ms'.map fun m => V.ref m.a)) ∧ ∃ (v4 v5 : Option V), Lv H' l (lidK ns ++ (ms'.take j).flatMap (itP kd)) (24 * i + 4 * j) ∧ σ = [some (V.ref p), some (V.ref l), some (V.int (placeR (lidK ns ++ (ms'.take j).flatMap (itP kd))).2), some (V.str kd), v4, v5]) ⟨TabAt.same' hT2 X, St2.trans (Stay.of X), upd_same, v4, v5, by simpa using L2.same X, by simp⟩ (fun j σ H' z => SqL.of z.2.2.1) (fun j y σ H' hy z => ?_) (fun σ H' z => ?_)⟩
      · clear X St2 L2 ell htb1 hT2 hT St L1 H1 H2 nl'
        obtain ⟨hT, St, el', v4, v5, L, rfl⟩ := z
        obtain ⟨m, hmm, rfl⟩ := getM hy
        obtain ⟨⟨dx, s, w, l3, a1, a2, a3⟩, lts⟩ := hm m (hperm.mem_iff.mp (List.mem_of_getElem? hmm))
        simp only [flat_snoc hmm, ← List.append_assoc]
        generalize lidK ns ++ (ms'.take j).flatMap (itP kd) = I at L ⊢
        refine tfor_list (a := s) (xs := refsS m.ts) (fun R z => ⟨_, rfl, _, T.x_Part, dx, _, _, rfl, stayN htb St a1 (fun _ z => nomatch z), T.oc_Part, T.nf_Part_sections, fP_sections _ _ _ _, z⟩) (SqL.of (stayN htb St a2 (fun _ z => nomatch z))) (fun u σ H' => TabAt T.x_tab lamP lamQ H' ∧ Stay T.x_tab H H' ∧ H' l' = some (.lst (ms'.map fun m => V.ref m.a)) ∧ ∃ (v5 : Option V), Lv H' l (I ++ itm kd m.n (secs (m.ts.take u))) (24 * i + 4 * j + u) ∧ σ = [some (V.ref p), some (V.ref l), some (V.int (placeR (I ++ itm kd m.n (secs (m.ts.take u)))).2), some (V.str kd), some (V.ref m.a), v5]) ⟨hT, St, el', v5, by rw [show itm kd m.n (secs (m.ts.take 0)) = [] from rfl, List.append_nil]; exact L, by rw [show itm kd m.n (secs (m.ts.take 0)) = [] from rfl, List.append_nil]; rfl⟩ (fun k σ H' z => SqL.of (stayN htb z.2.1 a2 (fun _ z => nomatch z))) ?_ ?_
        · clear hT St el' v4 v5 L H'
          rintro u x σ H1 hx ⟨hT, St, el', v5, L, rfl⟩
          obtain ⟨q', hq', rfl⟩ := refsS_get hx
          obtain ⟨r, b1, b2⟩ := a3 q' (List.mem_of_getElem? hq')
          rw [secs_snoc hq', itm_snoc]
          simp only [tSeq, tIfS, tRet, tRetN, tC, tVar, tOp, tUn, tTest, tB, tAnd, tOr, tNot, tAndV, tOrV, tNotV, tIf, tChain, tCons, tNil, tCall, tCB, tLst, tTup, tSl, tNoPart, tPart, gName, tNext, tDrop, tAsg, tAsgC, tBM, tYes, tDNewK, rI, rI0, rU, rEq, rNe, rAbs, rIntT, CDiv, add_ii, add_ss, mul_ii, ix_si, eq_ii, eq_ss, ne_ii, ne_ss, isnot_xn, List.append_nil, List.cons_append, List.nil_append, List.getElem?_cons_succ, List.getElem?_cons_zero, List.set_cons_succ, List.set_cons_zero, Option.some.injEq, V.int.injEq, V.bl.injEq, V.str.injEq, V.ref.injEq, V.ty.injEq, List.cons.injEq, and_true, true_and, exists_eq_left, exists_eq_left', exists_and_left, exists_eq', exists_const, exists_and_right, exists_eq_right, exists_eq_right', reduceCtorEq, false_and, and_false, exists_false, or_false, false_or, decide_eq_true_eq, Bool.not_eq_true', decide_eq_false_iff_not, Bool.false_eq_true, if_false, if_true, mk_app, mk_len, sg_mk, mk_one, decide_true, decide_false, Bool.not_true, Bool.not_false, ite_true, ite_false, not_true_eq_false, not_false_eq_true, mk_iff, tyV_str, stComp, List.map_cons, List.map_nil, Option.join_some, Option.join_none, gt_iff_lt, ge_iff_le, tRaise, tTryR, tCallH, tDisp, tPairs, tFld, sFld, tMake, tMeth, tAug, ipI, tDead, tBM0, tRev, l_let, l_fig, l_e, tDGet, tDNotIn, sDPut, tDNewK]
          refine ixT (SqT.of (stayN htb St b1 (fun _ z => nomatch z))) (atIn (by decide) rfl) ?_
          simp only [tSeq, tIfS, tRet, tRetN, tC, tVar, tOp, tUn, tTest, tB, tAnd, tOr, tNot, tAndV, tOrV, tNotV, tIf, tChain, tCons, tNil, tCall, tCB, tLst, tTup, tSl, tNoPart, tPart, gName, tNext, tDrop, tAsg, tAsgC, tBM, tYes, tDNewK, rI, rI0, rU, rEq, rNe, rAbs, rIntT, CDiv, add_ii, add_ss, mul_ii, ix_si, eq_ii, eq_ss, ne_ii, ne_ss, isnot_xn, List.append_nil, List.cons_append, List.nil_append, List.getElem?_cons_succ, List.getElem?_cons_zero, List.set_cons_succ, List.set_cons_zero, Option.some.injEq, V.int.injEq, V.bl.injEq, V.str.injEq, V.ref.injEq, V.ty.injEq, List.cons.injEq, and_true, true_and, exists_eq_left, exists_eq_left', exists_and_left, exists_eq', exists_const, exists_and_right, exists_eq_right, exists_eq_right', reduceCtorEq, false_and, and_false, exists_false, or_false, false_or, decide_eq_true_eq, Bool.not_eq_true', decide_eq_false_iff_not, Bool.false_eq_true, if_false, if_true, mk_app, mk_len, sg_mk, mk_one, decide_true, decide_false, Bool.not_true, Bool.not_false, ite_true, ite_false, not_true_eq_false, not_false_eq_true, mk_iff, tyV_str, stComp, List.map_cons, List.map_nil, Option.join_some, Option.join_none, gt_iff_lt, ge_iff_le, tRaise, tTryR, tCallH, tDisp, tPairs, tFld, sFld, tMake, tMeth, tAug, ipI, tDead, tBM0, tRev, l_let, l_fig, l_e, tDGet, tDNotIn, sDPut, tDNewK]
          by_cases h2 : q'.2.k = kd
          · rw [if_pos h2, if_pos h2]
            subst h2
            rw [← List.append_assoc]
            have jl := (List.getElem?_eq_some_iff.mp hmm).1
            have ul := (List.getElem?_eq_some_iff.mp hq').1
            have ll := hperm.length_eq
            generalize I ++ itm q'.2.k m.n (secs (m.ts.take u)) = I3 at L ⊢
            obtain ⟨xs, ex, lx, add⟩ := L.add m.n q'.2
            have nt : ∀ {xs : List V}, ∀ ps, HO.lst xs ≠ .tbl ps := fun _ z => nomatch z
            have nu : ∀ {xs : List V}, ∀ ps, HO.tup xs ≠ .tbl ps := fun _ z => nomatch z
            refine ⟨tyV_lst (SqL.of ex), _, dx, _, stayN htb St a1 (fun _ z => nomatch z), T.oc_Part, T.nf_Part_name, _, fP_name _ _ _ _, ixT (SqT.of (stayN htb St b1 nu)) (atIn (by decide) rfl) (ixT (SqT.of (stayN htb St b1 nu)) (atIn (by decide) rfl) (lenL (SqL.of (stayN htb St b2 nt)) ?_))⟩
            rw [List.length_map]
            refine ⟨sl1000 (by simp), fun t np => ?_⟩
            have A := add t np
            have X := Same.upd (Same.refl H1) np (o := .tup [V.str m.n, V.str q'.2.n, V.str q'.2.k, V.int (placeR I3).2, V.int q'.2.row.length])
            have SZ : Stay T.x_tab H (upd (upd H1 t (.tup [V.str m.n, V.str q'.2.n, V.str q'.2.k, V.int (placeR I3).2, V.int q'.2.row.length])) l (.lst (xs ++ [V.ref t]))) := Stay.set (St.trans (Stay.of X)) n0_l
            refine appL (X _ _ ex) (by rw [sizeLine_eq]; omega) ?_
            have el2 := keepU (o := .lst (xs ++ [V.ref t])) (X _ _ el') dl
            have hTZ := TabAt.set' (o := .lst (xs ++ [V.ref t])) (TabAt.same' hT X) (X _ _ ex)
            generalize upd (upd H1 t (.tup [V.str m.n, V.str q'.2.n, V.str q'.2.k, V.int (placeR I3).2, V.int q'.2.row.length])) l (.lst (xs ++ [V.ref t])) = Z at A SZ el2 hTZ ⊢
            refine ixT (SqT.of (stayN htb SZ b1 nu)) (atIn (by decide) rfl) (lenL (SqL.of (stayN htb SZ b2 nt)) ⟨_, rfl, hTZ, SZ, el2, A, ?_⟩)
            rw [List.length_map, placeR_snoc]
            rfl
          · rw [if_neg h2, if_neg h2]
            exact ⟨hT, St, el', L.more (by omega), rfl⟩
        · rintro σ H2 ⟨hT, St, el', v5, L, rfl⟩
          rw [show (refsS m.ts).length = m.ts.length by simp [refsS], List.take_length] at L ⊢
          exact ⟨hT, St, el', _, _, L.more (by omega), rfl⟩
      · obtain ⟨hT, St, el', v4, v5, L, rfl⟩ := z
        rw [List.length_map, List.take_length] at L ⊢
        have ll := hperm.length_eq
        refine ⟨hT, St, ns ++ [ms'], by simp [lns], fun n hn => ?_, ?_, some (V.str kd), v4, v5, ?_⟩
        · rcases List.mem_append.mp hn with h | h
          · exact hns n h
          · rw [List.mem_singleton.mp h]; exact ⟨hperm, hsort⟩
        · rw [lidK_snoc hkd]
          exact L.more (by omega)
        · rw [lidK_snoc hkd]
    · rintro a xs σ H2 ⟨⟨rfl, rfl⟩, hT, St, ns, v3, v4, v5, lns, hns, ⟨rs, b1, b2, b3, b4⟩, rfl⟩
      simp only [tSeq, tIfS, tRet, tRetN, tC, tVar, tOp, tUn, tTest, tB, tAnd, tOr, tNot, tAndV, tOrV, tNotV, tIf, tChain, tCons, tNil, tCall, tCB, tLst, tTup, tSl, tNoPart, tPart, gName, tNext, tDrop, tAsg, tAsgC, tBM, tYes, tDNewK, rI, rI0, rU, rEq, rNe, rAbs, rIntT, CDiv, add_ii, add_ss, mul_ii, ix_si, eq_ii, eq_ss, ne_ii, ne_ss, isnot_xn, List.append_nil, List.cons_append, List.nil_append, List.getElem?_cons_succ, List.getElem?_cons_zero, List.set_cons_succ, List.set_cons_zero, Option.some.injEq, V.int.injEq, V.bl.injEq, V.str.injEq, V.ref.injEq, V.ty.injEq, List.cons.injEq, and_true, true_and, exists_eq_left, exists_eq_left', exists_and_left, exists_eq', exists_const, exists_and_right, exists_eq_right, exists_eq_right', reduceCtorEq, false_and, and_false, exists_false, or_false, false_or, decide_eq_true_eq, Bool.not_eq_true', decide_eq_false_iff_not, Bool.false_eq_true, if_false, if_true, mk_app, mk_len, sg_mk, mk_one, decide_true, decide_false, Bool.not_true, Bool.not_false, ite_true, ite_false, not_true_eq_false, not_false_eq_true, mk_iff, tyV_str, stComp, List.map_cons, List.map_nil, Option.join_some, Option.join_none, gt_iff_lt, ge_iff_le, tRaise, tTryR, tCallH, tDisp, tPairs, tFld, sFld, tMake, tMeth, tAug, ipI, tDead, tBM0, tRev, l_let, l_fig, l_e, tDGet, tDNotIn, sDPut, tDNewK]
      obtain ⟨n1, n2, rfl⟩ : ∃ n1 n2, ns = [n1, n2] := by
        match ns, lns with
        | [n1, n2], _ => exact ⟨n1, n2, rfl⟩
      refine q l rs n1 n2 H2 hT St n0_l b1 b2 (hns n1 (by simp)).1 (hns n1 (by simp)).2 (hns n2 (by simp)).1 (hns n2 (by simp)).2 ?_
      rw [b3]
      simp [lidK, kds]
noncomputable def sp_shared_of (T : Txt K mg) : Sp := fun vs H Q E => ∃ (p : Addr) (ms : List PM), vs = [.ref p] ∧ H p = some (.lst (ms.map fun m => V.ref m.a)) ∧ (∀ m ∈ ms, PMAt T.x_Part H m ∧ m.ts.length ≤ 4) ∧ (ms.flatMap fun m => shs m.ts).Nodup ∧ (ms.flatMap fun m => shs m.ts).length ≤ 1000 ∧ ∀ d (es : List (Addr × (Str × Str))) H', H d = none → Same H H' → H' d = some (.dK (dkS es)) → (∀ e ∈ es, GoAt H' e) → (es.map (·.2)).Perm (ms.flatMap fun m => (shs m.ts).map fun z => (m.n, z)) → Q (.ref d) H'
theorem sc_shared_of : FnScope ["parts", "shared", "part", "name"] ["parts"] (defScope s_shared_of) := ⟨rfl, rfl, rfl, by decide +kernel, rfl, by decide +kernel, by decide +kernel⟩
theorem ok_shared_of (T : Txt K mg) : FnOk P w K mg base CX0 2 T.d_shared_of.f T.d_shared_of.fd ["parts"] (sp_shared_of T) := by
  have nd := sc_shared_of.nd
  refine T.d_shared_of.F.ok sc_shared_of (fun vs H Q E h => ?_) (fun cdv A outer s H vs Q E hr h => ?_)
  · obtain ⟨p, ms, rfl, hp, hm, nd', ln, q⟩ := h
    rfl
  · obtain ⟨p, ms, rfl, hp, hm, nd', ln, q⟩ := h
    have hu := hr.units0
    refine ⟨_, (pss_cons (ps_set (i := 1) nd rfl (Or.inl rfl) pe_dnewK)
      (pss_cons (ps_for PassesOwn.never rfl (pi_listK (K := K) (pv 0)) (pg_name (i := 2) nd rfl (Or.inl rfl))
        (pss_one (ps_for PassesOwn.never rfl (pi_listK (K := K) (pmt0 (pv 2) T.oc_Part T.d_Part_names (ok_Part_names T) (hr.mono (by decide)))) (pg_name (i := 3) nd rfl (Or.inl rfl))
        (pss_one (ps_dput (hu_of hr) (pv 1) (pv 3) (pe_tup (pa1 (pe_fldK (K := K) (pv 2)) (pa1 (pv 3) pa_nil))) rfl)))))
      (pss_one (ps_ret (pv 1))))), ?_⟩
    rw [show start ["parts", "shared", "part", "name"] [V.ref p] = [some (V.ref p), none, none, none] from rfl]
    have S := Same.refl H
    refine tSeq_gen fun B hB => ?_
    simp only [tSeq, tIfS, tRet, tRetN, tC, tVar, tOp, tUn, tTest, tB, tAnd, tOr, tNot, tAndV, tOrV, tNotV, tIf, tChain, tCons, tNil, tCall, tCB, tLst, tTup, tSl, tNoPart, tPart, gName, tNext, tDrop, tAsg, tAsgC, tBM, tYes, tDNewK, rI, rI0, rU, rEq, rNe, rAbs, rIntT, CDiv, add_ii, add_ss, mul_ii, ix_si, eq_ii, eq_ss, ne_ii, ne_ss, isnot_xn, List.append_nil, List.cons_append, List.nil_append, List.getElem?_cons_succ, List.getElem?_cons_zero, List.set_cons_succ, List.set_cons_zero, Option.some.injEq, V.int.injEq, V.bl.injEq, V.str.injEq, V.ref.injEq, V.ty.injEq, List.cons.injEq, and_true, true_and, exists_eq_left, exists_eq_left', exists_and_left, exists_eq', exists_const, exists_and_right, exists_eq_right, exists_eq_right', reduceCtorEq, false_and, and_false, exists_false, or_false, false_or, decide_eq_true_eq, Bool.not_eq_true', decide_eq_false_iff_not, Bool.false_eq_true, if_false, if_true, mk_app, mk_len, sg_mk, mk_one, decide_true, decide_false, Bool.not_true, Bool.not_false, ite_true, ite_false, not_true_eq_false, not_false_eq_true, mk_iff, tyV_str, stComp, List.map_cons, List.map_nil, Option.join_some, Option.join_none, gt_iff_lt, ge_iff_le, tRaise, tTryR, tCallH, tDisp, tPairs, tFld, sFld, tMake, tMeth, tAug, ipI, tDead, tBM0, tRev, l_let, l_fig, l_e, tDGet, tDNotIn, sDPut, tDNewK]
    intro d nd2
    have n0_d := S.no nd2
    have X_ := Same.upd (Same.refl H) nd2 (o := .dK [])
    have e_d : upd H d (.dK []) d = some (.dK []) := upd_same
    replace S := S.trans X_
    generalize upd H d (.dK []) = H1 at X_ e_d  S ⊢
    clear X_ nd2
    
    subst hB
    simp only [tSeq, tIfS, tRet, tRetN, tC, tVar, tOp, tUn, tTest, tB, tAnd, tOr, tNot, tAndV, tOrV, tNotV, tIf, tChain, tCons, tNil, tCall, tCB, tLst, tTup, tSl, tNoPart, tPart, gName, tNext, tDrop, tAsg, tAsgC, tBM, tYes, tDNewK, rI, rI0, rU, rEq, rNe, rAbs, rIntT, CDiv, add_ii, add_ss, mul_ii, ix_si, eq_ii, eq_ss, ne_ii, ne_ss, isnot_xn, List.append_nil, List.cons_append, List.nil_append, List.getElem?_cons_succ, List.getElem?_cons_zero, List.set_cons_succ, List.set_cons_zero, Option.some.injEq, V.int.injEq, V.bl.injEq, V.str.injEq, V.ref.injEq, V.ty.injEq, List.cons.injEq, and_true, true_and, exists_eq_left, exists_eq_left', exists_and_left, exists_eq', exists_const, exists_and_right, exists_eq_right, exists_eq_right', reduceCtorEq, false_and, and_false, exists_false, or_false, false_or, decide_eq_true_eq, Bool.not_eq_true', decide_eq_false_iff_not, Bool.false_eq_true, if_false, if_true, mk_app, mk_len, sg_mk, mk_one, decide_true, decide_false, Bool.not_true, Bool.not_false, ite_true, ite_false, not_true_eq_false, not_false_eq_true, mk_iff, tyV_str, stComp, List.map_cons, List.map_nil, Option.join_some, Option.join_none, gt_iff_lt, ge_iff_le, tRaise, tTryR, tCallH, tDisp, tPairs, tFld, sFld, tMake, tMeth, tAug, ipI, tDead, tBM0, tRev, l_let, l_fig, l_e, tDGet, tDNotIn, sDPut, tDNewK]
    refine tfor_list (a := p) (xs := ms.map fun m => V.ref m.a) (fun R z => ⟨_, rfl, z⟩) (SqL.of (S _ _ hp)) (fun i σ H' => Same H H' ∧ ∃ (es : List (Addr × (Str × Str))) (v2 v3 : Option V), H' d = some (.dK (dkS es)) ∧ (∀ e ∈ es, GoAt H' e) ∧ (es.map (·.2)).Perm ((ms.take i).flatMap (fun m => (shs m.ts).map fun z => (m.n, z))) ∧ σ = [some (V.ref p), some (V.ref d), v2, v3]) ⟨S, [], none, none, e_d, (fun _ h => nomatch h), .nil, rfl⟩ (fun i σ H' z => SqL.of (z.1 _ _ hp)) ?_ ?_
    · clear S e_d H1
      rintro i x σ H1 hx ⟨S, es, v2, v3, e_d, hes, em, rfl⟩
      obtain ⟨m, hmm, rfl⟩ := getM hx
      obtain ⟨⟨dx, s, w, l, a1, a2, a3⟩, lts⟩ := hm m (List.mem_of_getElem? hmm)
      refine tfor_unf ?_
      simp only [tSeq, tIfS, tRet, tRetN, tC, tVar, tOp, tUn, tTest, tB, tAnd, tOr, tNot, tAndV, tOrV, tNotV, tIf, tChain, tCons, tNil, tCall, tCB, tLst, tTup, tSl, tNoPart, tPart, gName, tNext, tDrop, tAsg, tAsgC, tBM, tYes, tDNewK, rI, rI0, rU, rEq, rNe, rAbs, rIntT, CDiv, add_ii, add_ss, mul_ii, ix_si, eq_ii, eq_ss, ne_ii, ne_ss, isnot_xn, List.append_nil, List.cons_append, List.nil_append, List.getElem?_cons_succ, List.getElem?_cons_zero, List.set_cons_succ, List.set_cons_zero, Option.some.injEq, V.int.injEq, V.bl.injEq, V.str.injEq, V.ref.injEq, V.ty.injEq, List.cons.injEq, and_true, true_and, exists_eq_left, exists_eq_left', exists_and_left, exists_eq', exists_const, exists_and_right, exists_eq_right, exists_eq_right', reduceCtorEq, false_and, and_false, exists_false, or_false, false_or, decide_eq_true_eq, Bool.not_eq_true', decide_eq_false_iff_not, Bool.false_eq_true, if_false, if_true, mk_app, mk_len, sg_mk, mk_one, decide_true, decide_false, Bool.not_true, Bool.not_false, ite_true, ite_false, not_true_eq_false, not_false_eq_true, mk_iff, tyV_str, stComp, List.map_cons, List.map_nil, Option.join_some, Option.join_none, gt_iff_lt, ge_iff_le, tRaise, tTryR, tCallH, tDisp, tPairs, tFld, sFld, tMake, tMeth, tAug, ipI, tDead, tBM0, tRev, l_let, l_fig, l_e, tDGet, tDNotIn, sDPut, tDNewK]
      refine ⟨dx, _, S _ _ a1, fP_no _ _ _ _ (by decide +kernel) (by decide +kernel) (by decide +kernel) (by decide +kernel), m.a, dx, m.n, s, w, l, m.ts, rfl, S _ _ a1, S _ _ a2, a3.same S, by omega, fun l' ss H2 nl' S2 hperm hsort el' => ?_⟩
      have dl : l' ≠ d := (ne_of_none e_d nl').symm
      replace S := S.trans S2
      replace e_d := S2 _ _ e_d
      replace hes := fun e he => S2 _ _ (hes e he)
      clear S2 nl' hsort
      have nd2 : ((ms.take i).flatMap (fun m => shs m.ts) ++ ss).Nodup := by
        have e1 : ((ms.take (i + 1)).flatMap fun m => shs m.ts).Nodup := by
          have := nd'
          rw [← List.take_append_drop (i + 1) ms, List.flatMap_append] at this
          exact (List.nodup_append.mp this).1
        rw [flat_snoc hmm] at e1
        exact (List.Perm.nodup_iff (List.Perm.append_left _ hperm)).mpr e1
      have ls : ((ms.take i).flatMap (fun m => shs m.ts)).length + ss.length ≤ 1000 := by
        have e2 := congrArg (fun l : List PM => (l.flatMap fun m => shs m.ts).length) (List.take_append_drop (i + 1) ms)
        simp only [List.flatMap_append, List.length_append] at e2
        rw [flat_snoc hmm, List.length_append, ← hperm.length_eq] at e2
        omega
      refine ⟨l', rfl, ⟨_, SqL.of el'⟩, tfor_it (xs := ss.map V.str) (fun j σ H' => Same H H' ∧ H' l' = some (.lst (ss.map V.str)) ∧ ∃ (es : List (Addr × (Str × Str))) (v3 : Option V), H' d = some (.dK (dkS es)) ∧ (∀ e ∈ es, GoAt H' e) ∧ (es.map (·.2)).Perm ((ms.take i).flatMap (fun m => (shs m.ts).map fun z => (m.n, z)) ++ (ss.take j).map fun z => (m.n, z)) ∧ σ = [some (V.ref p), some (V.ref d), some (V.ref m.a), v3]) ⟨S, el', es, v3, e_d, hes, by simpa using em, rfl⟩ (fun j σ H' z => SqL.of z.2.1) (fun j y σ H' hy z => ?_) (fun σ H' z => ?_)⟩
      · clear S el' e_d hes em es H2 H1
        obtain ⟨S, el, es, v3, e_d, hes, em, rfl⟩ := z
        obtain ⟨z, hz, rfl⟩ := getZ hy
        have em2 : (es.map (·.2.2)).Perm ((ms.take i).flatMap (fun m => shs m.ts) ++ ss.take j) := by
          have := em.map Prod.snd
          rw [List.map_map, List.map_append, List.map_map, List.map_flatMap] at this
          simpa [Function.comp_def] using this
        have hj := (List.getElem?_eq_some_iff.mp hz).1
        have hzn : z ∉ es.map (·.2.2) := fun hh => by
          have h1 := em2.mem_iff.mp hh
          have h2 : ss = ss.take j ++ z :: ss.drop (j + 1) := by
            rw [← (List.getElem?_eq_some_iff.mp hz).2, List.getElem_cons_drop, List.take_append_drop]
          rw [h2, ← List.append_assoc] at nd2
          exact (List.nodup_append.mp nd2).2.2 z h1 z (by simp) rfl
        have hv := valV_dkS hzn
        simp only [tSeq, tIfS, tRet, tRetN, tC, tVar, tOp, tUn, tTest, tB, tAnd, tOr, tNot, tAndV, tOrV, tNotV, tIf, tChain, tCons, tNil, tCall, tCB, tLst, tTup, tSl, tNoPart, tPart, gName, tNext, tDrop, tAsg, tAsgC, tBM, tYes, tDNewK, rI, rI0, rU, rEq, rNe, rAbs, rIntT, CDiv, add_ii, add_ss, mul_ii, ix_si, eq_ii, eq_ss, ne_ii, ne_ss, isnot_xn, List.append_nil, List.cons_append, List.nil_append, List.getElem?_cons_succ, List.getElem?_cons_zero, List.set_cons_succ, List.set_cons_zero, Option.some.injEq, V.int.injEq, V.bl.injEq, V.str.injEq, V.ref.injEq, V.ty.injEq, List.cons.injEq, and_true, true_and, exists_eq_left, exists_eq_left', exists_and_left, exists_eq', exists_const, exists_and_right, exists_eq_right, exists_eq_right', reduceCtorEq, false_and, and_false, exists_false, or_false, false_or, decide_eq_true_eq, Bool.not_eq_true', decide_eq_false_iff_not, Bool.false_eq_true, if_false, if_true, mk_app, mk_len, sg_mk, mk_one, decide_true, decide_false, Bool.not_true, Bool.not_false, ite_true, ite_false, not_true_eq_false, not_false_eq_true, mk_iff, tyV_str, stComp, List.map_cons, List.map_nil, Option.join_some, Option.join_none, gt_iff_lt, ge_iff_le, tRaise, tTryR, tCallH, tDisp, tPairs, tFld, sFld, tMake, tMeth, tAug, ipI, tDead, tBM0, tRev, l_let, l_fig, l_e, tDGet, tDNotIn, sDPut, tDNewK]
        refine ⟨_, dx, _, S _ _ a1, T.oc_Part, T.nf_Part_name, _, fP_name _ _ _ _, sl1000 (by simp), fun t nt => ?_⟩
        have n0_t := S.no nt
        have X_ := Same.upd (Same.refl H') nt (o := .tup [V.str m.n, V.str z])
        have e_t : upd H' t (.tup [V.str m.n, V.str z]) t = some (.tup [V.str m.n, V.str z]) := upd_same
        replace el := X_ _ _ el
        replace e_d := X_ _ _ e_d
        replace S := S.trans X_
        replace hes := fun e he => X_ _ _ (hes e he)
        generalize upd H' t (.tup [V.str m.n, V.str z]) = H2 at X_ e_t el e_d hes S ⊢
        clear X_ nt
    
        have lk : (dkS es).length < sizeLine := by
          have e1 := em2.length_eq
          simp only [List.length_map, List.length_append, List.length_take] at e1
          simp only [dkS, List.length_map, sizeLine_eq]
          omega
        refine ⟨_, DPut.k (k := Sum.inr z) e_d lk, ?_⟩
        rw [putK_new hv]
        refine ⟨S.set n0_d, keepU el dl, es ++ [(t, (m.n, z))], by rw [upd_same]; simp [dkS], fun e he => ?_, ?_⟩
        · rcases List.mem_append.mp he with h | h
          · exact GoAt.set (hes e h) e_d
          · rw [List.mem_singleton.mp h]
            exact GoAt.set e_t e_d
        · rw [List.map_append, take_snoc hz, List.map_append, ← List.append_assoc]
          exact em.append_right _
      · obtain ⟨S, el, es, v3, e_d, hes, em, rfl⟩ := z
        refine ⟨S, es, e_d, hes, ?_, _, _, rfl⟩
        rw [List.length_map, List.take_length] at em
        rw [flat_snoc hmm]
        exact em.trans (List.Perm.append_left _ (hperm.map _))
    · rintro σ H2 ⟨S, es, v2, v3, e_d, hes, em, rfl⟩
      simp only [tSeq, tIfS, tRet, tRetN, tC, tVar, tOp, tUn, tTest, tB, tAnd, tOr, tNot, tAndV, tOrV, tNotV, tIf, tChain, tCons, tNil, tCall, tCB, tLst, tTup, tSl, tNoPart, tPart, gName, tNext, tDrop, tAsg, tAsgC, tBM, tYes, tDNewK, rI, rI0, rU, rEq, rNe, rAbs, rIntT, CDiv, add_ii, add_ss, mul_ii, ix_si, eq_ii, eq_ss, ne_ii, ne_ss, isnot_xn, List.append_nil, List.cons_append, List.nil_append, List.getElem?_cons_succ, List.getElem?_cons_zero, List.set_cons_succ, List.set_cons_zero, Option.some.injEq, V.int.injEq, V.bl.injEq, V.str.injEq, V.ref.injEq, V.ty.injEq, List.cons.injEq, and_true, true_and, exists_eq_left, exists_eq_left', exists_and_left, exists_eq', exists_const, exists_and_right, exists_eq_right, exists_eq_right', reduceCtorEq, false_and, and_false, exists_false, or_false, false_or, decide_eq_true_eq, Bool.not_eq_true', decide_eq_false_iff_not, Bool.false_eq_true, if_false, if_true, mk_app, mk_len, sg_mk, mk_one, decide_true, decide_false, Bool.not_true, Bool.not_false, ite_true, ite_false, not_true_eq_false, not_false_eq_true, mk_iff, tyV_str, stComp, List.map_cons, List.map_nil, Option.join_some, Option.join_none, gt_iff_lt, ge_iff_le, tRaise, tTryR, tCallH, tDisp, tPairs, tFld, sFld, tMake, tMeth, tAug, ipI, tDead, tBM0, tRev, l_let, l_fig, l_e, tDGet, tDNotIn, sDPut, tDNewK]
      refine q d es H2 n0_d S e_d hes ?_
      rw [List.length_map, List.take_length] at em
      exact em
noncomputable def sp__law_cell_at (K : PySem.W.Frag) : Sp := fun vs H Q E => ∃ (a : Addr) (ns : List Int) (k : Int), vs = [.ref a, .int k] ∧ SqL K H a (ns.map V.int) ∧ 0 ≤ k ∧ Q (.int (cellF ns k)) H
theorem sc__law_cell_at : FnScope ["_law_script", "_law_k"] ["_law_script", "_law_k"] (defScope s__law_cell_at) := ⟨rfl, rfl, rfl, by decide +kernel, rfl, by decide +kernel, by decide +kernel⟩
theorem ok__law_cell_at (T : Txt K mg) : FnOk P w K mg base CX0 1 T.d__law_cell_at.f T.d__law_cell_at.fd ["_law_script", "_law_k"] (sp__law_cell_at K) := by
  have nd := sc__law_cell_at.nd
  refine T.d__law_cell_at.F.ok sc__law_cell_at (fun vs H Q E h => ?_) (fun cdv A outer s H vs Q E hr h => ?_)
  · obtain ⟨a, ns, k, rfl, hq, h0, q⟩ := h
    rfl
  · obtain ⟨a, ns, k, rfl, hq, h0, q⟩ := h
    have hu := hr.units0
    refine ⟨_, (pss_cons (ps_if (pt_cmpR op_lt (pv 1) (pcB (o_len (K := K)) rfl T.n_len (by kernel_rfl) (pa1 (pv 0) pa_nil)) (nomark _)) (pss_one (ps_ret (pe_ix (o_ix (K := K)) (pv 0) (pv 1) (fun _ _ => rfl)))) pss_nil)
      (pss_one (ps_ret pe_int))), ?_⟩
    rw [show start ["_law_script", "_law_k"] [V.ref a, V.int k] = [some (V.ref a), some (V.int k)] from rfl]
    simp only [tSeq, tIfS, tRet, tRetN, tC, tVar, tOp, tUn, tTest, tB, tAnd, tOr, tNot, tAndV, tOrV, tNotV, tIf, tChain, tCons, tNil, tCall, tCB, tLst, tTup, tSl, tNoPart, tPart, gName, tNext, tDrop, tAsg, tAsgC, tBM, tYes, tDNewK, rI, rI0, rU, rEq, rNe, rAbs, rIntT, CDiv, add_ii, add_ss, mul_ii, ix_si, eq_ii, eq_ss, ne_ii, ne_ss, isnot_xn, List.append_nil, List.cons_append, List.nil_append, List.getElem?_cons_succ, List.getElem?_cons_zero, List.set_cons_succ, List.set_cons_zero, Option.some.injEq, V.int.injEq, V.bl.injEq, V.str.injEq, V.ref.injEq, V.ty.injEq, List.cons.injEq, and_true, true_and, exists_eq_left, exists_eq_left', exists_and_left, exists_eq', exists_const, exists_and_right, exists_eq_right, exists_eq_right', reduceCtorEq, false_and, and_false, exists_false, or_false, false_or, decide_eq_true_eq, Bool.not_eq_true', decide_eq_false_iff_not, Bool.false_eq_true, if_false, if_true, mk_app, mk_len, sg_mk, mk_one, decide_true, decide_false, Bool.not_true, Bool.not_false, ite_true, ite_false, not_true_eq_false, not_false_eq_true, mk_iff, tyV_str, stComp, List.map_cons, List.map_nil, Option.join_some, Option.join_none, gt_iff_lt, ge_iff_le, tRaise, tTryR, tCallH, tDisp, tPairs, tFld, sFld, tMake, tMeth, tAug, ipI, tDead, tBM0, tRev, l_let, l_fig, l_e, tDGet, tDNotIn, sDPut, tDNewK]
    refine lenL hq ?_
    simp only [tSeq, tIfS, tRet, tRetN, tC, tVar, tOp, tUn, tTest, tB, tAnd, tOr, tNot, tAndV, tOrV, tNotV, tIf, tChain, tCons, tNil, tCall, tCB, tLst, tTup, tSl, tNoPart, tPart, gName, tNext, tDrop, tAsg, tAsgC, tBM, tYes, tDNewK, rI, rI0, rU, rEq, rNe, rAbs, rIntT, CDiv, add_ii, add_ss, mul_ii, ix_si, eq_ii, eq_ss, ne_ii, ne_ss, isnot_xn, List.append_nil, List.cons_append, List.nil_append, List.getElem?_cons_succ, List.getElem?_cons_zero, List.set_cons_succ, List.set_cons_zero, Option.some.injEq, V.int.injEq, V.bl.injEq, V.str.injEq, V.ref.injEq, V.ty.injEq, List.cons.injEq, and_true, true_and, exists_eq_left, exists_eq_left', exists_and_left, exists_eq', exists_const, exists_and_right, exists_eq_right, exists_eq_right', reduceCtorEq, false_and, and_false, exists_false, or_false, false_or, decide_eq_true_eq, Bool.not_eq_true', decide_eq_false_iff_not, Bool.false_eq_true, if_false, if_true, mk_app, mk_len, sg_mk, mk_one, decide_true, decide_false, Bool.not_true, Bool.not_false, ite_true, ite_false, not_true_eq_false, not_false_eq_true, mk_iff, tyV_str, stComp, List.map_cons, List.map_nil, Option.join_some, Option.join_none, gt_iff_lt, ge_iff_le, tRaise, tTryR, tCallH, tDisp, tPairs, tFld, sFld, tMake, tMeth, tAug, ipI, tDead, tBM0, tRev, l_let, l_fig, l_e, tDGet, tDNotIn, sDPut, tDNewK]
    rw [List.length_map]
    refine ite2 (fun h => ?_) fun h => ?_
    · have hk : k.toNat < ns.length := by omega
      rw [show cellF ns k = ns[k.toNat] by simp [cellF, hk]] at q
      exact ixL hq (atIn (c := V.int (ns[k.toNat])) h0 (by simp [hk])) q
    · rw [show cellF ns k = 0 by simp [cellF, List.getD, List.getElem?_eq_none (show ns.length ≤ k.toNat by omega)]] at q
      exact q
noncomputable def sp__law_mixed : Sp := fun vs H Q E => ∃ c k, vs = [.int c, .int k] ∧ 0 ≤ k ∧ k ≤ 1000 ∧ Q (.int (mixT c k)) H
theorem sc__law_mixed : FnScope ["_law_cell", "_law_k", "_law_number"] ["_law_cell", "_law_k"] (defScope s__law_mixed) := ⟨rfl, rfl, rfl, by decide +kernel, rfl, by decide +kernel, by decide +kernel⟩
theorem ok__law_mixed (T : Txt K mg) : FnOk P w K mg base CX0 1 T.d__law_mixed.f T.d__law_mixed.fd ["_law_cell", "_law_k"] (sp__law_mixed) := by
  have nd := sc__law_mixed.nd
  refine T.d__law_mixed.F.ok sc__law_mixed (fun vs H Q E h => ?_) (fun cdv A outer s H vs Q E hr h => ?_)
  · obtain ⟨c, k, rfl, h0, h1, q⟩ := h
    rfl
  · obtain ⟨c, k, rfl, h0, h1, q⟩ := h
    have hu := hr.units0
    refine ⟨_, (pss_cons (ps_set (i := 2) nd rfl (Or.inl rfl) (pe_op op_mod (pe_op o_mul (pe_op o_add (pe_op op_mod (pv 0) pe_int) pe_int) pe_int) pe_int))
      (pss_one (ps_ret (pe_op op_fdiv (pe_op op_mod (pe_op o_mul (pv 2) (pe_op o_add (pe_op o_add pe_int (pe_op o_mul (pe_op o_mul pe_int (pv 1)) (pv 1))) (pe_op o_mul pe_int (pv 1)))) pe_int) pe_int)))), ?_⟩
    rw [show start ["_law_cell", "_law_k", "_law_number"] [V.int c, V.int k] = [some (V.int c), some (V.int k), none] from rfl]
    simp only [tSeq, tIfS, tRet, tRetN, tC, tVar, tOp, tUn, tTest, tB, tAnd, tOr, tNot, tAndV, tOrV, tNotV, tIf, tChain, tCons, tNil, tCall, tCB, tLst, tTup, tSl, tNoPart, tPart, gName, tNext, tDrop, tAsg, tAsgC, tBM, tYes, tDNewK, rI, rI0, rU, rEq, rNe, rAbs, rIntT, CDiv, add_ii, add_ss, mul_ii, ix_si, eq_ii, eq_ss, ne_ii, ne_ss, isnot_xn, List.append_nil, List.cons_append, List.nil_append, List.getElem?_cons_succ, List.getElem?_cons_zero, List.set_cons_succ, List.set_cons_zero, Option.some.injEq, V.int.injEq, V.bl.injEq, V.str.injEq, V.ref.injEq, V.ty.injEq, List.cons.injEq, and_true, true_and, exists_eq_left, exists_eq_left', exists_and_left, exists_eq', exists_const, exists_and_right, exists_eq_right, exists_eq_right', reduceCtorEq, false_and, and_false, exists_false, or_false, false_or, decide_eq_true_eq, Bool.not_eq_true', decide_eq_false_iff_not, Bool.false_eq_true, if_false, if_true, mk_app, mk_len, sg_mk, mk_one, decide_true, decide_false, Bool.not_true, Bool.not_false, ite_true, ite_false, not_true_eq_false, not_false_eq_true, mk_iff, tyV_str, stComp, List.map_cons, List.map_nil, Option.join_some, Option.join_none, gt_iff_lt, ge_iff_le, tRaise, tTryR, tCallH, tDisp, tPairs, tFld, sFld, tMake, tMeth, tAug, ipI, tDead, tBM0, tRev, l_let, l_fig, l_e, tDGet, tDNotIn, sDPut, tDNewK]
    refine ⟨by decide, .inr ⟨by decide, by decide⟩, by decide, .inl ⟨by decide, by decide⟩, .inr ⟨by omega, by omega⟩, .inl ⟨by decide, by decide⟩, .inl ⟨by omega, by omega⟩, by decide, ⟨by decide, by decide⟩, q⟩
noncomputable def sp__law_names : Sp := fun vs H Q E => ∃ c, vs = [.int c, .int 20] ∧ 0 ≤ c ∧ ∀ l (ls : List (List Nat)) H', H l = none → Same H H' → ls.length = 20 → ls.Nodup → mainL ∉ ls → (∀ w ∈ ls, OkN w) → H' l = some (.lst (ls.map fun w => V.str (mkS w))) → Q (.ref l) H'
theorem sc__law_names : FnScope ["_law_cell", "_law_many", "_law_letters", "_law_signs", "_law_frame", "_law_found", "_law_size", "_law_at", "_law_k", "_law_sign"] ["_law_cell", "_law_many"] (defScope s__law_names) := ⟨rfl, rfl, rfl, by decide +kernel, rfl, by decide +kernel, by decide +kernel⟩
theorem ok__law_names (T : Txt K mg) : FnOk P w K mg base CX0 1 T.d__law_names.f T.d__law_names.fd ["_law_cell", "_law_many"] (sp__law_names) := by
  have nd := sc__law_names.nd
  refine T.d__law_names.F.ok sc__law_names (fun vs H Q E h => ?_) (fun cdv A outer s H vs Q E hr h => ?_)
  · obtain ⟨c, rfl, c0, q⟩ := h
    rfl
  · obtain ⟨c, rfl, c0, q⟩ := h
    have hu := hr.units0
    refine ⟨_, (pss_cons (ps_set (i := 2) nd rfl (Or.inr rfl) pe_str)
      (pss_cons (ps_set (i := 3) nd rfl (Or.inl rfl) (pe_op o_add (pv 2) pe_str))
      (pss_cons (ps_set (i := 4) nd rfl (Or.inr rfl) (pe_lcomp (N' := ["_law_j", "_law_letters", "_law_cell"]) (src := [none, some 2, some 0]) rfl (CompScope.of (by kernel_rfl)) (pi_range1 rfl T.n_range (pa1 pe_int pa_nil)) (fun _ _ _ _ _ _ => (pg_name (i := 0) (show (["_law_j", "_law_letters", "_law_cell"] : List Str).Nodup by decide +kernel) rfl (Or.inl rfl))) (fun _ _ _ _ _ _ => pif_nil) (fun _ _ _ _ _ _ => (pe_ix (o_ix (K := K)) (pv 1) (pe_op op_mod (pe_op o_add (pe_op o_add (pe_op op_fdiv (pv 2) pe_int) (pe_op o_mul pe_int (pv 0))) (pe_op o_mul (pv 0) (pv 0))) pe_int) (fun _ _ => rfl)))))
      (pss_cons (ps_if (pt_cmpR (o_eq (K := K) hu) (pe_op op_mod (pv 0) pe_int) pe_int (nomark _)) (pss_cons (ps_set_lcomp (i := 5) nd rfl rfl (N' := ["_law_k", "_law_frame"]) (src := [none, some 4]) rfl (CompScope.of (by kernel_rfl)) (pi_range1 rfl T.n_range (pa1 pe_int pa_nil)) (fun _ _ _ _ _ _ => (pg_name (i := 0) (show (["_law_k", "_law_frame"] : List Str).Nodup by decide +kernel) rfl (Or.inl rfl))) (fun _ _ _ _ _ _ => pif_nil) (fun _ _ _ _ _ _ => (pm1 (K := K) PySem.F.plainAttrs_str PySem.F.slot_str_join PySem.F.type_str_join (o_join (K := K)) pe_str (pa1 (pe_slice (o_sl (K := K)) (pv 1) po_none (po_some (pe_op o_add (pv 0) pe_int))) pa_nil))))
      (pss_one (ps_ret (pe_slice (o_sl (K := K)) (pe_op o_add (pv 5) (pe_lcomp (N' := ["_law_k", "_law_frame"]) (src := [none, some 4]) rfl (CompScope.of (by kernel_rfl)) (pi_range1 rfl T.n_range (pa1 (pv 1) pa_nil)) (fun _ _ _ _ _ _ => (pg_name (i := 0) (show (["_law_k", "_law_frame"] : List Str).Nodup by decide +kernel) rfl (Or.inl rfl))) (fun _ _ _ _ _ _ => pif_nil) (fun _ _ _ _ _ _ => (pe_op o_add (pm1 (K := K) PySem.F.plainAttrs_str PySem.F.slot_str_join PySem.F.type_str_join (o_join (K := K)) pe_str (pa1 (pe_slice (o_sl (K := K)) (pv 1) po_none (po_some (pe_op o_add pe_int (pe_op op_mod (pv 0) pe_int)))) pa_nil)) (pe_ix (o_ix (K := K)) pe_str (pe_op op_fdiv (pv 0) pe_int) (fun _ _ => rfl)))))) po_none (po_some (pv 1)))))) pss_nil)
      (pss_cons (ps_set (i := 6) nd rfl (Or.inl rfl) (pe_op o_add pe_int (pe_op op_mod (pe_op op_fdiv (pv 0) pe_int) pe_int)))
      (pss_cons (ps_set (i := 7) nd rfl (Or.inl rfl) (pe_op op_mod (pe_op op_fdiv (pv 0) pe_int) (pv 6)))
      (pss_cons (ps_set (i := 5) nd rfl (Or.inl rfl) (pe_lst pa_nil))
      (pss_cons (ps_for PassesOwn.never rfl (pi_range1 rfl T.n_range (pa1 (pv 1) pa_nil)) (pg_name (i := 8) nd rfl (Or.inl rfl))
        (pss_cons (ps_set (i := 9) nd rfl (Or.inl rfl) (pe_ix (o_ix (K := K)) (pv 3) (pe_op op_mod (pe_op o_add (pe_op op_fdiv (pv 0) pe_int) (pe_op o_mul pe_int (pv 8))) pe_int) (fun _ _ => rfl)))
      (pss_cons (ps_if (pt_cmpR (o_eq (K := K) hu) (pv 7) pe_int (nomark _)) (pss_one (ps_set (i := 9) nd rfl (Or.inl rfl) (pe_ix (o_ix (K := K)) (pv 2) (pe_op op_mod (pe_op o_add (pe_op op_fdiv (pv 0) pe_int) (pe_op o_mul pe_int (pv 8))) pe_int) (fun _ _ => rfl)))) pss_nil)
      (pss_one (ps_expr (pm1 (K := K) PySem.F.plainAttrs_list PySem.F.slot_list_append PySem.F.type_list_append o_append (pv 5) (pa1 (pe_op o_add (pe_op o_add (pm1 (K := K) PySem.F.plainAttrs_str PySem.F.slot_str_join PySem.F.type_str_join (o_join (K := K)) pe_str (pa1 (pe_slice (o_sl (K := K)) (pv 4) po_none (po_some (pv 7))) pa_nil)) (pv 9)) (pm1 (K := K) PySem.F.plainAttrs_str PySem.F.slot_str_join PySem.F.type_str_join (o_join (K := K)) pe_str (pa1 (pe_slice (o_sl (K := K)) (pv 4) (po_some (pe_op o_add (pv 7) pe_int)) (po_some (pv 6))) pa_nil))) pa_nil)))))))
      (pss_one (ps_ret (pv 5))))))))))), ?_⟩
    rw [show start ["_law_cell", "_law_many", "_law_letters", "_law_signs", "_law_frame", "_law_found", "_law_size", "_law_at", "_law_k", "_law_sign"] [V.int c, V.int 20] = [some (V.int c), some (V.int 20), none, none, none, none, none, none, none, none] from rfl]
    have S := Same.refl H
    refine tSeq_gen fun B hB => ?_
    simp only [tSeq, tIfS, tRet, tRetN, tC, tVar, tOp, tUn, tTest, tB, tAnd, tOr, tNot, tAndV, tOrV, tNotV, tIf, tChain, tCons, tNil, tCall, tCB, tLst, tTup, tSl, tNoPart, tPart, gName, tNext, tDrop, tAsg, tAsgC, tBM, tYes, tDNewK, rI, rI0, rU, rEq, rNe, rAbs, rIntT, CDiv, add_ii, add_ss, mul_ii, ix_si, eq_ii, eq_ss, ne_ii, ne_ss, isnot_xn, List.append_nil, List.cons_append, List.nil_append, List.getElem?_cons_succ, List.getElem?_cons_zero, List.set_cons_succ, List.set_cons_zero, Option.some.injEq, V.int.injEq, V.bl.injEq, V.str.injEq, V.ref.injEq, V.ty.injEq, List.cons.injEq, and_true, true_and, exists_eq_left, exists_eq_left', exists_and_left, exists_eq', exists_const, exists_and_right, exists_eq_right, exists_eq_right', reduceCtorEq, false_and, and_false, exists_false, or_false, false_or, decide_eq_true_eq, Bool.not_eq_true', decide_eq_false_iff_not, Bool.false_eq_true, if_false, if_true, mk_app, mk_len, sg_mk, mk_one, decide_true, decide_false, Bool.not_true, Bool.not_false, ite_true, ite_false, not_true_eq_false, not_false_eq_true, mk_iff, tyV_str, stComp, List.map_cons, List.map_nil, Option.join_some, Option.join_none, gt_iff_lt, ge_iff_le, tRaise, tTryR, tCallH, tDisp, tPairs, tFld, sFld, tMake, tMeth, tAug, ipI, tDead, tBM0, tRev, l_let, l_fig, l_e, tDGet, tDNotIn, sDPut, tDNewK]
    subst hB
    refine tSeq_gen fun B hB => ?_
    simp only [tSeq, tIfS, tRet, tRetN, tC, tVar, tOp, tUn, tTest, tB, tAnd, tOr, tNot, tAndV, tOrV, tNotV, tIf, tChain, tCons, tNil, tCall, tCB, tLst, tTup, tSl, tNoPart, tPart, gName, tNext, tDrop, tAsg, tAsgC, tBM, tYes, tDNewK, rI, rI0, rU, rEq, rNe, rAbs, rIntT, CDiv, add_ii, add_ss, mul_ii, ix_si, eq_ii, eq_ss, ne_ii, ne_ss, isnot_xn, List.append_nil, List.cons_append, List.nil_append, List.getElem?_cons_succ, List.getElem?_cons_zero, List.set_cons_succ, List.set_cons_zero, Option.some.injEq, V.int.injEq, V.bl.injEq, V.str.injEq, V.ref.injEq, V.ty.injEq, List.cons.injEq, and_true, true_and, exists_eq_left, exists_eq_left', exists_and_left, exists_eq', exists_const, exists_and_right, exists_eq_right, exists_eq_right', reduceCtorEq, false_and, and_false, exists_false, or_false, false_or, decide_eq_true_eq, Bool.not_eq_true', decide_eq_false_iff_not, Bool.false_eq_true, if_false, if_true, mk_app, mk_len, sg_mk, mk_one, decide_true, decide_false, Bool.not_true, Bool.not_false, ite_true, ite_false, not_true_eq_false, not_false_eq_true, mk_iff, tyV_str, stComp, List.map_cons, List.map_nil, Option.join_some, Option.join_none, gt_iff_lt, ge_iff_le, tRaise, tTryR, tCallH, tDisp, tPairs, tFld, sFld, tMake, tMeth, tAug, ipI, tDead, tBM0, tRev, l_let, l_fig, l_e, tDGet, tDNotIn, sDPut, tDNewK]
    refine ⟨sl1000 (by decide), ?_⟩
    subst hB
    refine tSeq_gen fun B hB => ?_
    simp only [tSeq, tIfS, tRet, tRetN, tC, tVar, tOp, tUn, tTest, tB, tAnd, tOr, tNot, tAndV, tOrV, tNotV, tIf, tChain, tCons, tNil, tCall, tCB, tLst, tTup, tSl, tNoPart, tPart, gName, tNext, tDrop, tAsg, tAsgC, tBM, tYes, tDNewK, rI, rI0, rU, rEq, rNe, rAbs, rIntT, CDiv, add_ii, add_ss, mul_ii, ix_si, eq_ii, eq_ss, ne_ii, ne_ss, isnot_xn, List.append_nil, List.cons_append, List.nil_append, List.getElem?_cons_succ, List.getElem?_cons_zero, List.set_cons_succ, List.set_cons_zero, Option.some.injEq, V.int.injEq, V.bl.injEq, V.str.injEq, V.ref.injEq, V.ty.injEq, List.cons.injEq, and_true, true_and, exists_eq_left, exists_eq_left', exists_and_left, exists_eq', exists_const, exists_and_right, exists_eq_right, exists_eq_right', reduceCtorEq, false_and, and_false, exists_false, or_false, false_or, decide_eq_true_eq, Bool.not_eq_true', decide_eq_false_iff_not, Bool.false_eq_true, if_false, if_true, mk_app, mk_len, sg_mk, mk_one, decide_true, decide_false, Bool.not_true, Bool.not_false, ite_true, ite_false, not_true_eq_false, not_false_eq_true, mk_iff, tyV_str, stComp, List.map_cons, List.map_nil, Option.join_some, Option.join_none, gt_iff_lt, ge_iff_le, tRaise, tTryR, tCallH, tDisp, tPairs, tFld, sFld, tMake, tMeth, tAug, ipI, tDead, tBM0, tRev, l_let, l_fig, l_e, tDGet, tDNotIn, sDPut, tDNewK]
    refine tcomp_rngP 8 (by decide) (by decide) (fun R h => h) (fun i ys H' => H' = H ∧ ys = ((List.range i).map (frF (c / 192))).map fun c => V.str (mkS [c])) rfl ⟨rfl, rfl⟩ ?_ ?_
    · rintro i ys H' Cy Cn hi ⟨rfl, rfl⟩ cy cn
      simp only [tSeq, tIfS, tRet, tRetN, tC, tVar, tOp, tUn, tTest, tB, tAnd, tOr, tNot, tAndV, tOrV, tNotV, tIf, tChain, tCons, tNil, tCall, tCB, tLst, tTup, tSl, tNoPart, tPart, gName, tNext, tDrop, tAsg, tAsgC, tBM, tYes, tDNewK, rI, rI0, rU, rEq, rNe, rAbs, rIntT, CDiv, add_ii, add_ss, mul_ii, ix_si, eq_ii, eq_ss, ne_ii, ne_ss, isnot_xn, List.append_nil, List.cons_append, List.nil_append, List.getElem?_cons_succ, List.getElem?_cons_zero, List.set_cons_succ, List.set_cons_zero, Option.some.injEq, V.int.injEq, V.bl.injEq, V.str.injEq, V.ref.injEq, V.ty.injEq, List.cons.injEq, and_true, true_and, exists_eq_left, exists_eq_left', exists_and_left, exists_eq', exists_const, exists_and_right, exists_eq_right, exists_eq_right', reduceCtorEq, false_and, and_false, exists_false, or_false, false_or, decide_eq_true_eq, Bool.not_eq_true', decide_eq_false_iff_not, Bool.false_eq_true, if_false, if_true, mk_app, mk_len, sg_mk, mk_one, decide_true, decide_false, Bool.not_true, Bool.not_false, ite_true, ite_false, not_true_eq_false, not_false_eq_true, mk_iff, tyV_str, stComp, List.map_cons, List.map_nil, Option.join_some, Option.join_none, gt_iff_lt, ge_iff_le, tRaise, tTryR, tCallH, tDisp, tPairs, tFld, sFld, tMake, tMeth, tAug, ipI, tDead, tBM0, tRev, l_let, l_fig, l_e, tDGet, tDNotIn, sDPut, tDNewK]
      refine ⟨⟨by decide, by decide⟩, by unfold CMul; omega, by unfold CMul; omega, by decide, sl1000 (by decide), _, let_val (by omega) (by omega), cy _ _ ⟨rfl, ?_⟩⟩
      rw [List.range_succ, List.map_append, List.map_append]
      rfl
    rintro ys H' fr ⟨eh, rfl⟩ nfr
    subst eh
    rw [show (List.range (Int.toNat 8)).map (frF (c / 192)) = frL (c / 192) from rfl]
    have n0_fr := S.no nfr
    have X_ := Same.upd (Same.refl H') nfr (o := .lst ((frL (c / 192)).map fun c => V.str (mkS [c])))
    have e_fr : upd H' fr (.lst ((frL (c / 192)).map fun c => V.str (mkS [c]))) fr = some (.lst ((frL (c / 192)).map fun c => V.str (mkS [c]))) := upd_same
    replace S := S.trans X_
    generalize upd H' fr (.lst ((frL (c / 192)).map fun c => V.str (mkS [c]))) = H1 at X_ e_fr  S ⊢
    clear X_ nfr
    
    have lf : (frL (c / 192)).length = 8 := rfl
    subst hB
    refine tSeq_nx fun B hB => ?_
    simp only [tSeq, tIfS, tRet, tRetN, tC, tVar, tOp, tUn, tTest, tB, tAnd, tOr, tNot, tAndV, tOrV, tNotV, tIf, tChain, tCons, tNil, tCall, tCB, tLst, tTup, tSl, tNoPart, tPart, gName, tNext, tDrop, tAsg, tAsgC, tBM, tYes, tDNewK, rI, rI0, rU, rEq, rNe, rAbs, rIntT, CDiv, add_ii, add_ss, mul_ii, ix_si, eq_ii, eq_ss, ne_ii, ne_ss, isnot_xn, List.append_nil, List.cons_append, List.nil_append, List.getElem?_cons_succ, List.getElem?_cons_zero, List.set_cons_succ, List.set_cons_zero, Option.some.injEq, V.int.injEq, V.bl.injEq, V.str.injEq, V.ref.injEq, V.ty.injEq, List.cons.injEq, and_true, true_and, exists_eq_left, exists_eq_left', exists_and_left, exists_eq', exists_const, exists_and_right, exists_eq_right, exists_eq_right', reduceCtorEq, false_and, and_false, exists_false, or_false, false_or, decide_eq_true_eq, Bool.not_eq_true', decide_eq_false_iff_not, Bool.false_eq_true, if_false, if_true, mk_app, mk_len, sg_mk, mk_one, decide_true, decide_false, Bool.not_true, Bool.not_false, ite_true, ite_false, not_true_eq_false, not_false_eq_true, mk_iff, tyV_str, stComp, List.map_cons, List.map_nil, Option.join_some, Option.join_none, gt_iff_lt, ge_iff_le, tRaise, tTryR, tCallH, tDisp, tPairs, tFld, sFld, tMake, tMeth, tAug, ipI, tDead, tBM0, tRev, l_let, l_fig, l_e, tDGet, tDNotIn, sDPut, tDNewK]
    refine ⟨by decide, ite2 (fun h3 => ?_) fun h3 => ?_⟩
    · refine tcomp_rngP 8 (by decide) (by decide) (fun R h => h) (fun i ys H' => Same H1 H' ∧ ys = ((List.range i).map fun k => (frL (c / 192)).take (k + 1)).map fun w => V.str (mkS w)) rfl ⟨Same.refl _, rfl⟩ ?_ ?_
      · rintro i ys H' Cy Cn hi ⟨S2, rfl⟩ cy cn
        simp only [tSeq, tIfS, tRet, tRetN, tC, tVar, tOp, tUn, tTest, tB, tAnd, tOr, tNot, tAndV, tOrV, tNotV, tIf, tChain, tCons, tNil, tCall, tCB, tLst, tTup, tSl, tNoPart, tPart, gName, tNext, tDrop, tAsg, tAsgC, tBM, tYes, tDNewK, rI, rI0, rU, rEq, rNe, rAbs, rIntT, CDiv, add_ii, add_ss, mul_ii, ix_si, eq_ii, eq_ss, ne_ii, ne_ss, isnot_xn, List.append_nil, List.cons_append, List.nil_append, List.getElem?_cons_succ, List.getElem?_cons_zero, List.set_cons_succ, List.set_cons_zero, Option.some.injEq, V.int.injEq, V.bl.injEq, V.str.injEq, V.ref.injEq, V.ty.injEq, List.cons.injEq, and_true, true_and, exists_eq_left, exists_eq_left', exists_and_left, exists_eq', exists_const, exists_and_right, exists_eq_right, exists_eq_right', reduceCtorEq, false_and, and_false, exists_false, or_false, false_or, decide_eq_true_eq, Bool.not_eq_true', decide_eq_false_iff_not, Bool.false_eq_true, if_false, if_true, mk_app, mk_len, sg_mk, mk_one, decide_true, decide_false, Bool.not_true, Bool.not_false, ite_true, ite_false, not_true_eq_false, not_false_eq_true, mk_iff, tyV_str, stComp, List.map_cons, List.map_nil, Option.join_some, Option.join_none, gt_iff_lt, ge_iff_le, tRaise, tTryR, tCallH, tDisp, tPairs, tFld, sFld, tMake, tMeth, tAug, ipI, tDead, tBM0, tRev, l_let, l_fig, l_e, tDGet, tDNotIn, sDPut, tDNewK]
        refine jcut (S2 _ _ e_fr) (by rw [lf]; decide) fun H3 S3 => cy _ _ ⟨S2.trans S3, ?_⟩
        rw [cut_to _ (by omega), show ((i : Int) + 1).toNat = i + 1 by omega, List.range_succ, List.map_append, List.map_append]
        rfl
      rintro ys H2 fo ⟨S2, rfl⟩ nfo
      have S3 := S2.trans (Same.upd (Same.refl H2) nfo (o := .lst (((List.range 8).map fun k => (frL (c / 192)).take (k + 1)).map fun w => V.str (mkS w))))
      have efo : upd H2 fo (.lst (((List.range 8).map fun k => (frL (c / 192)).take (k + 1)).map fun w => V.str (mkS w))) fo = some (.lst (((List.range 8).map fun k => (frL (c / 192)).take (k + 1)).map fun w => V.str (mkS w))) := upd_same
      rw [show (8 : Int).toNat = 8 from rfl]
      generalize upd H2 fo (.lst (((List.range 8).map fun k => (frL (c / 192)).take (k + 1)).map fun w => V.str (mkS w))) = H4 at S3 efo ⊢
      refine tcomp_rngP 20 (by decide) (by decide) (fun R h => ⟨_, rfl, h⟩) (fun i ys H' => Same H4 H' ∧ ys = ((List.range i).map fun k => (frL (c / 192)).take (1 + k % 7) ++ [48 + k / 7]).map fun w => V.str (mkS w)) rfl ⟨Same.refl _, rfl⟩ ?_ ?_
      · rintro i ys H5 Cy Cn hi ⟨S5, rfl⟩ cy cn
        simp only [tSeq, tIfS, tRet, tRetN, tC, tVar, tOp, tUn, tTest, tB, tAnd, tOr, tNot, tAndV, tOrV, tNotV, tIf, tChain, tCons, tNil, tCall, tCB, tLst, tTup, tSl, tNoPart, tPart, gName, tNext, tDrop, tAsg, tAsgC, tBM, tYes, tDNewK, rI, rI0, rU, rEq, rNe, rAbs, rIntT, CDiv, add_ii, add_ss, mul_ii, ix_si, eq_ii, eq_ss, ne_ii, ne_ss, isnot_xn, List.append_nil, List.cons_append, List.nil_append, List.getElem?_cons_succ, List.getElem?_cons_zero, List.set_cons_succ, List.set_cons_zero, Option.some.injEq, V.int.injEq, V.bl.injEq, V.str.injEq, V.ref.injEq, V.ty.injEq, List.cons.injEq, and_true, true_and, exists_eq_left, exists_eq_left', exists_and_left, exists_eq', exists_const, exists_and_right, exists_eq_right, exists_eq_right', reduceCtorEq, false_and, and_false, exists_false, or_false, false_or, decide_eq_true_eq, Bool.not_eq_true', decide_eq_false_iff_not, Bool.false_eq_true, if_false, if_true, mk_app, mk_len, sg_mk, mk_one, decide_true, decide_false, Bool.not_true, Bool.not_false, ite_true, ite_false, not_true_eq_false, not_false_eq_true, mk_iff, tyV_str, stComp, List.map_cons, List.map_nil, Option.join_some, Option.join_none, gt_iff_lt, ge_iff_le, tRaise, tTryR, tCallH, tDisp, tPairs, tFld, sFld, tMake, tMeth, tAug, ipI, tDead, tBM0, tRev, l_let, l_fig, l_e, tDGet, tDNotIn, sDPut, tDNewK]
        refine ⟨by decide, jcut ((S3.trans S5) _ _ e_fr) (by rw [lf]; decide) fun H6 S6 => ⟨⟨by decide, by decide⟩, sl1000 (by decide), 48 + i / 7, ?_, ?_⟩⟩
        · refine atIn (by omega) ?_
          have : ∀ k < 3, [48, 49, 50, 51, 52, 53, 54, 55, 56, 57][k]? = some (48 + k) := by decide
          rw [show ((i : Int) / 7).toNat = i / 7 by omega]
          exact this _ (by omega)
        · simp only [tSeq, tIfS, tRet, tRetN, tC, tVar, tOp, tUn, tTest, tB, tAnd, tOr, tNot, tAndV, tOrV, tNotV, tIf, tChain, tCons, tNil, tCall, tCB, tLst, tTup, tSl, tNoPart, tPart, gName, tNext, tDrop, tAsg, tAsgC, tBM, tYes, tDNewK, rI, rI0, rU, rEq, rNe, rAbs, rIntT, CDiv, add_ii, add_ss, mul_ii, ix_si, eq_ii, eq_ss, ne_ii, ne_ss, isnot_xn, List.append_nil, List.cons_append, List.nil_append, List.getElem?_cons_succ, List.getElem?_cons_zero, List.set_cons_succ, List.set_cons_zero, Option.some.injEq, V.int.injEq, V.bl.injEq, V.str.injEq, V.ref.injEq, V.ty.injEq, List.cons.injEq, and_true, true_and, exists_eq_left, exists_eq_left', exists_and_left, exists_eq', exists_const, exists_and_right, exists_eq_right, exists_eq_right', reduceCtorEq, false_and, and_false, exists_false, or_false, false_or, decide_eq_true_eq, Bool.not_eq_true', decide_eq_false_iff_not, Bool.false_eq_true, if_false, if_true, mk_app, mk_len, sg_mk, mk_one, decide_true, decide_false, Bool.not_true, Bool.not_false, ite_true, ite_false, not_true_eq_false, not_false_eq_true, mk_iff, tyV_str, stComp, List.map_cons, List.map_nil, Option.join_some, Option.join_none, gt_iff_lt, ge_iff_le, tRaise, tTryR, tCallH, tDisp, tPairs, tFld, sFld, tMake, tMeth, tAug, ipI, tDead, tBM0, tRev, l_let, l_fig, l_e, tDGet, tDNotIn, sDPut, tDNewK]
          refine ⟨sl1000 (by have := cutL_le (frL (c / 192)) none (some (1 + (i : Int) % 7)); simp; omega), cy _ _ ⟨S5.trans S6, ?_⟩⟩
          rw [cut_to _ (by omega), show (1 + (i : Int) % 7).toNat = 1 + i % 7 by omega, List.range_succ, List.map_append, List.map_append]
          rfl
      rintro ys H5 l2 ⟨S5, rfl⟩ nl2
      rw [show (20 : Int).toNat = 20 from rfl]
      have X5 := Same.upd (Same.refl H5) nl2 (o := .lst (((List.range 20).map fun k => (frL (c / 192)).take (1 + k % 7) ++ [48 + k / 7]).map fun w => V.str (mkS w)))
      have e2 : upd H5 l2 (.lst (((List.range 20).map fun k => (frL (c / 192)).take (1 + k % 7) ++ [48 + k / 7]).map fun w => V.str (mkS w))) l2 = some (.lst (((List.range 20).map fun k => (frL (c / 192)).take (1 + k % 7) ++ [48 + k / 7]).map fun w => V.str (mkS w))) := upd_same
      have S6 := ((S.trans S3).trans S5).trans X5
      have efo6 := X5 _ _ (S5 _ _ efo)
      generalize upd H5 l2 (.lst (((List.range 20).map fun k => (frL (c / 192)).take (1 + k % 7) ++ [48 + k / 7]).map fun w => V.str (mkS w))) = H6 at X5 e2 S6 efo6 ⊢
      refine catL efo6 e2 (sl1000 (by simp)) fun p np => ?_
      have X7 := Same.upd (Same.refl H6) np (o := .lst ((((List.range 8).map fun k => (frL (c / 192)).take (k + 1)).map fun w => V.str (mkS w)) ++ (((List.range 20).map fun k => (frL (c / 192)).take (1 + k % 7) ++ [48 + k / 7]).map fun w => V.str (mkS w))))
      refine slL (SqL.of upd_same) fun p2 np2 => q p2 (nmA (c / 192)) _ ((S6.trans X7).no np2) ((S6.trans X7).trans (Same.upd (Same.refl _) np2)) (nmA_ok _).1 (nmA_ok _).2.1 (nmA_ok _).2.2.1 (nmA_ok _).2.2.2 ?_
      rw [upd_same, cut_to _ (by decide), nmA, List.map_take, List.map_append]
      rfl
    · subst hB
      refine tSeq_gen fun B hB => ?_
      simp only [tSeq, tIfS, tRet, tRetN, tC, tVar, tOp, tUn, tTest, tB, tAnd, tOr, tNot, tAndV, tOrV, tNotV, tIf, tChain, tCons, tNil, tCall, tCB, tLst, tTup, tSl, tNoPart, tPart, gName, tNext, tDrop, tAsg, tAsgC, tBM, tYes, tDNewK, rI, rI0, rU, rEq, rNe, rAbs, rIntT, CDiv, add_ii, add_ss, mul_ii, ix_si, eq_ii, eq_ss, ne_ii, ne_ss, isnot_xn, List.append_nil, List.cons_append, List.nil_append, List.getElem?_cons_succ, List.getElem?_cons_zero, List.set_cons_succ, List.set_cons_zero, Option.some.injEq, V.int.injEq, V.bl.injEq, V.str.injEq, V.ref.injEq, V.ty.injEq, List.cons.injEq, and_true, true_and, exists_eq_left, exists_eq_left', exists_and_left, exists_eq', exists_const, exists_and_right, exists_eq_right, exists_eq_right', reduceCtorEq, false_and, and_false, exists_false, or_false, false_or, decide_eq_true_eq, Bool.not_eq_true', decide_eq_false_iff_not, Bool.false_eq_true, if_false, if_true, mk_app, mk_len, sg_mk, mk_one, decide_true, decide_false, Bool.not_true, Bool.not_false, ite_true, ite_false, not_true_eq_false, not_false_eq_true, mk_iff, tyV_str, stComp, List.map_cons, List.map_nil, Option.join_some, Option.join_none, gt_iff_lt, ge_iff_le, tRaise, tTryR, tCallH, tDisp, tPairs, tFld, sFld, tMake, tMeth, tAug, ipI, tDead, tBM0, tRev, l_let, l_fig, l_e, tDGet, tDNotIn, sDPut, tDNewK]
      refine ⟨⟨by decide, by decide⟩, by decide, ?_⟩
      have z0 : 2 ≤ 2 + c / 3 % 7 := by omega
      have z1 : 2 + c / 3 % 7 ≤ 8 := by omega
      generalize 2 + c / 3 % 7 = z at z0 z1 ⊢
      subst hB
      refine tSeq_gen fun B hB => ?_
      simp only [tSeq, tIfS, tRet, tRetN, tC, tVar, tOp, tUn, tTest, tB, tAnd, tOr, tNot, tAndV, tOrV, tNotV, tIf, tChain, tCons, tNil, tCall, tCB, tLst, tTup, tSl, tNoPart, tPart, gName, tNext, tDrop, tAsg, tAsgC, tBM, tYes, tDNewK, rI, rI0, rU, rEq, rNe, rAbs, rIntT, CDiv, add_ii, add_ss, mul_ii, ix_si, eq_ii, eq_ss, ne_ii, ne_ss, isnot_xn, List.append_nil, List.cons_append, List.nil_append, List.getElem?_cons_succ, List.getElem?_cons_zero, List.set_cons_succ, List.set_cons_zero, Option.some.injEq, V.int.injEq, V.bl.injEq, V.str.injEq, V.ref.injEq, V.ty.injEq, List.cons.injEq, and_true, true_and, exists_eq_left, exists_eq_left', exists_and_left, exists_eq', exists_const, exists_and_right, exists_eq_right, exists_eq_right', reduceCtorEq, false_and, and_false, exists_false, or_false, false_or, decide_eq_true_eq, Bool.not_eq_true', decide_eq_false_iff_not, Bool.false_eq_true, if_false, if_true, mk_app, mk_len, sg_mk, mk_one, decide_true, decide_false, Bool.not_true, Bool.not_false, ite_true, ite_false, not_true_eq_false, not_false_eq_true, mk_iff, tyV_str, stComp, List.map_cons, List.map_nil, Option.join_some, Option.join_none, gt_iff_lt, ge_iff_le, tRaise, tTryR, tCallH, tDisp, tPairs, tFld, sFld, tMake, tMeth, tAug, ipI, tDead, tBM0, tRev, l_let, l_fig, l_e, tDGet, tDNotIn, sDPut, tDNewK]
      refine ⟨⟨by decide, by decide⟩, by omega, ?_⟩
      have t0 := Int.emod_nonneg (c / 21) (show z ≠ 0 by omega)
      have t1 := Int.emod_lt_of_pos (c / 21) (show 0 < z by omega)
      generalize c / 21 % z = t at t0 t1 ⊢
      subst hB
      refine tSeq_gen fun B hB => ?_
      simp only [tSeq, tIfS, tRet, tRetN, tC, tVar, tOp, tUn, tTest, tB, tAnd, tOr, tNot, tAndV, tOrV, tNotV, tIf, tChain, tCons, tNil, tCall, tCB, tLst, tTup, tSl, tNoPart, tPart, gName, tNext, tDrop, tAsg, tAsgC, tBM, tYes, tDNewK, rI, rI0, rU, rEq, rNe, rAbs, rIntT, CDiv, add_ii, add_ss, mul_ii, ix_si, eq_ii, eq_ss, ne_ii, ne_ss, isnot_xn, List.append_nil, List.cons_append, List.nil_append, List.getElem?_cons_succ, List.getElem?_cons_zero, List.set_cons_succ, List.set_cons_zero, Option.some.injEq, V.int.injEq, V.bl.injEq, V.str.injEq, V.ref.injEq, V.ty.injEq, List.cons.injEq, and_true, true_and, exists_eq_left, exists_eq_left', exists_and_left, exists_eq', exists_const, exists_and_right, exists_eq_right, exists_eq_right', reduceCtorEq, false_and, and_false, exists_false, or_false, false_or, decide_eq_true_eq, Bool.not_eq_true', decide_eq_false_iff_not, Bool.false_eq_true, if_false, if_true, mk_app, mk_len, sg_mk, mk_one, decide_true, decide_false, Bool.not_true, Bool.not_false, ite_true, ite_false, not_true_eq_false, not_false_eq_true, mk_iff, tyV_str, stComp, List.map_cons, List.map_nil, Option.join_some, Option.join_none, gt_iff_lt, ge_iff_le, tRaise, tTryR, tCallH, tDisp, tPairs, tFld, sFld, tMake, tMeth, tAug, ipI, tDead, tBM0, tRev, l_let, l_fig, l_e, tDGet, tDNotIn, sDPut, tDNewK]
      refine ⟨sl1000 (by simp), fun fo nfo => ?_⟩
      have n0_fo := S.no nfo
      have X_ := Same.upd (Same.refl H1) nfo (o := .lst [])
      have e_fo : upd H1 fo (.lst []) fo = some (.lst []) := upd_same
      have d_fr_fo := ne_of_none e_fr nfo
      replace e_fr := X_ _ _ e_fr
      replace S := S.trans X_
      generalize upd H1 fo (.lst []) = H2 at X_ e_fo e_fr S ⊢
      clear X_ nfo
      subst hB
      refine tSeq_gen fun B hB => ?_
      refine tfor_rng 20 (by decide) (by decide) (fun R h => ⟨_, rfl, h⟩) (fun i σ Hi => Same H' Hi ∧ Hi fr = some (.lst ((frL (c / 192)).map fun c => V.str (mkS [c]))) ∧ ∃ (v8 v9 : Option V), Hi fo = some (.lst (((List.range i).map (nmBF (c / 192) (c / 7000) z.toNat t.toNat)).map fun w => V.str (mkS w))) ∧ σ = [some (V.int c), some (V.int 20), some (V.str (mkS letL)), some (V.str (mkS (letL ++ [48, 49, 50, 51, 52, 53, 54, 55, 56, 57]))), some (V.ref fr), some (V.ref fo), some (V.int z), some (V.int t), v8, v9]) ⟨S, e_fr, none, none, e_fo, rfl⟩ ?_ ?_
      · clear e_fo e_fr S H2 H1
        rintro i σ H1 hi ⟨S, e_fr, v8, v9, e_fo, rfl⟩
        refine tSeq_gen fun B hB => ?_
        simp only [tSeq, tIfS, tRet, tRetN, tC, tVar, tOp, tUn, tTest, tB, tAnd, tOr, tNot, tAndV, tOrV, tNotV, tIf, tChain, tCons, tNil, tCall, tCB, tLst, tTup, tSl, tNoPart, tPart, gName, tNext, tDrop, tAsg, tAsgC, tBM, tYes, tDNewK, rI, rI0, rU, rEq, rNe, rAbs, rIntT, CDiv, add_ii, add_ss, mul_ii, ix_si, eq_ii, eq_ss, ne_ii, ne_ss, isnot_xn, List.append_nil, List.cons_append, List.nil_append, List.getElem?_cons_succ, List.getElem?_cons_zero, List.set_cons_succ, List.set_cons_zero, Option.some.injEq, V.int.injEq, V.bl.injEq, V.str.injEq, V.ref.injEq, V.ty.injEq, List.cons.injEq, and_true, true_and, exists_eq_left, exists_eq_left', exists_and_left, exists_eq', exists_const, exists_and_right, exists_eq_right, exists_eq_right', reduceCtorEq, false_and, and_false, exists_false, or_false, false_or, decide_eq_true_eq, Bool.not_eq_true', decide_eq_false_iff_not, Bool.false_eq_true, if_false, if_true, mk_app, mk_len, sg_mk, mk_one, decide_true, decide_false, Bool.not_true, Bool.not_false, ite_true, ite_false, not_true_eq_false, not_false_eq_true, mk_iff, tyV_str, stComp, List.map_cons, List.map_nil, Option.join_some, Option.join_none, gt_iff_lt, ge_iff_le, tRaise, tTryR, tCallH, tDisp, tPairs, tFld, sFld, tMake, tMeth, tAug, ipI, tDead, tBM0, tRev, l_let, l_fig, l_e, tDGet, tDNotIn, sDPut, tDNewK]
        refine ⟨⟨by decide, by decide⟩, by unfold CMul; omega, by decide, sl1000 (by decide), _, sig_val (by omega) (by omega), ?_⟩
        subst hB
        refine tSeq_nx fun B hB => ?_
        have fin : ∀ x : Nat, x = (if t.toNat = 0 then 97 + ((c / 7000 + 7 * (i : Int)) % 26).toNat else sigF ((c / 7000 + 7 * (i : Int)) % 36)) → B [some (V.int c), some (V.int 20), some (V.str (mkS letL)), some (V.str (mkS (letL ++ [48, 49, 50, 51, 52, 53, 54, 55, 56, 57]))), some (V.ref fr), some (V.ref fo), some (V.int z), some (V.int t), some (V.int (i : Int)), some (V.str (mkS [x]))] H1 := by
          intro x hx
          subst hB
          simp only [tSeq, tIfS, tRet, tRetN, tC, tVar, tOp, tUn, tTest, tB, tAnd, tOr, tNot, tAndV, tOrV, tNotV, tIf, tChain, tCons, tNil, tCall, tCB, tLst, tTup, tSl, tNoPart, tPart, gName, tNext, tDrop, tAsg, tAsgC, tBM, tYes, tDNewK, rI, rI0, rU, rEq, rNe, rAbs, rIntT, CDiv, add_ii, add_ss, mul_ii, ix_si, eq_ii, eq_ss, ne_ii, ne_ss, isnot_xn, List.append_nil, List.cons_append, List.nil_append, List.getElem?_cons_succ, List.getElem?_cons_zero, List.set_cons_succ, List.set_cons_zero, Option.some.injEq, V.int.injEq, V.bl.injEq, V.str.injEq, V.ref.injEq, V.ty.injEq, List.cons.injEq, and_true, true_and, exists_eq_left, exists_eq_left', exists_and_left, exists_eq', exists_const, exists_and_right, exists_eq_right, exists_eq_right', reduceCtorEq, false_and, and_false, exists_false, or_false, false_or, decide_eq_true_eq, Bool.not_eq_true', decide_eq_false_iff_not, Bool.false_eq_true, if_false, if_true, mk_app, mk_len, sg_mk, mk_one, decide_true, decide_false, Bool.not_true, Bool.not_false, ite_true, ite_false, not_true_eq_false, not_false_eq_true, mk_iff, tyV_str, stComp, List.map_cons, List.map_nil, Option.join_some, Option.join_none, gt_iff_lt, ge_iff_le, tRaise, tTryR, tCallH, tDisp, tPairs, tFld, sFld, tMake, tMeth, tAug, ipI, tDead, tBM0, tRev, l_let, l_fig, l_e, tDGet, tDNotIn, sDPut, tDNewK]
          refine ⟨tyV_lst (SqL.of e_fo), jcut e_fr (by rw [lf]; decide) fun H2 S2 => ?_⟩
          have c1 := cutL_le (frL (c / 192)) none (some t)
          have c2 := cutL_le (frL (c / 192)) (some (t + 1)) (some z)
          rw [lf] at c1 c2
          simp only [tSeq, tIfS, tRet, tRetN, tC, tVar, tOp, tUn, tTest, tB, tAnd, tOr, tNot, tAndV, tOrV, tNotV, tIf, tChain, tCons, tNil, tCall, tCB, tLst, tTup, tSl, tNoPart, tPart, gName, tNext, tDrop, tAsg, tAsgC, tBM, tYes, tDNewK, rI, rI0, rU, rEq, rNe, rAbs, rIntT, CDiv, add_ii, add_ss, mul_ii, ix_si, eq_ii, eq_ss, ne_ii, ne_ss, isnot_xn, List.append_nil, List.cons_append, List.nil_append, List.getElem?_cons_succ, List.getElem?_cons_zero, List.set_cons_succ, List.set_cons_zero, Option.some.injEq, V.int.injEq, V.bl.injEq, V.str.injEq, V.ref.injEq, V.ty.injEq, List.cons.injEq, and_true, true_and, exists_eq_left, exists_eq_left', exists_and_left, exists_eq', exists_const, exists_and_right, exists_eq_right, exists_eq_right', reduceCtorEq, false_and, and_false, exists_false, or_false, false_or, decide_eq_true_eq, Bool.not_eq_true', decide_eq_false_iff_not, Bool.false_eq_true, if_false, if_true, mk_app, mk_len, sg_mk, mk_one, decide_true, decide_false, Bool.not_true, Bool.not_false, ite_true, ite_false, not_true_eq_false, not_false_eq_true, mk_iff, tyV_str, stComp, List.map_cons, List.map_nil, Option.join_some, Option.join_none, gt_iff_lt, ge_iff_le, tRaise, tTryR, tCallH, tDisp, tPairs, tFld, sFld, tMake, tMeth, tAug, ipI, tDead, tBM0, tRev, l_let, l_fig, l_e, tDGet, tDNotIn, sDPut, tDNewK]
          refine ⟨sl1000 (by simp; omega), jcut (S2 _ _ e_fr) (by rw [lf]; decide) fun H3 S3 => ?_⟩
          simp only [tSeq, tIfS, tRet, tRetN, tC, tVar, tOp, tUn, tTest, tB, tAnd, tOr, tNot, tAndV, tOrV, tNotV, tIf, tChain, tCons, tNil, tCall, tCB, tLst, tTup, tSl, tNoPart, tPart, gName, tNext, tDrop, tAsg, tAsgC, tBM, tYes, tDNewK, rI, rI0, rU, rEq, rNe, rAbs, rIntT, CDiv, add_ii, add_ss, mul_ii, ix_si, eq_ii, eq_ss, ne_ii, ne_ss, isnot_xn, List.append_nil, List.cons_append, List.nil_append, List.getElem?_cons_succ, List.getElem?_cons_zero, List.set_cons_succ, List.set_cons_zero, Option.some.injEq, V.int.injEq, V.bl.injEq, V.str.injEq, V.ref.injEq, V.ty.injEq, List.cons.injEq, and_true, true_and, exists_eq_left, exists_eq_left', exists_and_left, exists_eq', exists_const, exists_and_right, exists_eq_right, exists_eq_right', reduceCtorEq, false_and, and_false, exists_false, or_false, false_or, decide_eq_true_eq, Bool.not_eq_true', decide_eq_false_iff_not, Bool.false_eq_true, if_false, if_true, mk_app, mk_len, sg_mk, mk_one, decide_true, decide_false, Bool.not_true, Bool.not_false, ite_true, ite_false, not_true_eq_false, not_false_eq_true, mk_iff, tyV_str, stComp, List.map_cons, List.map_nil, Option.join_some, Option.join_none, gt_iff_lt, ge_iff_le, tRaise, tTryR, tCallH, tDisp, tPairs, tFld, sFld, tMake, tMeth, tAug, ipI, tDead, tBM0, tRev, l_let, l_fig, l_e, tDGet, tDNotIn, sDPut, tDNewK]
          refine ⟨sl1000 (by simp; omega), appL ((S2.trans S3) _ _ e_fo) (by simp [sizeLine_eq]; omega) ⟨(S.trans (S2.trans S3)).set n0_fo, keepU ((S2.trans S3) _ _ e_fr) d_fr_fo, ?_⟩⟩
          rw [upd_same, List.range_succ, List.map_append, List.map_append, cut_to _ t0, cut_mid _ (by omega) (by omega) (by rw [lf]; omega), hx, show (t + 1).toNat = t.toNat + 1 by omega]
          rfl
        simp only [tSeq, tIfS, tRet, tRetN, tC, tVar, tOp, tUn, tTest, tB, tAnd, tOr, tNot, tAndV, tOrV, tNotV, tIf, tChain, tCons, tNil, tCall, tCB, tLst, tTup, tSl, tNoPart, tPart, gName, tNext, tDrop, tAsg, tAsgC, tBM, tYes, tDNewK, rI, rI0, rU, rEq, rNe, rAbs, rIntT, CDiv, add_ii, add_ss, mul_ii, ix_si, eq_ii, eq_ss, ne_ii, ne_ss, isnot_xn, List.append_nil, List.cons_append, List.nil_append, List.getElem?_cons_succ, List.getElem?_cons_zero, List.set_cons_succ, List.set_cons_zero, Option.some.injEq, V.int.injEq, V.bl.injEq, V.str.injEq, V.ref.injEq, V.ty.injEq, List.cons.injEq, and_true, true_and, exists_eq_left, exists_eq_left', exists_and_left, exists_eq', exists_const, exists_and_right, exists_eq_right, exists_eq_right', reduceCtorEq, false_and, and_false, exists_false, or_false, false_or, decide_eq_true_eq, Bool.not_eq_true', decide_eq_false_iff_not, Bool.false_eq_true, if_false, if_true, mk_app, mk_len, sg_mk, mk_one, decide_true, decide_false, Bool.not_true, Bool.not_false, ite_true, ite_false, not_true_eq_false, not_false_eq_true, mk_iff, tyV_str, stComp, List.map_cons, List.map_nil, Option.join_some, Option.join_none, gt_iff_lt, ge_iff_le, tRaise, tTryR, tCallH, tDisp, tPairs, tFld, sFld, tMake, tMeth, tAug, ipI, tDead, tBM0, tRev, l_let, l_fig, l_e, tDGet, tDNotIn, sDPut, tDNewK]
        refine ite2 (fun h0 => ?_) fun h0 => ?_
        · refine ⟨⟨by decide, by decide⟩, by unfold CMul; omega, by decide, sl1000 (by decide), _, let_val (by omega) (by omega), fin _ (by rw [if_pos (by omega)])⟩
        · exact fin _ (by rw [if_neg (by omega)])
      · rintro σ H2 ⟨S, e_fr, v8, v9, e_fo, rfl⟩
        subst hB
        simp only [tSeq, tIfS, tRet, tRetN, tC, tVar, tOp, tUn, tTest, tB, tAnd, tOr, tNot, tAndV, tOrV, tNotV, tIf, tChain, tCons, tNil, tCall, tCB, tLst, tTup, tSl, tNoPart, tPart, gName, tNext, tDrop, tAsg, tAsgC, tBM, tYes, tDNewK, rI, rI0, rU, rEq, rNe, rAbs, rIntT, CDiv, add_ii, add_ss, mul_ii, ix_si, eq_ii, eq_ss, ne_ii, ne_ss, isnot_xn, List.append_nil, List.cons_append, List.nil_append, List.getElem?_cons_succ, List.getElem?_cons_zero, List.set_cons_succ, List.set_cons_zero, Option.some.injEq, V.int.injEq, V.bl.injEq, V.str.injEq, V.ref.injEq, V.ty.injEq, List.cons.injEq, and_true, true_and, exists_eq_left, exists_eq_left', exists_and_left, exists_eq', exists_const, exists_and_right, exists_eq_right, exists_eq_right', reduceCtorEq, false_and, and_false, exists_false, or_false, false_or, decide_eq_true_eq, Bool.not_eq_true', decide_eq_false_iff_not, Bool.false_eq_true, if_false, if_true, mk_app, mk_len, sg_mk, mk_one, decide_true, decide_false, Bool.not_true, Bool.not_false, ite_true, ite_false, not_true_eq_false, not_false_eq_true, mk_iff, tyV_str, stComp, List.map_cons, List.map_nil, Option.join_some, Option.join_none, gt_iff_lt, ge_iff_le, tRaise, tTryR, tCallH, tDisp, tPairs, tFld, sFld, tMake, tMeth, tAug, ipI, tDead, tBM0, tRev, l_let, l_fig, l_e, tDGet, tDNotIn, sDPut, tDNewK]
        obtain ⟨a1, a2, a3, a4⟩ := nmB_ok (c / 192) (c / 7000) (sz := z.toNat) (at' := t.toNat) (by omega) (by omega)
        exact q fo (nmB (c / 192) (c / 7000) z.toNat t.toNat) H2 n0_fo S a1 a2 a3 a4 e_fo
noncomputable def sp__law_heads (K : PySem.W.Frag) : Sp := fun vs H Q E => ∃ (a p : Addr) (ns : List Int) (ls : List (List Nat)) (m k : Int), vs = [.ref a, .ref p, .int m, .int k] ∧ SqL K H a (ns.map V.int) ∧ H p = some (.lst (ls.map fun w => V.str (mkS w))) ∧ ls.length = 20 ∧ ls.Nodup ∧ mainL ∉ ls ∧ (∀ w ∈ ls, OkN w) ∧ 1 ≤ m ∧ m ≤ 6 ∧ ∀ t h d (es : List (Addr × HeadD)) (kvs : List (Key × V)) H', H d = none → Same H H' → H' t = some (.tup [.ref h, .ref d]) → H' h = some (.lst (refsS es)) → es.length = m.toNat → (∀ e ∈ es, HeadAt H' e ∧ HeadOk e.2) → H' d = some (.dK kvs) → DOk H' kvs → kvs.length ≤ 30 → (es.map (·.2.n)).Nodup → (es.flatMap fun e => shH e.2.ss).Nodup → Q (.ref t) H'
theorem sc__law_heads : FnScope ["_law_script", "_law_names_here", "_law_many", "_law_at_main", "_law_heads_here", "_law_shared_here", "_law_i", "_law_cell", "_law_sections", "_law_k", "_law_name", "_law_kind", "_law_is_shared"] ["_law_script", "_law_names_here", "_law_many", "_law_at_main"] (defScope s__law_heads) := ⟨rfl, rfl, rfl, by decide +kernel, rfl, by decide +kernel, by decide +kernel⟩
theorem ok__law_heads (T : Txt K mg) : FnOk P w K mg base CX0 2 T.d__law_heads.f T.d__law_heads.fd ["_law_script", "_law_names_here", "_law_many", "_law_at_main"] (sp__law_heads K) := by
  have nd := sc__law_heads.nd
  refine T.d__law_heads.F.ok sc__law_heads (fun vs H Q E h => ?_) (fun cdv A outer s H vs Q E hr h => ?_)
  · obtain ⟨a, p, ns, ls, m, k, rfl, ha, hp, ll, nd', hmain, hok, m0, m1, q⟩ := h
    rfl
  · obtain ⟨a, p, ns, ls, m, k, rfl, ha, hp, ll, nd', hmain, hok, m0, m1, q⟩ := h
    have hu := hr.units0
    refine ⟨_, (pss_cons (ps_set (i := 4) nd rfl (Or.inl rfl) (pe_lst pa_nil))
      (pss_cons (ps_set (i := 5) nd rfl (Or.inl rfl) pe_dnewK)
      (pss_cons (ps_for PassesOwn.never rfl (pi_range1 rfl T.n_range (pa1 (pv 2) pa_nil)) (pg_name (i := 6) nd rfl (Or.inl rfl))
        (pss_cons (ps_set (i := 7) nd rfl (Or.inl rfl) (pc1 T.d__law_mixed (ok__law_mixed T) (hr.mono (by decide)) (pa1 (pc1 T.d__law_cell_at (ok__law_cell_at T) (hr.mono (by decide)) (pa1 (pv 0) (pa1 (pe_op o_add pe_int (pv 6)) pa_nil))) (pa1 (pv 6) pa_nil))))
      (pss_cons (ps_set (i := 8) nd rfl (Or.inl rfl) (pe_lst pa_nil))
      (pss_cons (ps_for PassesOwn.never rfl (pi_range1 rfl T.n_range (pa1 (pe_op o_add pe_int (pe_op op_mod (pv 7) pe_int)) pa_nil)) (pg_name (i := 9) nd rfl (Or.inl rfl))
        (pss_cons (ps_set (i := 10) nd rfl (Or.inl rfl) (pe_ix (o_ix (K := K)) (pv 1) (pe_op op_mod (pe_op o_add (pe_op op_fdiv (pv 7) pe_int) (pe_op o_mul pe_int (pv 9))) pe_int) (fun _ _ => rfl)))
      (pss_cons (ps_set (i := 11) nd rfl (Or.inl rfl) (pe_ix (o_ix (K := K)) (pe_lst (pa1 pe_str (pa1 pe_str (pa1 pe_str pa_nil)))) (pe_op op_mod (pc1 T.d__law_mixed (ok__law_mixed T) (hr.mono (by decide)) (pa1 (pv 7) (pa1 (pe_op o_add pe_int (pv 9)) pa_nil))) pe_int) (fun _ _ => rfl)))
      (pss_cons (ps_set (i := 12) nd rfl (Or.inl rfl) (pe_and (pe_cmp (pc_dnotin (hu_of hr) (pv 10) (pv 5)) (by with_unfolding_all rfl)) (pe_one (pe_cmpR op_gt (pe_op op_mod (pc1 T.d__law_mixed (ok__law_mixed T) (hr.mono (by decide)) (pa1 (pv 7) (pa1 (pe_op o_add pe_int (pv 9)) pa_nil))) pe_int) pe_int (nomark _)))))
      (pss_cons (ps_if (pt_val (pv 12)) (pss_one (ps_dput (hu_of hr) (pv 5) (pv 10) (pe_tup (pa1 (pv 6) (pa1 (pv 11) pa_nil))) rfl)) pss_nil)
      (pss_one (ps_expr (pm1 (K := K) PySem.F.plainAttrs_list PySem.F.slot_list_append PySem.F.type_list_append o_append (pv 8) (pa1 (pe_tup (pa1 (pv 11) (pa1 (pv 10) (pa1 (pv 12) pa_nil)))) pa_nil)))))))))
      (pss_cons (ps_if (pt_cmpR (o_eq (K := K) hu) (pv 6) (pv 3) (nomark _)) (pss_cons (ps_expr (pm1 (K := K) PySem.F.plainAttrs_list PySem.F.slot_list_insert PySem.F.type_list_insert o_insert (pv 8) (pa1 (pe_op op_mod (pc1 T.d__law_mixed (ok__law_mixed T) (hr.mono (by decide)) (pa1 (pv 7) (pa1 pe_int pa_nil))) (pe_op o_add (pcB (o_len (K := K)) rfl T.n_len (by kernel_rfl) (pa1 (pv 8) pa_nil)) pe_int)) (pa1 (pe_tup (pa1 pe_str (pa1 pe_str (pa1 pe_bl pa_nil)))) pa_nil))))
      (pss_one (ps_dput (hu_of hr) (pv 5) pe_str (pe_tup (pa1 (pv 6) (pa1 pe_str pa_nil))) rfl))) pss_nil)
      (pss_one (ps_expr (pm1 (K := K) PySem.F.plainAttrs_list PySem.F.slot_list_append PySem.F.type_list_append o_append (pv 4) (pa1 (pe_tup (pa1 (pe_ix (o_ix (K := K)) (pv 1) (pe_op op_mod (pe_op o_add (pc1 T.d__law_mixed (ok__law_mixed T) (hr.mono (by decide)) (pa1 (pc1 T.d__law_cell_at (ok__law_cell_at T) (hr.mono (by decide)) (pa1 (pv 0) (pa1 pe_int pa_nil))) (pa1 pe_int pa_nil))) (pe_op o_mul pe_int (pv 6))) pe_int) (fun _ _ => rfl)) (pa1 (pv 8) pa_nil))) pa_nil)))))))))
      (pss_one (ps_ret (pe_tup (pa1 (pv 4) (pa1 (pv 5) pa_nil)))))))), ?_⟩
    rw [show start ["_law_script", "_law_names_here", "_law_many", "_law_at_main", "_law_heads_here", "_law_shared_here", "_law_i", "_law_cell", "_law_sections", "_law_k", "_law_name", "_law_kind", "_law_is_shared"] [V.ref a, V.ref p, V.int m, V.int k] = [some (V.ref a), some (V.ref p), some (V.int m), some (V.int k), none, none, none, none, none, none, none, none, none] from rfl]
    have S := Same.refl H
    refine tSeq_gen fun B hB => ?_
    simp only [tSeq, tIfS, tRet, tRetN, tC, tVar, tOp, tUn, tTest, tB, tAnd, tOr, tNot, tAndV, tOrV, tNotV, tIf, tChain, tCons, tNil, tCall, tCB, tLst, tTup, tSl, tNoPart, tPart, gName, tNext, tDrop, tAsg, tAsgC, tBM, tYes, tDNewK, rI, rI0, rU, rEq, rNe, rAbs, rIntT, CDiv, add_ii, add_ss, mul_ii, ix_si, eq_ii, eq_ss, ne_ii, ne_ss, isnot_xn, List.append_nil, List.cons_append, List.nil_append, List.getElem?_cons_succ, List.getElem?_cons_zero, List.set_cons_succ, List.set_cons_zero, Option.some.injEq, V.int.injEq, V.bl.injEq, V.str.injEq, V.ref.injEq, V.ty.injEq, List.cons.injEq, and_true, true_and, exists_eq_left, exists_eq_left', exists_and_left, exists_eq', exists_const, exists_and_right, exists_eq_right, exists_eq_right', reduceCtorEq, false_and, and_false, exists_false, or_false, false_or, decide_eq_true_eq, Bool.not_eq_true', decide_eq_false_iff_not, Bool.false_eq_true, if_false, if_true, mk_app, mk_len, sg_mk, mk_one, decide_true, decide_false, Bool.not_true, Bool.not_false, ite_true, ite_false, not_true_eq_false, not_false_eq_true, mk_iff, tyV_str, stComp, List.map_cons, List.map_nil, Option.join_some, Option.join_none, gt_iff_lt, ge_iff_le, tRaise, tTryR, tCallH, tDisp, tPairs, tFld, sFld, tMake, tMeth, tAug, ipI, tDead, tBM0, tRev, l_let, l_fig, l_e, tDGet, tDNotIn, sDPut, tDNewK]
    refine ⟨sl1000 (by simp), fun h nh => ?_⟩
    have n0_h := S.no nh
    have X_ := Same.upd (Same.refl H) nh (o := .lst [])
    have e_h : upd H h (.lst []) h = some (.lst []) := upd_same
    replace S := S.trans X_
    generalize upd H h (.lst []) = H1 at X_ e_h  S ⊢
    clear X_ nh
    
    subst hB
    refine tSeq_gen fun B hB => ?_
    simp only [tSeq, tIfS, tRet, tRetN, tC, tVar, tOp, tUn, tTest, tB, tAnd, tOr, tNot, tAndV, tOrV, tNotV, tIf, tChain, tCons, tNil, tCall, tCB, tLst, tTup, tSl, tNoPart, tPart, gName, tNext, tDrop, tAsg, tAsgC, tBM, tYes, tDNewK, rI, rI0, rU, rEq, rNe, rAbs, rIntT, CDiv, add_ii, add_ss, mul_ii, ix_si, eq_ii, eq_ss, ne_ii, ne_ss, isnot_xn, List.append_nil, List.cons_append, List.nil_append, List.getElem?_cons_succ, List.getElem?_cons_zero, List.set_cons_succ, List.set_cons_zero, Option.some.injEq, V.int.injEq, V.bl.injEq, V.str.injEq, V.ref.injEq, V.ty.injEq, List.cons.injEq, and_true, true_and, exists_eq_left, exists_eq_left', exists_and_left, exists_eq', exists_const, exists_and_right, exists_eq_right, exists_eq_right', reduceCtorEq, false_and, and_false, exists_false, or_false, false_or, decide_eq_true_eq, Bool.not_eq_true', decide_eq_false_iff_not, Bool.false_eq_true, if_false, if_true, mk_app, mk_len, sg_mk, mk_one, decide_true, decide_false, Bool.not_true, Bool.not_false, ite_true, ite_false, not_true_eq_false, not_false_eq_true, mk_iff, tyV_str, stComp, List.map_cons, List.map_nil, Option.join_some, Option.join_none, gt_iff_lt, ge_iff_le, tRaise, tTryR, tCallH, tDisp, tPairs, tFld, sFld, tMake, tMeth, tAug, ipI, tDead, tBM0, tRev, l_let, l_fig, l_e, tDGet, tDNotIn, sDPut, tDNewK]
    intro d nd2
    have n0_d := S.no nd2
    have X_ := Same.upd (Same.refl H1) nd2 (o := .dK [])
    have e_d : upd H1 d (.dK []) d = some (.dK []) := upd_same
    replace e_h := X_ _ _ e_h
    replace S := S.trans X_
    generalize upd H1 d (.dK []) = H2 at X_ e_d e_h S ⊢
    clear X_ nd2
    
    subst hB
    refine tSeq_gen fun B hB => ?_
    have K0 : KyI H2 d [] [] 0 := ⟨e_d, (fun _ h => nomatch h), rfl, .nil, Nat.le_refl _⟩
    refine tfor_rng m (by omega) (by omega) (fun R z => ⟨_, rfl, z⟩) (fun i σ H' => Same H H' ∧ ∃ (es : List (Addr × HeadD)) (kvs : List (Key × V)) (keys : List Str) (v6 v7 v8 v9 v10 v11 v12 : Option V), H' h = some (.lst (refsS es)) ∧ (∀ e ∈ es, HeadX h H' e ∧ HeadOk e.2) ∧ KyI H' d kvs keys (4 * i) ∧ keys.Perm (es.flatMap fun e => shH e.2.ss) ∧ (∀ z ∈ keys, InN ls (k < (i : Int)) z) ∧ es.map (·.2.n) = (List.range i).map (nmF ls (mixT (cellF ns 1) 1)) ∧ σ = [some (V.ref a), some (V.ref p), some (V.int m), some (V.int k), some (V.ref h), some (V.ref d), v6, v7, v8, v9, v10, v11, v12]) ⟨S, [], [], [], none, none, none, none, none, none, none, e_h, (fun _ h => nomatch h), K0, .nil, (fun _ h => nomatch h), rfl, rfl⟩ ?_ ?_
    · clear S K0 e_h e_d H2 H1
      rintro i σ H1 hi ⟨S, es, kvs, keys, v6, v7, v8, v9, v10, v11, v12, eh, hes, Ky, pk, hin, en, rfl⟩
      refine tSeq_gen fun B hB => ?_
      simp only [tSeq, tIfS, tRet, tRetN, tC, tVar, tOp, tUn, tTest, tB, tAnd, tOr, tNot, tAndV, tOrV, tNotV, tIf, tChain, tCons, tNil, tCall, tCB, tLst, tTup, tSl, tNoPart, tPart, gName, tNext, tDrop, tAsg, tAsgC, tBM, tYes, tDNewK, rI, rI0, rU, rEq, rNe, rAbs, rIntT, CDiv, add_ii, add_ss, mul_ii, ix_si, eq_ii, eq_ss, ne_ii, ne_ss, isnot_xn, List.append_nil, List.cons_append, List.nil_append, List.getElem?_cons_succ, List.getElem?_cons_zero, List.set_cons_succ, List.set_cons_zero, Option.some.injEq, V.int.injEq, V.bl.injEq, V.str.injEq, V.ref.injEq, V.ty.injEq, List.cons.injEq, and_true, true_and, exists_eq_left, exists_eq_left', exists_and_left, exists_eq', exists_const, exists_and_right, exists_eq_right, exists_eq_right', reduceCtorEq, false_and, and_false, exists_false, or_false, false_or, decide_eq_true_eq, Bool.not_eq_true', decide_eq_false_iff_not, Bool.false_eq_true, if_false, if_true, mk_app, mk_len, sg_mk, mk_one, decide_true, decide_false, Bool.not_true, Bool.not_false, ite_true, ite_false, not_true_eq_false, not_false_eq_true, mk_iff, tyV_str, stComp, List.map_cons, List.map_nil, Option.join_some, Option.join_none, gt_iff_lt, ge_iff_le, tRaise, tTryR, tCallH, tDisp, tPairs, tFld, sFld, tMake, tMeth, tAug, ipI, tDead, tBM0, tRev, l_let, l_fig, l_e, tDGet, tDNotIn, sDPut, tDNewK]
      refine ⟨a, ns, 2 + (i : Int), rfl, S.seq ha, by omega, ⟨_, (i : Int), rfl, by omega, by omega, ?_⟩⟩
      have c0 := (mixT_b (cellF ns (2 + (i : Int))) (i : Int)).1
      generalize mixT (cellF ns (2 + (i : Int))) (i : Int) = c at c0 ⊢
      subst hB
      refine tSeq_gen fun B hB => ?_
      simp only [tSeq, tIfS, tRet, tRetN, tC, tVar, tOp, tUn, tTest, tB, tAnd, tOr, tNot, tAndV, tOrV, tNotV, tIf, tChain, tCons, tNil, tCall, tCB, tLst, tTup, tSl, tNoPart, tPart, gName, tNext, tDrop, tAsg, tAsgC, tBM, tYes, tDNewK, rI, rI0, rU, rEq, rNe, rAbs, rIntT, CDiv, add_ii, add_ss, mul_ii, ix_si, eq_ii, eq_ss, ne_ii, ne_ss, isnot_xn, List.append_nil, List.cons_append, List.nil_append, List.getElem?_cons_succ, List.getElem?_cons_zero, List.set_cons_succ, List.set_cons_zero, Option.some.injEq, V.int.injEq, V.bl.injEq, V.str.injEq, V.ref.injEq, V.ty.injEq, List.cons.injEq, and_true, true_and, exists_eq_left, exists_eq_left', exists_and_left, exists_eq', exists_const, exists_and_right, exists_eq_right, exists_eq_right', reduceCtorEq, false_and, and_false, exists_false, or_false, false_or, decide_eq_true_eq, Bool.not_eq_true', decide_eq_false_iff_not, Bool.false_eq_true, if_false, if_true, mk_app, mk_len, sg_mk, mk_one, decide_true, decide_false, Bool.not_true, Bool.not_false, ite_true, ite_false, not_true_eq_false, not_false_eq_true, mk_iff, tyV_str, stComp, List.map_cons, List.map_nil, Option.join_some, Option.join_none, gt_iff_lt, ge_iff_le, tRaise, tTryR, tCallH, tDisp, tPairs, tFld, sFld, tMake, tMeth, tAug, ipI, tDead, tBM0, tRev, l_let, l_fig, l_e, tDGet, tDNotIn, sDPut, tDNewK]
      refine ⟨sl1000 (by simp), fun s ns' => ?_⟩
      have T0 : Stay d H1 (upd H1 s (.lst [])) := Stay.of (Same.upd (Same.refl H1) ns')
      have Ky0 := Ky.same (Same.upd (Same.refl H1) ns' (o := .lst []))
      have Ss0 : SsI (upd H1 s (.lst [])) s [] 0 := ⟨upd_same, Nat.le_refl _, (fun _ h => nomatch h)⟩
      have R1 : Rd H1 d (.dK kvs) := .inl Ky.1
      have lh : es.length = i := by
        have := congrArg List.length en
        simpa using this
      subst hB
      refine tSeq_gen fun B hB => ?_
      refine tfor_rng (1 + c % 3) (by omega) (by omega) (fun R z => by simp only [tSeq, tIfS, tRet, tRetN, tC, tVar, tOp, tUn, tTest, tB, tAnd, tOr, tNot, tAndV, tOrV, tNotV, tIf, tChain, tCons, tNil, tCall, tCB, tLst, tTup, tSl, tNoPart, tPart, gName, tNext, tDrop, tAsg, tAsgC, tBM, tYes, tDNewK, rI, rI0, rU, rEq, rNe, rAbs, rIntT, CDiv, add_ii, add_ss, mul_ii, ix_si, eq_ii, eq_ss, ne_ii, ne_ss, isnot_xn, List.append_nil, List.cons_append, List.nil_append, List.getElem?_cons_succ, List.getElem?_cons_zero, List.set_cons_succ, List.set_cons_zero, Option.some.injEq, V.int.injEq, V.bl.injEq, V.str.injEq, V.ref.injEq, V.ty.injEq, List.cons.injEq, and_true, true_and, exists_eq_left, exists_eq_left', exists_and_left, exists_eq', exists_const, exists_and_right, exists_eq_right, exists_eq_right', reduceCtorEq, false_and, and_false, exists_false, or_false, false_or, decide_eq_true_eq, Bool.not_eq_true', decide_eq_false_iff_not, Bool.false_eq_true, if_false, if_true, mk_app, mk_len, sg_mk, mk_one, decide_true, decide_false, Bool.not_true, Bool.not_false, ite_true, ite_false, not_true_eq_false, not_false_eq_true, mk_iff, tyV_str, stComp, List.map_cons, List.map_nil, Option.join_some, Option.join_none, gt_iff_lt, ge_iff_le, tRaise, tTryR, tCallH, tDisp, tPairs, tFld, sFld, tMake, tMeth, tAug, ipI, tDead, tBM0, tRev, l_let, l_fig, l_e, tDGet, tDNotIn, sDPut, tDNewK]; exact ⟨by decide, z⟩) (fun j σ H' => Stay d H1 H' ∧ ∃ (ss : List (Addr × SecH)) (kvs : List (Key × V)) (keys : List Str) (v9 v10 v11 v12 : Option V), SsI H' s ss j ∧ KyI H' d kvs keys (4 * i + j) ∧ keys.Perm ((es.flatMap fun e => shH e.2.ss) ++ shH ss) ∧ (∀ z ∈ keys, InN ls (k < (i : Int)) z) ∧ σ = [some (V.ref a), some (V.ref p), some (V.int m), some (V.int k), some (V.ref h), some (V.ref d), some (V.int (i : Int)), some (V.int c), some (V.ref s), v9, v10, v11, v12]) ⟨T0, [], kvs, keys, v9, v10, v11, v12, Ss0, Ky0, by simpa [shH] using pk, hin, rfl⟩ ?_ ?_
      · clear T0 Ky0 Ss0 pk hin v9 v10 v11 v12
        rintro j σ H2 hj ⟨T, ss, kvs2, keys2, v9, v10, v11, v12, Ss, Ky2, pk, hin, rfl⟩
        have hp2 : H2 p = some (.lst (ls.map fun w => V.str (mkS w))) := T _ _ (rd_neL R1 (S _ _ hp)) (S _ _ hp)
        obtain ⟨w, hw, ew⟩ := nm_at ll (c / 3 + 5 * (j : Int))
        have ok := hok w hw
        refine tSeq_gen fun B hB => ?_
        simp only [tSeq, tIfS, tRet, tRetN, tC, tVar, tOp, tUn, tTest, tB, tAnd, tOr, tNot, tAndV, tOrV, tNotV, tIf, tChain, tCons, tNil, tCall, tCB, tLst, tTup, tSl, tNoPart, tPart, gName, tNext, tDrop, tAsg, tAsgC, tBM, tYes, tDNewK, rI, rI0, rU, rEq, rNe, rAbs, rIntT, CDiv, add_ii, add_ss, mul_ii, ix_si, eq_ii, eq_ss, ne_ii, ne_ss, isnot_xn, List.append_nil, List.cons_append, List.nil_append, List.getElem?_cons_succ, List.getElem?_cons_zero, List.set_cons_succ, List.set_cons_zero, Option.some.injEq, V.int.injEq, V.bl.injEq, V.str.injEq, V.ref.injEq, V.ty.injEq, List.cons.injEq, and_true, true_and, exists_eq_left, exists_eq_left', exists_and_left, exists_eq', exists_const, exists_and_right, exists_eq_right, exists_eq_right', reduceCtorEq, false_and, and_false, exists_false, or_false, false_or, decide_eq_true_eq, Bool.not_eq_true', decide_eq_false_iff_not, Bool.false_eq_true, if_false, if_true, mk_app, mk_len, sg_mk, mk_one, decide_true, decide_false, Bool.not_true, Bool.not_false, ite_true, ite_false, not_true_eq_false, not_false_eq_true, mk_iff, tyV_str, stComp, List.map_cons, List.map_nil, Option.join_some, Option.join_none, gt_iff_lt, ge_iff_le, tRaise, tTryR, tCallH, tDisp, tPairs, tFld, sFld, tMake, tMeth, tAug, ipI, tDead, tBM0, tRev, l_let, l_fig, l_e, tDGet, tDNotIn, sDPut, tDNewK]
        refine ⟨⟨by decide, by decide⟩, .inl ⟨by decide, by decide⟩, by decide, ixL (SqL.of hp2) (v := V.str (mkS w)) (atIn (by omega) (by rw [List.getElem?_map, ew]; rfl)) ?_⟩
        subst hB
        refine tSeq_gen fun B hB => ?_
        simp only [tSeq, tIfS, tRet, tRetN, tC, tVar, tOp, tUn, tTest, tB, tAnd, tOr, tNot, tAndV, tOrV, tNotV, tIf, tChain, tCons, tNil, tCall, tCB, tLst, tTup, tSl, tNoPart, tPart, gName, tNext, tDrop, tAsg, tAsgC, tBM, tYes, tDNewK, rI, rI0, rU, rEq, rNe, rAbs, rIntT, CDiv, add_ii, add_ss, mul_ii, ix_si, eq_ii, eq_ss, ne_ii, ne_ss, isnot_xn, List.append_nil, List.cons_append, List.nil_append, List.getElem?_cons_succ, List.getElem?_cons_zero, List.set_cons_succ, List.set_cons_zero, Option.some.injEq, V.int.injEq, V.bl.injEq, V.str.injEq, V.ref.injEq, V.ty.injEq, List.cons.injEq, and_true, true_and, exists_eq_left, exists_eq_left', exists_and_left, exists_eq', exists_const, exists_and_right, exists_eq_right, exists_eq_right', reduceCtorEq, false_and, and_false, exists_false, or_false, false_or, decide_eq_true_eq, Bool.not_eq_true', decide_eq_false_iff_not, Bool.false_eq_true, if_false, if_true, mk_app, mk_len, sg_mk, mk_one, decide_true, decide_false, Bool.not_true, Bool.not_false, ite_true, ite_false, not_true_eq_false, not_false_eq_true, mk_iff, tyV_str, stComp, List.map_cons, List.map_nil, Option.join_some, Option.join_none, gt_iff_lt, ge_iff_le, tRaise, tTryR, tCallH, tDisp, tPairs, tFld, sFld, tMake, tMeth, tAug, ipI, tDead, tBM0, tRev, l_let, l_fig, l_e, tDGet, tDNotIn, sDPut, tDNewK]
        refine ⟨sl1000 (by simp), fun p1 np1 => ⟨c, 1 + (j : Int), rfl, by omega, by omega, _, rfl, by decide, ?_⟩⟩
        have X := Same.upd (Same.refl H2) np1 (o := .lst [V.str (Str.ofString "code"), V.str (Str.ofString "code"), V.str (Str.ofString "data")])
        have ep1 : upd H2 p1 (.lst [V.str (Str.ofString "code"), V.str (Str.ofString "code"), V.str (Str.ofString "data")]) p1 = some (.lst [V.str (Str.ofString "code"), V.str (Str.ofString "code"), V.str (Str.ofString "data")]) := upd_same
        replace T := T.trans (Stay.of X)
        replace Ss := Ss.same X
        replace Ky2 := Ky2.same X
        clear hp2
        generalize upd H2 p1 (.lst [V.str (Str.ofString "code"), V.str (Str.ofString "code"), V.str (Str.ofString "data")]) = H3 at X ep1 T Ss Ky2 ⊢
        obtain ⟨kd, hkd, lkd⟩ := kd3 (show (mixT c (1 + (j : Int)) % 3).toNat < 3 by omega)
        refine ixL (SqL.of ep1) (v := V.str kd) (atIn (by omega) hkd) ?_
        clear X ep1 hkd np1 H2
        have lw : LayS (mkS w) := lay_ok ok
        have iw : InN ls (k < (i : Int)) (mkS w) := .inl ⟨w, hw, rfl⟩
        subst hB
        refine tSeq_nx fun B hB => ?_
        have KB : ∀ b : Bool, (b = true → mkS w ∉ keys2) → B [some (V.ref a), some (V.ref p), some (V.int m), some (V.int k), some (V.ref h), some (V.ref d), some (V.int (i : Int)), some (V.int c), some (V.ref s), some (V.int (j : Int)), some (V.str (mkS w)), some (V.str kd), some (V.bl b)] H3 := by
          subst hB
          intro b hb
          refine tSeq_nx fun B hB => ?_
          have fin : ∀ (H4 : Hp) (kvs4 : List (Key × V)) (keys4 : List Str), Stay d H1 H4 → SsI H4 s ss j → KyI H4 d kvs4 keys4 (4 * i + (j + 1)) → keys4 = keys2 ++ (if b = true then [mkS w] else []) → B [some (V.ref a), some (V.ref p), some (V.int m), some (V.int k), some (V.ref h), some (V.ref d), some (V.int (i : Int)), some (V.int c), some (V.ref s), some (V.int (j : Int)), some (V.str (mkS w)), some (V.str kd), some (V.bl b)] H4 := by
            clear T Ss Ky2
            intro H4 kvs4 keys4 T Ss Ky4 e4
            subst hB
            simp only [tSeq, tIfS, tRet, tRetN, tC, tVar, tOp, tUn, tTest, tB, tAnd, tOr, tNot, tAndV, tOrV, tNotV, tIf, tChain, tCons, tNil, tCall, tCB, tLst, tTup, tSl, tNoPart, tPart, gName, tNext, tDrop, tAsg, tAsgC, tBM, tYes, tDNewK, rI, rI0, rU, rEq, rNe, rAbs, rIntT, CDiv, add_ii, add_ss, mul_ii, ix_si, eq_ii, eq_ss, ne_ii, ne_ss, isnot_xn, List.append_nil, List.cons_append, List.nil_append, List.getElem?_cons_succ, List.getElem?_cons_zero, List.set_cons_succ, List.set_cons_zero, Option.some.injEq, V.int.injEq, V.bl.injEq, V.str.injEq, V.ref.injEq, V.ty.injEq, List.cons.injEq, and_true, true_and, exists_eq_left, exists_eq_left', exists_and_left, exists_eq', exists_const, exists_and_right, exists_eq_right, exists_eq_right', reduceCtorEq, false_and, and_false, exists_false, or_false, false_or, decide_eq_true_eq, Bool.not_eq_true', decide_eq_false_iff_not, Bool.false_eq_true, if_false, if_true, mk_app, mk_len, sg_mk, mk_one, decide_true, decide_false, Bool.not_true, Bool.not_false, ite_true, ite_false, not_true_eq_false, not_false_eq_true, mk_iff, tyV_str, stComp, List.map_cons, List.map_nil, Option.join_some, Option.join_none, gt_iff_lt, ge_iff_le, tRaise, tTryR, tCallH, tDisp, tPairs, tFld, sFld, tMake, tMeth, tAug, ipI, tDead, tBM0, tRev, l_let, l_fig, l_e, tDGet, tDNotIn, sDPut, tDNewK]
            refine ⟨tyV_lst (SqL.of Ss.1), sl1000 (by simp), fun t nt => ?_⟩
            have X := Same.upd (Same.refl H4) nt (o := .tup [V.str kd, V.str (mkS w), V.bl b])
            have Ss5 := Ss.same X
            have A := SsI.ins (x := ⟨kd, mkS w, b⟩) Ss5 upd_same lkd lw (refsS ss).length
            rw [List.take_length, List.drop_length] at A
            have Ky5 := (Ky4.same X).set (o := .lst (refsS ss ++ [V.ref t])) Ss5.1
            refine appL Ss5.1 (by have := Ss.2.1; simp only [refsS, List.length_map, sizeLine_eq]; omega) ⟨Stay.set (T.trans (Stay.of X)) ns', _, A, kvs4, keys4, Ky5, ?_, ?_⟩
            · rw [show (refsS ss).length = ss.length by simp [refsS], List.take_length, List.drop_length, shH_snoc, e4]
              cases b
              · simpa using pk
              · rw [if_pos rfl, if_pos rfl, ← List.append_assoc]
                exact pk.append_right _
            · intro z hz
              rw [e4] at hz
              rcases List.mem_append.mp hz with h | h
              · exact hin z h
              · cases b
                · cases h
                · rw [List.mem_singleton.mp h]; exact iw
          simp only [tSeq, tIfS, tRet, tRetN, tC, tVar, tOp, tUn, tTest, tB, tAnd, tOr, tNot, tAndV, tOrV, tNotV, tIf, tChain, tCons, tNil, tCall, tCB, tLst, tTup, tSl, tNoPart, tPart, gName, tNext, tDrop, tAsg, tAsgC, tBM, tYes, tDNewK, rI, rI0, rU, rEq, rNe, rAbs, rIntT, CDiv, add_ii, add_ss, mul_ii, ix_si, eq_ii, eq_ss, ne_ii, ne_ss, isnot_xn, List.append_nil, List.cons_append, List.nil_append, List.getElem?_cons_succ, List.getElem?_cons_zero, List.set_cons_succ, List.set_cons_zero, Option.some.injEq, V.int.injEq, V.bl.injEq, V.str.injEq, V.ref.injEq, V.ty.injEq, List.cons.injEq, and_true, true_and, exists_eq_left, exists_eq_left', exists_and_left, exists_eq', exists_const, exists_and_right, exists_eq_right, exists_eq_right', reduceCtorEq, false_and, and_false, exists_false, or_false, false_or, decide_eq_true_eq, Bool.not_eq_true', decide_eq_false_iff_not, Bool.false_eq_true, if_false, if_true, mk_app, mk_len, sg_mk, mk_one, decide_true, decide_false, Bool.not_true, Bool.not_false, ite_true, ite_false, not_true_eq_false, not_false_eq_true, mk_iff, tyV_str, stComp, List.map_cons, List.map_nil, Option.join_some, Option.join_none, gt_iff_lt, ge_iff_le, tRaise, tTryR, tCallH, tDisp, tPairs, tFld, sFld, tMake, tMeth, tAug, ipI, tDead, tBM0, tRev, l_let, l_fig, l_e, tDGet, tDNotIn, sDPut, tDNewK]
          cases b with
          | false => exact ifN rfl (fin H3 kvs2 keys2 T Ss (Ky2.more (by omega)) (by simp))
          | true =>
            refine ifY rfl ⟨sl1000 (by simp), fun t nt => ?_⟩
            have X := Same.upd (Same.refl H3) nt (o := .tup [V.int (i : Int), V.str kd])
            have Ky4 := Ky2.same X
            refine ⟨_, DPut.k (k := Sum.inr (mkS w)) Ky4.1 (by have := Ky2.2.2.2.2; rw [sizeLine_eq]; omega), ?_⟩
            exact fin _ _ _ (fun b o hb e => keepU (X _ _ (T b o hb e)) hb) ((Ss.same X).setD Ky4.1) (Ky4.put (hb rfl) upd_same) (by simp)
        simp only [tSeq, tIfS, tRet, tRetN, tC, tVar, tOp, tUn, tTest, tB, tAnd, tOr, tNot, tAndV, tOrV, tNotV, tIf, tChain, tCons, tNil, tCall, tCB, tLst, tTup, tSl, tNoPart, tPart, gName, tNext, tDrop, tAsg, tAsgC, tBM, tYes, tDNewK, rI, rI0, rU, rEq, rNe, rAbs, rIntT, CDiv, add_ii, add_ss, mul_ii, ix_si, eq_ii, eq_ss, ne_ii, ne_ss, isnot_xn, List.append_nil, List.cons_append, List.nil_append, List.getElem?_cons_succ, List.getElem?_cons_zero, List.set_cons_succ, List.set_cons_zero, Option.some.injEq, V.int.injEq, V.bl.injEq, V.str.injEq, V.ref.injEq, V.ty.injEq, List.cons.injEq, and_true, true_and, exists_eq_left, exists_eq_left', exists_and_left, exists_eq', exists_const, exists_and_right, exists_eq_right, exists_eq_right', reduceCtorEq, false_and, and_false, exists_false, or_false, false_or, decide_eq_true_eq, Bool.not_eq_true', decide_eq_false_iff_not, Bool.false_eq_true, if_false, if_true, mk_app, mk_len, sg_mk, mk_one, decide_true, decide_false, Bool.not_true, Bool.not_false, ite_true, ite_false, not_true_eq_false, not_false_eq_true, mk_iff, tyV_str, stComp, List.map_cons, List.map_nil, Option.join_some, Option.join_none, gt_iff_lt, ge_iff_le, tRaise, tTryR, tCallH, tDisp, tPairs, tFld, sFld, tMake, tMeth, tAug, ipI, tDead, tBM0, tRev, l_let, l_fig, l_e, tDGet, tDNotIn, sDPut, tDNewK]
        have dg := DGet.k (k := Sum.inr (mkS w)) Ky2.1
        refine ⟨_, dg, ite2 (fun hn => ⟨c, 4 + (j : Int), rfl, by omega, by omega, _, rfl, by decide, KB _ fun _ => ?_⟩) fun _ => KB _ (fun h => nomatch h)⟩
        refine Ky2.val.mpr ?_
        cases e : valV kvs2 (Sum.inr (mkS w)) with
        | none => rfl
        | some v => rw [e] at hn; cases hn
      · rintro σ H2 ⟨T, ss, kvs2, keys2, v9, v10, v11, v12, Ss, Ky2, pk, hin, rfl⟩
        subst hB
        dsimp only
        refine tSeq_nx fun B hB => ?_
        have fin : ∀ (H3 : Hp) (ss : List (Addr × SecH)) (kvs3 : List (Key × V)) (keys3 : List Str), Stay d H1 H3 → SsI H3 s ss 4 → KyI H3 d kvs3 keys3 (4 * i + 4) → keys3.Perm ((es.flatMap fun e => shH e.2.ss) ++ shH ss) → (∀ z ∈ keys3, InN ls (k < (i : Int) + 1) z) → B [some (V.ref a), some (V.ref p), some (V.int m), some (V.int k), some (V.ref h), some (V.ref d), some (V.int (i : Int)), some (V.int c), some (V.ref s), v9, v10, v11, v12] H3 := by
          clear Ss Ky2 pk hin T
          intro H3 ss kvs3 keys3 T Ss Ky3 pk hin
          subst hB
          simp only [tSeq, tIfS, tRet, tRetN, tC, tVar, tOp, tUn, tTest, tB, tAnd, tOr, tNot, tAndV, tOrV, tNotV, tIf, tChain, tCons, tNil, tCall, tCB, tLst, tTup, tSl, tNoPart, tPart, gName, tNext, tDrop, tAsg, tAsgC, tBM, tYes, tDNewK, rI, rI0, rU, rEq, rNe, rAbs, rIntT, CDiv, add_ii, add_ss, mul_ii, ix_si, eq_ii, eq_ss, ne_ii, ne_ss, isnot_xn, List.append_nil, List.cons_append, List.nil_append, List.getElem?_cons_succ, List.getElem?_cons_zero, List.set_cons_succ, List.set_cons_zero, Option.some.injEq, V.int.injEq, V.bl.injEq, V.str.injEq, V.ref.injEq, V.ty.injEq, List.cons.injEq, and_true, true_and, exists_eq_left, exists_eq_left', exists_and_left, exists_eq', exists_const, exists_and_right, exists_eq_right, exists_eq_right', reduceCtorEq, false_and, and_false, exists_false, or_false, false_or, decide_eq_true_eq, Bool.not_eq_true', decide_eq_false_iff_not, Bool.false_eq_true, if_false, if_true, mk_app, mk_len, sg_mk, mk_one, decide_true, decide_false, Bool.not_true, Bool.not_false, ite_true, ite_false, not_true_eq_false, not_false_eq_true, mk_iff, tyV_str, stComp, List.map_cons, List.map_nil, Option.join_some, Option.join_none, gt_iff_lt, ge_iff_le, tRaise, tTryR, tCallH, tDisp, tPairs, tFld, sFld, tMake, tMeth, tAug, ipI, tDead, tBM0, tRev, l_let, l_fig, l_e, tDGet, tDNotIn, sDPut, tDNewK]
          have S3 : Same H H3 := fun b o e => T b o (ne_of_none e n0_d) (S b o e)
          have eh3 := T _ _ (rd_neL R1 eh) eh
          obtain ⟨w, hw, ew⟩ := nm_at ll (mixT (cellF ns 1) 1 + 3 * (i : Int))
          refine ⟨tyV_lst (SqL.of eh3), a, ns, 1, rfl, S3.seq ha, by decide, ⟨_, 1, rfl, by decide, by decide, ?_⟩⟩
          simp only [tSeq, tIfS, tRet, tRetN, tC, tVar, tOp, tUn, tTest, tB, tAnd, tOr, tNot, tAndV, tOrV, tNotV, tIf, tChain, tCons, tNil, tCall, tCB, tLst, tTup, tSl, tNoPart, tPart, gName, tNext, tDrop, tAsg, tAsgC, tBM, tYes, tDNewK, rI, rI0, rU, rEq, rNe, rAbs, rIntT, CDiv, add_ii, add_ss, mul_ii, ix_si, eq_ii, eq_ss, ne_ii, ne_ss, isnot_xn, List.append_nil, List.cons_append, List.nil_append, List.getElem?_cons_succ, List.getElem?_cons_zero, List.set_cons_succ, List.set_cons_zero, Option.some.injEq, V.int.injEq, V.bl.injEq, V.str.injEq, V.ref.injEq, V.ty.injEq, List.cons.injEq, and_true, true_and, exists_eq_left, exists_eq_left', exists_and_left, exists_eq', exists_const, exists_and_right, exists_eq_right, exists_eq_right', reduceCtorEq, false_and, and_false, exists_false, or_false, false_or, decide_eq_true_eq, Bool.not_eq_true', decide_eq_false_iff_not, Bool.false_eq_true, if_false, if_true, mk_app, mk_len, sg_mk, mk_one, decide_true, decide_false, Bool.not_true, Bool.not_false, ite_true, ite_false, not_true_eq_false, not_false_eq_true, mk_iff, tyV_str, stComp, List.map_cons, List.map_nil, Option.join_some, Option.join_none, gt_iff_lt, ge_iff_le, tRaise, tTryR, tCallH, tDisp, tPairs, tFld, sFld, tMake, tMeth, tAug, ipI, tDead, tBM0, tRev, l_let, l_fig, l_e, tDGet, tDNotIn, sDPut, tDNewK]
          refine ⟨.inl ⟨by decide, by decide⟩, by decide, ixL (SqL.of (S3 _ _ hp)) (v := V.str (mkS w)) (atIn (by omega) (by rw [List.getElem?_map, ew]; rfl)) ⟨sl1000 (by simp), fun t nt => ?_⟩⟩
          have X := Same.upd (Same.refl H3) nt (o := .tup [V.str (mkS w), V.ref s])
          have ds : s ≠ h := (ne_of_none eh ns').symm
          have net : ∀ {q : Addr} {ys : List V}, H3 q = some (.tup ys) → q ≠ h := fun {q ys} e z => by rw [z, eh3] at e; cases e
          refine appL (X _ _ eh3) (by simp only [refsS, List.length_map, sizeLine_eq]; omega) ⟨(S3.trans X).set n0_h, es ++ [(t, ⟨mkS w, ss⟩)], by rw [upd_same, refsS_snoc], fun e he => ?_, kvs3, keys3, ((Ky3.same X).set (X _ _ eh3)).more (by omega), ?_, fun z hz => (hin z hz).imp id (fun ⟨a, b⟩ => ⟨a, by omega⟩), ?_⟩
          · rcases List.mem_append.mp he with he | he
            · exact ⟨(((hes e he).1.stay R1 T).same X).set (X _ _ eh3), (hes e he).2⟩
            · rw [List.mem_singleton.mp he]
              exact ⟨⟨s, keepU upd_same (ne_of_none eh3 nt).symm, keepU (X _ _ Ss.1) ds, fun x hx => keepU (X _ _ (Ss.2.2 x hx).1) (net (Ss.2.2 x hx).1), ds⟩, lay_ok (hok w hw), Ss.2.1, fun x hx => (Ss.2.2 x hx).2⟩
          · rw [List.flatMap_append]
            simpa using pk
          · rw [List.map_append, en, List.range_succ, List.map_append]
            simp [nmF, List.getD, ew]
        simp only [tSeq, tIfS, tRet, tRetN, tC, tVar, tOp, tUn, tTest, tB, tAnd, tOr, tNot, tAndV, tOrV, tNotV, tIf, tChain, tCons, tNil, tCall, tCB, tLst, tTup, tSl, tNoPart, tPart, gName, tNext, tDrop, tAsg, tAsgC, tBM, tYes, tDNewK, rI, rI0, rU, rEq, rNe, rAbs, rIntT, CDiv, add_ii, add_ss, mul_ii, ix_si, eq_ii, eq_ss, ne_ii, ne_ss, isnot_xn, List.append_nil, List.cons_append, List.nil_append, List.getElem?_cons_succ, List.getElem?_cons_zero, List.set_cons_succ, List.set_cons_zero, Option.some.injEq, V.int.injEq, V.bl.injEq, V.str.injEq, V.ref.injEq, V.ty.injEq, List.cons.injEq, and_true, true_and, exists_eq_left, exists_eq_left', exists_and_left, exists_eq', exists_const, exists_and_right, exists_eq_right, exists_eq_right', reduceCtorEq, false_and, and_false, exists_false, or_false, false_or, decide_eq_true_eq, Bool.not_eq_true', decide_eq_false_iff_not, Bool.false_eq_true, if_false, if_true, mk_app, mk_len, sg_mk, mk_one, decide_true, decide_false, Bool.not_true, Bool.not_false, ite_true, ite_false, not_true_eq_false, not_false_eq_true, mk_iff, tyV_str, stComp, List.map_cons, List.map_nil, Option.join_some, Option.join_none, gt_iff_lt, ge_iff_le, tRaise, tTryR, tCallH, tDisp, tPairs, tFld, sFld, tMake, tMeth, tAug, ipI, tDead, tBM0, tRev, l_let, l_fig, l_e, tDGet, tDNotIn, sDPut, tDNewK]
        have hj := Ss.2.1
        refine ite2 (fun hk => ?_) fun hk => fin H2 ss kvs2 keys2 T ⟨Ss.1, by omega, Ss.2.2⟩ (Ky2.more (by omega)) pk (fun z hz => (hin z hz).imp id (fun ⟨a, b⟩ => ⟨a, by omega⟩))
        refine ⟨tyV_lst (SqL.of Ss.1), c, 7, rfl, by decide, by decide, lenL (SqL.of Ss.1) ?_⟩
        rw [show (refsS ss).length = ss.length by simp [refsS]]
        simp only [tSeq, tIfS, tRet, tRetN, tC, tVar, tOp, tUn, tTest, tB, tAnd, tOr, tNot, tAndV, tOrV, tNotV, tIf, tChain, tCons, tNil, tCall, tCB, tLst, tTup, tSl, tNoPart, tPart, gName, tNext, tDrop, tAsg, tAsgC, tBM, tYes, tDNewK, rI, rI0, rU, rEq, rNe, rAbs, rIntT, CDiv, add_ii, add_ss, mul_ii, ix_si, eq_ii, eq_ss, ne_ii, ne_ss, isnot_xn, List.append_nil, List.cons_append, List.nil_append, List.getElem?_cons_succ, List.getElem?_cons_zero, List.set_cons_succ, List.set_cons_zero, Option.some.injEq, V.int.injEq, V.bl.injEq, V.str.injEq, V.ref.injEq, V.ty.injEq, List.cons.injEq, and_true, true_and, exists_eq_left, exists_eq_left', exists_and_left, exists_eq', exists_const, exists_and_right, exists_eq_right, exists_eq_right', reduceCtorEq, false_and, and_false, exists_false, or_false, false_or, decide_eq_true_eq, Bool.not_eq_true', decide_eq_false_iff_not, Bool.false_eq_true, if_false, if_true, mk_app, mk_len, sg_mk, mk_one, decide_true, decide_false, Bool.not_true, Bool.not_false, ite_true, ite_false, not_true_eq_false, not_false_eq_true, mk_iff, tyV_str, stComp, List.map_cons, List.map_nil, Option.join_some, Option.join_none, gt_iff_lt, ge_iff_le, tRaise, tTryR, tCallH, tDisp, tPairs, tFld, sFld, tMake, tMeth, tAug, ipI, tDead, tBM0, tRev, l_let, l_fig, l_e, tDGet, tDNotIn, sDPut, tDNewK]
        refine ⟨by omega, sl1000 (by simp), fun t nt => ?_⟩
        have hm0 : 0 ≤ mixT c 7 % ((ss.length : Int) + 1) := Int.emod_nonneg _ (by omega)
        have hm1 : mixT c 7 % ((ss.length : Int) + 1) < (ss.length : Int) + 1 := Int.emod_lt_of_pos _ (by omega)
        have X := Same.upd (Same.refl H2) nt (o := .tup [V.str (Str.ofString "code"), V.str (Str.ofString "main"), V.bl true])
        have Ss3 := Ss.same X
        have lc : LayS (Str.ofString "code") := by unfold LayS; decide +kernel
        have lm : LayS (Str.ofString "main") := by unfold LayS; decide +kernel
        have rl : (refsS ss).length = ss.length := by simp [refsS]
        have A := SsI.ins (x := ⟨Str.ofString "code", Str.ofString "main", true⟩) Ss3 upd_same lc lm (mixT c 7 % ((ss.length : Int) + 1)).toNat
        have Ky3 := (Ky2.same X).set (o := .lst ((refsS ss).take (mixT c 7 % ((ss.length : Int) + 1)).toNat ++ V.ref t :: (refsS ss).drop (mixT c 7 % ((ss.length : Int) + 1)).toNat)) Ss3.1
        have T3 : Stay d H1 (upd (upd H2 t (.tup [V.str (Str.ofString "code"), V.str (Str.ofString "main"), V.bl true])) s (.lst ((refsS ss).take (mixT c 7 % ((ss.length : Int) + 1)).toNat ++ V.ref t :: (refsS ss).drop (mixT c 7 % ((ss.length : Int) + 1)).toNat))) := Stay.set (T.trans (Stay.of X)) ns'
        refine ⟨s, _, _, refsS ss, rfl, rfl, Ss3.1, hm0, by omega, by omega, sl1000 (by simp), fun t2 nt2 => ?_⟩
        generalize upd (upd H2 t (.tup [V.str (Str.ofString "code"), V.str (Str.ofString "main"), V.bl true])) s (.lst ((refsS ss).take (mixT c 7 % ((ss.length : Int) + 1)).toNat ++ V.ref t :: (refsS ss).drop (mixT c 7 % ((ss.length : Int) + 1)).toNat)) = H4 at A Ky3 T3 nt2 ⊢
        generalize (mixT c 7 % ((ss.length : Int) + 1)).toNat = n at A
        have X2 := Same.upd (Same.refl H4) nt2 (o := .tup [V.int (i : Int), V.str (Str.ofString "code")])
        have Ky4 := Ky3.same X2
        have lk := Ky2.2.2.2.2
        have hmk : Str.ofString "main" ∉ keys2 := fun hz => by
          rcases hin _ hz with ⟨w, hw, e⟩ | ⟨_, e⟩
          · rw [l_main, mk_iff] at e
            exact hmain (e ▸ hw)
          · omega
        refine ⟨_, DPut.k (k := Sum.inr (Str.ofString "main")) Ky4.1 (by rw [sizeLine_eq]; omega), ?_⟩
        have A2 := (A.same X2).setD (o := .dK (putK kvs2 (Sum.inr (Str.ofString "main")) (.ref t2))) Ky4.1
        refine fin _ _ _ (keys2 ++ [Str.ofString "main"]) (fun b o hb e => keepU (X2 _ _ (T3 b o hb e)) hb) ⟨A2.1, by have := A2.2.1; omega, A2.2.2⟩ ((Ky4.put hmk upd_same).more (by omega)) ?_ ?_
        · refine (pk.append_right _).trans ?_
          rw [List.append_assoc]
          refine List.Perm.append_left _ ?_
          have h1 := shH_perm (List.perm_middle (a := (t, (⟨Str.ofString "code", Str.ofString "main", true⟩ : SecH))) (l₁ := ss.take n) (l₂ := ss.drop n))
          rw [List.take_append_drop] at h1
          exact (List.perm_append_singleton _ _).trans h1.symm
        · intro z hz
          rcases List.mem_append.mp hz with h | h
          · exact (hin z h).imp id (fun ⟨a, b⟩ => ⟨a, by omega⟩)
          · rw [List.mem_singleton.mp h, l_main]
            exact .inr ⟨rfl, by omega⟩
    · rintro σ H2 ⟨S, es, kvs, keys, v6, v7, v8, v9, v10, v11, v12, eh, hes, Ky, pk, hin, en, rfl⟩
      subst hB
      simp only [tSeq, tIfS, tRet, tRetN, tC, tVar, tOp, tUn, tTest, tB, tAnd, tOr, tNot, tAndV, tOrV, tNotV, tIf, tChain, tCons, tNil, tCall, tCB, tLst, tTup, tSl, tNoPart, tPart, gName, tNext, tDrop, tAsg, tAsgC, tBM, tYes, tDNewK, rI, rI0, rU, rEq, rNe, rAbs, rIntT, CDiv, add_ii, add_ss, mul_ii, ix_si, eq_ii, eq_ss, ne_ii, ne_ss, isnot_xn, List.append_nil, List.cons_append, List.nil_append, List.getElem?_cons_succ, List.getElem?_cons_zero, List.set_cons_succ, List.set_cons_zero, Option.some.injEq, V.int.injEq, V.bl.injEq, V.str.injEq, V.ref.injEq, V.ty.injEq, List.cons.injEq, and_true, true_and, exists_eq_left, exists_eq_left', exists_and_left, exists_eq', exists_const, exists_and_right, exists_eq_right, exists_eq_right', reduceCtorEq, false_and, and_false, exists_false, or_false, false_or, decide_eq_true_eq, Bool.not_eq_true', decide_eq_false_iff_not, Bool.false_eq_true, if_false, if_true, mk_app, mk_len, sg_mk, mk_one, decide_true, decide_false, Bool.not_true, Bool.not_false, ite_true, ite_false, not_true_eq_false, not_false_eq_true, mk_iff, tyV_str, stComp, List.map_cons, List.map_nil, Option.join_some, Option.join_none, gt_iff_lt, ge_iff_le, tRaise, tTryR, tCallH, tDisp, tPairs, tFld, sFld, tMake, tMeth, tAug, ipI, tDead, tBM0, tRev, l_let, l_fig, l_e, tDGet, tDNotIn, sDPut, tDNewK]
      refine ⟨sl1000 (by simp), fun t nt => ?_⟩
      have X := Same.upd (Same.refl H2) nt (o := .tup [V.ref h, V.ref d])
      have Ky2 := Ky.same X
      refine q t h d es kvs _ n0_d (S.trans X) upd_same (X _ _ eh) ?_ (fun e he => ⟨?_, (hes e he).2⟩) Ky2.1 Ky2.2.1 (by have := Ky2.2.2.2.2; omega) ?_ ((pk.nodup_iff).mp Ky.2.2.2.1)
      · have := congrArg List.length en
        simpa using this
      · obtain ⟨r, b1, b2, b3, _⟩ := (hes e he).1.same X
        exact ⟨r, b1, b2, b3⟩
      · rw [en]
        exact nmF_nodup ll nd' _ (by omega)
noncomputable def sp__law_goal : Sp := fun vs H Q E => ∃ (c : Int) (a : Addr) (gs : List (Addr × (Str × Str))) (kd : Str), vs = [.int c, .ref a, .str kd] ∧ H a = some (.lst (refsS gs)) ∧ (∀ e ∈ gs, GoAt H e) ∧ gs.length ≤ 10 ∧ ∀ v H', Same H H' → (v = .non ∨ ∃ z, v = .str z) → Q v H'
theorem sc__law_goal : FnScope ["_law_cell", "_law_goals", "_law_kind", "_law_some"] ["_law_cell", "_law_goals", "_law_kind"] (defScope s__law_goal) := ⟨rfl, rfl, rfl, by decide +kernel, rfl, by decide +kernel, by decide +kernel⟩
theorem ok__law_goal (T : Txt K mg) : FnOk P w K mg base CX0 1 T.d__law_goal.f T.d__law_goal.fd ["_law_cell", "_law_goals", "_law_kind"] (sp__law_goal) := by
  have nd := sc__law_goal.nd
  refine T.d__law_goal.F.ok sc__law_goal (fun vs H Q E h => ?_) (fun cdv A outer s H vs Q E hr h => ?_)
  · obtain ⟨c, a, gs, kd, rfl, ha, hg, hl, q⟩ := h
    rfl
  · obtain ⟨c, a, gs, kd, rfl, ha, hg, hl, q⟩ := h
    have hu := hr.units0
    refine ⟨_, (pss_cons (ps_set_lcomp (i := 3) nd rfl rfl (N' := ["_law_name", "_law_own", "_law_kind"]) (src := [none, none, some 2]) rfl (CompScope.of (by kernel_rfl)) (pi_listK (K := K) (pv 1)) (fun _ _ _ _ _ _ => (pg_tupK (K := K) (n := 2) rfl (pgs_cons (pg_name (i := 0) (show (["_law_name", "_law_own", "_law_kind"] : List Str).Nodup by decide +kernel) rfl (Or.inl rfl)) (pgs_cons (pg_name (i := 1) (show (["_law_name", "_law_own", "_law_kind"] : List Str).Nodup by decide +kernel) rfl (Or.inl rfl)) pgs_nil)))) (fun _ _ _ _ _ _ => (pif_one (pt_cmpR (o_eq (K := K) hu) (pv 1) (pv 2) (nomark _)))) (fun _ _ _ _ _ _ => (pv 0)))
      (pss_cons (ps_if (pt_cmpR (o_eq (K := K) hu) (pv 3) (pe_lst pa_nil) (nomark _)) (pss_one (ps_ret pe_non)) pss_nil)
      (pss_one (ps_ret (pe_ix (o_ix (K := K)) (pv 3) (pe_op op_mod (pv 0) (pcB (o_len (K := K)) rfl T.n_len (by kernel_rfl) (pa1 (pv 3) pa_nil))) (fun _ _ => rfl)))))), ?_⟩
    rw [show start ["_law_cell", "_law_goals", "_law_kind", "_law_some"] [V.int c, V.ref a, V.str kd] = [some (V.int c), some (V.ref a), some (V.str kd), none] from rfl]
    simp only [tSeq, tIfS, tRet, tRetN, tC, tVar, tOp, tUn, tTest, tB, tAnd, tOr, tNot, tAndV, tOrV, tNotV, tIf, tChain, tCons, tNil, tCall, tCB, tLst, tTup, tSl, tNoPart, tPart, gName, tNext, tDrop, tAsg, tAsgC, tBM, tYes, tDNewK, rI, rI0, rU, rEq, rNe, rAbs, rIntT, CDiv, add_ii, add_ss, mul_ii, ix_si, eq_ii, eq_ss, ne_ii, ne_ss, isnot_xn, List.append_nil, List.cons_append, List.nil_append, List.getElem?_cons_succ, List.getElem?_cons_zero, List.set_cons_succ, List.set_cons_zero, Option.some.injEq, V.int.injEq, V.bl.injEq, V.str.injEq, V.ref.injEq, V.ty.injEq, List.cons.injEq, and_true, true_and, exists_eq_left, exists_eq_left', exists_and_left, exists_eq', exists_const, exists_and_right, exists_eq_right, exists_eq_right', reduceCtorEq, false_and, and_false, exists_false, or_false, false_or, decide_eq_true_eq, Bool.not_eq_true', decide_eq_false_iff_not, Bool.false_eq_true, if_false, if_true, mk_app, mk_len, sg_mk, mk_one, decide_true, decide_false, Bool.not_true, Bool.not_false, ite_true, ite_false, not_true_eq_false, not_false_eq_true, mk_iff, tyV_str, stComp, List.map_cons, List.map_nil, Option.join_some, Option.join_none, gt_iff_lt, ge_iff_le, tRaise, tTryR, tCallH, tDisp, tPairs, tFld, sFld, tMake, tMeth, tAug, ipI, tDead, tBM0, tRev, l_let, l_fig, l_e, tDGet, tDNotIn, sDPut, tDNewK]
    refine tcomp_listG (a := a) (xs := refsS gs) H (fun R r => ⟨_, rfl, r⟩) (SqL.of ha) (goF kd gs) (· = H) rfl (fun H' e => by rw [e]; exact SqL.of ha) (sl1000 (by simp [refsS]; omega)) (fun i x H' Cy Cn hx e cy cn => ?_) (fun H' l e hn => ?_)
    · subst H'
      obtain ⟨e, he, rfl⟩ := refsS_get hx
      have eg := hg e (List.mem_of_getElem? he)
      refine tupT eg ⟨KeepSt.twoOne, ?_⟩
      simp only [tSeq, tIfS, tRet, tRetN, tC, tVar, tOp, tUn, tTest, tB, tAnd, tOr, tNot, tAndV, tOrV, tNotV, tIf, tChain, tCons, tNil, tCall, tCB, tLst, tTup, tSl, tNoPart, tPart, gName, tNext, tDrop, tAsg, tAsgC, tBM, tYes, tDNewK, rI, rI0, rU, rEq, rNe, rAbs, rIntT, CDiv, add_ii, add_ss, mul_ii, ix_si, eq_ii, eq_ss, ne_ii, ne_ss, isnot_xn, List.append_nil, List.cons_append, List.nil_append, List.getElem?_cons_succ, List.getElem?_cons_zero, List.set_cons_succ, List.set_cons_zero, Option.some.injEq, V.int.injEq, V.bl.injEq, V.str.injEq, V.ref.injEq, V.ty.injEq, List.cons.injEq, and_true, true_and, exists_eq_left, exists_eq_left', exists_and_left, exists_eq', exists_const, exists_and_right, exists_eq_right, exists_eq_right', reduceCtorEq, false_and, and_false, exists_false, or_false, false_or, decide_eq_true_eq, Bool.not_eq_true', decide_eq_false_iff_not, Bool.false_eq_true, if_false, if_true, mk_app, mk_len, sg_mk, mk_one, decide_true, decide_false, Bool.not_true, Bool.not_false, ite_true, ite_false, not_true_eq_false, not_false_eq_true, mk_iff, tyV_str, stComp, List.map_cons, List.map_nil, Option.join_some, Option.join_none, gt_iff_lt, ge_iff_le, tRaise, tTryR, tCallH, tDisp, tPairs, tFld, sFld, tMake, tMeth, tAug, ipI, tDead, tBM0, tRev, l_let, l_fig, l_e, tDGet, tDNotIn, sDPut, tDNewK]
      refine ite2 (fun h => cy _ _ (by rw [goF, he]; simp [h]) rfl) fun h => cn _ (by rw [goF, he]; simp [h]) rfl
    · subst H'
      obtain ⟨ys, ey⟩ := goF_strs kd gs (refsS gs).length
      rw [ey]
      refine ⟨sl1000 (by simp), fun p np => ?_⟩
      have S := Same.upd (Same.upd (Same.refl H) hn (o := .lst (ys.map V.str))) np (o := .lst [])
      have el := Same.upd (Same.refl (upd H l (.lst (ys.map V.str)))) np (o := .lst []) _ _ upd_same
      refine eqLL (SqL.of el) (SqL.of upd_same) (flat_strs ys) rfl ⟨_, rfl, ?_⟩
      cases ys with
      | nil => exact ifY rfl (q _ _ S (.inl rfl))
      | cons y ys =>
        refine ifN rfl (lenL (SqL.of el) ⟨_, rfl, by simp, ?_⟩)
        have hb : (c % (((y :: ys).map V.str).length : Int)).toNat < (y :: ys).length := by
          have h0 := Int.emod_nonneg c (show ((((y :: ys).map V.str).length : Int)) ≠ 0 by simp; omega)
          have h1 := Int.emod_lt_of_pos c (show 0 < ((((y :: ys).map V.str).length : Int)) by simp)
          rw [List.length_map] at h0 h1 ⊢
          omega
        exact ixL (SqL.of el) (atIn (Int.emod_nonneg c (by simp; omega)) (by rw [List.getElem?_map, List.getElem?_eq_getElem hb]; rfl)) (q _ _ S (.inr ⟨_, rfl⟩))
noncomputable def sp__law_op : Sp := fun vs H Q E => ∃ (c n : Int) (a : Addr) (gs : List (Addr × (Str × Str))), vs = [.int c, .int n, .ref a] ∧ 0 ≤ c ∧ H a = some (.lst (refsS gs)) ∧ (∀ e ∈ gs, GoAt H e) ∧ gs.length ≤ 10 ∧ ∀ t r (ns : List Int) w v H', H t = none → H r = none → Same H H' → H' t = some (.tup [.ref r, .str w, v]) → H' r = some (.lst (ns.map V.int)) → ns.length ≤ 3 → (v = .non ∨ ∃ z, v = .str z) → Q (.ref t) H'
theorem sc__law_op : FnScope ["_law_cell", "_law_at", "_law_goals", "_law_way", "_law_more", "_law_name"] ["_law_cell", "_law_at", "_law_goals"] (defScope s__law_op) := ⟨rfl, rfl, rfl, by decide +kernel, rfl, by decide +kernel, by decide +kernel⟩
theorem ok__law_op (T : Txt K mg) : FnOk P w K mg base CX0 2 T.d__law_op.f T.d__law_op.fd ["_law_cell", "_law_at", "_law_goals"] (sp__law_op) := by
  have nd := sc__law_op.nd
  refine T.d__law_op.F.ok sc__law_op (fun vs H Q E h => ?_) (fun cdv A outer s H vs Q E hr h => ?_)
  · obtain ⟨c, n, a, gs, rfl, c0, ha, hg, hl, q⟩ := h
    rfl
  · obtain ⟨c, n, a, gs, rfl, c0, ha, hg, hl, q⟩ := h
    have hu := hr.units0
    refine ⟨_, (pss_cons (ps_set (i := 3) nd rfl (Or.inl rfl) (pe_op op_mod (pv 0) pe_int))
      (pss_cons (ps_set (i := 4) nd rfl (Or.inl rfl) (pe_op op_fdiv (pv 0) pe_int))
      (pss_cons (ps_set (i := 5) nd rfl (Or.inl rfl) (pc1 T.d__law_goal (ok__law_goal T) (hr.mono (by decide)) (pa1 (pe_op op_fdiv (pv 4) pe_int) (pa1 (pv 2) (pa1 (pe_ix (o_ix (K := K)) (pe_lst (pa1 pe_str (pa1 pe_str pa_nil))) (pcT call_int rfl T.n_int (by kernel_rfl) (pa1 (pe_or (pe_cmpR (o_eq (K := K) hu) (pv 3) pe_int (nomark _)) (pe_one (pe_cmpR (o_eq (K := K) hu) (pv 3) pe_int (nomark _)))) pa_nil)) (fun _ _ => rfl)) pa_nil)))))
      (pss_cons (ps_if (PW.pt (pw_and (pt_cmpR (o_in (K := K)) (pv 3) (pe_tup (pa1 pe_int (pa1 pe_int pa_nil))) (by with_unfolding_all rfl)) (pw_and1 (pt_cmpR o_isnot (pv 5) pe_non (nomark _))))) (pss_one (ps_ret (pe_ix (o_ix (K := K)) (pe_lst (pa1 (pe_tup (pa1 (pe_lst (pa1 pe_int (pa1 pe_int (pa1 pe_int pa_nil)))) (pa1 pe_str (pa1 (pv 5) pa_nil)))) (pa1 (pe_tup (pa1 (pe_lst (pa1 pe_int (pa1 pe_int pa_nil))) (pa1 pe_str (pa1 (pv 5) pa_nil)))) pa_nil))) (pcT call_int rfl T.n_int (by kernel_rfl) (pa1 (pe_cmpR (o_eq (K := K) hu) (pv 3) pe_int (nomark _)) pa_nil)) (fun _ _ => rfl)))) pss_nil)
      (pss_cons (ps_if (PW.pt (pw_and (pt_cmpR (o_in (K := K)) (pv 3) (pe_tup (pa1 pe_int (pa1 pe_int pa_nil))) (by with_unfolding_all rfl)) (pw_and1 (pt_cmpR o_isnot (pv 5) pe_non (nomark _))))) (pss_one (ps_ret (pe_tup (pa1 (pe_lst (pa1 (pe_op o_add pe_int (pe_op op_mod (pv 4) pe_int)) (pa1 pe_int (pa1 pe_int pa_nil)))) (pa1 pe_str (pa1 (pv 5) pa_nil)))))) pss_nil)
      (pss_cons (ps_if (pt_cmpR (o_eq (K := K) hu) (pv 3) pe_int (nomark _)) (pss_one (ps_ret (pe_tup (pa1 (pe_lst (pa1 pe_int (pa1 (pe_op op_mod (pv 4) pe_int) pa_nil))) (pa1 pe_str (pa1 pe_non pa_nil)))))) pss_nil)
      (pss_cons (ps_if (pt_cmpR (o_eq (K := K) hu) (pv 3) pe_int (nomark _)) (pss_one (ps_ret (pe_tup (pa1 (pe_lst (pa1 pe_int (pa1 (pe_op op_mod (pv 4) pe_int) (pa1 (pe_op op_mod (pe_op op_fdiv (pv 4) pe_int) pe_int) pa_nil)))) (pa1 pe_str (pa1 pe_non pa_nil)))))) pss_nil)
      (pss_cons (ps_if (pt_cmpR (o_eq (K := K) hu) (pv 3) pe_int (nomark _)) (pss_one (ps_ret (pe_tup (pa1 (pe_ix (o_ix (K := K)) (pe_lst (pa1 (pe_lst (pa1 pe_int (pa1 (pe_op op_mod (pe_op op_sub pe_int (pv 1)) pe_int) pa_nil))) (pa1 (pe_lst (pa1 pe_int (pa1 pe_int pa_nil))) pa_nil))) (pe_op op_mod (pv 4) pe_int) (fun _ _ => rfl)) (pa1 pe_str (pa1 pe_non pa_nil)))))) pss_nil)
      (pss_one (ps_ret (pe_tup (pa1 (pe_lst (pa1 (pe_op o_add pe_int (pe_op op_mod (pv 4) pe_int)) pa_nil)) (pa1 pe_str (pa1 pe_non pa_nil)))))))))))))), ?_⟩
    rw [show start ["_law_cell", "_law_at", "_law_goals", "_law_way", "_law_more", "_law_name"] [V.int c, V.int n, V.ref a] = [some (V.int c), some (V.int n), some (V.ref a), none, none, none] from rfl]
    refine tSeq_gen fun B hB => ?_
    simp only [tSeq, tIfS, tRet, tRetN, tC, tVar, tOp, tUn, tTest, tB, tAnd, tOr, tNot, tAndV, tOrV, tNotV, tIf, tChain, tCons, tNil, tCall, tCB, tLst, tTup, tSl, tNoPart, tPart, gName, tNext, tDrop, tAsg, tAsgC, tBM, tYes, tDNewK, rI, rI0, rU, rEq, rNe, rAbs, rIntT, CDiv, add_ii, add_ss, mul_ii, ix_si, eq_ii, eq_ss, ne_ii, ne_ss, isnot_xn, List.append_nil, List.cons_append, List.nil_append, List.getElem?_cons_succ, List.getElem?_cons_zero, List.set_cons_succ, List.set_cons_zero, Option.some.injEq, V.int.injEq, V.bl.injEq, V.str.injEq, V.ref.injEq, V.ty.injEq, List.cons.injEq, and_true, true_and, exists_eq_left, exists_eq_left', exists_and_left, exists_eq', exists_const, exists_and_right, exists_eq_right, exists_eq_right', reduceCtorEq, false_and, and_false, exists_false, or_false, false_or, decide_eq_true_eq, Bool.not_eq_true', decide_eq_false_iff_not, Bool.false_eq_true, if_false, if_true, mk_app, mk_len, sg_mk, mk_one, decide_true, decide_false, Bool.not_true, Bool.not_false, ite_true, ite_false, not_true_eq_false, not_false_eq_true, mk_iff, tyV_str, stComp, List.map_cons, List.map_nil, Option.join_some, Option.join_none, gt_iff_lt, ge_iff_le, tRaise, tTryR, tCallH, tDisp, tPairs, tFld, sFld, tMake, tMeth, tAug, ipI, tDead, tBM0, tRev, l_let, l_fig, l_e, tDGet, tDNotIn, sDPut, tDNewK]
    refine ⟨by decide, ?_⟩
    subst hB
    refine tSeq_gen fun B hB => ?_
    simp only [tSeq, tIfS, tRet, tRetN, tC, tVar, tOp, tUn, tTest, tB, tAnd, tOr, tNot, tAndV, tOrV, tNotV, tIf, tChain, tCons, tNil, tCall, tCB, tLst, tTup, tSl, tNoPart, tPart, gName, tNext, tDrop, tAsg, tAsgC, tBM, tYes, tDNewK, rI, rI0, rU, rEq, rNe, rAbs, rIntT, CDiv, add_ii, add_ss, mul_ii, ix_si, eq_ii, eq_ss, ne_ii, ne_ss, isnot_xn, List.append_nil, List.cons_append, List.nil_append, List.getElem?_cons_succ, List.getElem?_cons_zero, List.set_cons_succ, List.set_cons_zero, Option.some.injEq, V.int.injEq, V.bl.injEq, V.str.injEq, V.ref.injEq, V.ty.injEq, List.cons.injEq, and_true, true_and, exists_eq_left, exists_eq_left', exists_and_left, exists_eq', exists_const, exists_and_right, exists_eq_right, exists_eq_right', reduceCtorEq, false_and, and_false, exists_false, or_false, false_or, decide_eq_true_eq, Bool.not_eq_true', decide_eq_false_iff_not, Bool.false_eq_true, if_false, if_true, mk_app, mk_len, sg_mk, mk_one, decide_true, decide_false, Bool.not_true, Bool.not_false, ite_true, ite_false, not_true_eq_false, not_false_eq_true, mk_iff, tyV_str, stComp, List.map_cons, List.map_nil, Option.join_some, Option.join_none, gt_iff_lt, ge_iff_le, tRaise, tTryR, tCallH, tDisp, tPairs, tFld, sFld, tMake, tMeth, tAug, ipI, tDead, tBM0, tRev, l_let, l_fig, l_e, tDGet, tDNotIn, sDPut, tDNewK]
    refine ⟨⟨by decide, by decide⟩, ?_⟩
    subst hB
    refine tSeq_gen fun B hB => ?_
    simp only [tSeq, tIfS, tRet, tRetN, tC, tVar, tOp, tUn, tTest, tB, tAnd, tOr, tNot, tAndV, tOrV, tNotV, tIf, tChain, tCons, tNil, tCall, tCB, tLst, tTup, tSl, tNoPart, tPart, gName, tNext, tDrop, tAsg, tAsgC, tBM, tYes, tDNewK, rI, rI0, rU, rEq, rNe, rAbs, rIntT, CDiv, add_ii, add_ss, mul_ii, ix_si, eq_ii, eq_ss, ne_ii, ne_ss, isnot_xn, List.append_nil, List.cons_append, List.nil_append, List.getElem?_cons_succ, List.getElem?_cons_zero, List.set_cons_succ, List.set_cons_zero, Option.some.injEq, V.int.injEq, V.bl.injEq, V.str.injEq, V.ref.injEq, V.ty.injEq, List.cons.injEq, and_true, true_and, exists_eq_left, exists_eq_left', exists_and_left, exists_eq', exists_const, exists_and_right, exists_eq_right, exists_eq_right', reduceCtorEq, false_and, and_false, exists_false, or_false, false_or, decide_eq_true_eq, Bool.not_eq_true', decide_eq_false_iff_not, Bool.false_eq_true, if_false, if_true, mk_app, mk_len, sg_mk, mk_one, decide_true, decide_false, Bool.not_true, Bool.not_false, ite_true, ite_false, not_true_eq_false, not_false_eq_true, mk_iff, tyV_str, stComp, List.map_cons, List.map_nil, Option.join_some, Option.join_none, gt_iff_lt, ge_iff_le, tRaise, tTryR, tCallH, tDisp, tPairs, tFld, sFld, tMake, tMeth, tAug, ipI, tDead, tBM0, tRev, l_let, l_fig, l_e, tDGet, tDNotIn, sDPut, tDNewK]
    refine ⟨⟨by decide, by decide⟩, sl1000 (by simp), fun p np => ?_⟩
    have S1 := Same.upd (Same.refl H) np (o := .lst [V.str (Str.ofString "code"), V.str (Str.ofString "data")])
    have ep : upd H p (.lst [V.str (Str.ofString "code"), V.str (Str.ofString "data")]) p = some (.lst [V.str (Str.ofString "code"), V.str (Str.ofString "data")]) := upd_same
    generalize upd H p (.lst [V.str (Str.ofString "code"), V.str (Str.ofString "data")]) = H1 at S1 ep ⊢
    have fin : ∀ (H2 : Hp) (S : Same H H2) (ns : List Int) (w : Str) (v : V), ns.length ≤ 3 → (v = .non ∨ ∃ z, v = .str z) → (ns.map V.int).length ≤ sizeLine ∧ ∀ r, H2 r = none → [V.ref r, V.str w, v].length ≤ sizeLine ∧ ∀ t, upd H2 r (.lst (ns.map V.int)) t = none → Q (.ref t) (upd (upd H2 r (.lst (ns.map V.int))) t (.tup [.ref r, .str w, v])) := fun H2 S ns w v h hv => ⟨sl1000 (by simp; omega), fun r nr => ⟨sl1000 (by simp), fun t nt => q t r ns w v _ ((Same.upd S nr).no nt) (S.no nr) (Same.upd (Same.upd S nr) nt) upd_same (keepU upd_same (fun z => by rw [z, upd_same] at nt; cases nt)) h hv⟩⟩
    refine ifIx ep fun z => ⟨_, a, gs, z, rfl, S1 _ _ ha, fun e he => S1 _ _ (hg e he), hl, fun v H2 S2 hv => ?_⟩
    replace S2 := S1.trans S2
    clear ep np S1 hg ha
    subst hB
    refine tSeq_gen fun B hB => ?_
    have KB : ∀ H3, Same H H3 → B { nx := fun _ H' => Q V.non H', rt := Q } [some (V.int c), some (V.int n), some (V.ref a), some (V.int (c % 8)), some (V.int (c / 8)), some v] H3 := fun H3 S3 => by
      subst hB
      refine tSeq_gen fun B hB => ?_
      have KB : ∀ H3, Same H H3 → B { nx := fun _ H' => Q V.non H', rt := Q } [some (V.int c), some (V.int n), some (V.ref a), some (V.int (c % 8)), some (V.int (c / 8)), some v] H3 := fun H3 S3 => by
        subst hB
        simp only [tSeq, tIfS, tRet, tRetN, tC, tVar, tOp, tUn, tTest, tB, tAnd, tOr, tNot, tAndV, tOrV, tNotV, tIf, tChain, tCons, tNil, tCall, tCB, tLst, tTup, tSl, tNoPart, tPart, gName, tNext, tDrop, tAsg, tAsgC, tBM, tYes, tDNewK, rI, rI0, rU, rEq, rNe, rAbs, rIntT, CDiv, add_ii, add_ss, mul_ii, ix_si, eq_ii, eq_ss, ne_ii, ne_ss, isnot_xn, List.append_nil, List.cons_append, List.nil_append, List.getElem?_cons_succ, List.getElem?_cons_zero, List.set_cons_succ, List.set_cons_zero, Option.some.injEq, V.int.injEq, V.bl.injEq, V.str.injEq, V.ref.injEq, V.ty.injEq, List.cons.injEq, and_true, true_and, exists_eq_left, exists_eq_left', exists_and_left, exists_eq', exists_const, exists_and_right, exists_eq_right, exists_eq_right', reduceCtorEq, false_and, and_false, exists_false, or_false, false_or, decide_eq_true_eq, Bool.not_eq_true', decide_eq_false_iff_not, Bool.false_eq_true, if_false, if_true, mk_app, mk_len, sg_mk, mk_one, decide_true, decide_false, Bool.not_true, Bool.not_false, ite_true, ite_false, not_true_eq_false, not_false_eq_true, mk_iff, tyV_str, stComp, List.map_cons, List.map_nil, Option.join_some, Option.join_none, gt_iff_lt, ge_iff_le, tRaise, tTryR, tCallH, tDisp, tPairs, tFld, sFld, tMake, tMeth, tAug, ipI, tDead, tBM0, tRev, l_let, l_fig, l_e, tDGet, tDNotIn, sDPut, tDNewK]
        refine ite2 (fun _ => ⟨by decide, fin _ S3 [48, c / 8 % 256] _ _ (by simp) (.inl rfl)⟩) fun _ => ite2 (fun _ => ⟨by decide, ⟨by decide, by decide⟩, by decide, fin _ S3 [49, c / 8 % 256, c / 8 / 256 % 256] _ _ (by simp) (.inl rfl)⟩) fun _ => ite2 (fun _ => ?_) fun _ => ⟨by decide, fin _ S3 [16 + c / 8 % 16] _ _ (by simp) (.inl rfl)⟩
        refine ⟨by decide, sl1000 (by simp), fun r1 n1 => ⟨sl1000 (by simp), fun r2 n2 => ⟨sl1000 (by simp), fun r3 n3 => ⟨by decide, ?_⟩⟩⟩⟩
        have T1 := Same.upd (Same.refl H3) n1 (o := .lst [V.int 64, V.int ((254 - n) % 256)])
        have T2 := Same.upd T1 n2 (o := .lst [V.int 65, V.int 0])
        have T3 := Same.upd T2 n3 (o := .lst [V.ref r1, V.ref r2])
        have e1 := (Same.upd (Same.upd (Same.refl (upd H3 r1 (.lst [V.int 64, V.int ((254 - n) % 256)]))) n2 (o := .lst [V.int 65, V.int 0])) n3 (o := .lst [V.ref r1, V.ref r2])) _ _ upd_same
        have e2 := (Same.upd (Same.refl (upd (upd H3 r1 (.lst [V.int 64, V.int ((254 - n) % 256)])) r2 (.lst [V.int 65, V.int 0]))) n3 (o := .lst [V.ref r1, V.ref r2])) _ _ upd_same
        have e3 : upd (upd (upd H3 r1 (.lst [V.int 64, V.int ((254 - n) % 256)])) r2 (.lst [V.int 65, V.int 0])) r3 (.lst [V.ref r1, V.ref r2]) r3 = some (.lst [V.ref r1, V.ref r2]) := upd_same
        generalize upd (upd (upd H3 r1 (.lst [V.int 64, V.int ((254 - n) % 256)])) r2 (.lst [V.int 65, V.int 0])) r3 (.lst [V.ref r1, V.ref r2]) = H4 at T3 e1 e2 e3 ⊢
        have g2 : ∀ (r : Addr) (ns : List Int), H r = none → H4 r = some (.lst (ns.map V.int)) → ns.length ≤ 3 → [V.ref r, V.str (Str.ofString ""), V.non].length ≤ sizeLine ∧ ∀ t, H4 t = none → Q (.ref t) (upd H4 t (.tup [.ref r, .str (Str.ofString ""), .non])) := fun r ns nr er h => ⟨sl1000 (by simp), fun t nt => q t r ns _ _ _ ((S3.trans T3).no nt) nr (Same.upd (S3.trans T3) nt) upd_same ((Same.upd (Same.refl H4) nt) _ _ er) h (.inl rfl)⟩
        have h2 : c / 8 % 2 = 0 ∨ c / 8 % 2 = 1 := by omega
        rcases h2 with h | h <;> rw [h]
        · exact ixL (SqL.of e3) (atIn (by decide) rfl) (g2 r1 [64, (254 - n) % 256] (S3.no n1) e1 (by simp))
        · exact ixL (SqL.of e3) (atIn (by decide) rfl) (g2 r2 [65, 0] ((S3.trans T1).no n2) e2 (by simp))
      simp only [tSeq, tIfS, tRet, tRetN, tC, tVar, tOp, tUn, tTest, tB, tAnd, tOr, tNot, tAndV, tOrV, tNotV, tIf, tChain, tCons, tNil, tCall, tCB, tLst, tTup, tSl, tNoPart, tPart, gName, tNext, tDrop, tAsg, tAsgC, tBM, tYes, tDNewK, rI, rI0, rU, rEq, rNe, rAbs, rIntT, CDiv, add_ii, add_ss, mul_ii, ix_si, eq_ii, eq_ss, ne_ii, ne_ss, isnot_xn, List.append_nil, List.cons_append, List.nil_append, List.getElem?_cons_succ, List.getElem?_cons_zero, List.set_cons_succ, List.set_cons_zero, Option.some.injEq, V.int.injEq, V.bl.injEq, V.str.injEq, V.ref.injEq, V.ty.injEq, List.cons.injEq, and_true, true_and, exists_eq_left, exists_eq_left', exists_and_left, exists_eq', exists_const, exists_and_right, exists_eq_right, exists_eq_right', reduceCtorEq, false_and, and_false, exists_false, or_false, false_or, decide_eq_true_eq, Bool.not_eq_true', decide_eq_false_iff_not, Bool.false_eq_true, if_false, if_true, mk_app, mk_len, sg_mk, mk_one, decide_true, decide_false, Bool.not_true, Bool.not_false, ite_true, ite_false, not_true_eq_false, not_false_eq_true, mk_iff, tyV_str, stComp, List.map_cons, List.map_nil, Option.join_some, Option.join_none, gt_iff_lt, ge_iff_le, tRaise, tTryR, tCallH, tDisp, tPairs, tFld, sFld, tMake, tMeth, tAug, ipI, tDead, tBM0, tRev, l_let, l_fig, l_e, tDGet, tDNotIn, sDPut, tDNewK]
      exact inTT fun b H4 S4 => ⟨_, rfl, ite2 (fun _ => ite2 (fun _ => ⟨by decide, fin _ (S3.trans S4) [81 + c / 8 % 2, 0, 0] _ _ (by simp) hv⟩) fun _ => KB _ (S3.trans S4)) fun _ => KB _ (S3.trans S4)⟩
    simp only [tSeq, tIfS, tRet, tRetN, tC, tVar, tOp, tUn, tTest, tB, tAnd, tOr, tNot, tAndV, tOrV, tNotV, tIf, tChain, tCons, tNil, tCall, tCB, tLst, tTup, tSl, tNoPart, tPart, gName, tNext, tDrop, tAsg, tAsgC, tBM, tYes, tDNewK, rI, rI0, rU, rEq, rNe, rAbs, rIntT, CDiv, add_ii, add_ss, mul_ii, ix_si, eq_ii, eq_ss, ne_ii, ne_ss, isnot_xn, List.append_nil, List.cons_append, List.nil_append, List.getElem?_cons_succ, List.getElem?_cons_zero, List.set_cons_succ, List.set_cons_zero, Option.some.injEq, V.int.injEq, V.bl.injEq, V.str.injEq, V.ref.injEq, V.ty.injEq, List.cons.injEq, and_true, true_and, exists_eq_left, exists_eq_left', exists_and_left, exists_eq', exists_const, exists_and_right, exists_eq_right, exists_eq_right', reduceCtorEq, false_and, and_false, exists_false, or_false, false_or, decide_eq_true_eq, Bool.not_eq_true', decide_eq_false_iff_not, Bool.false_eq_true, if_false, if_true, mk_app, mk_len, sg_mk, mk_one, decide_true, decide_false, Bool.not_true, Bool.not_false, ite_true, ite_false, not_true_eq_false, not_false_eq_true, mk_iff, tyV_str, stComp, List.map_cons, List.map_nil, Option.join_some, Option.join_none, gt_iff_lt, ge_iff_le, tRaise, tTryR, tCallH, tDisp, tPairs, tFld, sFld, tMake, tMeth, tAug, ipI, tDead, tBM0, tRev, l_let, l_fig, l_e, tDGet, tDNotIn, sDPut, tDNewK]
    refine inTT fun b H3 S3 => ⟨_, rfl, ite2 (fun _ => ite2 (fun hn => ?_) fun _ => KB _ (S2.trans S3)) fun _ => KB _ (S2.trans S3)⟩
    clear KB
    replace S3 := S2.trans S3
    refine ⟨sl1000 (by simp), fun r1 n1 => ⟨sl1000 (by simp), fun t1 m1 => ⟨sl1000 (by simp), fun r2 n2 => ⟨sl1000 (by simp), fun t2 m2 => ⟨sl1000 (by simp), fun l nl => ?_⟩⟩⟩⟩⟩
    have A1 := Same.upd S3 n1 (o := .lst [V.int 80, V.int 0, V.int 0])
    have A2 := Same.upd A1 m1 (o := .tup [V.ref r1, V.str (Str.ofString "far"), v])
    have A3 := Same.upd A2 n2 (o := .lst [V.int 66, V.int 0])
    have A4 := Same.upd A3 m2 (o := .tup [V.ref r2, V.str (Str.ofString "near"), v])
    have A5 := Same.upd A4 nl (o := .lst [V.ref t1, V.ref t2])
    have B1 := (Same.upd (Same.upd (Same.upd (Same.upd (Same.refl (upd H3 r1 (.lst [V.int 80, V.int 0, V.int 0]))) m1 (o := .tup [V.ref r1, V.str (Str.ofString "far"), v])) n2 (o := .lst [V.int 66, V.int 0])) m2 (o := .tup [V.ref r2, V.str (Str.ofString "near"), v])) nl (o := .lst [V.ref t1, V.ref t2])) _ _ upd_same
    have B2 := (Same.upd (Same.upd (Same.upd (Same.refl (upd (upd H3 r1 (.lst [V.int 80, V.int 0, V.int 0])) t1 (.tup [V.ref r1, V.str (Str.ofString "far"), v]))) n2 (o := .lst [V.int 66, V.int 0])) m2 (o := .tup [V.ref r2, V.str (Str.ofString "near"), v])) nl (o := .lst [V.ref t1, V.ref t2])) _ _ upd_same
    have B3 := (Same.upd (Same.upd (Same.refl (upd (upd (upd H3 r1 (.lst [V.int 80, V.int 0, V.int 0])) t1 (.tup [V.ref r1, V.str (Str.ofString "far"), v])) r2 (.lst [V.int 66, V.int 0]))) m2 (o := .tup [V.ref r2, V.str (Str.ofString "near"), v])) nl (o := .lst [V.ref t1, V.ref t2])) _ _ upd_same
    have B4 := (Same.upd (Same.refl (upd (upd (upd (upd H3 r1 (.lst [V.int 80, V.int 0, V.int 0])) t1 (.tup [V.ref r1, V.str (Str.ofString "far"), v])) r2 (.lst [V.int 66, V.int 0])) t2 (.tup [V.ref r2, V.str (Str.ofString "near"), v]))) nl (o := .lst [V.ref t1, V.ref t2])) _ _ upd_same
    have B5 : upd (upd (upd (upd (upd H3 r1 (.lst [V.int 80, V.int 0, V.int 0])) t1 (.tup [V.ref r1, V.str (Str.ofString "far"), v])) r2 (.lst [V.int 66, V.int 0])) t2 (.tup [V.ref r2, V.str (Str.ofString "near"), v])) l (.lst [V.ref t1, V.ref t2]) l = some (.lst [V.ref t1, V.ref t2]) := upd_same
    generalize upd (upd (upd (upd (upd H3 r1 (.lst [V.int 80, V.int 0, V.int 0])) t1 (.tup [V.ref r1, V.str (Str.ofString "far"), v])) r2 (.lst [V.int 66, V.int 0])) t2 (.tup [V.ref r2, V.str (Str.ofString "near"), v])) l (.lst [V.ref t1, V.ref t2]) = H4 at A5 B1 B2 B3 B4 B5 ⊢
    by_cases h6 : c % 8 = 6
    · rw [if_pos h6]
      exact ixL (SqL.of B5) (atIn (by decide) rfl) (q t2 r2 [66, 0] _ _ _ (A3.no m2) (A2.no n2) A5 B4 B3 (by simp) hv)
    · rw [if_neg h6]
      exact ixL (SqL.of B5) (atIn (by decide) rfl) (q t1 r1 [80, 0, 0] _ _ _ (A1.no m1) (S3.no n1) A5 B2 B1 (by simp) hv)
noncomputable def sp__law_code : Sp := fun vs H Q E => ∃ (c : Int) (a : Addr) (gs : List (Addr × (Str × Str))), vs = [.int c, .ref a] ∧ H a = some (.lst (refsS gs)) ∧ (∀ e ∈ gs, GoAt H e) ∧ gs.length ≤ 10 ∧ ∀ t r l (ns : List Int) (ps : List (Addr × Int)) H', H r = none → H l = none → Same H H' → H' t = some (.tup [.ref r, .ref l]) → H' r = some (.lst (ns.map V.int)) → ns.length ≤ 20 → H' l = some (.lst (refsS ps)) → (∀ e ∈ ps, PlO H' e) → ps.length ≤ 4 → Q (.ref t) H'
theorem sc__law_code : FnScope ["_law_cell", "_law_goals", "_law_row", "_law_places", "_law_k", "_law_more", "_law_way", "_law_name", "_law_last"] ["_law_cell", "_law_goals"] (defScope s__law_code) := ⟨rfl, rfl, rfl, by decide +kernel, rfl, by decide +kernel, by decide +kernel⟩
theorem ok__law_code (T : Txt K mg) : FnOk P w K mg base CX0 3 T.d__law_code.f T.d__law_code.fd ["_law_cell", "_law_goals"] (sp__law_code) := by
  have nd := sc__law_code.nd
  refine T.d__law_code.F.ok sc__law_code (fun vs H Q E h => ?_) (fun cdv A outer s H vs Q E hr h => ?_)
  · obtain ⟨c, a, gs, rfl, ha, hg, hl, q⟩ := h
    rfl
  · obtain ⟨c, a, gs, rfl, ha, hg, hl, q⟩ := h
    have hu := hr.units0
    refine ⟨_, (pss_cons (ps_set (i := 2) nd rfl (Or.inl rfl) (pe_lst pa_nil))
      (pss_cons (ps_set (i := 3) nd rfl (Or.inl rfl) (pe_lst pa_nil))
      (pss_cons (ps_for PassesOwn.never rfl (pi_range1 rfl T.n_range (pa1 (pe_op op_mod (pc1 T.d__law_mixed (ok__law_mixed T) (hr.mono (by decide)) (pa1 (pv 0) (pa1 pe_int pa_nil))) pe_int) pa_nil)) (pg_name (i := 4) nd rfl (Or.inl rfl))
        (pss_cons (ps_asg (pc1 T.d__law_op (ok__law_op T) (hr.mono (by decide)) (pa1 (pc1 T.d__law_mixed (ok__law_mixed T) (hr.mono (by decide)) (pa1 (pv 0) (pa1 (pe_op o_add pe_int (pv 4)) pa_nil))) (pa1 (pcB (o_len (K := K)) rfl T.n_len (by kernel_rfl) (pa1 (pv 2) pa_nil)) (pa1 (pv 1) pa_nil)))) (pg_tupK (K := K) (n := 3) rfl (pgs_cons (pg_name (i := 5) nd rfl (Or.inl rfl)) (pgs_cons (pg_name (i := 6) nd rfl (Or.inl rfl)) (pgs_cons (pg_name (i := 7) nd rfl (Or.inl rfl)) pgs_nil)))))
      (pss_cons (ps_if (pt_cmpR o_isnot (pv 7) pe_non (nomark _)) (pss_one (ps_expr (pm1 (K := K) PySem.F.plainAttrs_list PySem.F.slot_list_append PySem.F.type_list_append o_append (pv 3) (pa1 (pe_tup (pa1 (pe_op o_add (pcB (o_len (K := K)) rfl T.n_len (by kernel_rfl) (pa1 (pv 2) pa_nil)) pe_int) (pa1 (pv 6) (pa1 (pv 7) pa_nil)))) pa_nil)))) pss_nil)
      (pss_one (ps_set (i := 2) nd rfl (Or.inl rfl) (pe_op o_add (pv 2) (pv 5)))))))
      (pss_cons (ps_set (i := 8) nd rfl (Or.inl rfl) (pe_ix (o_ix (K := K)) (pe_lst (pa1 (pe_lst (pa1 pe_int pa_nil)) (pa1 (pe_lst (pa1 pe_int pa_nil)) (pa1 (pe_lst (pa1 pe_int (pa1 (pe_op op_mod (pe_op op_sub pe_int (pcB (o_len (K := K)) rfl T.n_len (by kernel_rfl) (pa1 (pv 2) pa_nil))) pe_int) pa_nil))) pa_nil)))) (pe_op op_mod (pc1 T.d__law_mixed (ok__law_mixed T) (hr.mono (by decide)) (pa1 (pv 0) (pa1 pe_int pa_nil))) pe_int) (fun _ _ => rfl)))
      (pss_one (ps_ret (pe_tup (pa1 (pe_op o_add (pv 2) (pv 8)) (pa1 (pv 3) pa_nil))))))))), ?_⟩
    rw [show start ["_law_cell", "_law_goals", "_law_row", "_law_places", "_law_k", "_law_more", "_law_way", "_law_name", "_law_last"] [V.int c, V.ref a] = [some (V.int c), some (V.ref a), none, none, none, none, none, none, none] from rfl]
    have S := Same.refl H
    refine tSeq_gen fun B hB => ?_
    simp only [tSeq, tIfS, tRet, tRetN, tC, tVar, tOp, tUn, tTest, tB, tAnd, tOr, tNot, tAndV, tOrV, tNotV, tIf, tChain, tCons, tNil, tCall, tCB, tLst, tTup, tSl, tNoPart, tPart, gName, tNext, tDrop, tAsg, tAsgC, tBM, tYes, tDNewK, rI, rI0, rU, rEq, rNe, rAbs, rIntT, CDiv, add_ii, add_ss, mul_ii, ix_si, eq_ii, eq_ss, ne_ii, ne_ss, isnot_xn, List.append_nil, List.cons_append, List.nil_append, List.getElem?_cons_succ, List.getElem?_cons_zero, List.set_cons_succ, List.set_cons_zero, Option.some.injEq, V.int.injEq, V.bl.injEq, V.str.injEq, V.ref.injEq, V.ty.injEq, List.cons.injEq, and_true, true_and, exists_eq_left, exists_eq_left', exists_and_left, exists_eq', exists_const, exists_and_right, exists_eq_right, exists_eq_right', reduceCtorEq, false_and, and_false, exists_false, or_false, false_or, decide_eq_true_eq, Bool.not_eq_true', decide_eq_false_iff_not, Bool.false_eq_true, if_false, if_true, mk_app, mk_len, sg_mk, mk_one, decide_true, decide_false, Bool.not_true, Bool.not_false, ite_true, ite_false, not_true_eq_false, not_false_eq_true, mk_iff, tyV_str, stComp, List.map_cons, List.map_nil, Option.join_some, Option.join_none, gt_iff_lt, ge_iff_le, tRaise, tTryR, tCallH, tDisp, tPairs, tFld, sFld, tMake, tMeth, tAug, ipI, tDead, tBM0, tRev, l_let, l_fig, l_e, tDGet, tDNotIn, sDPut, tDNewK]
    refine ⟨sl1000 (by simp), fun r nr => ?_⟩
    have n0_r := S.no nr
    have X_ := Same.upd (Same.refl H) nr (o := .lst [])
    have e_r : upd H r (.lst []) r = some (.lst []) := upd_same
    replace S := S.trans X_
    generalize upd H r (.lst []) = H1 at X_ e_r  S ⊢
    clear X_ nr
    subst hB
    refine tSeq_gen fun B hB => ?_
    simp only [tSeq, tIfS, tRet, tRetN, tC, tVar, tOp, tUn, tTest, tB, tAnd, tOr, tNot, tAndV, tOrV, tNotV, tIf, tChain, tCons, tNil, tCall, tCB, tLst, tTup, tSl, tNoPart, tPart, gName, tNext, tDrop, tAsg, tAsgC, tBM, tYes, tDNewK, rI, rI0, rU, rEq, rNe, rAbs, rIntT, CDiv, add_ii, add_ss, mul_ii, ix_si, eq_ii, eq_ss, ne_ii, ne_ss, isnot_xn, List.append_nil, List.cons_append, List.nil_append, List.getElem?_cons_succ, List.getElem?_cons_zero, List.set_cons_succ, List.set_cons_zero, Option.some.injEq, V.int.injEq, V.bl.injEq, V.str.injEq, V.ref.injEq, V.ty.injEq, List.cons.injEq, and_true, true_and, exists_eq_left, exists_eq_left', exists_and_left, exists_eq', exists_const, exists_and_right, exists_eq_right, exists_eq_right', reduceCtorEq, false_and, and_false, exists_false, or_false, false_or, decide_eq_true_eq, Bool.not_eq_true', decide_eq_false_iff_not, Bool.false_eq_true, if_false, if_true, mk_app, mk_len, sg_mk, mk_one, decide_true, decide_false, Bool.not_true, Bool.not_false, ite_true, ite_false, not_true_eq_false, not_false_eq_true, mk_iff, tyV_str, stComp, List.map_cons, List.map_nil, Option.join_some, Option.join_none, gt_iff_lt, ge_iff_le, tRaise, tTryR, tCallH, tDisp, tPairs, tFld, sFld, tMake, tMeth, tAug, ipI, tDead, tBM0, tRev, l_let, l_fig, l_e, tDGet, tDNotIn, sDPut, tDNewK]
    refine ⟨sl1000 (by simp), fun l nl => ?_⟩
    have n0_l := S.no nl
    have X_ := Same.upd (Same.refl H1) nl (o := .lst [])
    have e_l : upd H1 l (.lst []) l = some (.lst []) := upd_same
    have d_r_l := ne_of_none e_r nl
    replace e_r := X_ _ _ e_r
    replace S := S.trans X_
    generalize upd H1 l (.lst []) = H2 at X_ e_l e_r S ⊢
    clear X_ nl
    subst hB
    refine tSeq_gen fun B hB => ?_
    have m5 : 0 ≤ mixT c 10 % 5 ∧ mixT c 10 % 5 < 5 := by omega
    refine tfor_rng (mixT c 10 % 5) m5.1 (by omega) (fun R h => by simp only [tSeq, tIfS, tRet, tRetN, tC, tVar, tOp, tUn, tTest, tB, tAnd, tOr, tNot, tAndV, tOrV, tNotV, tIf, tChain, tCons, tNil, tCall, tCB, tLst, tTup, tSl, tNoPart, tPart, gName, tNext, tDrop, tAsg, tAsgC, tBM, tYes, tDNewK, rI, rI0, rU, rEq, rNe, rAbs, rIntT, CDiv, add_ii, add_ss, mul_ii, ix_si, eq_ii, eq_ss, ne_ii, ne_ss, isnot_xn, List.append_nil, List.cons_append, List.nil_append, List.getElem?_cons_succ, List.getElem?_cons_zero, List.set_cons_succ, List.set_cons_zero, Option.some.injEq, V.int.injEq, V.bl.injEq, V.str.injEq, V.ref.injEq, V.ty.injEq, List.cons.injEq, and_true, true_and, exists_eq_left, exists_eq_left', exists_and_left, exists_eq', exists_const, exists_and_right, exists_eq_right, exists_eq_right', reduceCtorEq, false_and, and_false, exists_false, or_false, false_or, decide_eq_true_eq, Bool.not_eq_true', decide_eq_false_iff_not, Bool.false_eq_true, if_false, if_true, mk_app, mk_len, sg_mk, mk_one, decide_true, decide_false, Bool.not_true, Bool.not_false, ite_true, ite_false, not_true_eq_false, not_false_eq_true, mk_iff, tyV_str, stComp, List.map_cons, List.map_nil, Option.join_some, Option.join_none, gt_iff_lt, ge_iff_le, tRaise, tTryR, tCallH, tDisp, tPairs, tFld, sFld, tMake, tMeth, tAug, ipI, tDead, tBM0, tRev, l_let, l_fig, l_e, tDGet, tDNotIn, sDPut, tDNewK]; exact ⟨c, 10, rfl, by decide, by decide, _, rfl, by decide, h⟩) (fun i σ H' => Same H H' ∧ ∃ (r : Addr) (ns : List Int) (ps : List (Addr × Int)) (v4 v5 v6 v7 : Option V), r ≠ l ∧ H' r = some (.lst (ns.map V.int)) ∧ ns.length ≤ 3 * i ∧ H' l = some (.lst (refsS ps)) ∧ (∀ e ∈ ps, PlO H' e) ∧ ps.length ≤ i ∧ σ = [some (V.int c), some (V.ref a), some (V.ref r), some (V.ref l), v4, v5, v6, v7, none]) ⟨S, r, [], [], none, none, none, none, d_r_l, e_r, by simp, e_l, (fun _ h => nomatch h), by simp, rfl⟩ ?_ ?_
    · clear e_r e_l d_r_l n0_r S r H2 H1
      rintro i σ H2 hi ⟨S, r, ns, ps, v4, v5, v6, v7, d, er, ln, el, hps, lp, rfl⟩
      refine tSeq_gen fun B hB => ?_
      simp only [tSeq, tIfS, tRet, tRetN, tC, tVar, tOp, tUn, tTest, tB, tAnd, tOr, tNot, tAndV, tOrV, tNotV, tIf, tChain, tCons, tNil, tCall, tCB, tLst, tTup, tSl, tNoPart, tPart, gName, tNext, tDrop, tAsg, tAsgC, tBM, tYes, tDNewK, rI, rI0, rU, rEq, rNe, rAbs, rIntT, CDiv, add_ii, add_ss, mul_ii, ix_si, eq_ii, eq_ss, ne_ii, ne_ss, isnot_xn, List.append_nil, List.cons_append, List.nil_append, List.getElem?_cons_succ, List.getElem?_cons_zero, List.set_cons_succ, List.set_cons_zero, Option.some.injEq, V.int.injEq, V.bl.injEq, V.str.injEq, V.ref.injEq, V.ty.injEq, List.cons.injEq, and_true, true_and, exists_eq_left, exists_eq_left', exists_and_left, exists_eq', exists_const, exists_and_right, exists_eq_right, exists_eq_right', reduceCtorEq, false_and, and_false, exists_false, or_false, false_or, decide_eq_true_eq, Bool.not_eq_true', decide_eq_false_iff_not, Bool.false_eq_true, if_false, if_true, mk_app, mk_len, sg_mk, mk_one, decide_true, decide_false, Bool.not_true, Bool.not_false, ite_true, ite_false, not_true_eq_false, not_false_eq_true, mk_iff, tyV_str, stComp, List.map_cons, List.map_nil, Option.join_some, Option.join_none, gt_iff_lt, ge_iff_le, tRaise, tTryR, tCallH, tDisp, tPairs, tFld, sFld, tMake, tMeth, tAug, ipI, tDead, tBM0, tRev, l_let, l_fig, l_e, tDGet, tDNotIn, sDPut, tDNewK]
      refine ⟨c, 11 + (i : Int), rfl, by omega, by omega, lenL (SqL.of er) ⟨_, _, a, gs, rfl, (mixT_b _ _).1, S _ _ ha, fun e he => S _ _ (hg e he), hl, fun t r2 ns2 w v H3 nt nr2 S2 et er2 ln2 hv => tup3 et ?_⟩⟩
      have dr2 : r2 ≠ l := (ne_of_none el nr2).symm
      subst hB
      replace S := S.trans S2
      replace er := S2 _ _ er
      replace el := S2 _ _ el
      have hps := fun e he => (hps e he).same S2
      rcases hv with rfl | ⟨z, rfl⟩
      · simp only [tSeq, tIfS, tRet, tRetN, tC, tVar, tOp, tUn, tTest, tB, tAnd, tOr, tNot, tAndV, tOrV, tNotV, tIf, tChain, tCons, tNil, tCall, tCB, tLst, tTup, tSl, tNoPart, tPart, gName, tNext, tDrop, tAsg, tAsgC, tBM, tYes, tDNewK, rI, rI0, rU, rEq, rNe, rAbs, rIntT, CDiv, add_ii, add_ss, mul_ii, ix_si, eq_ii, eq_ss, ne_ii, ne_ss, isnot_xn, List.append_nil, List.cons_append, List.nil_append, List.getElem?_cons_succ, List.getElem?_cons_zero, List.set_cons_succ, List.set_cons_zero, Option.some.injEq, V.int.injEq, V.bl.injEq, V.str.injEq, V.ref.injEq, V.ty.injEq, List.cons.injEq, and_true, true_and, exists_eq_left, exists_eq_left', exists_and_left, exists_eq', exists_const, exists_and_right, exists_eq_right, exists_eq_right', reduceCtorEq, false_and, and_false, exists_false, or_false, false_or, decide_eq_true_eq, Bool.not_eq_true', decide_eq_false_iff_not, Bool.false_eq_true, if_false, if_true, mk_app, mk_len, sg_mk, mk_one, decide_true, decide_false, Bool.not_true, Bool.not_false, ite_true, ite_false, not_true_eq_false, not_false_eq_true, mk_iff, tyV_str, stComp, List.map_cons, List.map_nil, Option.join_some, Option.join_none, gt_iff_lt, ge_iff_le, tRaise, tTryR, tCallH, tDisp, tPairs, tFld, sFld, tMake, tMeth, tAug, ipI, tDead, tBM0, tRev, l_let, l_fig, l_e, tDGet, tDNotIn, sDPut, tDNewK]
        refine catL er er2 (by rw [List.length_map, List.length_map, sizeLine_eq]; omega) fun p np => ?_
        have X := Same.upd (Same.refl H3) np (o := .lst (ns.map V.int ++ ns2.map V.int))
        exact ⟨S.trans X, p, (ne_of_none el np).symm, ns ++ ns2, by rw [upd_same, List.map_append], by rw [List.length_append]; omega, ps, X _ _ el, fun e he => (hps e he).same X, by omega, rfl⟩
      · simp only [tSeq, tIfS, tRet, tRetN, tC, tVar, tOp, tUn, tTest, tB, tAnd, tOr, tNot, tAndV, tOrV, tNotV, tIf, tChain, tCons, tNil, tCall, tCB, tLst, tTup, tSl, tNoPart, tPart, gName, tNext, tDrop, tAsg, tAsgC, tBM, tYes, tDNewK, rI, rI0, rU, rEq, rNe, rAbs, rIntT, CDiv, add_ii, add_ss, mul_ii, ix_si, eq_ii, eq_ss, ne_ii, ne_ss, isnot_xn, List.append_nil, List.cons_append, List.nil_append, List.getElem?_cons_succ, List.getElem?_cons_zero, List.set_cons_succ, List.set_cons_zero, Option.some.injEq, V.int.injEq, V.bl.injEq, V.str.injEq, V.ref.injEq, V.ty.injEq, List.cons.injEq, and_true, true_and, exists_eq_left, exists_eq_left', exists_and_left, exists_eq', exists_const, exists_and_right, exists_eq_right, exists_eq_right', reduceCtorEq, false_and, and_false, exists_false, or_false, false_or, decide_eq_true_eq, Bool.not_eq_true', decide_eq_false_iff_not, Bool.false_eq_true, if_false, if_true, mk_app, mk_len, sg_mk, mk_one, decide_true, decide_false, Bool.not_true, Bool.not_false, ite_true, ite_false, not_true_eq_false, not_false_eq_true, mk_iff, tyV_str, stComp, List.map_cons, List.map_nil, Option.join_some, Option.join_none, gt_iff_lt, ge_iff_le, tRaise, tTryR, tCallH, tDisp, tPairs, tFld, sFld, tMake, tMeth, tAug, ipI, tDead, tBM0, tRev, l_let, l_fig, l_e, tDGet, tDNotIn, sDPut, tDNewK]
        refine ⟨tyV_lst (SqL.of el), lenL (SqL.of er) ?_⟩
        simp only [tSeq, tIfS, tRet, tRetN, tC, tVar, tOp, tUn, tTest, tB, tAnd, tOr, tNot, tAndV, tOrV, tNotV, tIf, tChain, tCons, tNil, tCall, tCB, tLst, tTup, tSl, tNoPart, tPart, gName, tNext, tDrop, tAsg, tAsgC, tBM, tYes, tDNewK, rI, rI0, rU, rEq, rNe, rAbs, rIntT, CDiv, add_ii, add_ss, mul_ii, ix_si, eq_ii, eq_ss, ne_ii, ne_ss, isnot_xn, List.append_nil, List.cons_append, List.nil_append, List.getElem?_cons_succ, List.getElem?_cons_zero, List.set_cons_succ, List.set_cons_zero, Option.some.injEq, V.int.injEq, V.bl.injEq, V.str.injEq, V.ref.injEq, V.ty.injEq, List.cons.injEq, and_true, true_and, exists_eq_left, exists_eq_left', exists_and_left, exists_eq', exists_const, exists_and_right, exists_eq_right, exists_eq_right', reduceCtorEq, false_and, and_false, exists_false, or_false, false_or, decide_eq_true_eq, Bool.not_eq_true', decide_eq_false_iff_not, Bool.false_eq_true, if_false, if_true, mk_app, mk_len, sg_mk, mk_one, decide_true, decide_false, Bool.not_true, Bool.not_false, ite_true, ite_false, not_true_eq_false, not_false_eq_true, mk_iff, tyV_str, stComp, List.map_cons, List.map_nil, Option.join_some, Option.join_none, gt_iff_lt, ge_iff_le, tRaise, tTryR, tCallH, tDisp, tPairs, tFld, sFld, tMake, tMeth, tAug, ipI, tDead, tBM0, tRev, l_let, l_fig, l_e, tDGet, tDNotIn, sDPut, tDNewK]
        refine ⟨sl1000 (by simp), fun p np => ?_⟩
        have n0_p := S.no np
        have X_ := Same.upd (Same.refl H3) np (o := .tup [V.int (((ns.map V.int).length : Int) + 1), V.str w, V.str z])
        have e_p : upd H3 p (.tup [V.int (((ns.map V.int).length : Int) + 1), V.str w, V.str z]) p = some (.tup [V.int (((ns.map V.int).length : Int) + 1), V.str w, V.str z]) := upd_same
        replace er := X_ _ _ er
        replace er2 := X_ _ _ er2
        replace el := X_ _ _ el
        replace S := S.trans X_
        replace hps := fun e he => (hps e he).same X_
        generalize upd H3 p (.tup [V.int (((ns.map V.int).length : Int) + 1), V.str w, V.str z]) = H4 at X_ e_p er er2 el hps S ⊢
        clear X_ np
    
        refine appL el (by simp [refsS, sizeLine_eq]; omega) ?_
        have d2 : r2 ≠ l := dr2
        have Z : Same H (upd H4 l (.lst (refsS ps ++ [V.ref p]))) := S.set n0_l
        refine catL (keepU er d) (keepU er2 d2) (by rw [List.length_map, List.length_map, sizeLine_eq]; omega) fun y ny => ?_
        have X := Same.upd (Same.refl (upd H4 l (.lst (refsS ps ++ [V.ref p])))) ny (o := .lst (ns.map V.int ++ ns2.map V.int))
        refine ⟨Z.trans X, y, (ne_of_none upd_same ny).symm, ns ++ ns2, by rw [upd_same, List.map_append], by rw [List.length_append]; omega, ps ++ [(p, ((ns.map V.int).length : Int) + 1)], by rw [refsS_snoc]; exact X _ _ upd_same, fun e he => ?_, by rw [List.length_append]; simp; omega, rfl⟩
        rcases List.mem_append.mp he with h | h
        · exact ((hps e h).set el).same X
        · rw [List.mem_singleton.mp h]
          refine PlO.same (PlO.set ⟨_, _, e_p, ?_, ?_⟩ el) X
          · show 0 ≤ ((ns.map V.int).length : Int) + 1
            omega
          · show ((ns.map V.int).length : Int) + 1 ≤ 30
            rw [List.length_map]
            omega
    · clear e_r e_l d_r_l n0_r S r H2 H1
      rintro σ H2 ⟨S, r, ns, ps, v4, v5, v6, v7, d, er, ln, el, hps, lp, rfl⟩
      subst hB
      simp only [tSeq, tIfS, tRet, tRetN, tC, tVar, tOp, tUn, tTest, tB, tAnd, tOr, tNot, tAndV, tOrV, tNotV, tIf, tChain, tCons, tNil, tCall, tCB, tLst, tTup, tSl, tNoPart, tPart, gName, tNext, tDrop, tAsg, tAsgC, tBM, tYes, tDNewK, rI, rI0, rU, rEq, rNe, rAbs, rIntT, CDiv, add_ii, add_ss, mul_ii, ix_si, eq_ii, eq_ss, ne_ii, ne_ss, isnot_xn, List.append_nil, List.cons_append, List.nil_append, List.getElem?_cons_succ, List.getElem?_cons_zero, List.set_cons_succ, List.set_cons_zero, Option.some.injEq, V.int.injEq, V.bl.injEq, V.str.injEq, V.ref.injEq, V.ty.injEq, List.cons.injEq, and_true, true_and, exists_eq_left, exists_eq_left', exists_and_left, exists_eq', exists_const, exists_and_right, exists_eq_right, exists_eq_right', reduceCtorEq, false_and, and_false, exists_false, or_false, false_or, decide_eq_true_eq, Bool.not_eq_true', decide_eq_false_iff_not, Bool.false_eq_true, if_false, if_true, mk_app, mk_len, sg_mk, mk_one, decide_true, decide_false, Bool.not_true, Bool.not_false, ite_true, ite_false, not_true_eq_false, not_false_eq_true, mk_iff, tyV_str, stComp, List.map_cons, List.map_nil, Option.join_some, Option.join_none, gt_iff_lt, ge_iff_le, tRaise, tTryR, tCallH, tDisp, tPairs, tFld, sFld, tMake, tMeth, tAug, ipI, tDead, tBM0, tRev, l_let, l_fig, l_e, tDGet, tDNotIn, sDPut, tDNewK]
      refine ⟨sl1000 (by simp), fun p1 np => ?_⟩
      have n0_p1 := S.no np
      have X_ := Same.upd (Same.refl H2) np (o := .lst [V.int 32])
      have e_p1 : upd H2 p1 (.lst [V.int 32]) p1 = some (.lst [V.int 32]) := upd_same
      replace er := X_ _ _ er
      replace el := X_ _ _ el
      replace S := S.trans X_
      replace hps := fun e he => (hps e he).same X_
      generalize upd H2 p1 (.lst [V.int 32]) = H3 at X_ e_p1 er el hps S ⊢
      clear X_ np
      refine ⟨sl1000 (by simp), fun p2 np => ?_⟩
      have n0_p2 := S.no np
      have X_ := Same.upd (Same.refl H3) np (o := .lst [V.int 33])
      have e_p2 : upd H3 p2 (.lst [V.int 33]) p2 = some (.lst [V.int 33]) := upd_same
      replace er := X_ _ _ er
      replace el := X_ _ _ el
      replace e_p1 := X_ _ _ e_p1
      replace S := S.trans X_
      replace hps := fun e he => (hps e he).same X_
      generalize upd H3 p2 (.lst [V.int 33]) = H4 at X_ e_p2 er el e_p1 hps S ⊢
      clear X_ np
      refine lenL (SqL.of er) ⟨_, rfl, by decide, sl1000 (by simp), fun p3 np => ?_⟩
      have n0_p3 := S.no np
      have X_ := Same.upd (Same.refl H4) np (o := .lst [V.int 64, V.int ((254 - ((ns.map V.int).length : Int)) % 256)])
      have e_p3 : upd H4 p3 (.lst [V.int 64, V.int ((254 - ((ns.map V.int).length : Int)) % 256)]) p3 = some (.lst [V.int 64, V.int ((254 - ((ns.map V.int).length : Int)) % 256)]) := upd_same
      replace er := X_ _ _ er
      replace el := X_ _ _ el
      replace e_p1 := X_ _ _ e_p1
      replace e_p2 := X_ _ _ e_p2
      replace S := S.trans X_
      replace hps := fun e he => (hps e he).same X_
      generalize upd H4 p3 (.lst [V.int 64, V.int ((254 - ((ns.map V.int).length : Int)) % 256)]) = H5 at X_ e_p3 er el e_p1 e_p2 hps S ⊢
      clear X_ np
      refine ⟨sl1000 (by simp), fun p4 np => ?_⟩
      have n0_p4 := S.no np
      have X_ := Same.upd (Same.refl H5) np (o := .lst [V.ref p1, V.ref p2, V.ref p3])
      have e_p4 : upd H5 p4 (.lst [V.ref p1, V.ref p2, V.ref p3]) p4 = some (.lst [V.ref p1, V.ref p2, V.ref p3]) := upd_same
      replace er := X_ _ _ er
      replace el := X_ _ _ el
      replace e_p1 := X_ _ _ e_p1
      replace e_p2 := X_ _ _ e_p2
      replace e_p3 := X_ _ _ e_p3
      replace S := S.trans X_
      replace hps := fun e he => (hps e he).same X_
      generalize upd H5 p4 (.lst [V.ref p1, V.ref p2, V.ref p3]) = H6 at X_ e_p4 er el e_p1 e_p2 e_p3 hps S ⊢
      clear X_ np
    
      refine ⟨c, 17, rfl, by decide, by decide, _, rfl, by decide, ?_⟩
      have key : ∀ (y : Addr) (ms : List Int), H6 y = some (.lst (ms.map V.int)) → ms.length ≤ 2 → rAddA (.ref r) (.ref y) H6 fun x H1 => [x, V.ref l].length ≤ sizeLine ∧ ∀ p, H1 p = none → Q (.ref p) (upd H1 p (.tup [x, .ref l])) := fun y ms ey hm => catL er ey (by rw [List.length_map, List.length_map, sizeLine_eq]; omega) fun p np => ⟨sl1000 (by simp), fun t nt => by
        have X := Same.upd (Same.refl H6) np (o := .lst (ns.map V.int ++ ms.map V.int))
        have Y := Same.upd (Same.refl (upd H6 p (.lst (ns.map V.int ++ ms.map V.int)))) nt (o := .tup [.ref p, .ref l])
        exact q t p l (ns ++ ms) ps _ (S.no np) n0_l (S.trans (X.trans Y)) upd_same (Y _ _ (by rw [upd_same, List.map_append])) (by rw [List.length_append]; omega) (Y _ _ (X _ _ el)) (fun e he => (hps e he).same (X.trans Y)) (by omega)⟩
      have h3 : mixT c 17 % 3 = 0 ∨ mixT c 17 % 3 = 1 ∨ mixT c 17 % 3 = 2 := by omega
      rcases h3 with h | h | h <;> rw [h]
      · exact ixL (SqL.of e_p4) (atIn (by decide) rfl) (key p1 [32] e_p1 (by simp))
      · exact ixL (SqL.of e_p4) (atIn (by decide) rfl) (key p2 [33] e_p2 (by simp))
      · exact ixL (SqL.of e_p4) (atIn (by decide) rfl) (key p3 [64, (254 - ((ns.map V.int).length : Int)) % 256] e_p3 (by simp))
noncomputable def sp__law_data : Sp := fun vs H Q E => ∃ c, vs = [.int c] ∧ ∀ l (ns : List Int) H', H l = none → Same H H' → H' l = some (.lst (ns.map V.int)) → ns.length ≤ 20 → Q (.ref l) H'
theorem sc__law_data : FnScope ["_law_cell", "_law_many", "_law_row", "_law_k"] ["_law_cell"] (defScope s__law_data) := ⟨rfl, rfl, rfl, by decide +kernel, rfl, by decide +kernel, by decide +kernel⟩
theorem ok__law_data (T : Txt K mg) : FnOk P w K mg base CX0 2 T.d__law_data.f T.d__law_data.fd ["_law_cell"] (sp__law_data) := by
  have nd := sc__law_data.nd
  refine T.d__law_data.F.ok sc__law_data (fun vs H Q E h => ?_) (fun cdv A outer s H vs Q E hr h => ?_)
  · obtain ⟨c, rfl, q⟩ := h
    rfl
  · obtain ⟨c, rfl, q⟩ := h
    have hu := hr.units0
    refine ⟨_, (pss_cons (ps_set (i := 1) nd rfl (Or.inl rfl) (pe_op o_add pe_int (pe_op op_mod (pv 0) pe_int)))
      (pss_cons (ps_set (i := 2) nd rfl (Or.inl rfl) (pe_lst (pa1 pe_int (pa1 (pv 1) pa_nil))))
      (pss_cons (ps_for PassesOwn.never rfl (pi_range1 rfl T.n_range (pa1 (pe_op o_mul pe_int (pv 1)) pa_nil)) (pg_name (i := 3) nd rfl (Or.inl rfl))
        (pss_one (ps_expr (pm1 (K := K) PySem.F.plainAttrs_list PySem.F.slot_list_append PySem.F.type_list_append o_append (pv 2) (pa1 (pe_op op_mod (pc1 T.d__law_mixed (ok__law_mixed T) (hr.mono (by decide)) (pa1 (pv 0) (pa1 (pe_op o_add pe_int (pv 3)) pa_nil))) pe_int) pa_nil)))))
      (pss_one (ps_ret (pv 2)))))), ?_⟩
    rw [show start ["_law_cell", "_law_many", "_law_row", "_law_k"] [V.int c] = [some (V.int c), none, none, none] from rfl]
    simp only [tSeq, tIfS, tRet, tRetN, tC, tVar, tOp, tUn, tTest, tB, tAnd, tOr, tNot, tAndV, tOrV, tNotV, tIf, tChain, tCons, tNil, tCall, tCB, tLst, tTup, tSl, tNoPart, tPart, gName, tNext, tDrop, tAsg, tAsgC, tBM, tYes, tDNewK, rI, rI0, rU, rEq, rNe, rAbs, rIntT, CDiv, add_ii, add_ss, mul_ii, ix_si, eq_ii, eq_ss, ne_ii, ne_ss, isnot_xn, List.append_nil, List.cons_append, List.nil_append, List.getElem?_cons_succ, List.getElem?_cons_zero, List.set_cons_succ, List.set_cons_zero, Option.some.injEq, V.int.injEq, V.bl.injEq, V.str.injEq, V.ref.injEq, V.ty.injEq, List.cons.injEq, and_true, true_and, exists_eq_left, exists_eq_left', exists_and_left, exists_eq', exists_const, exists_and_right, exists_eq_right, exists_eq_right', reduceCtorEq, false_and, and_false, exists_false, or_false, false_or, decide_eq_true_eq, Bool.not_eq_true', decide_eq_false_iff_not, Bool.false_eq_true, if_false, if_true, mk_app, mk_len, sg_mk, mk_one, decide_true, decide_false, Bool.not_true, Bool.not_false, ite_true, ite_false, not_true_eq_false, not_false_eq_true, mk_iff, tyV_str, stComp, List.map_cons, List.map_nil, Option.join_some, Option.join_none, gt_iff_lt, ge_iff_le, tRaise, tTryR, tCallH, tDisp, tPairs, tFld, sFld, tMake, tMeth, tAug, ipI, tDead, tBM0, tRev, l_let, l_fig, l_e, tDGet, tDNotIn, sDPut, tDNewK]
    refine ⟨by decide, sl1000 (by simp), fun p np => ?_⟩
    have S := Same.upd (Same.refl H) np (o := .lst [V.int 0, V.int (1 + c % 3)])
    have ep : upd H p (.lst [V.int 0, V.int (1 + c % 3)]) p = some (.lst [V.int 0, V.int (1 + c % 3)]) := upd_same
    generalize upd H p (.lst [V.int 0, V.int (1 + c % 3)]) = H1 at S ep ⊢
    refine tfor_rng (2 * (1 + c % 3)) (by omega) (by omega) (fun R r => by simp only [tSeq, tIfS, tRet, tRetN, tC, tVar, tOp, tUn, tTest, tB, tAnd, tOr, tNot, tAndV, tOrV, tNotV, tIf, tChain, tCons, tNil, tCall, tCB, tLst, tTup, tSl, tNoPart, tPart, gName, tNext, tDrop, tAsg, tAsgC, tBM, tYes, tDNewK, rI, rI0, rU, rEq, rNe, rAbs, rIntT, CDiv, add_ii, add_ss, mul_ii, ix_si, eq_ii, eq_ss, ne_ii, ne_ss, isnot_xn, List.append_nil, List.cons_append, List.nil_append, List.getElem?_cons_succ, List.getElem?_cons_zero, List.set_cons_succ, List.set_cons_zero, Option.some.injEq, V.int.injEq, V.bl.injEq, V.str.injEq, V.ref.injEq, V.ty.injEq, List.cons.injEq, and_true, true_and, exists_eq_left, exists_eq_left', exists_and_left, exists_eq', exists_const, exists_and_right, exists_eq_right, exists_eq_right', reduceCtorEq, false_and, and_false, exists_false, or_false, false_or, decide_eq_true_eq, Bool.not_eq_true', decide_eq_false_iff_not, Bool.false_eq_true, if_false, if_true, mk_app, mk_len, sg_mk, mk_one, decide_true, decide_false, Bool.not_true, Bool.not_false, ite_true, ite_false, not_true_eq_false, not_false_eq_true, mk_iff, tyV_str, stComp, List.map_cons, List.map_nil, Option.join_some, Option.join_none, gt_iff_lt, ge_iff_le, tRaise, tTryR, tCallH, tDisp, tPairs, tFld, sFld, tMake, tMeth, tAug, ipI, tDead, tBM0, tRev, l_let, l_fig, l_e, tDGet, tDNotIn, sDPut, tDNewK]; exact ⟨.inl ⟨by decide, by decide⟩, r⟩) (fun i σ H' => Same H H' ∧ ∃ (ns : List Int) (v3 : Option V), H' p = some (.lst (ns.map V.int)) ∧ ns.length = 2 + i ∧ σ = [some (V.int c), some (V.int (1 + c % 3)), some (V.ref p), v3]) ⟨S, [0, 1 + c % 3], none, ep, rfl, rfl⟩ ?_ ?_
    · rintro i σ H2 hi ⟨S2, ns, v3, e2, l2, rfl⟩
      simp only [tSeq, tIfS, tRet, tRetN, tC, tVar, tOp, tUn, tTest, tB, tAnd, tOr, tNot, tAndV, tOrV, tNotV, tIf, tChain, tCons, tNil, tCall, tCB, tLst, tTup, tSl, tNoPart, tPart, gName, tNext, tDrop, tAsg, tAsgC, tBM, tYes, tDNewK, rI, rI0, rU, rEq, rNe, rAbs, rIntT, CDiv, add_ii, add_ss, mul_ii, ix_si, eq_ii, eq_ss, ne_ii, ne_ss, isnot_xn, List.append_nil, List.cons_append, List.nil_append, List.getElem?_cons_succ, List.getElem?_cons_zero, List.set_cons_succ, List.set_cons_zero, Option.some.injEq, V.int.injEq, V.bl.injEq, V.str.injEq, V.ref.injEq, V.ty.injEq, List.cons.injEq, and_true, true_and, exists_eq_left, exists_eq_left', exists_and_left, exists_eq', exists_const, exists_and_right, exists_eq_right, exists_eq_right', reduceCtorEq, false_and, and_false, exists_false, or_false, false_or, decide_eq_true_eq, Bool.not_eq_true', decide_eq_false_iff_not, Bool.false_eq_true, if_false, if_true, mk_app, mk_len, sg_mk, mk_one, decide_true, decide_false, Bool.not_true, Bool.not_false, ite_true, ite_false, not_true_eq_false, not_false_eq_true, mk_iff, tyV_str, stComp, List.map_cons, List.map_nil, Option.join_some, Option.join_none, gt_iff_lt, ge_iff_le, tRaise, tTryR, tCallH, tDisp, tPairs, tFld, sFld, tMake, tMeth, tAug, ipI, tDead, tBM0, tRev, l_let, l_fig, l_e, tDGet, tDNotIn, sDPut, tDNewK]
      refine ⟨tyV_lst (SqL.of e2), c, 20 + (i : Int), rfl, by omega, by omega, ⟨_, rfl, by decide, appL e2 (by rw [List.length_map, sizeLine_eq]; omega) ⟨S2.set np, ns ++ [mixT c (20 + (i : Int)) % 256], ?_, by simp; omega⟩⟩⟩
      rw [upd_same, List.map_append]
      rfl
    · rintro σ H2 ⟨S2, ns, v3, e2, l2, rfl⟩
      simp only [tSeq, tIfS, tRet, tRetN, tC, tVar, tOp, tUn, tTest, tB, tAnd, tOr, tNot, tAndV, tOrV, tNotV, tIf, tChain, tCons, tNil, tCall, tCB, tLst, tTup, tSl, tNoPart, tPart, gName, tNext, tDrop, tAsg, tAsgC, tBM, tYes, tDNewK, rI, rI0, rU, rEq, rNe, rAbs, rIntT, CDiv, add_ii, add_ss, mul_ii, ix_si, eq_ii, eq_ss, ne_ii, ne_ss, isnot_xn, List.append_nil, List.cons_append, List.nil_append, List.getElem?_cons_succ, List.getElem?_cons_zero, List.set_cons_succ, List.set_cons_zero, Option.some.injEq, V.int.injEq, V.bl.injEq, V.str.injEq, V.ref.injEq, V.ty.injEq, List.cons.injEq, and_true, true_and, exists_eq_left, exists_eq_left', exists_and_left, exists_eq', exists_const, exists_and_right, exists_eq_right, exists_eq_right', reduceCtorEq, false_and, and_false, exists_false, or_false, false_or, decide_eq_true_eq, Bool.not_eq_true', decide_eq_false_iff_not, Bool.false_eq_true, if_false, if_true, mk_app, mk_len, sg_mk, mk_one, decide_true, decide_false, Bool.not_true, Bool.not_false, ite_true, ite_false, not_true_eq_false, not_false_eq_true, mk_iff, tyV_str, stComp, List.map_cons, List.map_nil, Option.join_some, Option.join_none, gt_iff_lt, ge_iff_le, tRaise, tTryR, tCallH, tDisp, tPairs, tFld, sFld, tMake, tMeth, tAug, ipI, tDead, tBM0, tRev, l_let, l_fig, l_e, tDGet, tDNotIn, sDPut, tDNewK]
      exact q p ns H2 np S2 e2 (by omega)
noncomputable def sp__law_wants : Sp := fun vs H Q E => ∃ (h d : Addr) (i c : Int) (es : List (Addr × HeadD)) (e : Addr × HeadD) (kvs : List (Key × V)), vs = [.ref h, .ref d, .int i, .int c] ∧ H h = some (.lst (refsS es)) ∧ 0 ≤ i ∧ es[i.toNat]? = some e ∧ HeadAt H e ∧ e.2.ss.length ≤ 4 ∧ Rd H d (.dK kvs) ∧ DOk H kvs ∧ kvs.length ≤ 30 ∧ ∀ l (ws : List Str) H', H l = none → Stay d H H' → Rd H' d (.dK kvs) → H' l = some (.lst (ws.map V.str)) → ws.length ≤ 3 → (∀ w ∈ ws, InD kvs w) → Q (.ref l) H'
theorem sc__law_wants : FnScope ["_law_heads_here", "_law_shared_here", "_law_i", "_law_cell", "_law_own", "_law_some", "_law_found", "_law_k", "_law_name"] ["_law_heads_here", "_law_shared_here", "_law_i", "_law_cell"] (defScope s__law_wants) := ⟨rfl, rfl, rfl, by decide +kernel, rfl, by decide +kernel, by decide +kernel⟩
theorem ok__law_wants (T : Txt K mg) : FnOk P w K mg base CX0 2 T.d__law_wants.f T.d__law_wants.fd ["_law_heads_here", "_law_shared_here", "_law_i", "_law_cell"] (sp__law_wants) := by
  have nd := sc__law_wants.nd
  refine T.d__law_wants.F.ok sc__law_wants (fun vs H Q E h => ?_) (fun cdv A outer s H vs Q E hr h => ?_)
  · obtain ⟨h, d, i, c, es, e, kvs, rfl, hh, i0, he, hd, ls, hr', hk, lk, q⟩ := h
    rfl
  · obtain ⟨h, d, i, c, es, e, kvs, rfl, hh, i0, he, hd, ls, hr', hk, lk, q⟩ := h
    have hu := hr.units0
    refine ⟨_, (pss_cons (ps_set (i := 4) nd rfl (Or.inr rfl) (pe_lcomp (N' := ["_law_section"]) (src := [none]) rfl (CompScope.of (by kernel_rfl)) (pi_listK (K := K) (pe_ix (o_ix (K := K)) (pe_ix (o_ix (K := K)) (pv 0) (pv 2) (fun _ _ => rfl)) pe_int (fun _ _ => rfl))) (fun _ _ _ _ _ _ => (pg_name (i := 0) (show (["_law_section"] : List Str).Nodup by decide +kernel) rfl (Or.inl rfl))) (fun _ _ _ _ _ _ => pif_nil) (fun _ _ _ _ _ _ => (pe_ix (o_ix (K := K)) (pv 0) pe_int (fun _ _ => rfl)))))
      (pss_cons (ps_set_lcomp (i := 5) nd rfl rfl (N' := ["_law_name", "_law_i", "_law_own", "_law_shared_here"]) (src := [none, some 2, some 4, some 1]) rfl (CompScope.of (by kernel_rfl)) (pi_dict (pv 1)) (fun _ _ _ _ _ _ => (pg_name (i := 0) (show (["_law_name", "_law_i", "_law_own", "_law_shared_here"] : List Str).Nodup by decide +kernel) rfl (Or.inl rfl))) (fun _ _ _ _ _ _ => (pif_one (PW.pt (pw_and (pt_cmpR (o_ne (K := K) hu) (pe_ix (o_ix (K := K)) (pe_dget (hu_of hr) (pv 3) (pv 0) (fun _ _ => rfl)) pe_int (fun _ _ => rfl)) (pv 1) (nomark _)) (pw_and1 (pt_cmpR (o_notin (K := K)) (pv 0) (pv 2) (by with_unfolding_all rfl))))))) (fun _ _ _ _ _ _ => (pv 0)))
      (pss_cons (ps_set (i := 6) nd rfl (Or.inl rfl) (pe_lst pa_nil))
      (pss_cons (ps_for PassesOwn.never rfl (pi_range1 rfl T.n_range (pa1 (pe_op op_mod (pv 3) pe_int) pa_nil)) (pg_name (i := 7) nd rfl (Or.inl rfl))
        (pss_cons (ps_set (i := 8) nd rfl (Or.inl rfl) (pe_ifExp (pt_cmpR (o_ne (K := K) hu) (pv 5) (pe_lst pa_nil) (nomark _)) (pe_ix (o_ix (K := K)) (pv 5) (pe_op op_mod (pc1 T.d__law_mixed (ok__law_mixed T) (hr.mono (by decide)) (pa1 (pv 3) (pa1 (pe_op o_add pe_int (pv 7)) pa_nil))) (pcB (o_len (K := K)) rfl T.n_len (by kernel_rfl) (pa1 (pv 5) pa_nil))) (fun _ _ => rfl)) pe_str))
      (pss_one (ps_if (PW.pt (pw_and (pt_cmpR (o_ne (K := K) hu) (pv 8) pe_str (nomark _)) (pw_and1 (pt_cmpR (o_notin (K := K)) (pv 8) (pv 6) (by with_unfolding_all rfl))))) (pss_one (ps_expr (pm1 (K := K) PySem.F.plainAttrs_list PySem.F.slot_list_append PySem.F.type_list_append o_append (pv 6) (pa1 (pv 8) pa_nil)))) pss_nil))))
      (pss_one (ps_ret (pv 6))))))), ?_⟩
    rw [show start ["_law_heads_here", "_law_shared_here", "_law_i", "_law_cell", "_law_own", "_law_some", "_law_found", "_law_k", "_law_name"] [V.ref h, V.ref d, V.int i, V.int c] = [some (V.ref h), some (V.ref d), some (V.int i), some (V.int c), none, none, none, none, none] from rfl]
    obtain ⟨r, a1, a2, a3⟩ := hd
    have S := Same.refl H
    refine tSeq_gen fun B hB => ?_
    simp only [tSeq, tIfS, tRet, tRetN, tC, tVar, tOp, tUn, tTest, tB, tAnd, tOr, tNot, tAndV, tOrV, tNotV, tIf, tChain, tCons, tNil, tCall, tCB, tLst, tTup, tSl, tNoPart, tPart, gName, tNext, tDrop, tAsg, tAsgC, tBM, tYes, tDNewK, rI, rI0, rU, rEq, rNe, rAbs, rIntT, CDiv, add_ii, add_ss, mul_ii, ix_si, eq_ii, eq_ss, ne_ii, ne_ss, isnot_xn, List.append_nil, List.cons_append, List.nil_append, List.getElem?_cons_succ, List.getElem?_cons_zero, List.set_cons_succ, List.set_cons_zero, Option.some.injEq, V.int.injEq, V.bl.injEq, V.str.injEq, V.ref.injEq, V.ty.injEq, List.cons.injEq, and_true, true_and, exists_eq_left, exists_eq_left', exists_and_left, exists_eq', exists_const, exists_and_right, exists_eq_right, exists_eq_right', reduceCtorEq, false_and, and_false, exists_false, or_false, false_or, decide_eq_true_eq, Bool.not_eq_true', decide_eq_false_iff_not, Bool.false_eq_true, if_false, if_true, mk_app, mk_len, sg_mk, mk_one, decide_true, decide_false, Bool.not_true, Bool.not_false, ite_true, ite_false, not_true_eq_false, not_false_eq_true, mk_iff, tyV_str, stComp, List.map_cons, List.map_nil, Option.join_some, Option.join_none, gt_iff_lt, ge_iff_le, tRaise, tTryR, tCallH, tDisp, tPairs, tFld, sFld, tMake, tMeth, tAug, ipI, tDead, tBM0, tRev, l_let, l_fig, l_e, tDGet, tDNotIn, sDPut, tDNewK]
    refine tcomp_listM (K := K) (xs := refsS e.2.ss) (fun a H0 => a = r ∧ H0 = H) (fun R z => by simp only [tSeq, tIfS, tRet, tRetN, tC, tVar, tOp, tUn, tTest, tB, tAnd, tOr, tNot, tAndV, tOrV, tNotV, tIf, tChain, tCons, tNil, tCall, tCB, tLst, tTup, tSl, tNoPart, tPart, gName, tNext, tDrop, tAsg, tAsgC, tBM, tYes, tDNewK, rI, rI0, rU, rEq, rNe, rAbs, rIntT, CDiv, add_ii, add_ss, mul_ii, ix_si, eq_ii, eq_ss, ne_ii, ne_ss, isnot_xn, List.append_nil, List.cons_append, List.nil_append, List.getElem?_cons_succ, List.getElem?_cons_zero, List.set_cons_succ, List.set_cons_zero, Option.some.injEq, V.int.injEq, V.bl.injEq, V.str.injEq, V.ref.injEq, V.ty.injEq, List.cons.injEq, and_true, true_and, exists_eq_left, exists_eq_left', exists_and_left, exists_eq', exists_const, exists_and_right, exists_eq_right, exists_eq_right', reduceCtorEq, false_and, and_false, exists_false, or_false, false_or, decide_eq_true_eq, Bool.not_eq_true', decide_eq_false_iff_not, Bool.false_eq_true, if_false, if_true, mk_app, mk_len, sg_mk, mk_one, decide_true, decide_false, Bool.not_true, Bool.not_false, ite_true, ite_false, not_true_eq_false, not_false_eq_true, mk_iff, tyV_str, stComp, List.map_cons, List.map_nil, Option.join_some, Option.join_none, gt_iff_lt, ge_iff_le, tRaise, tTryR, tCallH, tDisp, tPairs, tFld, sFld, tMake, tMeth, tAug, ipI, tDead, tBM0, tRev, l_let, l_fig, l_e, tDGet, tDNotIn, sDPut, tDNewK]; exact ixL (SqL.of hh) (atIn i0 (by simp [refsS, he])) (ixT (SqT.of a1) (atIn (by decide) rfl) (z _ _ ⟨rfl, rfl⟩))) (fun a i ys H' => a = r ∧ H' = H ∧ ∃ zs : List Str, ys = zs.map V.str) (fun a H0 z => ⟨z.1, z.2, [], rfl⟩) (fun a i ys H' z => by rw [z.1, z.2.1]; exact SqL.of a2) (sl1000 (by simp [refsS]; omega)) (fun a k x ys H' Cy Cn hx z cy cn => ?_) (fun a ys H' own z nl => ?_)
    · obtain ⟨rfl, rfl, zs, rfl⟩ := z
      obtain ⟨s, hs, rfl⟩ := refsS_get hx
      refine ⟨KeepSt.set rfl, ?_⟩
      simp only [tSeq, tIfS, tRet, tRetN, tC, tVar, tOp, tUn, tTest, tB, tAnd, tOr, tNot, tAndV, tOrV, tNotV, tIf, tChain, tCons, tNil, tCall, tCB, tLst, tTup, tSl, tNoPart, tPart, gName, tNext, tDrop, tAsg, tAsgC, tBM, tYes, tDNewK, rI, rI0, rU, rEq, rNe, rAbs, rIntT, CDiv, add_ii, add_ss, mul_ii, ix_si, eq_ii, eq_ss, ne_ii, ne_ss, isnot_xn, List.append_nil, List.cons_append, List.nil_append, List.getElem?_cons_succ, List.getElem?_cons_zero, List.set_cons_succ, List.set_cons_zero, Option.some.injEq, V.int.injEq, V.bl.injEq, V.str.injEq, V.ref.injEq, V.ty.injEq, List.cons.injEq, and_true, true_and, exists_eq_left, exists_eq_left', exists_and_left, exists_eq', exists_const, exists_and_right, exists_eq_right, exists_eq_right', reduceCtorEq, false_and, and_false, exists_false, or_false, false_or, decide_eq_true_eq, Bool.not_eq_true', decide_eq_false_iff_not, Bool.false_eq_true, if_false, if_true, mk_app, mk_len, sg_mk, mk_one, decide_true, decide_false, Bool.not_true, Bool.not_false, ite_true, ite_false, not_true_eq_false, not_false_eq_true, mk_iff, tyV_str, stComp, List.map_cons, List.map_nil, Option.join_some, Option.join_none, gt_iff_lt, ge_iff_le, tRaise, tTryR, tCallH, tDisp, tPairs, tFld, sFld, tMake, tMeth, tAug, ipI, tDead, tBM0, tRev, l_let, l_fig, l_e, tDGet, tDNotIn, sDPut, tDNewK]
      exact ixT (SqT.of (a3 s (List.mem_of_getElem? hs))) (atIn (by decide) rfl) (cy _ _ ⟨rfl, rfl, zs ++ [s.2.n], by rw [List.map_append]; rfl⟩)
    obtain ⟨ea, eh, zs, rfl⟩ := z
    subst eh
    clear a1 a2 a3 ea he hh
    have n0_own := S.no nl
    have X_ := Same.upd (Same.refl H') nl (o := .lst (zs.map V.str))
    have e_own : upd H' own (.lst (zs.map V.str)) own = some (.lst (zs.map V.str)) := upd_same
    replace S := S.trans X_
    replace hr' := rd_same hr' X_
    replace hk := hk.same X_
    generalize upd H' own (.lst (zs.map V.str)) = H1 at X_ e_own hr' hk S ⊢
    clear X_ nl
    
    subst hB
    refine tSeq_gen fun B hB => ?_
    simp only [tSeq, tIfS, tRet, tRetN, tC, tVar, tOp, tUn, tTest, tB, tAnd, tOr, tNot, tAndV, tOrV, tNotV, tIf, tChain, tCons, tNil, tCall, tCB, tLst, tTup, tSl, tNoPart, tPart, gName, tNext, tDrop, tAsg, tAsgC, tBM, tYes, tDNewK, rI, rI0, rU, rEq, rNe, rAbs, rIntT, CDiv, add_ii, add_ss, mul_ii, ix_si, eq_ii, eq_ss, ne_ii, ne_ss, isnot_xn, List.append_nil, List.cons_append, List.nil_append, List.getElem?_cons_succ, List.getElem?_cons_zero, List.set_cons_succ, List.set_cons_zero, Option.some.injEq, V.int.injEq, V.bl.injEq, V.str.injEq, V.ref.injEq, V.ty.injEq, List.cons.injEq, and_true, true_and, exists_eq_left, exists_eq_left', exists_and_left, exists_eq', exists_const, exists_and_right, exists_eq_right, exists_eq_right', reduceCtorEq, false_and, and_false, exists_false, or_false, false_or, decide_eq_true_eq, Bool.not_eq_true', decide_eq_false_iff_not, Bool.false_eq_true, if_false, if_true, mk_app, mk_len, sg_mk, mk_one, decide_true, decide_false, Bool.not_true, Bool.not_false, ite_true, ite_false, not_true_eq_false, not_false_eq_true, mk_iff, tyV_str, stComp, List.map_cons, List.map_nil, Option.join_some, Option.join_none, gt_iff_lt, ge_iff_le, tRaise, tTryR, tCallH, tDisp, tPairs, tFld, sFld, tMake, tMeth, tAug, ipI, tDead, tBM0, tRev, l_let, l_fig, l_e, tDGet, tDNotIn, sDPut, tDNewK]
    refine tcomp_dict (fun R z => ⟨_, rfl, z⟩) hr' (fun o H2 i ys H' => H' = H2 ∧ Frz d o kvs H1 H2 ∧ ∃ zs : List Str, ys = zs.map V.str ∧ zs.length ≤ i ∧ ∀ z ∈ zs, InD kvs z) (fun o H2 fz => ⟨rfl, fz, [], rfl, by simp, (fun _ h => nomatch h)⟩) (fun o H2 i ys H' z => by rw [z.1]; exact z.2.1.1) (sl1000 (by omega)) (fun o H2 k x ys H3 Cy Cn hx z cy cn => ?_) (fun o H2 ys H3 l z nl => ?_)
    · obtain ⟨rfl, fz, us, rfl, lu, hus⟩ := z
      have st : Stay d H1 H3 := fun b o hb e => by rw [fz.2 b hb]; exact e
      rw [List.getElem?_map] at hx
      cases ek : kvs[k]? with
      | none => rw [ek] at hx; cases hx
      | some p =>
        rw [ek] at hx
        cases hx
        have hp := List.mem_of_getElem? ek
        obtain ⟨z, _, _, _, ez, _⟩ := hk p hp
        have hin : InD kvs z := ⟨p, hp, ez⟩
        obtain ⟨t, j, kd, ev, et⟩ := hin.val (hk.stay hr' st)
        refine ⟨KeepSt.set rfl, ?_⟩
        have e2 : (fun p : Key × V => kV p.1) p = V.str z := by show kV p.1 = _; rw [ez]; rfl
        rw [e2]
        simp only [tSeq, tIfS, tRet, tRetN, tC, tVar, tOp, tUn, tTest, tB, tAnd, tOr, tNot, tAndV, tOrV, tNotV, tIf, tChain, tCons, tNil, tCall, tCB, tLst, tTup, tSl, tNoPart, tPart, gName, tNext, tDrop, tAsg, tAsgC, tBM, tYes, tDNewK, rI, rI0, rU, rEq, rNe, rAbs, rIntT, CDiv, add_ii, add_ss, mul_ii, ix_si, eq_ii, eq_ss, ne_ii, ne_ss, isnot_xn, List.append_nil, List.cons_append, List.nil_append, List.getElem?_cons_succ, List.getElem?_cons_zero, List.set_cons_succ, List.set_cons_zero, Option.some.injEq, V.int.injEq, V.bl.injEq, V.str.injEq, V.ref.injEq, V.ty.injEq, List.cons.injEq, and_true, true_and, exists_eq_left, exists_eq_left', exists_and_left, exists_eq', exists_const, exists_and_right, exists_eq_right, exists_eq_right', reduceCtorEq, false_and, and_false, exists_false, or_false, false_or, decide_eq_true_eq, Bool.not_eq_true', decide_eq_false_iff_not, Bool.false_eq_true, if_false, if_true, mk_app, mk_len, sg_mk, mk_one, decide_true, decide_false, Bool.not_true, Bool.not_false, ite_true, ite_false, not_true_eq_false, not_false_eq_true, mk_iff, tyV_str, stComp, List.map_cons, List.map_nil, Option.join_some, Option.join_none, gt_iff_lt, ge_iff_le, tRaise, tTryR, tCallH, tDisp, tPairs, tFld, sFld, tMake, tMeth, tAug, ipI, tDead, tBM0, tRev, l_let, l_fig, l_e, tDGet, tDNotIn, sDPut, tDNewK]
        refine ⟨_, .inl ⟨kvs, Sum.inr z, .inr ⟨o, fz.1⟩, rfl, ev.symm⟩, ixT (SqT.of et) (atIn (by decide) rfl) ?_⟩
        simp only [tSeq, tIfS, tRet, tRetN, tC, tVar, tOp, tUn, tTest, tB, tAnd, tOr, tNot, tAndV, tOrV, tNotV, tIf, tChain, tCons, tNil, tCall, tCB, tLst, tTup, tSl, tNoPart, tPart, gName, tNext, tDrop, tAsg, tAsgC, tBM, tYes, tDNewK, rI, rI0, rU, rEq, rNe, rAbs, rIntT, CDiv, add_ii, add_ss, mul_ii, ix_si, eq_ii, eq_ss, ne_ii, ne_ss, isnot_xn, List.append_nil, List.cons_append, List.nil_append, List.getElem?_cons_succ, List.getElem?_cons_zero, List.set_cons_succ, List.set_cons_zero, Option.some.injEq, V.int.injEq, V.bl.injEq, V.str.injEq, V.ref.injEq, V.ty.injEq, List.cons.injEq, and_true, true_and, exists_eq_left, exists_eq_left', exists_and_left, exists_eq', exists_const, exists_and_right, exists_eq_right, exists_eq_right', reduceCtorEq, false_and, and_false, exists_false, or_false, false_or, decide_eq_true_eq, Bool.not_eq_true', decide_eq_false_iff_not, Bool.false_eq_true, if_false, if_true, mk_app, mk_len, sg_mk, mk_one, decide_true, decide_false, Bool.not_true, Bool.not_false, ite_true, ite_false, not_true_eq_false, not_false_eq_true, mk_iff, tyV_str, stComp, List.map_cons, List.map_nil, Option.join_some, Option.join_none, gt_iff_lt, ge_iff_le, tRaise, tTryR, tCallH, tDisp, tPairs, tFld, sFld, tMake, tMeth, tAug, ipI, tDead, tBM0, tRev, l_let, l_fig, l_e, tDGet, tDNotIn, sDPut, tDNewK]
        refine ite2 (fun _ => notInL (st _ _ (rd_neL hr' e_own) e_own) fun b => ⟨_, rfl, ite2 (fun _ => cy _ _ ⟨rfl, fz, us ++ [z], by rw [List.map_append]; rfl, by simp; omega, fun w hw => ?_⟩) fun _ => cn _ ⟨rfl, fz, us, rfl, by omega, hus⟩⟩) fun _ => cn _ ⟨rfl, fz, us, rfl, by omega, hus⟩
        rcases List.mem_append.mp hw with h | h
        · exact hus w h
        · rw [List.mem_singleton.mp h]; exact hin
    · obtain ⟨rfl, fz, us, rfl, lu, hus⟩ := z
      have st : Stay d H1 H3 := fun b o hb e => by rw [fz.2 b hb]; exact e
      have rd3 : Rd H3 d (.dK kvs) := .inr ⟨o, fz.1⟩
      have T3 : Stay d H' H3 := (Stay.of S).trans st
      clear fz st hr' hk e_own n0_own S
      have n0_l := T3.no rd3 nl
      have X_ := Same.upd (Same.refl H3) nl (o := .lst (us.map V.str))
      have e_l : upd H3 l (.lst (us.map V.str)) l = some (.lst (us.map V.str)) := upd_same
      replace T3 := T3.trans (Stay.of X_)
      replace rd3 := rd_same rd3 X_
      generalize upd H3 l (.lst (us.map V.str)) = H4 at X_ e_l rd3 T3 ⊢
      clear X_ nl
    
      subst hB
      refine tSeq_gen fun B hB => ?_
      simp only [tSeq, tIfS, tRet, tRetN, tC, tVar, tOp, tUn, tTest, tB, tAnd, tOr, tNot, tAndV, tOrV, tNotV, tIf, tChain, tCons, tNil, tCall, tCB, tLst, tTup, tSl, tNoPart, tPart, gName, tNext, tDrop, tAsg, tAsgC, tBM, tYes, tDNewK, rI, rI0, rU, rEq, rNe, rAbs, rIntT, CDiv, add_ii, add_ss, mul_ii, ix_si, eq_ii, eq_ss, ne_ii, ne_ss, isnot_xn, List.append_nil, List.cons_append, List.nil_append, List.getElem?_cons_succ, List.getElem?_cons_zero, List.set_cons_succ, List.set_cons_zero, Option.some.injEq, V.int.injEq, V.bl.injEq, V.str.injEq, V.ref.injEq, V.ty.injEq, List.cons.injEq, and_true, true_and, exists_eq_left, exists_eq_left', exists_and_left, exists_eq', exists_const, exists_and_right, exists_eq_right, exists_eq_right', reduceCtorEq, false_and, and_false, exists_false, or_false, false_or, decide_eq_true_eq, Bool.not_eq_true', decide_eq_false_iff_not, Bool.false_eq_true, if_false, if_true, mk_app, mk_len, sg_mk, mk_one, decide_true, decide_false, Bool.not_true, Bool.not_false, ite_true, ite_false, not_true_eq_false, not_false_eq_true, mk_iff, tyV_str, stComp, List.map_cons, List.map_nil, Option.join_some, Option.join_none, gt_iff_lt, ge_iff_le, tRaise, tTryR, tCallH, tDisp, tPairs, tFld, sFld, tMake, tMeth, tAug, ipI, tDead, tBM0, tRev, l_let, l_fig, l_e, tDGet, tDNotIn, sDPut, tDNewK]
      refine ⟨sl1000 (by simp), fun f nf => ?_⟩
      have n0_f := T3.no rd3 nf
      have X_ := Same.upd (Same.refl H4) nf (o := .lst [])
      have e_f : upd H4 f (.lst []) f = some (.lst []) := upd_same
      have d_l_f := ne_of_none e_l nf
      replace e_l := X_ _ _ e_l
      replace T3 := T3.trans (Stay.of X_)
      replace rd3 := rd_same rd3 X_
      generalize upd H4 f (.lst []) = H5 at X_ e_f e_l rd3 T3 ⊢
      clear X_ nf
    
      subst hB
      refine tfor_rng (c % 4) (by omega) (by omega) (fun R h => by simp only [tSeq, tIfS, tRet, tRetN, tC, tVar, tOp, tUn, tTest, tB, tAnd, tOr, tNot, tAndV, tOrV, tNotV, tIf, tChain, tCons, tNil, tCall, tCB, tLst, tTup, tSl, tNoPart, tPart, gName, tNext, tDrop, tAsg, tAsgC, tBM, tYes, tDNewK, rI, rI0, rU, rEq, rNe, rAbs, rIntT, CDiv, add_ii, add_ss, mul_ii, ix_si, eq_ii, eq_ss, ne_ii, ne_ss, isnot_xn, List.append_nil, List.cons_append, List.nil_append, List.getElem?_cons_succ, List.getElem?_cons_zero, List.set_cons_succ, List.set_cons_zero, Option.some.injEq, V.int.injEq, V.bl.injEq, V.str.injEq, V.ref.injEq, V.ty.injEq, List.cons.injEq, and_true, true_and, exists_eq_left, exists_eq_left', exists_and_left, exists_eq', exists_const, exists_and_right, exists_eq_right, exists_eq_right', reduceCtorEq, false_and, and_false, exists_false, or_false, false_or, decide_eq_true_eq, Bool.not_eq_true', decide_eq_false_iff_not, Bool.false_eq_true, if_false, if_true, mk_app, mk_len, sg_mk, mk_one, decide_true, decide_false, Bool.not_true, Bool.not_false, ite_true, ite_false, not_true_eq_false, not_false_eq_true, mk_iff, tyV_str, stComp, List.map_cons, List.map_nil, Option.join_some, Option.join_none, gt_iff_lt, ge_iff_le, tRaise, tTryR, tCallH, tDisp, tPairs, tFld, sFld, tMake, tMeth, tAug, ipI, tDead, tBM0, tRev, l_let, l_fig, l_e, tDGet, tDNotIn, sDPut, tDNewK]; exact ⟨by decide, h⟩) (fun j σ H6 => Stay d H' H6 ∧ Rd H6 d (.dK kvs) ∧ H6 l = some (.lst (us.map V.str)) ∧ ∃ (ws : List Str) (v7 v8 : Option V), H6 f = some (.lst (ws.map V.str)) ∧ ws.length ≤ j ∧ (∀ w ∈ ws, InD kvs w) ∧ σ = [some (V.ref h), some (V.ref d), some (V.int i), some (V.int c), some (V.ref own), some (V.ref l), some (V.ref f), v7, v8]) ⟨T3, rd3, e_l, [], none, none, e_f, by simp, (fun _ h => nomatch h), rfl⟩ ?_ ?_
      · clear T3 rd3 e_l e_f H5 H4 H3
        rintro j σ H5 hj ⟨T5, r5, el, ws, v7, v8, ef, lw, hw, rfl⟩
        refine tSeq_gen fun B hB => ?_
        simp only [tSeq, tIfS, tRet, tRetN, tC, tVar, tOp, tUn, tTest, tB, tAnd, tOr, tNot, tAndV, tOrV, tNotV, tIf, tChain, tCons, tNil, tCall, tCB, tLst, tTup, tSl, tNoPart, tPart, gName, tNext, tDrop, tAsg, tAsgC, tBM, tYes, tDNewK, rI, rI0, rU, rEq, rNe, rAbs, rIntT, CDiv, add_ii, add_ss, mul_ii, ix_si, eq_ii, eq_ss, ne_ii, ne_ss, isnot_xn, List.append_nil, List.cons_append, List.nil_append, List.getElem?_cons_succ, List.getElem?_cons_zero, List.set_cons_succ, List.set_cons_zero, Option.some.injEq, V.int.injEq, V.bl.injEq, V.str.injEq, V.ref.injEq, V.ty.injEq, List.cons.injEq, and_true, true_and, exists_eq_left, exists_eq_left', exists_and_left, exists_eq', exists_const, exists_and_right, exists_eq_right, exists_eq_right', reduceCtorEq, false_and, and_false, exists_false, or_false, false_or, decide_eq_true_eq, Bool.not_eq_true', decide_eq_false_iff_not, Bool.false_eq_true, if_false, if_true, mk_app, mk_len, sg_mk, mk_one, decide_true, decide_false, Bool.not_true, Bool.not_false, ite_true, ite_false, not_true_eq_false, not_false_eq_true, mk_iff, tyV_str, stComp, List.map_cons, List.map_nil, Option.join_some, Option.join_none, gt_iff_lt, ge_iff_le, tRaise, tTryR, tCallH, tDisp, tPairs, tFld, sFld, tMake, tMeth, tAug, ipI, tDead, tBM0, tRev, l_let, l_fig, l_e, tDGet, tDNotIn, sDPut, tDNewK]
        refine ⟨sl1000 (by simp), fun p np => ?_⟩
        have n0_p := T5.no r5 np
        have X_ := Same.upd (Same.refl H5) np (o := .lst [])
        have e_p : upd H5 p (.lst []) p = some (.lst []) := upd_same
        replace el := X_ _ _ el
        replace ef := X_ _ _ ef
        replace T5 := T5.trans (Stay.of X_)
        replace r5 := rd_same r5 X_
        generalize upd H5 p (.lst []) = H6 at X_ e_p el ef r5 T5 ⊢
        clear X_ np
    
        refine neLL (SqL.of el) (SqL.of e_p) (flat_strs us) rfl ⟨_, rfl, ?_⟩
        by_cases hu : us = []
        · subst hu
          refine ifN rfl ?_
          subst hB
          simp only [tSeq, tIfS, tRet, tRetN, tC, tVar, tOp, tUn, tTest, tB, tAnd, tOr, tNot, tAndV, tOrV, tNotV, tIf, tChain, tCons, tNil, tCall, tCB, tLst, tTup, tSl, tNoPart, tPart, gName, tNext, tDrop, tAsg, tAsgC, tBM, tYes, tDNewK, rI, rI0, rU, rEq, rNe, rAbs, rIntT, CDiv, add_ii, add_ss, mul_ii, ix_si, eq_ii, eq_ss, ne_ii, ne_ss, isnot_xn, List.append_nil, List.cons_append, List.nil_append, List.getElem?_cons_succ, List.getElem?_cons_zero, List.set_cons_succ, List.set_cons_zero, Option.some.injEq, V.int.injEq, V.bl.injEq, V.str.injEq, V.ref.injEq, V.ty.injEq, List.cons.injEq, and_true, true_and, exists_eq_left, exists_eq_left', exists_and_left, exists_eq', exists_const, exists_and_right, exists_eq_right, exists_eq_right', reduceCtorEq, false_and, and_false, exists_false, or_false, false_or, decide_eq_true_eq, Bool.not_eq_true', decide_eq_false_iff_not, Bool.false_eq_true, if_false, if_true, mk_app, mk_len, sg_mk, mk_one, decide_true, decide_false, Bool.not_true, Bool.not_false, ite_true, ite_false, not_true_eq_false, not_false_eq_true, mk_iff, tyV_str, stComp, List.map_cons, List.map_nil, Option.join_some, Option.join_none, gt_iff_lt, ge_iff_le, tRaise, tTryR, tCallH, tDisp, tPairs, tFld, sFld, tMake, tMeth, tAug, ipI, tDead, tBM0, tRev, l_let, l_fig, l_e, tDGet, tDNotIn, sDPut, tDNewK]
          exact ⟨T5, r5, el, ws, ef, by omega, hw⟩
        · have e0 : (!eqL (us.map V.str) []) = true := by
            cases us with
            | nil => exact absurd rfl hu
            | cons => rfl
          have l0 : 0 < us.length := List.length_pos_iff.mpr hu
          refine ifY e0 ⟨c, 30 + (j : Int), rfl, by omega, by omega, lenL (SqL.of el) ?_⟩
          rw [List.length_map]
          simp only [tSeq, tIfS, tRet, tRetN, tC, tVar, tOp, tUn, tTest, tB, tAnd, tOr, tNot, tAndV, tOrV, tNotV, tIf, tChain, tCons, tNil, tCall, tCB, tLst, tTup, tSl, tNoPart, tPart, gName, tNext, tDrop, tAsg, tAsgC, tBM, tYes, tDNewK, rI, rI0, rU, rEq, rNe, rAbs, rIntT, CDiv, add_ii, add_ss, mul_ii, ix_si, eq_ii, eq_ss, ne_ii, ne_ss, isnot_xn, List.append_nil, List.cons_append, List.nil_append, List.getElem?_cons_succ, List.getElem?_cons_zero, List.set_cons_succ, List.set_cons_zero, Option.some.injEq, V.int.injEq, V.bl.injEq, V.str.injEq, V.ref.injEq, V.ty.injEq, List.cons.injEq, and_true, true_and, exists_eq_left, exists_eq_left', exists_and_left, exists_eq', exists_const, exists_and_right, exists_eq_right, exists_eq_right', reduceCtorEq, false_and, and_false, exists_false, or_false, false_or, decide_eq_true_eq, Bool.not_eq_true', decide_eq_false_iff_not, Bool.false_eq_true, if_false, if_true, mk_app, mk_len, sg_mk, mk_one, decide_true, decide_false, Bool.not_true, Bool.not_false, ite_true, ite_false, not_true_eq_false, not_false_eq_true, mk_iff, tyV_str, stComp, List.map_cons, List.map_nil, Option.join_some, Option.join_none, gt_iff_lt, ge_iff_le, tRaise, tTryR, tCallH, tDisp, tPairs, tFld, sFld, tMake, tMeth, tAug, ipI, tDead, tBM0, tRev, l_let, l_fig, l_e, tDGet, tDNotIn, sDPut, tDNewK]
          have hb := Int.emod_nonneg (mixT c (30 + (j : Int))) (show (us.length : Int) ≠ 0 by omega)
          have hb2 := Int.emod_lt_of_pos (mixT c (30 + (j : Int))) (show 0 < (us.length : Int) by omega)
          obtain ⟨z, ez⟩ : ∃ z, us[(mixT c (30 + (j : Int)) % (us.length : Int)).toNat]? = some z := ⟨_, List.getElem?_eq_getElem (by omega)⟩
          have hz := hus z (List.mem_of_getElem? ez)
          refine ⟨by omega, ixL (SqL.of el) (v := V.str z) (atIn hb (by rw [List.getElem?_map, ez]; rfl)) ?_⟩
          subst hB
          simp only [tSeq, tIfS, tRet, tRetN, tC, tVar, tOp, tUn, tTest, tB, tAnd, tOr, tNot, tAndV, tOrV, tNotV, tIf, tChain, tCons, tNil, tCall, tCB, tLst, tTup, tSl, tNoPart, tPart, gName, tNext, tDrop, tAsg, tAsgC, tBM, tYes, tDNewK, rI, rI0, rU, rEq, rNe, rAbs, rIntT, CDiv, add_ii, add_ss, mul_ii, ix_si, eq_ii, eq_ss, ne_ii, ne_ss, isnot_xn, List.append_nil, List.cons_append, List.nil_append, List.getElem?_cons_succ, List.getElem?_cons_zero, List.set_cons_succ, List.set_cons_zero, Option.some.injEq, V.int.injEq, V.bl.injEq, V.str.injEq, V.ref.injEq, V.ty.injEq, List.cons.injEq, and_true, true_and, exists_eq_left, exists_eq_left', exists_and_left, exists_eq', exists_const, exists_and_right, exists_eq_right, exists_eq_right', reduceCtorEq, false_and, and_false, exists_false, or_false, false_or, decide_eq_true_eq, Bool.not_eq_true', decide_eq_false_iff_not, Bool.false_eq_true, if_false, if_true, mk_app, mk_len, sg_mk, mk_one, decide_true, decide_false, Bool.not_true, Bool.not_false, ite_true, ite_false, not_true_eq_false, not_false_eq_true, mk_iff, tyV_str, stComp, List.map_cons, List.map_nil, Option.join_some, Option.join_none, gt_iff_lt, ge_iff_le, tRaise, tTryR, tCallH, tDisp, tPairs, tFld, sFld, tMake, tMeth, tAug, ipI, tDead, tBM0, tRev, l_let, l_fig, l_e, tDGet, tDNotIn, sDPut, tDNewK]
          refine ite2 (fun _ => notInL ef fun b => ⟨_, rfl, ite2 (fun _ => ⟨tyV_lst (SqL.of ef), appL ef (by rw [List.length_map, sizeLine_eq]; omega) ⟨Stay.set T5 n0_f, rd_set r5 ef (fun _ h => nomatch h), keepU el d_l_f, ws ++ [z], by rw [upd_same, List.map_append]; rfl, by simp; omega, fun w hh => ?_⟩⟩) fun _ => ⟨T5, r5, el, ws, ef, by omega, hw⟩⟩) fun _ => ⟨T5, r5, el, ws, ef, by omega, hw⟩
          rcases List.mem_append.mp hh with h | h
          · exact hw w h
          · rw [List.mem_singleton.mp h]; exact hz
      · rintro σ H6 ⟨T6, r6, el, ws, v7, v8, ef, lw, hw, rfl⟩
        simp only [tSeq, tIfS, tRet, tRetN, tC, tVar, tOp, tUn, tTest, tB, tAnd, tOr, tNot, tAndV, tOrV, tNotV, tIf, tChain, tCons, tNil, tCall, tCB, tLst, tTup, tSl, tNoPart, tPart, gName, tNext, tDrop, tAsg, tAsgC, tBM, tYes, tDNewK, rI, rI0, rU, rEq, rNe, rAbs, rIntT, CDiv, add_ii, add_ss, mul_ii, ix_si, eq_ii, eq_ss, ne_ii, ne_ss, isnot_xn, List.append_nil, List.cons_append, List.nil_append, List.getElem?_cons_succ, List.getElem?_cons_zero, List.set_cons_succ, List.set_cons_zero, Option.some.injEq, V.int.injEq, V.bl.injEq, V.str.injEq, V.ref.injEq, V.ty.injEq, List.cons.injEq, and_true, true_and, exists_eq_left, exists_eq_left', exists_and_left, exists_eq', exists_const, exists_and_right, exists_eq_right, exists_eq_right', reduceCtorEq, false_and, and_false, exists_false, or_false, false_or, decide_eq_true_eq, Bool.not_eq_true', decide_eq_false_iff_not, Bool.false_eq_true, if_false, if_true, mk_app, mk_len, sg_mk, mk_one, decide_true, decide_false, Bool.not_true, Bool.not_false, ite_true, ite_false, not_true_eq_false, not_false_eq_true, mk_iff, tyV_str, stComp, List.map_cons, List.map_nil, Option.join_some, Option.join_none, gt_iff_lt, ge_iff_le, tRaise, tTryR, tCallH, tDisp, tPairs, tFld, sFld, tMake, tMeth, tAug, ipI, tDead, tBM0, tRev, l_let, l_fig, l_e, tDGet, tDNotIn, sDPut, tDNewK]
        exact q f ws H6 n0_f T6 r6 ef (by omega) hw
noncomputable def sp__law_part : Sp := fun vs H Q E => ∃ (e : Addr × HeadD) (w d : Addr) (c : Int) (ws : List Str) (kvs : List (Key × V)), vs = [.ref e.1, .ref w, .ref d, .int c] ∧ HeadAt H e ∧ e.2.ss.length ≤ 4 ∧ H w = some (.lst (ws.map V.str)) ∧ ws.length ≤ 3 ∧ (∀ z ∈ ws, InD kvs z) ∧ Rd H d (.dK kvs) ∧ DOk H kvs ∧ ∀ t (ts : List (Addr × Sec)) H', H t = none → Same H H' → MdN w H H' (t, ⟨e.2.n, ts⟩) → ts.map hdr = e.2.ss.map (·.2) → RowsOk ts → Q (.ref t) H'
theorem sc__law_part : FnScope ["_law_head", "_law_wants_here", "_law_shared_here", "_law_cell", "_law_goals", "_law_sections", "_law_places", "_law_line", "_law_number", "_law_section", "_law_more", "_law_row", "_law_some", "_law_offset", "_law_way", "_law_name"] ["_law_head", "_law_wants_here", "_law_shared_here", "_law_cell"] (defScope s__law_part) := ⟨rfl, rfl, rfl, by decide +kernel, rfl, by decide +kernel, by decide +kernel⟩
theorem ok__law_part (T : Txt K mg) : FnOk P w K mg base CX0 4 T.d__law_part.f T.d__law_part.fd ["_law_head", "_law_wants_here", "_law_shared_here", "_law_cell"] (sp__law_part) := by
  have nd := sc__law_part.nd
  refine T.d__law_part.F.ok sc__law_part (fun vs H Q E h => ?_) (fun cdv A outer s H vs Q E hr h => ?_)
  · obtain ⟨e, w, d, c, ws, kvs, rfl, hd, ls, hw, lw, hin, hr', hk, q⟩ := h
    rfl
  · obtain ⟨e, w, d, c, ws, kvs, rfl, hd, ls, hw, lw, hin, hr', hk, q⟩ := h
    have hu := hr.units0
    refine ⟨_, (pss_cons (ps_set (i := 4) nd rfl (Or.inl rfl) (pe_op o_add (pe_lcomp (N' := ["_law_section"]) (src := [none]) rfl (CompScope.of (by kernel_rfl)) (pi_listK (K := K) (pe_ix (o_ix (K := K)) (pv 0) pe_int (fun _ _ => rfl))) (fun _ _ _ _ _ _ => (pg_name (i := 0) (show (["_law_section"] : List Str).Nodup by decide +kernel) rfl (Or.inl rfl))) (fun _ _ _ _ _ _ => pif_nil) (fun _ _ _ _ _ _ => (pe_tup (pa1 (pe_ix (o_ix (K := K)) (pv 0) pe_int (fun _ _ => rfl)) (pa1 (pe_ix (o_ix (K := K)) (pv 0) pe_int (fun _ _ => rfl)) pa_nil))))) (pe_lcomp (N' := ["_law_name", "_law_shared_here"]) (src := [none, some 2]) rfl (CompScope.of (by kernel_rfl)) (pi_listK (K := K) (pv 1)) (fun _ _ _ _ _ _ => (pg_name (i := 0) (show (["_law_name", "_law_shared_here"] : List Str).Nodup by decide +kernel) rfl (Or.inl rfl))) (fun _ _ _ _ _ _ => pif_nil) (fun _ _ _ _ _ _ => (pe_tup (pa1 (pv 0) (pa1 (pe_ix (o_ix (K := K)) (pe_dget (hu_of hr) (pv 1) (pv 0) (fun _ _ => rfl)) pe_int (fun _ _ => rfl)) pa_nil)))))))
      (pss_cons (ps_set (i := 5) nd rfl (Or.inl rfl) (pe_lst pa_nil))
      (pss_cons (ps_set (i := 6) nd rfl (Or.inl rfl) (pe_lst pa_nil))
      (pss_cons (ps_set (i := 7) nd rfl (Or.inl rfl) pe_int)
      (pss_cons (ps_for PassesOwn.never rfl (pi_enum rfl T.n_enumerate (pa1 (pe_ix (o_ix (K := K)) (pv 0) pe_int (fun _ _ => rfl)) pa_nil)) (pg_tupK (K := K) (n := 2) rfl (pgs_cons (pg_name (i := 8) nd rfl (Or.inl rfl)) (pgs_cons (pg_name (i := 9) nd rfl (Or.inl rfl)) pgs_nil)))
        (pss_cons (ps_set (i := 10) nd rfl (Or.inl rfl) (pc1 T.d__law_mixed (ok__law_mixed T) (hr.mono (by decide)) (pa1 (pv 3) (pa1 (pe_op o_add pe_int (pv 8)) pa_nil))))
      (pss_cons (ps_set (i := 11) nd rfl (Or.inl rfl) (pc1 T.d__law_data (ok__law_data T) (hr.mono (by decide)) (pa1 (pv 10) pa_nil)))
      (pss_cons (ps_if (pt_cmpR (o_eq (K := K) hu) (pe_ix (o_ix (K := K)) (pv 9) pe_int (fun _ _ => rfl)) pe_str (nomark _)) (pss_cons (ps_asg (pc1 T.d__law_code (ok__law_code T) (hr.mono (by decide)) (pa1 (pv 10) (pa1 (pv 4) pa_nil))) (pg_tupK (K := K) (n := 2) rfl (pgs_cons (pg_name (i := 11) nd rfl (Or.inl rfl)) (pgs_cons (pg_name (i := 12) nd rfl (Or.inl rfl)) pgs_nil))))
      (pss_one (ps_for PassesOwn.never rfl (pi_listK (K := K) (pv 12)) (pg_tupK (K := K) (n := 3) rfl (pgs_cons (pg_name (i := 13) nd rfl (Or.inl rfl)) (pgs_cons (pg_name (i := 14) nd rfl (Or.inl rfl)) (pgs_cons (pg_name (i := 15) nd rfl (Or.inl rfl)) pgs_nil))))
        (pss_cons (ps_set (i := 7) nd rfl (Or.inl rfl) (pe_op o_add (pe_op o_add (pv 7) pe_int) (pe_op op_mod (pc1 T.d__law_mixed (ok__law_mixed T) (hr.mono (by decide)) (pa1 (pv 10) (pa1 (pe_op o_add pe_int (pv 13)) pa_nil))) pe_int)))
      (pss_one (ps_expr (pm1 (K := K) PySem.F.plainAttrs_list PySem.F.slot_list_append PySem.F.type_list_append o_append (pv 6) (pa1 (pe_tup (pa1 (pv 8) (pa1 (pv 13) (pa1 (pv 14) (pa1 (pv 15) (pa1 (pv 7) pa_nil)))))) pa_nil)))))))) pss_nil)
      (pss_one (ps_expr (pm1 (K := K) PySem.F.plainAttrs_list PySem.F.slot_list_append PySem.F.type_list_append o_append (pv 5) (pa1 (pe_tup (pa1 (pe_ix (o_ix (K := K)) (pv 9) pe_int (fun _ _ => rfl)) (pa1 (pe_ix (o_ix (K := K)) (pv 9) pe_int (fun _ _ => rfl)) (pa1 (pe_ix (o_ix (K := K)) (pv 9) pe_int (fun _ _ => rfl)) (pa1 (pv 11) pa_nil))))) pa_nil))))))))
      (pss_one (ps_ret (pe_tup (pa1 (pe_ix (o_ix (K := K)) (pv 0) pe_int (fun _ _ => rfl)) (pa1 (pv 5) (pa1 (pv 1) (pa1 (pv 6) pa_nil)))))))))))), ?_⟩
    rw [show start ["_law_head", "_law_wants_here", "_law_shared_here", "_law_cell", "_law_goals", "_law_sections", "_law_places", "_law_line", "_law_number", "_law_section", "_law_more", "_law_row", "_law_some", "_law_offset", "_law_way", "_law_name"] [V.ref e.1, V.ref w, V.ref d, V.int c] = [some (V.ref e.1), some (V.ref w), some (V.ref d), some (V.int c), none, none, none, none, none, none, none, none, none, none, none, none] from rfl]
    obtain ⟨r, a1, a2, a3⟩ := hd
    have S := Same.refl H
    refine tSeq_gen fun B hB => ?_
    simp only [tSeq, tIfS, tRet, tRetN, tC, tVar, tOp, tUn, tTest, tB, tAnd, tOr, tNot, tAndV, tOrV, tNotV, tIf, tChain, tCons, tNil, tCall, tCB, tLst, tTup, tSl, tNoPart, tPart, gName, tNext, tDrop, tAsg, tAsgC, tBM, tYes, tDNewK, rI, rI0, rU, rEq, rNe, rAbs, rIntT, CDiv, add_ii, add_ss, mul_ii, ix_si, eq_ii, eq_ss, ne_ii, ne_ss, isnot_xn, List.append_nil, List.cons_append, List.nil_append, List.getElem?_cons_succ, List.getElem?_cons_zero, List.set_cons_succ, List.set_cons_zero, Option.some.injEq, V.int.injEq, V.bl.injEq, V.str.injEq, V.ref.injEq, V.ty.injEq, List.cons.injEq, and_true, true_and, exists_eq_left, exists_eq_left', exists_and_left, exists_eq', exists_const, exists_and_right, exists_eq_right, exists_eq_right', reduceCtorEq, false_and, and_false, exists_false, or_false, false_or, decide_eq_true_eq, Bool.not_eq_true', decide_eq_false_iff_not, Bool.false_eq_true, if_false, if_true, mk_app, mk_len, sg_mk, mk_one, decide_true, decide_false, Bool.not_true, Bool.not_false, ite_true, ite_false, not_true_eq_false, not_false_eq_true, mk_iff, tyV_str, stComp, List.map_cons, List.map_nil, Option.join_some, Option.join_none, gt_iff_lt, ge_iff_le, tRaise, tTryR, tCallH, tDisp, tPairs, tFld, sFld, tMake, tMeth, tAug, ipI, tDead, tBM0, tRev, l_let, l_fig, l_e, tDGet, tDNotIn, sDPut, tDNewK]
    refine tcomp_listM (K := K) (xs := refsS e.2.ss) (fun a H0 => a = r ∧ H0 = H) (fun R z => by simp only [tSeq, tIfS, tRet, tRetN, tC, tVar, tOp, tUn, tTest, tB, tAnd, tOr, tNot, tAndV, tOrV, tNotV, tIf, tChain, tCons, tNil, tCall, tCB, tLst, tTup, tSl, tNoPart, tPart, gName, tNext, tDrop, tAsg, tAsgC, tBM, tYes, tDNewK, rI, rI0, rU, rEq, rNe, rAbs, rIntT, CDiv, add_ii, add_ss, mul_ii, ix_si, eq_ii, eq_ss, ne_ii, ne_ss, isnot_xn, List.append_nil, List.cons_append, List.nil_append, List.getElem?_cons_succ, List.getElem?_cons_zero, List.set_cons_succ, List.set_cons_zero, Option.some.injEq, V.int.injEq, V.bl.injEq, V.str.injEq, V.ref.injEq, V.ty.injEq, List.cons.injEq, and_true, true_and, exists_eq_left, exists_eq_left', exists_and_left, exists_eq', exists_const, exists_and_right, exists_eq_right, exists_eq_right', reduceCtorEq, false_and, and_false, exists_false, or_false, false_or, decide_eq_true_eq, Bool.not_eq_true', decide_eq_false_iff_not, Bool.false_eq_true, if_false, if_true, mk_app, mk_len, sg_mk, mk_one, decide_true, decide_false, Bool.not_true, Bool.not_false, ite_true, ite_false, not_true_eq_false, not_false_eq_true, mk_iff, tyV_str, stComp, List.map_cons, List.map_nil, Option.join_some, Option.join_none, gt_iff_lt, ge_iff_le, tRaise, tTryR, tCallH, tDisp, tPairs, tFld, sFld, tMake, tMeth, tAug, ipI, tDead, tBM0, tRev, l_let, l_fig, l_e, tDGet, tDNotIn, sDPut, tDNewK]; exact ixT (SqT.of a1) (atIn (by decide) rfl) (z _ _ ⟨rfl, rfl⟩)) (fun a i ys H' => a = r ∧ Same H H' ∧ ∃ gs : List (Addr × (Str × Str)), ys = refsS gs ∧ gs.length ≤ i ∧ ∀ g ∈ gs, GoAt H' g) (fun a H0 z => ⟨z.1, by rw [z.2]; exact S, [], rfl, by simp, (fun _ h => nomatch h)⟩) (fun a i ys H' z => by rw [z.1]; exact SqL.of (z.2.1 _ _ a2)) (sl1000 (by simp [refsS]; omega)) (fun a k x ys H' Cy Cn hx z cy cn => ?_) (fun a ys H1 g1 z ng1 => ?_)
    · obtain ⟨_, S1, gs, rfl, lg, hgs⟩ := z
      obtain ⟨s, hs, rfl⟩ := refsS_get hx
      have es := S1 _ _ (a3 s (List.mem_of_getElem? hs))
      refine ⟨KeepSt.set rfl, ?_⟩
      simp only [tSeq, tIfS, tRet, tRetN, tC, tVar, tOp, tUn, tTest, tB, tAnd, tOr, tNot, tAndV, tOrV, tNotV, tIf, tChain, tCons, tNil, tCall, tCB, tLst, tTup, tSl, tNoPart, tPart, gName, tNext, tDrop, tAsg, tAsgC, tBM, tYes, tDNewK, rI, rI0, rU, rEq, rNe, rAbs, rIntT, CDiv, add_ii, add_ss, mul_ii, ix_si, eq_ii, eq_ss, ne_ii, ne_ss, isnot_xn, List.append_nil, List.cons_append, List.nil_append, List.getElem?_cons_succ, List.getElem?_cons_zero, List.set_cons_succ, List.set_cons_zero, Option.some.injEq, V.int.injEq, V.bl.injEq, V.str.injEq, V.ref.injEq, V.ty.injEq, List.cons.injEq, and_true, true_and, exists_eq_left, exists_eq_left', exists_and_left, exists_eq', exists_const, exists_and_right, exists_eq_right, exists_eq_right', reduceCtorEq, false_and, and_false, exists_false, or_false, false_or, decide_eq_true_eq, Bool.not_eq_true', decide_eq_false_iff_not, Bool.false_eq_true, if_false, if_true, mk_app, mk_len, sg_mk, mk_one, decide_true, decide_false, Bool.not_true, Bool.not_false, ite_true, ite_false, not_true_eq_false, not_false_eq_true, mk_iff, tyV_str, stComp, List.map_cons, List.map_nil, Option.join_some, Option.join_none, gt_iff_lt, ge_iff_le, tRaise, tTryR, tCallH, tDisp, tPairs, tFld, sFld, tMake, tMeth, tAug, ipI, tDead, tBM0, tRev, l_let, l_fig, l_e, tDGet, tDNotIn, sDPut, tDNewK]
      refine ixT (SqT.of es) (atIn (by decide) rfl) (ixT (SqT.of es) (atIn (by decide) rfl) ⟨sl1000 (by simp), fun p np => cy _ _ ?_⟩)
      have X := Same.upd (Same.refl H') np (o := .tup [V.str s.2.n, V.str s.2.k])
      exact ⟨by assumption, S1.trans X, gs ++ [(p, (s.2.n, s.2.k))], by rw [refsS_snoc], by simp; omega, fun g hg => by
        rcases List.mem_append.mp hg with h | h
        · exact X _ _ (hgs g h)
        · rw [List.mem_singleton.mp h]; exact upd_same⟩
    obtain ⟨_, S1, gs, rfl, lg, hgs⟩ := z
    clear S
    have n0_g1 := S1.no ng1
    have X_ := Same.upd (Same.refl H1) ng1 (o := .lst (refsS gs))
    have e_g1 : upd H1 g1 (.lst (refsS gs)) g1 = some (.lst (refsS gs)) := upd_same
    replace S1 := S1.trans X_
    replace hgs := fun g hg => X_ _ _ (hgs g hg)
    generalize upd H1 g1 (.lst (refsS gs)) = H2 at X_ e_g1 hgs S1 ⊢
    clear X_ ng1
    
    refine tcomp_listM (K := K) (xs := ws.map V.str) (fun a H0 => a = w ∧ H0 = H2) (fun R z => by simp only [tSeq, tIfS, tRet, tRetN, tC, tVar, tOp, tUn, tTest, tB, tAnd, tOr, tNot, tAndV, tOrV, tNotV, tIf, tChain, tCons, tNil, tCall, tCB, tLst, tTup, tSl, tNoPart, tPart, gName, tNext, tDrop, tAsg, tAsgC, tBM, tYes, tDNewK, rI, rI0, rU, rEq, rNe, rAbs, rIntT, CDiv, add_ii, add_ss, mul_ii, ix_si, eq_ii, eq_ss, ne_ii, ne_ss, isnot_xn, List.append_nil, List.cons_append, List.nil_append, List.getElem?_cons_succ, List.getElem?_cons_zero, List.set_cons_succ, List.set_cons_zero, Option.some.injEq, V.int.injEq, V.bl.injEq, V.str.injEq, V.ref.injEq, V.ty.injEq, List.cons.injEq, and_true, true_and, exists_eq_left, exists_eq_left', exists_and_left, exists_eq', exists_const, exists_and_right, exists_eq_right, exists_eq_right', reduceCtorEq, false_and, and_false, exists_false, or_false, false_or, decide_eq_true_eq, Bool.not_eq_true', decide_eq_false_iff_not, Bool.false_eq_true, if_false, if_true, mk_app, mk_len, sg_mk, mk_one, decide_true, decide_false, Bool.not_true, Bool.not_false, ite_true, ite_false, not_true_eq_false, not_false_eq_true, mk_iff, tyV_str, stComp, List.map_cons, List.map_nil, Option.join_some, Option.join_none, gt_iff_lt, ge_iff_le, tRaise, tTryR, tCallH, tDisp, tPairs, tFld, sFld, tMake, tMeth, tAug, ipI, tDead, tBM0, tRev, l_let, l_fig, l_e, tDGet, tDNotIn, sDPut, tDNewK]; exact z _ _ ⟨rfl, rfl⟩) (fun a i ys H' => a = w ∧ Same H2 H' ∧ ∃ gs : List (Addr × (Str × Str)), ys = refsS gs ∧ gs.length ≤ i ∧ ∀ g ∈ gs, GoAt H' g) (fun a H0 z => ⟨z.1, by rw [z.2]; exact Same.refl _, [], rfl, by simp, (fun _ h => nomatch h)⟩) (fun a i ys H' z => by rw [z.1]; exact SqL.of (z.2.1 _ _ (S1 _ _ hw))) (sl1000 (by simp; omega)) (fun a k x ys H' Cy Cn hx z cy cn => ?_) (fun a ys H3 g2 z ng2 => ?_)
    · obtain ⟨_, S2, gs2, rfl, lg2, hgs2⟩ := z
      rw [List.getElem?_map] at hx
      obtain ⟨nm, hnm, rfl⟩ : ∃ nm, ws[k]? = some nm ∧ x = V.str nm := by
        cases e : ws[k]? with
        | none => rw [e] at hx; cases hx
        | some nm => rw [e] at hx; cases hx; exact ⟨nm, rfl, rfl⟩
      have S3 := S1.trans S2
      obtain ⟨t, j, kd, ev, et⟩ := (hin nm (List.mem_of_getElem? hnm)).val (hk.same S3)
      refine ⟨KeepSt.set rfl, ?_⟩
      simp only [tSeq, tIfS, tRet, tRetN, tC, tVar, tOp, tUn, tTest, tB, tAnd, tOr, tNot, tAndV, tOrV, tNotV, tIf, tChain, tCons, tNil, tCall, tCB, tLst, tTup, tSl, tNoPart, tPart, gName, tNext, tDrop, tAsg, tAsgC, tBM, tYes, tDNewK, rI, rI0, rU, rEq, rNe, rAbs, rIntT, CDiv, add_ii, add_ss, mul_ii, ix_si, eq_ii, eq_ss, ne_ii, ne_ss, isnot_xn, List.append_nil, List.cons_append, List.nil_append, List.getElem?_cons_succ, List.getElem?_cons_zero, List.set_cons_succ, List.set_cons_zero, Option.some.injEq, V.int.injEq, V.bl.injEq, V.str.injEq, V.ref.injEq, V.ty.injEq, List.cons.injEq, and_true, true_and, exists_eq_left, exists_eq_left', exists_and_left, exists_eq', exists_const, exists_and_right, exists_eq_right, exists_eq_right', reduceCtorEq, false_and, and_false, exists_false, or_false, false_or, decide_eq_true_eq, Bool.not_eq_true', decide_eq_false_iff_not, Bool.false_eq_true, if_false, if_true, mk_app, mk_len, sg_mk, mk_one, decide_true, decide_false, Bool.not_true, Bool.not_false, ite_true, ite_false, not_true_eq_false, not_false_eq_true, mk_iff, tyV_str, stComp, List.map_cons, List.map_nil, Option.join_some, Option.join_none, gt_iff_lt, ge_iff_le, tRaise, tTryR, tCallH, tDisp, tPairs, tFld, sFld, tMake, tMeth, tAug, ipI, tDead, tBM0, tRev, l_let, l_fig, l_e, tDGet, tDNotIn, sDPut, tDNewK]
      refine ⟨_, .inl ⟨kvs, Sum.inr nm, rd_same hr' S3, rfl, ev.symm⟩, ixT (SqT.of et) (atIn (by decide) rfl) ⟨sl1000 (by simp), fun p np => cy _ _ ?_⟩⟩
      have X := Same.upd (Same.refl H') np (o := .tup [V.str nm, V.str kd])
      exact ⟨by assumption, S2.trans X, gs2 ++ [(p, (nm, kd))], by rw [refsS_snoc], by simp; omega, fun g hg => by
        rcases List.mem_append.mp hg with h | h
        · exact X _ _ (hgs2 g h)
        · rw [List.mem_singleton.mp h]; exact upd_same⟩
    obtain ⟨_, S2, gs2, rfl, lg2, hgs2⟩ := z
    replace hgs := fun g hg => S2 _ _ (hgs g hg)
    replace e_g1 := S2 _ _ e_g1
    replace S1 := S1.trans S2
    clear S2
    have n0_g2 := S1.no ng2
    have X_ := Same.upd (Same.refl H3) ng2 (o := .lst (refsS gs2))
    have e_g2 : upd H3 g2 (.lst (refsS gs2)) g2 = some (.lst (refsS gs2)) := upd_same
    replace e_g1 := X_ _ _ e_g1
    replace S1 := S1.trans X_
    replace hgs := fun g hg => X_ _ _ (hgs g hg)
    replace hgs2 := fun g hg => X_ _ _ (hgs2 g hg)
    generalize upd H3 g2 (.lst (refsS gs2)) = H4 at X_ e_g2 e_g1 hgs hgs2 S1 ⊢
    clear X_ ng2
    
    refine catL e_g1 e_g2 (by simp [refsS, sizeLine_eq] at lg lg2 ⊢; omega) fun g ng => ?_
    have n0_g := S1.no ng
    have X_ := Same.upd (Same.refl H4) ng (o := .lst (refsS gs ++ refsS gs2))
    have e_g : upd H4 g (.lst (refsS gs ++ refsS gs2)) g = some (.lst (refsS gs ++ refsS gs2)) := upd_same
    replace S1 := S1.trans X_
    replace hgs := fun g hg => X_ _ _ (hgs g hg)
    replace hgs2 := fun g hg => X_ _ _ (hgs2 g hg)
    generalize upd H4 g (.lst (refsS gs ++ refsS gs2)) = H5 at X_ e_g hgs hgs2 S1 ⊢
    clear X_ ng
    
    have lgs : (gs ++ gs2).length ≤ 10 := by simp [refsS] at lg lg2 ⊢; omega
    have hG : ∀ e ∈ gs ++ gs2, GoAt H5 e := fun e he => by
      rcases List.mem_append.mp he with h | h
      · exact hgs e h
      · exact hgs2 e h
    rw [show refsS gs ++ refsS gs2 = refsS (gs ++ gs2) by simp [refsS]] at e_g
    generalize gs ++ gs2 = G at e_g lgs hG
    clear hgs hgs2 lg lg2 gs gs2 e_g1 e_g2 H1 H2 H3 H4 hr' hk
    subst hB
    refine tSeq_gen fun B hB => ?_
    simp only [tSeq, tIfS, tRet, tRetN, tC, tVar, tOp, tUn, tTest, tB, tAnd, tOr, tNot, tAndV, tOrV, tNotV, tIf, tChain, tCons, tNil, tCall, tCB, tLst, tTup, tSl, tNoPart, tPart, gName, tNext, tDrop, tAsg, tAsgC, tBM, tYes, tDNewK, rI, rI0, rU, rEq, rNe, rAbs, rIntT, CDiv, add_ii, add_ss, mul_ii, ix_si, eq_ii, eq_ss, ne_ii, ne_ss, isnot_xn, List.append_nil, List.cons_append, List.nil_append, List.getElem?_cons_succ, List.getElem?_cons_zero, List.set_cons_succ, List.set_cons_zero, Option.some.injEq, V.int.injEq, V.bl.injEq, V.str.injEq, V.ref.injEq, V.ty.injEq, List.cons.injEq, and_true, true_and, exists_eq_left, exists_eq_left', exists_and_left, exists_eq', exists_const, exists_and_right, exists_eq_right, exists_eq_right', reduceCtorEq, false_and, and_false, exists_false, or_false, false_or, decide_eq_true_eq, Bool.not_eq_true', decide_eq_false_iff_not, Bool.false_eq_true, if_false, if_true, mk_app, mk_len, sg_mk, mk_one, decide_true, decide_false, Bool.not_true, Bool.not_false, ite_true, ite_false, not_true_eq_false, not_false_eq_true, mk_iff, tyV_str, stComp, List.map_cons, List.map_nil, Option.join_some, Option.join_none, gt_iff_lt, ge_iff_le, tRaise, tTryR, tCallH, tDisp, tPairs, tFld, sFld, tMake, tMeth, tAug, ipI, tDead, tBM0, tRev, l_let, l_fig, l_e, tDGet, tDNotIn, sDPut, tDNewK]
    refine ⟨sl1000 (by simp), fun s ns => ?_⟩
    have n0_s := S1.no ns
    have X_ := Same.upd (Same.refl H5) ns (o := .lst [])
    have e_s : upd H5 s (.lst []) s = some (.lst []) := upd_same
    have d_g_s := ne_of_none e_g ns
    replace e_g := X_ _ _ e_g
    replace S1 := S1.trans X_
    replace hG := fun g hg => X_ _ _ (hG g hg)
    generalize upd H5 s (.lst []) = H6 at X_ e_s e_g hG S1 ⊢
    clear X_ ns
    
    subst hB
    refine tSeq_gen fun B hB => ?_
    simp only [tSeq, tIfS, tRet, tRetN, tC, tVar, tOp, tUn, tTest, tB, tAnd, tOr, tNot, tAndV, tOrV, tNotV, tIf, tChain, tCons, tNil, tCall, tCB, tLst, tTup, tSl, tNoPart, tPart, gName, tNext, tDrop, tAsg, tAsgC, tBM, tYes, tDNewK, rI, rI0, rU, rEq, rNe, rAbs, rIntT, CDiv, add_ii, add_ss, mul_ii, ix_si, eq_ii, eq_ss, ne_ii, ne_ss, isnot_xn, List.append_nil, List.cons_append, List.nil_append, List.getElem?_cons_succ, List.getElem?_cons_zero, List.set_cons_succ, List.set_cons_zero, Option.some.injEq, V.int.injEq, V.bl.injEq, V.str.injEq, V.ref.injEq, V.ty.injEq, List.cons.injEq, and_true, true_and, exists_eq_left, exists_eq_left', exists_and_left, exists_eq', exists_const, exists_and_right, exists_eq_right, exists_eq_right', reduceCtorEq, false_and, and_false, exists_false, or_false, false_or, decide_eq_true_eq, Bool.not_eq_true', decide_eq_false_iff_not, Bool.false_eq_true, if_false, if_true, mk_app, mk_len, sg_mk, mk_one, decide_true, decide_false, Bool.not_true, Bool.not_false, ite_true, ite_false, not_true_eq_false, not_false_eq_true, mk_iff, tyV_str, stComp, List.map_cons, List.map_nil, Option.join_some, Option.join_none, gt_iff_lt, ge_iff_le, tRaise, tTryR, tCallH, tDisp, tPairs, tFld, sFld, tMake, tMeth, tAug, ipI, tDead, tBM0, tRev, l_let, l_fig, l_e, tDGet, tDNotIn, sDPut, tDNewK]
    refine ⟨sl1000 (by simp), fun l nl => ?_⟩
    have n0_l := S1.no nl
    have X_ := Same.upd (Same.refl H6) nl (o := .lst [])
    have e_l : upd H6 l (.lst []) l = some (.lst []) := upd_same
    have d_s_l := ne_of_none e_s nl
    have d_g_l := ne_of_none e_g nl
    replace e_g := X_ _ _ e_g
    replace e_s := X_ _ _ e_s
    replace S1 := S1.trans X_
    replace hG := fun g hg => X_ _ _ (hG g hg)
    generalize upd H6 l (.lst []) = H7 at X_ e_l e_g e_s hG S1 ⊢
    clear X_ nl
    
    subst hB
    refine tSeq_gen fun B hB => ?_
    simp only [tSeq, tIfS, tRet, tRetN, tC, tVar, tOp, tUn, tTest, tB, tAnd, tOr, tNot, tAndV, tOrV, tNotV, tIf, tChain, tCons, tNil, tCall, tCB, tLst, tTup, tSl, tNoPart, tPart, gName, tNext, tDrop, tAsg, tAsgC, tBM, tYes, tDNewK, rI, rI0, rU, rEq, rNe, rAbs, rIntT, CDiv, add_ii, add_ss, mul_ii, ix_si, eq_ii, eq_ss, ne_ii, ne_ss, isnot_xn, List.append_nil, List.cons_append, List.nil_append, List.getElem?_cons_succ, List.getElem?_cons_zero, List.set_cons_succ, List.set_cons_zero, Option.some.injEq, V.int.injEq, V.bl.injEq, V.str.injEq, V.ref.injEq, V.ty.injEq, List.cons.injEq, and_true, true_and, exists_eq_left, exists_eq_left', exists_and_left, exists_eq', exists_const, exists_and_right, exists_eq_right, exists_eq_right', reduceCtorEq, false_and, and_false, exists_false, or_false, false_or, decide_eq_true_eq, Bool.not_eq_true', decide_eq_false_iff_not, Bool.false_eq_true, if_false, if_true, mk_app, mk_len, sg_mk, mk_one, decide_true, decide_false, Bool.not_true, Bool.not_false, ite_true, ite_false, not_true_eq_false, not_false_eq_true, mk_iff, tyV_str, stComp, List.map_cons, List.map_nil, Option.join_some, Option.join_none, gt_iff_lt, ge_iff_le, tRaise, tTryR, tCallH, tDisp, tPairs, tFld, sFld, tMake, tMeth, tAug, ipI, tDead, tBM0, tRev, l_let, l_fig, l_e, tDGet, tDNotIn, sDPut, tDNewK]
    subst hB
    refine tSeq_gen fun B hB => ?_
    have P0 : PtL H H7 g s l G e.2.ss 0 := ⟨S1, e_g, hG, ⟨[], e_s, (fun _ h => nomatch h), rfl, (fun _ h => nomatch h)⟩, [], e_l, by simp⟩
    clear S1 e_g hG e_s e_l
    refine tfor_enum (a := r) (xs := refsS e.2.ss) (fun R z => by simp only [tSeq, tIfS, tRet, tRetN, tC, tVar, tOp, tUn, tTest, tB, tAnd, tOr, tNot, tAndV, tOrV, tNotV, tIf, tChain, tCons, tNil, tCall, tCB, tLst, tTup, tSl, tNoPart, tPart, gName, tNext, tDrop, tAsg, tAsgC, tBM, tYes, tDNewK, rI, rI0, rU, rEq, rNe, rAbs, rIntT, CDiv, add_ii, add_ss, mul_ii, ix_si, eq_ii, eq_ss, ne_ii, ne_ss, isnot_xn, List.append_nil, List.cons_append, List.nil_append, List.getElem?_cons_succ, List.getElem?_cons_zero, List.set_cons_succ, List.set_cons_zero, Option.some.injEq, V.int.injEq, V.bl.injEq, V.str.injEq, V.ref.injEq, V.ty.injEq, List.cons.injEq, and_true, true_and, exists_eq_left, exists_eq_left', exists_and_left, exists_eq', exists_const, exists_and_right, exists_eq_right, exists_eq_right', reduceCtorEq, false_and, and_false, exists_false, or_false, false_or, decide_eq_true_eq, Bool.not_eq_true', decide_eq_false_iff_not, Bool.false_eq_true, if_false, if_true, mk_app, mk_len, sg_mk, mk_one, decide_true, decide_false, Bool.not_true, Bool.not_false, ite_true, ite_false, not_true_eq_false, not_false_eq_true, mk_iff, tyV_str, stComp, List.map_cons, List.map_nil, Option.join_some, Option.join_none, gt_iff_lt, ge_iff_le, tRaise, tTryR, tCallH, tDisp, tPairs, tFld, sFld, tMake, tMeth, tAug, ipI, tDead, tBM0, tRev, l_let, l_fig, l_e, tDGet, tDNotIn, sDPut, tDNewK]; exact ixT (SqT.of (P0.1 _ _ a1)) (atIn (by decide) rfl) z) (SqL.of (P0.1 _ _ a2)) (fun i σ H' => PtL H H' g s l G e.2.ss i ∧ ∃ (ln : Int) (v8 v9 v10 v11 v12 v13 v14 v15 : Option V), σ = [some (V.ref e.1), some (V.ref w), some (V.ref d), some (V.int c), some (V.ref g), some (V.ref s), some (V.ref l), some (V.int ln), v8, v9, v10, v11, v12, v13, v14, v15]) ⟨P0, 1, none, none, none, none, none, none, none, none, rfl⟩ (fun i σ H' h => SqL.of (h.1.1 _ _ a2)) ?_ ?_
    · clear P0 H7
      rintro i x p σ H1 hx ⟨⟨S, eg, hG, ⟨ts, es, hts, ets, rok⟩, ps, el, lps⟩, ln, v8, v9, v10, v11, v12, v13, v14, v15, rfl⟩ np
      refine tupT upd_same ?_
      have hi := (List.getElem?_eq_some_iff.mp hx).1
      rw [show (refsS e.2.ss).length = e.2.ss.length by simp [refsS]] at hi
      obtain ⟨sc, hsc, rfl⟩ := refsS_get hx
      have esc := a3 sc (List.mem_of_getElem? hsc)
      have n0_p := S.no np
      have X_ := Same.upd (Same.refl H1) np (o := .tup [V.int (i : Int), V.ref sc.1])
      have e_p : upd H1 p (.tup [V.int (i : Int), V.ref sc.1]) p = some (.tup [V.int (i : Int), V.ref sc.1]) := upd_same
      replace eg := X_ _ _ eg
      replace es := X_ _ _ es
      replace el := X_ _ _ el
      replace S := S.trans X_
      replace hG := fun g hg => X_ _ _ (hG g hg)
      replace hts := fun e he => (hts e he).same X_
      generalize upd H1 p (.tup [V.int (i : Int), V.ref sc.1]) = H2 at X_ e_p eg es el hG hts S ⊢
      clear X_ np
    
      refine tSeq_gen fun B hB => ?_
      simp only [tSeq, tIfS, tRet, tRetN, tC, tVar, tOp, tUn, tTest, tB, tAnd, tOr, tNot, tAndV, tOrV, tNotV, tIf, tChain, tCons, tNil, tCall, tCB, tLst, tTup, tSl, tNoPart, tPart, gName, tNext, tDrop, tAsg, tAsgC, tBM, tYes, tDNewK, rI, rI0, rU, rEq, rNe, rAbs, rIntT, CDiv, add_ii, add_ss, mul_ii, ix_si, eq_ii, eq_ss, ne_ii, ne_ss, isnot_xn, List.append_nil, List.cons_append, List.nil_append, List.getElem?_cons_succ, List.getElem?_cons_zero, List.set_cons_succ, List.set_cons_zero, Option.some.injEq, V.int.injEq, V.bl.injEq, V.str.injEq, V.ref.injEq, V.ty.injEq, List.cons.injEq, and_true, true_and, exists_eq_left, exists_eq_left', exists_and_left, exists_eq', exists_const, exists_and_right, exists_eq_right, exists_eq_right', reduceCtorEq, false_and, and_false, exists_false, or_false, false_or, decide_eq_true_eq, Bool.not_eq_true', decide_eq_false_iff_not, Bool.false_eq_true, if_false, if_true, mk_app, mk_len, sg_mk, mk_one, decide_true, decide_false, Bool.not_true, Bool.not_false, ite_true, ite_false, not_true_eq_false, not_false_eq_true, mk_iff, tyV_str, stComp, List.map_cons, List.map_nil, Option.join_some, Option.join_none, gt_iff_lt, ge_iff_le, tRaise, tTryR, tCallH, tDisp, tPairs, tFld, sFld, tMake, tMeth, tAug, ipI, tDead, tBM0, tRev, l_let, l_fig, l_e, tDGet, tDNotIn, sDPut, tDNewK]
      refine ⟨c, 40 + (i : Int), rfl, by omega, by omega, ?_⟩
      subst hB
      refine tSeq_gen fun B hB => ?_
      simp only [tSeq, tIfS, tRet, tRetN, tC, tVar, tOp, tUn, tTest, tB, tAnd, tOr, tNot, tAndV, tOrV, tNotV, tIf, tChain, tCons, tNil, tCall, tCB, tLst, tTup, tSl, tNoPart, tPart, gName, tNext, tDrop, tAsg, tAsgC, tBM, tYes, tDNewK, rI, rI0, rU, rEq, rNe, rAbs, rIntT, CDiv, add_ii, add_ss, mul_ii, ix_si, eq_ii, eq_ss, ne_ii, ne_ss, isnot_xn, List.append_nil, List.cons_append, List.nil_append, List.getElem?_cons_succ, List.getElem?_cons_zero, List.set_cons_succ, List.set_cons_zero, Option.some.injEq, V.int.injEq, V.bl.injEq, V.str.injEq, V.ref.injEq, V.ty.injEq, List.cons.injEq, and_true, true_and, exists_eq_left, exists_eq_left', exists_and_left, exists_eq', exists_const, exists_and_right, exists_eq_right, exists_eq_right', reduceCtorEq, false_and, and_false, exists_false, or_false, false_or, decide_eq_true_eq, Bool.not_eq_true', decide_eq_false_iff_not, Bool.false_eq_true, if_false, if_true, mk_app, mk_len, sg_mk, mk_one, decide_true, decide_false, Bool.not_true, Bool.not_false, ite_true, ite_false, not_true_eq_false, not_false_eq_true, mk_iff, tyV_str, stComp, List.map_cons, List.map_nil, Option.join_some, Option.join_none, gt_iff_lt, ge_iff_le, tRaise, tTryR, tCallH, tDisp, tPairs, tFld, sFld, tMake, tMeth, tAug, ipI, tDead, tBM0, tRev, l_let, l_fig, l_e, tDGet, tDNotIn, sDPut, tDNewK]
      refine ⟨_, rfl, fun r1 ns1 H3 nr1 S3 er1 lr1 => ?_⟩
      have q1 : r1 ≠ s := (ne_of_none es nr1).symm
      have q2 : r1 ≠ l := (ne_of_none el nr1).symm
      have q6 : H r1 = none := S.no nr1
      replace S := S.trans S3
      replace eg := S3 _ _ eg
      replace es := S3 _ _ es
      replace el := S3 _ _ el
      replace hG := fun g hg => S3 _ _ (hG g hg)
      replace hts := fun e he => (hts e he).same S3
      subst hB
      refine tSeq_nx fun B hB => ?_
      have fin : ∀ (H4 : Hp) (rr : Addr) (nr : List Int) (ln : Int) (qs : List V) (v12 v13 v14 v15 : Option V), Same H H4 → H4 g = some (.lst (refsS G)) → (∀ x ∈ G, GoAt H4 x) → H4 s = some (.lst (refsS ts)) → (∀ e ∈ ts, SecL H s l H4 e) → H4 l = some (.lst qs) → qs.length ≤ 4 * i + 4 → H4 rr = some (.lst (nr.map V.int)) → nr.length ≤ 20 → rr ≠ s → rr ≠ l → H rr = none → B [some (V.ref e.1), some (V.ref w), some (V.ref d), some (V.int c), some (V.ref g), some (V.ref s), some (V.ref l), some (V.int ln), some (V.int (i : Int)), some (V.ref sc.1), some (V.int (mixT c (40 + (i : Int)))), some (V.ref rr), v12, v13, v14, v15] H4 := by
        subst hB
        intro H4 rr nr ln qs v12 v13 v14 v15 S eg hG es hts el lq er lr d1 d2 d3
        simp only [tSeq, tIfS, tRet, tRetN, tC, tVar, tOp, tUn, tTest, tB, tAnd, tOr, tNot, tAndV, tOrV, tNotV, tIf, tChain, tCons, tNil, tCall, tCB, tLst, tTup, tSl, tNoPart, tPart, gName, tNext, tDrop, tAsg, tAsgC, tBM, tYes, tDNewK, rI, rI0, rU, rEq, rNe, rAbs, rIntT, CDiv, add_ii, add_ss, mul_ii, ix_si, eq_ii, eq_ss, ne_ii, ne_ss, isnot_xn, List.append_nil, List.cons_append, List.nil_append, List.getElem?_cons_succ, List.getElem?_cons_zero, List.set_cons_succ, List.set_cons_zero, Option.some.injEq, V.int.injEq, V.bl.injEq, V.str.injEq, V.ref.injEq, V.ty.injEq, List.cons.injEq, and_true, true_and, exists_eq_left, exists_eq_left', exists_and_left, exists_eq', exists_const, exists_and_right, exists_eq_right, exists_eq_right', reduceCtorEq, false_and, and_false, exists_false, or_false, false_or, decide_eq_true_eq, Bool.not_eq_true', decide_eq_false_iff_not, Bool.false_eq_true, if_false, if_true, mk_app, mk_len, sg_mk, mk_one, decide_true, decide_false, Bool.not_true, Bool.not_false, ite_true, ite_false, not_true_eq_false, not_false_eq_true, mk_iff, tyV_str, stComp, List.map_cons, List.map_nil, Option.join_some, Option.join_none, gt_iff_lt, ge_iff_le, tRaise, tTryR, tCallH, tDisp, tPairs, tFld, sFld, tMake, tMeth, tAug, ipI, tDead, tBM0, tRev, l_let, l_fig, l_e, tDGet, tDNotIn, sDPut, tDNewK]
        have esc := S _ _ esc
        refine ⟨tyV_lst (SqL.of es), ixT (SqT.of esc) (atIn (by decide) rfl) (ixT (SqT.of esc) (atIn (by decide) rfl) (ixT (SqT.of esc) (atIn (by decide) rfl) ⟨sl1000 (by simp), fun t nt => ?_⟩))⟩
        have lt : ts.length = i := by
          have := congrArg List.length ets
          rw [List.length_map, List.length_map, List.length_take] at this
          omega
        have X := Same.upd (Same.refl H4) nt (o := .tup [V.str sc.2.k, V.str sc.2.n, V.bl sc.2.sh, V.ref rr])
        refine appL (X _ _ es) (by simp only [refsS, List.length_map, sizeLine_eq]; omega) ?_
        have Z : Stay s (upd H4 t (.tup [V.str sc.2.k, V.str sc.2.n, V.bl sc.2.sh, V.ref rr])) (upd (upd H4 t (.tup [V.str sc.2.k, V.str sc.2.n, V.bl sc.2.sh, V.ref rr])) s (.lst (refsS ts ++ [V.ref t]))) := fun b o hb e => keepU e hb
        refine ⟨(S.trans X).set n0_s, Z _ _ d_g_s (X _ _ eg), fun x hx => Z _ _ (fun z => by have := hG x hx; unfold GoAt at this; rw [z, es] at this; cases this) (X _ _ (hG x hx)), ⟨ts ++ [(t, ⟨sc.2.k, sc.2.n, sc.2.sh, nr⟩)], by rw [upd_same, refsS_snoc], fun e he => ?_, ?_, ?_⟩, qs, Z _ _ d_s_l.symm (X _ _ el), by omega⟩
        · rcases List.mem_append.mp he with h | h
          · exact ((hts e h).same X).stay Z (X _ _ es) (.inl rfl)
          · rw [List.mem_singleton.mp h]
            exact ⟨rr, Z _ _ (ne_of_none es nt).symm upd_same, Z _ _ d1 (X _ _ er), d1, d2, d3⟩
        · rw [List.map_append, ets, take_snoc hsc, List.map_append]
          rfl
        · intro e he
          rcases List.mem_append.mp he with h | h
          · exact rok e h
          · rw [List.mem_singleton.mp h]
            exact lr
      simp only [tSeq, tIfS, tRet, tRetN, tC, tVar, tOp, tUn, tTest, tB, tAnd, tOr, tNot, tAndV, tOrV, tNotV, tIf, tChain, tCons, tNil, tCall, tCB, tLst, tTup, tSl, tNoPart, tPart, gName, tNext, tDrop, tAsg, tAsgC, tBM, tYes, tDNewK, rI, rI0, rU, rEq, rNe, rAbs, rIntT, CDiv, add_ii, add_ss, mul_ii, ix_si, eq_ii, eq_ss, ne_ii, ne_ss, isnot_xn, List.append_nil, List.cons_append, List.nil_append, List.getElem?_cons_succ, List.getElem?_cons_zero, List.set_cons_succ, List.set_cons_zero, Option.some.injEq, V.int.injEq, V.bl.injEq, V.str.injEq, V.ref.injEq, V.ty.injEq, List.cons.injEq, and_true, true_and, exists_eq_left, exists_eq_left', exists_and_left, exists_eq', exists_const, exists_and_right, exists_eq_right, exists_eq_right', reduceCtorEq, false_and, and_false, exists_false, or_false, false_or, decide_eq_true_eq, Bool.not_eq_true', decide_eq_false_iff_not, Bool.false_eq_true, if_false, if_true, mk_app, mk_len, sg_mk, mk_one, decide_true, decide_false, Bool.not_true, Bool.not_false, ite_true, ite_false, not_true_eq_false, not_false_eq_true, mk_iff, tyV_str, stComp, List.map_cons, List.map_nil, Option.join_some, Option.join_none, gt_iff_lt, ge_iff_le, tRaise, tTryR, tCallH, tDisp, tPairs, tFld, sFld, tMake, tMeth, tAug, ipI, tDead, tBM0, tRev, l_let, l_fig, l_e, tDGet, tDNotIn, sDPut, tDNewK]
      refine ixT (SqT.of (S _ _ esc)) (atIn (by decide) rfl) ?_
      simp only [tSeq, tIfS, tRet, tRetN, tC, tVar, tOp, tUn, tTest, tB, tAnd, tOr, tNot, tAndV, tOrV, tNotV, tIf, tChain, tCons, tNil, tCall, tCB, tLst, tTup, tSl, tNoPart, tPart, gName, tNext, tDrop, tAsg, tAsgC, tBM, tYes, tDNewK, rI, rI0, rU, rEq, rNe, rAbs, rIntT, CDiv, add_ii, add_ss, mul_ii, ix_si, eq_ii, eq_ss, ne_ii, ne_ss, isnot_xn, List.append_nil, List.cons_append, List.nil_append, List.getElem?_cons_succ, List.getElem?_cons_zero, List.set_cons_succ, List.set_cons_zero, Option.some.injEq, V.int.injEq, V.bl.injEq, V.str.injEq, V.ref.injEq, V.ty.injEq, List.cons.injEq, and_true, true_and, exists_eq_left, exists_eq_left', exists_and_left, exists_eq', exists_const, exists_and_right, exists_eq_right, exists_eq_right', reduceCtorEq, false_and, and_false, exists_false, or_false, false_or, decide_eq_true_eq, Bool.not_eq_true', decide_eq_false_iff_not, Bool.false_eq_true, if_false, if_true, mk_app, mk_len, sg_mk, mk_one, decide_true, decide_false, Bool.not_true, Bool.not_false, ite_true, ite_false, not_true_eq_false, not_false_eq_true, mk_iff, tyV_str, stComp, List.map_cons, List.map_nil, Option.join_some, Option.join_none, gt_iff_lt, ge_iff_le, tRaise, tTryR, tCallH, tDisp, tPairs, tFld, sFld, tMake, tMeth, tAug, ipI, tDead, tBM0, tRev, l_let, l_fig, l_e, tDGet, tDNotIn, sDPut, tDNewK]
      refine ite2 (fun hc => ?_) fun _ => fin H3 r1 ns1 ln ps v12 v13 v14 v15 S eg hG es hts el (by omega) er1 lr1 q1 q2 q6
      refine ⟨_, g, G, rfl, eg, hG, lgs, fun t r2 l2 ns2 ps2 H4 nr2 nl2 S4 et er2 ln2 el2 hps lp2 => tupT et ?_⟩
      have q3 : r2 ≠ s := (ne_of_none es nr2).symm
      have q4 : r2 ≠ l := (ne_of_none el nr2).symm
      have q7 : H r2 = none := S.no nr2
      have q5 : l2 ≠ l := (ne_of_none el nl2).symm
      replace S := S.trans S4
      replace eg := S4 _ _ eg
      replace es := S4 _ _ es
      replace el := S4 _ _ el
      replace hG := fun g hg => S4 _ _ (hG g hg)
      replace hts := fun e he => (hts e he).same S4
      refine tfor_listG (a := l2) (xs := refsS ps2) (fun R z => ⟨_, rfl, z⟩) (SqL.of el2) (fun j σ H' => Stay l H4 H' ∧ ∃ (qs : List V) (ln : Int) (v13 v14 v15 : Option V), H' l = some (.lst qs) ∧ qs.length ≤ 4 * i + j ∧ σ = [some (V.ref e.1), some (V.ref w), some (V.ref d), some (V.int c), some (V.ref g), some (V.ref s), some (V.ref l), some (V.int ln), some (V.int (i : Int)), some (V.ref sc.1), some (V.int (mixT c (40 + (i : Int)))), some (V.ref r2), some (V.ref l2), v13, v14, v15]) ⟨fun b o _ e => e, ps, ln, v13, v14, v15, el, by omega, rfl⟩ (fun j σ H' h => SqL.of (h.1 _ _ q5 el2)) ?_ ?_
      · rintro j x σ H5 hx ⟨T, qs, ln, v13, v14, v15, el5, lq, rfl⟩
        obtain ⟨u, hu, rfl⟩ := refsS_get hx
        obtain ⟨y1, y2, eu, o0, o1⟩ := hps u (List.mem_of_getElem? hu)
        have jl := (List.getElem?_eq_some_iff.mp hu).1
        have eu5 := T _ _ (fun z => by rw [z, el] at eu; cases eu) eu
        refine tup3 eu5 ?_
        simp only [tSeq, tIfS, tRet, tRetN, tC, tVar, tOp, tUn, tTest, tB, tAnd, tOr, tNot, tAndV, tOrV, tNotV, tIf, tChain, tCons, tNil, tCall, tCB, tLst, tTup, tSl, tNoPart, tPart, gName, tNext, tDrop, tAsg, tAsgC, tBM, tYes, tDNewK, rI, rI0, rU, rEq, rNe, rAbs, rIntT, CDiv, add_ii, add_ss, mul_ii, ix_si, eq_ii, eq_ss, ne_ii, ne_ss, isnot_xn, List.append_nil, List.cons_append, List.nil_append, List.getElem?_cons_succ, List.getElem?_cons_zero, List.set_cons_succ, List.set_cons_zero, Option.some.injEq, V.int.injEq, V.bl.injEq, V.str.injEq, V.ref.injEq, V.ty.injEq, List.cons.injEq, and_true, true_and, exists_eq_left, exists_eq_left', exists_and_left, exists_eq', exists_const, exists_and_right, exists_eq_right, exists_eq_right', reduceCtorEq, false_and, and_false, exists_false, or_false, false_or, decide_eq_true_eq, Bool.not_eq_true', decide_eq_false_iff_not, Bool.false_eq_true, if_false, if_true, mk_app, mk_len, sg_mk, mk_one, decide_true, decide_false, Bool.not_true, Bool.not_false, ite_true, ite_false, not_true_eq_false, not_false_eq_true, mk_iff, tyV_str, stComp, List.map_cons, List.map_nil, Option.join_some, Option.join_none, gt_iff_lt, ge_iff_le, tRaise, tTryR, tCallH, tDisp, tPairs, tFld, sFld, tMake, tMeth, tAug, ipI, tDead, tBM0, tRev, l_let, l_fig, l_e, tDGet, tDNotIn, sDPut, tDNewK]
        refine ⟨_, 50 + u.2, rfl, by omega, by omega, _, rfl, by decide, tyV_lst (SqL.of el5), sl1000 (by simp), fun t nt => ?_⟩
        refine appL ((Same.upd (Same.refl H5) nt) _ _ el5) (by rw [sizeLine_eq]; omega) ⟨fun b o hb e => keepU ((Same.upd (Same.refl H5) nt) _ _ (T b o hb e)) hb, _, upd_same, by simp; omega⟩
      · rintro σ H5 ⟨T, qs, ln, v13, v14, v15, el5, lq, rfl⟩
        rw [show (refsS ps2).length = ps2.length by simp [refsS]] at lq
        exact fin H5 r2 ns2 ln qs _ _ _ _ (fun b o e => T b o (ne_of_none e n0_l) (S b o e)) (T _ _ d_g_l eg) (fun x hx => T _ _ (fun z => by have := hG x hx; rw [z, el] at this; cases this) (hG x hx)) (T _ _ d_s_l es) (fun e he => (hts e he).stay T el (.inr rfl)) el5 (by omega) (T _ _ q4 er2) ln2 q3 q4 q7
    · rintro σ H1 ⟨⟨S, eg, hG, ⟨ts, es, hts, ets, rok⟩, ps, el, lps⟩, ln, v8, v9, v10, v11, v12, v13, v14, v15, rfl⟩
      subst hB
      simp only [tSeq, tIfS, tRet, tRetN, tC, tVar, tOp, tUn, tTest, tB, tAnd, tOr, tNot, tAndV, tOrV, tNotV, tIf, tChain, tCons, tNil, tCall, tCB, tLst, tTup, tSl, tNoPart, tPart, gName, tNext, tDrop, tAsg, tAsgC, tBM, tYes, tDNewK, rI, rI0, rU, rEq, rNe, rAbs, rIntT, CDiv, add_ii, add_ss, mul_ii, ix_si, eq_ii, eq_ss, ne_ii, ne_ss, isnot_xn, List.append_nil, List.cons_append, List.nil_append, List.getElem?_cons_succ, List.getElem?_cons_zero, List.set_cons_succ, List.set_cons_zero, Option.some.injEq, V.int.injEq, V.bl.injEq, V.str.injEq, V.ref.injEq, V.ty.injEq, List.cons.injEq, and_true, true_and, exists_eq_left, exists_eq_left', exists_and_left, exists_eq', exists_const, exists_and_right, exists_eq_right, exists_eq_right', reduceCtorEq, false_and, and_false, exists_false, or_false, false_or, decide_eq_true_eq, Bool.not_eq_true', decide_eq_false_iff_not, Bool.false_eq_true, if_false, if_true, mk_app, mk_len, sg_mk, mk_one, decide_true, decide_false, Bool.not_true, Bool.not_false, ite_true, ite_false, not_true_eq_false, not_false_eq_true, mk_iff, tyV_str, stComp, List.map_cons, List.map_nil, Option.join_some, Option.join_none, gt_iff_lt, ge_iff_le, tRaise, tTryR, tCallH, tDisp, tPairs, tFld, sFld, tMake, tMeth, tAug, ipI, tDead, tBM0, tRev, l_let, l_fig, l_e, tDGet, tDNotIn, sDPut, tDNewK]
      refine ixT (SqT.of (S _ _ a1)) (atIn (by decide) rfl) ⟨sl1000 (by simp), fun t nt => ?_⟩
      have X := Same.upd (Same.refl H1) nt (o := .tup [V.str e.2.n, V.ref s, V.ref w, V.ref l])
      refine q t ts _ (S.no nt) (S.trans X) ⟨s, l, ws, ps, upd_same, X _ _ es, fun e he => let ⟨r, b1, b2, _, _, b3⟩ := hts e he; ⟨r, X _ _ b1, X _ _ b2, b3⟩, X _ _ (S _ _ hw), X _ _ el, n0_s, n0_l⟩ ?_ rok
      rw [ets, show (refsS e.2.ss).length = e.2.ss.length by simp [refsS], List.take_length]
noncomputable def sp__law_made (K : PySem.W.Frag) : Sp := fun vs H Q E => ∃ (a : Addr) (ns : List Int) (m : Int), vs = [.ref a, .int m] ∧ SqL K H a (ns.map V.int) ∧ 1 ≤ m ∧ m ≤ 6 ∧ ∀ l (ms : List (Addr × Md)) H', H l = none → Same H H' → H' l = some (.lst (refsS ms)) → ms.length ≤ 6 → (∀ e ∈ ms, MdAt H' e ∧ e.2.ts.length ≤ 4 ∧ RowsOk e.2.ts ∧ LayS e.2.n ∧ SecG e.2.ts) → (ms.map (·.2.n)).Nodup → (ms.flatMap fun e => shs e.2.ts).Nodup → Q (.ref l) H'
theorem sc__law_made : FnScope ["_law_script", "_law_many", "_law_names_here", "_law_heads_here", "_law_shared_here", "_law_found", "_law_i", "_law_cell", "_law_wants_here"] ["_law_script", "_law_many"] (defScope s__law_made) := ⟨rfl, rfl, rfl, by decide +kernel, rfl, by decide +kernel, by decide +kernel⟩
theorem ok__law_made (T : Txt K mg) : FnOk P w K mg base CX0 5 T.d__law_made.f T.d__law_made.fd ["_law_script", "_law_many"] (sp__law_made K) := by
  have nd := sc__law_made.nd
  refine T.d__law_made.F.ok sc__law_made (fun vs H Q E h => ?_) (fun cdv A outer s H vs Q E hr h => ?_)
  · obtain ⟨a, ns, m, rfl, ha, m0, m1, q⟩ := h
    rfl
  · obtain ⟨a, ns, m, rfl, ha, m0, m1, q⟩ := h
    have hu := hr.units0
    refine ⟨_, (pss_cons (ps_set (i := 2) nd rfl (Or.inl rfl) (pc1 T.d__law_names (ok__law_names T) (hr.mono (by decide)) (pa1 (pc1 T.d__law_mixed (ok__law_mixed T) (hr.mono (by decide)) (pa1 (pc1 T.d__law_cell_at (ok__law_cell_at T) (hr.mono (by decide)) (pa1 (pv 0) (pa1 pe_int pa_nil))) (pa1 pe_int pa_nil))) (pa1 pe_int pa_nil))))
      (pss_cons (ps_asg (pc1 T.d__law_heads (ok__law_heads T) (hr.mono (by decide)) (pa1 (pv 0) (pa1 (pv 2) (pa1 (pv 1) (pa1 (pe_op op_mod (pc1 T.d__law_mixed (ok__law_mixed T) (hr.mono (by decide)) (pa1 (pc1 T.d__law_cell_at (ok__law_cell_at T) (hr.mono (by decide)) (pa1 (pv 0) (pa1 pe_int pa_nil))) (pa1 pe_int pa_nil))) (pv 1)) pa_nil))))) (pg_tupK (K := K) (n := 2) rfl (pgs_cons (pg_name (i := 3) nd rfl (Or.inl rfl)) (pgs_cons (pg_name (i := 4) nd rfl (Or.inl rfl)) pgs_nil))))
      (pss_cons (ps_set (i := 5) nd rfl (Or.inl rfl) (pe_lst pa_nil))
      (pss_cons (ps_for PassesOwn.never rfl (pi_range1 rfl T.n_range (pa1 (pv 1) pa_nil)) (pg_name (i := 6) nd rfl (Or.inl rfl))
        (pss_cons (ps_set (i := 7) nd rfl (Or.inl rfl) (pc1 T.d__law_mixed (ok__law_mixed T) (hr.mono (by decide)) (pa1 (pc1 T.d__law_cell_at (ok__law_cell_at T) (hr.mono (by decide)) (pa1 (pv 0) (pa1 (pe_op o_add pe_int (pv 6)) pa_nil))) (pa1 pe_int pa_nil))))
      (pss_cons (ps_set (i := 8) nd rfl (Or.inl rfl) (pc1 T.d__law_wants (ok__law_wants T) (hr.mono (by decide)) (pa1 (pv 3) (pa1 (pv 4) (pa1 (pv 6) (pa1 (pc1 T.d__law_mixed (ok__law_mixed T) (hr.mono (by decide)) (pa1 (pv 7) (pa1 pe_int pa_nil))) pa_nil))))))
      (pss_one (ps_expr (pm1 (K := K) PySem.F.plainAttrs_list PySem.F.slot_list_append PySem.F.type_list_append o_append (pv 5) (pa1 (pc1 T.d__law_part (ok__law_part T) (hr.mono (by decide)) (pa1 (pe_ix (o_ix (K := K)) (pv 3) (pv 6) (fun _ _ => rfl)) (pa1 (pv 8) (pa1 (pv 4) (pa1 (pv 7) pa_nil))))) pa_nil)))))))
      (pss_one (ps_ret (pv 5))))))), ?_⟩
    rw [show start ["_law_script", "_law_many", "_law_names_here", "_law_heads_here", "_law_shared_here", "_law_found", "_law_i", "_law_cell", "_law_wants_here"] [V.ref a, V.int m] = [some (V.ref a), some (V.int m), none, none, none, none, none, none, none] from rfl]
    have S := Same.refl H
    refine tSeq_gen fun B hB => ?_
    simp only [tSeq, tIfS, tRet, tRetN, tC, tVar, tOp, tUn, tTest, tB, tAnd, tOr, tNot, tAndV, tOrV, tNotV, tIf, tChain, tCons, tNil, tCall, tCB, tLst, tTup, tSl, tNoPart, tPart, gName, tNext, tDrop, tAsg, tAsgC, tBM, tYes, tDNewK, rI, rI0, rU, rEq, rNe, rAbs, rIntT, CDiv, add_ii, add_ss, mul_ii, ix_si, eq_ii, eq_ss, ne_ii, ne_ss, isnot_xn, List.append_nil, List.cons_append, List.nil_append, List.getElem?_cons_succ, List.getElem?_cons_zero, List.set_cons_succ, List.set_cons_zero, Option.some.injEq, V.int.injEq, V.bl.injEq, V.str.injEq, V.ref.injEq, V.ty.injEq, List.cons.injEq, and_true, true_and, exists_eq_left, exists_eq_left', exists_and_left, exists_eq', exists_const, exists_and_right, exists_eq_right, exists_eq_right', reduceCtorEq, false_and, and_false, exists_false, or_false, false_or, decide_eq_true_eq, Bool.not_eq_true', decide_eq_false_iff_not, Bool.false_eq_true, if_false, if_true, mk_app, mk_len, sg_mk, mk_one, decide_true, decide_false, Bool.not_true, Bool.not_false, ite_true, ite_false, not_true_eq_false, not_false_eq_true, mk_iff, tyV_str, stComp, List.map_cons, List.map_nil, Option.join_some, Option.join_none, gt_iff_lt, ge_iff_le, tRaise, tTryR, tCallH, tDisp, tPairs, tFld, sFld, tMake, tMeth, tAug, ipI, tDead, tBM0, tRev, l_let, l_fig, l_e, tDGet, tDNotIn, sDPut, tDNewK]
    refine ⟨a, ns, 0, rfl, ha, by decide, ⟨_, 2, rfl, by decide, by decide, ⟨_, rfl, (mixT_b _ _).1, fun p ls H1 np S1 ll nd1 hmain hok ep => ?_⟩⟩⟩
    subst hB
    refine tSeq_gen fun B hB => ?_
    simp only [tSeq, tIfS, tRet, tRetN, tC, tVar, tOp, tUn, tTest, tB, tAnd, tOr, tNot, tAndV, tOrV, tNotV, tIf, tChain, tCons, tNil, tCall, tCB, tLst, tTup, tSl, tNoPart, tPart, gName, tNext, tDrop, tAsg, tAsgC, tBM, tYes, tDNewK, rI, rI0, rU, rEq, rNe, rAbs, rIntT, CDiv, add_ii, add_ss, mul_ii, ix_si, eq_ii, eq_ss, ne_ii, ne_ss, isnot_xn, List.append_nil, List.cons_append, List.nil_append, List.getElem?_cons_succ, List.getElem?_cons_zero, List.set_cons_succ, List.set_cons_zero, Option.some.injEq, V.int.injEq, V.bl.injEq, V.str.injEq, V.ref.injEq, V.ty.injEq, List.cons.injEq, and_true, true_and, exists_eq_left, exists_eq_left', exists_and_left, exists_eq', exists_const, exists_and_right, exists_eq_right, exists_eq_right', reduceCtorEq, false_and, and_false, exists_false, or_false, false_or, decide_eq_true_eq, Bool.not_eq_true', decide_eq_false_iff_not, Bool.false_eq_true, if_false, if_true, mk_app, mk_len, sg_mk, mk_one, decide_true, decide_false, Bool.not_true, Bool.not_false, ite_true, ite_false, not_true_eq_false, not_false_eq_true, mk_iff, tyV_str, stComp, List.map_cons, List.map_nil, Option.join_some, Option.join_none, gt_iff_lt, ge_iff_le, tRaise, tTryR, tCallH, tDisp, tPairs, tFld, sFld, tMake, tMeth, tAug, ipI, tDead, tBM0, tRev, l_let, l_fig, l_e, tDGet, tDNotIn, sDPut, tDNewK]
    have mm : 0 < m := by omega
    refine ⟨a, ns, 1, rfl, S1.seq ha, by decide, ⟨_, 2, rfl, by decide, by decide, _, rfl, mm, ⟨a, p, ns, ls, m, _, rfl, S1.seq ha, ep, ll, nd1, hmain, hok, m0, m1, fun t h d es kvs Hh nd S2 et eh les hes ed dok lk ndn nds => tupT et ?_⟩⟩⟩
    have SH := S1.trans S2
    have n0_d : H d = none := S1.no nd
    have Rh : Rd Hh d (.dK kvs) := .inl ed
    clear S S1 S2 ep ed et np nd H1 hok hmain nd1 ll
    subst hB
    refine tSeq_gen fun B hB => ?_
    simp only [tSeq, tIfS, tRet, tRetN, tC, tVar, tOp, tUn, tTest, tB, tAnd, tOr, tNot, tAndV, tOrV, tNotV, tIf, tChain, tCons, tNil, tCall, tCB, tLst, tTup, tSl, tNoPart, tPart, gName, tNext, tDrop, tAsg, tAsgC, tBM, tYes, tDNewK, rI, rI0, rU, rEq, rNe, rAbs, rIntT, CDiv, add_ii, add_ss, mul_ii, ix_si, eq_ii, eq_ss, ne_ii, ne_ss, isnot_xn, List.append_nil, List.cons_append, List.nil_append, List.getElem?_cons_succ, List.getElem?_cons_zero, List.set_cons_succ, List.set_cons_zero, Option.some.injEq, V.int.injEq, V.bl.injEq, V.str.injEq, V.ref.injEq, V.ty.injEq, List.cons.injEq, and_true, true_and, exists_eq_left, exists_eq_left', exists_and_left, exists_eq', exists_const, exists_and_right, exists_eq_right, exists_eq_right', reduceCtorEq, false_and, and_false, exists_false, or_false, false_or, decide_eq_true_eq, Bool.not_eq_true', decide_eq_false_iff_not, Bool.false_eq_true, if_false, if_true, mk_app, mk_len, sg_mk, mk_one, decide_true, decide_false, Bool.not_true, Bool.not_false, ite_true, ite_false, not_true_eq_false, not_false_eq_true, mk_iff, tyV_str, stComp, List.map_cons, List.map_nil, Option.join_some, Option.join_none, gt_iff_lt, ge_iff_le, tRaise, tTryR, tCallH, tDisp, tPairs, tFld, sFld, tMake, tMeth, tAug, ipI, tDead, tBM0, tRev, l_let, l_fig, l_e, tDGet, tDNotIn, sDPut, tDNewK]
    refine ⟨sl1000 (by simp), fun f nf => ?_⟩
    have T0 : Stay d Hh (upd Hh f (.lst [])) := Stay.of (Same.upd (Same.refl Hh) nf)
    have R0 : Rd (upd Hh f (.lst [])) d (.dK kvs) := rd_same Rh (Same.upd (Same.refl Hh) nf)
    subst hB
    simp only [tSeq, tIfS, tRet, tRetN, tC, tVar, tOp, tUn, tTest, tB, tAnd, tOr, tNot, tAndV, tOrV, tNotV, tIf, tChain, tCons, tNil, tCall, tCB, tLst, tTup, tSl, tNoPart, tPart, gName, tNext, tDrop, tAsg, tAsgC, tBM, tYes, tDNewK, rI, rI0, rU, rEq, rNe, rAbs, rIntT, CDiv, add_ii, add_ss, mul_ii, ix_si, eq_ii, eq_ss, ne_ii, ne_ss, isnot_xn, List.append_nil, List.cons_append, List.nil_append, List.getElem?_cons_succ, List.getElem?_cons_zero, List.set_cons_succ, List.set_cons_zero, Option.some.injEq, V.int.injEq, V.bl.injEq, V.str.injEq, V.ref.injEq, V.ty.injEq, List.cons.injEq, and_true, true_and, exists_eq_left, exists_eq_left', exists_and_left, exists_eq', exists_const, exists_and_right, exists_eq_right, exists_eq_right', reduceCtorEq, false_and, and_false, exists_false, or_false, false_or, decide_eq_true_eq, Bool.not_eq_true', decide_eq_false_iff_not, Bool.false_eq_true, if_false, if_true, mk_app, mk_len, sg_mk, mk_one, decide_true, decide_false, Bool.not_true, Bool.not_false, ite_true, ite_false, not_true_eq_false, not_false_eq_true, mk_iff, tyV_str, stComp, List.map_cons, List.map_nil, Option.join_some, Option.join_none, gt_iff_lt, ge_iff_le, tRaise, tTryR, tCallH, tDisp, tPairs, tFld, sFld, tMake, tMeth, tAug, ipI, tDead, tBM0, tRev, l_let, l_fig, l_e, tDGet, tDNotIn, sDPut, tDNewK]
    refine tfor_rng m (by omega) (by omega) (fun R z => ⟨_, rfl, z⟩) (fun i σ H' => Stay d Hh H' ∧ Rd H' d (.dK kvs) ∧ ∃ (ms : List (Addr × Md)) (v6 v7 v8 : Option V), H' f = some (.lst (refsS ms)) ∧ (∀ e ∈ ms, MdX f H' e ∧ RowsOk e.2.ts) ∧ ms.map hd2 = (es.take i).map hd1 ∧ σ = [some (V.ref a), some (V.int m), some (V.ref p), some (V.ref h), some (V.ref d), some (V.ref f), v6, v7, v8]) ⟨T0, R0, [], none, none, none, upd_same, (fun _ h => nomatch h), rfl, rfl⟩ ?_ ?_
    · clear T0 R0
      rintro i σ H2 hi ⟨T, R, ms, v6, v7, v8, ef, hms, ehd, rfl⟩
      have S : Same H H2 := fun b o e => T b o (ne_of_none e n0_d) (SH b o e)
      obtain ⟨e, he⟩ : ∃ e, es[i]? = some e := ⟨_, List.getElem?_eq_getElem (by omega)⟩
      obtain ⟨hat, hok⟩ := hes e (List.mem_of_getElem? he)
      have lms : ms.length = i := by
        have := congrArg List.length ehd
        rw [List.length_map, List.length_map, List.length_take] at this
        omega
      simp only [tSeq, tIfS, tRet, tRetN, tC, tVar, tOp, tUn, tTest, tB, tAnd, tOr, tNot, tAndV, tOrV, tNotV, tIf, tChain, tCons, tNil, tCall, tCB, tLst, tTup, tSl, tNoPart, tPart, gName, tNext, tDrop, tAsg, tAsgC, tBM, tYes, tDNewK, rI, rI0, rU, rEq, rNe, rAbs, rIntT, CDiv, add_ii, add_ss, mul_ii, ix_si, eq_ii, eq_ss, ne_ii, ne_ss, isnot_xn, List.append_nil, List.cons_append, List.nil_append, List.getElem?_cons_succ, List.getElem?_cons_zero, List.set_cons_succ, List.set_cons_zero, Option.some.injEq, V.int.injEq, V.bl.injEq, V.str.injEq, V.ref.injEq, V.ty.injEq, List.cons.injEq, and_true, true_and, exists_eq_left, exists_eq_left', exists_and_left, exists_eq', exists_const, exists_and_right, exists_eq_right, exists_eq_right', reduceCtorEq, false_and, and_false, exists_false, or_false, false_or, decide_eq_true_eq, Bool.not_eq_true', decide_eq_false_iff_not, Bool.false_eq_true, if_false, if_true, mk_app, mk_len, sg_mk, mk_one, decide_true, decide_false, Bool.not_true, Bool.not_false, ite_true, ite_false, not_true_eq_false, not_false_eq_true, mk_iff, tyV_str, stComp, List.map_cons, List.map_nil, Option.join_some, Option.join_none, gt_iff_lt, ge_iff_le, tRaise, tTryR, tCallH, tDisp, tPairs, tFld, sFld, tMake, tMeth, tAug, ipI, tDead, tBM0, tRev, l_let, l_fig, l_e, tDGet, tDNotIn, sDPut, tDNewK]
      refine ⟨a, ns, 2 + (i : Int), rfl, S.seq ha, by omega, ⟨_, 60, rfl, by decide, by decide, ⟨_, 1, rfl, by decide, by decide, ⟨h, d, (i : Int), _, es, e, kvs, rfl, T _ _ (rd_neL Rh eh) eh, by omega, by simpa using he, hat.stay Rh T, hok.2.1, R, dok.stay Rh T, lk, fun w ws H3 nw T3 R3 ew lw hin => ?_⟩⟩⟩⟩
      have ef3 := T3 _ _ (rd_neL R ef) ef
      have dwf : w ≠ f := (ne_of_none ef nw).symm
      have hms3 := fun e he => (⟨(hms e he).1.stay R T3, (hms e he).2⟩ : MdX f H3 e ∧ RowsOk e.2.ts)
      have T3' := T.trans T3
      clear hms ef T3 S
      refine ⟨tyV_lst (SqL.of ef3), ixL (SqL.of (T3' _ _ (rd_neL Rh eh) eh)) (atIn (by omega) (by simp [refsS, he])) ⟨e, w, d, _, ws, kvs, rfl, hat.stay Rh T3', hok.2.1, ew, lw, hin, R3, dok.stay Rh T3', fun t ts H4 nt S4 md ets rok => ?_⟩⟩
      refine appL (S4 _ _ ef3) (by simp only [refsS, List.length_map, sizeLine_eq]; omega) ?_
      have nf' : Hh f = none := nf
      refine ⟨Stay.set (T3'.trans (Stay.of S4)) nf', rd_set (rd_same R3 S4) (S4 _ _ ef3) (fun _ h => nomatch h), ms ++ [(t, ⟨e.2.n, ts⟩)], by rw [upd_same, refsS_snoc], fun e he => ?_, ?_⟩
      · rcases List.mem_append.mp he with h | h
        · exact ⟨((hms3 e h).1.same S4).set (S4 _ _ ef3), (hms3 e h).2⟩
        · rw [List.mem_singleton.mp h]
          exact ⟨(md.x ef3 dwf).set (S4 _ _ ef3), rok⟩
      · rw [List.map_append, ehd, take_snoc he, List.map_append]
        simp only [List.map_cons, List.map_nil, hd2, hd1, ets]
    · rintro σ H2 ⟨T, R, ms, v6, v7, v8, ef, hms, ehd, rfl⟩
      rw [← les, List.take_length] at ehd
      simp only [tSeq, tIfS, tRet, tRetN, tC, tVar, tOp, tUn, tTest, tB, tAnd, tOr, tNot, tAndV, tOrV, tNotV, tIf, tChain, tCons, tNil, tCall, tCB, tLst, tTup, tSl, tNoPart, tPart, gName, tNext, tDrop, tAsg, tAsgC, tBM, tYes, tDNewK, rI, rI0, rU, rEq, rNe, rAbs, rIntT, CDiv, add_ii, add_ss, mul_ii, ix_si, eq_ii, eq_ss, ne_ii, ne_ss, isnot_xn, List.append_nil, List.cons_append, List.nil_append, List.getElem?_cons_succ, List.getElem?_cons_zero, List.set_cons_succ, List.set_cons_zero, Option.some.injEq, V.int.injEq, V.bl.injEq, V.str.injEq, V.ref.injEq, V.ty.injEq, List.cons.injEq, and_true, true_and, exists_eq_left, exists_eq_left', exists_and_left, exists_eq', exists_const, exists_and_right, exists_eq_right, exists_eq_right', reduceCtorEq, false_and, and_false, exists_false, or_false, false_or, decide_eq_true_eq, Bool.not_eq_true', decide_eq_false_iff_not, Bool.false_eq_true, if_false, if_true, mk_app, mk_len, sg_mk, mk_one, decide_true, decide_false, Bool.not_true, Bool.not_false, ite_true, ite_false, not_true_eq_false, not_false_eq_true, mk_iff, tyV_str, stComp, List.map_cons, List.map_nil, Option.join_some, Option.join_none, gt_iff_lt, ge_iff_le, tRaise, tTryR, tCallH, tDisp, tPairs, tFld, sFld, tMake, tMeth, tAug, ipI, tDead, tBM0, tRev, l_let, l_fig, l_e, tDGet, tDNotIn, sDPut, tDNewK]
      refine q f ms H2 (SH.no nf) (fun b o e => T b o (ne_of_none e n0_d) (SH b o e)) ef ?_ (fun e he => ?_) ?_ ?_
      · have := congrArg List.length ehd
        rw [List.length_map, List.length_map] at this
        omega
      · obtain ⟨h1, h2⟩ := hms e he
        have hm' : hd2 e ∈ es.map hd1 := by rw [← ehd]; exact List.mem_map.mpr ⟨e, he, rfl⟩
        obtain ⟨e', he', hh⟩ := List.mem_map.mp hm'
        obtain ⟨_, hk1, hk2, hk3⟩ := hes e' he'
        have hn : e'.2.n = e.2.n := congrArg Prod.fst hh
        have hs : e'.2.ss.map (·.2) = e.2.ts.map hdr := congrArg Prod.snd hh
        refine ⟨h1.at, ?_, h2, hn ▸ hk1, fun x hx => ?_⟩
        · have := congrArg List.length hs
          rw [List.length_map, List.length_map] at this
          omega
        · have hx' : hdr x ∈ e'.2.ss.map (·.2) := by rw [hs]; exact List.mem_map.mpr ⟨x, hx, rfl⟩
          obtain ⟨y, hy, hy2⟩ := List.mem_map.mp hx'
          have := hk3 y hy
          rw [hy2] at this
          exact this
      · have e1 : ms.map (·.2.n) = (ms.map hd2).map Prod.fst := by rw [List.map_map]; rfl
        have e2 : es.map (·.2.n) = (es.map hd1).map Prod.fst := by rw [List.map_map]; rfl
        rw [e1, ehd, ← e2]
        exact ndn
      · have e1 : (ms.flatMap fun e => shs e.2.ts) = (ms.map hd2).flatMap fun x => shD x.2 := by rw [List.flatMap_map]; simp only [hd2, shs_hdr]
        have e2 : (es.flatMap fun e => shH e.2.ss) = (es.map hd1).flatMap fun x => shD x.2 := by rw [List.flatMap_map]; simp only [hd1, shH_hdr]
        rw [e1, ehd, ← e2]
        exact nds
noncomputable def sp__law_as_part (T : Txt K mg) : Sp := fun vs H Q E => ∃ (e : Addr × Md), vs = [.ref e.1] ∧ MdAt H e ∧ e.2.ts.length ≤ 10 ∧ ∀ p ts' H', H p = none → Same H H' → PMAt T.x_Part H' ⟨p, e.2.n, ts'⟩ → secs ts' = secs e.2.ts → Q (.ref p) H'
theorem sc__law_as_part : FnScope ["_law_one"] ["_law_one"] (defScope s__law_as_part) := ⟨rfl, rfl, rfl, by decide +kernel, rfl, by decide +kernel, by decide +kernel⟩
theorem ok__law_as_part (T : Txt K mg) : FnOk P w K mg base CX0 3 T.d__law_as_part.f T.d__law_as_part.fd ["_law_one"] (sp__law_as_part T) := by
  have nd := sc__law_as_part.nd
  refine T.d__law_as_part.F.ok sc__law_as_part (fun vs H Q E h => ?_) (fun cdv A outer s H vs Q E hr h => ?_)
  · obtain ⟨e, rfl, hd, ls, q⟩ := h
    rfl
  · obtain ⟨e, rfl, hd, ls, q⟩ := h
    have hu := hr.units0
    refine ⟨_, (pss_one (ps_ret (pmk T.mk_Part T.kp_Part T.m_Part T.d_Part___init__ (ok_Part___init__ T) (hr.mono (by decide)) (pa1 (pe_ix (o_ix (K := K)) (pv 0) pe_int (fun _ _ => rfl)) (pa1 (pe_ix (o_ix (K := K)) (pv 0) pe_int (fun _ _ => rfl)) (pa1 (pe_ix (o_ix (K := K)) (pv 0) pe_int (fun _ _ => rfl)) (pa1 (pe_ix (o_ix (K := K)) (pv 0) pe_int (fun _ _ => rfl)) pa_nil))))))), ?_⟩
    rw [show start ["_law_one"] [V.ref e.1] = [some (V.ref e.1)] from rfl]
    obtain ⟨s, w, l, ws, ps, a1, a2, a3, a4, a5⟩ := hd
    simp only [tSeq, tIfS, tRet, tRetN, tC, tVar, tOp, tUn, tTest, tB, tAnd, tOr, tNot, tAndV, tOrV, tNotV, tIf, tChain, tCons, tNil, tCall, tCB, tLst, tTup, tSl, tNoPart, tPart, gName, tNext, tDrop, tAsg, tAsgC, tBM, tYes, tDNewK, rI, rI0, rU, rEq, rNe, rAbs, rIntT, CDiv, add_ii, add_ss, mul_ii, ix_si, eq_ii, eq_ss, ne_ii, ne_ss, isnot_xn, List.append_nil, List.cons_append, List.nil_append, List.getElem?_cons_succ, List.getElem?_cons_zero, List.set_cons_succ, List.set_cons_zero, Option.some.injEq, V.int.injEq, V.bl.injEq, V.str.injEq, V.ref.injEq, V.ty.injEq, List.cons.injEq, and_true, true_and, exists_eq_left, exists_eq_left', exists_and_left, exists_eq', exists_const, exists_and_right, exists_eq_right, exists_eq_right', reduceCtorEq, false_and, and_false, exists_false, or_false, false_or, decide_eq_true_eq, Bool.not_eq_true', decide_eq_false_iff_not, Bool.false_eq_true, if_false, if_true, mk_app, mk_len, sg_mk, mk_one, decide_true, decide_false, Bool.not_true, Bool.not_false, ite_true, ite_false, not_true_eq_false, not_false_eq_true, mk_iff, tyV_str, stComp, List.map_cons, List.map_nil, Option.join_some, Option.join_none, gt_iff_lt, ge_iff_le, tRaise, tTryR, tCallH, tDisp, tPairs, tFld, sFld, tMake, tMeth, tAug, ipI, tDead, tBM0, tRev, l_let, l_fig, l_e, tDGet, tDNotIn, sDPut, tDNewK]
    refine ixT (SqT.of a1) (atIn (by decide) rfl) (ixT (SqT.of a1) (atIn (by decide) rfl) (ixT (SqT.of a1) (atIn (by decide) rfl) (ixT (SqT.of a1) (atIn (by decide) rfl) fun x dx nx ndx nxd => ?_)))
    have K0 : ∀ c o, H c = some o → upd (upd H dx (.own x)) x (.ins T.x_Part dx []) c = some o := fun c o e => by
      rw [upd_ne (ne_of_none e nx), upd_ne (ne_of_none e ndx)]
      exact e
    refine ⟨x, dx, e.2.n, s, w, l, e.2.ts, ws, ps, rfl, upd_same, K0 _ _ a2, a3.same K0, ls, K0 _ _ a4, K0 _ _ a5, fun s' w' l' ts' G ns' ex es' et sn nw' nl' ew' el' kp => ⟨rfl, ?_⟩⟩
    exact q x ts' G nx (fun c o e => kp c o (K0 c o e) (ne_of_none e nx)) ⟨dx, s', w', l', ex, es', sn.at⟩ et
noncomputable def sp__law_order : Sp := fun vs H Q E => ∃ (p : Addr) (xs : List V) (c : Int), vs = [.ref p, .int c] ∧ H p = some (.lst xs) ∧ xs.length ≤ 20 ∧ ∀ l ys H', H l = none → Same H H' → H' l = some (.lst ys) → ys.Perm xs → Q (.ref l) H'
theorem sc__law_order : FnScope ["_law_some", "_law_cell", "_law_found", "_law_k", "_law_one"] ["_law_some", "_law_cell"] (defScope s__law_order) := ⟨rfl, rfl, rfl, by decide +kernel, rfl, by decide +kernel, by decide +kernel⟩
theorem ok__law_order (T : Txt K mg) : FnOk P w K mg base CX0 2 T.d__law_order.f T.d__law_order.fd ["_law_some", "_law_cell"] (sp__law_order) := by
  have nd := sc__law_order.nd
  refine T.d__law_order.F.ok sc__law_order (fun vs H Q E h => ?_) (fun cdv A outer s H vs Q E hr h => ?_)
  · obtain ⟨p, xs, c, rfl, hp, hl, q⟩ := h
    rfl
  · obtain ⟨p, xs, c, rfl, hp, hl, q⟩ := h
    have hu := hr.units0
    refine ⟨_, (pss_cons (ps_set (i := 2) nd rfl (Or.inl rfl) (pe_lst pa_nil))
      (pss_cons (ps_for PassesOwn.never rfl (pi_enum rfl T.n_enumerate (pa1 (pv 0) pa_nil)) (pg_tupK (K := K) (n := 2) rfl (pgs_cons (pg_name (i := 3) nd rfl (Or.inl rfl)) (pgs_cons (pg_name (i := 4) nd rfl (Or.inl rfl)) pgs_nil)))
        (pss_one (ps_expr (pm1 (K := K) PySem.F.plainAttrs_list PySem.F.slot_list_insert PySem.F.type_list_insert o_insert (pv 2) (pa1 (pe_op op_mod (pc1 T.d__law_mixed (ok__law_mixed T) (hr.mono (by decide)) (pa1 (pv 1) (pa1 (pe_op o_add pe_int (pv 3)) pa_nil))) (pe_op o_add (pcB (o_len (K := K)) rfl T.n_len (by kernel_rfl) (pa1 (pv 2) pa_nil)) pe_int)) (pa1 (pv 4) pa_nil))))))
      (pss_one (ps_ret (pv 2))))), ?_⟩
    rw [show start ["_law_some", "_law_cell", "_law_found", "_law_k", "_law_one"] [V.ref p, V.int c] = [some (V.ref p), some (V.int c), none, none, none] from rfl]
    simp only [tSeq, tIfS, tRet, tRetN, tC, tVar, tOp, tUn, tTest, tB, tAnd, tOr, tNot, tAndV, tOrV, tNotV, tIf, tChain, tCons, tNil, tCall, tCB, tLst, tTup, tSl, tNoPart, tPart, gName, tNext, tDrop, tAsg, tAsgC, tBM, tYes, tDNewK, rI, rI0, rU, rEq, rNe, rAbs, rIntT, CDiv, add_ii, add_ss, mul_ii, ix_si, eq_ii, eq_ss, ne_ii, ne_ss, isnot_xn, List.append_nil, List.cons_append, List.nil_append, List.getElem?_cons_succ, List.getElem?_cons_zero, List.set_cons_succ, List.set_cons_zero, Option.some.injEq, V.int.injEq, V.bl.injEq, V.str.injEq, V.ref.injEq, V.ty.injEq, List.cons.injEq, and_true, true_and, exists_eq_left, exists_eq_left', exists_and_left, exists_eq', exists_const, exists_and_right, exists_eq_right, exists_eq_right', reduceCtorEq, false_and, and_false, exists_false, or_false, false_or, decide_eq_true_eq, Bool.not_eq_true', decide_eq_false_iff_not, Bool.false_eq_true, if_false, if_true, mk_app, mk_len, sg_mk, mk_one, decide_true, decide_false, Bool.not_true, Bool.not_false, ite_true, ite_false, not_true_eq_false, not_false_eq_true, mk_iff, tyV_str, stComp, List.map_cons, List.map_nil, Option.join_some, Option.join_none, gt_iff_lt, ge_iff_le, tRaise, tTryR, tCallH, tDisp, tPairs, tFld, sFld, tMake, tMeth, tAug, ipI, tDead, tBM0, tRev, l_let, l_fig, l_e, tDGet, tDNotIn, sDPut, tDNewK]
    refine ⟨sl1000 (by simp), fun l nl => ?_⟩
    have S := Same.upd (Same.refl H) nl (o := .lst [])
    have el : upd H l (.lst []) l = some (.lst []) := upd_same
    generalize upd H l (.lst []) = H1 at S el ⊢
    refine tfor_enum (a := p) (xs := xs) (fun R r => ⟨_, rfl, r⟩) (SqL.of (S _ _ hp)) (fun i σ H' => Same H H' ∧ ∃ (ys : List V) (v3 v4 : Option V), H' l = some (.lst ys) ∧ ys.Perm (xs.take i) ∧ σ = [some (V.ref p), some (V.int c), some (V.ref l), v3, v4]) ⟨S, [], none, none, el, by simp, rfl⟩ (fun i σ H' h => SqL.of (h.1 _ _ hp)) ?_ ?_
    · rintro i x t σ H2 hx ⟨S2, ys, v3, v4, e2, p2, rfl⟩ nt
      have S3 := Same.upd S2 nt (o := .tup [.int i, x])
      have e3 := (Same.upd (Same.refl H2) nt (o := .tup [.int i, x])) _ _ e2
      refine tupT upd_same ?_
      have hi : i < xs.length := (List.getElem?_eq_some_iff.mp hx).1
      have ly := p2.length_eq
      rw [List.length_take] at ly
      generalize upd H2 t (.tup [.int i, x]) = H3 at S3 e3 ⊢
      simp only [tSeq, tIfS, tRet, tRetN, tC, tVar, tOp, tUn, tTest, tB, tAnd, tOr, tNot, tAndV, tOrV, tNotV, tIf, tChain, tCons, tNil, tCall, tCB, tLst, tTup, tSl, tNoPart, tPart, gName, tNext, tDrop, tAsg, tAsgC, tBM, tYes, tDNewK, rI, rI0, rU, rEq, rNe, rAbs, rIntT, CDiv, add_ii, add_ss, mul_ii, ix_si, eq_ii, eq_ss, ne_ii, ne_ss, isnot_xn, List.append_nil, List.cons_append, List.nil_append, List.getElem?_cons_succ, List.getElem?_cons_zero, List.set_cons_succ, List.set_cons_zero, Option.some.injEq, V.int.injEq, V.bl.injEq, V.str.injEq, V.ref.injEq, V.ty.injEq, List.cons.injEq, and_true, true_and, exists_eq_left, exists_eq_left', exists_and_left, exists_eq', exists_const, exists_and_right, exists_eq_right, exists_eq_right', reduceCtorEq, false_and, and_false, exists_false, or_false, false_or, decide_eq_true_eq, Bool.not_eq_true', decide_eq_false_iff_not, Bool.false_eq_true, if_false, if_true, mk_app, mk_len, sg_mk, mk_one, decide_true, decide_false, Bool.not_true, Bool.not_false, ite_true, ite_false, not_true_eq_false, not_false_eq_true, mk_iff, tyV_str, stComp, List.map_cons, List.map_nil, Option.join_some, Option.join_none, gt_iff_lt, ge_iff_le, tRaise, tTryR, tCallH, tDisp, tPairs, tFld, sFld, tMake, tMeth, tAug, ipI, tDead, tBM0, tRev, l_let, l_fig, l_e, tDGet, tDNotIn, sDPut, tDNewK]
      refine ⟨tyV_lst (SqL.of e3), c, 70 + (i : Int), rfl, by omega, by omega, lenL (SqL.of e3) ?_⟩
      simp only [tSeq, tIfS, tRet, tRetN, tC, tVar, tOp, tUn, tTest, tB, tAnd, tOr, tNot, tAndV, tOrV, tNotV, tIf, tChain, tCons, tNil, tCall, tCB, tLst, tTup, tSl, tNoPart, tPart, gName, tNext, tDrop, tAsg, tAsgC, tBM, tYes, tDNewK, rI, rI0, rU, rEq, rNe, rAbs, rIntT, CDiv, add_ii, add_ss, mul_ii, ix_si, eq_ii, eq_ss, ne_ii, ne_ss, isnot_xn, List.append_nil, List.cons_append, List.nil_append, List.getElem?_cons_succ, List.getElem?_cons_zero, List.set_cons_succ, List.set_cons_zero, Option.some.injEq, V.int.injEq, V.bl.injEq, V.str.injEq, V.ref.injEq, V.ty.injEq, List.cons.injEq, and_true, true_and, exists_eq_left, exists_eq_left', exists_and_left, exists_eq', exists_const, exists_and_right, exists_eq_right, exists_eq_right', reduceCtorEq, false_and, and_false, exists_false, or_false, false_or, decide_eq_true_eq, Bool.not_eq_true', decide_eq_false_iff_not, Bool.false_eq_true, if_false, if_true, mk_app, mk_len, sg_mk, mk_one, decide_true, decide_false, Bool.not_true, Bool.not_false, ite_true, ite_false, not_true_eq_false, not_false_eq_true, mk_iff, tyV_str, stComp, List.map_cons, List.map_nil, Option.join_some, Option.join_none, gt_iff_lt, ge_iff_le, tRaise, tTryR, tCallH, tDisp, tPairs, tFld, sFld, tMake, tMeth, tAug, ipI, tDead, tBM0, tRev, l_let, l_fig, l_e, tDGet, tDNotIn, sDPut, tDNewK]
      have hm : 0 ≤ mixT c (70 + (i : Int)) % ((ys.length : Int) + 1) := Int.emod_nonneg _ (by omega)
      have hm2 : mixT c (70 + (i : Int)) % ((ys.length : Int) + 1) < (ys.length : Int) + 1 := Int.emod_lt_of_pos _ (by omega)
      refine ⟨by omega, l, _, x, ys, rfl, rfl, e3, hm, by omega, by omega, S3.set nl, _, upd_same, ?_⟩
      rw [take_snoc hx]
      generalize (mixT c (70 + (i : Int)) % ((ys.length : Int) + 1)).toNat = k
      refine (List.perm_middle.trans ?_).trans (List.perm_append_singleton x _).symm
      rw [List.take_append_drop]
      exact p2.cons x
    · rintro σ H2 ⟨S2, ys, v3, v4, e2, p2, rfl⟩
      simp only [tSeq, tIfS, tRet, tRetN, tC, tVar, tOp, tUn, tTest, tB, tAnd, tOr, tNot, tAndV, tOrV, tNotV, tIf, tChain, tCons, tNil, tCall, tCB, tLst, tTup, tSl, tNoPart, tPart, gName, tNext, tDrop, tAsg, tAsgC, tBM, tYes, tDNewK, rI, rI0, rU, rEq, rNe, rAbs, rIntT, CDiv, add_ii, add_ss, mul_ii, ix_si, eq_ii, eq_ss, ne_ii, ne_ss, isnot_xn, List.append_nil, List.cons_append, List.nil_append, List.getElem?_cons_succ, List.getElem?_cons_zero, List.set_cons_succ, List.set_cons_zero, Option.some.injEq, V.int.injEq, V.bl.injEq, V.str.injEq, V.ref.injEq, V.ty.injEq, List.cons.injEq, and_true, true_and, exists_eq_left, exists_eq_left', exists_and_left, exists_eq', exists_const, exists_and_right, exists_eq_right, exists_eq_right', reduceCtorEq, false_and, and_false, exists_false, or_false, false_or, decide_eq_true_eq, Bool.not_eq_true', decide_eq_false_iff_not, Bool.false_eq_true, if_false, if_true, mk_app, mk_len, sg_mk, mk_one, decide_true, decide_false, Bool.not_true, Bool.not_false, ite_true, ite_false, not_true_eq_false, not_false_eq_true, mk_iff, tyV_str, stComp, List.map_cons, List.map_nil, Option.join_some, Option.join_none, gt_iff_lt, ge_iff_le, tRaise, tTryR, tCallH, tDisp, tPairs, tFld, sFld, tMake, tMeth, tAug, ipI, tDead, tBM0, tRev, l_let, l_fig, l_e, tDGet, tDNotIn, sDPut, tDNewK]
      rw [List.take_length] at p2
      exact q l ys H2 nl S2 e2 p2
noncomputable def sp__law_layout : Sp := fun vs H Q E => ∃ (a : Addr) (ms : List (Addr × Md)), vs = [.ref a] ∧ H a = some (.lst (refsS ms)) ∧ (∀ e ∈ ms, MdAt H e) ∧ ms.length ≤ 6 ∧ (∀ e ∈ ms, e.2.ts.length ≤ 4) ∧ ∀ l (rs : List (Addr × Rw)) (n1 n2 : List Str) H', H l = none → Same H H' → H' l = some (.lst (refsS rs)) → (∀ e ∈ rs, RwAt H' e) → n1.Perm (ms.map (·.2.n)) → PyProof.Rows.sortedS n1 = true → n2.Perm (ms.map (·.2.n)) → PyProof.Rows.sortedS n2 = true → rs.map (·.2) = (placeR (layI (Str.ofString "code") n1 ms ++ layI (Str.ofString "data") n2 ms)).1 → Q (.ref l) H'
theorem sc__law_layout : FnScope ["_law_made_here", "_law_found", "_law_at", "_law_kind", "_law_name", "_law_one", "_law_section"] ["_law_made_here"] (defScope s__law_layout) := ⟨rfl, rfl, rfl, by decide +kernel, rfl, by decide +kernel, by decide +kernel⟩
theorem ok__law_layout (T : Txt K mg) : FnOk P w K mg base CX0 1 T.d__law_layout.f T.d__law_layout.fd ["_law_made_here"] (sp__law_layout) := by
  have nd := sc__law_layout.nd
  refine T.d__law_layout.F.ok sc__law_layout (fun vs H Q E h => ?_) (fun cdv A outer s H vs Q E hr h => ?_)
  · obtain ⟨a, ms, rfl, ha, hm, lm, lt, q⟩ := h
    rfl
  · obtain ⟨a, ms, rfl, ha, hm, lm, lt, q⟩ := h
    have hu := hr.units0
    refine ⟨_, (pss_cons (ps_set (i := 1) nd rfl (Or.inl rfl) (pe_lst pa_nil))
      (pss_cons (ps_set (i := 2) nd rfl (Or.inl rfl) pe_int)
      (pss_cons (ps_for PassesOwn.never rfl (pi_tupK (K := K) (pe_tup (pa1 pe_str (pa1 pe_str pa_nil)))) (pg_name (i := 3) nd rfl (Or.inl rfl))
        (pss_one (ps_for PassesOwn.never rfl (pi_listK (K := K) (pcB (o_sorted (K := K)) rfl T.n_sorted (by kernel_rfl) (pa1 (pe_lcomp (N' := ["_law_one"]) (src := [none]) rfl (CompScope.of (by kernel_rfl)) (pi_listK (K := K) (pv 0)) (fun _ _ _ _ _ _ => (pg_name (i := 0) (show (["_law_one"] : List Str).Nodup by decide +kernel) rfl (Or.inl rfl))) (fun _ _ _ _ _ _ => pif_nil) (fun _ _ _ _ _ _ => (pe_ix (o_ix (K := K)) (pv 0) pe_int (fun _ _ => rfl)))) pa_nil))) (pg_name (i := 4) nd rfl (Or.inl rfl))
        (pss_one (ps_for PassesOwn.never rfl (pi_listK (K := K) (pv 0)) (pg_name (i := 5) nd rfl (Or.inl rfl))
        (pss_one (ps_for PassesOwn.never rfl (pi_listK (K := K) (pe_ix (o_ix (K := K)) (pv 5) pe_int (fun _ _ => rfl))) (pg_name (i := 6) nd rfl (Or.inl rfl))
        (pss_one (ps_if (PW.pt (pw_and (pt_cmpR (o_eq (K := K) hu) (pe_ix (o_ix (K := K)) (pv 5) pe_int (fun _ _ => rfl)) (pv 4) (nomark _)) (pw_and1 (pt_cmpR (o_eq (K := K) hu) (pe_ix (o_ix (K := K)) (pv 6) pe_int (fun _ _ => rfl)) (pv 3) (nomark _))))) (pss_cons (ps_expr (pm1 (K := K) PySem.F.plainAttrs_list PySem.F.slot_list_append PySem.F.type_list_append o_append (pv 1) (pa1 (pe_tup (pa1 (pv 4) (pa1 (pe_ix (o_ix (K := K)) (pv 6) pe_int (fun _ _ => rfl)) (pa1 (pv 3) (pa1 (pv 2) (pa1 (pcB (o_len (K := K)) rfl T.n_len (by kernel_rfl) (pa1 (pe_ix (o_ix (K := K)) (pv 6) pe_int (fun _ _ => rfl)) pa_nil)) pa_nil)))))) pa_nil)))
      (pss_one (ps_set (i := 2) nd rfl (Or.inl rfl) (pe_op o_add (pv 2) (pcB (o_len (K := K)) rfl T.n_len (by kernel_rfl) (pa1 (pe_ix (o_ix (K := K)) (pv 6) pe_int (fun _ _ => rfl)) pa_nil)))))) pss_nil)))))))))
      (pss_one (ps_ret (pv 1)))))), ?_⟩
    rw [show start ["_law_made_here", "_law_found", "_law_at", "_law_kind", "_law_name", "_law_one", "_law_section"] [V.ref a] = [some (V.ref a), none, none, none, none, none, none] from rfl]
    have S := Same.refl H
    refine tSeq_gen fun B hB => ?_
    simp only [tSeq, tIfS, tRet, tRetN, tC, tVar, tOp, tUn, tTest, tB, tAnd, tOr, tNot, tAndV, tOrV, tNotV, tIf, tChain, tCons, tNil, tCall, tCB, tLst, tTup, tSl, tNoPart, tPart, gName, tNext, tDrop, tAsg, tAsgC, tBM, tYes, tDNewK, rI, rI0, rU, rEq, rNe, rAbs, rIntT, CDiv, add_ii, add_ss, mul_ii, ix_si, eq_ii, eq_ss, ne_ii, ne_ss, isnot_xn, List.append_nil, List.cons_append, List.nil_append, List.getElem?_cons_succ, List.getElem?_cons_zero, List.set_cons_succ, List.set_cons_zero, Option.some.injEq, V.int.injEq, V.bl.injEq, V.str.injEq, V.ref.injEq, V.ty.injEq, List.cons.injEq, and_true, true_and, exists_eq_left, exists_eq_left', exists_and_left, exists_eq', exists_const, exists_and_right, exists_eq_right, exists_eq_right', reduceCtorEq, false_and, and_false, exists_false, or_false, false_or, decide_eq_true_eq, Bool.not_eq_true', decide_eq_false_iff_not, Bool.false_eq_true, if_false, if_true, mk_app, mk_len, sg_mk, mk_one, decide_true, decide_false, Bool.not_true, Bool.not_false, ite_true, ite_false, not_true_eq_false, not_false_eq_true, mk_iff, tyV_str, stComp, List.map_cons, List.map_nil, Option.join_some, Option.join_none, gt_iff_lt, ge_iff_le, tRaise, tTryR, tCallH, tDisp, tPairs, tFld, sFld, tMake, tMeth, tAug, ipI, tDead, tBM0, tRev, l_let, l_fig, l_e, tDGet, tDNotIn, sDPut, tDNewK]
    refine ⟨sl1000 (by simp), fun l nl => ?_⟩
    have n0_l := S.no nl
    have X_ := Same.upd (Same.refl H) nl (o := .lst [])
    have e_l : upd H l (.lst []) l = some (.lst []) := upd_same
    replace S := S.trans X_
    generalize upd H l (.lst []) = H1 at X_ e_l  S ⊢
    clear X_ nl
    
    subst hB
    simp only [tSeq, tIfS, tRet, tRetN, tC, tVar, tOp, tUn, tTest, tB, tAnd, tOr, tNot, tAndV, tOrV, tNotV, tIf, tChain, tCons, tNil, tCall, tCB, tLst, tTup, tSl, tNoPart, tPart, gName, tNext, tDrop, tAsg, tAsgC, tBM, tYes, tDNewK, rI, rI0, rU, rEq, rNe, rAbs, rIntT, CDiv, add_ii, add_ss, mul_ii, ix_si, eq_ii, eq_ss, ne_ii, ne_ss, isnot_xn, List.append_nil, List.cons_append, List.nil_append, List.getElem?_cons_succ, List.getElem?_cons_zero, List.set_cons_succ, List.set_cons_zero, Option.some.injEq, V.int.injEq, V.bl.injEq, V.str.injEq, V.ref.injEq, V.ty.injEq, List.cons.injEq, and_true, true_and, exists_eq_left, exists_eq_left', exists_and_left, exists_eq', exists_const, exists_and_right, exists_eq_right, exists_eq_right', reduceCtorEq, false_and, and_false, exists_false, or_false, false_or, decide_eq_true_eq, Bool.not_eq_true', decide_eq_false_iff_not, Bool.false_eq_true, if_false, if_true, mk_app, mk_len, sg_mk, mk_one, decide_true, decide_false, Bool.not_true, Bool.not_false, ite_true, ite_false, not_true_eq_false, not_false_eq_true, mk_iff, tyV_str, stComp, List.map_cons, List.map_nil, Option.join_some, Option.join_none, gt_iff_lt, ge_iff_le, tRaise, tTryR, tCallH, tDisp, tPairs, tFld, sFld, tMake, tMeth, tAug, ipI, tDead, tBM0, tRev, l_let, l_fig, l_e, tDGet, tDNotIn, sDPut, tDNewK]
    have L0 : Lv H1 l [] 0 := ⟨[], e_l, (fun _ h => nomatch h), rfl, by simp⟩
    clear e_l
    refine tfor_tupd (xs := [V.str (Str.ofString "code"), V.str (Str.ofString "data")]) (fun R z => z) (sl1000 (by simp)) (fun t i σ H' => Same H H' ∧ H' t = some (.tup [V.str (Str.ofString "code"), V.str (Str.ofString "data")]) ∧ ∃ (ns : List (List Str)) (v3 v4 v5 v6 : Option V), ns.length = i ∧ (∀ n ∈ ns, n.Perm (ms.map (·.2.n)) ∧ PyProof.Rows.sortedS n = true) ∧ Lv H' l (layK ns ms) (144 * i) ∧ σ = [some (V.ref a), some (V.ref l), some (V.int (placeR (layK ns ms)).2), v3, v4, v5, v6]) (fun t nt => ⟨Same.upd S nt, upd_same, [], none, none, none, none, rfl, (fun _ h => nomatch h), L0.same (Same.upd (Same.refl H1) nt), rfl⟩) (fun t i σ H' z => z.2.1) ?_ ?_
    · clear S L0 H1
      rintro t i x σ H1 hx ⟨S, et, ns, v3, v4, v5, v6, ln, hns, L1, rfl⟩
      obtain ⟨kd, hkd, rfl⟩ := kds_at hx
      rw [← ln] at hkd
      have hi2 : i ≤ 2 := by
        have := (List.getElem?_eq_some_iff.mp hx).1
        simp at this
        omega
      refine tfor_unf ?_
      simp only [tSeq, tIfS, tRet, tRetN, tC, tVar, tOp, tUn, tTest, tB, tAnd, tOr, tNot, tAndV, tOrV, tNotV, tIf, tChain, tCons, tNil, tCall, tCB, tLst, tTup, tSl, tNoPart, tPart, gName, tNext, tDrop, tAsg, tAsgC, tBM, tYes, tDNewK, rI, rI0, rU, rEq, rNe, rAbs, rIntT, CDiv, add_ii, add_ss, mul_ii, ix_si, eq_ii, eq_ss, ne_ii, ne_ss, isnot_xn, List.append_nil, List.cons_append, List.nil_append, List.getElem?_cons_succ, List.getElem?_cons_zero, List.set_cons_succ, List.set_cons_zero, Option.some.injEq, V.int.injEq, V.bl.injEq, V.str.injEq, V.ref.injEq, V.ty.injEq, List.cons.injEq, and_true, true_and, exists_eq_left, exists_eq_left', exists_and_left, exists_eq', exists_const, exists_and_right, exists_eq_right, exists_eq_right', reduceCtorEq, false_and, and_false, exists_false, or_false, false_or, decide_eq_true_eq, Bool.not_eq_true', decide_eq_false_iff_not, Bool.false_eq_true, if_false, if_true, mk_app, mk_len, sg_mk, mk_one, decide_true, decide_false, Bool.not_true, Bool.not_false, ite_true, ite_false, not_true_eq_false, not_false_eq_true, mk_iff, tyV_str, stComp, List.map_cons, List.map_nil, Option.join_some, Option.join_none, gt_iff_lt, ge_iff_le, tRaise, tTryR, tCallH, tDisp, tPairs, tFld, sFld, tMake, tMeth, tAug, ipI, tDead, tBM0, tRev, l_let, l_fig, l_e, tDGet, tDNotIn, sDPut, tDNewK]
      refine tcomp_listM (K := K) (xs := refsS ms) (fun a' H0 => a' = a ∧ H0 = H1) (fun R z => ⟨_, rfl, z _ _ ⟨rfl, rfl⟩⟩) (fun a' i ys H' => a' = a ∧ H' = H1 ∧ ys = ((ms.take i).map (·.2.n)).map V.str) (fun a H0 z => ⟨z.1, z.2, rfl⟩) (fun a' i ys H' z => by rw [z.1, z.2.1]; exact SqL.of (S _ _ ha)) (sl1000 (by simp [refsS]; omega)) (fun a' k x ys H' Cy Cn hx z cy cn => ?_) (fun a' ys H' p1 z n1 => ?_)
      · obtain ⟨rfl, rfl, rfl⟩ := z
        obtain ⟨m, hmm, rfl⟩ := refsS_get hx
        obtain ⟨s, w, l, ws, ps, a1, _⟩ := hm m (List.mem_of_getElem? hmm)
        refine ⟨KeepSt.set rfl, ?_⟩
        simp only [tSeq, tIfS, tRet, tRetN, tC, tVar, tOp, tUn, tTest, tB, tAnd, tOr, tNot, tAndV, tOrV, tNotV, tIf, tChain, tCons, tNil, tCall, tCB, tLst, tTup, tSl, tNoPart, tPart, gName, tNext, tDrop, tAsg, tAsgC, tBM, tYes, tDNewK, rI, rI0, rU, rEq, rNe, rAbs, rIntT, CDiv, add_ii, add_ss, mul_ii, ix_si, eq_ii, eq_ss, ne_ii, ne_ss, isnot_xn, List.append_nil, List.cons_append, List.nil_append, List.getElem?_cons_succ, List.getElem?_cons_zero, List.set_cons_succ, List.set_cons_zero, Option.some.injEq, V.int.injEq, V.bl.injEq, V.str.injEq, V.ref.injEq, V.ty.injEq, List.cons.injEq, and_true, true_and, exists_eq_left, exists_eq_left', exists_and_left, exists_eq', exists_const, exists_and_right, exists_eq_right, exists_eq_right', reduceCtorEq, false_and, and_false, exists_false, or_false, false_or, decide_eq_true_eq, Bool.not_eq_true', decide_eq_false_iff_not, Bool.false_eq_true, if_false, if_true, mk_app, mk_len, sg_mk, mk_one, decide_true, decide_false, Bool.not_true, Bool.not_false, ite_true, ite_false, not_true_eq_false, not_false_eq_true, mk_iff, tyV_str, stComp, List.map_cons, List.map_nil, Option.join_some, Option.join_none, gt_iff_lt, ge_iff_le, tRaise, tTryR, tCallH, tDisp, tPairs, tFld, sFld, tMake, tMeth, tAug, ipI, tDead, tBM0, tRev, l_let, l_fig, l_e, tDGet, tDNotIn, sDPut, tDNewK]
        exact ixT (SqT.of (S _ _ a1)) (atIn (by decide) rfl) (cy _ _ ⟨rfl, rfl, by rw [take_snoc hmm]; simp⟩)
      obtain ⟨_, rfl, rfl⟩ := z
      rw [show (refsS ms).length = ms.length by simp [refsS], List.take_length]
      have n0_p1 := S.no n1
      have X_ := Same.upd (Same.refl H') n1 (o := .lst ((ms.map (·.2.n)).map V.str))
      have e_p1 : upd H' p1 (.lst ((ms.map (·.2.n)).map V.str)) p1 = some (.lst ((ms.map (·.2.n)).map V.str)) := upd_same
      replace et := X_ _ _ et
      replace S := S.trans X_
      replace L1 := L1.same X_
      generalize upd H' p1 (.lst ((ms.map (·.2.n)).map V.str)) = H2 at X_ e_p1 et L1 S ⊢
      clear X_ n1
    
      refine ⟨p1, ms.map (·.2.n), rfl, SqL.of e_p1, by simp; omega, fun p2 n' np2 hperm hsort => ?_⟩
      have d2 : p2 ≠ l := let ⟨_, e, _⟩ := L1; (ne_of_none e np2).symm
      have n0_p2 := S.no np2
      have X_ := Same.upd (Same.refl H2) np2 (o := .lst (n'.map V.str))
      have e_p2 : upd H2 p2 (.lst (n'.map V.str)) p2 = some (.lst (n'.map V.str)) := upd_same
      replace et := X_ _ _ et
      replace S := S.trans X_
      replace L1 := L1.same X_
      generalize upd H2 p2 (.lst (n'.map V.str)) = H3 at X_ e_p2 et L1 S ⊢
      clear X_ np2
    
      refine ⟨p2, rfl, ⟨_, SqL.of e_p2⟩, tfor_it (xs := n'.map V.str) (fun j σ H' => Same H H' ∧ H' t = some (.tup [V.str (Str.ofString "code"), V.str (Str.ofString "data")]) ∧ H' p2 = some (.lst (n'.map V.str)) ∧ ∃ (v4 v5 v6 : Option V), Lv H' l (layK ns ms ++ (n'.take j).flatMap fun nm => ms.flatMap (layP kd nm)) (144 * i + 24 * j) ∧ σ = [some (V.ref a), some (V.ref l), some (V.int (placeR (layK ns ms ++ (n'.take j).flatMap fun nm => ms.flatMap (layP kd nm))).2), some (V.str kd), v4, v5, v6]) ⟨S, et, e_p2, v4, v5, v6, by simpa using L1, by simp⟩ (fun i σ H' z => SqL.of z.2.2.1) (fun j y σ H' hy z => ?_) (fun σ H' z => ?_)⟩
      · clear S et e_p2 L1 v4 v5 v6 H3 H2 e_p1
        obtain ⟨S, et, e2, v4, v5, v6, L, rfl⟩ := z
        rw [List.getElem?_map] at hy
        obtain ⟨nm, hnm, rfl⟩ : ∃ nm, n'[j]? = some nm ∧ y = V.str nm := by
          cases e : n'[j]? with
          | none => rw [e] at hy; cases hy
          | some nm => rw [e] at hy; cases hy; exact ⟨nm, rfl, rfl⟩
        simp only [flat_snoc hnm, ← List.append_assoc]
        generalize (layK ns ms ++ (n'.take j).flatMap fun nm => ms.flatMap (layP kd nm)) = I at L ⊢
        refine tfor_list (a := a) (xs := refsS ms) (fun R z => ⟨_, rfl, z⟩) (SqL.of (S _ _ ha)) (fun k σ H' => Same H H' ∧ H' t = some (.tup [V.str (Str.ofString "code"), V.str (Str.ofString "data")]) ∧ H' p2 = some (.lst (n'.map V.str)) ∧ ∃ (v5 v6 : Option V), Lv H' l (I ++ (ms.take k).flatMap (layP kd nm)) (144 * i + 24 * j + 4 * k) ∧ σ = [some (V.ref a), some (V.ref l), some (V.int (placeR (I ++ (ms.take k).flatMap (layP kd nm))).2), some (V.str kd), some (V.str nm), v5, v6]) ⟨S, et, e2, v5, v6, by simpa using L, by simp⟩ (fun k σ H' z => SqL.of (z.1 _ _ ha)) ?_ ?_
        · clear S et e2 v4 v5 v6 L H'
          rintro k x σ H1 hx ⟨S, et, e2, v5, v6, L, rfl⟩
          obtain ⟨m, hmm, rfl⟩ := refsS_get hx
          obtain ⟨s, w, l', ws, ps, a1, a2, a3, _, _⟩ := hm m (List.mem_of_getElem? hmm)
          have lts := lt m (List.mem_of_getElem? hmm)
          simp only [flat_snoc hmm, ← List.append_assoc]
          generalize (I ++ (ms.take k).flatMap (layP kd nm)) = I2 at L ⊢
          refine tfor_list (a := s) (xs := refsS m.2.ts) (fun R z => by simp only [tSeq, tIfS, tRet, tRetN, tC, tVar, tOp, tUn, tTest, tB, tAnd, tOr, tNot, tAndV, tOrV, tNotV, tIf, tChain, tCons, tNil, tCall, tCB, tLst, tTup, tSl, tNoPart, tPart, gName, tNext, tDrop, tAsg, tAsgC, tBM, tYes, tDNewK, rI, rI0, rU, rEq, rNe, rAbs, rIntT, CDiv, add_ii, add_ss, mul_ii, ix_si, eq_ii, eq_ss, ne_ii, ne_ss, isnot_xn, List.append_nil, List.cons_append, List.nil_append, List.getElem?_cons_succ, List.getElem?_cons_zero, List.set_cons_succ, List.set_cons_zero, Option.some.injEq, V.int.injEq, V.bl.injEq, V.str.injEq, V.ref.injEq, V.ty.injEq, List.cons.injEq, and_true, true_and, exists_eq_left, exists_eq_left', exists_and_left, exists_eq', exists_const, exists_and_right, exists_eq_right, exists_eq_right', reduceCtorEq, false_and, and_false, exists_false, or_false, false_or, decide_eq_true_eq, Bool.not_eq_true', decide_eq_false_iff_not, Bool.false_eq_true, if_false, if_true, mk_app, mk_len, sg_mk, mk_one, decide_true, decide_false, Bool.not_true, Bool.not_false, ite_true, ite_false, not_true_eq_false, not_false_eq_true, mk_iff, tyV_str, stComp, List.map_cons, List.map_nil, Option.join_some, Option.join_none, gt_iff_lt, ge_iff_le, tRaise, tTryR, tCallH, tDisp, tPairs, tFld, sFld, tMake, tMeth, tAug, ipI, tDead, tBM0, tRev, l_let, l_fig, l_e, tDGet, tDNotIn, sDPut, tDNewK]; exact ixT (SqT.of (S _ _ a1)) (atIn (by decide) rfl) z) (SqL.of (S _ _ a2)) (fun u σ H' => Same H H' ∧ H' t = some (.tup [V.str (Str.ofString "code"), V.str (Str.ofString "data")]) ∧ H' p2 = some (.lst (n'.map V.str)) ∧ ∃ (v6 : Option V), Lv H' l (I2 ++ layQ kd nm m.2.n (m.2.ts.take u)) (144 * i + 24 * j + 4 * k + u) ∧ σ = [some (V.ref a), some (V.ref l), some (V.int (placeR (I2 ++ layQ kd nm m.2.n (m.2.ts.take u))).2), some (V.str kd), some (V.str nm), some (V.ref m.1), v6]) ⟨S, et, e2, v6, by rw [List.take_zero, layQ_nil, List.append_nil]; exact L, by rw [List.take_zero, layQ_nil, List.append_nil]; rfl⟩ (fun k σ H' z => SqL.of (z.1 _ _ a2)) ?_ ?_
          · clear S et e2 v5 v6 L H1
            rintro u x σ H1 hx ⟨S, et, e2, v6, L, rfl⟩
            obtain ⟨q', hq', rfl⟩ := refsS_get hx
            obtain ⟨r, b1, b2⟩ := a3 q' (List.mem_of_getElem? hq')
            rw [layQ_snoc hq']
            simp only [tSeq, tIfS, tRet, tRetN, tC, tVar, tOp, tUn, tTest, tB, tAnd, tOr, tNot, tAndV, tOrV, tNotV, tIf, tChain, tCons, tNil, tCall, tCB, tLst, tTup, tSl, tNoPart, tPart, gName, tNext, tDrop, tAsg, tAsgC, tBM, tYes, tDNewK, rI, rI0, rU, rEq, rNe, rAbs, rIntT, CDiv, add_ii, add_ss, mul_ii, ix_si, eq_ii, eq_ss, ne_ii, ne_ss, isnot_xn, List.append_nil, List.cons_append, List.nil_append, List.getElem?_cons_succ, List.getElem?_cons_zero, List.set_cons_succ, List.set_cons_zero, Option.some.injEq, V.int.injEq, V.bl.injEq, V.str.injEq, V.ref.injEq, V.ty.injEq, List.cons.injEq, and_true, true_and, exists_eq_left, exists_eq_left', exists_and_left, exists_eq', exists_const, exists_and_right, exists_eq_right, exists_eq_right', reduceCtorEq, false_and, and_false, exists_false, or_false, false_or, decide_eq_true_eq, Bool.not_eq_true', decide_eq_false_iff_not, Bool.false_eq_true, if_false, if_true, mk_app, mk_len, sg_mk, mk_one, decide_true, decide_false, Bool.not_true, Bool.not_false, ite_true, ite_false, not_true_eq_false, not_false_eq_true, mk_iff, tyV_str, stComp, List.map_cons, List.map_nil, Option.join_some, Option.join_none, gt_iff_lt, ge_iff_le, tRaise, tTryR, tCallH, tDisp, tPairs, tFld, sFld, tMake, tMeth, tAug, ipI, tDead, tBM0, tRev, l_let, l_fig, l_e, tDGet, tDNotIn, sDPut, tDNewK]
            refine ixT (SqT.of (S _ _ a1)) (atIn (by decide) rfl) ?_
            simp only [tSeq, tIfS, tRet, tRetN, tC, tVar, tOp, tUn, tTest, tB, tAnd, tOr, tNot, tAndV, tOrV, tNotV, tIf, tChain, tCons, tNil, tCall, tCB, tLst, tTup, tSl, tNoPart, tPart, gName, tNext, tDrop, tAsg, tAsgC, tBM, tYes, tDNewK, rI, rI0, rU, rEq, rNe, rAbs, rIntT, CDiv, add_ii, add_ss, mul_ii, ix_si, eq_ii, eq_ss, ne_ii, ne_ss, isnot_xn, List.append_nil, List.cons_append, List.nil_append, List.getElem?_cons_succ, List.getElem?_cons_zero, List.set_cons_succ, List.set_cons_zero, Option.some.injEq, V.int.injEq, V.bl.injEq, V.str.injEq, V.ref.injEq, V.ty.injEq, List.cons.injEq, and_true, true_and, exists_eq_left, exists_eq_left', exists_and_left, exists_eq', exists_const, exists_and_right, exists_eq_right, exists_eq_right', reduceCtorEq, false_and, and_false, exists_false, or_false, false_or, decide_eq_true_eq, Bool.not_eq_true', decide_eq_false_iff_not, Bool.false_eq_true, if_false, if_true, mk_app, mk_len, sg_mk, mk_one, decide_true, decide_false, Bool.not_true, Bool.not_false, ite_true, ite_false, not_true_eq_false, not_false_eq_true, mk_iff, tyV_str, stComp, List.map_cons, List.map_nil, Option.join_some, Option.join_none, gt_iff_lt, ge_iff_le, tRaise, tTryR, tCallH, tDisp, tPairs, tFld, sFld, tMake, tMeth, tAug, ipI, tDead, tBM0, tRev, l_let, l_fig, l_e, tDGet, tDNotIn, sDPut, tDNewK]
            by_cases h1 : m.2.n = nm
            · rw [if_pos h1, if_pos h1]
              refine ixT (SqT.of (S _ _ b1)) (atIn (by decide) rfl) ?_
              simp only [tSeq, tIfS, tRet, tRetN, tC, tVar, tOp, tUn, tTest, tB, tAnd, tOr, tNot, tAndV, tOrV, tNotV, tIf, tChain, tCons, tNil, tCall, tCB, tLst, tTup, tSl, tNoPart, tPart, gName, tNext, tDrop, tAsg, tAsgC, tBM, tYes, tDNewK, rI, rI0, rU, rEq, rNe, rAbs, rIntT, CDiv, add_ii, add_ss, mul_ii, ix_si, eq_ii, eq_ss, ne_ii, ne_ss, isnot_xn, List.append_nil, List.cons_append, List.nil_append, List.getElem?_cons_succ, List.getElem?_cons_zero, List.set_cons_succ, List.set_cons_zero, Option.some.injEq, V.int.injEq, V.bl.injEq, V.str.injEq, V.ref.injEq, V.ty.injEq, List.cons.injEq, and_true, true_and, exists_eq_left, exists_eq_left', exists_and_left, exists_eq', exists_const, exists_and_right, exists_eq_right, exists_eq_right', reduceCtorEq, false_and, and_false, exists_false, or_false, false_or, decide_eq_true_eq, Bool.not_eq_true', decide_eq_false_iff_not, Bool.false_eq_true, if_false, if_true, mk_app, mk_len, sg_mk, mk_one, decide_true, decide_false, Bool.not_true, Bool.not_false, ite_true, ite_false, not_true_eq_false, not_false_eq_true, mk_iff, tyV_str, stComp, List.map_cons, List.map_nil, Option.join_some, Option.join_none, gt_iff_lt, ge_iff_le, tRaise, tTryR, tCallH, tDisp, tPairs, tFld, sFld, tMake, tMeth, tAug, ipI, tDead, tBM0, tRev, l_let, l_fig, l_e, tDGet, tDNotIn, sDPut, tDNewK]
              by_cases h2 : q'.2.k = kd
              · rw [if_pos h2, if_pos h2]
                subst h2
                rw [← List.append_assoc]
                have jl := (List.getElem?_eq_some_iff.mp hnm).1
                have kl := (List.getElem?_eq_some_iff.mp hmm).1
                have ul := (List.getElem?_eq_some_iff.mp hq').1
                have ll := hperm.length_eq
                rw [List.length_map] at ll
                generalize I2 ++ layQ q'.2.k nm m.2.n (m.2.ts.take u) = I3 at L ⊢
                obtain ⟨xs, ex, lx, add⟩ := L.add nm q'.2
                refine ⟨tyV_lst (SqL.of ex), ixT (SqT.of (S _ _ b1)) (atIn (by decide) rfl) (ixT (SqT.of (S _ _ b1)) (atIn (by decide) rfl) (lenL (SqL.of (S _ _ b2)) ?_))⟩
                rw [List.length_map]
                refine ⟨sl1000 (by simp), fun p np => ?_⟩
                have A := add p np
                have X := Same.upd (Same.refl H1) np (o := .tup [V.str nm, V.str q'.2.n, V.str q'.2.k, V.int (placeR I3).2, V.int q'.2.row.length])
                have SZ := (S.trans X).set n0_l (o := .lst (xs ++ [V.ref p]))
                have tne : t ≠ l := fun z => by rw [z, ex] at et; cases et
                refine appL (X _ _ ex) (by rw [sizeLine_eq]; omega) ?_
                have et' := keepU (o := .lst (xs ++ [V.ref p])) (X _ _ et) tne
                have e2' := keepU (o := .lst (xs ++ [V.ref p])) (X _ _ e2) d2
                generalize upd (upd H1 p (.tup [V.str nm, V.str q'.2.n, V.str q'.2.k, V.int (placeR I3).2, V.int q'.2.row.length])) l (.lst (xs ++ [V.ref p])) = Z at A SZ et' e2' ⊢
                refine ixT (SqT.of (SZ _ _ b1)) (atIn (by decide) rfl) (lenL (SqL.of (SZ _ _ b2)) ?_)
                rw [List.length_map]
                simp only [tSeq, tIfS, tRet, tRetN, tC, tVar, tOp, tUn, tTest, tB, tAnd, tOr, tNot, tAndV, tOrV, tNotV, tIf, tChain, tCons, tNil, tCall, tCB, tLst, tTup, tSl, tNoPart, tPart, gName, tNext, tDrop, tAsg, tAsgC, tBM, tYes, tDNewK, rI, rI0, rU, rEq, rNe, rAbs, rIntT, CDiv, add_ii, add_ss, mul_ii, ix_si, eq_ii, eq_ss, ne_ii, ne_ss, isnot_xn, List.append_nil, List.cons_append, List.nil_append, List.getElem?_cons_succ, List.getElem?_cons_zero, List.set_cons_succ, List.set_cons_zero, Option.some.injEq, V.int.injEq, V.bl.injEq, V.str.injEq, V.ref.injEq, V.ty.injEq, List.cons.injEq, and_true, true_and, exists_eq_left, exists_eq_left', exists_and_left, exists_eq', exists_const, exists_and_right, exists_eq_right, exists_eq_right', reduceCtorEq, false_and, and_false, exists_false, or_false, false_or, decide_eq_true_eq, Bool.not_eq_true', decide_eq_false_iff_not, Bool.false_eq_true, if_false, if_true, mk_app, mk_len, sg_mk, mk_one, decide_true, decide_false, Bool.not_true, Bool.not_false, ite_true, ite_false, not_true_eq_false, not_false_eq_true, mk_iff, tyV_str, stComp, List.map_cons, List.map_nil, Option.join_some, Option.join_none, gt_iff_lt, ge_iff_le, tRaise, tTryR, tCallH, tDisp, tPairs, tFld, sFld, tMake, tMeth, tAug, ipI, tDead, tBM0, tRev, l_let, l_fig, l_e, tDGet, tDNotIn, sDPut, tDNewK]
                exact ⟨SZ, et', e2', A, by rw [placeR_snoc]; rfl⟩
              · rw [if_neg h2, if_neg h2, List.append_nil]
                exact ⟨S, et, e2, L.more (by omega), rfl⟩
            · rw [if_neg h1, if_neg h1, List.append_nil]
              exact ⟨S, et, e2, L.more (by omega), rfl⟩
          · rintro σ H2 ⟨S, et, e2, v6, L, rfl⟩
            rw [show (refsS m.2.ts).length = m.2.ts.length by simp [refsS], List.take_length] at L ⊢
            exact ⟨S, et, e2, _, _, L.more (by omega), rfl⟩
        · rintro σ H2 ⟨S, et, e2, v5, v6, L, rfl⟩
          rw [show (refsS ms).length = ms.length by simp [refsS], List.take_length] at L ⊢
          exact ⟨S, et, e2, _, _, _, L.more (by omega), rfl⟩
      · obtain ⟨S, et, e2, v4, v5, v6, L, rfl⟩ := z
        rw [List.length_map, List.take_length] at L ⊢
        have ll := hperm.length_eq
        rw [List.length_map] at ll
        refine ⟨S, et, ns ++ [n'], by simp [ln], fun n hn => ?_, ?_, some (V.str kd), v4, v5, v6, ?_⟩
        · rcases List.mem_append.mp hn with h | h
          · exact hns n h
          · rw [List.mem_singleton.mp h]; exact ⟨hperm, hsort⟩
        · rw [layK_snoc hkd]
          exact L.more (by omega)
        · rw [layK_snoc hkd]
          rfl
    · rintro t σ H2 ⟨S, et, ns, v3, v4, v5, v6, ln, hns, ⟨rs, b1, b2, b3, b4⟩, rfl⟩
      simp only [tSeq, tIfS, tRet, tRetN, tC, tVar, tOp, tUn, tTest, tB, tAnd, tOr, tNot, tAndV, tOrV, tNotV, tIf, tChain, tCons, tNil, tCall, tCB, tLst, tTup, tSl, tNoPart, tPart, gName, tNext, tDrop, tAsg, tAsgC, tBM, tYes, tDNewK, rI, rI0, rU, rEq, rNe, rAbs, rIntT, CDiv, add_ii, add_ss, mul_ii, ix_si, eq_ii, eq_ss, ne_ii, ne_ss, isnot_xn, List.append_nil, List.cons_append, List.nil_append, List.getElem?_cons_succ, List.getElem?_cons_zero, List.set_cons_succ, List.set_cons_zero, Option.some.injEq, V.int.injEq, V.bl.injEq, V.str.injEq, V.ref.injEq, V.ty.injEq, List.cons.injEq, and_true, true_and, exists_eq_left, exists_eq_left', exists_and_left, exists_eq', exists_const, exists_and_right, exists_eq_right, exists_eq_right', reduceCtorEq, false_and, and_false, exists_false, or_false, false_or, decide_eq_true_eq, Bool.not_eq_true', decide_eq_false_iff_not, Bool.false_eq_true, if_false, if_true, mk_app, mk_len, sg_mk, mk_one, decide_true, decide_false, Bool.not_true, Bool.not_false, ite_true, ite_false, not_true_eq_false, not_false_eq_true, mk_iff, tyV_str, stComp, List.map_cons, List.map_nil, Option.join_some, Option.join_none, gt_iff_lt, ge_iff_le, tRaise, tTryR, tCallH, tDisp, tPairs, tFld, sFld, tMake, tMeth, tAug, ipI, tDead, tBM0, tRev, l_let, l_fig, l_e, tDGet, tDNotIn, sDPut, tDNewK]
      obtain ⟨n1, n2, rfl⟩ : ∃ n1 n2, ns = [n1, n2] := by
        match ns, ln with
        | [n1, n2], _ => exact ⟨n1, n2, rfl⟩
      refine q l rs n1 n2 H2 n0_l S b1 b2 (hns n1 (by simp)).1 (hns n1 (by simp)).2 (hns n2 (by simp)).1 (hns n2 (by simp)).2 ?_
      rw [b3]
      simp [layK, kds]
noncomputable def sp__law_shared : Sp := fun vs H Q E => ∃ (a : Addr) (ms : List (Addr × Md)), vs = [.ref a] ∧ H a = some (.lst (refsS ms)) ∧ (∀ e ∈ ms, MdAt H e) ∧ (ms.flatMap fun e => shs e.2.ts).Nodup ∧ (ms.flatMap fun e => shs e.2.ts).length ≤ 1000 ∧ ∀ d (es : List (Addr × (Str × Str))) H', H d = none → Same H H' → H' d = some (.dK (dkS es)) → (∀ e ∈ es, GoAt H' e) → es.map (·.2) = ms.flatMap (fun e => (shs e.2.ts).map fun z => (e.2.n, z)) → Q (.ref d) H'
theorem sc__law_shared : FnScope ["_law_made_here", "_law_found", "_law_one", "_law_section"] ["_law_made_here"] (defScope s__law_shared) := ⟨rfl, rfl, rfl, by decide +kernel, rfl, by decide +kernel, by decide +kernel⟩
theorem ok__law_shared (T : Txt K mg) : FnOk P w K mg base CX0 1 T.d__law_shared.f T.d__law_shared.fd ["_law_made_here"] (sp__law_shared) := by
  have nd := sc__law_shared.nd
  refine T.d__law_shared.F.ok sc__law_shared (fun vs H Q E h => ?_) (fun cdv A outer s H vs Q E hr h => ?_)
  · obtain ⟨a, ms, rfl, ha, hm, nd', ln, q⟩ := h
    rfl
  · obtain ⟨a, ms, rfl, ha, hm, nd', ln, q⟩ := h
    have hu := hr.units0
    refine ⟨_, (pss_cons (ps_set (i := 1) nd rfl (Or.inl rfl) pe_dnewK)
      (pss_cons (ps_for PassesOwn.never rfl (pi_listK (K := K) (pv 0)) (pg_name (i := 2) nd rfl (Or.inl rfl))
        (pss_one (ps_for PassesOwn.never rfl (pi_listK (K := K) (pe_ix (o_ix (K := K)) (pv 2) pe_int (fun _ _ => rfl))) (pg_name (i := 3) nd rfl (Or.inl rfl))
        (pss_one (ps_if (pt_val (pe_ix (o_ix (K := K)) (pv 3) pe_int (fun _ _ => rfl))) (pss_one (ps_dput (hu_of hr) (pv 1) (pe_ix (o_ix (K := K)) (pv 3) pe_int (fun _ _ => rfl)) (pe_tup (pa1 (pe_ix (o_ix (K := K)) (pv 2) pe_int (fun _ _ => rfl)) (pa1 (pe_ix (o_ix (K := K)) (pv 3) pe_int (fun _ _ => rfl)) pa_nil))) rfl)) pss_nil)))))
      (pss_one (ps_ret (pv 1))))), ?_⟩
    rw [show start ["_law_made_here", "_law_found", "_law_one", "_law_section"] [V.ref a] = [some (V.ref a), none, none, none] from rfl]
    have S := Same.refl H
    refine tSeq_gen fun B hB => ?_
    simp only [tSeq, tIfS, tRet, tRetN, tC, tVar, tOp, tUn, tTest, tB, tAnd, tOr, tNot, tAndV, tOrV, tNotV, tIf, tChain, tCons, tNil, tCall, tCB, tLst, tTup, tSl, tNoPart, tPart, gName, tNext, tDrop, tAsg, tAsgC, tBM, tYes, tDNewK, rI, rI0, rU, rEq, rNe, rAbs, rIntT, CDiv, add_ii, add_ss, mul_ii, ix_si, eq_ii, eq_ss, ne_ii, ne_ss, isnot_xn, List.append_nil, List.cons_append, List.nil_append, List.getElem?_cons_succ, List.getElem?_cons_zero, List.set_cons_succ, List.set_cons_zero, Option.some.injEq, V.int.injEq, V.bl.injEq, V.str.injEq, V.ref.injEq, V.ty.injEq, List.cons.injEq, and_true, true_and, exists_eq_left, exists_eq_left', exists_and_left, exists_eq', exists_const, exists_and_right, exists_eq_right, exists_eq_right', reduceCtorEq, false_and, and_false, exists_false, or_false, false_or, decide_eq_true_eq, Bool.not_eq_true', decide_eq_false_iff_not, Bool.false_eq_true, if_false, if_true, mk_app, mk_len, sg_mk, mk_one, decide_true, decide_false, Bool.not_true, Bool.not_false, ite_true, ite_false, not_true_eq_false, not_false_eq_true, mk_iff, tyV_str, stComp, List.map_cons, List.map_nil, Option.join_some, Option.join_none, gt_iff_lt, ge_iff_le, tRaise, tTryR, tCallH, tDisp, tPairs, tFld, sFld, tMake, tMeth, tAug, ipI, tDead, tBM0, tRev, l_let, l_fig, l_e, tDGet, tDNotIn, sDPut, tDNewK]
    intro d nd2
    have n0_d := S.no nd2
    have X_ := Same.upd (Same.refl H) nd2 (o := .dK [])
    have e_d : upd H d (.dK []) d = some (.dK []) := upd_same
    replace S := S.trans X_
    generalize upd H d (.dK []) = H1 at X_ e_d  S ⊢
    clear X_ nd2
    
    subst hB
    simp only [tSeq, tIfS, tRet, tRetN, tC, tVar, tOp, tUn, tTest, tB, tAnd, tOr, tNot, tAndV, tOrV, tNotV, tIf, tChain, tCons, tNil, tCall, tCB, tLst, tTup, tSl, tNoPart, tPart, gName, tNext, tDrop, tAsg, tAsgC, tBM, tYes, tDNewK, rI, rI0, rU, rEq, rNe, rAbs, rIntT, CDiv, add_ii, add_ss, mul_ii, ix_si, eq_ii, eq_ss, ne_ii, ne_ss, isnot_xn, List.append_nil, List.cons_append, List.nil_append, List.getElem?_cons_succ, List.getElem?_cons_zero, List.set_cons_succ, List.set_cons_zero, Option.some.injEq, V.int.injEq, V.bl.injEq, V.str.injEq, V.ref.injEq, V.ty.injEq, List.cons.injEq, and_true, true_and, exists_eq_left, exists_eq_left', exists_and_left, exists_eq', exists_const, exists_and_right, exists_eq_right, exists_eq_right', reduceCtorEq, false_and, and_false, exists_false, or_false, false_or, decide_eq_true_eq, Bool.not_eq_true', decide_eq_false_iff_not, Bool.false_eq_true, if_false, if_true, mk_app, mk_len, sg_mk, mk_one, decide_true, decide_false, Bool.not_true, Bool.not_false, ite_true, ite_false, not_true_eq_false, not_false_eq_true, mk_iff, tyV_str, stComp, List.map_cons, List.map_nil, Option.join_some, Option.join_none, gt_iff_lt, ge_iff_le, tRaise, tTryR, tCallH, tDisp, tPairs, tFld, sFld, tMake, tMeth, tAug, ipI, tDead, tBM0, tRev, l_let, l_fig, l_e, tDGet, tDNotIn, sDPut, tDNewK]
    refine tfor_list (a := a) (xs := refsS ms) (fun R z => ⟨_, rfl, z⟩) (SqL.of (S _ _ ha)) (fun i σ H' => Same H H' ∧ ∃ (es : List (Addr × (Str × Str))) (v2 v3 : Option V), H' d = some (.dK (dkS es)) ∧ (∀ e ∈ es, GoAt H' e) ∧ es.map (·.2) = (ms.take i).flatMap (fun e => (shs e.2.ts).map fun z => (e.2.n, z)) ∧ σ = [some (V.ref a), some (V.ref d), v2, v3]) ⟨S, [], none, none, e_d, (fun _ h => nomatch h), rfl, rfl⟩ (fun i σ H' z => SqL.of (z.1 _ _ ha)) ?_ ?_
    · clear S e_d H1
      rintro i x σ H1 hx ⟨S, es, v2, v3, e_d, hes, em, rfl⟩
      obtain ⟨m, hmm, rfl⟩ := refsS_get hx
      obtain ⟨s, w, l, ws, ps, a1, a2, a3, _, _⟩ := hm m (List.mem_of_getElem? hmm)
      refine tfor_list (a := s) (xs := refsS m.2.ts) (fun R z => by simp only [tSeq, tIfS, tRet, tRetN, tC, tVar, tOp, tUn, tTest, tB, tAnd, tOr, tNot, tAndV, tOrV, tNotV, tIf, tChain, tCons, tNil, tCall, tCB, tLst, tTup, tSl, tNoPart, tPart, gName, tNext, tDrop, tAsg, tAsgC, tBM, tYes, tDNewK, rI, rI0, rU, rEq, rNe, rAbs, rIntT, CDiv, add_ii, add_ss, mul_ii, ix_si, eq_ii, eq_ss, ne_ii, ne_ss, isnot_xn, List.append_nil, List.cons_append, List.nil_append, List.getElem?_cons_succ, List.getElem?_cons_zero, List.set_cons_succ, List.set_cons_zero, Option.some.injEq, V.int.injEq, V.bl.injEq, V.str.injEq, V.ref.injEq, V.ty.injEq, List.cons.injEq, and_true, true_and, exists_eq_left, exists_eq_left', exists_and_left, exists_eq', exists_const, exists_and_right, exists_eq_right, exists_eq_right', reduceCtorEq, false_and, and_false, exists_false, or_false, false_or, decide_eq_true_eq, Bool.not_eq_true', decide_eq_false_iff_not, Bool.false_eq_true, if_false, if_true, mk_app, mk_len, sg_mk, mk_one, decide_true, decide_false, Bool.not_true, Bool.not_false, ite_true, ite_false, not_true_eq_false, not_false_eq_true, mk_iff, tyV_str, stComp, List.map_cons, List.map_nil, Option.join_some, Option.join_none, gt_iff_lt, ge_iff_le, tRaise, tTryR, tCallH, tDisp, tPairs, tFld, sFld, tMake, tMeth, tAug, ipI, tDead, tBM0, tRev, l_let, l_fig, l_e, tDGet, tDNotIn, sDPut, tDNewK]; exact ixT (SqT.of (S _ _ a1)) (atIn (by decide) rfl) z) (SqL.of (S _ _ a2)) (fun j σ H' => Same H H' ∧ ∃ (es : List (Addr × (Str × Str))) (v3 : Option V), H' d = some (.dK (dkS es)) ∧ (∀ e ∈ es, GoAt H' e) ∧ es.map (·.2) = (ms.take i).flatMap (fun e => (shs e.2.ts).map fun z => (e.2.n, z)) ++ (shs (m.2.ts.take j)).map (fun z => (m.2.n, z)) ∧ σ = [some (V.ref a), some (V.ref d), some (V.ref m.1), v3]) ⟨S, es, v3, e_d, hes, by rw [em]; simp [shs], rfl⟩ (fun j σ H' z => SqL.of (z.1 _ _ a2)) ?_ ?_
      · clear S e_d hes em es H1
        rintro j y σ H1 hy ⟨S, es, v3, e_d, hes, em, rfl⟩
        obtain ⟨t, ht, rfl⟩ := refsS_get hy
        obtain ⟨r, b1, b2⟩ := a3 t (List.mem_of_getElem? ht)
        replace b1 := S _ _ b1
        have em2 : es.map (·.2.2) = (ms.take i).flatMap (fun e => shs e.2.ts) ++ shs (m.2.ts.take j) := by
          have := congrArg (List.map Prod.snd) em
          rw [List.map_map, List.map_append, List.map_map, List.map_flatMap] at this
          simpa [Function.comp_def] using this
        simp only [tSeq, tIfS, tRet, tRetN, tC, tVar, tOp, tUn, tTest, tB, tAnd, tOr, tNot, tAndV, tOrV, tNotV, tIf, tChain, tCons, tNil, tCall, tCB, tLst, tTup, tSl, tNoPart, tPart, gName, tNext, tDrop, tAsg, tAsgC, tBM, tYes, tDNewK, rI, rI0, rU, rEq, rNe, rAbs, rIntT, CDiv, add_ii, add_ss, mul_ii, ix_si, eq_ii, eq_ss, ne_ii, ne_ss, isnot_xn, List.append_nil, List.cons_append, List.nil_append, List.getElem?_cons_succ, List.getElem?_cons_zero, List.set_cons_succ, List.set_cons_zero, Option.some.injEq, V.int.injEq, V.bl.injEq, V.str.injEq, V.ref.injEq, V.ty.injEq, List.cons.injEq, and_true, true_and, exists_eq_left, exists_eq_left', exists_and_left, exists_eq', exists_const, exists_and_right, exists_eq_right, exists_eq_right', reduceCtorEq, false_and, and_false, exists_false, or_false, false_or, decide_eq_true_eq, Bool.not_eq_true', decide_eq_false_iff_not, Bool.false_eq_true, if_false, if_true, mk_app, mk_len, sg_mk, mk_one, decide_true, decide_false, Bool.not_true, Bool.not_false, ite_true, ite_false, not_true_eq_false, not_false_eq_true, mk_iff, tyV_str, stComp, List.map_cons, List.map_nil, Option.join_some, Option.join_none, gt_iff_lt, ge_iff_le, tRaise, tTryR, tCallH, tDisp, tPairs, tFld, sFld, tMake, tMeth, tAug, ipI, tDead, tBM0, tRev, l_let, l_fig, l_e, tDGet, tDNotIn, sDPut, tDNewK]
        refine ixT (SqT.of b1) (atIn (by decide) rfl) ⟨_, rfl, ?_⟩
        by_cases hs : t.2.sh = true
        · rw [hs]
          obtain ⟨post, hpost⟩ := shs_at ht hs
          have hz := nd_step nd' hmm hpost
          rw [← em2] at hz
          have hv := valV_dkS hz
          refine ifY rfl (ixT (SqT.of (S _ _ a1)) (atIn (by decide) rfl) (ixT (SqT.of b1) (atIn (by decide) rfl) ⟨sl1000 (by simp), fun p np => ?_⟩))
          have n0_p := S.no np
          have X_ := Same.upd (Same.refl H1) np (o := .tup [V.str m.2.n, V.str t.2.n])
          have e_p : upd H1 p (.tup [V.str m.2.n, V.str t.2.n]) p = some (.tup [V.str m.2.n, V.str t.2.n]) := upd_same
          replace b1 := X_ _ _ b1
          replace e_d := X_ _ _ e_d
          replace S := S.trans X_
          replace hes := fun e he => X_ _ _ (hes e he)
          generalize upd H1 p (.tup [V.str m.2.n, V.str t.2.n]) = H2 at X_ e_p b1 e_d hes S ⊢
          clear X_ np
    
          have lk : (dkS es).length < sizeLine := by
            have e1 := congrArg List.length em2
            have e2 := congrArg (fun l : List (Addr × Md) => (l.flatMap fun e => shs e.2.ts).length) (List.take_append_drop (i + 1) ms)
            simp only [List.flatMap_append, List.length_append] at e2
            rw [flat_snoc hmm, hpost] at e2
            simp only [List.length_map, List.length_append, List.length_cons] at e1 e2
            rw [sizeLine_eq]
            simp only [dkS, List.length_map]
            omega
          refine ixT (SqT.of b1) (atIn (by decide) rfl) ⟨_, DPut.k (k := Sum.inr t.2.n) e_d lk, ?_⟩
          rw [putK_new hv]
          refine ⟨S.set n0_d, es ++ [(p, (m.2.n, t.2.n))], by rw [upd_same]; simp [dkS], fun e he => ?_, ?_⟩
          · rcases List.mem_append.mp he with h | h
            · exact GoAt.set (hes e h) e_d
            · rw [List.mem_singleton.mp h]
              exact GoAt.set e_p e_d
          · rw [List.map_append, em, take_snoc ht, shs_snoc, if_pos hs]
            simp
        · have hs : t.2.sh = false := by simpa using hs
          rw [hs]
          refine ifN rfl ⟨S, es, e_d, hes, ?_⟩
          rw [em, take_snoc ht, shs_snoc, hs]
          rfl
      · rintro σ H2 ⟨S, es, v3, e_d, hes, em, rfl⟩
        refine ⟨S, es, _, _, e_d, hes, ?_, rfl⟩
        rw [em, flat_snoc hmm]
        simp [refsS]
    · rintro σ H2 ⟨S, es, v2, v3, e_d, hes, em, rfl⟩
      simp only [tSeq, tIfS, tRet, tRetN, tC, tVar, tOp, tUn, tTest, tB, tAnd, tOr, tNot, tAndV, tOrV, tNotV, tIf, tChain, tCons, tNil, tCall, tCB, tLst, tTup, tSl, tNoPart, tPart, gName, tNext, tDrop, tAsg, tAsgC, tBM, tYes, tDNewK, rI, rI0, rU, rEq, rNe, rAbs, rIntT, CDiv, add_ii, add_ss, mul_ii, ix_si, eq_ii, eq_ss, ne_ii, ne_ss, isnot_xn, List.append_nil, List.cons_append, List.nil_append, List.getElem?_cons_succ, List.getElem?_cons_zero, List.set_cons_succ, List.set_cons_zero, Option.some.injEq, V.int.injEq, V.bl.injEq, V.str.injEq, V.ref.injEq, V.ty.injEq, List.cons.injEq, and_true, true_and, exists_eq_left, exists_eq_left', exists_and_left, exists_eq', exists_const, exists_and_right, exists_eq_right, exists_eq_right', reduceCtorEq, false_and, and_false, exists_false, or_false, false_or, decide_eq_true_eq, Bool.not_eq_true', decide_eq_false_iff_not, Bool.false_eq_true, if_false, if_true, mk_app, mk_len, sg_mk, mk_one, decide_true, decide_false, Bool.not_true, Bool.not_false, ite_true, ite_false, not_true_eq_false, not_false_eq_true, mk_iff, tyV_str, stComp, List.map_cons, List.map_nil, Option.join_some, Option.join_none, gt_iff_lt, ge_iff_le, tRaise, tTryR, tCallH, tDisp, tPairs, tFld, sFld, tMake, tMeth, tAug, ipI, tDead, tBM0, tRev, l_let, l_fig, l_e, tDGet, tDNotIn, sDPut, tDNewK]
      refine q d es H2 n0_d S e_d hes ?_
      rw [em]
      simp [refsS]
noncomputable def sp__law_are_whole : Sp := fun vs H Q E => ∃ (a : Addr) (rs : List (Addr × Rw)), vs = [.ref a] ∧ H a = some (.lst (refsS rs)) ∧ (∀ e ∈ rs, RwAt H e) ∧ rs.length ≤ 1000 ∧ ∀ H', Same H H' → Q (.bl true) H'
theorem sc__law_are_whole : FnScope ["_law_rows"] ["_law_rows"] (defScope s__law_are_whole) := ⟨rfl, rfl, rfl, by decide +kernel, rfl, by decide +kernel, by decide +kernel⟩
theorem ok__law_are_whole (T : Txt K mg) : FnOk P w K mg base CX0 1 T.d__law_are_whole.f T.d__law_are_whole.fd ["_law_rows"] (sp__law_are_whole) := by
  have nd := sc__law_are_whole.nd
  refine T.d__law_are_whole.F.ok sc__law_are_whole (fun vs H Q E h => ?_) (fun cdv A outer s H vs Q E hr h => ?_)
  · obtain ⟨a, rs, rfl, ha, hr', hl, q⟩ := h
    rfl
  · obtain ⟨a, rs, rfl, ha, hr', hl, q⟩ := h
    have hu := hr.units0
    refine ⟨_, (pss_one (ps_ret (pcB (o_all (K := K)) rfl T.n_all (by kernel_rfl) (pa1 (pe_lcomp (N' := ["_law_row"]) (src := [none]) rfl (CompScope.of (by kernel_rfl)) (pi_listK (K := K) (pv 0)) (fun _ _ _ _ _ _ => (pg_name (i := 0) (show (["_law_row"] : List Str).Nodup by decide +kernel) rfl (Or.inl rfl))) (fun _ _ _ _ _ _ => pif_nil) (fun _ _ _ _ _ _ => (pe_and (pcB (o_isinstance (K := K)) rfl T.n_isinstance (by kernel_rfl) (pa1 (pv 0) (pa1 (pe_bltn (v := .ty "tuple") rfl T.n_tuple (by kernel_rfl) rfl) pa_nil))) (pe_and (pe_not (pcB (o_isinstance (K := K)) rfl T.n_isinstance (by kernel_rfl) (pa1 (pe_ix (o_ix (K := K)) (pv 0) pe_int (fun _ _ => rfl)) (pa1 (pe_bltn (v := .ty "bool") rfl T.n_bool (by kernel_rfl) rfl) pa_nil)))) (pe_one (pcB (o_isinstance (K := K)) rfl T.n_isinstance (by kernel_rfl) (pa1 (pe_ix (o_ix (K := K)) (pv 0) pe_int (fun _ _ => rfl)) (pa1 (pe_bltn (v := .ty "int") rfl T.n_int (by kernel_rfl) rfl) pa_nil)))))))) pa_nil)))), ?_⟩
    rw [show start ["_law_rows"] [V.ref a] = [some (V.ref a)] from rfl]
    simp only [tSeq, tIfS, tRet, tRetN, tC, tVar, tOp, tUn, tTest, tB, tAnd, tOr, tNot, tAndV, tOrV, tNotV, tIf, tChain, tCons, tNil, tCall, tCB, tLst, tTup, tSl, tNoPart, tPart, gName, tNext, tDrop, tAsg, tAsgC, tBM, tYes, tDNewK, rI, rI0, rU, rEq, rNe, rAbs, rIntT, CDiv, add_ii, add_ss, mul_ii, ix_si, eq_ii, eq_ss, ne_ii, ne_ss, isnot_xn, List.append_nil, List.cons_append, List.nil_append, List.getElem?_cons_succ, List.getElem?_cons_zero, List.set_cons_succ, List.set_cons_zero, Option.some.injEq, V.int.injEq, V.bl.injEq, V.str.injEq, V.ref.injEq, V.ty.injEq, List.cons.injEq, and_true, true_and, exists_eq_left, exists_eq_left', exists_and_left, exists_eq', exists_const, exists_and_right, exists_eq_right, exists_eq_right', reduceCtorEq, false_and, and_false, exists_false, or_false, false_or, decide_eq_true_eq, Bool.not_eq_true', decide_eq_false_iff_not, Bool.false_eq_true, if_false, if_true, mk_app, mk_len, sg_mk, mk_one, decide_true, decide_false, Bool.not_true, Bool.not_false, ite_true, ite_false, not_true_eq_false, not_false_eq_true, mk_iff, tyV_str, stComp, List.map_cons, List.map_nil, Option.join_some, Option.join_none, gt_iff_lt, ge_iff_le, tRaise, tTryR, tCallH, tDisp, tPairs, tFld, sFld, tMake, tMeth, tAug, ipI, tDead, tBM0, tRev, l_let, l_fig, l_e, tDGet, tDNotIn, sDPut, tDNewK]
    refine tcomp_listM (K := K) (xs := refsS rs) (fun a' H0 => a' = a ∧ H0 = H) (fun R z => ⟨_, rfl, z _ _ ⟨rfl, rfl⟩⟩) (fun a' i ys H' => a' = a ∧ H' = H ∧ ys = List.replicate i (V.bl true)) (fun a H0 z => ⟨z.1, z.2, rfl⟩) (fun a i ys H' z => by rw [z.1, z.2.1]; exact SqL.of ha) (sl1000 (by simp [refsS]; omega)) (fun a k x ys H' Cy Cn hx z cy cn => ?_) (fun a ys H' own z nl => ?_)
    · obtain ⟨rfl, rfl, rfl⟩ := z
      obtain ⟨s, hs, rfl⟩ := refsS_get hx
      have es := hr' s (List.mem_of_getElem? hs)
      refine ⟨KeepSt.set rfl, ?_⟩
      simp only [tSeq, tIfS, tRet, tRetN, tC, tVar, tOp, tUn, tTest, tB, tAnd, tOr, tNot, tAndV, tOrV, tNotV, tIf, tChain, tCons, tNil, tCall, tCB, tLst, tTup, tSl, tNoPart, tPart, gName, tNext, tDrop, tAsg, tAsgC, tBM, tYes, tDNewK, rI, rI0, rU, rEq, rNe, rAbs, rIntT, CDiv, add_ii, add_ss, mul_ii, ix_si, eq_ii, eq_ss, ne_ii, ne_ss, isnot_xn, List.append_nil, List.cons_append, List.nil_append, List.getElem?_cons_succ, List.getElem?_cons_zero, List.set_cons_succ, List.set_cons_zero, Option.some.injEq, V.int.injEq, V.bl.injEq, V.str.injEq, V.ref.injEq, V.ty.injEq, List.cons.injEq, and_true, true_and, exists_eq_left, exists_eq_left', exists_and_left, exists_eq', exists_const, exists_and_right, exists_eq_right, exists_eq_right', reduceCtorEq, false_and, and_false, exists_false, or_false, false_or, decide_eq_true_eq, Bool.not_eq_true', decide_eq_false_iff_not, Bool.false_eq_true, if_false, if_true, mk_app, mk_len, sg_mk, mk_one, decide_true, decide_false, Bool.not_true, Bool.not_false, ite_true, ite_false, not_true_eq_false, not_false_eq_true, mk_iff, tyV_str, stComp, List.map_cons, List.map_nil, Option.join_some, Option.join_none, gt_iff_lt, ge_iff_le, tRaise, tTryR, tCallH, tDisp, tPairs, tFld, sFld, tMake, tMeth, tAug, ipI, tDead, tBM0, tRev, l_let, l_fig, l_e, tDGet, tDNotIn, sDPut, tDNewK]
      exact isi_t (.tup es) ⟨true, rfl, iteT' rfl (ixT (SqT.of es) (atIn (by decide) rfl) (isi_f (.int _) ⟨false, rfl, iteT' rfl (ixT (SqT.of es) (atIn (by decide) rfl) (isi_t (.int _) (cy _ _ ⟨rfl, rfl, by rw [List.replicate_succ']⟩)))⟩))⟩
    · obtain ⟨_, rfl, rfl⟩ := z
      refine allL (bs := List.replicate (refsS rs).length true) (SqL.of (by rw [upd_same, List.map_replicate])) ?_
      rw [show (List.replicate (refsS rs).length true).all id = true by simp]
      exact q _ (Same.upd (Same.refl _) nl)
noncomputable def sp__law_image_kept : Sp := fun vs H Q E => ∃ c, vs = [.int c] ∧ 0 ≤ c ∧ ∀ H', Same H H' → Q (.bl true) H'
theorem sc__law_image_kept : FnScope ["_law_cell", "_law_sections", "_law_body", "_law_far", "_law_due", "_law_image"] ["_law_cell"] (defScope s__law_image_kept) := ⟨rfl, rfl, rfl, by decide +kernel, rfl, by decide +kernel, by decide +kernel⟩
theorem ok__law_image_kept (T : Txt K mg) : FnOk P w K mg base CX0 3 T.d__law_image_kept.f T.d__law_image_kept.fd ["_law_cell"] (sp__law_image_kept) := by
  have nd := sc__law_image_kept.nd
  refine T.d__law_image_kept.F.ok sc__law_image_kept (fun vs H Q E h => ?_) (fun cdv A outer s H vs Q E hr h => ?_)
  · obtain ⟨c, rfl, c0, q⟩ := h
    rfl
  · obtain ⟨c, rfl, c0, q⟩ := h
    have hu := hr.units0
    refine ⟨_, (pss_cons (ps_set (i := 1) nd rfl (Or.inl rfl) (pe_lst (pa1 (pe_tup (pa1 pe_str (pa1 (pe_op o_add pe_int (pe_op op_mod (pv 0) pe_int)) pa_nil))) (pa1 (pe_tup (pa1 pe_str (pa1 pe_int pa_nil))) pa_nil))))
      (pss_cons (ps_set (i := 2) nd rfl (Or.inl rfl) (pe_lst (pa1 (pe_op op_mod (pe_op op_fdiv (pv 0) pe_int) pe_int) (pa1 pe_int pa_nil))))
      (pss_cons (ps_set (i := 3) nd rfl (Or.inl rfl) (pe_lst (pa1 (pe_op op_mod (pe_op op_fdiv (pv 0) pe_int) pe_int) pa_nil)))
      (pss_cons (ps_set (i := 4) nd rfl (Or.inl rfl) (pe_lst (pa1 (pe_op op_mod (pv 0) pe_int) (pa1 (pcT (call_listK (K := K)) rfl T.n_list (by kernel_rfl) (pa1 (pv 1) pa_nil)) (pa1 (pcT (call_listK (K := K)) rfl T.n_list (by kernel_rfl) (pa1 (pv 2) pa_nil)) (pa1 (pcT (call_listK (K := K)) rfl T.n_list (by kernel_rfl) (pa1 (pv 3) pa_nil)) pa_nil))))))
      (pss_cons (ps_set (i := 5) nd rfl (Or.inl rfl) (pmk T.mk_Image T.kp_Image T.m_Image T.d_Image___init__ (ok_Image___init__ T) (hr.mono (by decide)) (pa1 (pe_op op_mod (pv 0) pe_int) (pa1 (pv 1) (pa1 (pv 2) (pa1 (pv 3) pa_nil))))))
      (pss_cons (ps_expr (pm0 (K := K) PySem.F.plainAttrs_list PySem.F.slot_list_clear PySem.F.type_list_clear o_clear (pv 1)))
      (pss_cons (ps_expr (pm1 (K := K) PySem.F.plainAttrs_list PySem.F.slot_list_append PySem.F.type_list_append o_append (pv 2) (pa1 pe_int pa_nil)))
      (pss_cons (ps_expr (pm0 (K := K) PySem.F.plainAttrs_list PySem.F.slot_list_clear PySem.F.type_list_clear o_clear (pv 3)))
      (pss_one (ps_ret (pe_cmpR (o_eqD (K := K) hr.units) (pe_lst (pa1 (pe_fldK (K := K) (pv 5)) (pa1 (pe_fldK (K := K) (pv 5)) (pa1 (pe_fldK (K := K) (pv 5)) (pa1 (pe_fldK (K := K) (pv 5)) pa_nil))))) (pv 4) (nomark _)))))))))))), ?_⟩
    rw [show start ["_law_cell", "_law_sections", "_law_body", "_law_far", "_law_due", "_law_image"] [V.int c] = [some (V.int c), none, none, none, none, none] from rfl]
    have S := Same.refl H
    refine tSeq_gen fun B hB => ?_
    simp only [tSeq, tIfS, tRet, tRetN, tC, tVar, tOp, tUn, tTest, tB, tAnd, tOr, tNot, tAndV, tOrV, tNotV, tIf, tChain, tCons, tNil, tCall, tCB, tLst, tTup, tSl, tNoPart, tPart, gName, tNext, tDrop, tAsg, tAsgC, tBM, tYes, tDNewK, rI, rI0, rU, rEq, rNe, rAbs, rIntT, CDiv, add_ii, add_ss, mul_ii, ix_si, eq_ii, eq_ss, ne_ii, ne_ss, isnot_xn, List.append_nil, List.cons_append, List.nil_append, List.getElem?_cons_succ, List.getElem?_cons_zero, List.set_cons_succ, List.set_cons_zero, Option.some.injEq, V.int.injEq, V.bl.injEq, V.str.injEq, V.ref.injEq, V.ty.injEq, List.cons.injEq, and_true, true_and, exists_eq_left, exists_eq_left', exists_and_left, exists_eq', exists_const, exists_and_right, exists_eq_right, exists_eq_right', reduceCtorEq, false_and, and_false, exists_false, or_false, false_or, decide_eq_true_eq, Bool.not_eq_true', decide_eq_false_iff_not, Bool.false_eq_true, if_false, if_true, mk_app, mk_len, sg_mk, mk_one, decide_true, decide_false, Bool.not_true, Bool.not_false, ite_true, ite_false, not_true_eq_false, not_false_eq_true, mk_iff, tyV_str, stComp, List.map_cons, List.map_nil, Option.join_some, Option.join_none, gt_iff_lt, ge_iff_le, tRaise, tTryR, tCallH, tDisp, tPairs, tFld, sFld, tMake, tMeth, tAug, ipI, tDead, tBM0, tRev, l_let, l_fig, l_e, tDGet, tDNotIn, sDPut, tDNewK]
    refine ⟨by decide, sl1000 (by simp), fun p np => ?_⟩
    have n0_p := S.no np
    have X_ := Same.upd (Same.refl H) np (o := .tup [V.str (Str.ofString "code"), V.int (1 + c % 9)])
    have e_p : upd H p (.tup [V.str (Str.ofString "code"), V.int (1 + c % 9)]) p = some (.tup [V.str (Str.ofString "code"), V.int (1 + c % 9)]) := upd_same
    replace S := S.trans X_
    generalize upd H p (.tup [V.str (Str.ofString "code"), V.int (1 + c % 9)]) = H1 at X_ e_p  S ⊢
    clear X_ np
    refine ⟨sl1000 (by simp), fun p1 np1 => ?_⟩
    have n0_p1 := S.no np1
    have X_ := Same.upd (Same.refl H1) np1 (o := .tup [V.str (Str.ofString "data"), V.int 4])
    have e_p1 : upd H1 p1 (.tup [V.str (Str.ofString "data"), V.int 4]) p1 = some (.tup [V.str (Str.ofString "data"), V.int 4]) := upd_same
    replace e_p := X_ _ _ e_p
    replace S := S.trans X_
    generalize upd H1 p1 (.tup [V.str (Str.ofString "data"), V.int 4]) = H2 at X_ e_p1 e_p S ⊢
    clear X_ np1
    refine ⟨sl1000 (by simp), fun s ns => ?_⟩
    have n0_s := S.no ns
    have X_ := Same.upd (Same.refl H2) ns (o := .lst [V.ref p, V.ref p1])
    have e_s : upd H2 s (.lst [V.ref p, V.ref p1]) s = some (.lst [V.ref p, V.ref p1]) := upd_same
    replace e_p := X_ _ _ e_p
    replace e_p1 := X_ _ _ e_p1
    replace S := S.trans X_
    generalize upd H2 s (.lst [V.ref p, V.ref p1]) = H3 at X_ e_s e_p e_p1 S ⊢
    clear X_ ns
    subst hB
    refine tSeq_gen fun B hB => ?_
    simp only [tSeq, tIfS, tRet, tRetN, tC, tVar, tOp, tUn, tTest, tB, tAnd, tOr, tNot, tAndV, tOrV, tNotV, tIf, tChain, tCons, tNil, tCall, tCB, tLst, tTup, tSl, tNoPart, tPart, gName, tNext, tDrop, tAsg, tAsgC, tBM, tYes, tDNewK, rI, rI0, rU, rEq, rNe, rAbs, rIntT, CDiv, add_ii, add_ss, mul_ii, ix_si, eq_ii, eq_ss, ne_ii, ne_ss, isnot_xn, List.append_nil, List.cons_append, List.nil_append, List.getElem?_cons_succ, List.getElem?_cons_zero, List.set_cons_succ, List.set_cons_zero, Option.some.injEq, V.int.injEq, V.bl.injEq, V.str.injEq, V.ref.injEq, V.ty.injEq, List.cons.injEq, and_true, true_and, exists_eq_left, exists_eq_left', exists_and_left, exists_eq', exists_const, exists_and_right, exists_eq_right, exists_eq_right', reduceCtorEq, false_and, and_false, exists_false, or_false, false_or, decide_eq_true_eq, Bool.not_eq_true', decide_eq_false_iff_not, Bool.false_eq_true, if_false, if_true, mk_app, mk_len, sg_mk, mk_one, decide_true, decide_false, Bool.not_true, Bool.not_false, ite_true, ite_false, not_true_eq_false, not_false_eq_true, mk_iff, tyV_str, stComp, List.map_cons, List.map_nil, Option.join_some, Option.join_none, gt_iff_lt, ge_iff_le, tRaise, tTryR, tCallH, tDisp, tPairs, tFld, sFld, tMake, tMeth, tAug, ipI, tDead, tBM0, tRev, l_let, l_fig, l_e, tDGet, tDNotIn, sDPut, tDNewK]
    refine ⟨⟨by decide, by decide⟩, by decide, sl1000 (by simp), fun b nb => ?_⟩
    have n0_b := S.no nb
    have X_ := Same.upd (Same.refl H3) nb (o := .lst [V.int (c / 9 % 256), V.int 7])
    have e_b : upd H3 b (.lst [V.int (c / 9 % 256), V.int 7]) b = some (.lst [V.int (c / 9 % 256), V.int 7]) := upd_same
    have d_s_b := ne_of_none e_s nb
    replace e_p := X_ _ _ e_p
    replace e_p1 := X_ _ _ e_p1
    replace e_s := X_ _ _ e_s
    replace S := S.trans X_
    generalize upd H3 b (.lst [V.int (c / 9 % 256), V.int 7]) = H4 at X_ e_b e_p e_p1 e_s S ⊢
    clear X_ nb
    subst hB
    refine tSeq_gen fun B hB => ?_
    simp only [tSeq, tIfS, tRet, tRetN, tC, tVar, tOp, tUn, tTest, tB, tAnd, tOr, tNot, tAndV, tOrV, tNotV, tIf, tChain, tCons, tNil, tCall, tCB, tLst, tTup, tSl, tNoPart, tPart, gName, tNext, tDrop, tAsg, tAsgC, tBM, tYes, tDNewK, rI, rI0, rU, rEq, rNe, rAbs, rIntT, CDiv, add_ii, add_ss, mul_ii, ix_si, eq_ii, eq_ss, ne_ii, ne_ss, isnot_xn, List.append_nil, List.cons_append, List.nil_append, List.getElem?_cons_succ, List.getElem?_cons_zero, List.set_cons_succ, List.set_cons_zero, Option.some.injEq, V.int.injEq, V.bl.injEq, V.str.injEq, V.ref.injEq, V.ty.injEq, List.cons.injEq, and_true, true_and, exists_eq_left, exists_eq_left', exists_and_left, exists_eq', exists_const, exists_and_right, exists_eq_right, exists_eq_right', reduceCtorEq, false_and, and_false, exists_false, or_false, false_or, decide_eq_true_eq, Bool.not_eq_true', decide_eq_false_iff_not, Bool.false_eq_true, if_false, if_true, mk_app, mk_len, sg_mk, mk_one, decide_true, decide_false, Bool.not_true, Bool.not_false, ite_true, ite_false, not_true_eq_false, not_false_eq_true, mk_iff, tyV_str, stComp, List.map_cons, List.map_nil, Option.join_some, Option.join_none, gt_iff_lt, ge_iff_le, tRaise, tTryR, tCallH, tDisp, tPairs, tFld, sFld, tMake, tMeth, tAug, ipI, tDead, tBM0, tRev, l_let, l_fig, l_e, tDGet, tDNotIn, sDPut, tDNewK]
    refine ⟨⟨by decide, by decide⟩, by decide, sl1000 (by simp), fun f nf => ?_⟩
    have n0_f := S.no nf
    have X_ := Same.upd (Same.refl H4) nf (o := .lst [V.int (c / 3 % 100)])
    have e_f : upd H4 f (.lst [V.int (c / 3 % 100)]) f = some (.lst [V.int (c / 3 % 100)]) := upd_same
    have d_s_f := ne_of_none e_s nf
    have d_b_f := ne_of_none e_b nf
    replace e_p := X_ _ _ e_p
    replace e_p1 := X_ _ _ e_p1
    replace e_s := X_ _ _ e_s
    replace e_b := X_ _ _ e_b
    replace S := S.trans X_
    generalize upd H4 f (.lst [V.int (c / 3 % 100)]) = H5 at X_ e_f e_p e_p1 e_s e_b S ⊢
    clear X_ nf
    subst hB
    refine tSeq_gen fun B hB => ?_
    simp only [tSeq, tIfS, tRet, tRetN, tC, tVar, tOp, tUn, tTest, tB, tAnd, tOr, tNot, tAndV, tOrV, tNotV, tIf, tChain, tCons, tNil, tCall, tCB, tLst, tTup, tSl, tNoPart, tPart, gName, tNext, tDrop, tAsg, tAsgC, tBM, tYes, tDNewK, rI, rI0, rU, rEq, rNe, rAbs, rIntT, CDiv, add_ii, add_ss, mul_ii, ix_si, eq_ii, eq_ss, ne_ii, ne_ss, isnot_xn, List.append_nil, List.cons_append, List.nil_append, List.getElem?_cons_succ, List.getElem?_cons_zero, List.set_cons_succ, List.set_cons_zero, Option.some.injEq, V.int.injEq, V.bl.injEq, V.str.injEq, V.ref.injEq, V.ty.injEq, List.cons.injEq, and_true, true_and, exists_eq_left, exists_eq_left', exists_and_left, exists_eq', exists_const, exists_and_right, exists_eq_right, exists_eq_right', reduceCtorEq, false_and, and_false, exists_false, or_false, false_or, decide_eq_true_eq, Bool.not_eq_true', decide_eq_false_iff_not, Bool.false_eq_true, if_false, if_true, mk_app, mk_len, sg_mk, mk_one, decide_true, decide_false, Bool.not_true, Bool.not_false, ite_true, ite_false, not_true_eq_false, not_false_eq_true, mk_iff, tyV_str, stComp, List.map_cons, List.map_nil, Option.join_some, Option.join_none, gt_iff_lt, ge_iff_le, tRaise, tTryR, tCallH, tDisp, tPairs, tFld, sFld, tMake, tMeth, tAug, ipI, tDead, tBM0, tRev, l_let, l_fig, l_e, tDGet, tDNotIn, sDPut, tDNewK]
    refine ⟨by decide, listL (SqL.of e_s) fun s2 ns2 => ?_⟩
    have n0_s2 := S.no ns2
    have X_ := Same.upd (Same.refl H5) ns2 (o := .lst [V.ref p, V.ref p1])
    have e_s2 : upd H5 s2 (.lst [V.ref p, V.ref p1]) s2 = some (.lst [V.ref p, V.ref p1]) := upd_same
    have d_s_s2 := ne_of_none e_s ns2
    have d_b_s2 := ne_of_none e_b ns2
    have d_f_s2 := ne_of_none e_f ns2
    replace e_p := X_ _ _ e_p
    replace e_p1 := X_ _ _ e_p1
    replace e_s := X_ _ _ e_s
    replace e_b := X_ _ _ e_b
    replace e_f := X_ _ _ e_f
    replace S := S.trans X_
    generalize upd H5 s2 (.lst [V.ref p, V.ref p1]) = H6 at X_ e_s2 e_p e_p1 e_s e_b e_f S ⊢
    clear X_ ns2
    refine listL (SqL.of e_b) fun b2 nb2 => ?_
    have n0_b2 := S.no nb2
    have X_ := Same.upd (Same.refl H6) nb2 (o := .lst [V.int (c / 9 % 256), V.int 7])
    have e_b2 : upd H6 b2 (.lst [V.int (c / 9 % 256), V.int 7]) b2 = some (.lst [V.int (c / 9 % 256), V.int 7]) := upd_same
    have d_s_b2 := ne_of_none e_s nb2
    have d_b_b2 := ne_of_none e_b nb2
    have d_f_b2 := ne_of_none e_f nb2
    replace e_p := X_ _ _ e_p
    replace e_p1 := X_ _ _ e_p1
    replace e_s := X_ _ _ e_s
    replace e_b := X_ _ _ e_b
    replace e_f := X_ _ _ e_f
    replace e_s2 := X_ _ _ e_s2
    replace S := S.trans X_
    generalize upd H6 b2 (.lst [V.int (c / 9 % 256), V.int 7]) = H7 at X_ e_b2 e_p e_p1 e_s e_b e_f e_s2 S ⊢
    clear X_ nb2
    refine listL (SqL.of e_f) fun f2 nf2 => ?_
    have n0_f2 := S.no nf2
    have X_ := Same.upd (Same.refl H7) nf2 (o := .lst [V.int (c / 3 % 100)])
    have e_f2 : upd H7 f2 (.lst [V.int (c / 3 % 100)]) f2 = some (.lst [V.int (c / 3 % 100)]) := upd_same
    have d_s_f2 := ne_of_none e_s nf2
    have d_b_f2 := ne_of_none e_b nf2
    have d_f_f2 := ne_of_none e_f nf2
    replace e_p := X_ _ _ e_p
    replace e_p1 := X_ _ _ e_p1
    replace e_s := X_ _ _ e_s
    replace e_b := X_ _ _ e_b
    replace e_f := X_ _ _ e_f
    replace e_s2 := X_ _ _ e_s2
    replace e_b2 := X_ _ _ e_b2
    replace S := S.trans X_
    generalize upd H7 f2 (.lst [V.int (c / 3 % 100)]) = H8 at X_ e_f2 e_p e_p1 e_s e_b e_f e_s2 e_b2 S ⊢
    clear X_ nf2
    refine ⟨sl1000 (by simp), fun d nd => ?_⟩
    have n0_d := S.no nd
    have X_ := Same.upd (Same.refl H8) nd (o := .lst [V.int (c % 100), V.ref s2, V.ref b2, V.ref f2])
    have e_d : upd H8 d (.lst [V.int (c % 100), V.ref s2, V.ref b2, V.ref f2]) d = some (.lst [V.int (c % 100), V.ref s2, V.ref b2, V.ref f2]) := upd_same
    have d_s_d := ne_of_none e_s nd
    have d_b_d := ne_of_none e_b nd
    have d_f_d := ne_of_none e_f nd
    replace e_p := X_ _ _ e_p
    replace e_p1 := X_ _ _ e_p1
    replace e_s := X_ _ _ e_s
    replace e_b := X_ _ _ e_b
    replace e_f := X_ _ _ e_f
    replace e_s2 := X_ _ _ e_s2
    replace e_b2 := X_ _ _ e_b2
    replace e_f2 := X_ _ _ e_f2
    replace S := S.trans X_
    generalize upd H8 d (.lst [V.int (c % 100), V.ref s2, V.ref b2, V.ref f2]) = H9 at X_ e_d e_p e_p1 e_s e_b e_f e_s2 e_b2 e_f2 S ⊢
    clear X_ nd
    subst hB
    refine tSeq_gen fun B hB => ?_
    simp only [tSeq, tIfS, tRet, tRetN, tC, tVar, tOp, tUn, tTest, tB, tAnd, tOr, tNot, tAndV, tOrV, tNotV, tIf, tChain, tCons, tNil, tCall, tCB, tLst, tTup, tSl, tNoPart, tPart, gName, tNext, tDrop, tAsg, tAsgC, tBM, tYes, tDNewK, rI, rI0, rU, rEq, rNe, rAbs, rIntT, CDiv, add_ii, add_ss, mul_ii, ix_si, eq_ii, eq_ss, ne_ii, ne_ss, isnot_xn, List.append_nil, List.cons_append, List.nil_append, List.getElem?_cons_succ, List.getElem?_cons_zero, List.set_cons_succ, List.set_cons_zero, Option.some.injEq, V.int.injEq, V.bl.injEq, V.str.injEq, V.ref.injEq, V.ty.injEq, List.cons.injEq, and_true, true_and, exists_eq_left, exists_eq_left', exists_and_left, exists_eq', exists_const, exists_and_right, exists_eq_right, exists_eq_right', reduceCtorEq, false_and, and_false, exists_false, or_false, false_or, decide_eq_true_eq, Bool.not_eq_true', decide_eq_false_iff_not, Bool.false_eq_true, if_false, if_true, mk_app, mk_len, sg_mk, mk_one, decide_true, decide_false, Bool.not_true, Bool.not_false, ite_true, ite_false, not_true_eq_false, not_false_eq_true, mk_iff, tyV_str, stComp, List.map_cons, List.map_nil, Option.join_some, Option.join_none, gt_iff_lt, ge_iff_le, tRaise, tTryR, tCallH, tDisp, tPairs, tFld, sFld, tMake, tMeth, tAug, ipI, tDead, tBM0, tRev, l_let, l_fig, l_e, tDGet, tDNotIn, sDPut, tDNewK]
    refine ⟨by decide, fun x dx nx ndx nxd => ?_⟩
    have K0 : ∀ c o, H9 c = some o → upd (upd H9 dx (.own x)) x (.ins T.x_Image dx []) c = some o := fun c o e => by
      rw [upd_ne (ne_of_none e nx), upd_ne (ne_of_none e ndx)]
      exact e
    refine ⟨x, dx, _, s, b, f, _, _, _, rfl, upd_same, K0 _ _ e_s, K0 _ _ e_b, K0 _ _ e_f, fun s' b' f' G ns' nb' nf' ex es' eb' ef' kp => ⟨rfl, ?_⟩⟩
    have SG : Same H9 G := fun c o e => kp c o (K0 c o e) (ne_of_none e nx)
    have k1 : ∀ y o, H9 y = some o → y ≠ x ∧ y ≠ s' ∧ y ≠ b' ∧ y ≠ f' := fun y o e => ⟨ne_of_none e nx, ne_of_none (K0 _ _ e) ns', ne_of_none (K0 _ _ e) nb', ne_of_none (K0 _ _ e) nf'⟩
    obtain ⟨ks1, ks2, ks3, ks4⟩ := k1 _ _ e_s
    obtain ⟨kb1, kb2, kb3, kb4⟩ := k1 _ _ e_b
    obtain ⟨kf1, kf2, kf3, kf4⟩ := k1 _ _ e_f
    have dps : p ≠ s := fun z => by rw [z, e_s] at e_p; cases e_p
    have dpb : p ≠ b := fun z => by rw [z, e_b] at e_p; cases e_p
    have dpf : p ≠ f := fun z => by rw [z, e_f] at e_p; cases e_p
    have dqs : p1 ≠ s := fun z => by rw [z, e_s] at e_p1; cases e_p1
    have dqb : p1 ≠ b := fun z => by rw [z, e_b] at e_p1; cases e_p1
    have dqf : p1 ≠ f := fun z => by rw [z, e_f] at e_p1; cases e_p1
    subst hB
    simp only [tSeq, tIfS, tRet, tRetN, tC, tVar, tOp, tUn, tTest, tB, tAnd, tOr, tNot, tAndV, tOrV, tNotV, tIf, tChain, tCons, tNil, tCall, tCB, tLst, tTup, tSl, tNoPart, tPart, gName, tNext, tDrop, tAsg, tAsgC, tBM, tYes, tDNewK, rI, rI0, rU, rEq, rNe, rAbs, rIntT, CDiv, add_ii, add_ss, mul_ii, ix_si, eq_ii, eq_ss, ne_ii, ne_ss, isnot_xn, List.append_nil, List.cons_append, List.nil_append, List.getElem?_cons_succ, List.getElem?_cons_zero, List.set_cons_succ, List.set_cons_zero, Option.some.injEq, V.int.injEq, V.bl.injEq, V.str.injEq, V.ref.injEq, V.ty.injEq, List.cons.injEq, and_true, true_and, exists_eq_left, exists_eq_left', exists_and_left, exists_eq', exists_const, exists_and_right, exists_eq_right, exists_eq_right', reduceCtorEq, false_and, and_false, exists_false, or_false, false_or, decide_eq_true_eq, Bool.not_eq_true', decide_eq_false_iff_not, Bool.false_eq_true, if_false, if_true, mk_app, mk_len, sg_mk, mk_one, decide_true, decide_false, Bool.not_true, Bool.not_false, ite_true, ite_false, not_true_eq_false, not_false_eq_true, mk_iff, tyV_str, stComp, List.map_cons, List.map_nil, Option.join_some, Option.join_none, gt_iff_lt, ge_iff_le, tRaise, tTryR, tCallH, tDisp, tPairs, tFld, sFld, tMake, tMeth, tAug, ipI, tDead, tBM0, tRev, l_let, l_fig, l_e, tDGet, tDNotIn, sDPut, tDNewK]
    refine ⟨tyV_lst (SqL.of (SG _ _ e_s)), s, _, rfl, rfl, SG _ _ e_s, tyV_lst (SqL.of (keepU (SG _ _ e_b) d_s_b.symm)), appL (keepU (SG _ _ e_b) d_s_b.symm) (by rw [sizeLine_eq]; show 2 < 16777216; decide) ⟨tyV_lst (SqL.of (keepU (keepU (SG _ _ e_f) d_s_f.symm) d_b_f.symm)), f, _, rfl, rfl, keepU (keepU (SG _ _ e_f) d_s_f.symm) d_b_f.symm, ?_⟩⟩
    have SZ : Same H (upd (upd (upd G s (.lst [])) b (.lst ([V.int (c / 9 % 256), V.int 7] ++ [V.int 1]))) f (.lst [])) := (((S.trans SG).set n0_s).set n0_b).set n0_f
    have KK : ∀ y o, G y = some o → y ≠ s → y ≠ b → y ≠ f → upd (upd (upd G s (.lst [])) b (.lst ([V.int (c / 9 % 256), V.int 7] ++ [V.int 1]))) f (.lst []) y = some o := fun y o e h1 h2 h3 => keepU (keepU (keepU e h1) h2) h3
    have z0 := KK _ _ ex ks1.symm kb1.symm kf1.symm
    have z1 := KK _ _ es' ks2.symm kb2.symm kf2.symm
    have z2 := KK _ _ eb' ks3.symm kb3.symm kf3.symm
    have z3 := KK _ _ ef' ks4.symm kb4.symm kf4.symm
    have z4 := KK _ _ (SG _ _ e_s2) d_s_s2.symm d_b_s2.symm d_f_s2.symm
    have z5 := KK _ _ (SG _ _ e_b2) d_s_b2.symm d_b_b2.symm d_f_b2.symm
    have z6 := KK _ _ (SG _ _ e_f2) d_s_f2.symm d_b_f2.symm d_f_f2.symm
    have z7 := KK _ _ (SG _ _ e_d) d_s_d.symm d_b_d.symm d_f_d.symm
    have z8 := KK _ _ (SG _ _ e_p) dps dpb dpf
    have z9 := KK _ _ (SG _ _ e_p1) dqs dqb dqf
    generalize upd (upd (upd G s (.lst [])) b (.lst ([V.int (c / 9 % 256), V.int 7] ++ [V.int 1]))) f (.lst []) = Z at SZ z0 z1 z2 z3 z4 z5 z6 z7 z8 z9 ⊢
    clear KK
    refine ⟨_, dx, _, z0, T.oc_Image, T.nf_Image_main, _, fI_main _ _ _ _, _, dx, _, z0, T.oc_Image, T.nf_Image_sections, _, fI_sections _ _ _ _, _, dx, _, z0, T.oc_Image, T.nf_Image_body, _, fI_body _ _ _ _, _, dx, _, z0, T.oc_Image, T.nf_Image_far, _, fI_far _ _ _ _, sl1000 (by simp), fun l nl => ?_⟩
    have Y := Same.upd (Same.refl Z) nl (o := .lst [V.int (c % 100), V.ref s', V.ref b', V.ref f'])
    have rdi : ∀ (u s b f : Addr) (W : Hp), W u = some (.lst [V.int (c % 100), V.ref s, V.ref b, V.ref f]) → W s = some (.lst [V.ref p, V.ref p1]) → W b = some (.lst [V.int (c / 9 % 256), V.int 7]) → W f = some (.lst [V.int (c / 3 % 100)]) → W p = some (.tup [V.str (Str.ofString "code"), V.int (1 + c % 9)]) → W p1 = some (.tup [V.str (Str.ofString "data"), V.int 4]) → RdD K W (imgD c) (.ref u) := fun u s b f W h1 h2 h3 h4 h5 h6 => by
      unfold imgD
      simp only [RdD, RdDs]
      exact ⟨u, _, rfl, SqL.of h1, _, _, rfl, rfl, _, _, rfl, ⟨s, _, rfl, SqL.of h2, _, _, rfl, ⟨p, _, rfl, SqT.of h5, _, _, rfl, rfl, _, _, rfl, rfl, rfl⟩, _, _, rfl, ⟨p1, _, rfl, SqT.of h6, _, _, rfl, rfl, _, _, rfl, rfl, rfl⟩, rfl⟩, _, _, rfl, ⟨b, _, rfl, SqL.of h3, _, _, rfl, rfl, _, _, rfl, rfl, rfl⟩, _, _, rfl, ⟨f, _, rfl, SqL.of h4, _, _, rfl, rfl, rfl⟩, rfl⟩
    exact eqD_same (imgD c) (rdi l s' b' f' _ upd_same (Y _ _ z1) (Y _ _ z2) (Y _ _ z3) (Y _ _ z8) (Y _ _ z9)) (rdi d s2 b2 f2 _ (Y _ _ z7) (Y _ _ z4) (Y _ _ z5) (Y _ _ z6) (Y _ _ z8) (Y _ _ z9)) (imgD_lay c) (imgD_dep c) (q _ (Same.upd SZ nl))
noncomputable def sp_law (K : PySem.W.Frag) : Sp := fun vs H Q E => ∃ (a : Addr) (ns : List Int), vs = [.ref a] ∧ SqL K H a (ns.map V.int) ∧ ns.length ≤ 63 ∧ H 76 = some (.tbl #[]) ∧ ∀ H', Q (.bl true) H'
theorem sc_law : FnScope ["_law_script", "_law_cell", "_law_made_here", "_law_parts", "_law_own", "_law_due", "_law_some", "_law_found", "_law_told"] ["_law_script"] (defScope s_law) := ⟨rfl, rfl, rfl, by decide +kernel, rfl, by decide +kernel, by decide +kernel⟩
theorem ok_law (T : Txt K mg) (hbm : base.get? T.x_bm = some T.o_bm) : FnOk P w K mg base CX0 6 T.d_law.f T.d_law.fd ["_law_script"] (sp_law K) := by
  have nd := sc_law.nd
  refine T.d_law.F.ok sc_law (fun vs H Q E h => ?_) (fun cdv A outer s H vs Q E hr h => ?_)
  · obtain ⟨a, ns, rfl, ha, hl, htb, q⟩ := h
    rfl
  · obtain ⟨a, ns, rfl, ha, hl, htb, q⟩ := h
    have hu := hr.units0
    refine ⟨_, (pss_cons (ps_set (i := 1) nd rfl (Or.inl rfl) (pc1 T.d__law_mixed (ok__law_mixed T) (hr.mono (by decide)) (pa1 (pc1 T.d__law_cell_at (ok__law_cell_at T) (hr.mono (by decide)) (pa1 (pv 0) (pa1 pe_int pa_nil))) (pa1 pe_int pa_nil))))
      (pss_cons (ps_set (i := 2) nd rfl (Or.inl rfl) (pc1 T.d__law_made (ok__law_made T) (hr.mono (by decide)) (pa1 (pv 0) (pa1 (pe_op o_add pe_int (pe_op op_mod (pv 1) pe_int)) pa_nil))))
      (pss_cons (ps_set (i := 3) nd rfl (Or.inl rfl) (pc1 T.d__law_order (ok__law_order T) (hr.mono (by decide)) (pa1 (pe_lcomp (N' := ["_law_one"]) (src := [none]) rfl (CompScope.of (by kernel_rfl)) (pi_listK (K := K) (pv 2)) (fun _ _ _ _ _ _ => (pg_name (i := 0) (show (["_law_one"] : List Str).Nodup by decide +kernel) rfl (Or.inl rfl))) (fun _ _ _ _ _ _ => pif_nil) (fun _ _ _ _ _ _ => (pc1 T.d__law_as_part (ok__law_as_part T) (hr.mono (by decide)) (pa1 (pv 0) pa_nil)))) (pa1 (pe_op op_fdiv (pv 1) pe_int) pa_nil))))
      (pss_cons (ps_set_lcomp (i := 4) nd rfl rfl (N' := ["_law_part_here"]) (src := [none]) rfl (CompScope.of (by kernel_rfl)) (pi_listK (K := K) (pv 3)) (fun _ _ _ _ _ _ => (pg_name (i := 0) (show (["_law_part_here"] : List Str).Nodup by decide +kernel) rfl (Or.inl rfl))) (fun _ _ _ _ _ _ => pif_nil) (fun _ _ _ _ _ _ => (pe_fldK (K := K) (pv 0))))
      (pss_cons (ps_set (i := 5) nd rfl (Or.inl rfl) (pc1 T.d__law_layout (ok__law_layout T) (hr.mono (by decide)) (pa1 (pv 2) pa_nil)))
      (pss_cons (ps_for PassesOwn.never rfl (pi_tupK (K := K) (pe_tup (pa1 (pv 3) (pa1 (pe_rev (K := K) (pv 3) (pe_un un_neg pe_int) (by intros; with_unfolding_all rfl)) (pa1 (pv 3) pa_nil))))) (pg_name (i := 6) nd rfl (Or.inl rfl))
        (pss_cons (ps_set (i := 7) nd rfl (Or.inl rfl) (pc1 T.d_laid (ok_laid T hbm) (hr.mono (by decide)) (pa1 (pv 6) pa_nil)))
      (pss_cons (ps_if (PW.pt (pw_or (pt_not (pt_val (pcB (o_isinstance (K := K)) rfl T.n_isinstance (by kernel_rfl) (pa1 (pv 7) (pa1 (pe_bltn (v := .ty "list") rfl T.n_list (by kernel_rfl) rfl) pa_nil))))) (pw_or (pt_cmpR (o_neD (K := K) hr.units) (pv 7) (pv 5) (nomark _)) (pw_or1 (pt_not (pt_val (pc1 T.d__law_are_whole (ok__law_are_whole T) (hr.mono (by decide)) (pa1 (pv 7) pa_nil)))))))) (pss_one (ps_ret pe_bl)) pss_nil)
      (pss_cons (ps_expr (pm0 (K := K) PySem.F.plainAttrs_list PySem.F.slot_list_clear PySem.F.type_list_clear o_clear (pv 7)))
      (pss_cons (ps_set (i := 8) nd rfl (Or.inl rfl) (pc1 T.d_shared_of (ok_shared_of T) (hr.mono (by decide)) (pa1 (pv 6) pa_nil)))
      (pss_cons (ps_if (PW.pt (pw_or (pt_not (pt_val (pcB (o_isinstance (K := K)) rfl T.n_isinstance (by kernel_rfl) (pa1 (pv 8) (pa1 (pe_bltn (v := .ty "dict") rfl T.n_dict (by kernel_rfl) rfl) pa_nil))))) (pw_or1 (pt_cmpR (o_neDict (K := K) (hu100 hr)) (pv 8) (pc1 T.d__law_shared (ok__law_shared T) (hr.mono (by decide)) (pa1 (pv 2) pa_nil)) (nomark _))))) (pss_one (ps_ret pe_bl)) pss_nil)
      (pss_one (ps_expr (pm0 (K := K) PySem.F.plainAttrs_dict PySem.F.slot_dict_clear PySem.F.type_dict_clear o_dclear (pv 8))))))))))
      (pss_one (ps_ret (pe_and (pe_cmpR (o_eq (K := K) hu) (pe_lcomp (N' := ["_law_part_here"]) (src := [none]) rfl (CompScope.of (by kernel_rfl)) (pi_listK (K := K) (pv 3)) (fun _ _ _ _ _ _ => (pg_name (i := 0) (show (["_law_part_here"] : List Str).Nodup by decide +kernel) rfl (Or.inl rfl))) (fun _ _ _ _ _ _ => pif_nil) (fun _ _ _ _ _ _ => (pe_fldK (K := K) (pv 0)))) (pv 4) (nomark _)) (pe_one (pc1 T.d__law_image_kept (ok__law_image_kept T) (hr.mono (by decide)) (pa1 (pc1 T.d__law_mixed (ok__law_mixed T) (hr.mono (by decide)) (pa1 (pv 1) (pa1 pe_int pa_nil))) pa_nil)))))))))))), ?_⟩
    rw [show start ["_law_script", "_law_cell", "_law_made_here", "_law_parts", "_law_own", "_law_due", "_law_some", "_law_found", "_law_told"] [V.ref a] = [some (V.ref a), none, none, none, none, none, none, none, none] from rfl]
    rw [← T.e_tab] at htb
    refine tSeq_gen fun B hB => ?_
    simp only [tSeq, tIfS, tRet, tRetN, tC, tVar, tOp, tUn, tTest, tB, tAnd, tOr, tNot, tAndV, tOrV, tNotV, tIf, tChain, tCons, tNil, tCall, tCB, tLst, tTup, tSl, tNoPart, tPart, gName, tNext, tDrop, tAsg, tAsgC, tBM, tYes, tDNewK, rI, rI0, rU, rEq, rNe, rAbs, rIntT, CDiv, add_ii, add_ss, mul_ii, ix_si, eq_ii, eq_ss, ne_ii, ne_ss, isnot_xn, List.append_nil, List.cons_append, List.nil_append, List.getElem?_cons_succ, List.getElem?_cons_zero, List.set_cons_succ, List.set_cons_zero, Option.some.injEq, V.int.injEq, V.bl.injEq, V.str.injEq, V.ref.injEq, V.ty.injEq, List.cons.injEq, and_true, true_and, exists_eq_left, exists_eq_left', exists_and_left, exists_eq', exists_const, exists_and_right, exists_eq_right, exists_eq_right', reduceCtorEq, false_and, and_false, exists_false, or_false, false_or, decide_eq_true_eq, Bool.not_eq_true', decide_eq_false_iff_not, Bool.false_eq_true, if_false, if_true, mk_app, mk_len, sg_mk, mk_one, decide_true, decide_false, Bool.not_true, Bool.not_false, ite_true, ite_false, not_true_eq_false, not_false_eq_true, mk_iff, tyV_str, stComp, List.map_cons, List.map_nil, Option.join_some, Option.join_none, gt_iff_lt, ge_iff_le, tRaise, tTryR, tCallH, tDisp, tPairs, tFld, sFld, tMake, tMeth, tAug, ipI, tDead, tBM0, tRev, l_let, l_fig, l_e, tDGet, tDNotIn, sDPut, tDNewK]
    refine ⟨a, ns, 0, rfl, ha, by decide, ⟨_, 3, rfl, by decide, by decide, ?_⟩⟩
    have c0 := (mixT_b (cellF ns 0) 3).1
    generalize mixT (cellF ns 0) 3 = c at c0 ⊢
    subst hB
    refine tSeq_gen fun B hB => ?_
    simp only [tSeq, tIfS, tRet, tRetN, tC, tVar, tOp, tUn, tTest, tB, tAnd, tOr, tNot, tAndV, tOrV, tNotV, tIf, tChain, tCons, tNil, tCall, tCB, tLst, tTup, tSl, tNoPart, tPart, gName, tNext, tDrop, tAsg, tAsgC, tBM, tYes, tDNewK, rI, rI0, rU, rEq, rNe, rAbs, rIntT, CDiv, add_ii, add_ss, mul_ii, ix_si, eq_ii, eq_ss, ne_ii, ne_ss, isnot_xn, List.append_nil, List.cons_append, List.nil_append, List.getElem?_cons_succ, List.getElem?_cons_zero, List.set_cons_succ, List.set_cons_zero, Option.some.injEq, V.int.injEq, V.bl.injEq, V.str.injEq, V.ref.injEq, V.ty.injEq, List.cons.injEq, and_true, true_and, exists_eq_left, exists_eq_left', exists_and_left, exists_eq', exists_const, exists_and_right, exists_eq_right, exists_eq_right', reduceCtorEq, false_and, and_false, exists_false, or_false, false_or, decide_eq_true_eq, Bool.not_eq_true', decide_eq_false_iff_not, Bool.false_eq_true, if_false, if_true, mk_app, mk_len, sg_mk, mk_one, decide_true, decide_false, Bool.not_true, Bool.not_false, ite_true, ite_false, not_true_eq_false, not_false_eq_true, mk_iff, tyV_str, stComp, List.map_cons, List.map_nil, Option.join_some, Option.join_none, gt_iff_lt, ge_iff_le, tRaise, tTryR, tCallH, tDisp, tPairs, tFld, sFld, tMake, tMeth, tAug, ipI, tDead, tBM0, tRev, l_let, l_fig, l_e, tDGet, tDNotIn, sDPut, tDNewK]
    refine ⟨by decide, a, ns, 1 + c % 6, rfl, ha, by omega, by omega, fun l ms H1 nl S1 el lm hms ndn nds => ?_⟩
    have htb1 := S1 _ _ htb
    clear nl S1 htb ha
    subst hB
    refine tSeq_gen fun B hB => ?_
    simp only [tSeq, tIfS, tRet, tRetN, tC, tVar, tOp, tUn, tTest, tB, tAnd, tOr, tNot, tAndV, tOrV, tNotV, tIf, tChain, tCons, tNil, tCall, tCB, tLst, tTup, tSl, tNoPart, tPart, gName, tNext, tDrop, tAsg, tAsgC, tBM, tYes, tDNewK, rI, rI0, rU, rEq, rNe, rAbs, rIntT, CDiv, add_ii, add_ss, mul_ii, ix_si, eq_ii, eq_ss, ne_ii, ne_ss, isnot_xn, List.append_nil, List.cons_append, List.nil_append, List.getElem?_cons_succ, List.getElem?_cons_zero, List.set_cons_succ, List.set_cons_zero, Option.some.injEq, V.int.injEq, V.bl.injEq, V.str.injEq, V.ref.injEq, V.ty.injEq, List.cons.injEq, and_true, true_and, exists_eq_left, exists_eq_left', exists_and_left, exists_eq', exists_const, exists_and_right, exists_eq_right, exists_eq_right', reduceCtorEq, false_and, and_false, exists_false, or_false, false_or, decide_eq_true_eq, Bool.not_eq_true', decide_eq_false_iff_not, Bool.false_eq_true, if_false, if_true, mk_app, mk_len, sg_mk, mk_one, decide_true, decide_false, Bool.not_true, Bool.not_false, ite_true, ite_false, not_true_eq_false, not_false_eq_true, mk_iff, tyV_str, stComp, List.map_cons, List.map_nil, Option.join_some, Option.join_none, gt_iff_lt, ge_iff_le, tRaise, tTryR, tCallH, tDisp, tPairs, tFld, sFld, tMake, tMeth, tAug, ipI, tDead, tBM0, tRev, l_let, l_fig, l_e, tDGet, tDNotIn, sDPut, tDNewK]
    refine tcomp_listM (xs := refsS ms) (fun a' H0 => a' = l ∧ H0 = H1) (fun R z => ⟨_, rfl, z _ _ ⟨rfl, rfl⟩⟩) (fun a' i ys H' => a' = l ∧ Same H1 H' ∧ ∃ ps : List PM, ys = (ps.map fun m => V.ref m.a) ∧ (∀ m ∈ ps, PMAt T.x_Part H' m) ∧ ps.map hdP = (ms.take i).map hdM) (fun a' H0 z => ⟨z.1, by rw [z.2]; exact Same.refl _, [], rfl, (fun _ h => nomatch h), rfl⟩) (fun a' i ys H' z => by rw [z.1]; exact SqL.of (z.2.1 _ _ el)) (sl1000 (by simp [refsS]; omega)) ?_ ?_
    · rintro a' i x ys H' Cy Cn hx ⟨rfl, S2, ps, rfl, hps, eps⟩ cy cn
      obtain ⟨e, he, rfl⟩ := refsS_get hx
      obtain ⟨hm, hm2, _⟩ := hms e (List.mem_of_getElem? he)
      refine ⟨KeepSt.set rfl, ?_⟩
      simp only [tSeq, tIfS, tRet, tRetN, tC, tVar, tOp, tUn, tTest, tB, tAnd, tOr, tNot, tAndV, tOrV, tNotV, tIf, tChain, tCons, tNil, tCall, tCB, tLst, tTup, tSl, tNoPart, tPart, gName, tNext, tDrop, tAsg, tAsgC, tBM, tYes, tDNewK, rI, rI0, rU, rEq, rNe, rAbs, rIntT, CDiv, add_ii, add_ss, mul_ii, ix_si, eq_ii, eq_ss, ne_ii, ne_ss, isnot_xn, List.append_nil, List.cons_append, List.nil_append, List.getElem?_cons_succ, List.getElem?_cons_zero, List.set_cons_succ, List.set_cons_zero, Option.some.injEq, V.int.injEq, V.bl.injEq, V.str.injEq, V.ref.injEq, V.ty.injEq, List.cons.injEq, and_true, true_and, exists_eq_left, exists_eq_left', exists_and_left, exists_eq', exists_const, exists_and_right, exists_eq_right, exists_eq_right', reduceCtorEq, false_and, and_false, exists_false, or_false, false_or, decide_eq_true_eq, Bool.not_eq_true', decide_eq_false_iff_not, Bool.false_eq_true, if_false, if_true, mk_app, mk_len, sg_mk, mk_one, decide_true, decide_false, Bool.not_true, Bool.not_false, ite_true, ite_false, not_true_eq_false, not_false_eq_true, mk_iff, tyV_str, stComp, List.map_cons, List.map_nil, Option.join_some, Option.join_none, gt_iff_lt, ge_iff_le, tRaise, tTryR, tCallH, tDisp, tPairs, tFld, sFld, tMake, tMeth, tAug, ipI, tDead, tBM0, tRev, l_let, l_fig, l_e, tDGet, tDNotIn, sDPut, tDNewK]
      refine ⟨e, rfl, hm.same S2, by omega, fun p ts' H3 np S3 pm es => cy _ _ ⟨rfl, S2.trans S3, ps ++ [⟨p, e.2.n, ts'⟩], by simp, fun m hm => ?_, ?_⟩⟩
      · rcases List.mem_append.mp hm with h | h
        · exact (hps m h).same S3
        · rw [List.mem_singleton.mp h]; exact pm
      · rw [List.map_append, eps, take_snoc he, List.map_append]
        simp only [List.map_cons, List.map_nil, hdP, hdM, es]
    rintro a' ys H' l1 ⟨ea, S2, ps, rfl, hps, eps⟩ nl1
    clear ea
    rw [show (refsS ms).length = ms.length by simp [refsS], List.take_length] at eps
    have lps : ps.length = ms.length := by
      have := congrArg List.length eps
      simpa using this
    have X1 := Same.upd (Same.refl H') nl1 (o := .lst (ps.map fun m => V.ref m.a))
    refine ⟨⟨by decide, by decide⟩, l1, _, _, rfl, upd_same, by rw [List.length_map]; omega, fun lp ys' H2 nlp S3 elp perm => ?_⟩
    have S12 : Same H1 H2 := (S2.trans X1).trans S3
    have S02 : Same H' H2 := X1.trans S3
    obtain ⟨qs, pq, rfl⟩ := perm_map perm ps rfl
    have hqs : ∀ m ∈ qs, PMAt T.x_Part H2 m := fun m hm => (hps m (pq.mem_iff.mp hm)).same S02
    have hpq : (qs.map hdP).Perm (ms.map hdM) := eps ▸ pq.map hdP
    have htb2 := S12 _ _ htb1
    have el2 := S12 _ _ el
    have hms2 := fun e he => (⟨(hms e he).1.same S12, (hms e he).2⟩ : MdAt H2 e ∧ e.2.ts.length ≤ 4 ∧ RowsOk e.2.ts ∧ LayS e.2.n ∧ SecG e.2.ts)
    have lqs : qs.length = ms.length := by rw [pq.length_eq, lps]
    clear S2 X1 S3 S12 S02 htb1 el hms hps eps pq perm nlp nl1 lps
    clear H' H1
    subst hB
    refine tSeq_gen fun B hB => ?_
    simp only [tSeq, tIfS, tRet, tRetN, tC, tVar, tOp, tUn, tTest, tB, tAnd, tOr, tNot, tAndV, tOrV, tNotV, tIf, tChain, tCons, tNil, tCall, tCB, tLst, tTup, tSl, tNoPart, tPart, gName, tNext, tDrop, tAsg, tAsgC, tBM, tYes, tDNewK, rI, rI0, rU, rEq, rNe, rAbs, rIntT, CDiv, add_ii, add_ss, mul_ii, ix_si, eq_ii, eq_ss, ne_ii, ne_ss, isnot_xn, List.append_nil, List.cons_append, List.nil_append, List.getElem?_cons_succ, List.getElem?_cons_zero, List.set_cons_succ, List.set_cons_zero, Option.some.injEq, V.int.injEq, V.bl.injEq, V.str.injEq, V.ref.injEq, V.ty.injEq, List.cons.injEq, and_true, true_and, exists_eq_left, exists_eq_left', exists_and_left, exists_eq', exists_const, exists_and_right, exists_eq_right, exists_eq_right', reduceCtorEq, false_and, and_false, exists_false, or_false, false_or, decide_eq_true_eq, Bool.not_eq_true', decide_eq_false_iff_not, Bool.false_eq_true, if_false, if_true, mk_app, mk_len, sg_mk, mk_one, decide_true, decide_false, Bool.not_true, Bool.not_false, ite_true, ite_false, not_true_eq_false, not_false_eq_true, mk_iff, tyV_str, stComp, List.map_cons, List.map_nil, Option.join_some, Option.join_none, gt_iff_lt, ge_iff_le, tRaise, tTryR, tCallH, tDisp, tPairs, tFld, sFld, tMake, tMeth, tAug, ipI, tDead, tBM0, tRev, l_let, l_fig, l_e, tDGet, tDNotIn, sDPut, tDNewK]
    refine tcomp_listM (xs := qs.map fun m => V.ref m.a) (fun a' H0 => a' = lp ∧ H0 = H2) (fun R z => ⟨_, rfl, z _ _ ⟨rfl, rfl⟩⟩) (fun a' i ys H' => a' = lp ∧ H' = H2 ∧ ys = (qs.take i).map fun m => V.str m.n) (fun a' H0 z => ⟨z.1, z.2, rfl⟩) (fun a' i ys H' z => by rw [z.1, z.2.1]; exact SqL.of elp) (sl1000 (by simp; omega)) ?_ ?_
    · rintro a' i x ys H' Cy Cn hx ⟨rfl, rfl, rfl⟩ cy cn
      obtain ⟨m, hm, rfl⟩ := getM hx
      obtain ⟨dx, s', w', l', a1, _⟩ := hqs m (List.mem_of_getElem? hm)
      refine ⟨KeepSt.set rfl, ?_⟩
      simp only [tSeq, tIfS, tRet, tRetN, tC, tVar, tOp, tUn, tTest, tB, tAnd, tOr, tNot, tAndV, tOrV, tNotV, tIf, tChain, tCons, tNil, tCall, tCB, tLst, tTup, tSl, tNoPart, tPart, gName, tNext, tDrop, tAsg, tAsgC, tBM, tYes, tDNewK, rI, rI0, rU, rEq, rNe, rAbs, rIntT, CDiv, add_ii, add_ss, mul_ii, ix_si, eq_ii, eq_ss, ne_ii, ne_ss, isnot_xn, List.append_nil, List.cons_append, List.nil_append, List.getElem?_cons_succ, List.getElem?_cons_zero, List.set_cons_succ, List.set_cons_zero, Option.some.injEq, V.int.injEq, V.bl.injEq, V.str.injEq, V.ref.injEq, V.ty.injEq, List.cons.injEq, and_true, true_and, exists_eq_left, exists_eq_left', exists_and_left, exists_eq', exists_const, exists_and_right, exists_eq_right, exists_eq_right', reduceCtorEq, false_and, and_false, exists_false, or_false, false_or, decide_eq_true_eq, Bool.not_eq_true', decide_eq_false_iff_not, Bool.false_eq_true, if_false, if_true, mk_app, mk_len, sg_mk, mk_one, decide_true, decide_false, Bool.not_true, Bool.not_false, ite_true, ite_false, not_true_eq_false, not_false_eq_true, mk_iff, tyV_str, stComp, List.map_cons, List.map_nil, Option.join_some, Option.join_none, gt_iff_lt, ge_iff_le, tRaise, tTryR, tCallH, tDisp, tPairs, tFld, sFld, tMake, tMeth, tAug, ipI, tDead, tBM0, tRev, l_let, l_fig, l_e, tDGet, tDNotIn, sDPut, tDNewK]
      refine ⟨_, dx, _, a1, T.oc_Part, T.nf_Part_name, _, fP_name _ _ _ _, cy _ _ ⟨rfl, rfl, ?_⟩⟩
      rw [take_snoc hm, List.map_append]
      rfl
    rintro a' ys H' lo ⟨ea, eH, ey⟩ nlo
    obtain rfl : H2 = H' := eH.symm
    rw [List.length_map, List.take_length] at ey
    subst ey
    clear ea eH
    have S := Same.upd (Same.refl H2) nlo (o := .lst (qs.map fun m => V.str m.n))
    have eo : upd H2 lo (.lst (qs.map fun m => V.str m.n)) lo = some (.lst (qs.map fun m => V.str m.n)) := upd_same
    generalize upd H2 lo (.lst (qs.map fun m => V.str m.n)) = H3 at S eo ⊢
    subst hB
    refine tSeq_gen fun B hB => ?_
    simp only [tSeq, tIfS, tRet, tRetN, tC, tVar, tOp, tUn, tTest, tB, tAnd, tOr, tNot, tAndV, tOrV, tNotV, tIf, tChain, tCons, tNil, tCall, tCB, tLst, tTup, tSl, tNoPart, tPart, gName, tNext, tDrop, tAsg, tAsgC, tBM, tYes, tDNewK, rI, rI0, rU, rEq, rNe, rAbs, rIntT, CDiv, add_ii, add_ss, mul_ii, ix_si, eq_ii, eq_ss, ne_ii, ne_ss, isnot_xn, List.append_nil, List.cons_append, List.nil_append, List.getElem?_cons_succ, List.getElem?_cons_zero, List.set_cons_succ, List.set_cons_zero, Option.some.injEq, V.int.injEq, V.bl.injEq, V.str.injEq, V.ref.injEq, V.ty.injEq, List.cons.injEq, and_true, true_and, exists_eq_left, exists_eq_left', exists_and_left, exists_eq', exists_const, exists_and_right, exists_eq_right, exists_eq_right', reduceCtorEq, false_and, and_false, exists_false, or_false, false_or, decide_eq_true_eq, Bool.not_eq_true', decide_eq_false_iff_not, Bool.false_eq_true, if_false, if_true, mk_app, mk_len, sg_mk, mk_one, decide_true, decide_false, Bool.not_true, Bool.not_false, ite_true, ite_false, not_true_eq_false, not_false_eq_true, mk_iff, tyV_str, stComp, List.map_cons, List.map_nil, Option.join_some, Option.join_none, gt_iff_lt, ge_iff_le, tRaise, tTryR, tCallH, tDisp, tPairs, tFld, sFld, tMake, tMeth, tAug, ipI, tDead, tBM0, tRev, l_let, l_fig, l_e, tDGet, tDNotIn, sDPut, tDNewK]
    refine ⟨l, ms, rfl, S _ _ el2, fun e he => (hms2 e he).1.same S, lm, fun e he => (hms2 e he).2.1, fun ld rs n1 n2 H4 nld S4 eld hrs p1 s1 p2 s2 ers => ?_⟩
    replace S := S.trans S4
    replace eo := S4 _ _ eo
    clear S4 nld nlo
    clear H3
    subst hB
    refine tSeq_gen fun B hB => ?_
    refine tfor_unfT ?_
    simp only [tSeq, tIfS, tRet, tRetN, tC, tVar, tOp, tUn, tTest, tB, tAnd, tOr, tNot, tAndV, tOrV, tNotV, tIf, tChain, tCons, tNil, tCall, tCB, tLst, tTup, tSl, tNoPart, tPart, gName, tNext, tDrop, tAsg, tAsgC, tBM, tYes, tDNewK, rI, rI0, rU, rEq, rNe, rAbs, rIntT, CDiv, add_ii, add_ss, mul_ii, ix_si, eq_ii, eq_ss, ne_ii, ne_ss, isnot_xn, List.append_nil, List.cons_append, List.nil_append, List.getElem?_cons_succ, List.getElem?_cons_zero, List.set_cons_succ, List.set_cons_zero, Option.some.injEq, V.int.injEq, V.bl.injEq, V.str.injEq, V.ref.injEq, V.ty.injEq, List.cons.injEq, and_true, true_and, exists_eq_left, exists_eq_left', exists_and_left, exists_eq', exists_const, exists_and_right, exists_eq_right, exists_eq_right', reduceCtorEq, false_and, and_false, exists_false, or_false, false_or, decide_eq_true_eq, Bool.not_eq_true', decide_eq_false_iff_not, Bool.false_eq_true, if_false, if_true, mk_app, mk_len, sg_mk, mk_one, decide_true, decide_false, Bool.not_true, Bool.not_false, ite_true, ite_false, not_true_eq_false, not_false_eq_true, mk_iff, tyV_str, stComp, List.map_cons, List.map_nil, Option.join_some, Option.join_none, gt_iff_lt, ge_iff_le, tRaise, tTryR, tCallH, tDisp, tPairs, tFld, sFld, tMake, tMeth, tAug, ipI, tDead, tBM0, tRev, l_let, l_fig, l_e, tDGet, tDNotIn, sDPut, tDNewK]
    refine ⟨_, SqL.of (S _ _ elp), fun lr nlr => ⟨sl1000 (by simp), fun tu ntu => ?_⟩⟩
    have S5 := Same.upd (Same.refl H4) nlr (o := .lst (qs.map fun m => V.ref m.a).reverse)
    have elr5 : upd H4 lr (.lst (qs.map fun m => V.ref m.a).reverse) lr = some (.lst (qs.map fun m => V.ref m.a).reverse) := upd_same
    generalize upd H4 lr (.lst (qs.map fun m => V.ref m.a).reverse) = H5 at S5 elr5 ntu ⊢
    have S6 := Same.upd (Same.refl H5) ntu (o := .tup [V.ref lp, V.ref lr, V.ref lp])
    have etu : upd H5 tu (.tup [V.ref lp, V.ref lr, V.ref lp]) tu = some (.tup [V.ref lp, V.ref lr, V.ref lp]) := upd_same
    generalize upd H5 tu (.tup [V.ref lp, V.ref lr, V.ref lp]) = H6 at S6 etu ⊢
    have elr6 := S6 _ _ elr5
    replace S6 := S5.trans S6
    have S26 := S.trans S6
    have elp6 := S26 _ _ elp
    have htb6 := S26 _ _ htb2
    have el6 := S26 _ _ el2
    have hms6 := fun e he => (⟨(hms2 e he).1.same S26, (hms2 e he).2⟩ : MdAt H6 e ∧ e.2.ts.length ≤ 4 ∧ RowsOk e.2.ts ∧ LayS e.2.n ∧ SecG e.2.ts)
    have hqs6 := fun m hm => (hqs m hm).same S26
    have eo6 := S6 _ _ eo
    have eld6 := S6 _ _ eld
    have hrs6 : ∀ e ∈ rs, RwAt H6 e := fun e he => S6 _ _ (hrs e he)
    have lnM := sh_len lm fun e he => (hms2 e he).2.1
    have hl3 := fun e he => ((hms2 e he).2.2.2 : LayS e.2.n ∧ SecG e.2.ts)
    clear S26 S6 S5 S nlr ntu elr5 eo eld hrs hqs hms2 el2 htb2 elp
    clear H5 H4 H2
    refine ⟨⟨_, SqT.of etu⟩, tfor_itT (xs := [V.ref lp, V.ref lr, V.ref lp]) (fun i σ H' => TabAt T.x_tab lamP lamQ H' ∧ Stay T.x_tab H6 H' ∧ ∃ v6 v7 v8 : Option V, σ = [some (V.ref a), some (V.int c), some (V.ref l), some (V.ref lp), some (V.ref lo), some (V.ref ld), v6, v7, v8]) ⟨.inl htb6, Stay.of (Same.refl H6), none, none, none, rfl⟩ (fun i σ H' z => SqT.of (stayN htb6 z.2.1 etu (fun _ z => nomatch z))) ?_ ?_⟩
    · rintro i x σ H' hx ⟨hT, St, v6, v7, v8, rfl⟩
      obtain ⟨q', qs', rfl, eq', pq'⟩ : ∃ (q' : Addr) (qs' : List PM), x = V.ref q' ∧ H6 q' = some (.lst (qs'.map fun m => V.ref m.a)) ∧ qs'.Perm qs := by
        match i, hx with
        | 0, h => cases h; exact ⟨lp, qs, rfl, elp6, .refl _⟩
        | 1, h => cases h; exact ⟨lr, qs.reverse, rfl, by rw [List.map_reverse]; exact elr6, List.reverse_perm qs⟩
        | 2, h => cases h; exact ⟨lp, qs, rfl, elp6, .refl _⟩
        | i + 3, h => cases h
      have hpq' := (pq'.map hdP).trans hpq
      have lq' : qs'.length ≤ 6 := by rw [pq'.length_eq, lqs]; exact lm
      have lts' : ∀ m ∈ qs', m.ts.length ≤ 4 := ts_len hpq' fun e he => (hms6 e he).2.1
      have hqs' : ∀ {H'' : Hp}, Stay T.x_tab H6 H'' → ∀ m ∈ qs', PMAt T.x_Part H'' m ∧ m.ts.length ≤ 4 := fun St m hm => ⟨(hqs6 m (pq'.mem_iff.mp hm)).stay ⟨_, htb6⟩ St, lts' m hm⟩
      have nL : ∀ {xs : List V}, ∀ ps, HO.lst xs ≠ .tbl ps := fun _ z => nomatch z
      refine tSeq_gen fun B hB => ?_
      simp only [tSeq, tIfS, tRet, tRetN, tC, tVar, tOp, tUn, tTest, tB, tAnd, tOr, tNot, tAndV, tOrV, tNotV, tIf, tChain, tCons, tNil, tCall, tCB, tLst, tTup, tSl, tNoPart, tPart, gName, tNext, tDrop, tAsg, tAsgC, tBM, tYes, tDNewK, rI, rI0, rU, rEq, rNe, rAbs, rIntT, CDiv, add_ii, add_ss, mul_ii, ix_si, eq_ii, eq_ss, ne_ii, ne_ss, isnot_xn, List.append_nil, List.cons_append, List.nil_append, List.getElem?_cons_succ, List.getElem?_cons_zero, List.set_cons_succ, List.set_cons_zero, Option.some.injEq, V.int.injEq, V.bl.injEq, V.str.injEq, V.ref.injEq, V.ty.injEq, List.cons.injEq, and_true, true_and, exists_eq_left, exists_eq_left', exists_and_left, exists_eq', exists_const, exists_and_right, exists_eq_right, exists_eq_right', reduceCtorEq, false_and, and_false, exists_false, or_false, false_or, decide_eq_true_eq, Bool.not_eq_true', decide_eq_false_iff_not, Bool.false_eq_true, if_false, if_true, mk_app, mk_len, sg_mk, mk_one, decide_true, decide_false, Bool.not_true, Bool.not_false, ite_true, ite_false, not_true_eq_false, not_false_eq_true, mk_iff, tyV_str, stComp, List.map_cons, List.map_nil, Option.join_some, Option.join_none, gt_iff_lt, ge_iff_le, tRaise, tTryR, tCallH, tDisp, tPairs, tFld, sFld, tMake, tMeth, tAug, ipI, tDead, tBM0, tRev, l_let, l_fig, l_e, tDGet, tDNotIn, sDPut, tDNewK]
      refine ⟨q', qs', rfl, stayN htb6 St eq' nL, lq', hT, hqs' St, fun f fs m1 m2 H7 hT7 St7 nf ef hfs p1' s1' p2' s2' efs => ?_⟩
      have nf6 : H6 f = none := let ⟨_, e⟩ := tab_some hT; St.no (.inl e) nf
      replace St7 := St.trans St7
      have lfs : fs.length ≤ 1000 := by
        have := congrArg List.length efs
        rw [List.length_map, placeR_len, List.length_append] at this
        have h1 := it_len (kd := Str.ofString "code") (m := m1) fun x hx => lts' x (p1'.mem_iff.mp hx)
        have h2 := it_len (kd := Str.ofString "data") (m := m2) fun x hx => lts' x (p2'.mem_iff.mp hx)
        rw [p1'.length_eq] at h1
        rw [p2'.length_eq] at h2
        omega
      rw [lay_eq ndn ((p1'.map hdP).trans hpq') s1' p1 s1, lay_eq ndn ((p2'.map hdP).trans hpq') s2' p2 s2, ← ers] at efs
      clear St hT nf s1' p1' s2' p2' m1 m2
      subst hB
      refine tSeq_gen fun B hB => ?_
      simp only [tSeq, tIfS, tRet, tRetN, tC, tVar, tOp, tUn, tTest, tB, tAnd, tOr, tNot, tAndV, tOrV, tNotV, tIf, tChain, tCons, tNil, tCall, tCB, tLst, tTup, tSl, tNoPart, tPart, gName, tNext, tDrop, tAsg, tAsgC, tBM, tYes, tDNewK, rI, rI0, rU, rEq, rNe, rAbs, rIntT, CDiv, add_ii, add_ss, mul_ii, ix_si, eq_ii, eq_ss, ne_ii, ne_ss, isnot_xn, List.append_nil, List.cons_append, List.nil_append, List.getElem?_cons_succ, List.getElem?_cons_zero, List.set_cons_succ, List.set_cons_zero, Option.some.injEq, V.int.injEq, V.bl.injEq, V.str.injEq, V.ref.injEq, V.ty.injEq, List.cons.injEq, and_true, true_and, exists_eq_left, exists_eq_left', exists_and_left, exists_eq', exists_const, exists_and_right, exists_eq_right, exists_eq_right', reduceCtorEq, false_and, and_false, exists_false, or_false, false_or, decide_eq_true_eq, Bool.not_eq_true', decide_eq_false_iff_not, Bool.false_eq_true, if_false, if_true, mk_app, mk_len, sg_mk, mk_one, decide_true, decide_false, Bool.not_true, Bool.not_false, ite_true, ite_false, not_true_eq_false, not_false_eq_true, mk_iff, tyV_str, stComp, List.map_cons, List.map_nil, Option.join_some, Option.join_none, gt_iff_lt, ge_iff_le, tRaise, tTryR, tCallH, tDisp, tPairs, tFld, sFld, tMake, tMeth, tAug, ipI, tDead, tBM0, tRev, l_let, l_fig, l_e, tDGet, tDNotIn, sDPut, tDNewK]
      refine isi_l ef ⟨_, rfl, iteF' (by simp) ?_⟩
      refine neD_same (.list ((rs.map (·.2)).map rwD)) ?_ ?_ ?_ ?_ ⟨_, rfl, iteF' (by simp) ?_⟩
      · rw [RdD]
        exact ⟨f, _, rfl, SqL.of ef, efs ▸ rd_rows hfs⟩
      · rw [RdD]
        exact ⟨ld, _, rfl, SqL.of (stayN htb6 St7 eld6 nL), rd_rows fun e he => stayN htb6 St7 (hrs6 e he) (fun _ z => nomatch z)⟩
      · rw [PyData.canLay0]
        exact (lay_rows (lay_place hl3 ers)).1
      · rw [PyData.depth]
        have := (lay_rows (lay_place hl3 ers)).2
        omega
      refine ⟨f, fs, rfl, ef, hfs, lfs, fun H8 S8 => ⟨_, rfl, iteF' (by simp) ?_⟩⟩
      subst hB
      refine tSeq_gen fun B hB => ?_
      simp only [tSeq, tIfS, tRet, tRetN, tC, tVar, tOp, tUn, tTest, tB, tAnd, tOr, tNot, tAndV, tOrV, tNotV, tIf, tChain, tCons, tNil, tCall, tCB, tLst, tTup, tSl, tNoPart, tPart, gName, tNext, tDrop, tAsg, tAsgC, tBM, tYes, tDNewK, rI, rI0, rU, rEq, rNe, rAbs, rIntT, CDiv, add_ii, add_ss, mul_ii, ix_si, eq_ii, eq_ss, ne_ii, ne_ss, isnot_xn, List.append_nil, List.cons_append, List.nil_append, List.getElem?_cons_succ, List.getElem?_cons_zero, List.set_cons_succ, List.set_cons_zero, Option.some.injEq, V.int.injEq, V.bl.injEq, V.str.injEq, V.ref.injEq, V.ty.injEq, List.cons.injEq, and_true, true_and, exists_eq_left, exists_eq_left', exists_and_left, exists_eq', exists_const, exists_and_right, exists_eq_right, exists_eq_right', reduceCtorEq, false_and, and_false, exists_false, or_false, false_or, decide_eq_true_eq, Bool.not_eq_true', decide_eq_false_iff_not, Bool.false_eq_true, if_false, if_true, mk_app, mk_len, sg_mk, mk_one, decide_true, decide_false, Bool.not_true, Bool.not_false, ite_true, ite_false, not_true_eq_false, not_false_eq_true, mk_iff, tyV_str, stComp, List.map_cons, List.map_nil, Option.join_some, Option.join_none, gt_iff_lt, ge_iff_le, tRaise, tTryR, tCallH, tDisp, tPairs, tFld, sFld, tMake, tMeth, tAug, ipI, tDead, tBM0, tRev, l_let, l_fig, l_e, tDGet, tDNotIn, sDPut, tDNewK]
      have ef8 := S8 _ _ ef
      have hT9 := TabAt.set' (o := .lst []) (TabAt.same' hT7 S8) ef8
      have St9 : Stay T.x_tab H6 (upd H8 f (.lst [])) := Stay.set (St7.trans (Stay.of S8)) nf6
      refine ⟨tyV_lst (SqL.of ef8), f, _, rfl, rfl, ef8, ?_⟩
      generalize upd H8 f (.lst []) = H9 at hT9 St9 ⊢
      clear ef8 S8 H8 hfs ef St7 hT7 efs lfs H7
      subst hB
      refine tSeq_gen fun B hB => ?_
      simp only [tSeq, tIfS, tRet, tRetN, tC, tVar, tOp, tUn, tTest, tB, tAnd, tOr, tNot, tAndV, tOrV, tNotV, tIf, tChain, tCons, tNil, tCall, tCB, tLst, tTup, tSl, tNoPart, tPart, gName, tNext, tDrop, tAsg, tAsgC, tBM, tYes, tDNewK, rI, rI0, rU, rEq, rNe, rAbs, rIntT, CDiv, add_ii, add_ss, mul_ii, ix_si, eq_ii, eq_ss, ne_ii, ne_ss, isnot_xn, List.append_nil, List.cons_append, List.nil_append, List.getElem?_cons_succ, List.getElem?_cons_zero, List.set_cons_succ, List.set_cons_zero, Option.some.injEq, V.int.injEq, V.bl.injEq, V.str.injEq, V.ref.injEq, V.ty.injEq, List.cons.injEq, and_true, true_and, exists_eq_left, exists_eq_left', exists_and_left, exists_eq', exists_const, exists_and_right, exists_eq_right, exists_eq_right', reduceCtorEq, false_and, and_false, exists_false, or_false, false_or, decide_eq_true_eq, Bool.not_eq_true', decide_eq_false_iff_not, Bool.false_eq_true, if_false, if_true, mk_app, mk_len, sg_mk, mk_one, decide_true, decide_false, Bool.not_true, Bool.not_false, ite_true, ite_false, not_true_eq_false, not_false_eq_true, mk_iff, tyV_str, stComp, List.map_cons, List.map_nil, Option.join_some, Option.join_none, gt_iff_lt, ge_iff_le, tRaise, tTryR, tCallH, tDisp, tPairs, tFld, sFld, tMake, tMeth, tAug, ipI, tDead, tBM0, tRev, l_let, l_fig, l_e, tDGet, tDNotIn, sDPut, tDNewK]
      refine ⟨q', qs', rfl, stayN htb6 St9 eq' nL, hqs' St9, ?_, ?_, fun d es H10 nd S10 ed hes pes => ?_⟩
      · rw [sh_P]
        rw [sh_M] at nds
        exact ((hpq'.flatMap_right prF).map _).nodup_iff.mpr nds
      · rw [sh_P, ((hpq'.flatMap_right prF).map (·.2)).length_eq, ← sh_M]
        exact lnM
      have nd6 : H6 d = none := let ⟨_, e⟩ := tab_some hT9; St9.no (.inl e) nd
      subst hB
      refine tSeq_gen fun B hB => ?_
      simp only [tSeq, tIfS, tRet, tRetN, tC, tVar, tOp, tUn, tTest, tB, tAnd, tOr, tNot, tAndV, tOrV, tNotV, tIf, tChain, tCons, tNil, tCall, tCB, tLst, tTup, tSl, tNoPart, tPart, gName, tNext, tDrop, tAsg, tAsgC, tBM, tYes, tDNewK, rI, rI0, rU, rEq, rNe, rAbs, rIntT, CDiv, add_ii, add_ss, mul_ii, ix_si, eq_ii, eq_ss, ne_ii, ne_ss, isnot_xn, List.append_nil, List.cons_append, List.nil_append, List.getElem?_cons_succ, List.getElem?_cons_zero, List.set_cons_succ, List.set_cons_zero, Option.some.injEq, V.int.injEq, V.bl.injEq, V.str.injEq, V.ref.injEq, V.ty.injEq, List.cons.injEq, and_true, true_and, exists_eq_left, exists_eq_left', exists_and_left, exists_eq', exists_const, exists_and_right, exists_eq_right, exists_eq_right', reduceCtorEq, false_and, and_false, exists_false, or_false, false_or, decide_eq_true_eq, Bool.not_eq_true', decide_eq_false_iff_not, Bool.false_eq_true, if_false, if_true, mk_app, mk_len, sg_mk, mk_one, decide_true, decide_false, Bool.not_true, Bool.not_false, ite_true, ite_false, not_true_eq_false, not_false_eq_true, mk_iff, tyV_str, stComp, List.map_cons, List.map_nil, Option.join_some, Option.join_none, gt_iff_lt, ge_iff_le, tRaise, tTryR, tCallH, tDisp, tPairs, tFld, sFld, tMake, tMeth, tAug, ipI, tDead, tBM0, tRev, l_let, l_fig, l_e, tDGet, tDNotIn, sDPut, tDNewK]
      refine isi_t (.dK ed) ⟨_, rfl, iteF' (by simp) ?_⟩
      refine ⟨l, ms, rfl, S10 _ _ (stayN htb6 St9 el6 nL), fun e he => ((hms6 e he).1.stayT htb6 St9).same S10, nds, lnM, fun d' es' H11 nd' S11 ed' hes' ees => neDict_same (S11 _ _ ed) ed' (fun e he => S11 _ _ (hes e he)) hes' ?_ ?_ (by rw [ees]; exact pr_lay hl3) ⟨_, rfl, iteF' (by simp) ?_⟩⟩
      · rw [ees, pr_M]
        refine pes.trans ?_
        rw [pr_P]
        exact hpq'.flatMap_right prF
      · have : es'.map (·.2.2) = (es'.map (·.2)).map (·.2) := by rw [List.map_map]; rfl
        rw [this, ees, pr_M, ← sh_M]
        exact nds
      subst hB
      simp only [tSeq, tIfS, tRet, tRetN, tC, tVar, tOp, tUn, tTest, tB, tAnd, tOr, tNot, tAndV, tOrV, tNotV, tIf, tChain, tCons, tNil, tCall, tCB, tLst, tTup, tSl, tNoPart, tPart, gName, tNext, tDrop, tAsg, tAsgC, tBM, tYes, tDNewK, rI, rI0, rU, rEq, rNe, rAbs, rIntT, CDiv, add_ii, add_ss, mul_ii, ix_si, eq_ii, eq_ss, ne_ii, ne_ss, isnot_xn, List.append_nil, List.cons_append, List.nil_append, List.getElem?_cons_succ, List.getElem?_cons_zero, List.set_cons_succ, List.set_cons_zero, Option.some.injEq, V.int.injEq, V.bl.injEq, V.str.injEq, V.ref.injEq, V.ty.injEq, List.cons.injEq, and_true, true_and, exists_eq_left, exists_eq_left', exists_and_left, exists_eq', exists_const, exists_and_right, exists_eq_right, exists_eq_right', reduceCtorEq, false_and, and_false, exists_false, or_false, false_or, decide_eq_true_eq, Bool.not_eq_true', decide_eq_false_iff_not, Bool.false_eq_true, if_false, if_true, mk_app, mk_len, sg_mk, mk_one, decide_true, decide_false, Bool.not_true, Bool.not_false, ite_true, ite_false, not_true_eq_false, not_false_eq_true, mk_iff, tyV_str, stComp, List.map_cons, List.map_nil, Option.join_some, Option.join_none, gt_iff_lt, ge_iff_le, tRaise, tTryR, tCallH, tDisp, tPairs, tFld, sFld, tMake, tMeth, tAug, ipI, tDead, tBM0, tRev, l_let, l_fig, l_e, tDGet, tDNotIn, sDPut, tDNewK]
      exact ⟨.inr (.inr (.inl ⟨rfl, .inl ⟨_, S11 _ _ ed⟩⟩)), d, _, rfl, rfl, S11 _ _ ed, TabAt.setD (TabAt.same' (TabAt.same' hT9 S10) S11) (S11 _ _ ed), Stay.set ((St9.trans (Stay.of S10)).trans (Stay.of S11)) nd6⟩
    · rintro σ H' ⟨hT, St, v6, v7, v8, rfl⟩
      subst hB
      simp only [tSeq, tIfS, tRet, tRetN, tC, tVar, tOp, tUn, tTest, tB, tAnd, tOr, tNot, tAndV, tOrV, tNotV, tIf, tChain, tCons, tNil, tCall, tCB, tLst, tTup, tSl, tNoPart, tPart, gName, tNext, tDrop, tAsg, tAsgC, tBM, tYes, tDNewK, rI, rI0, rU, rEq, rNe, rAbs, rIntT, CDiv, add_ii, add_ss, mul_ii, ix_si, eq_ii, eq_ss, ne_ii, ne_ss, isnot_xn, List.append_nil, List.cons_append, List.nil_append, List.getElem?_cons_succ, List.getElem?_cons_zero, List.set_cons_succ, List.set_cons_zero, Option.some.injEq, V.int.injEq, V.bl.injEq, V.str.injEq, V.ref.injEq, V.ty.injEq, List.cons.injEq, and_true, true_and, exists_eq_left, exists_eq_left', exists_and_left, exists_eq', exists_const, exists_and_right, exists_eq_right, exists_eq_right', reduceCtorEq, false_and, and_false, exists_false, or_false, false_or, decide_eq_true_eq, Bool.not_eq_true', decide_eq_false_iff_not, Bool.false_eq_true, if_false, if_true, mk_app, mk_len, sg_mk, mk_one, decide_true, decide_false, Bool.not_true, Bool.not_false, ite_true, ite_false, not_true_eq_false, not_false_eq_true, mk_iff, tyV_str, stComp, List.map_cons, List.map_nil, Option.join_some, Option.join_none, gt_iff_lt, ge_iff_le, tRaise, tTryR, tCallH, tDisp, tPairs, tFld, sFld, tMake, tMeth, tAug, ipI, tDead, tBM0, tRev, l_let, l_fig, l_e, tDGet, tDNotIn, sDPut, tDNewK]
      have nL : ∀ {xs : List V}, ∀ ps, HO.lst xs ≠ .tbl ps := fun _ z => nomatch z
      refine tcomp_listM (xs := qs.map fun m => V.ref m.a) (fun a' H0 => a' = lp ∧ H0 = H') (fun R z => ⟨_, rfl, z _ _ ⟨rfl, rfl⟩⟩) (fun a' i ys H0 => a' = lp ∧ H0 = H' ∧ ys = (qs.take i).map fun m => V.str m.n) (fun a' H0 z => ⟨z.1, z.2, rfl⟩) (fun a' i ys H0 z => by rw [z.1, z.2.1]; exact SqL.of (stayN htb6 St elp6 nL)) (sl1000 (by simp; omega)) ?_ ?_
      · rintro a' i x ys H0 Cy Cn hx ⟨rfl, rfl, rfl⟩ cy cn
        obtain ⟨m, hm, rfl⟩ := getM hx
        obtain ⟨dx, s', w', l', a1, _⟩ := (hqs6 m (List.mem_of_getElem? hm)).stay ⟨_, htb6⟩ St
        refine ⟨KeepSt.set rfl, ?_⟩
        simp only [tSeq, tIfS, tRet, tRetN, tC, tVar, tOp, tUn, tTest, tB, tAnd, tOr, tNot, tAndV, tOrV, tNotV, tIf, tChain, tCons, tNil, tCall, tCB, tLst, tTup, tSl, tNoPart, tPart, gName, tNext, tDrop, tAsg, tAsgC, tBM, tYes, tDNewK, rI, rI0, rU, rEq, rNe, rAbs, rIntT, CDiv, add_ii, add_ss, mul_ii, ix_si, eq_ii, eq_ss, ne_ii, ne_ss, isnot_xn, List.append_nil, List.cons_append, List.nil_append, List.getElem?_cons_succ, List.getElem?_cons_zero, List.set_cons_succ, List.set_cons_zero, Option.some.injEq, V.int.injEq, V.bl.injEq, V.str.injEq, V.ref.injEq, V.ty.injEq, List.cons.injEq, and_true, true_and, exists_eq_left, exists_eq_left', exists_and_left, exists_eq', exists_const, exists_and_right, exists_eq_right, exists_eq_right', reduceCtorEq, false_and, and_false, exists_false, or_false, false_or, decide_eq_true_eq, Bool.not_eq_true', decide_eq_false_iff_not, Bool.false_eq_true, if_false, if_true, mk_app, mk_len, sg_mk, mk_one, decide_true, decide_false, Bool.not_true, Bool.not_false, ite_true, ite_false, not_true_eq_false, not_false_eq_true, mk_iff, tyV_str, stComp, List.map_cons, List.map_nil, Option.join_some, Option.join_none, gt_iff_lt, ge_iff_le, tRaise, tTryR, tCallH, tDisp, tPairs, tFld, sFld, tMake, tMeth, tAug, ipI, tDead, tBM0, tRev, l_let, l_fig, l_e, tDGet, tDNotIn, sDPut, tDNewK]
        refine ⟨_, dx, _, a1, T.oc_Part, T.nf_Part_name, _, fP_name _ _ _ _, cy _ _ ⟨rfl, rfl, ?_⟩⟩
        rw [take_snoc hm, List.map_append]
        rfl
      rintro a' ys H0 lz ⟨ea, eH, ey⟩ nlz
      rw [List.length_map, List.take_length] at ey
      subst ey
      subst eH
      have X := Same.upd (Same.refl H0) nlz (o := .lst (qs.map fun m => V.str m.n))
      have fl : (qs.map fun m => V.str m.n).all flatV = true := by
        have := flat_strs (qs.map (·.n))
        rw [List.map_map] at this
        exact this
      refine eqLL_same upd_same (X _ _ (stayN htb6 St eo6 nL)) fl ⟨_, rfl, ?_⟩
      rw [if_pos rfl]
      exact ⟨c, 5, rfl, by decide, by decide, ⟨_, rfl, (mixT_b _ _).1, fun H'' S'' => q _⟩⟩
end
theorem len_s {us : List Value} {n : Nat} (h : us.length = n + 1) : ∃ a r, us = a :: r ∧ r.length = n := by
  cases us with
  | nil => cases h
  | cons a r => exact ⟨a, r, rfl, Nat.succ.inj h⟩
theorem len_z {us : List Value} (h : us.length = 0) : us = [] := by
  cases us with
  | nil => rfl
  | cons a r => cases h
theorem len_is1 {us : List Value} (h : us.length = 1) : ∃ a0, us = [a0] := by
  obtain ⟨a0, u0, rfl, h0⟩ := len_s h
  obtain rfl := len_z h0
  exact ⟨a0, rfl⟩
theorem len_is2 {us : List Value} (h : us.length = 2) : ∃ a0 a1, us = [a0, a1] := by
  obtain ⟨a0, u0, rfl, h0⟩ := len_s h
  obtain ⟨a1, u1, rfl, h1⟩ := len_s h0
  obtain rfl := len_z h1
  exact ⟨a0, a1, rfl⟩
theorem len_is3 {us : List Value} (h : us.length = 3) : ∃ a0 a1 a2, us = [a0, a1, a2] := by
  obtain ⟨a0, u0, rfl, h0⟩ := len_s h
  obtain ⟨a1, u1, rfl, h1⟩ := len_s h0
  obtain ⟨a2, u2, rfl, h2⟩ := len_s h1
  obtain rfl := len_z h2
  exact ⟨a0, a1, a2, rfl⟩
theorem len_is4 {us : List Value} (h : us.length = 4) : ∃ a0 a1 a2 a3, us = [a0, a1, a2, a3] := by
  obtain ⟨a0, u0, rfl, h0⟩ := len_s h
  obtain ⟨a1, u1, rfl, h1⟩ := len_s h0
  obtain ⟨a2, u2, rfl, h2⟩ := len_s h1
  obtain ⟨a3, u3, rfl, h3⟩ := len_s h2
  obtain rfl := len_z h3
  exact ⟨a0, a1, a2, a3, rfl⟩
theorem len_is5 {us : List Value} (h : us.length = 5) : ∃ a0 a1 a2 a3 a4, us = [a0, a1, a2, a3, a4] := by
  obtain ⟨a0, u0, rfl, h0⟩ := len_s h
  obtain ⟨a1, u1, rfl, h1⟩ := len_s h0
  obtain ⟨a2, u2, rfl, h2⟩ := len_s h1
  obtain ⟨a3, u3, rfl, h3⟩ := len_s h2
  obtain ⟨a4, u4, rfl, h4⟩ := len_s h3
  obtain rfl := len_z h4
  exact ⟨a0, a1, a2, a3, a4, rfl⟩
theorem all_mk {l : PySem.W.OpenLaw} {w : World} {K : PySem.W.Frag} {h : Heap} {mg : Str → Option Value} {fa : Addr} (X : K.In h) (G : h.Ns mainGlobals mg) (hfa : mg "law" = some (.ref fa))
    {f0 : Addr} {od0 an0 : Option Addr} {sl0 : Array (Option Value)} {oc0 kV0 dc0 pm0 cd0 ct0 : Value}
    {f1 : Addr} {od1 an1 : Option Addr} {sl1 : Array (Option Value)} {oc1 kV1 dc1 pm1 cd1 ct1 : Value}
    {f2 : Addr} {od2 an2 : Option Addr} {sl2 : Array (Option Value)} {oc2 kV2 dc2 pm2 cd2 ct2 : Value}
    {f3 : Addr} {od3 an3 : Option Addr} {sl3 : Array (Option Value)} {oc3 kV3 dc3 pm3 cd3 ct3 : Value}
    {f4 : Addr} {od4 an4 : Option Addr} {sl4 : Array (Option Value)} {oc4 kV4 dc4 pm4 cd4 ct4 : Value}
    {f5 : Addr} {od5 an5 : Option Addr} {sl5 : Array (Option Value)} {oc5 kV5 dc5 pm5 cd5 ct5 : Value}
    {f6 : Addr} {od6 an6 : Option Addr} {sl6 : Array (Option Value)} {oc6 kV6 dc6 pm6 cd6 ct6 : Value}
    {f7 : Addr} {od7 an7 : Option Addr} {sl7 : Array (Option Value)} {oc7 kV7 dc7 pm7 cd7 ct7 : Value}
    {f8 : Addr} {od8 an8 : Option Addr} {sl8 : Array (Option Value)} {oc8 kV8 dc8 pm8 cd8 ct8 : Value}
    {f9 : Addr} {od9 an9 : Option Addr} {sl9 : Array (Option Value)} {oc9 kV9 dc9 pm9 cd9 ct9 : Value}
    {f10 : Addr} {od10 an10 : Option Addr} {sl10 : Array (Option Value)} {oc10 kV10 dc10 pm10 cd10 ct10 : Value}
    {f11 : Addr} {od11 an11 : Option Addr} {sl11 : Array (Option Value)} {oc11 kV11 dc11 pm11 cd11 ct11 : Value}
    {f12 : Addr} {od12 an12 : Option Addr} {sl12 : Array (Option Value)} {oc12 kV12 dc12 pm12 cd12 ct12 : Value}
    {f13 : Addr} {od13 an13 : Option Addr} {sl13 : Array (Option Value)} {oc13 kV13 dc13 pm13 cd13 ct13 : Value}
    {f14 : Addr} {od14 an14 : Option Addr} {sl14 : Array (Option Value)} {oc14 kV14 dc14 pm14 cd14 ct14 : Value}
    {f15 : Addr} {od15 an15 : Option Addr} {sl15 : Array (Option Value)} {oc15 kV15 dc15 pm15 cd15 ct15 : Value}
    {f16 : Addr} {od16 an16 : Option Addr} {sl16 : Array (Option Value)} {oc16 kV16 dc16 pm16 cd16 ct16 : Value}
    {f17 : Addr} {od17 an17 : Option Addr} {sl17 : Array (Option Value)} {oc17 kV17 dc17 pm17 cd17 ct17 : Value}
    {f18 : Addr} {od18 an18 : Option Addr} {sl18 : Array (Option Value)} {oc18 kV18 dc18 pm18 cd18 ct18 : Value}
    {f19 : Addr} {od19 an19 : Option Addr} {sl19 : Array (Option Value)} {oc19 kV19 dc19 pm19 cd19 ct19 : Value}
    {f20 : Addr} {od20 an20 : Option Addr} {sl20 : Array (Option Value)} {oc20 kV20 dc20 pm20 cd20 ct20 : Value}
    {f21 : Addr} {od21 an21 : Option Addr} {sl21 : Array (Option Value)} {oc21 kV21 dc21 pm21 cd21 ct21 : Value}
    {f22 : Addr} {od22 an22 : Option Addr} {sl22 : Array (Option Value)} {oc22 kV22 dc22 pm22 cd22 ct22 : Value}
    {f23 : Addr} {od23 an23 : Option Addr} {sl23 : Array (Option Value)} {oc23 kV23 dc23 pm23 cd23 ct23 : Value}
    {x_KINDS : Addr} {ti_KINDS : Array Value} {tn_KINDS : Nat} {ts_KINDS : Array (Option Value)}
    {x_Part : Addr}
    {x_Image : Addr}
    {x_cod x_bm : Addr} {o_bm : Obj}
    (m_bm : mg (Str.ofString "__builtins__") = some (.ref x_bm)) (b_ne : x_bm ≠ builtinsNs) (b_1 : o_bm.cls = .type "module") (b_2 : o_bm.dict = some builtinsNs) (b_3 : o_bm.data = .plain)
    (a0 : PySem.W.findIn K (.ref x_Part) "__init__" = some (some (.ref f0))) (i0 : PySem.W.isFn K (.ref f0) = true)
    (l0 : K.lookup f0 = some ⟨oc0, od0, .func (PySem.W.fnOf "__init__" "Part.__init__" (defArgs s_Part___init__) (defBody s_Part___init__) (defScope s_Part___init__) .none kV0 dc0 pm0 an0 cd0 ct0), sl0⟩)
    (c0 : PySem.W.codeIn K cd0 "Part.__init__" = true) (k0 : PySem.W.keepIn K (.ref f0) = true)
    (a1 : PySem.W.findIn K (.ref x_Part) "names" = some (some (.ref f1))) (i1 : PySem.W.isFn K (.ref f1) = true)
    (l1 : K.lookup f1 = some ⟨oc1, od1, .func (PySem.W.fnOf "names" "Part.names" (defArgs s_Part_names) (defBody s_Part_names) (defScope s_Part_names) .none kV1 dc1 pm1 an1 cd1 ct1), sl1⟩)
    (c1 : PySem.W.codeIn K cd1 "Part.names" = true) (k1 : PySem.W.keepIn K (.ref f1) = true)
    (a2 : PySem.W.findIn K (.ref x_Image) "__init__" = some (some (.ref f2))) (i2 : PySem.W.isFn K (.ref f2) = true)
    (l2 : K.lookup f2 = some ⟨oc2, od2, .func (PySem.W.fnOf "__init__" "Image.__init__" (defArgs s_Image___init__) (defBody s_Image___init__) (defScope s_Image___init__) .none kV2 dc2 pm2 an2 cd2 ct2), sl2⟩)
    (c2 : PySem.W.codeIn K cd2 "Image.__init__" = true) (k2 : PySem.W.keepIn K (.ref f2) = true)
    (a3 : PySem.W.nsIn K mainGlobals "by_names" = some (some (.ref f3)))
    (l3 : K.lookup f3 = some ⟨oc3, od3, .func (PySem.W.fnOf "by_names" "by_names" (defArgs s_by_names) (defBody s_by_names) (defScope s_by_names) .none kV3 dc3 pm3 an3 cd3 ct3), sl3⟩)
    (c3 : PySem.W.codeIn K cd3 "by_names" = true) (k3 : PySem.W.keepIn K (.ref f3) = true)
    (a4 : PySem.W.nsIn K mainGlobals "laid" = some (some (.ref f4)))
    (l4 : K.lookup f4 = some ⟨oc4, od4, .func (PySem.W.fnOf "laid" "laid" (defArgs s_laid) (defBody s_laid) (defScope s_laid) .none kV4 dc4 pm4 an4 cd4 ct4), sl4⟩)
    (c4 : PySem.W.codeIn K cd4 "laid" = true) (k4 : PySem.W.keepIn K (.ref f4) = true)
    (a5 : PySem.W.nsIn K mainGlobals "shared_of" = some (some (.ref f5)))
    (l5 : K.lookup f5 = some ⟨oc5, od5, .func (PySem.W.fnOf "shared_of" "shared_of" (defArgs s_shared_of) (defBody s_shared_of) (defScope s_shared_of) .none kV5 dc5 pm5 an5 cd5 ct5), sl5⟩)
    (c5 : PySem.W.codeIn K cd5 "shared_of" = true) (k5 : PySem.W.keepIn K (.ref f5) = true)
    (a6 : PySem.W.nsIn K mainGlobals "_law_cell_at" = some (some (.ref f6)))
    (l6 : K.lookup f6 = some ⟨oc6, od6, .func (PySem.W.fnOf "_law_cell_at" "_law_cell_at" (defArgs s__law_cell_at) (defBody s__law_cell_at) (defScope s__law_cell_at) .none kV6 dc6 pm6 an6 cd6 ct6), sl6⟩)
    (c6 : PySem.W.codeIn K cd6 "_law_cell_at" = true) (k6 : PySem.W.keepIn K (.ref f6) = true)
    (a7 : PySem.W.nsIn K mainGlobals "_law_mixed" = some (some (.ref f7)))
    (l7 : K.lookup f7 = some ⟨oc7, od7, .func (PySem.W.fnOf "_law_mixed" "_law_mixed" (defArgs s__law_mixed) (defBody s__law_mixed) (defScope s__law_mixed) .none kV7 dc7 pm7 an7 cd7 ct7), sl7⟩)
    (c7 : PySem.W.codeIn K cd7 "_law_mixed" = true) (k7 : PySem.W.keepIn K (.ref f7) = true)
    (a8 : PySem.W.nsIn K mainGlobals "_law_names" = some (some (.ref f8)))
    (l8 : K.lookup f8 = some ⟨oc8, od8, .func (PySem.W.fnOf "_law_names" "_law_names" (defArgs s__law_names) (defBody s__law_names) (defScope s__law_names) .none kV8 dc8 pm8 an8 cd8 ct8), sl8⟩)
    (c8 : PySem.W.codeIn K cd8 "_law_names" = true) (k8 : PySem.W.keepIn K (.ref f8) = true)
    (a9 : PySem.W.nsIn K mainGlobals "_law_heads" = some (some (.ref f9)))
    (l9 : K.lookup f9 = some ⟨oc9, od9, .func (PySem.W.fnOf "_law_heads" "_law_heads" (defArgs s__law_heads) (defBody s__law_heads) (defScope s__law_heads) .none kV9 dc9 pm9 an9 cd9 ct9), sl9⟩)
    (c9 : PySem.W.codeIn K cd9 "_law_heads" = true) (k9 : PySem.W.keepIn K (.ref f9) = true)
    (a10 : PySem.W.nsIn K mainGlobals "_law_goal" = some (some (.ref f10)))
    (l10 : K.lookup f10 = some ⟨oc10, od10, .func (PySem.W.fnOf "_law_goal" "_law_goal" (defArgs s__law_goal) (defBody s__law_goal) (defScope s__law_goal) .none kV10 dc10 pm10 an10 cd10 ct10), sl10⟩)
    (c10 : PySem.W.codeIn K cd10 "_law_goal" = true) (k10 : PySem.W.keepIn K (.ref f10) = true)
    (a11 : PySem.W.nsIn K mainGlobals "_law_op" = some (some (.ref f11)))
    (l11 : K.lookup f11 = some ⟨oc11, od11, .func (PySem.W.fnOf "_law_op" "_law_op" (defArgs s__law_op) (defBody s__law_op) (defScope s__law_op) .none kV11 dc11 pm11 an11 cd11 ct11), sl11⟩)
    (c11 : PySem.W.codeIn K cd11 "_law_op" = true) (k11 : PySem.W.keepIn K (.ref f11) = true)
    (a12 : PySem.W.nsIn K mainGlobals "_law_code" = some (some (.ref f12)))
    (l12 : K.lookup f12 = some ⟨oc12, od12, .func (PySem.W.fnOf "_law_code" "_law_code" (defArgs s__law_code) (defBody s__law_code) (defScope s__law_code) .none kV12 dc12 pm12 an12 cd12 ct12), sl12⟩)
    (c12 : PySem.W.codeIn K cd12 "_law_code" = true) (k12 : PySem.W.keepIn K (.ref f12) = true)
    (a13 : PySem.W.nsIn K mainGlobals "_law_data" = some (some (.ref f13)))
    (l13 : K.lookup f13 = some ⟨oc13, od13, .func (PySem.W.fnOf "_law_data" "_law_data" (defArgs s__law_data) (defBody s__law_data) (defScope s__law_data) .none kV13 dc13 pm13 an13 cd13 ct13), sl13⟩)
    (c13 : PySem.W.codeIn K cd13 "_law_data" = true) (k13 : PySem.W.keepIn K (.ref f13) = true)
    (a14 : PySem.W.nsIn K mainGlobals "_law_wants" = some (some (.ref f14)))
    (l14 : K.lookup f14 = some ⟨oc14, od14, .func (PySem.W.fnOf "_law_wants" "_law_wants" (defArgs s__law_wants) (defBody s__law_wants) (defScope s__law_wants) .none kV14 dc14 pm14 an14 cd14 ct14), sl14⟩)
    (c14 : PySem.W.codeIn K cd14 "_law_wants" = true) (k14 : PySem.W.keepIn K (.ref f14) = true)
    (a15 : PySem.W.nsIn K mainGlobals "_law_part" = some (some (.ref f15)))
    (l15 : K.lookup f15 = some ⟨oc15, od15, .func (PySem.W.fnOf "_law_part" "_law_part" (defArgs s__law_part) (defBody s__law_part) (defScope s__law_part) .none kV15 dc15 pm15 an15 cd15 ct15), sl15⟩)
    (c15 : PySem.W.codeIn K cd15 "_law_part" = true) (k15 : PySem.W.keepIn K (.ref f15) = true)
    (a16 : PySem.W.nsIn K mainGlobals "_law_made" = some (some (.ref f16)))
    (l16 : K.lookup f16 = some ⟨oc16, od16, .func (PySem.W.fnOf "_law_made" "_law_made" (defArgs s__law_made) (defBody s__law_made) (defScope s__law_made) .none kV16 dc16 pm16 an16 cd16 ct16), sl16⟩)
    (c16 : PySem.W.codeIn K cd16 "_law_made" = true) (k16 : PySem.W.keepIn K (.ref f16) = true)
    (a17 : PySem.W.nsIn K mainGlobals "_law_as_part" = some (some (.ref f17)))
    (l17 : K.lookup f17 = some ⟨oc17, od17, .func (PySem.W.fnOf "_law_as_part" "_law_as_part" (defArgs s__law_as_part) (defBody s__law_as_part) (defScope s__law_as_part) .none kV17 dc17 pm17 an17 cd17 ct17), sl17⟩)
    (c17 : PySem.W.codeIn K cd17 "_law_as_part" = true) (k17 : PySem.W.keepIn K (.ref f17) = true)
    (a18 : PySem.W.nsIn K mainGlobals "_law_order" = some (some (.ref f18)))
    (l18 : K.lookup f18 = some ⟨oc18, od18, .func (PySem.W.fnOf "_law_order" "_law_order" (defArgs s__law_order) (defBody s__law_order) (defScope s__law_order) .none kV18 dc18 pm18 an18 cd18 ct18), sl18⟩)
    (c18 : PySem.W.codeIn K cd18 "_law_order" = true) (k18 : PySem.W.keepIn K (.ref f18) = true)
    (a19 : PySem.W.nsIn K mainGlobals "_law_layout" = some (some (.ref f19)))
    (l19 : K.lookup f19 = some ⟨oc19, od19, .func (PySem.W.fnOf "_law_layout" "_law_layout" (defArgs s__law_layout) (defBody s__law_layout) (defScope s__law_layout) .none kV19 dc19 pm19 an19 cd19 ct19), sl19⟩)
    (c19 : PySem.W.codeIn K cd19 "_law_layout" = true) (k19 : PySem.W.keepIn K (.ref f19) = true)
    (a20 : PySem.W.nsIn K mainGlobals "_law_shared" = some (some (.ref f20)))
    (l20 : K.lookup f20 = some ⟨oc20, od20, .func (PySem.W.fnOf "_law_shared" "_law_shared" (defArgs s__law_shared) (defBody s__law_shared) (defScope s__law_shared) .none kV20 dc20 pm20 an20 cd20 ct20), sl20⟩)
    (c20 : PySem.W.codeIn K cd20 "_law_shared" = true) (k20 : PySem.W.keepIn K (.ref f20) = true)
    (a21 : PySem.W.nsIn K mainGlobals "_law_are_whole" = some (some (.ref f21)))
    (l21 : K.lookup f21 = some ⟨oc21, od21, .func (PySem.W.fnOf "_law_are_whole" "_law_are_whole" (defArgs s__law_are_whole) (defBody s__law_are_whole) (defScope s__law_are_whole) .none kV21 dc21 pm21 an21 cd21 ct21), sl21⟩)
    (c21 : PySem.W.codeIn K cd21 "_law_are_whole" = true) (k21 : PySem.W.keepIn K (.ref f21) = true)
    (a22 : PySem.W.nsIn K mainGlobals "_law_image_kept" = some (some (.ref f22)))
    (l22 : K.lookup f22 = some ⟨oc22, od22, .func (PySem.W.fnOf "_law_image_kept" "_law_image_kept" (defArgs s__law_image_kept) (defBody s__law_image_kept) (defScope s__law_image_kept) .none kV22 dc22 pm22 an22 cd22 ct22), sl22⟩)
    (c22 : PySem.W.codeIn K cd22 "_law_image_kept" = true) (k22 : PySem.W.keepIn K (.ref f22) = true)
    (a23 : PySem.W.nsIn K mainGlobals "law" = some (some (.ref f23)))
    (l23 : K.lookup f23 = some ⟨oc23, od23, .func (PySem.W.fnOf "law" "law" (defArgs s_law) (defBody s_law) (defScope s_law) .none kV23 dc23 pm23 an23 cd23 ct23), sl23⟩)
    (c23 : PySem.W.codeIn K cd23 "law" = true) (k23 : PySem.W.keepIn K (.ref f23) = true)
    (g_KINDS : PySem.W.nsIn K mainGlobals "KINDS" = some (some (.ref x_KINDS))) (l_KINDS : K.lookup x_KINDS = some ⟨.type "tuple", none, .seq ti_KINDS tn_KINDS, ts_KINDS⟩) (v_KINDS : ti_KINDS.size ≤ 100000 ∧ Vals [V.str (Str.ofString "code"), V.str (Str.ofString "data")] ti_KINDS.toList)
    (n_all : PySem.W.nsIn K mainGlobals "all" = some none)
    (n_bool : PySem.W.nsIn K mainGlobals "bool" = some none)
    (n_dict : PySem.W.nsIn K mainGlobals "dict" = some none)
    (n_enumerate : PySem.W.nsIn K mainGlobals "enumerate" = some none)
    (n_int : PySem.W.nsIn K mainGlobals "int" = some none)
    (n_isinstance : PySem.W.nsIn K mainGlobals "isinstance" = some none)
    (n_len : PySem.W.nsIn K mainGlobals "len" = some none)
    (n_list : PySem.W.nsIn K mainGlobals "list" = some none)
    (n_range : PySem.W.nsIn K mainGlobals "range" = some none)
    (n_sorted : PySem.W.nsIn K mainGlobals "sorted" = some none)
    (n_tuple : PySem.W.nsIn K mainGlobals "tuple" = some none)
    (m_Part : PySem.W.nsIn K mainGlobals "Part" = some (some (.ref x_Part)))
    (m_Image : PySem.W.nsIn K mainGlobals "Image" = some (some (.ref x_Image)))
    (ocg_Part : PySem.W.plainGet K x_Part Str.empty = true)
    (och_Part : PySem.W.hasDictIn K x_Part = true)
    (oco_Part : PySem.W.plainOver K x_Part = true)
    (ocs_Part : PySem.W.findIn K (.ref x_Part) "__setattr__" = some (some (.builtin "object.__setattr__")))
    (mk_Part : PySem.W.makesIn K x_Part = true)
    (kp_Part : PySem.W.keepIn K (.ref x_Part) = true)
    (nf_Part_name : PySem.W.findIn K (.ref x_Part) "name" = some none)
    (nf_Part_sections : PySem.W.findIn K (.ref x_Part) "sections" = some none)
    (nf_Part_wants : PySem.W.findIn K (.ref x_Part) "wants" = some none)
    (nf_Part_places : PySem.W.findIn K (.ref x_Part) "places" = some none)
    (ocg_Image : PySem.W.plainGet K x_Image Str.empty = true)
    (och_Image : PySem.W.hasDictIn K x_Image = true)
    (oco_Image : PySem.W.plainOver K x_Image = true)
    (ocs_Image : PySem.W.findIn K (.ref x_Image) "__setattr__" = some (some (.builtin "object.__setattr__")))
    (mk_Image : PySem.W.makesIn K x_Image = true)
    (kp_Image : PySem.W.keepIn K (.ref x_Image) = true)
    (nf_Image_main : PySem.W.findIn K (.ref x_Image) "main" = some none)
    (nf_Image_sections : PySem.W.findIn K (.ref x_Image) "sections" = some none)
    (nf_Image_body : PySem.W.findIn K (.ref x_Image) "body" = some none)
    (nf_Image_far : PySem.W.findIn K (.ref x_Image) "far" = some none)
    (hcod : cd3 = .ref x_cod)
    (htab : PySem.W.codeHdIn K x_cod 76 = true)
    (ktab : K.lookup 76 = none) :
    ∃ (fd : FuncData) (c : Addr), PySem.W.codeHdIn K c 76 = true ∧ K.lookup 76 = none ∧ (∀ (s : Shared) (v : Value), BindsTo s fd ⟨[v], []⟩ [("_law_script", v)]) ∧ ∀ base : Heap, K.In base → base.Ns mainGlobals mg → base.get? x_bm = some o_bm → FnOk l.prog w K mg base CX0 6 fa fd ["_law_script"] (sp_law K) := by
  have e := hfa.symm.trans (PySem.W.mg_of X G a23)
  cases e
  have F0 := fn_mk (st := s_Part___init__) l0 c0 k0
  have b0 : Binds K _ ["self", "name", "sections", "wants", "places"] [] := .all (fd := PySem.W.fnOf "__init__" "Part.__init__" (defArgs s_Part___init__) (defBody s_Part___init__) (defScope s_Part___init__) .none kV0 dc0 pm0 an0 cd0 ct0) fun us hl => by obtain ⟨_u0, _u1, _u2, _u3, _u4, rfl⟩ := len_is5 hl; rfl
  have F1 := fn_mk (st := s_Part_names) l1 c1 k1
  have b1 : Binds K _ ["self"] [] := .all (fd := PySem.W.fnOf "names" "Part.names" (defArgs s_Part_names) (defBody s_Part_names) (defScope s_Part_names) .none kV1 dc1 pm1 an1 cd1 ct1) fun us hl => by obtain ⟨_u0, rfl⟩ := len_is1 hl; rfl
  have F2 := fn_mk (st := s_Image___init__) l2 c2 k2
  have b2 : Binds K _ ["self", "main", "sections", "body", "far"] [] := .all (fd := PySem.W.fnOf "__init__" "Image.__init__" (defArgs s_Image___init__) (defBody s_Image___init__) (defScope s_Image___init__) .none kV2 dc2 pm2 an2 cd2 ct2) fun us hl => by obtain ⟨_u0, _u1, _u2, _u3, _u4, rfl⟩ := len_is5 hl; rfl
  have F3 := fn_mk (st := s_by_names) l3 c3 k3
  have b3 : Binds K _ ["parts"] [] := .all (fd := PySem.W.fnOf "by_names" "by_names" (defArgs s_by_names) (defBody s_by_names) (defScope s_by_names) .none kV3 dc3 pm3 an3 cd3 ct3) fun us hl => by obtain ⟨_u0, rfl⟩ := len_is1 hl; rfl
  have F4 := fn_mk (st := s_laid) l4 c4 k4
  have b4 : Binds K _ ["parts"] [] := .all (fd := PySem.W.fnOf "laid" "laid" (defArgs s_laid) (defBody s_laid) (defScope s_laid) .none kV4 dc4 pm4 an4 cd4 ct4) fun us hl => by obtain ⟨_u0, rfl⟩ := len_is1 hl; rfl
  have F5 := fn_mk (st := s_shared_of) l5 c5 k5
  have b5 : Binds K _ ["parts"] [] := .all (fd := PySem.W.fnOf "shared_of" "shared_of" (defArgs s_shared_of) (defBody s_shared_of) (defScope s_shared_of) .none kV5 dc5 pm5 an5 cd5 ct5) fun us hl => by obtain ⟨_u0, rfl⟩ := len_is1 hl; rfl
  have F6 := fn_mk (st := s__law_cell_at) l6 c6 k6
  have b6 : Binds K _ ["_law_script", "_law_k"] [] := .all (fd := PySem.W.fnOf "_law_cell_at" "_law_cell_at" (defArgs s__law_cell_at) (defBody s__law_cell_at) (defScope s__law_cell_at) .none kV6 dc6 pm6 an6 cd6 ct6) fun us hl => by obtain ⟨_u0, _u1, rfl⟩ := len_is2 hl; rfl
  have F7 := fn_mk (st := s__law_mixed) l7 c7 k7
  have b7 : Binds K _ ["_law_cell", "_law_k"] [] := .all (fd := PySem.W.fnOf "_law_mixed" "_law_mixed" (defArgs s__law_mixed) (defBody s__law_mixed) (defScope s__law_mixed) .none kV7 dc7 pm7 an7 cd7 ct7) fun us hl => by obtain ⟨_u0, _u1, rfl⟩ := len_is2 hl; rfl
  have F8 := fn_mk (st := s__law_names) l8 c8 k8
  have b8 : Binds K _ ["_law_cell", "_law_many"] [] := .all (fd := PySem.W.fnOf "_law_names" "_law_names" (defArgs s__law_names) (defBody s__law_names) (defScope s__law_names) .none kV8 dc8 pm8 an8 cd8 ct8) fun us hl => by obtain ⟨_u0, _u1, rfl⟩ := len_is2 hl; rfl
  have F9 := fn_mk (st := s__law_heads) l9 c9 k9
  have b9 : Binds K _ ["_law_script", "_law_names_here", "_law_many", "_law_at_main"] [] := .all (fd := PySem.W.fnOf "_law_heads" "_law_heads" (defArgs s__law_heads) (defBody s__law_heads) (defScope s__law_heads) .none kV9 dc9 pm9 an9 cd9 ct9) fun us hl => by obtain ⟨_u0, _u1, _u2, _u3, rfl⟩ := len_is4 hl; rfl
  have F10 := fn_mk (st := s__law_goal) l10 c10 k10
  have b10 : Binds K _ ["_law_cell", "_law_goals", "_law_kind"] [] := .all (fd := PySem.W.fnOf "_law_goal" "_law_goal" (defArgs s__law_goal) (defBody s__law_goal) (defScope s__law_goal) .none kV10 dc10 pm10 an10 cd10 ct10) fun us hl => by obtain ⟨_u0, _u1, _u2, rfl⟩ := len_is3 hl; rfl
  have F11 := fn_mk (st := s__law_op) l11 c11 k11
  have b11 : Binds K _ ["_law_cell", "_law_at", "_law_goals"] [] := .all (fd := PySem.W.fnOf "_law_op" "_law_op" (defArgs s__law_op) (defBody s__law_op) (defScope s__law_op) .none kV11 dc11 pm11 an11 cd11 ct11) fun us hl => by obtain ⟨_u0, _u1, _u2, rfl⟩ := len_is3 hl; rfl
  have F12 := fn_mk (st := s__law_code) l12 c12 k12
  have b12 : Binds K _ ["_law_cell", "_law_goals"] [] := .all (fd := PySem.W.fnOf "_law_code" "_law_code" (defArgs s__law_code) (defBody s__law_code) (defScope s__law_code) .none kV12 dc12 pm12 an12 cd12 ct12) fun us hl => by obtain ⟨_u0, _u1, rfl⟩ := len_is2 hl; rfl
  have F13 := fn_mk (st := s__law_data) l13 c13 k13
  have b13 : Binds K _ ["_law_cell"] [] := .all (fd := PySem.W.fnOf "_law_data" "_law_data" (defArgs s__law_data) (defBody s__law_data) (defScope s__law_data) .none kV13 dc13 pm13 an13 cd13 ct13) fun us hl => by obtain ⟨_u0, rfl⟩ := len_is1 hl; rfl
  have F14 := fn_mk (st := s__law_wants) l14 c14 k14
  have b14 : Binds K _ ["_law_heads_here", "_law_shared_here", "_law_i", "_law_cell"] [] := .all (fd := PySem.W.fnOf "_law_wants" "_law_wants" (defArgs s__law_wants) (defBody s__law_wants) (defScope s__law_wants) .none kV14 dc14 pm14 an14 cd14 ct14) fun us hl => by obtain ⟨_u0, _u1, _u2, _u3, rfl⟩ := len_is4 hl; rfl
  have F15 := fn_mk (st := s__law_part) l15 c15 k15
  have b15 : Binds K _ ["_law_head", "_law_wants_here", "_law_shared_here", "_law_cell"] [] := .all (fd := PySem.W.fnOf "_law_part" "_law_part" (defArgs s__law_part) (defBody s__law_part) (defScope s__law_part) .none kV15 dc15 pm15 an15 cd15 ct15) fun us hl => by obtain ⟨_u0, _u1, _u2, _u3, rfl⟩ := len_is4 hl; rfl
  have F16 := fn_mk (st := s__law_made) l16 c16 k16
  have b16 : Binds K _ ["_law_script", "_law_many"] [] := .all (fd := PySem.W.fnOf "_law_made" "_law_made" (defArgs s__law_made) (defBody s__law_made) (defScope s__law_made) .none kV16 dc16 pm16 an16 cd16 ct16) fun us hl => by obtain ⟨_u0, _u1, rfl⟩ := len_is2 hl; rfl
  have F17 := fn_mk (st := s__law_as_part) l17 c17 k17
  have b17 : Binds K _ ["_law_one"] [] := .all (fd := PySem.W.fnOf "_law_as_part" "_law_as_part" (defArgs s__law_as_part) (defBody s__law_as_part) (defScope s__law_as_part) .none kV17 dc17 pm17 an17 cd17 ct17) fun us hl => by obtain ⟨_u0, rfl⟩ := len_is1 hl; rfl
  have F18 := fn_mk (st := s__law_order) l18 c18 k18
  have b18 : Binds K _ ["_law_some", "_law_cell"] [] := .all (fd := PySem.W.fnOf "_law_order" "_law_order" (defArgs s__law_order) (defBody s__law_order) (defScope s__law_order) .none kV18 dc18 pm18 an18 cd18 ct18) fun us hl => by obtain ⟨_u0, _u1, rfl⟩ := len_is2 hl; rfl
  have F19 := fn_mk (st := s__law_layout) l19 c19 k19
  have b19 : Binds K _ ["_law_made_here"] [] := .all (fd := PySem.W.fnOf "_law_layout" "_law_layout" (defArgs s__law_layout) (defBody s__law_layout) (defScope s__law_layout) .none kV19 dc19 pm19 an19 cd19 ct19) fun us hl => by obtain ⟨_u0, rfl⟩ := len_is1 hl; rfl
  have F20 := fn_mk (st := s__law_shared) l20 c20 k20
  have b20 : Binds K _ ["_law_made_here"] [] := .all (fd := PySem.W.fnOf "_law_shared" "_law_shared" (defArgs s__law_shared) (defBody s__law_shared) (defScope s__law_shared) .none kV20 dc20 pm20 an20 cd20 ct20) fun us hl => by obtain ⟨_u0, rfl⟩ := len_is1 hl; rfl
  have F21 := fn_mk (st := s__law_are_whole) l21 c21 k21
  have b21 : Binds K _ ["_law_rows"] [] := .all (fd := PySem.W.fnOf "_law_are_whole" "_law_are_whole" (defArgs s__law_are_whole) (defBody s__law_are_whole) (defScope s__law_are_whole) .none kV21 dc21 pm21 an21 cd21 ct21) fun us hl => by obtain ⟨_u0, rfl⟩ := len_is1 hl; rfl
  have F22 := fn_mk (st := s__law_image_kept) l22 c22 k22
  have b22 : Binds K _ ["_law_cell"] [] := .all (fd := PySem.W.fnOf "_law_image_kept" "_law_image_kept" (defArgs s__law_image_kept) (defBody s__law_image_kept) (defScope s__law_image_kept) .none kV22 dc22 pm22 an22 cd22 ct22) fun us hl => by obtain ⟨_u0, rfl⟩ := len_is1 hl; rfl
  have F23 := fn_mk (st := s_law) l23 c23 k23
  have b23 : Binds K _ ["_law_script"] [] := .all (fd := PySem.W.fnOf "law" "law" (defArgs s_law) (defBody s_law) (defScope s_law) .none kV23 dc23 pm23 an23 cd23 ct23) fun us hl => by obtain ⟨_u0, rfl⟩ := len_is1 hl; rfl
  obtain ⟨T, hxb, hob, hf, hfd⟩ : ∃ T : Txt K mg, T.x_bm = x_bm ∧ T.o_bm = o_bm ∧ T.d_law.f = fa ∧ T.d_law.fd = PySem.W.fnOf "law" "law" (defArgs s_law) (defBody s_law) (defScope s_law) .none kV23 dc23 pm23 an23 cd23 ct23 := ⟨{
    d_Part___init__ := ⟨_, _, F0, b0, a0, i0⟩
    d_Part_names := ⟨_, _, F1, b1, a1, i1⟩
    d_Image___init__ := ⟨_, _, F2, b2, a2, i2⟩
    d_by_names := ⟨_, _, F3, b3, PySem.W.mg_of X G a3⟩
    d_laid := ⟨_, _, F4, b4, PySem.W.mg_of X G a4⟩
    d_shared_of := ⟨_, _, F5, b5, PySem.W.mg_of X G a5⟩
    d__law_cell_at := ⟨_, _, F6, b6, PySem.W.mg_of X G a6⟩
    d__law_mixed := ⟨_, _, F7, b7, PySem.W.mg_of X G a7⟩
    d__law_names := ⟨_, _, F8, b8, PySem.W.mg_of X G a8⟩
    d__law_heads := ⟨_, _, F9, b9, PySem.W.mg_of X G a9⟩
    d__law_goal := ⟨_, _, F10, b10, PySem.W.mg_of X G a10⟩
    d__law_op := ⟨_, _, F11, b11, PySem.W.mg_of X G a11⟩
    d__law_code := ⟨_, _, F12, b12, PySem.W.mg_of X G a12⟩
    d__law_data := ⟨_, _, F13, b13, PySem.W.mg_of X G a13⟩
    d__law_wants := ⟨_, _, F14, b14, PySem.W.mg_of X G a14⟩
    d__law_part := ⟨_, _, F15, b15, PySem.W.mg_of X G a15⟩
    d__law_made := ⟨_, _, F16, b16, PySem.W.mg_of X G a16⟩
    d__law_as_part := ⟨_, _, F17, b17, PySem.W.mg_of X G a17⟩
    d__law_order := ⟨_, _, F18, b18, PySem.W.mg_of X G a18⟩
    d__law_layout := ⟨_, _, F19, b19, PySem.W.mg_of X G a19⟩
    d__law_shared := ⟨_, _, F20, b20, PySem.W.mg_of X G a20⟩
    d__law_are_whole := ⟨_, _, F21, b21, PySem.W.mg_of X G a21⟩
    d__law_image_kept := ⟨_, _, F22, b22, PySem.W.mg_of X G a22⟩
    d_law := ⟨_, _, F23, b23, PySem.W.mg_of X G a23⟩
    x_KINDS := x_KINDS
    c_KINDS := ⟨_, PySem.W.mg_of X G g_KINDS, rfl⟩
    sq_KINDS := ⟨_, _, _, l_KINDS, rfl, rfl, rfl, sl1000 v_KINDS.1, v_KINDS.2⟩
    n_all := PySem.W.mg_none_of X G n_all
    n_bool := PySem.W.mg_none_of X G n_bool
    n_dict := PySem.W.mg_none_of X G n_dict
    n_enumerate := PySem.W.mg_none_of X G n_enumerate
    n_int := PySem.W.mg_none_of X G n_int
    n_isinstance := PySem.W.mg_none_of X G n_isinstance
    n_len := PySem.W.mg_none_of X G n_len
    n_list := PySem.W.mg_none_of X G n_list
    n_range := PySem.W.mg_none_of X G n_range
    n_sorted := PySem.W.mg_none_of X G n_sorted
    n_tuple := PySem.W.mg_none_of X G n_tuple
    x_Part := x_Part
    x_Image := x_Image
    m_Part := PySem.W.mg_of X G m_Part
    m_Image := PySem.W.mg_of X G m_Image
    ocg_Part := ocg_Part
    och_Part := och_Part
    oco_Part := oco_Part
    ocs_Part := ocs_Part
    mk_Part := mk_Part
    kp_Part := kp_Part
    nf_Part_name := nf_Part_name
    nf_Part_sections := nf_Part_sections
    nf_Part_wants := nf_Part_wants
    nf_Part_places := nf_Part_places
    ocg_Image := ocg_Image
    och_Image := och_Image
    oco_Image := oco_Image
    ocs_Image := ocs_Image
    mk_Image := mk_Image
    kp_Image := kp_Image
    nf_Image_main := nf_Image_main
    nf_Image_sections := nf_Image_sections
    nf_Image_body := nf_Image_body
    nf_Image_far := nf_Image_far
    x_tab := 76
    e_tab := rfl
    x_cod := x_cod
    x_bm := x_bm
    o_bm := o_bm
    hcod := hcod
    htab := htab
    ktab := ktab
    m_bm := m_bm
    b_ne := b_ne
    b_1 := b_1
    b_2 := b_2
    b_3 := b_3
  }, rfl, rfl, rfl, rfl⟩
  refine ⟨PySem.W.fnOf "law" "law" (defArgs s_law) (defBody s_law) (defScope s_law) .none kV23 dc23 pm23 an23 cd23 ct23, x_cod, htab, ktab, fun s v => .of_eq rfl, fun base _ _ hbm => ?_⟩
  have G := ok_law (P := l.prog) (w := w) (base := base) T (by rw [hxb, hob]; exact hbm)
  rw [hf, hfd] at G
  exact G
theorem walk {l : PySem.W.OpenLaw} {q : Program} {loose : List Str} {XP : (Str → Option Value) → Heap → Prop} {YP : World → Heap → Prop} {d : DefRec} {K : Params → PySem.W.Frag} (hn : l.most = some 63) (hdf : d.params.defaults = [])
    (hY : ∀ (w : World) (h : Heap), YP w h → (K w.params).In h) (hYT : ∀ (w : World) (h : Heap), YP w h → h.get? 76 = some (PySem.W.tabObj #[]))
    (F : ∀ (w : World) (mg : Str → Option Value) (fa : Addr) (h : Heap) (bm : Addr) (ob : Obj), (K w.params).In h → h.Ns mainGlobals mg → mg d.name = some (.ref fa) → mg (Str.ofString "__builtins__") = some (.ref bm) → bm ≠ builtinsNs → ob.cls = .type "module" → ob.dict = some builtinsNs → ob.data = .plain →
      ∃ (fd : FuncData) (c : Addr), PySem.W.codeHdIn (K w.params) c 76 = true ∧ (K w.params).lookup 76 = none ∧ (∀ (s : Shared) (u : Value), BindsTo s fd ⟨[u], []⟩ [("_law_script", u)]) ∧ ∀ base : Heap, (K w.params).In base → base.Ns mainGlobals mg → base.get? bm = some ob → FnOk l.prog w (K w.params) mg base CX0 6 fa fd ["_law_script"] (sp_law (K w.params))) :
    PySem.W.WalkO q loose XP YP l.row.toRowW d [] (fun f vs => PySem.call f vs) :=
  L2.walk_ofT (n := 63) (k := 6) (x := "_law_script") (Pt := 76) (sp := fun w => sp_law (K w.params)) hn (by decide) hdf ⟨rfl, by decide, by decide⟩ hY hYT F (fun _ _ a ns hl hT hS => ⟨a, ns, rfl, hS, hl, hT, fun _ => rfl⟩)
end K20
open PySem PySem.W PyProof.Rows
set_option maxRecDepth 100000 in
set_option maxHeartbeats 0 in
theorem PySem.Challenge.cw_linkyard_k20_sections_as_laid_holds : PySem.Challenge.rw_linkyard_k20_sections_as_laid.Holds := by
  w_on; o_law; k_head; (case hw => w_witness2)
  k_fill
  refine K20.walk (l := PySem.Challenge.rw_linkyard_k20_sections_as_laid) rfl rfl (fun w h Y => PySem.W.km_in_of Y) (fun w h Y => PySem.W.km_tabs_of Y 76 (by simp)) ?F
  case F =>
    intro w mg fa h bm ob KX G hmg b1 b2 b3 b4 b5
    refine' K20.all_mk KX G hmg b1 b2 b3 b4 b5 ?a0 ?i0 ?l0 ?c0 ?k0 ?a1 ?i1 ?l1 ?c1 ?k1 ?a2 ?i2 ?l2 ?c2 ?k2 ?a3 ?l3 ?c3 ?k3 ?a4 ?l4 ?c4 ?k4 ?a5 ?l5 ?c5 ?k5 ?a6 ?l6 ?c6 ?k6 ?a7 ?l7 ?c7 ?k7 ?a8 ?l8 ?c8 ?k8 ?a9 ?l9 ?c9 ?k9 ?a10 ?l10 ?c10 ?k10 ?a11 ?l11 ?c11 ?k11 ?a12 ?l12 ?c12 ?k12 ?a13 ?l13 ?c13 ?k13 ?a14 ?l14 ?c14 ?k14 ?a15 ?l15 ?c15 ?k15 ?a16 ?l16 ?c16 ?k16 ?a17 ?l17 ?c17 ?k17 ?a18 ?l18 ?c18 ?k18 ?a19 ?l19 ?c19 ?k19 ?a20 ?l20 ?c20 ?k20 ?a21 ?l21 ?c21 ?k21 ?a22 ?l22 ?c22 ?k22 ?a23 ?l23 ?c23 ?k23 ?g_KINDS ?l_KINDS ?v_KINDS ?n_all ?n_bool ?n_dict ?n_enumerate ?n_int ?n_isinstance ?n_len ?n_list ?n_range ?n_sorted ?n_tuple ?m_Part ?m_Image ?ocg_Part ?och_Part ?oco_Part ?ocs_Part ?mk_Part ?kp_Part ?nf_Part_name ?nf_Part_sections ?nf_Part_wants ?nf_Part_places ?ocg_Image ?och_Image ?oco_Image ?ocs_Image ?mk_Image ?kp_Image ?nf_Image_main ?nf_Image_sections ?nf_Image_body ?nf_Image_far ?hcod ?htab ?ktab
    (case m_Part => k_is)
    (case m_Image => k_is)
    (case a0 => k_is)
    (case i0 => k_is)
    (case l0 => k_is)
    (case c0 => k_is)
    (case k0 => k_is)
    (case a1 => k_is)
    (case i1 => k_is)
    (case l1 => k_is)
    (case c1 => k_is)
    (case k1 => k_is)
    (case a2 => k_is)
    (case i2 => k_is)
    (case l2 => k_is)
    (case c2 => k_is)
    (case k2 => k_is)
    (case a3 => k_is)
    (case l3 => k_is)
    (case c3 => k_is)
    (case k3 => k_is)
    (case a4 => k_is)
    (case l4 => k_is)
    (case c4 => k_is)
    (case k4 => k_is)
    (case a5 => k_is)
    (case l5 => k_is)
    (case c5 => k_is)
    (case k5 => k_is)
    (case a6 => k_is)
    (case l6 => k_is)
    (case c6 => k_is)
    (case k6 => k_is)
    (case a7 => k_is)
    (case l7 => k_is)
    (case c7 => k_is)
    (case k7 => k_is)
    (case a8 => k_is)
    (case l8 => k_is)
    (case c8 => k_is)
    (case k8 => k_is)
    (case a9 => k_is)
    (case l9 => k_is)
    (case c9 => k_is)
    (case k9 => k_is)
    (case a10 => k_is)
    (case l10 => k_is)
    (case c10 => k_is)
    (case k10 => k_is)
    (case a11 => k_is)
    (case l11 => k_is)
    (case c11 => k_is)
    (case k11 => k_is)
    (case a12 => k_is)
    (case l12 => k_is)
    (case c12 => k_is)
    (case k12 => k_is)
    (case a13 => k_is)
    (case l13 => k_is)
    (case c13 => k_is)
    (case k13 => k_is)
    (case a14 => k_is)
    (case l14 => k_is)
    (case c14 => k_is)
    (case k14 => k_is)
    (case a15 => k_is)
    (case l15 => k_is)
    (case c15 => k_is)
    (case k15 => k_is)
    (case a16 => k_is)
    (case l16 => k_is)
    (case c16 => k_is)
    (case k16 => k_is)
    (case a17 => k_is)
    (case l17 => k_is)
    (case c17 => k_is)
    (case k17 => k_is)
    (case a18 => k_is)
    (case l18 => k_is)
    (case c18 => k_is)
    (case k18 => k_is)
    (case a19 => k_is)
    (case l19 => k_is)
    (case c19 => k_is)
    (case k19 => k_is)
    (case a20 => k_is)
    (case l20 => k_is)
    (case c20 => k_is)
    (case k20 => k_is)
    (case a21 => k_is)
    (case l21 => k_is)
    (case c21 => k_is)
    (case k21 => k_is)
    (case a22 => k_is)
    (case l22 => k_is)
    (case c22 => k_is)
    (case k22 => k_is)
    (case a23 => k_is)
    (case l23 => k_is)
    (case c23 => k_is)
    (case k23 => k_is)
    (case g_KINDS => k_is)
    (case l_KINDS => k_is)
    (case v_KINDS => exact ⟨by decide, .cons ⟨_, rfl⟩ (.cons ⟨_, rfl⟩ (.nil))⟩)
    (case n_all => k_is)
    (case n_bool => k_is)
    (case n_dict => k_is)
    (case n_enumerate => k_is)
    (case n_int => k_is)
    (case n_isinstance => k_is)
    (case n_len => k_is)
    (case n_list => k_is)
    (case n_range => k_is)
    (case n_sorted => k_is)
    (case n_tuple => k_is)
    (case ocg_Part => k_is)
    (case och_Part => k_is)
    (case oco_Part => k_is)
    (case ocs_Part => k_is)
    (case mk_Part => k_is)
    (case kp_Part => k_is)
    (case nf_Part_name => k_is)
    (case nf_Part_sections => k_is)
    (case nf_Part_wants => k_is)
    (case nf_Part_places => k_is)
    (case ocg_Image => k_is)
    (case och_Image => k_is)
    (case oco_Image => k_is)
    (case ocs_Image => k_is)
    (case mk_Image => k_is)
    (case kp_Image => k_is)
    (case nf_Image_main => k_is)
    (case nf_Image_sections => k_is)
    (case nf_Image_body => k_is)
    (case nf_Image_far => k_is)
    (case hcod => exact rfl)
    (case htab => first | k_is | kernel_rfl)
    (case ktab => first | k_is | kernel_rfl)
