import PyProof.Rows.All
import Wide.All
import OpenK.AllK
import Wide.FinOn
import Lean
import PyProof.EqAt
import PyProof.EqKinds
import PyProof.TupleCall
import KE.RegKIsAll
import KE.RegKTryMore
import PyProof.StationsW
import PyProof.RulesAs
import PyProof.ExcClass3
import PySem.Challenge.RW_linkyard_k25_images_written
set_option Elab.async false
set_option genInjectivity false
set_option genSizeOf false
set_option genSizeOfSpec false
set_option bootstrap.genMatcherCode false
set_option linter.all false
set_option maxRecDepth 100000
set_option maxHeartbeats 4000000
namespace L2
open PySem PySem.Spec PyProof.Rows

noncomputable abbrev Key := Sum Int Str
noncomputable def keyIs : Key → Value → Bool
  | .inl k, v => Value.isInt k v
  | .inr x, v => Value.isStrOf x v
noncomputable def keyH (w : World) : Key → Int
  | .inl k => hashInt k
  | .inr x => hashStr w x
theorem keyIs_shape : ∀ {k : Key} {v : Value}, keyIs k v = true → (∃ i t, k = Sum.inl i ∧ v = Value.int i t) ∨ (∃ x t, k = Sum.inr x ∧ v = Value.str x t)
  | .inl i, v, h => by
    obtain ⟨t, e⟩ := Value.isInt_shape (k := i) (v := v) h
    exact .inl ⟨i, t, rfl, e⟩
  | .inr x, v, h => by
    obtain ⟨t, e⟩ := Value.isStrOf_shape (x := x) (v := v) h
    exact .inr ⟨x, t, rfl, e⟩
theorem key_ll (a b : Int) : decide ((Sum.inl a : Key) = Sum.inl b) = (a == b) := by
  by_cases e : a = b
  · subst e; simp
  · have h : ¬ (Sum.inl a : Key) = Sum.inl b := fun q => e (Sum.inl.inj q)
    rw [decide_eq_false h]
    exact (beq_eq_false_iff_ne.mpr e).symm
theorem key_rr (a b : Str) : decide ((Sum.inr a : Key) = Sum.inr b) = decide (a = b) := by
  by_cases e : a = b
  · subst e; simp
  · have h : ¬ (Sum.inr a : Key) = Sum.inr b := fun q => e (Sum.inr.inj q)
    rw [decide_eq_false h, decide_eq_false e]
theorem key_lr (a : Int) (b : Str) : decide ((Sum.inl a : Key) = Sum.inr b) = false := decide_eq_false (fun q => nomatch q)
theorem key_rl (a : Str) (b : Int) : decide ((Sum.inr a : Key) = Sum.inl b) = false := decide_eq_false (fun q => nomatch q)

noncomputable def mixKind (prog : Program) (w : World) : PySem.KeyKind prog w Key where
  is := keyIs
  hash := keyH w
  inj := fun v a b ha hb => by
    rcases keyIs_shape ha with ⟨i, t, rfl, rfl⟩ | ⟨x, t, rfl, rfl⟩
    · rcases keyIs_shape hb with ⟨j, u, rfl, e⟩ | ⟨y, u, rfl, e⟩
      · injection e with e1 _; rw [e1]
      · exact nomatch e
    · rcases keyIs_shape hb with ⟨j, u, rfl, e⟩ | ⟨y, u, rfl, e⟩
      · exact nomatch e
      · injection e with e1 _; rw [e1]
  byValue := fun k v h => by
    rcases keyIs_shape h with ⟨i, t, rfl, rfl⟩ | ⟨x, t, rfl, rfl⟩ <;> rfl
  pyHash := fun hv h => by
    rcases keyIs_shape hv with ⟨i, t, rfl, rfl⟩ | ⟨x, t, rfl, rfl⟩
    · exact wpAny_pyHash_int h
    · exact wpAny_pyHash_str h
  eqBool := fun hu hv h => by
    rcases keyIs_shape hu with ⟨i, t, rfl, rfl⟩ | ⟨x, t, rfl, rfl⟩
    · rcases keyIs_shape hv with ⟨j, u, rfl, rfl⟩ | ⟨y, u, rfl, rfl⟩
      · rw [key_ll] at h; exact wpAny_eqBool_int h
      · rw [key_lr] at h; exact SeqAt.EqAt.int_str i t y u _ _ _ _ h
    · rcases keyIs_shape hv with ⟨j, u, rfl, rfl⟩ | ⟨y, u, rfl, rfl⟩
      · rw [key_rl] at h; exact SeqAt.EqAt.str_int x t j u _ _ _ _ h
      · rw [key_rr] at h; exact wpAny_eqBool_str h
  «strs» := fun k x t v h => by
    rcases keyIs_shape h with ⟨i, u, rfl, e⟩ | ⟨y, u, rfl, e⟩
    · exact nomatch e
    · injection e with e1 _
      subst e1
      cases v <;> rfl

end L2

namespace L2
open PySem PySem.Spec PyProof.Rows

set_option genInjectivity true in
inductive V where
  | non | bl (b : Bool) | int (i : Int) | str (x : Str) | byt (b : Array UInt8) | flt (b : UInt64) | ref (a : Addr) | ty (n : String)
  deriving DecidableEq

noncomputable def RelV : V → Value → Prop
  | .non, u => u = Value.none
  | .bl b, u => u = Value.bool b
  | .int i, u => ∃ t, u = Value.int i t
  | .str x, u => ∃ t, u = Value.str x t
  | .byt b, u => ∃ t, u = Value.bytes b t
  | .flt b, u => ∃ t, u = Value.float b t
  | .ref a, u => u = Value.ref a
  | .ty n, u => u = Value.type n

noncomputable abbrev Vals : List V → List Value → Prop := Paired RelV
theorem Vals.length {xs : List V} {us : List Value} (r : Vals xs us) : xs.length = us.length := Paired.length r
theorem Vals.get : ∀ {xs : List V} {us : List Value} {i : Nat} {x : V}, Vals xs us → xs[i]? = some x → ∃ u, us[i]? = some u ∧ RelV x u
  | _, _, _, _, .nil, e => by simp at e
  | _, _, 0, _, .cons r _, e => by simp at e; subst e; exact ⟨_, rfl, r⟩
  | _, _, i + 1, x, .cons _ t, e => by
    obtain ⟨u, h1, h2⟩ := Vals.get (i := i) (x := x) t (by simpa using e)
    exact ⟨u, by simpa using h1, h2⟩
theorem Vals.set {x : V} {u : Value} (r : RelV x u) : ∀ {xs : List V} {us : List Value} (i : Nat), Vals xs us → Vals (xs.set i x) (us.set i u)
  | _, _, _, .nil => .nil
  | _, _, 0, .cons _ t => .cons r t
  | _, _, i + 1, .cons q t => .cons q (Vals.set r i t)
theorem Vals.append : ∀ {xs ys : List V} {us ws : List Value}, Vals xs us → Vals ys ws → Vals (xs ++ ys) (us ++ ws)
  | _, _, _, _, .nil, s => s
  | _, _, _, _, .cons r t, s => .cons r (Vals.append t s)
theorem Vals.take : ∀ {xs : List V} {us : List Value} (n : Nat), Vals xs us → Vals (xs.take n) (us.take n)
  | _, _, 0, _ => .nil
  | _, _, _ + 1, .nil => .nil
  | _, _, n + 1, .cons r t => .cons r (Vals.take n t)
theorem Vals.drop : ∀ {xs : List V} {us : List Value} (n : Nat), Vals xs us → Vals (xs.drop n) (us.drop n)
  | _, _, 0, r => r
  | _, _, _ + 1, .nil => .nil
  | _, _, n + 1, .cons _ t => Vals.drop n t
theorem Vals.none_of : ∀ {xs : List V} {us : List Value} {i : Nat}, Vals xs us → xs[i]? = none → us[i]? = none := fun {xs us i} r e => by
  have h1 := r.length
  have h2 : xs.length ≤ i := List.getElem?_eq_none_iff.mp e
  exact List.getElem?_eq_none_iff.mpr (by omega)

noncomputable def RelO : Option V → Option Value → Prop
  | some v, some u => RelV v u
  | none, none => True
  | _, _ => False
noncomputable def KV {κ : Type} : List (κ × V) → List (κ × Value) → Prop := Paired fun (p : κ × V) (q : κ × Value) => p.1 = q.1 ∧ RelV p.2 q.2

noncomputable def kV : Key → V
  | .inl i => .int i
  | .inr x => .str x

set_option genInjectivity true in
inductive HO where
  /-- a list -/
  | lst (xs : List V)
  /-- a tuple (never changes) -/
  | tup (xs : List V)
  /-- a dict whose keys are ints and texts; one whose keys are tuples of ints and texts (the empty one is both) -/
  | dK (kvs : List (Key × V)) | dT (kvs : List (List Key × V))
  /-- a set of ints: its members, its size -/
  | set (S : Int → Bool) (n : Nat)
  /-- an instance of the class at C, its dict at dx, its attributes -/
  | ins (C dx : Addr) (fs : List (Str × V))
  /-- the dict of the instance at x -/
  | own (x : Addr)
  /-- the dict of an exception -/
  | xd (fs : List (Str × V))
  /-- a bound method, f of x -/
  | met (f x : Addr)
  /-- a range object lo, lo + 1, .. below hi -/
  | rng (lo hi : Int)
  /-- a thing that is known to the object (the script; a dict while a loop walks it): read, never written while it is so -/
  | frz (o : Obj) (u : HO)
  /-- a code object's table -/
  | tbl (ps : Array Value)
  /-- any other thing, by what is true of its one object (a def of one's own: SetO a S n := HO.ext fun h => ..) -/
  | ext (φ : Heap → Prop)

noncomputable abbrev Hp := Addr → Option HO
noncomputable def upd (H : Hp) (a : Addr) (o : HO) : Hp := fun b => if b = a then some o else H b
theorem upd_same {H : Hp} {a : Addr} {o : HO} : upd H a o a = some o := by unfold upd; rw [if_pos rfl]
theorem upd_ne {H : Hp} {a b : Addr} {o : HO} (h : b ≠ a) : upd H a o b = H b := by unfold upd; rw [if_neg h]
theorem upd_upd {H : Hp} {a : Addr} {o u : HO} : upd (upd H a o) a u = upd H a u := by
  funext b; unfold upd; split <;> rfl
theorem ne_of {H : Hp} {a b : Addr} {o u : HO} (h : H a = some o) (h' : H b = some u) (d : o ≠ u) : a ≠ b := by
  intro e; subst e; rw [h] at h'; exact d (Option.some.inj h')
theorem ne_of_none {H : Hp} {a b : Addr} {o : HO} (h : H a = some o) (h' : H b = none) : a ≠ b := by
  intro e; subst e; rw [h] at h'; cases h'

section
variable (P : Program) (w : World)
noncomputable def ObjOk (H : Hp) (h : Heap) (a : Addr) : HO → Prop
  | .lst xs => xs.length ≤ sizeLine ∧ ∃ (its : List Value) (n : Nat), Vals xs its ∧ h.get? a = some { cls := .type "list", data := .seq its.toArray n }
  | .tup xs => xs.length ≤ sizeLine ∧ ∃ its : List Value, Vals xs its ∧ IsTup h a its.toArray
  | .dK kvs => kvs.length ≤ sizeLine ∧ (a == sysModules) = false ∧ ∃ vs, KV kvs vs ∧ h.DictOf (mixKind P w) a vs
  | .dT kvs => kvs.length ≤ sizeLine ∧ (a == sysModules) = false ∧ ∃ xs : List (List Key × Addr × Value),
      Paired (fun (p : List Key × V) (q : List Key × Addr × Value) => p.1 = q.1 ∧ H q.2.1 = some (.tup (p.1.map kV)) ∧ RelV p.2 q.2.2) kvs xs ∧
      ∃ o es ep, h.get? a = some o ∧ o.ExactDict ∧ o.data = .dict es ep ∧ es.toList = xs.map (entryOfKey (tupleKind (mixKind P w))) ∧ (xs.map (·.1)).Nodup
  | .set S n => h.SetOf (intKind P w) a S n
  | .ins C dx fs => H dx = some (.own a) ∧ fs.length ≤ 1000 ∧ dx ≠ a ∧ h.get? a = some (PySem.W.instObj C dx) ∧
      ∃ mA, h.Ns1 dx mA ∧ (∀ f, RelO (fs.lookup f) (mA f)) ∧ PySem.Within mA (fs.map (·.1))
  | .own _ => ∃ o, h.get? a = some o
  | .xd fs => ∃ mA, h.Ns1 a mA ∧ ∀ f, RelO (fs.lookup f) (mA f)
  | .rng lo hi => ∃ t u v, h.get? a = some { cls := .type "range", data := .fields #[.int lo t, .int hi u, .int 1 v] }
  | .frz o u => h.get? a = some o ∧ ObjOk H h a u
  | .tbl ps => h.get? a = some { cls := .none, data := .fields ps }
  | .met f x => h.get? a = some (PySem.W.methodObj (.ref f) (.ref x))
  | .ext φ => φ h ∧ (∃ o, h.get? a = some o) ∧ ∀ h1 h2 : Heap, φ h1 → (∀ o, h1.get? a = some o → h2.get? a = some o) → φ h2
noncomputable def HOk (H : Hp) (h : Heap) : Prop := ∀ a o, H a = some o → ObjOk P w H h a o
end

section
variable {P : Program} {w : World} {H H' : Hp} {h h' : Heap} {a : Addr} {o : HO}
theorem ObjOk.lt (x : ObjOk P w H h a o) : a < h.objs.size := by
  cases o with
  | lst xs => obtain ⟨_, _, _, _, e⟩ := x; exact Heap.lt_size e
  | tup xs => obtain ⟨_, _, _, p⟩ := x; exact p.lt
  | dK kvs => obtain ⟨_, _, _, _, o, _, _, e, _⟩ := x; exact Heap.lt_size e
  | dT kvs => obtain ⟨_, _, _, _, o, _, _, e, _⟩ := x; exact Heap.lt_size e
  | set S n => obtain ⟨o, _, _, _, e, _⟩ := x; exact Heap.lt_size e
  | ins C dx fs => obtain ⟨_, _, _, e, _⟩ := x; exact Heap.lt_size e
  | own y => obtain ⟨_, e⟩ := x; exact Heap.lt_size e
  | xd fs => obtain ⟨_, ⟨_, _, _, e, _⟩, _⟩ := x; exact Heap.lt_size e
  | rng lo hi => obtain ⟨_, _, _, e⟩ := x; exact Heap.lt_size e
  | frz ob u => obtain ⟨e, _⟩ := x; exact Heap.lt_size e
  | tbl ps => exact Heap.lt_size (show h.get? a = some _ from x)
  | met f y => exact Heap.lt_size (show h.get? a = some _ from x)
  | ext φ => obtain ⟨_, ⟨_, e⟩, _⟩ := x; exact Heap.lt_size e
theorem Paired.mapP {α β : Type} {F G : α → β → Prop} : ∀ {l₁ : List α} {l₂ : List β}, Paired F l₁ l₂ → (∀ a b, F a b → G a b) → Paired G l₁ l₂
  | _, _, .nil, _ => .nil
  | _, _, .cons r t, f => .cons (f _ _ r) (Paired.mapP t f)
theorem ObjOk.stay (x : ObjOk P w H h a o) (k : ∀ b u, (b = a ∨ H b = some (.own a)) → h.get? b = some u → h'.get? b = some u)
    (ho : ∀ b, H b = some (.own a) → H' b = some (.own a)) (ht : ∀ b xs, H b = some (.tup xs) → H' b = some (.tup xs)) : ObjOk P w H' h' a o := by
  induction o with
  | lst xs => obtain ⟨z, its, n, r, e⟩ := x; exact ⟨z, its, n, r, k _ _ (.inl rfl) e⟩
  | tup xs => obtain ⟨z, its, r, ob, e, c⟩ := x; exact ⟨z, its, r, ob, k _ _ (.inl rfl) e, c⟩
  | dK kvs => obtain ⟨z, y, vs, r, ob, es, ep, e, c⟩ := x; exact ⟨z, y, vs, r, ob, es, ep, k _ _ (.inl rfl) e, c⟩
  | dT kvs =>
    obtain ⟨z, y, xs, r, ob, es, ep, e, c⟩ := x
    exact ⟨z, y, xs, Paired.mapP r fun p q z => ⟨z.1, ht _ _ z.2.1, z.2.2⟩, ob, es, ep, k _ _ (.inl rfl) e, c⟩
  | set S n => obtain ⟨ob, es, ep, t, e, c⟩ := x; exact ⟨ob, es, ep, t, k _ _ (.inl rfl) e, c⟩
  | ins C dx fs =>
    obtain ⟨d, z, ne, e, mA, ⟨od, es, ep, e2, c⟩, r⟩ := x
    exact ⟨ho _ d, z, ne, k _ _ (.inl rfl) e, mA, ⟨od, es, ep, k _ _ (.inr d) e2, c⟩, r⟩
  | own y => obtain ⟨ob, e⟩ := x; exact ⟨ob, k _ _ (.inl rfl) e⟩
  | xd fs => obtain ⟨mA, ⟨od, es, ep, e, c⟩, r⟩ := x; exact ⟨mA, ⟨od, es, ep, k _ _ (.inl rfl) e, c⟩, r⟩
  | rng lo hi => obtain ⟨t, u, v, e⟩ := x; exact ⟨t, u, v, k _ _ (.inl rfl) e⟩
  | frz ob u ih => obtain ⟨e, q⟩ := x; exact ⟨k _ _ (.inl rfl) e, ih q⟩
  | tbl ps =>
    have e : h.get? a = some { cls := .none, data := .fields ps } := x
    show h'.get? a = some { cls := .none, data := .fields ps }
    exact k a _ (.inl rfl) e
  | met f y =>
    have e : h.get? a = some (PySem.W.methodObj (.ref f) (.ref y)) := x
    show h'.get? a = some (PySem.W.methodObj (.ref f) (.ref y))
    exact k a _ (.inl rfl) e
  | ext φ => obtain ⟨p, ⟨o, e⟩, st⟩ := x; exact ⟨st _ _ p fun o q => k _ _ (.inl rfl) q, ⟨o, k _ _ (.inl rfl) e⟩, st⟩
theorem HOk.lt (x : HOk P w H h) (e : H a = some o) : a < h.objs.size := (x a o e).lt
theorem HOk.fresh (x : HOk P w H h) (e : h.objs.size ≤ a) : H a = none := by
  cases q : H a with
  | none => rfl
  | some u => exact absurd (Nat.lt_of_lt_of_le (x.lt q) e) (Nat.lt_irrefl _)
theorem HOk.kept (x : HOk P w H h) (k : ∀ b u, h.get? b = some u → h'.get? b = some u) : HOk P w H h' := fun a o e =>
  (x a o e).stay (fun b u _ q => k b u q) (fun _ q => q) fun _ _ q => q
theorem HOk.laid (x : HOk P w H h) (k : ∀ b u, h.get? b = some u → h'.get? b = some u) (hp : h.objs.size ≤ a) (new : ObjOk P w (upd H a o) h' a o) : HOk P w (upd H a o) h' := fun b u e => by
  have hn := x.fresh hp
  by_cases hb : b = a
  · subst hb; rw [upd_same] at e; cases e; exact new
  · rw [upd_ne hb] at e
    exact (x b u e).stay (fun c v _ q => k c v q) (fun c q => by rw [upd_ne (ne_of_none q hn)]; exact q) fun c xs q => by rw [upd_ne (ne_of_none q hn)]; exact q
end

noncomputable def Rd (H : Hp) (a : Addr) (u : HO) : Prop := H a = some u ∨ ∃ o, H a = some (.frz o u)
theorem Rd.of {H : Hp} {a : Addr} {u : HO} (h : H a = some u) : Rd H a u := .inl h
theorem Rd.ok {P : Program} {w : World} {H : Hp} {h : Heap} {a : Addr} {u : HO} (r : Rd H a u) (x : HOk P w H h) : ObjOk P w H h a u := by
  rcases r with r | ⟨o, r⟩
  · exact x a u r
  · obtain ⟨_, q⟩ := x a _ r
    exact q
noncomputable def Mut : Option HO → Prop
  | some (.lst _) => True
  | some (.dK _) => True
  | some (.dT _) => True
  | some (.set _ _) => True
  | some (.ins _ _ _) => True
  | some (.ext _) => True
  | _ => False
section
variable {P : Program} {w : World} {H : Hp} {h h' : Heap} {x e : Addr} {o' : HO}
theorem HOk.write (ok : HOk P w H h) (mu : Mut (H x)) (he : e = x ∨ H e = some (.own x)) (k : ∀ b u, b ≠ e → h.get? b = some u → h'.get? b = some u) (heo : ∃ u, h'.get? e = some u)
    (new : ObjOk P w (upd H x o') h' x o') : HOk P w (upd H x o') h' := fun b u q => by
  have nown : ∀ c y, H c = some (.own y) → c ≠ x := fun c y r z => by subst z; rw [r] at mu; exact mu
  have ntup : ∀ c xs, H c = some (.tup xs) → c ≠ x := fun c xs r z => by subst z; rw [r] at mu; exact mu
  by_cases hb : b = x
  · subst hb; rw [upd_same] at q; cases q; exact new
  · rw [upd_ne hb] at q
    by_cases hbe : b = e
    · have q' : H b = some (.own x) := by
        rcases he with z | z
        · exact absurd (hbe.trans z) hb
        · rw [hbe]; exact z
      rw [q] at q'; cases q'
      obtain ⟨v, hv⟩ := heo
      exact ⟨v, by rw [hbe]; exact hv⟩
    · refine (ok b u q).stay (fun c v hc r => k c v ?_ r) (fun c r => by rw [upd_ne (nown c b r)]; exact r) fun c xs r => by rw [upd_ne (ntup c xs r)]; exact r
      rcases hc with rfl | hc
      · exact hbe
      · rintro rfl
        rcases he with z | z
        · exact nown c b hc z
        · rw [hc] at z; cases z; exact hb rfl
end

structure Un (fs ex : List Addr) (H H' : Hp) (h h' : Heap) : Prop where
  keep : ∀ b o, h.get? b = some o → H b = none → b ∉ fs → b ∉ ex → h'.get? b = some o
  slot : ∀ b o, h.get? b = some o → H b = none → b ∈ fs → b ∉ ex → ∃ sl, h'.get? b = some { o with slots := sl }
  free : ∀ b o, h.get? b = some o → H b = none → b ∉ ex → H' b = none
  there : ∀ b o, h.get? b = some o → b ∉ ex → ∃ o', h'.get? b = some o'
  tups : ∀ b xs, H b = some (.tup xs) → H' b = some (.tup xs)
  frzs : ∀ b o u, H b = some (.frz o u) → H' b = some (.frz o u)
  tbls : ∀ b ps, H b = some (.tbl ps) → ∃ more, H' b = some (.tbl (ps ++ more))
section
variable {fs fs' ex ex' : List Addr} {H H1 H2 : Hp} {h h1 h2 h' : Heap} {a x e : Addr} {o : HO}
theorem Un.any (u : Un fs ex H H1 h h1) {b : Addr} {ob : Obj} (q : h.get? b = some ob) (n : H b = none) (hx : b ∉ ex) : ∃ sl, h1.get? b = some { ob with slots := sl } := by
  by_cases hb : b ∈ fs
  · exact u.slot b ob q n hb hx
  · exact ⟨ob.slots, u.keep b ob q n hb hx⟩
theorem Un.trans (a : Un fs ex H H1 h h1) (b : Un fs ex H1 H2 h1 h2) : Un fs ex H H2 h h2 where
  keep := fun c ob q n hc hx => b.keep c ob (a.keep c ob q n hc hx) (a.free c ob q n hx) hc hx
  slot := fun c ob q n hc hx => by
    obtain ⟨sl, e1⟩ := a.slot c ob q n hc hx
    obtain ⟨sl', e2⟩ := b.slot c _ e1 (a.free c ob q n hx) hc hx
    exact ⟨sl', e2⟩
  free := fun c ob q n hx => by
    obtain ⟨o', e1⟩ := a.there c ob q hx
    exact b.free c o' e1 (a.free c ob q n hx) hx
  there := fun c ob q hx => by
    obtain ⟨o', e1⟩ := a.there c ob q hx
    exact b.there c o' e1 hx
  tups := fun c xs q => b.tups c xs (a.tups c xs q)
  frzs := fun c ob xs q => b.frzs c ob xs (a.frzs c ob xs q)
  tbls := fun c ps q => by
    obtain ⟨m1, e1⟩ := a.tbls c ps q
    obtain ⟨m2, e2⟩ := b.tbls c _ e1
    exact ⟨m1 ++ m2, by rw [e2, Array.append_assoc]⟩
theorem Un.kept (k : ∀ b u, h.get? b = some u → h'.get? b = some u) : Un fs ex H H h h' :=
  ⟨fun b ob q _ _ _ => k b ob q, fun b ob q _ _ _ => ⟨ob.slots, k b ob q⟩, fun _ _ _ n _ => n, fun b ob q _ => ⟨ob, k b ob q⟩, fun _ _ q => q, fun _ _ _ q => q, fun _ ps q => ⟨#[], by rw [q]; simp⟩⟩
theorem Un.refl : Un fs ex H H h h := Un.kept fun _ _ q => q
theorem Un.laid (k : ∀ b u, h.get? b = some u → h'.get? b = some u) (hp : h.objs.size ≤ a) (hn : H a = none) : Un fs ex H (upd H a o) h h' where
  keep := fun b u q _ _ _ => k b u q
  slot := fun b u q _ _ _ => ⟨u.slots, k b u q⟩
  free := fun b u q n _ => by rw [upd_ne (Nat.ne_of_lt (Nat.lt_of_lt_of_le (Heap.lt_size q) hp))]; exact n
  there := fun b u q _ => ⟨u, k b u q⟩
  tups := fun b xs q => by rw [upd_ne (ne_of_none q hn)]; exact q
  frzs := fun b u xs q => by rw [upd_ne (ne_of_none q hn)]; exact q
  tbls := fun b ps q => ⟨#[], by rw [upd_ne (ne_of_none q hn), q]; simp⟩
theorem Un.write (mu : Mut (H x)) (he : e = x ∨ H e = some (.own x)) (k : ∀ b u, b ≠ e → h.get? b = some u → h'.get? b = some u) (heo : ∃ u, h'.get? e = some u) : Un fs ex H (upd H x o) h h' := by
  have hx : ∀ b, H b = none → b ≠ x := fun b n z => by subst z; rw [n] at mu; exact mu
  have hb : ∀ b, H b = none → b ≠ e := fun b n z => by
    subst z
    rcases he with r | r
    · exact hx b n r
    · rw [n] at r; cases r
  have hm : ∀ b u, H b = some u → ¬ Mut (some u) → b ≠ x := fun b u q nm z => by subst z; rw [q] at mu; exact nm mu
  refine ⟨fun b u q n _ _ => k b u (hb b n) q, fun b u q n _ _ => ⟨u.slots, k b u (hb b n) q⟩, fun b u q n _ => by rw [upd_ne (hx b n)]; exact n, fun b u q _ => ?_,
    fun b xs q => by rw [upd_ne (hm b _ q fun z => z)]; exact q, fun b u xs q => by rw [upd_ne (hm b _ q fun z => z)]; exact q, fun b ps q => ⟨#[], by rw [upd_ne (hm b _ q fun z => z), q]; simp⟩⟩
  by_cases hbe : b = e
  · subst hbe; exact heo
  · exact ⟨u, k b u hbe q⟩
theorem Un.mono (u : Un fs ex H H1 h h1) (hs : ∀ b ∈ fs, b ∈ fs') (hx : ∀ b ∈ ex, b ∈ ex') : Un fs' ex' H H1 h h1 :=
  ⟨fun b ob q n hb he => u.keep b ob q n (fun z => hb (hs b z)) fun z => he (hx b z), fun _ _ q n _ he => u.any q n fun z => he (hx _ z), fun b ob q n he => u.free b ob q n fun z => he (hx b z), fun b ob q he => u.there b ob q fun z => he (hx b z), u.tups, u.frzs, u.tbls⟩
end

noncomputable def trk (h : Heap) (H : Hp) : List Addr := (List.range h.objs.size).filter fun a => (H a).isSome
noncomputable def hidT (h : Heap) (H : Hp) : Heap := PySem.W.hideAll h (trk h H)
theorem hidT_size (h : Heap) (H : Hp) : (hidT h H).objs.size = h.objs.size := PySem.W.hideAll_size _ _
theorem hidT_get {h : Heap} {H : Hp} {b : Addr} {o : Obj} (e : h.get? b = some o) (n : H b = none) : (hidT h H).get? b = some o :=
  PySem.W.hideAll_get _ e fun hm => by
    have q : (H b).isSome = true := (List.mem_filter.mp hm).2
    rw [n] at q; simp at q
theorem of_hidT {h : Heap} {H : Hp} {b : Addr} {o : Obj} (e : (hidT h H).get? b = some o) : h.get? b = some o ∧ H b = none := by
  have e' : h.get? b = some o := PySem.W.of_hideAll (trk h H) e
  refine ⟨e', ?_⟩
  cases q : H b with
  | none => rfl
  | some x =>
    have hm : b ∈ trk h H := List.mem_filter.mpr ⟨List.mem_range.mpr (Heap.lt_size e'), by simp [q]⟩
    have z : (hidT h H).get? b = none := PySem.W.hideAll_none (trk h H) hm
    rw [z] at e; cases e

noncomputable def allNews (g h : Heap) (L : Addr) : List (Addr × Obj) := (List.range h.objs.size).filterMap fun a => if a = L ∨ (g.get? a).isSome = true then none else (h.get? a).map fun o => (a, o)
noncomputable def rest (g h : Heap) (L d : Addr) : List (Addr × Obj) := (allNews g h L).filter fun p => decide (p.1 ≠ d)
end L2

namespace L2
open PySem PySem.Spec PyProof.Rows

structure Mod (K : PySem.W.Frag) (mg : Str → Option Value) (base : Heap) : Prop where
  kin : K.In base
  glob : base.Ns mainGlobals mg
  blt : ∃ mb, base.Ns builtinsNs mb ∧ ∀ x : Str, x ≠ "__name__" → mb x = bootBuiltins x
  nolimit : base.NoLimit

structure Cx where
  prog : Program
  w : World
  K : PySem.W.Frag
  mg : Str → Option Value
  base : Heap
  A : Around
  N : List Str
  s₀ : Shared
  H₀ : Hp
  env : Env
  outer : List Env
  stack : List Env
  ex : List Addr
  fn : Str → Bool
  calm : Bool
  pn : List (Addr × Obj)
  xe : Value → Shared → Prop
noncomputable def frs (l : List Env) : List Addr := l.filterMap (·.frame)
noncomputable abbrev Cx.fs (X : Cx) : List Addr := frs X.outer

noncomputable def Vis (sc : Scope) (x : Str) : Prop := sc.names.lookup x = some .local ∨ sc.names.lookup x = some .cell ∨ sc.names.lookup x = some .free
noncomputable def Loc (sc : Scope) (x : Str) : Prop := sc.names.lookup x = some .local ∨ sc.names.lookup x = some .cell
noncomputable def Look (env : Env) (h : Heap) (m : Str → Option Value) (x : Str) (u : Value) : Prop :=
  (env.kindOf x = some .local ∧ m x = some u) ∨ ((env.kindOf x = some .cell ∨ env.kindOf x = some .free) ∧ ∃ c, env.cells.lookup x = some c ∧ h.IsCell c (some u))

structure Cx.Ok (X : Cx) : Prop where
  mod : Mod X.K X.mg X.base
  kind : X.env.scope.kind = .function
  glob : X.env.globals = mainGlobals
  blt : X.env.builtins = builtinsNs
  above : X.s₀.heap.objs.size ≤ X.env.locals
  inj : ∀ x y c, X.env.cells.lookup x = some c → X.env.cells.lookup y = some c → x = y
  has : ∀ x, (X.env.kindOf x = some .cell ∨ X.env.kindOf x = some .free) → ∃ c, X.env.cells.lookup x = some c
  cab : ∀ x c, X.fn x = true → X.env.cells.lookup x = some c → X.s₀.heap.objs.size ≤ c
  hd : X.calm = true → X.A.handled = none
  frames : X.A.frames = some X.stack
  stk : X.stack = X.outer ∨ (X.stack = X.env :: X.outer ∧ X.env.frame = some X.env.locals)
  exf : ∀ b ∈ X.ex, b ≠ X.env.locals ∧ ∀ x c, X.env.cells.lookup x = some c → c ≠ b
  bs : ∀ b o, X.base.get? b = some o → X.s₀.heap.get? b = some o ∧ X.H₀ b = none
  bsz : X.base.objs.size ≤ X.s₀.heap.objs.size
  noex : ∀ b o, X.base.get? b = some o → b ∉ X.ex
  exfs : ∀ b ∈ X.ex, b ∉ X.fs
  funs : X.s₀.heap.FunFrames X.base X.outer
  frf : ∀ b ∈ X.fs, X.H₀ b = none

structure Inv (X : Cx) (pins : List (Addr × Obj)) (σ : List (Option V)) (H : Hp) (s : Shared) : Prop where
  ok : X.Ok
  os : s.os = X.s₀.os
  bare : AllBare s.gens
  base : Un X.fs X.ex X.H₀ H X.s₀.heap s.heap
  loc : ∃ m, s.heap.Ns X.env.locals m ∧ ∀ (i : Nat) (x : Str) (v : V), X.N[i]? = some x → σ[i]? = some (some v) → Vis X.env.scope x → ∃ u, RelV v u ∧ Look X.env s.heap m x u
  cell : ∀ x c, X.env.cells.lookup x = some c → ∃ v, s.heap.IsCell c v
  free : H X.env.locals = none
  freeC : ∀ x c, X.env.cells.lookup x = some c → H c = none
  pin : ∀ p ∈ X.pn ++ pins, s.heap.get? p.1 = some p.2 ∧ H p.1 = none ∧ p.1 ≠ X.env.locals ∧ p.1 ∉ X.fs ∧ ∀ v, p.2.data ≠ .cell v
  hok : HOk X.prog X.w H s.heap
  len : σ.length = X.N.length

section
variable {X : Cx} {pins : List (Addr × Obj)} {σ : List (Option V)} {H H' : Hp} {s : Shared} {h' : Heap}

theorem Cx.Ok.nofr (ok : X.Ok) {b : Addr} {o : Obj} (e : X.base.get? b = some o) : b ∉ X.fs := fun hb => by
  have := (ok.funs.mem hb).1
  rw [e] at this; cases this
theorem Inv.bs (I : Inv X pins σ H s) : ∀ b o, X.base.get? b = some o → s.heap.get? b = some o ∧ H b = none := fun b o e =>
  ⟨I.base.keep b o (I.ok.bs b o e).1 (I.ok.bs b o e).2 (I.ok.nofr e) (I.ok.noex b o e), I.base.free b o (I.ok.bs b o e).1 (I.ok.bs b o e).2 (I.ok.noex b o e)⟩
theorem Inv.bk (I : Inv X pins σ H s) : ∀ b o, X.base.get? b = some o → s.heap.get? b = some o := fun b o e => (I.bs b o e).1
theorem Inv.mod (I : Inv X pins σ H s) : Mod X.K X.mg X.base := I.ok.mod
theorem Inv.kIn (I : Inv X pins σ H s) : X.K.In s.heap := I.ok.mod.kin.keeps I.bk
theorem Inv.nolimit (I : Inv X pins σ H s) : s.heap.NoLimit := I.ok.mod.nolimit.keeps I.bk
theorem Inv.fr (I : Inv X pins σ H s) : ∃ m, Fr X.base X.env.locals s.heap m :=
  let ⟨m, hn, _⟩ := I.loc
  ⟨m, hn, I.bk, Nat.le_trans I.ok.bsz I.ok.above⟩
theorem Inv.lt (I : Inv X pins σ H s) : X.env.locals < s.heap.objs.size := let ⟨_, hn, _⟩ := I.loc; hn.lt
theorem Inv.sz (I : Inv X pins σ H s) : X.s₀.heap.objs.size ≤ s.heap.objs.size := Nat.le_trans I.ok.above (Nat.le_of_lt I.lt)
theorem Inv.nofs (I : Inv X pins σ H s) {a : Addr} (h : s.heap.objs.size ≤ a) : a ∉ X.fs := fun hb => by
  obtain ⟨_, o, ho, _⟩ := I.ok.funs.mem hb
  exact absurd (Nat.lt_of_lt_of_le (Heap.lt_size ho) (Nat.le_trans I.sz h)) (Nat.lt_irrefl _)
theorem Inv.cne (I : Inv X pins σ H s) : ∀ x c, X.env.cells.lookup x = some c → c ≠ X.env.locals := fun x c e z => by
  obtain ⟨v, o, ho, hd⟩ := I.cell x c e
  obtain ⟨m, ⟨o', es, ep, ho', hd', _⟩, _⟩ := I.loc
  rw [z, ho'] at ho; cases ho; rw [hd'] at hd; cases hd
theorem Inv.funs (I : Inv X pins σ H s) : s.heap.FunFrames X.base X.outer := by
  have all : ∀ (l : List Env), (∀ b ∈ frs l, b ∈ X.fs) → X.s₀.heap.FunFrames X.base l → s.heap.FunFrames X.base l := by
    intro l
    induction l with
    | nil => intro _ _; trivial
    | cons env r ih =>
      intro hs hl
      obtain ⟨hk, ⟨L, o, hf, hn, ho, hd⟩, hr⟩ := hl
      have hL : L ∈ X.fs := hs L (by unfold frs; rw [List.filterMap_cons, hf]; exact List.mem_cons_self)
      obtain ⟨sl, e⟩ := I.base.slot L o ho (I.ok.frf L hL) hL fun z => I.ok.exfs L z hL
      exact ⟨hk, ⟨L, _, hf, hn, e, hd⟩, ih (fun b hb => hs b (by unfold frs; rw [List.filterMap_cons, hf]; exact List.mem_cons_of_mem _ hb)) hr⟩
  exact all X.outer (fun _ hb => hb) I.ok.funs

theorem Inv.stack (I : Inv X pins σ H s) : s.heap.FunFrames X.base X.stack := by
  rcases I.ok.stk with e | ⟨e, hf⟩
  · rw [e]; exact I.funs
  · rw [e]
    obtain ⟨m, hn, _⟩ := I.loc
    refine .cons (by rw [I.ok.kind]; decide) hf hn ?_ I.funs
    exact Heap.get?_none_of_le (Nat.le_trans I.ok.bsz I.ok.above)
theorem Inv.stkSub (I : Inv X pins σ H s) : ∀ b ∈ frs X.stack, b ∈ X.env.locals :: X.fs := fun b hb => by
  rcases I.ok.stk with e | ⟨e, hf⟩
  · rw [e] at hb; exact List.mem_cons_of_mem _ hb
  · rw [e] at hb
    unfold frs at hb
    rw [List.filterMap_cons, hf] at hb
    exact hb
theorem Inv.stkFree (I : Inv X pins σ H s) : ∀ b ∈ frs X.stack, H b = none := fun b hb => by
  rcases List.mem_cons.mp (I.stkSub b hb) with e | hb
  · rw [e]; exact I.free
  · obtain ⟨_, o, ho, _⟩ := I.ok.funs.mem hb
    exact I.base.free b o ho (I.ok.frf b hb) fun z => I.ok.exfs b z hb

theorem Inv.step {g' : Array GenState} {t' : Nat} {d' : Drawn} {ch : List Addr} (I : Inv X pins σ H s)
    (hch : ∀ b ∈ ch, (b ∈ X.ex ∨ X.s₀.heap.objs.size ≤ b) ∧ b ≠ X.env.locals ∧ (∀ x c, X.env.cells.lookup x = some c → c ≠ b) ∧ ∀ p ∈ X.pn ++ pins, p.1 ≠ b)
    (keep : ∀ b o, b ≠ X.env.locals → b ∉ X.fs → b ∉ ch → s.heap.get? b = some o → H b = none → h'.get? b = some o)
    (slot : ∀ b o, b ≠ X.env.locals → b ∈ X.fs → b ∉ ch → s.heap.get? b = some o → H b = none → ∃ sl, h'.get? b = some { o with slots := sl }) (free : ∀ b o, b ∉ ch → s.heap.get? b = some o → H b = none → H' b = none)
    (there : ∀ b o, b ∉ ch → s.heap.get? b = some o → ∃ o', h'.get? b = some o')
    (tups : ∀ b xs, H b = some (.tup xs) → H' b = some (.tup xs)) (frzs : ∀ b o u, H b = some (.frz o u) → H' b = some (.frz o u)) (tbls : ∀ b ps, H b = some (.tbl ps) → ∃ more, H' b = some (.tbl (ps ++ more)))
    (ns : ∀ m, s.heap.Ns X.env.locals m → h'.Ns X.env.locals m) (hok : HOk X.prog X.w H' h') (hg : AllBare g') :
    Inv X pins σ H' { s with heap := h', gens := g', drawn := d', toks := t' } := by
  have neL : ∀ b o, X.s₀.heap.get? b = some o → b ≠ X.env.locals := fun b o e => Nat.ne_of_lt (Nat.lt_of_lt_of_le (Heap.lt_size e) I.ok.above)
  have neC : ∀ b o, X.s₀.heap.get? b = some o → b ∉ X.ex → b ∉ ch := fun b o e hx hb => by
    rcases (hch b hb).1 with z | z
    · exact hx z
    · exact absurd (Nat.lt_of_lt_of_le (Heap.lt_size e) z) (Nat.lt_irrefl _)
  have cellK : ∀ x c, X.env.cells.lookup x = some c → ∀ v, s.heap.IsCell c v → h'.IsCell c v := fun x c e v ⟨o, ho, hd⟩ => by
    have nch : c ∉ ch := fun z => (hch c z).2.2.1 x c e rfl
    by_cases hc : c ∈ X.fs
    · obtain ⟨sl, q⟩ := slot c o (I.cne x c e) hc nch ho (I.freeC x c e)
      exact ⟨_, q, hd⟩
    · exact ⟨o, keep c o (I.cne x c e) hc nch ho (I.freeC x c e), hd⟩
  refine ⟨I.ok, I.os, hg, ⟨fun b o e n hb hx => ?_, fun b o e n hb hx => ?_, fun b o e n hx => ?_, fun b o e hx => ?_, fun b xs e => tups b xs (I.base.tups b xs e), fun b o xs e => frzs b o xs (I.base.frzs b o xs e), fun b ps e => ?_⟩, ?_, fun x c e => ?_, ?_, fun x c e => ?_, fun p hp => ?_, hok, I.len⟩
  · exact keep b o (neL b o e) hb (neC b o e hx) (I.base.keep b o e n hb hx) (I.base.free b o e n hx)
  · obtain ⟨sl, e1⟩ := I.base.slot b o e n hb hx
    obtain ⟨sl', e2⟩ := slot b _ (neL b o e) hb (neC b o e hx) e1 (I.base.free b o e n hx)
    exact ⟨sl', e2⟩
  · obtain ⟨o', e1⟩ := I.base.there b o e hx
    exact free b o' (neC b o e hx) e1 (I.base.free b o e n hx)
  · obtain ⟨o', e1⟩ := I.base.there b o e hx
    exact there b o' (neC b o e hx) e1
  · obtain ⟨m1, e1⟩ := I.base.tbls b ps e
    obtain ⟨m2, e2⟩ := tbls b _ e1
    exact ⟨m1 ++ m2, by rw [e2, Array.append_assoc]⟩
  · obtain ⟨m, hn, hl⟩ := I.loc
    refine ⟨m, ns m hn, fun i x v e1 e2 e3 => ?_⟩
    obtain ⟨u, r, l⟩ := hl i x v e1 e2 e3
    refine ⟨u, r, ?_⟩
    rcases l with l | ⟨k, c, e, z⟩
    · exact .inl l
    · exact .inr ⟨k, c, e, cellK x c e _ z⟩
  · obtain ⟨v, z⟩ := I.cell x c e
    exact ⟨v, cellK x c e v z⟩
  · obtain ⟨m, ⟨o, _, _, ho, _⟩, _⟩ := I.loc
    exact free _ o (fun z => (hch _ z).2.1 rfl) ho I.free
  · obtain ⟨v, o, ho, hd⟩ := I.cell x c e
    exact free c o (fun z => (hch c z).2.2.1 x c e rfl) ho (I.freeC x c e)
  · obtain ⟨e, n, ne, nf, d⟩ := I.pin p hp
    have nch : p.1 ∉ ch := fun z => (hch p.1 z).2.2.2 p hp rfl
    exact ⟨keep p.1 p.2 ne nf nch e n, free p.1 p.2 nch e n, ne, nf, d⟩
theorem Inv.un {t' : Nat} (I : Inv X pins σ H s) (u : Un X.fs [] H H' s.heap h') (hok : HOk X.prog X.w H' h') : Inv X pins σ H' { s with heap := h', toks := t' } := by
  obtain ⟨m, ⟨o, es, ep, ho, r⟩, _⟩ := id I.loc
  obtain ⟨sl, hL⟩ := u.any ho I.free (by simp)
  exact I.step (g' := s.gens) (d' := s.drawn) (ch := []) (fun _ z => nomatch z) (fun b o _ hb _ e n => u.keep b o e n hb (by simp)) (fun b o _ hb _ e n => u.slot b o e n hb (by simp)) (fun b o _ e n => u.free b o e n (by simp)) (fun b o _ e => u.there b o e (by simp)) u.tups u.frzs u.tbls (fun m' hm => by
    obtain ⟨o', es', ep', ho', r'⟩ := hm
    rw [ho] at ho'; cases ho'
    exact ⟨_, es', ep', hL, r'⟩) hok I.bare
theorem Inv.call {g' : Array GenState} {t' : Nat} {d' : Drawn} {ch : List Addr} (I : Inv X pins σ H s) (u : Un (frs X.stack) ch H H' s.heap h') (hok : HOk X.prog X.w H' h') (hg : AllBare g')
    (hch : ∀ b ∈ ch, (b ∈ X.ex ∨ X.s₀.heap.objs.size ≤ b) ∧ b ≠ X.env.locals ∧ (∀ x c, X.env.cells.lookup x = some c → c ≠ b) ∧ ∀ p ∈ X.pn ++ pins, p.1 ≠ b) :
    Inv X pins σ H' { s with heap := h', gens := g', drawn := d', toks := t' } := by
  obtain ⟨m, ⟨o, es, ep, ho, r⟩, _⟩ := id I.loc
  obtain ⟨sl, hL⟩ := u.any ho I.free fun z => (hch _ z).2.1 rfl
  exact I.step (ch := ch) hch (fun b o hL hb hc e n => u.keep b o e n (fun z => (List.mem_cons.mp (I.stkSub b z)).elim hL hb) hc) (fun b o _ _ hc e n => u.any e n hc) (fun b o hc e n => u.free b o e n hc) (fun b o hc e => u.there b o e hc) u.tups u.frzs u.tbls (fun m' hm => by
    obtain ⟨o', es', ep', ho', r'⟩ := hm
    rw [ho] at ho'; cases ho'
    exact ⟨_, es', ep', hL, r'⟩) hok hg
theorem Inv.turned {t' : Nat} {it : Addr} (I : Inv X pins σ H s) (k : ∀ b o, b ≠ it → s.heap.get? b = some o → h'.get? b = some o) (hn : H it = none) (hL : it ≠ X.env.locals)
    (h1 : it ∈ X.ex ∨ X.s₀.heap.objs.size ≤ it) (h2 : ∀ x c, X.env.cells.lookup x = some c → c ≠ it) (h3 : ∀ p ∈ X.pn ++ pins, p.1 ≠ it) : Inv X pins σ H { s with heap := h', toks := t' } := by
  have nit : ∀ b u, H b = some u → b ≠ it := fun b u e z => by rw [z, hn] at e; cases e
  refine I.step (g' := s.gens) (d' := s.drawn) (ch := [it]) (fun b hb => ?_) (fun b o _ _ hc e _ => k b o (fun z => hc (by simp [z])) e) (fun b o _ _ hc e _ => ⟨o.slots, k b o (fun z => hc (by simp [z])) e⟩) (fun _ _ _ _ n => n)
    (fun b o hc e => ⟨o, k b o (fun z => hc (by simp [z])) e⟩) (fun _ _ e => e) (fun _ _ _ e => e) (fun b ps e => ⟨#[], by rw [e]; simp⟩) (fun m hm => ?_) (fun b u e => ?_) I.bare
  · have e : b = it := by simpa using hb
    subst e
    exact ⟨h1, hL, h2, h3⟩
  · obtain ⟨o, es, ep, ho, r⟩ := hm
    exact ⟨o, es, ep, k _ o (Ne.symm hL) ho, r⟩
  · refine (I.hok b u e).stay (fun c v hc q => k c v ?_ q) (fun _ q => q) fun _ _ q => q
    rcases hc with z | z
    · rw [z]; exact nit b u e
    · exact nit c _ z
theorem Inv.tok (I : Inv X pins σ H s) (t : Nat) : Inv X pins σ H { s with toks := t } := I.un (h' := s.heap) (t' := t) Un.refl I.hok
theorem Inv.kept {t' : Nat} (I : Inv X pins σ H s) (k : ∀ b u, s.heap.get? b = some u → h'.get? b = some u) : Inv X pins σ H { s with heap := h', toks := t' } := I.un (Un.kept k) (I.hok.kept k)
theorem Inv.laid {a : Addr} {o : HO} {t' : Nat} (I : Inv X pins σ H s) (k : ∀ b u, s.heap.get? b = some u → h'.get? b = some u) (hp : s.heap.objs.size ≤ a) (new : ObjOk X.prog X.w (upd H a o) h' a o) :
    Inv X pins σ (upd H a o) { s with heap := h', toks := t' } := I.un (Un.laid k hp (I.hok.fresh hp)) (I.hok.laid k hp new)
theorem Inv.write {x e : Addr} {o : HO} {t' : Nat} (I : Inv X pins σ H s) (mu : Mut (H x)) (he : e = x ∨ H e = some (.own x)) (k : ∀ b u, b ≠ e → s.heap.get? b = some u → h'.get? b = some u) (heo : ∃ u, h'.get? e = some u)
    (new : ObjOk X.prog X.w (upd H x o) h' x o) : Inv X pins σ (upd H x o) { s with heap := h', toks := t' } := I.un (Un.write mu he k heo) (I.hok.write mu he k heo new)
theorem Inv.weak {σ' : List (Option V)} (I : Inv X pins σ H s) (hl : σ'.length = σ.length) (w : ∀ (i : Nat) v, σ'[i]? = some (some v) → σ[i]? = some (some v)) : Inv X pins σ' H s :=
  ⟨I.ok, I.os, I.bare, I.base, let ⟨m, hn, hl'⟩ := I.loc; ⟨m, hn, fun i x v e1 e2 e3 => hl' i x v e1 (w i v e2) e3⟩, I.cell, I.free, I.freeC, I.pin, I.hok, hl.trans I.len⟩
theorem Inv.pins_of {pins' : List (Addr × Obj)} (I : Inv X pins σ H s) (h : ∀ p ∈ pins', s.heap.get? p.1 = some p.2 ∧ H p.1 = none ∧ p.1 ≠ X.env.locals ∧ p.1 ∉ X.fs ∧ ∀ v, p.2.data ≠ .cell v) : Inv X pins' σ H s :=
  ⟨I.ok, I.os, I.bare, I.base, I.loc, I.cell, I.free, I.freeC, fun p hp => (List.mem_append.mp hp).elim (fun z => I.pin p (List.mem_append_left _ z)) (h p), I.hok, I.len⟩

theorem nodup_ix {N : List Str} (hN : N.Nodup) {i j : Nat} {x : Str} (a : N[i]? = some x) (b : N[j]? = some x) : i = j := by
  obtain ⟨h1, e1⟩ := List.getElem?_eq_some_iff.mp a
  obtain ⟨h2, e2⟩ := List.getElem?_eq_some_iff.mp b
  exact (List.getElem_inj hN).mp (e1.trans e2.symm)

theorem store_ok2 {M : Model} {A : Around} {E : Value → Shared → Prop} {i : Nat} {x : Str} {v : V} {u : Value} {Q : Unit → Shared → Prop} (I : Inv X pins σ H s) (hN : X.N.Nodup) (hi : X.N[i]? = some x) (hx : Loc X.env.scope x) (r : RelV v u)
    (h : ∀ s', Inv X pins (σ.set i (some v)) H s' → (∃ a, Heap.SameBut a s.heap s'.heap ∧ (a = X.env.locals ∨ X.env.cells.lookup x = some a)) → Q () s') (hf : X.fn x = true ∨ X.env.scope.names.lookup x = some .local := by first | exact .inl rfl | exact .inr rfl | assumption) : wpAny M A (storeName X.env x u) Q E s := by
  obtain ⟨m, hn, hl⟩ := id I.loc
  have hcls : (X.env.scope.kind == .class || (X.env.scope.kind == .module && X.env.locals != X.env.globals)) = false := by rw [I.ok.kind]; rfl
  have hiσ : i < σ.length := by rw [I.len]; exact (List.getElem?_eq_some_iff.mp hi).1
  have cne := I.cne
  have tracked : ∀ {a : Addr} {h' : Heap}, (∃ o, s.heap.get? a = some o ∧ H a = none) → Heap.SameBut a s.heap h' → HOk X.prog X.w H h' := fun {a h'} ha hs b ob e => by
    obtain ⟨_, _, hfree⟩ := ha
    refine (I.hok b ob e).stay (fun c w' hc q => (hs.2 c ?_).trans q) (fun _ q => q) fun _ _ q => q
    rintro rfl
    rcases hc with rfl | hc
    · rw [hfree] at e; cases e
    · rw [hfree] at hc; cases hc
  rcases hx with hk | hk
  · refine wpAny_storeName_local hk hn (fun h' hn' hs => ?_) hcls
    obtain ⟨oL, _, _, hoL, _⟩ := id hn
    refine h _ ⟨I.ok, I.os, I.bare, ⟨fun b o e n hb hx => ?_, fun b o e n hb hx => ?_, I.base.free, fun b o e hx => ?_, I.base.tups, I.base.frzs, I.base.tbls⟩, ⟨_, hn', fun j y v' e1 e2 e3 => ?_⟩, fun y c e => ?_, I.free, I.freeC, fun p hp => ?_, tracked ⟨oL, hoL, I.free⟩ hs, by simpa using I.len⟩ ⟨_, hs, .inl rfl⟩
    · exact (hs.2 b (Nat.ne_of_lt (Nat.lt_of_lt_of_le (Heap.lt_size e) I.ok.above))).trans (I.base.keep b o e n hb hx)
    · obtain ⟨sl, e1⟩ := I.base.slot b o e n hb hx
      exact ⟨sl, (hs.2 b (Nat.ne_of_lt (Nat.lt_of_lt_of_le (Heap.lt_size e) I.ok.above))).trans e1⟩
    · obtain ⟨o', e1⟩ := I.base.there b o e hx
      exact ⟨o', (hs.2 b (Nat.ne_of_lt (Nat.lt_of_lt_of_le (Heap.lt_size e) I.ok.above))).trans e1⟩
    · by_cases hj : j = i
      · subst hj
        rw [hi] at e1; cases e1
        rw [List.getElem?_set_self hiσ] at e2
        cases e2
        exact ⟨u, r, .inl ⟨hk, by simp⟩⟩
      · rw [List.getElem?_set_ne (Ne.symm hj)] at e2
        obtain ⟨u', r', q⟩ := hl j y v' e1 e2 e3
        refine ⟨u', r', ?_⟩
        rcases q with ⟨k, e⟩ | ⟨k, c, e, z⟩
        · refine .inl ⟨k, ?_⟩
          have : y ≠ x := fun e => hj (nodup_ix hN e1 (e ▸ hi))
          simp [this, e]
        · exact .inr ⟨k, c, e, z.sameBut hs (cne y c e)⟩
    · obtain ⟨w', z⟩ := I.cell y c e
      exact ⟨w', z.sameBut hs (cne y c e)⟩
    · obtain ⟨e, n, ne, nf, d⟩ := I.pin p hp
      exact ⟨(hs.2 p.1 ne).trans e, n, ne, nf, d⟩
  · have hfn : X.fn x = true := by
      rcases hf with z | z
      · exact z
      · rw [z] at hk; cases hk
    obtain ⟨c, hc⟩ := I.ok.has x (.inl hk)
    obtain ⟨w', z⟩ := I.cell x c hc
    refine wpAny_storeName_cell I.ok.kind hk hc z (fun h' hc' hs => ?_)
    obtain ⟨oc, hoc, hocd⟩ := id z
    refine h { s with heap := h' } ⟨I.ok, I.os, I.bare, ⟨fun b o e n hb hx => ?_, fun b o e n hb hx => ?_, I.base.free, fun b o e hx => ?_, I.base.tups, I.base.frzs, I.base.tbls⟩, ⟨m, hn.sameBut hs (Ne.symm (cne x c hc)), fun j y v' e1 e2 e3 => ?_⟩, fun y c' e => ?_, I.free, I.freeC, fun p hp => ?_, tracked ⟨oc, hoc, I.freeC x c hc⟩ hs, by simpa using I.len⟩ ⟨c, hs, .inr hc⟩
    · exact (hs.2 b (Nat.ne_of_lt (Nat.lt_of_lt_of_le (Heap.lt_size e) (I.ok.cab x c hfn hc)))).trans (I.base.keep b o e n hb hx)
    · obtain ⟨sl, e1⟩ := I.base.slot b o e n hb hx
      exact ⟨sl, (hs.2 b (Nat.ne_of_lt (Nat.lt_of_lt_of_le (Heap.lt_size e) (I.ok.cab x c hfn hc)))).trans e1⟩
    · obtain ⟨o', e1⟩ := I.base.there b o e hx
      exact ⟨o', (hs.2 b (Nat.ne_of_lt (Nat.lt_of_lt_of_le (Heap.lt_size e) (I.ok.cab x c hfn hc)))).trans e1⟩
    · by_cases hj : j = i
      · subst hj
        rw [hi] at e1; cases e1
        rw [List.getElem?_set_self hiσ] at e2
        cases e2
        exact ⟨u, r, .inr ⟨.inl hk, c, hc, hc'⟩⟩
      · rw [List.getElem?_set_ne (Ne.symm hj)] at e2
        obtain ⟨u', r', q⟩ := hl j y v' e1 e2 e3
        refine ⟨u', r', ?_⟩
        rcases q with q | ⟨k, c', e, z'⟩
        · exact .inl q
        · refine .inr ⟨k, c', e, z'.sameBut hs ?_⟩
          rintro rfl
          exact hj (nodup_ix hN e1 (I.ok.inj _ _ _ e hc ▸ hi))
    · by_cases hcc : c' = c
      · subst hcc; exact ⟨_, hc'⟩
      · obtain ⟨w2, z2⟩ := I.cell y c' e
        exact ⟨w2, z2.sameBut hs hcc⟩
    · obtain ⟨e, n, ne, nf, d⟩ := I.pin p hp
      refine ⟨(hs.2 p.1 ?_).trans e, n, ne, nf, d⟩
      intro q
      rw [q, hoc] at e
      have q' : oc = p.2 := Option.some.inj e
      exact d w' (by rw [← q']; exact hocd)
theorem store_ok {M : Model} {A : Around} {E : Value → Shared → Prop} {i : Nat} {x : Str} {v : V} {u : Value} {Q : Unit → Shared → Prop} (I : Inv X pins σ H s) (hN : X.N.Nodup) (hi : X.N[i]? = some x) (hx : Loc X.env.scope x) (r : RelV v u)
    (h : ∀ s', Inv X pins (σ.set i (some v)) H s' → Q () s') (hf : X.fn x = true ∨ X.env.scope.names.lookup x = some .local := by first | exact .inl rfl | exact .inr rfl | assumption) : wpAny M A (storeName X.env x u) Q E s :=
  store_ok2 I hN hi hx r (fun s' I' _ => h s' I') hf
theorem Inv.call' {s' : Shared} {ch : List Addr} (I : Inv X pins σ H s) (ho : s'.os = s.os) (u : Un (frs X.stack) ch H H' s.heap s'.heap) (hok : HOk X.prog X.w H' s'.heap) (hg : AllBare s'.gens)
    (hch : ∀ b ∈ ch, (b ∈ X.ex ∨ X.s₀.heap.objs.size ≤ b) ∧ b ≠ X.env.locals ∧ (∀ x c, X.env.cells.lookup x = some c → c ≠ b) ∧ ∀ p ∈ X.pn ++ pins, p.1 ≠ b) : Inv X pins σ H' s' := by
  obtain ⟨h', g', d', t', o'⟩ := s'
  have e : o' = s.os := ho
  subst e
  exact I.call (g' := g') (t' := t') (d' := d') u hok hg hch
end

noncomputable abbrev XK := Value → Option Addr → Hp → Prop
noncomputable abbrev St := List (Option V)
noncomputable abbrev VK := V → Hp → Prop
noncomputable abbrev TE := St → Hp → VK → Prop
noncomputable abbrev TT := St → Hp → (Bool → Hp → Prop) → Prop
noncomputable abbrev TA := St → Hp → (List V → Hp → Prop) → Prop
structure Ends where
  nx : St → Hp → Prop
  rt : VK
  bk : St → Hp → Prop := fun _ _ => False
  ct : St → Hp → Prop := fun _ _ => False
noncomputable abbrev TS := Ends → St → Hp → Prop

noncomputable def EP (X : Cx) (pins : List (Addr × Obj)) (σ : St) (Q : VK) (u : Value) (s' : Shared) : Prop := ∃ v H', Inv X pins σ H' s' ∧ RelV v u ∧ Q v H'
noncomputable def TP (X : Cx) (pins : List (Addr × Obj)) (σ : St) (Q : Bool → Hp → Prop) (b : Bool) (s' : Shared) : Prop := ∃ H', Inv X pins σ H' s' ∧ Q b H'
noncomputable def AP (X : Cx) (pins : List (Addr × Obj)) (σ : St) (Q : List V → Hp → Prop) (us : List Value) (s' : Shared) : Prop := ∃ vs H', Inv X pins σ H' s' ∧ Vals vs us ∧ Q vs H'
noncomputable def SP (X : Cx) (pins : List (Addr × Obj)) (D : Ends) (f : Flow) (s' : Shared) : Prop :=
  match f with
  | .next => ∃ σ' H', Inv X pins σ' H' s' ∧ D.nx σ' H'
  | .brk => ∃ σ' H', Inv X pins σ' H' s' ∧ D.bk σ' H'
  | .cont => ∃ σ' H', Inv X pins σ' H' s' ∧ D.ct σ' H'
  | .ret u => ∃ v σ' H', Inv X pins σ' H' s' ∧ RelV v u ∧ D.rt v H'

noncomputable def PE (X : Cx) (e : Expr) (t : TE) : Prop :=
  ∀ (pins : List (Addr × Obj)) (s : Shared) (σ : St) (H : Hp) (Q : VK), Inv X pins σ H s → t σ H Q → wpAny (model X.prog X.w) X.A (eval e X.env) (EP X pins σ Q) X.xe s
noncomputable def PT (X : Cx) (e : Expr) (t : TT) : Prop :=
  ∀ (pins : List (Addr × Obj)) (s : Shared) (σ : St) (H : Hp) (Q : Bool → Hp → Prop), Inv X pins σ H s → t σ H Q → wpAny (model X.prog X.w) X.A (isTrue e X.env (eval e X.env)) (TP X pins σ Q) X.xe s
noncomputable def PW (X : Cx) (e : Expr) (t : TT) : Prop :=
  ∀ (whole : Sem Value) (pins : List (Addr × Obj)) (s : Shared) (σ : St) (H : Hp) (Q : Bool → Hp → Prop), Inv X pins σ H s → t σ H Q → wpAny (model X.prog X.w) X.A (isTrue e X.env whole) (TP X pins σ Q) X.xe s
theorem PW.pt {X : Cx} {e : Expr} {t : TT} (h : PW X e t) : PT X e t := h _
noncomputable def PA (X : Cx) (es : List Expr) (t : TA) : Prop :=
  ∀ (pos : Pos) (pins : List (Addr × Obj)) (s : Shared) (σ : St) (H : Hp) (Q : List V → Hp → Prop), Inv X pins σ H s → t σ H Q → wpAny (model X.prog X.w) X.A (spliced (backTo pos (starEach es X.env))) (AP X pins σ Q) X.xe s
noncomputable def PS (X : Cx) (st : Stmt) (t : TS) : Prop :=
  ∀ (pins : List (Addr × Obj)) (s : Shared) (σ : St) (H : Hp) (D : Ends), Inv X pins σ H s → t D σ H → wpAny (model X.prog X.w) X.A (exec st X.env) (SP X pins D) X.xe s
noncomputable def PSs (X : Cx) (st : List Stmt) (t : TS) : Prop :=
  ∀ (pins : List (Addr × Obj)) (s : Shared) (σ : St) (H : Hp) (D : Ends), Inv X pins σ H s → t D σ H → wpAny (model X.prog X.w) X.A (execs st X.env) (SP X pins D) X.xe s
theorem thn {α : Type} {t : Sem α} {Q Q' : α → Shared → Prop} {M : Model} {A : Around} {E : Value → Shared → Prop} {s : Shared} (h : wpAny M A t Q E s) (hQ : ∀ a s, Q a s → Q' a s) : wpAny M A t Q' E s := wpAny_mono h hQ fun _ _ x => x
end L2

namespace L2
open PySem PySem.Spec PyProof.Rows
section
variable {X : Cx}

noncomputable def tVar (i : Nat) : TE := fun σ H Q => ∃ v, σ[i]? = some (some v) ∧ Q v H
noncomputable def tC (v : V) : TE := fun _ H Q => Q v H
theorem pe_var {i : Nat} {x : Str} {pos : Pos} (hN : X.N[i]? = some x) (hv : Vis X.env.scope x) (hd : (x == ("__debug__" : Str)) = false := by decide) (hcd : (x == ("__classdict__" : Str)) = false := by decide) : PE X (.Name x pos) (tVar i) := by
  intro pins s σ H Q I h
  obtain ⟨v, e, h⟩ := h
  obtain ⟨m, hn, hl⟩ := I.loc
  obtain ⟨u, r, l⟩ := hl i x v hN e hv
  have fin : EP X pins σ Q u s := ⟨v, H, I, r, h⟩
  rcases l with ⟨hk, hm⟩ | ⟨hk, c, hc, hcell⟩
  · exact wpAny_Name (wpAny_loadName_local I.ok.kind hk hn hm fin) hd
  · rcases hk with hk | hk
    · exact wpAny_Name (wpAny_loadName_cell I.ok.kind hk hc hcell fin) hd
    · exact wpAny_Name (wpAny_loadName_free I.ok.kind hk hc hcell fin hcd) hd
theorem pe_int {i j pos} : PE X (.Constant (.int i) j pos) (tC (.int i)) := fun _ _ _ H _ I h => wpAny_Constant_int ⟨.int i, H, I.tok _, ⟨_, rfl⟩, h⟩
theorem pe_bl {b j pos} : PE X (.Constant (.bool b) j pos) (tC (.bl b)) := fun _ _ _ H _ I h => Constant_bool ⟨.bl b, H, I, rfl, h⟩
theorem pe_str {x j pos} : PE X (.Constant (.str x) j pos) (tC (.str x)) := fun _ _ _ H _ I h => Calls.Constant_str ⟨.str x, H, I.tok _, ⟨_, rfl⟩, h⟩

noncomputable def Gl (X : Cx) (x : Str) : Prop := X.env.kindOf x = some .globalImplicit
theorem ld_glob {E : Value → Shared → Prop} {pins : List (Addr × Obj)} {s : Shared} {σ : St} {H : Hp} {x : Str} {u : Value} {pos : Pos} {Q : Value → Shared → Prop} (I : Inv X pins σ H s) (hg : Gl X x) (hm : X.mg x = some u) (h : Q u s)
    (hd : (x == ("__debug__" : Str)) = false := by decide) : wpAny (model X.prog X.w) X.A (eval (.Name x pos) X.env) Q E s :=
  Calls.Name_function_global I.ok.kind hg (Calls.loadGlobal_global (by rw [I.ok.glob]; exact I.mod.glob.keeps I.bk) hm h) hd
theorem ld_blt {E : Value → Shared → Prop} {pins : List (Addr × Obj)} {s : Shared} {σ : St} {H : Hp} {x : Str} {u : Value} {pos : Pos} {Q : Value → Shared → Prop} (I : Inv X pins σ H s) (hg : Gl X x) (hm : X.mg x = none) (hv : bootBuiltins x = some u) (h : Q u s)
    (hn : x ≠ "__name__" := by decide) (hd : (x == ("__debug__" : Str)) = false := by decide) : wpAny (model X.prog X.w) X.A (eval (.Name x pos) X.env) Q E s := by
  obtain ⟨mb, h1, h2⟩ := I.mod.blt
  exact Calls.Name_function_global I.ok.kind hg (Calls.loadGlobal_builtin (by rw [I.ok.glob]; exact I.mod.glob.keeps I.bk) hm (by rw [I.ok.blt]; exact h1.keeps I.bk) ((h2 x hn).trans hv) h) hd
theorem pe_glob {x : Str} {v : V} {u : Value} {pos : Pos} (hg : Gl X x) (hm : X.mg x = some u) (r : RelV v u) (hd : (x == ("__debug__" : Str)) = false := by decide) : PE X (.Name x pos) (tC v) :=
  fun _ _ _ H _ I h => ld_glob I hg hm ⟨v, H, I, r, h⟩ hd
theorem pe_bltn {x : Str} {v : V} {u : Value} {pos : Pos} (hg : Gl X x) (hm : X.mg x = none) (hv : bootBuiltins x = some u) (r : RelV v u) (hn : x ≠ "__name__" := by decide) (hd : (x == ("__debug__" : Str)) = false := by decide) : PE X (.Name x pos) (tC v) :=
  fun _ _ _ H _ I h => ld_blt I hg hm hv ⟨v, H, I, r, h⟩ hn hd

variable {a b : Expr} {ta tb : TE} {pos : Pos}
noncomputable def tB (t : TE) : TT := fun σ H Q => t σ H fun x H1 => ∃ c, x = .bl c ∧ Q c H1
theorem pt_val {e : Expr} {t : TE} (h : PE X e t) (he : ∀ whole, isTrue e X.env whole = (do let v ← whole; standAt e.pos; holding [v] (truthy v)) := by intro _; rfl) : PT X e (tB t) := by
  intro pins s σ H Q I hw
  refine isTrue_plain (thn (h pins s σ H _ I hw) fun v s1 ⟨x, H1, I1, r1, q1⟩ => ?_) (he _)
  obtain ⟨d, rfl, q⟩ := q1
  cases r1
  exact wpAny_truthy_bool ⟨H1, I1, q⟩

variable {tA tB' : TT} {rest : List Expr}
noncomputable def tAnd (t u : TT) : TT := fun σ H Q => t σ H fun c H1 => if c = true then u σ H1 Q else Q false H1
noncomputable def tOr (t u : TT) : TT := fun σ H Q => t σ H fun c H1 => if c = true then Q true H1 else u σ H1 Q
noncomputable def tNot (t : TT) : TT := fun σ H Q => t σ H fun c H1 => Q (!c) H1
theorem pw_or1 (ha : PT X a tA) : PW X (.BoolOp .Or [a] pos) tA := by
  intro wh pins s σ H Q I h
  refine isTrue_or (thn (ha pins s σ H Q I h) fun c s1 e => ?_)
  cases c with
  | false => exact isTrue_or_nil e
  | true => exact e
theorem pw_or (ha : PT X a tA) (hb : PW X (.BoolOp .Or (b :: rest) pos) tB') : PW X (.BoolOp .Or (a :: b :: rest) pos) (tOr tA tB') := by
  intro wh pins s σ H Q I h
  refine isTrue_or (thn (ha pins s σ H _ I h) fun c s1 ⟨H1, I1, q1⟩ => ?_)
  cases c with
  | true => exact ⟨H1, I1, q1⟩
  | false => exact hb wh pins s1 σ H1 Q I1 q1
theorem pt_not (ha : PT X a tA) : PT X (.UnaryOp .Not a pos) (tNot tA) := by
  intro pins s σ H Q I h
  exact isTrue_not (ha pins s σ H (fun c H1 => Q (!c) H1) I h)
noncomputable def tAndV (ta tb : TE) : TE := fun σ H Q => ta σ H fun x H1 => ∃ c, x = .bl c ∧ if c = true then tb σ H1 Q else Q (.bl false) H1
noncomputable def tOrV (ta tb : TE) : TE := fun σ H Q => ta σ H fun x H1 => ∃ c, x = .bl c ∧ if c = true then Q (.bl true) H1 else tb σ H1 Q
noncomputable def tNotV (ta : TE) : TE := fun σ H Q => ta σ H fun x H1 => ∃ c, x = .bl c ∧ Q (.bl (!c)) H1
theorem pe_one {op} {t : TE} (h : PE X a t) : PE X (.BoolOp op [a] pos) t := fun pins s σ H Q I hw => BoolOp_one (h pins s σ H Q I hw)
theorem pe_and (ha : PE X a ta) (hb : PE X (.BoolOp .And (b :: rest) pos) tb) : PE X (.BoolOp .And (a :: b :: rest) pos) (tAndV ta tb) := by
  intro pins s σ H Q I h
  refine BoolOp_and (thn (ha pins s σ H _ I h) fun v s1 ⟨x, H1, I1, r1, q1⟩ => ?_)
  obtain ⟨c, rfl, q1⟩ := q1
  cases r1
  refine wpAny_truthy_bool ?_
  cases c with
  | true => exact hb pins s1 σ H1 Q I1 q1
  | false => exact ⟨.bl false, H1, I1, rfl, q1⟩
theorem pe_not (ha : PE X a ta) : PE X (.UnaryOp .Not a pos) (tNotV ta) := by
  intro pins s σ H Q I h
  refine UnaryOp_ (thn (ha pins s σ H _ I h) fun v s1 ⟨x, H1, I1, r1, q1⟩ => ?_)
  obtain ⟨c, rfl, q1⟩ := q1
  cases r1
  exact not_of (wpAny_truthy_bool ⟨.bl (!c), H1, I1, rfl, q1⟩)
noncomputable def tIf (t : TT) (ta tb : TE) : TE := fun σ H Q => t σ H fun c H1 => if c = true then ta σ H1 Q else tb σ H1 Q
end
end L2

namespace L2
open PySem PySem.Spec PyProof.Rows

noncomputable def SqL (K : PySem.W.Frag) (H : Hp) (a : Addr) (xs : List V) : Prop :=
  Rd H a (.lst xs) ∨
    ∃ (o : Obj) (its : Array Value) (n : Nat), K.lookup a = some o ∧ o.cls = .type "list" ∧ o.dict = none ∧ o.data = .seq its n ∧ its.size ≤ sizeLine ∧ Vals xs its.toList
noncomputable def SqT (K : PySem.W.Frag) (H : Hp) (a : Addr) (xs : List V) : Prop :=
  Rd H a (.tup xs) ∨
    ∃ (o : Obj) (its : Array Value) (n : Nat), K.lookup a = some o ∧ o.cls = .type "tuple" ∧ o.data = .seq its n ∧ its.size ≤ sizeLine ∧ Vals xs its.toList
noncomputable def absV : Value → Option V
  | .none => some .non
  | .bool b => some (.bl b)
  | .int i _ => some (.int i)
  | .str x _ => some (.str x)
  | .bytes b _ => some (.byt b)
  | .float b _ => some (.flt b)
  | .ref a => some (.ref a)
  | .type n => some (.ty n)
  | _ => none
theorem RelV.abs {x : V} {u : Value} (r : RelV x u) : absV u = some x := by
  cases x with
  | non => cases r; rfl
  | bl _ => cases r; rfl
  | int _ => obtain ⟨t, rfl⟩ := r; rfl
  | str _ => obtain ⟨t, rfl⟩ := r; rfl
  | byt _ => obtain ⟨t, rfl⟩ := r; rfl
  | flt _ => obtain ⟨t, rfl⟩ := r; rfl
  | ref _ => cases r; rfl
  | ty _ => cases r; rfl
theorem RelV.inj {x y : V} {u : Value} (r : RelV x u) (q : RelV y u) : x = y := Option.some.inj (r.abs.symm.trans q.abs)
theorem Vals.inj : ∀ {xs ys : List V} {us : List Value}, Vals xs us → Vals ys us → xs = ys
  | _, _, _, .nil, .nil => rfl
  | _, _, _, .cons r t, .cons r' t' => by rw [r.inj r', Vals.inj t t']
section
variable {X : Cx} {pins : List (Addr × Obj)} {σ : St} {H : Hp} {s : Shared} {a : Addr} {xs ys : List V}
theorem SqL.of {K : PySem.W.Frag} (h : H a = some (.lst xs)) : SqL K H a xs := .inl (.inl h)
theorem SqT.of {K : PySem.W.Frag} (h : H a = some (.tup xs)) : SqT K H a xs := .inl (.inl h)
theorem Inv.list (I : Inv X pins σ H s) (h : SqL X.K H a xs) : ∃ its : List Value, Vals xs its ∧ PlainL s.heap a its.toArray ∧ xs.length ≤ sizeLine := by
  rcases h with h | ⟨o, its, n, hk, hc, hd, hs, hz, r⟩
  · obtain ⟨z, its, n, r, e⟩ := h.ok I.hok
    exact ⟨its, r, ⟨_, n, e, rfl, rfl, rfl⟩, z⟩
  · refine ⟨its.toList, r, ⟨o, n, I.kIn a o hk, hc, hd, by simpa using hs⟩, ?_⟩
    have e := r.length
    simp only [Array.length_toList] at e
    omega
theorem Inv.tuple (I : Inv X pins σ H s) (h : SqT X.K H a xs) : ∃ its : List Value, Vals xs its ∧ IsTup s.heap a its.toArray ∧ xs.length ≤ sizeLine := by
  rcases h with h | ⟨o, its, n, hk, hc, hs, hz, r⟩
  · obtain ⟨z, its, r, p⟩ := h.ok I.hok
    exact ⟨its, r, p, z⟩
  · refine ⟨its.toList, r, ⟨o, I.kIn a o hk, hc, n, by simpa using hs⟩, ?_⟩
    have e := r.length
    simp only [Array.length_toList] at e
    omega
theorem Inv.list_inj (I : Inv X pins σ H s) (h : SqL X.K H a xs) (h' : SqL X.K H a ys) : xs = ys := by
  obtain ⟨its, r, ⟨o, n, e, _, _, d⟩, _⟩ := I.list h
  obtain ⟨its', r', ⟨o', n', e', _, _, d'⟩, _⟩ := I.list h'
  rw [e] at e'; cases e'
  rw [d] at d'
  injection d' with d1 _
  have : its = its' := by simpa using congrArg Array.toList d1
  subst this
  exact r.inj r'
end

noncomputable abbrev Cx.wish (X : Cx) (E : Value → Shared → Prop) : Cx := { X with xe := E }
noncomputable abbrev Cx.nox (X : Cx) : Cx := X.wish fun _ _ => False
theorem Cx.Ok.wish {X : Cx} (ok : X.Ok) (E : Value → Shared → Prop) : (X.wish E).Ok :=
  ⟨ok.mod, ok.kind, ok.glob, ok.blt, ok.above, ok.inj, ok.has, ok.cab, ok.hd, ok.frames, ok.stk, ok.exf, ok.bs, ok.bsz, ok.noex, ok.exfs, ok.funs, ok.frf⟩
theorem Cx.Ok.unwish {X : Cx} {E : Value → Shared → Prop} (ok : (X.wish E).Ok) : X.Ok :=
  ⟨ok.mod, ok.kind, ok.glob, ok.blt, ok.above, ok.inj, ok.has, ok.cab, ok.hd, ok.frames, ok.stk, ok.exf, ok.bs, ok.bsz, ok.noex, ok.exfs, ok.funs, ok.frf⟩
section
variable {X : Cx} {pins : List (Addr × Obj)} {σ : St} {H : Hp} {s : Shared} {E : Value → Shared → Prop}
theorem Inv.wish (I : Inv X pins σ H s) (E : Value → Shared → Prop) : Inv (X.wish E) pins σ H s := ⟨I.ok.wish E, I.os, I.bare, I.base, I.loc, I.cell, I.free, I.freeC, I.pin, I.hok, I.len⟩
theorem Inv.unwish (I : Inv (X.wish E) pins σ H s) : Inv X pins σ H s := ⟨I.ok.unwish, I.os, I.bare, I.base, I.loc, I.cell, I.free, I.freeC, I.pin, I.hok, I.len⟩
theorem SP.unwish {D : Ends} {f : Flow} {s' : Shared} (h : SP (X.wish E) pins D f s') : SP X pins D f s' := by
  cases f with
  | next => obtain ⟨σ', H', I, q⟩ := h; exact ⟨σ', H', I.unwish, q⟩
  | brk => obtain ⟨σ', H', I, q⟩ := h; exact ⟨σ', H', I.unwish, q⟩
  | cont => obtain ⟨σ', H', I, q⟩ := h; exact ⟨σ', H', I.unwish, q⟩
  | ret u => obtain ⟨v, σ', H', I, r, q⟩ := h; exact ⟨v, σ', H', I.unwish, r, q⟩
theorem PE.nox {e : Expr} {t : TE} (h : PE X.nox e t) : PE X e t := fun pins s σ H Q I hw =>
  wpAny_mono (h pins s σ H Q (I.wish _) hw) (fun _ _ ⟨v, H', I', r, q⟩ => ⟨v, H', I'.unwish, r, q⟩) fun _ _ z => False.elim z
theorem PT.nox {e : Expr} {t : TT} (h : PT X.nox e t) : PT X e t := fun pins s σ H Q I hw =>
  wpAny_mono (h pins s σ H Q (I.wish _) hw) (fun _ _ ⟨H', I', q⟩ => ⟨H', I'.unwish, q⟩) fun _ _ z => False.elim z
theorem PSs.nox {st : List Stmt} {t : TS} (h : PSs X.nox st t) : PSs X st t := fun pins s σ H D I hw =>
  wpAny_mono (h pins s σ H D (I.wish _) hw) (fun _ _ q => q.unwish) fun _ _ z => False.elim z
end

section
variable {X : Cx} {st : Stmt} {rest : List Stmt} {t u : TS} {e : Expr} {te : TE} {pos : Pos}
noncomputable def tNext : TS := fun D σ H => D.nx σ H
noncomputable def tSeq (t u : TS) : TS := fun D σ H => t { D with nx := u D } σ H
theorem pss_nil : PSs X [] tNext := fun _ _ σ H _ I h => wpAny_execs_nil ⟨σ, H, I, h⟩
theorem pss_cons (h1 : PS X st t) (h2 : PSs X rest u) : PSs X (st :: rest) (tSeq t u) := by
  intro pins s σ H D I h
  refine wpAny_execs_cons (thn (h1 pins s σ H { D with nx := u D } I h) fun f s1 q => ?_)
  cases f with
  | next =>
    obtain ⟨σ', H', I', q⟩ := q
    exact h2 pins s1 σ' H' D I' q
  | ret v => exact q
  | brk => exact q
  | cont => exact q
theorem pss_one (h1 : PS X st t) : PSs X [st] t := by
  intro pins s σ H D I h
  refine wpAny_execs_cons (thn (h1 pins s σ H D I h) fun f s1 q => ?_)
  cases f with
  | next => exact wpAny_execs_nil q
  | ret v => exact q
  | brk => exact q
  | cont => exact q
theorem Inv.quiet {pins : List (Addr × Obj)} {σ : St} {H : Hp} {s : Shared} (I : Inv X pins σ H s) : interactive X.env = false := by simp [interactive, I.ok.kind]
noncomputable def tDrop (te : TE) : TS := fun D σ H => te σ H fun _ H1 => D.nx σ H1
theorem ps_expr (he : PE X e te) (hs : swapsWith e none pos.line X.env = pure false := by rfl) : PS X (.Expr e pos) (tDrop te) := by
  intro pins s σ H D I h
  exact wpAny_Expr_any (thn (he pins s σ H _ I h) fun v s1 ⟨x, H1, I1, r1, q1⟩ => ⟨σ, H1, I1, q1⟩) I.quiet hs
noncomputable def tRet (te : TE) : TS := fun D σ H => te σ H D.rt
theorem ps_ret (he : PE X e te) : PS X (.Return (some e) pos) (tRet te) := by
  intro pins s σ H D I h
  exact wpAny_Return_some (thn (he pins s σ H _ I h) fun v s1 ⟨x, H1, I1, r1, q1⟩ => ⟨x, σ, H1, I1, r1, q1⟩)
noncomputable def tRetN : TS := fun D _ H => D.rt .non H
noncomputable def tIfS (c : TT) (t u : TS) : TS := fun D σ H => c σ H fun b H1 => if b = true then t D σ H1 else u D σ H1
theorem ps_if {c : Expr} {a b : List Stmt} {tc : TT} (hc : PT X c tc) (ha : PSs X a t) (hb : PSs X b u) : PS X (.If c a b pos) (tIfS tc t u) := by
  intro pins s σ H D I h
  refine wpAny_If (thn (hc pins s σ H _ I h) fun d s1 ⟨H1, I1, q1⟩ => ?_)
  cases d with
  | true => exact ha pins s1 σ H1 D I1 q1
  | false => exact hb pins s1 σ H1 D I1 q1
end

noncomputable abbrev TG := V → St → Hp → (St → Hp → Prop) → Prop
noncomputable abbrev TGs := List V → St → Hp → (St → Hp → Prop) → Prop
noncomputable def PG (X : Cx) (target : Expr) (t : TG) : Prop :=
  ∀ (pins : List (Addr × Obj)) (s : Shared) (σ : St) (H : Hp) (v : V) (u : Value) (Q : St → Hp → Prop), Inv X pins σ H s → RelV v u → t v σ H Q →
    wpAny (model X.prog X.w) X.A (assign target X.env u) (fun _ s' => ∃ σ' H', Inv X pins σ' H' s' ∧ Q σ' H') X.xe s
noncomputable def PGs (X : Cx) (ts : List Expr) (t : TGs) : Prop :=
  ∀ (pins : List (Addr × Obj)) (s : Shared) (σ : St) (H : Hp) (vs : List V) (us : List Value) (Q : St → Hp → Prop), Inv X pins σ H s → Vals vs us → t vs σ H Q →
    wpAny (model X.prog X.w) X.A (assignInOrder ((assignEach ts X.env).map (·.2)) us) (fun _ s' => ∃ σ' H', Inv X pins σ' H' s' ∧ Q σ' H') X.xe s
noncomputable abbrev TSet := V → V → V → Hp → (Hp → Prop) → Prop
noncomputable def PSet (X : Cx) (t : TSet) : Prop :=
  ∀ (pins : List (Addr × Obj)) (s : Shared) (σ : St) (H : Hp) (o i v : V) (ov iv u : Value) (Q : Hp → Prop), Inv X pins σ H s → RelV o ov → RelV i iv → RelV v u → t o i v H Q →
    wpAny (model X.prog X.w) X.A (setItem ov iv u) (fun _ s' => ∃ H', Inv X pins σ H' s' ∧ Q H') X.xe s
noncomputable abbrev TIp := V → V → Hp → VK → Prop
noncomputable def PIp (X : Cx) (op : Operator) (t : TIp) : Prop :=
  ∀ (pins : List (Addr × Obj)) (s : Shared) (σ : St) (H : Hp) (x y : V) (v u : Value) (Q : VK), Inv X pins σ H s → RelV x v → RelV y u → t x y H Q →
    wpAny (model X.prog X.w) X.A (inplaceOp op v u) (EP X pins σ Q) X.xe s
section
variable {X : Cx} {pos : Pos}
noncomputable def gName (i : Nat) : TG := fun v σ H Q => Q (σ.set i (some v)) H
theorem pg_name {i : Nat} {x : Str} (hN : X.N.Nodup) (hi : X.N[i]? = some x) (hx : Loc X.env.scope x) (hf : X.fn x = true ∨ X.env.scope.names.lookup x = some .local := by first | exact .inl rfl | exact .inr rfl | assumption) : PG X (.Name x pos) (gName i) := by
  intro pins s σ H v u Q I r h
  exact wpAny_assign_Name (store_ok I hN hi hx r (fun s' I' => ⟨_, H, I', h⟩) hf)
noncomputable def gNil : TGs := fun vs σ H Q => vs = [] ∧ Q σ H
noncomputable def gCons (t : TG) (u : TGs) : TGs := fun vs σ H Q => ∃ v r, vs = v :: r ∧ t v σ H fun σ' H' => u r σ' H' Q
theorem pgs_nil : PGs X [] gNil := by
  intro pins s σ H vs us Q I r h
  obtain ⟨e, h⟩ := h
  subst e
  cases r
  exact assignInOrder_nil ⟨σ, H, I, h⟩
theorem pgs_cons {e : Expr} {es : List Expr} {t : TG} {u : TGs} (h1 : PG X e t) (h2 : PGs X es u)
    (hs : (assignEach (e :: es) X.env).map (·.2) = assign e X.env :: (assignEach es X.env).map (·.2) := by rfl) : PGs X (e :: es) (gCons t u) := by
  intro pins s σ H vs us Q I r h
  obtain ⟨v, vr, e1, h⟩ := h
  subst e1
  cases r with
  | cons r rr =>
    rw [hs]
    refine assignInOrder_cons (thn (h1 pins s σ H _ _ _ I r h) fun _ s1 ⟨σ1, H1, I1, q1⟩ => ?_)
    exact h2 pins s1 σ1 H1 _ _ Q I1 rr q1
noncomputable def gTup (K : PySem.W.Frag) (n : Nat) (t : TGs) : TG := fun v σ H Q => ∃ a xs, v = .ref a ∧ SqT K H a xs ∧ xs.length = n ∧ t xs σ H Q
theorem pg_tup {es : List Expr} {k : Nat} {t : TGs} {n : Nat} (hc : X.calm = true) (h : PGs X es t)
    (hn : (assignEach es X.env).length = n := by rfl) (hst : (assignEach es X.env).findIdx? (·.1) = none := by rfl) : PG X (.Tuple es k pos) (gTup X.K n t) := by
  intro pins s σ H v u Q I r hw
  obtain ⟨a, xs, e1, hq, hl, hw⟩ := hw
  subst e1
  cases r
  obtain ⟨its, rv, ht, hz⟩ := I.tuple hq
  refine assign_Tuple_tuple (I.ok.hd hc) ht (by simp [hn, ← hl, rv.length]) hst fun h' hx => ?_
  have I1 : Inv X pins σ H { s with heap := h' } := I.kept (t' := s.toks) fun b o e => hx b o (Nat.ne_of_lt (Heap.lt_size e)) e
  exact h pins _ σ H xs _ Q I1 (by simpa using rv) hw
noncomputable def gSub (to ti : TE) (t : TSet) : TG := fun v σ H Q => to σ H fun o H1 => ti σ H1 fun i H2 => t o i v H2 fun H3 => Q σ H3
theorem pg_sub {o i : Expr} {to ti : TE} {t : TSet} (ho : PE X o to) (hi : PE X i ti) (hs : PSet X t)
    (ha : ∀ v, assign (.Subscript o i pos) X.env v = (do
      let ov ← holding [v] (eval o X.env)
      let iv ← holding [v, ov] (eval i X.env)
      standAt pos
      holding [v, ov, iv] (setItem ov iv v)
      release [v, ov, iv] []) := by intro _; rfl) : PG X (.Subscript o i pos) (gSub to ti t) := by
  intro pins s σ H v u Q I r h
  rw [ha]
  refine wpAny_bind (wpAny_holding (thn (ho pins s σ H _ I h) fun ov s1 ⟨x, H1, I1, r1, q1⟩ => ?_))
  refine wpAny_bind (wpAny_holding (thn (hi pins s1 σ H1 _ I1 q1) fun iv s2 ⟨y, H2, I2, r2, q2⟩ => ?_))
  refine wpAny_bind (wpAny_standAt (wpAny_bind (wpAny_holding (thn (hs pins s2 σ H2 x y v ov iv u _ I2 r1 r2 r q2) fun _ s3 ⟨H3, I3, q3⟩ => ?_))))
  exact wpAny_release ⟨σ, H3, I3, q3⟩
noncomputable def tAsg (te : TE) (g : TG) : TS := fun D σ H => te σ H fun x H1 => g x σ H1 D.nx
theorem ps_asg {tg e : Expr} {te : TE} {g : TG} (he : PE X e te) (hg : PG X tg g) (hs : swapsWithSole [tg] e pos.line X.env = pure false := by rfl) (hw : swappedStores [tg] e X.env = pure none := by rfl)
    (h1 : (assignEach [tg] X.env).map (·.2) = [assign tg X.env] := by rfl) : PS X (.Assign [tg] e pos) (tAsg te g) := by
  intro pins s σ H D I h
  refine wpAny_Assign_stores (thn (he pins s σ H _ I h) fun v s1 ⟨x, H1, I1, r1, q1⟩ => ?_) hs hw
  rw [h1]
  exact thn (hg pins s1 σ H1 x v _ I1 r1 q1) fun _ s2 q => q
theorem ps_set {i : Nat} {x : Str} {e : Expr} {te : TE} {pos' : Pos} (hN : X.N.Nodup) (hi : X.N[i]? = some x) (hx : Loc X.env.scope x) (he : PE X e te) (hs : swapsWith e (some (.Name x pos')) pos.line X.env = pure false := by rfl) (hf : X.fn x = true ∨ X.env.scope.names.lookup x = some .local := by first | exact .inl rfl | exact .inr rfl | assumption) :
    PS X (.Assign [.Name x pos'] e pos) (tAsg te (gName i)) := by
  intro pins s σ H D I h
  refine wpAny_Assign_Name (thn (he pins s σ H _ I h) fun v s1 ⟨y, H1, I1, r1, q1⟩ => ?_) hs
  exact store_ok I1 hN hi hx r1 (fun s2 I2 => ⟨_, H1, I2, q1⟩) hf
noncomputable def tAug (i : Nat) (te : TE) (ti : TIp) : TS := fun D σ H => ∃ x, σ[i]? = some (some x) ∧ te σ H fun y H1 => ti x y H1 fun z H2 => D.nx (σ.set i (some z)) H2
theorem ps_aug {i : Nat} {x : Str} {e : Expr} {te : TE} {op : Operator} {ti : TIp} {pos' : Pos} (hN : X.N.Nodup) (hi : X.N[i]? = some x) (hx : Loc X.env.scope x) (he : PE X e te) (ho : PIp X op ti) (hf : X.fn x = true ∨ X.env.scope.names.lookup x = some .local := by first | exact .inl rfl | exact .inr rfl | assumption) :
    PS X (.AugAssign (.Name x pos') op e pos) (tAug i te ti) := by
  intro pins s σ H D I h
  obtain ⟨v, e1, h⟩ := h
  obtain ⟨m, hn, hl⟩ := I.loc
  have vis : Vis X.env.scope x := by rcases hx with k | k; exact .inl k; exact .inr (.inl k)
  obtain ⟨u, r, l⟩ := hl i x v hi e1 vis
  refine wpAny_AugAssign_Name ?_
  have go : wpAny (model X.prog X.w) X.A (eval e X.env) (fun w s₂ => wpAny (model X.prog X.w) X.A (inplaceOp op u w) (fun r s₃ => wpAny (model X.prog X.w) X.A (storeName X.env x r) (fun _ => SP X pins D .next) X.xe s₃) X.xe s₂) X.xe s := by
    refine thn (he pins s σ H _ I h) fun w s1 ⟨y, H1, I1, r1, q1⟩ => ?_
    refine thn (ho pins s1 σ H1 v y u w _ I1 r r1 q1) fun z s2 ⟨zv, H2, I2, r2, q2⟩ => ?_
    exact store_ok I2 hN hi hx r2 (fun s3 I3 => ⟨_, H2, I3, q2⟩) hf
  rcases l with ⟨hk, hm⟩ | ⟨hk, c, hc, hcell⟩
  · exact wpAny_loadName_local I.ok.kind hk hn hm go
  · rcases hk with hk | hk
    · exact wpAny_loadName_cell I.ok.kind hk hc hcell go
    · rcases hx with k | k
      · have : X.env.scope.names.lookup x = some .free := hk
        rw [k] at this; cases this
      · have : X.env.scope.names.lookup x = some .free := hk
        rw [k] at this; cases this
noncomputable def ipI (f : Int → Int → Int) : TIp := fun x y H Q => ∃ i j, x = .int i ∧ y = .int j ∧ Q (.int (f i j)) H
theorem ip_add : PIp X .Add (ipI fun i j => i + j) := by
  intro pins s σ H x y v u Q I r1 r2 h
  obtain ⟨i, j, e1, e2, q⟩ := h
  subst e1; subst e2
  obtain ⟨t, rfl⟩ := r1
  obtain ⟨t', rfl⟩ := r2
  exact iadd_int ⟨.int _, H, I.tok _, ⟨_, rfl⟩, q⟩
end

section
variable {X : Cx} {pos : Pos}
noncomputable def tWhile (c : TT) (tb : TS) : TS := fun D σ H => ∃ W : Nat → St → Hp → Prop, (∃ m, W m σ H) ∧ ∀ m σ H, W m σ H →
  c σ H fun b H1 => if b = true then ∃ N : St → Hp → Prop, (∀ σ' H', N σ' H' → ∃ m', m' < m ∧ W m' σ' H') ∧ tb { D with nx := N, ct := N, bk := D.nx } σ H1 else D.nx σ H1
theorem ps_while {c : Expr} {body : List Stmt} {tc : TT} {tb : TS} (hp : PassesOwn (model X.prog X.w) X.A X.env X.xe) (hc : PT X c tc) (hb : PSs X body tb) : PS X (.While c body [] pos) (tWhile tc tb) := by
  intro pins s σ H D I h
  obtain ⟨W, ⟨m0, w0⟩, turn⟩ := h
  refine wpAny_While (codeAny_whileLoop (fun n s' => ∃ σ' H', Inv X pins σ' H' s' ∧ W n σ' H') ?_ m0 ⟨σ, H, I, w0⟩)
  rintro n s1 ⟨σ1, H1, I1, w1⟩
  refine wpAny_passesOwn hp (thn (hc pins s1 σ1 H1 _ I1 (turn n σ1 H1 w1)) fun b s2 ⟨H2, I2, q2⟩ => ?_)
  cases b with
  | true =>
    obtain ⟨N, hN, q2⟩ := q2
    rw [if_pos rfl]
    refine wpAny_passesOwn hp (thn (hb pins s2 σ1 H2 _ I2 q2) fun f s3 q3 => ?_)
    cases f with
    | next =>
      obtain ⟨σ3, H3, I3, n3⟩ := q3
      obtain ⟨m', hm, w3⟩ := hN σ3 H3 n3
      exact ⟨m', hm, σ3, H3, I3, w3⟩
    | cont =>
      obtain ⟨σ3, H3, I3, n3⟩ := q3
      obtain ⟨m', hm, w3⟩ := hN σ3 H3 n3
      exact ⟨m', hm, σ3, H3, I3, w3⟩
    | brk => exact q3
    | ret v => exact q3
  | false =>
    rw [if_neg Bool.false_ne_true]
    exact wpAny_execs_nil ⟨σ1, H2, I2, q2⟩
end

structure It where
  go : Nat → Hp → Prop
  yld : Nat → Hp → V → Hp → Prop
  stop : Nat → Hp → Prop
noncomputable def FpOk (X : Cx) (pins : List (Addr × Obj)) (H : Hp) (b : Addr) : Prop :=
  H b = none ∧ b ≠ X.env.locals ∧ b ∉ X.fs ∧ (b ∈ X.ex ∨ X.s₀.heap.objs.size ≤ b) ∧ (∀ x c, X.env.cells.lookup x = some c → c ≠ b) ∧ ∀ p ∈ X.pn ++ pins, p.1 ≠ b
theorem Inv.fpOk {X : Cx} {pins : List (Addr × Obj)} {σ : St} {H H' : Hp} {s : Shared} {b : Addr} (I : Inv X pins σ H s) (hb : s.heap.objs.size ≤ b) (hn : H' b = none) : FpOk X pins H' b := by
  refine ⟨hn, Nat.ne_of_gt (Nat.lt_of_lt_of_le I.lt hb), I.nofs hb, .inr (Nat.le_trans I.sz hb), fun x c e z => ?_, fun p hp z => ?_⟩
  · obtain ⟨v, q⟩ := I.cell x c e
    exact absurd (Nat.lt_of_lt_of_le q.lt (by rw [z]; exact hb)) (Nat.lt_irrefl _)
  · exact absurd (Nat.lt_of_lt_of_le (Heap.lt_size (I.pin p hp).1) (by rw [z]; exact hb)) (Nat.lt_irrefl _)
structure Turn (P : Program) (w : World) (K : PySem.W.Frag) (tg : Expr) (J : It) (fp : List Addr) (it : Addr) (tn : Nat → Heap → Prop) : Prop where
  mem : it ∈ fp
  obj : ∀ i h, tn i h → ∀ b ∈ fp, ∃ o, h.get? b = some o ∧ ∀ v, o.data ≠ .cell v
  keep : ∀ i h h', tn i h → (∀ b ∈ fp, ∀ o, h.get? b = some o → h'.get? b = some o) → tn i h'
  item : ∀ (X : Cx), X.prog = P → X.w = w → X.K = K → X.calm = true → ∀ (i : Nat) (pins : List (Addr × Obj)) (s : Shared) (σ : St) (H : Hp) (E : Value → Shared → Prop), Inv X pins σ H s → (∀ b ∈ fp, FpOk X pins H b) → tn i s.heap → J.go i H →
    wpAny (model P w) X.A (pyNext (.ref it)) (fun r s1 => ∃ u, r = some u ∧
      wpAny (model P w) X.A (letOwnedTupleGo tg (.ref it) u) (fun _ s2 => ∃ x H', Inv X pins σ H' s2 ∧ RelV x u ∧ J.yld i H x H' ∧ tn (i + 1) s2.heap ∧ ∀ b ∈ fp, H' b = none) E s1) E s
  done : ∀ (X : Cx), X.prog = P → X.w = w → X.K = K → X.calm = true → ∀ (i : Nat) (pins : List (Addr × Obj)) (s : Shared) (σ : St) (H : Hp) (E : Value → Shared → Prop), Inv X pins σ H s → (∀ b ∈ fp, FpOk X pins H b) → tn i s.heap → J.stop i H →
    wpAny (model P w) X.A (pyNext (.ref it)) (fun r s1 => r = none ∧ Inv X pins σ H s1) E s
  self : ∀ (A : Around) (i : Nat) (s : Shared) (Q : Value → Shared → Prop) (E : Value → Shared → Prop), tn i s.heap → Q (.ref it) s → wpAny (model P w) A (pyIter (.ref it)) Q E s
noncomputable abbrev TI := St → Hp → (It → Hp → Prop) → Prop
noncomputable def PIE (X : Cx) (pins : List (Addr × Obj)) (σ : St) (tg : Expr) (R : It → Hp → Prop) (itv : Value) (s2 : Shared) : Prop :=
  ∃ (it : Addr) (fp : List Addr) (tn : Nat → Heap → Prop) (J : It) (H' : Hp), itv = .ref it ∧ Inv X pins σ H' s2 ∧ Turn X.prog X.w X.K tg J fp it tn ∧ tn 0 s2.heap ∧ (∀ b ∈ fp, FpOk X pins H' b) ∧ R J H'
noncomputable def PI (X : Cx) (tg iter : Expr) (wi : TI) : Prop :=
  ∀ (pins : List (Addr × Obj)) (s : Shared) (σ : St) (H : Hp) (R : It → Hp → Prop), Inv X pins σ H s → wi σ H R →
    wpAny (model X.prog X.w) X.A (eval iter X.env) (fun v s1 => wpAny (model X.prog X.w) X.A (pyIter v) (PIE X pins σ tg R) X.xe s1) X.xe s

theorem go_of {M : Model} {A : Around} {E : Value → Shared → Prop} {s : Shared} {tg : Expr} {it : Addr} {u : Value} {o : Obj} {n : String} {vs : Array Value} {Q : Unit → Shared → Prop} (ho : s.heap.get? it = some o) (hc : o.cls = .type n) (hd : o.data = .fields vs)
    (hn : ["enumerate", "zip", "dict_itemiterator", "dict_reverseitemiterator", "odict_iterator", "itertools.zip_longest", "itertools.pairwise"].contains n = false) (hQ : Q () s) : wpAny M A (letOwnedTupleGo tg (.ref it) u) Q E s := by
  unfold letOwnedTupleGo
  cases tg <;> first
    | exact wpAny_pure hQ
    | (cases u <;> first
        | exact wpAny_pure hQ
        | (refine wpAny_bind (wpAny_load ho ?_)
           rw [hc, hd]
           show wpAny M A (if (["enumerate", "zip", "dict_itemiterator", "dict_reverseitemiterator", "odict_iterator", "itertools.zip_longest", "itertools.pairwise"].contains n && vs[0]? == some (rawInt _)) = true then _ else _) Q E s
           rw [if_neg (by intro h; rw [hn, Bool.false_and] at h; cases h)]
           exact wpAny_pure hQ))

noncomputable def Itl (K : PySem.W.Frag) (a : Addr) : It :=
  ⟨fun i H => ∃ xs x, SqL K H a xs ∧ xs[i]? = some x, fun i H x H' => H' = H ∧ ∀ xs, SqL K H a xs → xs[i]? = some x, fun i H => ∃ xs, SqL K H a xs ∧ xs.length ≤ i⟩
noncomputable def Itr (lo : Int) (n : Nat) : It := ⟨fun i _ => i < n, fun i H x H' => H' = H ∧ x = .int (lo + i), fun i _ => n ≤ i⟩
theorem turn_list {P : Program} {w : World} {K : PySem.W.Frag} {tg : Expr} (a it : Addr) : Turn P w K tg (Itl K a) [it] it (fun i h => h.IsListIter it a i) where
  mem := by simp
  obj := fun i h st b hb => by
    have e : b = it := by simpa using hb
    subst e
    obtain ⟨o, e, c, d⟩ := st
    exact ⟨o, e, fun v z => by rw [d] at z; cases z⟩
  keep := fun i h h' st k => st.at fun o e => k it (by simp) o e
  item := by
    intro X hP hw hK hc i pins s σ H E I hf st hg
    subst hP hw hK
    obtain ⟨xs, x, hq, hx⟩ := hg
    obtain ⟨its, rv, p, hz⟩ := I.list hq
    obtain ⟨u, hu, ru⟩ := rv.get hx
    obtain ⟨f0, f1, f2, f3, f4, f5⟩ := hf it (by simp)
    refine wpAny_pyNext_list_item st p.isList (x := u) (by simpa using hu) fun h' st' sb => ?_
    have I1 : Inv X pins σ H { s with heap := h' } := I.turned (t' := s.toks) (fun b o hb e => (sb.2 b hb).trans e) f0 f1 f3 f4 f5
    obtain ⟨o, e, c, d⟩ := id st'
    exact ⟨u, rfl, go_of (s := { s with heap := h' }) e c d (by decide) ⟨x, H, I1, ru, ⟨rfl, fun ys hy => by rw [I.list_inj hy hq]; exact hx⟩, st', fun b hb => (hf b hb).1⟩⟩
  done := by
    intro X hP hw hK hc i pins s σ H E I hf st hg
    subst hP hw hK
    obtain ⟨xs, hq, hx⟩ := hg
    obtain ⟨its, rv, p, hz⟩ := I.list hq
    obtain ⟨f0, f1, f2, f3, f4, f5⟩ := hf it (by simp)
    have hl := rv.length
    exact wpAny_pyNext_list_end (I.ok.hd hc) st p.isList (by simp; omega) fun h' eb => ⟨rfl, I.turned (t' := s.toks) (fun b o hb e => eb b o hb e) f0 f1 f3 f4 f5⟩
  self := fun _ _ _ _ _ st h => wpAny_pyIter_listiter st h
theorem turn_range {P : Program} {w : World} {K : PySem.W.Frag} {tg : Expr} (it : Addr) (lo : Int) (n : Nat) : Turn P w K tg (Itr lo n) [it] it (fun i h => IsRangeIter h it (lo + (i : Nat) * 1) ((n : Int) - (i : Nat)) 1) where
  mem := by simp
  obj := fun i h st b hb => by
    have e : b = it := by simpa using hb
    subst e
    exact ⟨_, st, fun v z => by
      have z' : Data.fields _ = Data.cell v := z
      cases z'⟩
  keep := fun i h h' st k => k it (by simp) _ st
  item := by
    intro X hP hw hK hc i pins s σ H E I hf st hg
    subst hP hw hK
    obtain ⟨f0, f1, f2, f3, f4, f5⟩ := hf it (by simp)
    have W := Walks.range (prog := X.prog) (w := X.w) (I.ok.hd hc) it lo 1 n
    refine W.item i s _ _ hg st fun v h' tk hv st' kk => ?_
    obtain ⟨t, rfl⟩ := hv
    have I1 : Inv X pins σ H { s with heap := h', toks := tk } := I.turned (fun b o hb e => kk b o (by simpa using hb) e) f0 f1 f3 f4 f5
    refine ⟨_, rfl, go_of (s := { s with heap := h', toks := tk }) (n := "range_iterator") st' rfl rfl (by decide) ⟨.int (lo + i), H, I1, ⟨t, ?_⟩, ⟨rfl, rfl⟩, st', fun b hb => (hf b hb).1⟩⟩
    rw [Int.mul_one]
  done := by
    intro X hP hw hK hc i pins s σ H E I hf st hg
    subst hP hw hK
    obtain ⟨f0, f1, f2, f3, f4, f5⟩ := hf it (by simp)
    exact wpAny_pyNext_range_end (I.ok.hd hc) st (by have : n ≤ i := hg; omega) fun h' eb => ⟨rfl, I.turned (t' := s.toks) (fun b o hb e => eb b o hb e) f0 f1 f3 f4 f5⟩
  self := fun _ _ _ _ _ st h => wpAny_pyIter_rangeiter st h
end L2

namespace L2
open PySem PySem.Spec PyProof.Rows
section
variable {X : Cx} {tg : Expr}
noncomputable def iList (K : PySem.W.Frag) (tl : TE) : TI := fun σ H R => tl σ H fun x H1 => ∃ a, x = .ref a ∧ (∃ xs, SqL K H1 a xs) ∧ R (Itl K a) H1
theorem pi_list {l : Expr} {tl : TE} (hl : PE X l tl) : PI X tg l (iList X.K tl) := by
  intro pins s σ H R I h
  refine thn (hl pins s σ H _ I h) fun v s1 ⟨x, H1, I1, r1, q1⟩ => ?_
  obtain ⟨a, e, ⟨xs, hq⟩, q⟩ := q1
  subst e
  cases r1
  obtain ⟨its, rv, p, hz⟩ := I1.list hq
  refine wpAny_pyIter_list p.isList ?_
  refine ⟨s1.heap.objs.size, [s1.heap.objs.size], _, _, H1, rfl, I1.kept (t' := s1.toks) fun b o e => Heap.get?_push_of_some _ e, turn_list a _, ⟨_, Heap.get?_push_size _ rfl, rfl, rfl⟩, fun b hb => ?_, q⟩
  have e : b = s1.heap.objs.size := by simpa using hb
  subst e
  exact I1.fpOk (Nat.le_refl _) (I1.hok.fresh (Nat.le_refl _))
theorem range_it {pins : List (Addr × Obj)} {σ : St} {H : Hp} {s : Shared} {R : It → Hp → Prop} {E : Value → Shared → Prop} {lo hi : Int} {t u v : Tok} {tk : Nat} (I : Inv X pins σ H s) (h1 : -(2 ^ 62) ≤ lo) (h2 : lo < 2 ^ 62) (h3 : -(2 ^ 62) ≤ hi) (h4 : hi < 2 ^ 62)
    (q : R (Itr lo (hi - lo).toNat) H) : wpAny (model X.prog X.w) X.A (pyIter (.ref s.heap.objs.size)) (PIE X pins σ tg R) E { s with heap := s.heap.push { cls := .type "range", data := .fields #[.int lo t, .int hi u, .int 1 v] }, toks := tk } := by
  refine wpAny_pyIter_range (IsRange.new ..) (small_one h1 h2 h3 h4) ?_
  have I1 : Inv X pins σ H { s with heap := s.heap.push { cls := .type "range", data := .fields #[.int lo t, .int hi u, .int 1 v] }, toks := tk } := I.kept fun b o e => Heap.get?_push_of_some _ e
  refine ⟨(s.heap.push { cls := .type "range", data := .fields #[.int lo t, .int hi u, .int 1 v] }).objs.size, [(s.heap.push { cls := .type "range", data := .fields #[.int lo t, .int hi u, .int 1 v] }).objs.size], _, _, H, rfl,
    I1.kept (t' := tk) fun b o e => Heap.get?_push_of_some _ e, turn_range _ lo (hi - lo).toNat, ?_, fun b hb => ?_, q⟩
  · have e1 : lo + ((0 : Nat) : Int) * 1 = lo := by simp
    have e2 : (((hi - lo).toNat : Nat) : Int) - ((0 : Nat) : Int) = Builtin.Range.rangeSize lo hi 1 := by rw [rangeSize_one]; split <;> omega
    show IsRangeIter _ _ (lo + ((0 : Nat) : Int) * 1) ((((hi - lo).toNat : Nat) : Int) - ((0 : Nat) : Int)) 1
    rw [e1, e2]
    exact Heap.get?_push_size _ rfl
  · have e : b = (s.heap.push { cls := .type "range", data := .fields #[.int lo t, .int hi u, .int 1 v] }).objs.size := by simpa using hb
    subst e
    exact I1.fpOk (Nat.le_refl _) (I1.hok.fresh (Nat.le_refl _))
noncomputable def iRng1 (ta : TA) : TI := fun σ H R => ta σ H fun vs H1 => ∃ j : Int, vs = [.int j] ∧ -(2 ^ 62) ≤ j ∧ j < 2 ^ 62 ∧ R (Itr 0 j.toNat) H1
theorem pi_range1 {a : Expr} {ta : TA} {p pos : Pos} (hg : Gl X "range") (hm : X.mg "range" = none) (ha : PA X [a] ta) (hs : starEach [a] X.env = [(false, eval a X.env)] := by rfl) : PI X tg (.Call (.Name "range" p) [a] [] pos) (iRng1 ta) := by
  intro pins s σ H R I h
  refine Call_ (ld_blt I hg hm boot_range (PyProof.Rows.callWith_type1 (thn (ha pos pins s σ H _ I h) fun us s1 ⟨vs, H1, I1, r1, q1⟩ => ?_) hs rfl))
  obtain ⟨j, e, q1, q2, q⟩ := q1
  subst e
  cases r1 with
  | cons r rr =>
    cases rr
    obtain ⟨t, rfl⟩ := r
    exact call_range_1 (range_it I1 (by omega) (by omega) q1 q2 (by simpa using q))
noncomputable def tFor (wi : TI) (g : TG) (tb : TS) : TS := fun D σ H => wi σ H fun J H1 => ∃ W : Nat → Nat → St → Hp → Prop, (∃ m, W 0 m σ H1) ∧ ∀ i m σ H, W i m σ H →
  (J.stop i H ∧ D.nx σ H) ∨ (J.go i H ∧ ∃ N : St → Hp → Prop, (∀ σ' H', N σ' H' → ∃ m', m' < m ∧ W (i + 1) m' σ' H') ∧ ∀ x H', J.yld i H x H' → g x σ H' fun σ2 H2 => tb { D with nx := N, ct := N, bk := D.nx } σ2 H2)
noncomputable def pinsAt (fp : List Addr) (h : Heap) : List (Addr × Obj) := fp.filterMap fun b => (h.get? b).map fun o => (b, o)
theorem mem_pinsAt {fp : List Addr} {h : Heap} {b : Addr} {o : Obj} (hb : b ∈ fp) (e : h.get? b = some o) : (b, o) ∈ pinsAt fp h := List.mem_filterMap.mpr ⟨b, hb, by rw [e]; rfl⟩
theorem of_pinsAt {fp : List Addr} {h : Heap} {p : Addr × Obj} (hp : p ∈ pinsAt fp h) : p.1 ∈ fp ∧ h.get? p.1 = some p.2 := by
  obtain ⟨b, hb, e⟩ := List.mem_filterMap.mp hp
  cases q : h.get? b with
  | none => rw [q] at e; cases e
  | some o =>
    rw [q] at e
    have e' : (b, o) = p := Option.some.inj e
    subst e'
    exact ⟨hb, q⟩
theorem Inv.pinned {pins : List (Addr × Obj)} {σ : St} {H : Hp} {s : Shared} {fp : List Addr} (I : Inv X pins σ H s) (hf : ∀ b ∈ fp, FpOk X pins H b) (ho : ∀ b ∈ fp, ∃ o, s.heap.get? b = some o ∧ ∀ v, o.data ≠ .cell v) : Inv X (pins ++ pinsAt fp s.heap) σ H s :=
  I.pins_of fun p hp => (List.mem_append.mp hp).elim (fun z => I.pin p (List.mem_append_right _ z)) fun z => by
    obtain ⟨hb, e⟩ := of_pinsAt z
    obtain ⟨f0, f1, f2, _⟩ := hf p.1 hb
    obtain ⟨o, e', d⟩ := ho p.1 hb
    rw [e] at e'; cases e'
    exact ⟨e, f0, f1, f2, d⟩
theorem Inv.unpinned {pins pl : List (Addr × Obj)} {σ : St} {H : Hp} {s : Shared} (I : Inv X (pins ++ pl) σ H s) : Inv X pins σ H s := I.pins_of fun p hp => I.pin p (List.mem_append_right _ (List.mem_append_left _ hp))
theorem ps_for {iter : Expr} {body : List Stmt} {wi : TI} {g : TG} {tb : TS} {pos : Pos} (hp : PassesOwn (model X.prog X.w) X.A X.env X.xe) (hc : X.calm = true) (hi : PI X tg iter wi) (hg : PG X tg g) (hb : PSs X body tb)
    (hs : ∀ x, foldedSetIterable iter X.env x = pure x := by intro _; rfl) : PS X (.For tg iter body [] pos) (tFor wi g tb) := by
  intro pins s σ H D I h
  refine wpAny_For (thn (hi pins s σ H _ I h) fun v s1 h1 => thn h1 fun itv s2 h2 => ?_) hs
  obtain ⟨it, fp, tn, J, H2, e, I2, T, st2, f2, W, ⟨m0, w0⟩, turn⟩ := h2
  subst e
  -- what stays true of the iterator's objects through the loop
  have stat : ∀ {H' : Hp}, (∀ b ∈ fp, H' b = none) → ∀ b ∈ fp, FpOk X pins H' b := fun hn b hb => ⟨hn b hb, (f2 b hb).2⟩
  refine codeAny_forLoop_any (fun n s' => ∃ i σ' H', Inv X pins σ' H' s' ∧ tn i s'.heap ∧ (∀ b ∈ fp, H' b = none) ∧ W i n σ' H') ?_ m0 ⟨0, σ, H2, I2, st2, fun b hb => (f2 b hb).1, w0⟩
  rintro n s3 ⟨i, σ3, H3, I3, st3, fr3, w3⟩
  rcases turn i n σ3 H3 w3 with ⟨stop, qn⟩ | ⟨go, N, hN, step⟩
  · refine wpAny_passesOwn hp (thn (T.done X rfl rfl rfl hc i pins s3 σ3 H3 X.xe I3 (stat fr3) st3 stop) fun r s4 ⟨hr, I4⟩ => ?_)
    subst hr
    exact wpAny_execs_nil ⟨σ3, H3, I4, qn⟩
  · refine wpAny_passesOwn hp (thn (T.item X rfl rfl rfl hc i pins s3 σ3 H3 X.xe I3 (stat fr3) st3 go) fun r s4 ⟨u, hr, h4⟩ => ?_)
    subst hr
    refine wpAny_passesOwn hp (thn h4 fun _ s5 ⟨x, H5, I5, r5, y5, st5, fr5⟩ => ?_)
    have I5' := I5.pinned (stat fr5) (T.obj _ _ st5)
    refine wpAny_passesOwn hp (thn (hg _ s5 σ3 H5 x u _ I5' r5 (step x H5 y5)) fun _ s6 ⟨σ6, H6, I6, q6⟩ => ?_)
    refine wpAny_passesOwn hp (thn (hb _ s6 σ6 H6 _ I6 q6) fun f s7 q7 => ?_)
    have again : ∀ {σ7 : St} {H7 : Hp}, Inv X (pins ++ pinsAt fp s5.heap) σ7 H7 s7 → N σ7 H7 → ∃ m, m < n ∧ ∃ i σ' H', Inv X pins σ' H' s7 ∧ tn i s7.heap ∧ (∀ b ∈ fp, H' b = none) ∧ W i m σ' H' := fun {σ7 H7} I7 n7 => by
      obtain ⟨m', hm, w7⟩ := hN σ7 H7 n7
      refine ⟨m', hm, i + 1, σ7, H7, I7.unpinned, T.keep _ _ _ st5 fun b hb o e => (I7.pin (b, o) (List.mem_append_right _ (List.mem_append_right _ (mem_pinsAt hb e)))).1, fun b hb => ?_, w7⟩
      obtain ⟨o, e, d⟩ := T.obj _ _ st5 b hb
      exact (I7.pin (b, o) (List.mem_append_right _ (List.mem_append_right _ (mem_pinsAt hb e)))).2.1
    cases f with
    | next => obtain ⟨σ7, H7, I7, n7⟩ := q7; exact again I7 n7
    | cont => obtain ⟨σ7, H7, I7, n7⟩ := q7; exact again I7 n7
    | brk => obtain ⟨σ7, H7, I7, q7⟩ := q7; exact ⟨σ7, H7, I7.unpinned, q7⟩
    | ret v => obtain ⟨x7, σ7, H7, I7, r7, q7⟩ := q7; exact ⟨x7, σ7, H7, I7.unpinned, r7, q7⟩
end

theorem for_range {lo : Int} {n : Nat} {g : TG} {tb : TS} {D : Ends} {σ : St} {H : Hp} (Pv : Nat → St → Hp → Prop) (h0 : Pv 0 σ H)
    (hs : ∀ i σ H, i < n → Pv i σ H → g (.int (lo + i)) σ H fun σ2 H2 => tb { D with nx := Pv (i + 1), ct := Pv (i + 1), bk := D.nx } σ2 H2) (hd : ∀ σ H, Pv n σ H → D.nx σ H) :
    ∃ W : Nat → Nat → St → Hp → Prop, (∃ m, W 0 m σ H) ∧ ∀ i m σ H, W i m σ H →
      ((Itr lo n).stop i H ∧ D.nx σ H) ∨ ((Itr lo n).go i H ∧ ∃ N : St → Hp → Prop, (∀ σ' H', N σ' H' → ∃ m', m' < m ∧ W (i + 1) m' σ' H') ∧ ∀ x H', (Itr lo n).yld i H x H' → g x σ H' fun σ2 H2 => tb { D with nx := N, ct := N, bk := D.nx } σ2 H2) := by
  refine ⟨fun i m σ H => m = n - i ∧ i ≤ n ∧ Pv i σ H, ⟨n, by simp, Nat.zero_le _, h0⟩, ?_⟩
  rintro i m σ H ⟨rfl, hi, p⟩
  by_cases hlt : i < n
  · refine .inr ⟨hlt, Pv (i + 1), fun σ' H' p' => ⟨n - (i + 1), by omega, rfl, hlt, p'⟩, fun x H' y => ?_⟩
    obtain ⟨e, y⟩ := y
    subst e y
    exact hs i σ _ hlt p
  · have e : i = n := by omega
    subst e
    exact .inl ⟨Nat.le_refl _, hd σ H p⟩
end L2

namespace L2
open PySem PySem.Spec PyProof.Rows

noncomputable abbrev R2 := V → V → Hp → VK → Prop
noncomputable def OpR (X : Cx) (f : Value → Value → Sem Value) (r : R2) : Prop :=
  ∀ (pins : List (Addr × Obj)) (s : Shared) (σ : St) (H : Hp) (x y : V) (v u : Value) (Q : VK), Inv X pins σ H s → RelV x v → RelV y u → r x y H Q →
    wpAny (model X.prog X.w) X.A (f v u) (EP X pins σ Q) X.xe s
noncomputable def UnR (X : Cx) (f : Value → Sem Value) (r : V → Hp → VK → Prop) : Prop :=
  ∀ (pins : List (Addr × Obj)) (s : Shared) (σ : St) (H : Hp) (x : V) (v : Value) (Q : VK), Inv X pins σ H s → RelV x v → r x H Q →
    wpAny (model X.prog X.w) X.A (f v) (EP X pins σ Q) X.xe s
noncomputable def CallR (X : Cx) (f : Value) (r : List V → Hp → VK → Prop) : Prop :=
  ∀ (pins : List (Addr × Obj)) (s : Shared) (σ : St) (H : Hp) (xs : List V) (us : List Value) (Q : VK), Inv X pins σ H s → Vals xs us → r xs H Q →
    wpAny (model X.prog X.w) X.A (call f us) (EP X pins σ Q) X.xe s
noncomputable def tOp (r : R2) (ta tb : TE) : TE := fun σ H Q => ta σ H fun x H1 => tb σ H1 fun y H2 => r x y H2 Q
noncomputable def tUn (r : V → Hp → VK → Prop) (ta : TE) : TE := fun σ H Q => ta σ H fun x H1 => r x H1 Q
noncomputable def rI (C : Int → Int → Prop) (g : Int → Int → V) : R2 := fun x y H Q => ∃ i j, x = .int i ∧ y = .int j ∧ C i j ∧ Q (g i j) H
noncomputable def rI0 (g : Int → Int → V) : R2 := fun x y H Q => ∃ i j, x = .int i ∧ y = .int j ∧ Q (g i j) H
noncomputable def rU (g : Int → V) : V → Hp → VK → Prop := fun x H Q => ∃ i, x = .int i ∧ Q (g i) H

section
variable {X : Cx} {a b c : Expr} {ta tb tc : TE} {pos : Pos}

theorem binT (ha : PE X a ta) (hb : PE X b tb) {pins : List (Addr × Obj)} {s : Shared} {σ : St} {H : Hp} {R : V → V → Hp → Prop} (I : Inv X pins σ H s)
    (h : ta σ H fun x H1 => tb σ H1 fun y H2 => R x y H2) {Q : Value → Shared → Prop} {f : Value → Value → Sem Value}
    (hf : ∀ v u s2 x y H2, Inv X pins σ H2 s2 → RelV x v → RelV y u → R x y H2 → wpAny (model X.prog X.w) X.A (f v u) Q X.xe s2) :
    wpAny (model X.prog X.w) X.A (eval a X.env) (fun v s₁ => wpAny (model X.prog X.w) X.A (eval b X.env) (fun u s₂ => wpAny (model X.prog X.w) X.A (f v u) Q X.xe s₂) X.xe s₁) X.xe s := by
  refine thn (ha pins s σ H _ I h) fun v s1 ⟨x, H1, I1, r1, q1⟩ => ?_
  refine thn (hb pins s1 σ H1 _ I1 q1) fun u s2 ⟨y, H2, I2, r2, q2⟩ => ?_
  exact hf v u s2 x y H2 I2 r1 r2 q2

theorem pe_op {op : Operator} {r : R2} (ho : OpR X (binaryOp op) r) (ha : PE X a ta) (hb : PE X b tb) : PE X (.BinOp a op b pos) (tOp r ta tb) := by
  intro pins s σ H Q I h
  exact wpAny_BinOp (binT ha hb I h fun v u s2 x y H2 I2 rx ry q => ho pins s2 σ H2 x y v u Q I2 rx ry q)
theorem pe_un {op : UnaryOp} {r : V → Hp → VK → Prop} (ho : UnR X (unaryOp op) r) (ha : PE X a ta) : PE X (.UnaryOp op a pos) (tUn r ta) := by
  intro pins s σ H Q I h
  exact UnaryOp_ (thn (ha pins s σ H _ I h) fun v s1 ⟨x, H1, I1, r1, q1⟩ => ho pins s1 σ H1 x v Q I1 r1 q1)
theorem opI {f : Value → Value → Sem Value} {C : Int → Int → Prop} {g : Int → Int → Int}
    (rule : ∀ (i j : Int) (t u : Tok) (s : Shared) (Q : Value → Shared → Prop) (E : Value → Shared → Prop), C i j → Q (.int (g i j) s.toks) { s with toks := s.toks + 1 } → wpAny (model X.prog X.w) X.A (f (.int i t) (.int j u)) Q E s) :
    OpR X f (rI C fun i j => .int (g i j)) := by
  intro pins s σ H x y v u Q I rx ry h
  obtain ⟨i, j, rfl, rfl, hc, q⟩ := h
  obtain ⟨t, rfl⟩ := rx
  obtain ⟨t', rfl⟩ := ry
  exact rule i j t t' s _ _ hc ⟨.int (g i j), H, I.tok _, ⟨_, rfl⟩, q⟩
theorem opI0 {f : Value → Value → Sem Value} {g : Int → Int → Int}
    (rule : ∀ (i j : Int) (t u : Tok) (s : Shared) (Q : Value → Shared → Prop) (E : Value → Shared → Prop), Q (.int (g i j) s.toks) { s with toks := s.toks + 1 } → wpAny (model X.prog X.w) X.A (f (.int i t) (.int j u)) Q E s) :
    OpR X f (rI0 fun i j => .int (g i j)) := by
  intro pins s σ H x y v u Q I rx ry h
  obtain ⟨i, j, rfl, rfl, q⟩ := h
  obtain ⟨t, rfl⟩ := rx
  obtain ⟨t', rfl⟩ := ry
  exact rule i j t t' s _ _ ⟨.int (g i j), H, I.tok _, ⟨_, rfl⟩, q⟩
theorem opB0 {f : Value → Value → Sem Value} {g : Int → Int → Bool}
    (rule : ∀ (i j : Int) (t u : Tok) (s : Shared) (Q : Value → Shared → Prop) (E : Value → Shared → Prop), Q (.bool (g i j)) s → wpAny (model X.prog X.w) X.A (f (.int i t) (.int j u)) Q E s) :
    OpR X f (rI0 fun i j => .bl (g i j)) := by
  intro pins s σ H x y v u Q I rx ry h
  obtain ⟨i, j, rfl, rfl, q⟩ := h
  obtain ⟨t, rfl⟩ := rx
  obtain ⟨t', rfl⟩ := ry
  exact rule i j t t' s _ _ ⟨.bl (g i j), H, I, rfl, q⟩

noncomputable def CDiv (i j : Int) : Prop := 0 < j ∧ j < 1073741824
noncomputable def CMul (i j : Int) : Prop := (-(2 ^ 64) < i ∧ i < 2 ^ 64) ∨ (-(2 ^ 64) < j ∧ j < 2 ^ 64)
theorem CMul.ok {i j : Int} (h : CMul i j) : IntMulOk i j := by
  rcases h with ⟨h1, h2⟩ | ⟨h1, h2⟩
  · exact .of_left (intBits_le_64 h1 h2)
  · exact .of_right (intBits_le_64 h1 h2)
theorem two_pow_nn (k : Nat) : (0 : Int) ≤ 2 ^ k := by
  rw [two_pow_cast]
  exact Int.natCast_nonneg _

theorem op_add : OpR X (binaryOp .Add) (rI0 fun i j => .int (i + j)) := opI0 fun _ _ _ _ _ _ _ q => add_int q
theorem op_sub : OpR X (binaryOp .Sub) (rI0 fun i j => .int (i - j)) := opI0 fun _ _ _ _ _ _ _ q => sub_int q
theorem op_mul : OpR X (binaryOp .Mult) (rI CMul fun i j => .int (i * j)) := opI fun _ _ _ _ _ _ _ hc q => mul_int q hc.ok
theorem op_fdiv : OpR X (binaryOp .FloorDiv) (rI CDiv fun i j => .int (i / j)) := opI fun i j _ _ _ _ _ hc q => by
  have h1 : (0 : Int) < j := hc.1
  have h2 : j < 1073741824 := hc.2
  exact floordiv_int (by omega) (by rw [Int.fdiv_eq_ediv_of_nonneg i (by omega)]; exact q) (.inl (PyProof.noPylong_small (by omega)))
theorem op_mod : OpR X (binaryOp .Mod) (rI (fun _ j => 0 < j) fun i j => .int (i % j)) := opI fun i j _ _ _ _ _ hc q => by
  have h1 : (0 : Int) < j := hc
  exact mod_int' (by omega) (by rw [Int.fmod_eq_emod_of_nonneg i (by omega)]; exact q)
theorem op_shr : OpR X (binaryOp .RShift) (rI (fun _ j => 0 ≤ j) fun i j => .int (i / 2 ^ j.toNat)) := opI fun i j _ _ _ _ _ hc q =>
  rshift_int hc (by rw [Int.fdiv_eq_ediv_of_nonneg i (two_pow_nn _)]; exact q)
theorem op_xor : OpR X (binaryOp .BitXor) (rI0 fun i j => .int (Builtin.bitXor i j)) := opI0 fun _ _ _ _ _ _ _ q => xor_int q

theorem unI {f : Value → Sem Value} {g : Int → Int}
    (rule : ∀ (i : Int) (t : Tok) (s : Shared) (Q : Value → Shared → Prop) (E : Value → Shared → Prop), Q (.int (g i) s.toks) { s with toks := s.toks + 1 } → wpAny (model X.prog X.w) X.A (f (.int i t)) Q E s) :
    UnR X f (rU fun i => .int (g i)) := by
  intro pins s σ H x v Q I rx h
  obtain ⟨i, rfl, q⟩ := h
  obtain ⟨t, rfl⟩ := rx
  exact rule i t s _ _ ⟨.int (g i), H, I.tok _, ⟨_, rfl⟩, q⟩
theorem un_neg : UnR X (unaryOp .USub) (rU fun i => .int (-i)) := unI fun _ _ _ _ _ q => neg_int q
end

noncomputable def scal : V → V → Bool
  | .non, .non => true | .non, .int _ => true | .int _, .non => true | .non, .bl _ => true | .bl _, .non => true | .non, .str _ => true | .str _, .non => true
  | .int _, .int _ => true | .bl _, .bl _ => true | .str _, .str _ => true | .byt _, .byt _ => true
  | .int _, .str _ => true | .str _, .int _ => true | .bl _, .str _ => true | .str _, .bl _ => true
  | _, _ => false
noncomputable def rEq : R2 := fun x y H Q => scal x y = true ∧ Q (.bl (decide (x = y))) H
noncomputable def rNe : R2 := fun x y H Q => scal x y = true ∧ Q (.bl (!decide (x = y))) H

theorem dec_int {i j : Int} : decide (V.int i = V.int j) = (i == j) := by
  rw [Bool.eq_iff_iff]
  simp
theorem dec_bl {i j : Bool} : decide (V.bl i = V.bl j) = (i == j) := by
  rw [Bool.eq_iff_iff]
  simp
theorem dec_str {i j : Str} : decide (V.str i = V.str j) = (i == j) := by
  rw [Bool.eq_iff_iff]
  simp
theorem dec_byt {i j : Array UInt8} : decide (V.byt i = V.byt j) = (i.toList == j.toList) := by
  rw [Bool.eq_iff_iff]
  cases i
  cases j
  simp

section
variable {X : Cx} {a b c : Expr} {ta tb tc : TE} {pos : Pos}
theorem fin_bl {pins : List (Addr × Obj)} {σ : St} {H : Hp} {s : Shared} {Q : VK} {k k' : Bool} (I : Inv X pins σ H s) (q : Q (.bl k) H) (e : k = k') : EP X pins σ Q (.bool k') s := by
  subst e
  exact ⟨.bl k, H, I, rfl, q⟩
theorem op_eq : OpR X (compareOp .Eq) rEq := by
  intro pins s σ H x y v u Q I rx ry h
  obtain ⟨hs, q⟩ := h
  cases x with
  | non =>
    cases rx
    cases y with
    | non => cases ry; exact PySem.EqNone.eq_none_none (fin_bl I q (by simp))
    | bl j => cases ry; exact PySem.EqNone.eq_none_bool (fin_bl I q (by simp))
    | int j => obtain ⟨t', rfl⟩ := ry; exact PySem.EqNone.eq_none_int (fin_bl I q (by simp))
    | str j => obtain ⟨t', rfl⟩ := ry; exact PySem.EqNone.eq_none_str (fin_bl I q (by simp))
    | _ => exact absurd (show false = true from hs) Bool.false_ne_true
  | bl i =>
    cases rx
    cases y with
    | non => cases ry; exact PySem.EqNone.eq_bool_none (fin_bl I q (by simp))
    | bl j => cases ry; exact eq_bool (fin_bl I q dec_bl)
    | str j => obtain ⟨t', rfl⟩ := ry; exact PySem.EqMixed.eq_bool_str (fin_bl I q (by simp))
    | _ => exact absurd (show false = true from hs) Bool.false_ne_true
  | int i =>
    obtain ⟨t, rfl⟩ := rx
    cases y with
    | non => cases ry; exact PySem.EqNone.eq_int_none (fin_bl I q (by simp))
    | int j => obtain ⟨t', rfl⟩ := ry; exact eq_int (fin_bl I q dec_int)
    | str j => obtain ⟨t', rfl⟩ := ry; exact PySem.EqMixed.eq_int_str (fin_bl I q (by simp))
    | _ => exact absurd (show false = true from hs) Bool.false_ne_true
  | str i =>
    obtain ⟨t, rfl⟩ := rx
    cases y with
    | non => cases ry; exact PySem.EqNone.eq_str_none (fin_bl I q (by simp))
    | bl j => cases ry; exact PySem.EqMixed.eq_str_bool (fin_bl I q (by simp))
    | int j => obtain ⟨t', rfl⟩ := ry; exact PySem.EqMixed.eq_str_int (fin_bl I q (by simp))
    | str j => obtain ⟨t', rfl⟩ := ry; exact eq_str (fin_bl I q dec_str)
    | _ => exact absurd (show false = true from hs) Bool.false_ne_true
  | byt i =>
    obtain ⟨t, rfl⟩ := rx
    cases y with
    | byt j => obtain ⟨t', rfl⟩ := ry; exact PySem.W.eq_bytes (fin_bl I q dec_byt)
    | _ => exact absurd (show false = true from hs) Bool.false_ne_true
  | _ => cases y <;> exact absurd (show false = true from hs) Bool.false_ne_true
theorem op_ne : OpR X (compareOp .NotEq) rNe := by
  intro pins s σ H x y v u Q I rx ry h
  obtain ⟨hs, q⟩ := h
  cases x with
  | non =>
    cases rx
    cases y with
    | non => cases ry; exact PySem.EqNone.ne_none_none (fin_bl I q (by simp))
    | bl j => cases ry; exact PySem.EqNone.ne_none_bool (fin_bl I q (by simp))
    | int j => obtain ⟨t', rfl⟩ := ry; exact PySem.EqNone.ne_none_int (fin_bl I q (by simp))
    | str j => obtain ⟨t', rfl⟩ := ry; exact PySem.EqNone.ne_none_str (fin_bl I q (by simp))
    | _ => exact absurd (show false = true from hs) Bool.false_ne_true
  | bl i =>
    cases rx
    cases y with
    | non => cases ry; exact PySem.EqNone.ne_bool_none (fin_bl I q (by simp))
    | bl j => cases ry; exact ne_bool (fin_bl I q (congrArg not dec_bl))
    | str j => obtain ⟨t', rfl⟩ := ry; exact PySem.EqMixed.ne_bool_str (fin_bl I q (by simp))
    | _ => exact absurd (show false = true from hs) Bool.false_ne_true
  | int i =>
    obtain ⟨t, rfl⟩ := rx
    cases y with
    | non => cases ry; exact PySem.EqNone.ne_int_none (fin_bl I q (by simp))
    | int j => obtain ⟨t', rfl⟩ := ry; exact ne_int (fin_bl I q (congrArg not dec_int))
    | str j => obtain ⟨t', rfl⟩ := ry; exact PySem.EqMixed.ne_int_str (fin_bl I q (by simp))
    | _ => exact absurd (show false = true from hs) Bool.false_ne_true
  | str i =>
    obtain ⟨t, rfl⟩ := rx
    cases y with
    | non => cases ry; exact PySem.EqNone.ne_str_none (fin_bl I q (by simp))
    | bl j => cases ry; exact PySem.EqMixed.ne_str_bool (fin_bl I q (by simp))
    | int j => obtain ⟨t', rfl⟩ := ry; exact PySem.EqMixed.ne_str_int (fin_bl I q (by simp))
    | str j => obtain ⟨t', rfl⟩ := ry; exact ne_str (fin_bl I q (congrArg not dec_str))
    | _ => exact absurd (show false = true from hs) Bool.false_ne_true
  | byt i =>
    obtain ⟨t, rfl⟩ := rx
    cases y with
    | byt j => obtain ⟨t', rfl⟩ := ry; exact PySem.W.ne_bytes (fin_bl I q (congrArg not dec_byt))
    | _ => exact absurd (show false = true from hs) Bool.false_ne_true
  | _ => cases y <;> exact absurd (show false = true from hs) Bool.false_ne_true

theorem op_lt : OpR X (compareOp .Lt) (rI0 fun i j => .bl (decide (i < j))) := opB0 fun _ _ _ _ _ _ _ q => lt_int q
theorem op_le : OpR X (compareOp .LtE) (rI0 fun i j => .bl (decide (i ≤ j))) := opB0 fun _ _ _ _ _ _ _ q => le_int q
theorem op_gt : OpR X (compareOp .Gt) (rI0 fun i j => .bl (decide (j < i))) := opB0 fun _ _ _ _ _ _ _ q => gt_int q
theorem op_in_str : OpR X (compareOp .In) (fun x y H Q => ∃ i j, x = .str i ∧ y = .str j ∧ Q (.bl (!(Builtin.Str.occurrences j i 0 j.length 1).isEmpty)) H) := by
  intro pins s σ H x y v u Q I rx ry h
  obtain ⟨i, j, rfl, rfl, q⟩ := h
  obtain ⟨t, rfl⟩ := rx
  obtain ⟨t', rfl⟩ := ry
  exact in_str (fin_bl I q rfl)

theorem OpR.or {f : Value → Value → Sem Value} {r r' : R2} (h : OpR X f r) (h' : OpR X f r') : OpR X f (fun x y H Q => r x y H Q ∨ r' x y H Q) := by
  intro pins s σ H x y v u Q I rx ry q
  rcases q with q | q
  · exact h pins s σ H x y v u Q I rx ry q
  · exact h' pins s σ H x y v u Q I rx ry q

theorem nomark (b : Expr) {op : CmpOp} (h : op ≠ .In := by decide) (h2 : op ≠ .NotIn := by decide) : behindInMarks op b = false := by
  have e1 : (op == CmpOp.In) = false := by cases op <;> first | rfl | exact absurd rfl h
  have e2 : (op == CmpOp.NotIn) = false := by cases op <;> first | rfl | exact absurd rfl h2
  cases b <;> simp [behindInMarks, e1, e2]
theorem pe_cmpR {op : CmpOp} {r : R2} (ho : OpR X (compareOp op) r) (ha : PE X a ta) (hb : PE X b tb) (hm : behindInMarks op b = false) : PE X (.Compare a [op] [b] pos) (tOp r ta tb) := by
  intro pins s σ H Q I h
  exact wpAny_Compare1 (binT ha hb I h fun v u s2 x y H2 I2 rx ry q => ho pins s2 σ H2 x y v u Q I2 rx ry q) hm
noncomputable def tTest (t : TE) : TT := fun σ H Q => t σ H fun x H' => ∃ k, x = .bl k ∧ Q k H'
theorem pt_cmpR {op : CmpOp} {r : R2} (ho : OpR X (compareOp op) r) (ha : PE X a ta) (hb : PE X b tb) (hm : behindInMarks op b = false) : PT X (.Compare a [op] [b] pos) (tTest (tOp r ta tb)) := by
  intro pins s σ H Q I h
  refine wpAny_isTrue_Compare1 (thn (ha pins s σ H _ I h) fun v s1 ⟨x, H1, I1, r1, q1⟩ => thn (hb pins s1 σ H1 _ I1 q1) fun u s2 ⟨y, H2, I2, r2, q2⟩ =>
    thn (ho pins s2 σ H2 x y v u _ I2 r1 r2 q2) fun c s3 ⟨z, H3, I3, r3, k, e, q3⟩ => ?_) hm
  subst e
  cases r3
  exact wpAny_truthy_bool ⟨H3, I3, q3⟩
noncomputable def tChain (r r' : R2) (ta tb tc : TE) : TE := fun σ H Q => ta σ H fun x H1 => tb σ H1 fun y H2 => r x y H2 fun z H3 => ∃ k, z = .bl k ∧
  (if k = true then tc σ H3 fun w' H4 => r' y w' H4 Q else Q (.bl false) H3)
theorem pe_chain {op op' : CmpOp} {r r' : R2} (ho : OpR X (compareOp op) r) (ho' : OpR X (compareOp op') r') (ha : PE X a ta) (hb : PE X b tb) (hc : PE X c tc)
    (hm : lastMarks [op, op'] [b, c] = false := by with_unfolding_all rfl) : PE X (.Compare a [op, op'] [b, c] pos) (tChain r r' ta tb tc) := by
  intro pins s σ H Q I h
  refine Compare_chain (thn (ha pins s σ H _ I h) fun v s1 ⟨x, H1, I1, r1, q1⟩ => chain_link (thn (hb pins s1 σ H1 _ I1 q1) fun u s2 ⟨y, H2, I2, r2, q2⟩ =>
    thn (ho pins s2 σ H2 x y v u _ I2 r1 r2 q2) fun d s3 ⟨z, H3, I3, r3, k, e, q3⟩ => ?_)) hm
  subst e
  cases r3
  refine wpAny_truthy_bool ?_
  cases k with
  | false => exact ite_ff ⟨.bl false, H3, I3, rfl, q3⟩
  | true => exact ite_tt (chain_last (thn (hc pins s3 σ H3 _ I3 q3) fun w' s4 ⟨z', H4, I4, r4, q4⟩ => ho' pins s4 σ H4 y z' u w' Q I4 r2 r4 q4))
theorem line63 : (sizeLine : Nat) < 2 ^ 63 := by rw [sizeLine_eq]; decide
theorem op_add_str : OpR X (binaryOp .Add) (fun x y H Q => ∃ i j, x = .str i ∧ y = .str j ∧ i.length + j.length ≤ sizeLine ∧ Q (.str (i ++ j)) H) := by
  intro pins s σ H x y v u Q I rx ry h
  obtain ⟨i, j, rfl, rfl, hz, q⟩ := h
  obtain ⟨t, rfl⟩ := rx
  obtain ⟨t', rfl⟩ := ry
  exact add_str (fun t' tk => ⟨.str (i ++ j), H, I.tok _, ⟨_, rfl⟩, q⟩) hz
theorem vals1 {x : V} {us : List Value} (r : Vals [x] us) : ∃ u, us = [u] ∧ RelV x u := by
  cases r with
  | cons r1 r2 => cases r2; exact ⟨_, rfl, r1⟩
theorem vals2 {x y : V} {us : List Value} (r : Vals [x, y] us) : ∃ u w', us = [u, w'] ∧ RelV x u ∧ RelV y w' := by
  cases r with
  | cons r1 r2 =>
    cases r2 with
    | cons r3 r4 => cases r4; exact ⟨_, _, rfl, r1, r3⟩
theorem call_int1 : CallR X (.type "int") (fun xs H Q => (∃ i, xs = [.int i] ∧ Q (.int i) H) ∨ ∃ k, xs = [.bl k] ∧ Q (.int (if k then 1 else 0)) H) := by
  intro pins s σ H xs us Q I r h
  rcases h with ⟨i, rfl, q⟩ | ⟨k, rfl, q⟩
  · obtain ⟨u, rfl, t, rfl⟩ := vals1 r
    exact call_int_int ⟨.int i, H, I, ⟨_, rfl⟩, q⟩
  · obtain ⟨u, rfl, r1⟩ := vals1 r
    cases r1
    exact call_int_bool ⟨.int (if k then 1 else 0), H, I.tok _, ⟨_, rfl⟩, q⟩
end
end L2

namespace L2
open PySem PySem.Spec PyProof.Rows

structure ObjM (h : Heap) (x dx C : Addr) (mA : Str → Option Value) : Prop where
  obj : h.get? x = some (PySem.W.instObj C dx)
  ns : h.Ns1 dx mA
  ne : dx ≠ x

theorem lookIn_ns {h : Heap} {dx : Addr} {mA : Str → Option Value} (n : h.Ns1 dx mA) : ∃ od, h.get? dx = some od ∧ ∀ name, PySem.W.lookIn name od = some (mA name) := by
  obtain ⟨o, es, ep, ho, hd, hk, _, hm⟩ := n
  refine ⟨o, ho, fun name => ?_⟩
  have e := hm name
  unfold nsFind findBy at e
  rw [← Array.find?_toList] at e
  unfold PySem.W.lookIn
  rw [hd]
  dsimp only
  split
  · rename_i y q
    rw [q] at e
    exact congrArg some e
  · rename_i q
    rw [q] at e
    have a : es.toList.any (·.refKey) = false := by
      rw [List.any_eq_false]
      intro y hy
      obtain ⟨z, t, hkey⟩ := hk y (Array.mem_toList_iff.mp hy)
      simp [DictEntry.refKey, hkey]
    have a' : ¬ es.toList.any (·.refKey) = true := by rw [a]; exact Bool.false_ne_true
    rw [if_neg a']
    exact congrArg some e

theorem ObjM.look {h : Heap} {x dx C : Addr} {mA : Str → Option Value} (I : ObjM h x dx C mA) : ∃ od, PySem.W.InstAt h x (PySem.W.instObj C dx) C (some od) ∧ ∀ name, PySem.W.lookIn name od = some (mA name) :=
  let ⟨od, ho, hl⟩ := lookIn_ns I.ns
  ⟨od, ⟨I.obj, rfl, rfl, ho⟩, hl⟩

section
variable {prog : Program} {w : World} {A : Around} {E : Value → Shared → Prop} {s : Shared} {K : PySem.W.Frag} {x dx C f : Addr} {mA : Str → Option Value} {name : Str} {v : Value}

theorem get_map {expr : Bool} {Q : Value → Shared → Prop} (X : K.In s.heap) (I : ObjM s.heap x dx C mA) (hg : PySem.W.plainGet K C name = true) (hh : PySem.W.hasDictIn K C = true)
    (ha : PySem.W.findIn K (.ref C) name = some none) (hv : mA name = some v) (hv' : PySem.W.handedIn v = true) (h : Q v { s with toks := s.toks + 1 }) :
    wpAny (model prog w) A (getAttr (.ref x) name expr) Q E s := by
  obtain ⟨od, J, hl⟩ := I.look
  exact PySem.W.get_value X J (PySem.W.plainGet_of hg).1 (PySem.W.findObj_own hh ha rfl (by rw [hl, hv])) hv' h

theorem get_meth {pl : Sem Bool} {Q : Value × List Value → Shared → Prop} (X : K.In s.heap) (I : ObjM s.heap x dx C mA) (hg : PySem.W.plainGet K C name = true)
    (hf : PySem.W.findIn K (.ref C) name = some (some (.ref f))) (ht : PySem.W.isFn K (.ref f) = true) (hv : mA name = none) (h : Q (.ref f, [.ref x]) s) :
    wpAny (model prog w) A (getMethod (.ref x) name pl) Q E s := by
  obtain ⟨od, J, hl⟩ := I.look
  exact PySem.W.method_fn X J (PySem.W.plainGet_of hg).1 (PySem.W.plainGet_of hg).2 hf (beq_iff_eq.mp ht) (by show (PySem.W.lookIn name od).map (·.isSome) = some false; rw [hl, hv]; rfl) h

theorem set_map {ns : List Str} {Q : Unit → Shared → Prop} (X : K.In s.heap) (I : ObjM s.heap x dx C mA)
    (hs : PySem.W.findIn K (.ref C) "__setattr__" = some (some (.builtin "object.__setattr__"))) (hp : PySem.W.plainOver K C = true) (ht : PySem.W.takerIn K C name = some none) (hh : PySem.W.hasDictIn K C = true)
    (hw : PySem.Within mA ns) (hsz : ns.length ≤ sizeLine)
    (h : ∀ h', ObjM h' x dx C (fun y => if y = name then some v else mA y) → Heap.SameBut dx s.heap h' → Q () { s with heap := h', toks := s.toks + 2 }) :
    wpAny (model prog w) A (setAttr (.ref x) name v) Q E s := by
  obtain ⟨od, J, hl⟩ := I.look
  refine PySem.W.set_plain X J hs (PySem.W.osa_open (s := { s with toks := s.toks + 1 }) (r := none) X J hp ht fun b => ?_)
  obtain ⟨cd, hc, hd'⟩ := PySem.W.any_some hh
  have hx : s.heap.get? x = some ⟨.ref C, some dx, .plain, #[]⟩ := I.obj
  refine wpAny_bind (wpAny_pure (wpAny_bind (wpAny_bind (wpAny_loadPart hx (wpAny_bind (PySem.W.Looks.here (s := { s with toks := s.toks + 1 }) (PySem.W.looks_clsIn X hc) ?_))))))
  rw [hd']
  refine wpAny_pure (a := some dx) (wpAny_bind (wpAny_pure (wpAny_bind ?_)))
  refine wpAny_nsSet1 (s := { s with toks := s.toks + 1 }) I.ns fun h' hn2 hs2 => ?_
  obtain ⟨oD, esD, epD, hoD, hdD, hcD⟩ := hn2.count (PySem.Within.cons name v hw)
  refine wpAny_bind (wpAny_lookBehind hoD (by rw [hdD]; exact pastItsLine_dict (Nat.le_trans hcD (by rw [List.length_cons]; omega))) ?_)
  exact wpAny_pure (h _ ⟨(hs2.2 _ (Ne.symm I.ne)).trans I.obj, hn2, I.ne⟩ hs2)

theorem make_map {R : Result → Shared → Prop} {vs : List Value} {kw : List (Str × Value)} (X : K.In s.heap) (hm : PySem.W.makesIn K C = true)
    (hi : PySem.W.findIn K (.ref C) "__init__" = some (some (.ref f))) (hf : PySem.W.typeIn K (.ref f) = some (.type "function"))
    (h : codeAny (model prog w) (A.under (.builtin "type.__call__" ⟨.ref C :: vs, kw⟩)) (.call (.ref f) ⟨.ref (s.heap.objs.size + 1) :: vs, kw⟩) (PySem.W.InitBack (s.heap.objs.size + 1) R)
      { s with heap := (s.heap.push PySem.W.emptyDict).push (PySem.W.instObj C s.heap.objs.size) }) :
    codeAny (model prog w) A (.call (.ref C) ⟨vs, kw⟩) R s := by
  obtain ⟨hh, g, d, t, os⟩ := s
  exact PySem.W.make_core (PySem.W.makes_of X hm) (PySem.W.looks_findIn X hi) (fun self => PySem.W.bind_fn X self hf) (.inl rfl) h
end

noncomputable def putF (f : Str) (v : V) : List (Str × V) → List (Str × V)
  | [] => [(f, v)]
  | (g, x) :: r => if g = f then (g, v) :: r else (g, x) :: putF f v r
theorem lookup_putF (f g : Str) (v : V) : ∀ fs : List (Str × V), (putF f v fs).lookup g = if g = f then some v else fs.lookup g
  | [] => by
    show List.lookup g [(f, v)] = _
    by_cases h : g = f
    · have hb : (g == f) = true := beq_iff_eq.mpr h
      simp only [List.lookup, hb, if_pos h]
    · have hb : (g == f) = false := beq_eq_false_iff_ne.mpr h
      simp only [List.lookup, hb, if_neg h]
  | (k, x) :: r => by
    have ih := lookup_putF f g v r
    rw [show putF f v ((k, x) :: r) = (if k = f then (k, v) :: r else (k, x) :: putF f v r) from rfl]
    by_cases hk : k = f
    · rw [if_pos hk]
      by_cases h : g = k
      · have hb : (g == k) = true := beq_iff_eq.mpr h
        simp only [List.lookup, hb, if_pos (h.trans hk)]
      · have hb : (g == k) = false := beq_eq_false_iff_ne.mpr h
        simp only [List.lookup, hb, if_neg (fun e : g = f => h (e.trans hk.symm))]
    · rw [if_neg hk]
      by_cases h : g = k
      · have hb : (g == k) = true := beq_iff_eq.mpr h
        simp only [List.lookup, hb, if_neg (fun e : g = f => hk (h.symm.trans e))]
      · have hb : (g == k) = false := beq_eq_false_iff_ne.mpr h
        simp only [List.lookup, hb]
        exact ih
theorem keys_putF (f : Str) (v : V) : ∀ fs : List (Str × V), f ∈ (putF f v fs).map (·.1) ∧ ∀ g, g ∈ fs.map (·.1) → g ∈ (putF f v fs).map (·.1)
  | [] => ⟨by simp [putF], fun g h => by simp at h⟩
  | (k, x) :: r => by
    obtain ⟨i1, i2⟩ := keys_putF f v r
    rw [show putF f v ((k, x) :: r) = (if k = f then (k, v) :: r else (k, x) :: putF f v r) from rfl]
    by_cases hk : k = f
    · rw [if_pos hk]
      subst hk
      exact ⟨by simp, fun g h => by simpa using h⟩
    · rw [if_neg hk]
      refine ⟨?_, fun g h => ?_⟩
      · rw [List.map_cons]
        exact List.mem_cons_of_mem _ i1
      · rw [List.map_cons] at h ⊢
        rcases List.mem_cons.mp h with e | e
        · exact List.mem_cons.mpr (.inl e)
        · exact List.mem_cons_of_mem _ (i2 g e)
theorem length_putF (f : Str) (v : V) : ∀ fs : List (Str × V), (putF f v fs).length ≤ fs.length + 1
  | [] => by simp [putF]
  | (k, x) :: r => by
    have ih := length_putF f v r
    rw [show putF f v ((k, x) :: r) = (if k = f then (k, v) :: r else (k, x) :: putF f v r) from rfl]
    by_cases hk : k = f
    · rw [if_pos hk, List.length_cons, List.length_cons]; omega
    · rw [if_neg hk, List.length_cons, List.length_cons]; omega

theorem RelO.some_of {v : V} {o : Option Value} (r : RelO (some v) o) : ∃ u, o = some u ∧ RelV v u := by
  cases o with
  | none => exact (show False from r).elim
  | some u => exact ⟨u, rfl, r⟩
theorem RelO.none_of {o : Option Value} (r : RelO none o) : o = none := by
  cases o with
  | none => rfl
  | some u => exact (show False from r).elim
theorem handed_of {v : V} {u : Value} (r : RelV v u) : PySem.W.handedIn u = true := by
  cases v with
  | non => cases (show u = Value.none from r); rfl
  | bl b => cases (show u = Value.bool b from r); rfl
  | int i => obtain ⟨t, e⟩ := (show ∃ t, u = Value.int i t from r); cases e; rfl
  | str x => obtain ⟨t, e⟩ := (show ∃ t, u = Value.str x t from r); cases e; rfl
  | byt b => obtain ⟨t, e⟩ := (show ∃ t, u = Value.bytes b t from r); cases e; rfl
  | flt b => obtain ⟨t, e⟩ := (show ∃ t, u = Value.float b t from r); cases e; rfl
  | ref a => cases (show u = Value.ref a from r); rfl
  | ty n => cases (show u = Value.type n from r); rfl

section
variable {P : Program} {w : World} {H H' : Hp} {h h' : Heap} {a C dx : Addr} {fs fs' : List (Str × V)}
theorem ins_get (hok : HOk P w H h) (e : H a = some (.ins C dx fs)) : ∃ mA, ObjM h a dx C mA ∧ (∀ f, RelO (fs.lookup f) (mA f)) ∧ PySem.Within mA (fs.map (·.1)) ∧ fs.length ≤ 1000 ∧ H dx = some (.own a) := by
  obtain ⟨d, z, ne, ob, mA, n, r, q⟩ := (show ObjOk P w H h a (.ins C dx fs) from hok a _ e)
  exact ⟨mA, ⟨ob, n, ne⟩, r, q, z, d⟩
end

structure Cls (K : PySem.W.Frag) (C : Addr) : Prop where
  pg : PySem.W.plainGet K C Str.empty = true
  hd : PySem.W.hasDictIn K C = true
  po : PySem.W.plainOver K C = true
  sa : PySem.W.findIn K (.ref C) "__setattr__" = some (some (.builtin "object.__setattr__"))
theorem Cls.get {K : PySem.W.Frag} {C : Addr} (c : Cls K C) (f : Str) : PySem.W.plainGet K C f = true := c.pg
noncomputable def NoAttr (K : PySem.W.Frag) (C : Addr) (f : Str) : Prop := PySem.W.findIn K (.ref C) f = some none
theorem NoAttr.taker {K : PySem.W.Frag} {C : Addr} {f : Str} (n : NoAttr K C f) : PySem.W.takerIn K C f = some none := by
  unfold PySem.W.takerIn
  rw [show PySem.W.findIn K (.ref C) f = some none from n]
  rfl
structure Meth (K : PySem.W.Frag) (C : Addr) (m : Str) (f : Addr) : Prop where
  at_ : PySem.W.findIn K (.ref C) m = some (some (.ref f))
  fn : PySem.W.isFn K (.ref f) = true
  kp : PySem.W.keepIn K (.ref f) = true

section
variable {X : Cx} {pins : List (Addr × Obj)} {σ : St} {H : Hp} {s : Shared} {a C dx : Addr} {fs : List (Str × V)} {f : Str} {v : V} {A : Around} {E : Value → Shared → Prop}

theorem getattr_ok {b : Bool} {Q : Value → Shared → Prop} (I : Inv X pins σ H s) (e : H a = some (.ins C dx fs)) (c : Cls X.K C) (n : NoAttr X.K C f) (l : fs.lookup f = some v)
    (h : ∀ u s', Inv X pins σ H s' → RelV v u → Q u s') : wpAny (model X.prog X.w) A (getAttr (.ref a) f b) Q E s := by
  obtain ⟨mA, O, r, _, _, _⟩ := ins_get I.hok e
  obtain ⟨u, hu, ru⟩ := RelO.some_of (v := v) (o := mA f) (by rw [← l]; exact r f)
  exact get_map I.kIn O (c.get f) c.hd n hu (handed_of ru) (h u _ (I.tok _) ru)

theorem getmeth_ok {m : Str} {g : Addr} {pl : Sem Bool} {Q : Value × List Value → Shared → Prop} (I : Inv X pins σ H s) (e : H a = some (.ins C dx fs)) (c : Cls X.K C) (k : Meth X.K C m g) (l : fs.lookup m = none)
    (h : Q (.ref g, [.ref a]) s) : wpAny (model X.prog X.w) A (getMethod (.ref a) m pl) Q E s := by
  obtain ⟨mA, O, r, _, _, _⟩ := ins_get I.hok e
  have hn : mA m = none := RelO.none_of (by rw [← l]; exact r m)
  exact get_meth I.kIn O (c.get m) k.at_ k.fn hn h

theorem setattr_ok {y : V} {u : Value} {Q : Unit → Shared → Prop} (I : Inv X pins σ H s) (e : H a = some (.ins C dx fs)) (c : Cls X.K C) (n : NoAttr X.K C f) (hl : fs.length < 1000) (ry : RelV y u)
    (h : ∀ s', Inv X pins σ (upd H a (.ins C dx (putF f y fs))) s' → Q () s') : wpAny (model X.prog X.w) A (setAttr (.ref a) f u) Q E s := by
  obtain ⟨mA, O, r, wi, _, ho⟩ := ins_get I.hok e
  have hz : (fs.map (·.1)).length ≤ sizeLine := by rw [List.length_map, sizeLine_eq]; omega
  refine set_map I.kIn O c.sa c.po n.taker c.hd wi hz fun h' O' sb => h _ ?_
  have hd : ∃ o, h'.get? dx = some o := let ⟨o, _, _, e', _⟩ := O'.ns; ⟨o, e'⟩
  refine I.write (x := a) (e := dx) (by rw [e]; exact True.intro) (.inr ho) (fun b q hb z => (sb.2 b hb).trans z) hd ?_
  refine ⟨by rw [upd_ne O.ne]; exact ho, ?_, O.ne, O'.obj, _, O'.ns, fun g => ?_, fun g hg => ?_⟩
  · have := length_putF f y fs; omega
  · show RelO ((putF f y fs).lookup g) (if g = f then some u else mA g)
    rw [lookup_putF]
    by_cases q : g = f
    · rw [if_pos q, if_pos q]; exact ry
    · rw [if_neg q, if_neg q]; exact r g
  · by_cases q : g = f
    · rw [q]; exact (keys_putF f y fs).1
    · refine (keys_putF f y fs).2 g (wi g fun z => hg ?_)
      show (if g = f then some u else mA g) = none
      rw [if_neg q]; exact z

theorem Inv.made (I : Inv X pins σ H s) : Inv X pins σ (upd (upd H s.heap.objs.size (.own (s.heap.objs.size + 1))) (s.heap.objs.size + 1) (.ins C s.heap.objs.size []))
    { s with heap := (s.heap.push PySem.W.emptyDict).push (PySem.W.instObj C s.heap.objs.size) } := by
  have e1 : (s.heap.push PySem.W.emptyDict).get? s.heap.objs.size = some PySem.W.emptyDict := Heap.get?_push_size s.heap rfl
  have e2 : ((s.heap.push PySem.W.emptyDict).push (PySem.W.instObj C s.heap.objs.size)).get? (s.heap.objs.size + 1) = some (PySem.W.instObj C s.heap.objs.size) := by
    have := Heap.get?_push_size (s.heap.push PySem.W.emptyDict) (o := PySem.W.instObj C s.heap.objs.size) rfl
    rwa [Heap.size_push] at this
  have e3 : (s.heap.push PySem.W.emptyDict).Ns s.heap.objs.size (fun _ => none) := ⟨PySem.W.emptyDict, #[], _, e1, rfl, (fun e he => absurd he (by simp)), fun _ => rfl⟩
  have I1 := I.laid (a := s.heap.objs.size) (o := .own (s.heap.objs.size + 1)) (h' := s.heap.push PySem.W.emptyDict) (t' := s.toks) (fun b u q => Heap.get?_push_of_some _ q) (Nat.le_refl _) ⟨_, e1⟩
  refine I1.laid (a := s.heap.objs.size + 1) (o := .ins C s.heap.objs.size []) (t' := s.toks) (fun b u q => Heap.get?_push_of_some _ q) (Nat.le_of_eq (Heap.size_push _ _)) ?_
  have ne : s.heap.objs.size ≠ s.heap.objs.size + 1 := Nat.ne_of_lt (Nat.lt_succ_self _)
  refine ⟨by rw [upd_ne ne, upd_same], Nat.zero_le _, ne, e2, fun _ => none, (Heap.Ns1.of_empty e3).at fun o q => Heap.get?_push_of_some _ q, fun _ => True.intro, fun y hy => absurd rfl hy⟩

theorem attr_of {prog : Program} {w : World} {env : Env} {e : Expr} {f : Str} {pos : Pos} {s : Shared} {Q : Value → Shared → Prop} (hb : attributeBase e f env (eval e env) = eval e env)
    (h : wpAny (model prog w) A (eval e env) (fun o s₁ => wpAny (model prog w) A (getAttr o f true) Q E s₁) E s) : wpAny (model prog w) A (eval (.Attribute e f pos) env) Q E s :=
  Attribute_any_ h (by rw [arm_eval_Attribute, hb])
end

noncomputable def tFld (K : PySem.W.Frag) (ta : TE) (f : Str) : TE := fun σ H Q => ta σ H fun x H1 => ∃ a C dx fs v, x = .ref a ∧ H1 a = some (.ins C dx fs) ∧ Cls K C ∧ NoAttr K C f ∧ fs.lookup f = some v ∧ Q v H1
noncomputable def sFld (K : PySem.W.Frag) (ta tv : TE) (f : Str) : TS := fun D σ H => tv σ H fun y H1 => ta σ H1 fun x H2 => ∃ a C dx fs, x = .ref a ∧ H2 a = some (.ins C dx fs) ∧ Cls K C ∧ NoAttr K C f ∧ fs.length < 1000 ∧
  D.nx σ (upd H2 a (.ins C dx (putF f y fs)))
section
variable {X : Cx} {o e value : Expr} {f : Str} {pos pos' tpos : Pos} {ta tv : TE}
theorem pe_fld (he : PE X e ta) (hb : attributeBase e f X.env (eval e X.env) = eval e X.env) : PE X (.Attribute e f pos) (tFld X.K ta f) := by
  intro pins s σ H Q I h
  refine attr_of hb (thn (he pins s σ H _ I h) fun u s1 zz => ?_)
  obtain ⟨x, H1, I1, rx, a, C, dx, fs, v, ex, ea, c, n, l, q⟩ := zz
  subst ex
  obtain rfl : u = Value.ref a := rx
  exact getattr_ok I1 ea c n l fun u' s2 I2 ru => ⟨v, H1, I2, ru, q⟩
theorem ps_fld (ha : PE X o ta) (hv : PE X value tv) (hs : swapsWith value (some (.Attribute o f pos')) pos.line X.env = pure false) : PS X (.Assign [.Attribute o f pos'] value pos) (sFld X.K ta tv f) := by
  intro pins s σ H D I h
  refine plainObj_wpAny_Assign_Attribute (thn (hv pins s σ H _ I h) fun u s1 ⟨y, H1, I1, ry, q⟩ => thn (ha pins s1 σ H1 _ I1 q) fun ov s2 zz => ?_) hs
  obtain ⟨x, H2, I2, rx, a, C, dx, fs, ex, ea, c, n, l, q2⟩ := zz
  subst ex
  obtain rfl : ov = Value.ref a := rx
  exact setattr_ok I2 ea c n l ry fun s3 I3 => ⟨σ, _, I3, q2⟩
end

section
variable {X : Cx} {pins : List (Addr × Obj)} {σ : St} {H : Hp} {s : Shared} {A : Around} {E : Value → Shared → Prop} {Q : Value → Shared → Prop} {c : Value} {b : Bool}
inductive TyOf (K : PySem.W.Frag) (H : Hp) : V → Value → Prop where
  | non : TyOf K H .non (.type "NoneType")
  | bl (x : Bool) : TyOf K H (.bl x) (.type "bool")
  | int (i : Int) : TyOf K H (.int i) (.type "int")
  | str (x : Str) : TyOf K H (.str x) (.type "str")
  | flt (x : UInt64) : TyOf K H (.flt x) (.type "float")
  | lst {a : Addr} {xs : List V} (e : H a = some (.lst xs)) : TyOf K H (.ref a) (.type "list")
  | frz {a : Addr} {o : Obj} {xs : List V} (e : H a = some (.frz o (.lst xs))) : TyOf K H (.ref a) (.type "list")
  | tup {a : Addr} {xs : List V} (e : H a = some (.tup xs)) : TyOf K H (.ref a) (.type "tuple")
  | dK {a : Addr} {kvs : List (Key × V)} (e : H a = some (.dK kvs)) : TyOf K H (.ref a) (.type "dict")
  | dT {a : Addr} {kvs : List (List Key × V)} (e : H a = some (.dT kvs)) : TyOf K H (.ref a) (.type "dict")
  | ins {a C dx : Addr} {fs : List (Str × V)} (e : H a = some (.ins C dx fs)) (cl : Cls K C) (ha : PySem.W.findIn K (.ref C) "__class__" = some (some (.builtin "object.__class__")))
      (hn : PySem.W.specialIn K (.builtin "object.__class__") "__get__" = some (some (.builtin "getset_descriptor.__get__"))) (htk : PySem.W.takesIn K (.builtin "object.__class__") = some true)
      (hm : PySem.W.mroIn K C (.type "object") = some true) : TyOf K H (.ref a) (.ref C)
theorem isinst_ok {x : V} {u t : Value} (I : Inv X pins σ H s) (rx : RelV x u) (ty : TyOf X.K H x t) (e : PySem.W.kitOne X.K t c = some b) (h : ∀ tk, Q (.bool b) { s with toks := tk }) :
    wpAny (model X.prog X.w) A (call (.builtin "isinstance") [u, c]) Q E s := by
  cases ty with
  | non => cases (show u = Value.none from rx); exact PySem.W.kia_one PySem.W.kitx_none I.kIn True.intro e (fun z => nomatch z) h
  | bl y => cases (show u = Value.bool y from rx); exact PySem.W.kia_one PySem.W.kitx_bool I.kIn True.intro e (fun z => nomatch z) h
  | int i => obtain ⟨t, q⟩ := (show ∃ t, u = Value.int i t from rx); cases q; exact PySem.W.kia_one PySem.W.kitx_int I.kIn True.intro e (fun z => nomatch z) h
  | str y => obtain ⟨t, q⟩ := (show ∃ t, u = Value.str y t from rx); cases q; exact PySem.W.kia_one PySem.W.kitx_str I.kIn True.intro e (fun z => nomatch z) h
  | flt y => obtain ⟨t, q⟩ := (show ∃ t, u = Value.float y t from rx); cases q; exact PySem.W.kia_one PySem.W.kitx_float I.kIn True.intro e (fun z => nomatch z) h
  | @lst a xs ea =>
    cases (show u = Value.ref a from rx)
    obtain ⟨_, _, n, _, h1⟩ := (show ObjOk X.prog X.w H s.heap a (.lst xs) from I.hok a _ ea)
    exact PySem.W.kia_one PySem.W.kitx_list I.kIn ⟨_, h1, rfl⟩ e (fun z => nomatch z) h
  | @frz a ob xs ea =>
    cases (show u = Value.ref a from rx)
    obtain ⟨_, _, _, n, _, h1⟩ := (show ObjOk X.prog X.w H s.heap a (.frz ob (.lst xs)) from I.hok a _ ea)
    exact PySem.W.kia_one PySem.W.kitx_list I.kIn ⟨_, h1, rfl⟩ e (fun z => nomatch z) h
  | @tup a xs ea =>
    cases (show u = Value.ref a from rx)
    obtain ⟨_, _, _, p⟩ := (show ObjOk X.prog X.w H s.heap a (.tup xs) from I.hok a _ ea)
    obtain ⟨o, h1, h2, _⟩ := p
    exact PySem.W.kia_one PySem.W.kitx_tuple I.kIn ⟨o, h1, h2⟩ e (fun z => nomatch z) h
  | @dK a kvs ea =>
    cases (show u = Value.ref a from rx)
    obtain ⟨_, _, vs, _, p⟩ := (show ObjOk X.prog X.w H s.heap a (.dK kvs) from I.hok a _ ea)
    obtain ⟨o, es, ep, h1, h2, _⟩ := p
    exact PySem.W.kia_one PySem.W.kitx_dict I.kIn ⟨o, h1, h2.1⟩ e (fun z => nomatch z) h
  | @dT a kvs ea =>
    cases (show u = Value.ref a from rx)
    obtain ⟨_, _, xs, _, o, es, ep, h1, h2, _⟩ := (show ObjOk X.prog X.w H s.heap a (.dT kvs) from I.hok a _ ea)
    exact PySem.W.kia_one PySem.W.kitx_dict I.kIn ⟨o, h1, h2.1⟩ e (fun z => nomatch z) h
  | @ins a C dx fs ea cl ha hn htk hm =>
    cases (show u = Value.ref a from rx)
    obtain ⟨mA, O, _⟩ := ins_get I.hok ea
    obtain ⟨od, J, _⟩ := O.look
    exact PySem.W.kia_one (PySem.W.kitx_own (cl.get _) cl.hd ha hn htk hm) I.kIn J e (fun z => nomatch z) h
end
end L2

namespace L2
open PySem PySem.Spec PyProof.Rows

structure Room (k : Nat) (A : Around) : Prop where
  hd : A.handled = none
  dp : A.depth + 3 * k + 5 < recursionLimit
  un : A.units + 16 * k + 200 < cLine
theorem Room.mono {j k : Nat} {A : Around} (r : Room k A) (h : j ≤ k) : Room j A := ⟨r.hd, by have := r.dp; omega, by have := r.un; omega⟩
theorem Room.deeper {k : Nat} {A : Around} (r : Room (k + 1) A) (env : Env) : Room k (A.deeper env) :=
  ⟨r.hd, by have := r.dp; show A.depth + 1 + 3 * k + 5 < _; omega, by have := r.un; show A.units + 3 + 16 * k + 200 < _; omega⟩
theorem Room.in1 {k : Nat} {A : Around} (r : Room (k + 1) A) : Room k A.in1 :=
  ⟨r.hd, by have := r.dp; show A.depth + 3 * k + 5 < _; omega, by have := r.un; show A.units + 1 + 16 * k + 200 < _; omega⟩
theorem make_depth {A : Around} {C : Addr} {us : List Value} {kw : List (Str × Value)} : (A.under (.builtin "type.__call__" ⟨.ref C :: us, kw⟩)).depth = A.depth + 1 := by
  first | rfl | simp [Around.under, Code.weight, Code.isCreation, Code.isGuard, Code.isCaller, Code.frames, Code.isFrame, guardIds]
theorem make_units {A : Around} {C : Addr} {us : List Value} {kw : List (Str × Value)} : (A.under (.builtin "type.__call__" ⟨.ref C :: us, kw⟩)).units = A.units + 1 := by
  first | rfl | simp [Around.under, Code.cUnits, Code.frames, Code.isFrame]
theorem Room.make {k : Nat} {A : Around} (r : Room (k + 1) A) (C : Addr) (us : List Value) (kw : List (Str × Value)) : Room k (A.under (.builtin "type.__call__" ⟨.ref C :: us, kw⟩)) :=
  ⟨r.hd, by have := r.dp; rw [make_depth]; omega, by have := r.un; rw [make_units]; omega⟩
theorem Room.depth {k : Nat} {A : Around} (r : Room k A) : A.depth < recursionLimit := by have := r.dp; omega
theorem Room.units {k : Nat} {A : Around} (r : Room k A) : A.units + 64 < cLine := by have := r.un; omega
theorem Room.units0 {k : Nat} {A : Around} (r : Room k A) : A.units < cLine := by have := r.un; omega

noncomputable def tNil : TA := fun _ H Q => Q [] H
noncomputable def tCons (ta : TE) (tr : TA) : TA := fun σ H Q => ta σ H fun x H1 => tr σ H1 fun xs H2 => Q (x :: xs) H2
section
variable {X : Cx} {e : Expr} {es : List Expr} {te : TE} {t : TA} {pos : Pos}
theorem pa_nil : PA X [] tNil := fun _ _ _ _ H Q I h => Calls.spliced_nil ⟨[], H, I, .nil, h⟩
theorem pa_cons (ha : PE X e te) (hr : PA X es t) (hs : starEach (e :: es) X.env = (false, eval e X.env) :: starEach es X.env := by rfl) : PA X (e :: es) (tCons te t) := by
  intro pos pins s σ H Q I h
  rw [hs]
  show wpAny _ _ (spliced ((false, eval e X.env) :: backTo pos (starEach es X.env))) _ _ s
  refine Calls.spliced_cons (thn (ha pins s σ H _ I h) fun u s1 ⟨x, H1, I1, r1, q1⟩ => ?_)
  exact thn (hr pos pins s1 σ H1 _ I1 q1) fun us s2 ⟨xs, H2, I2, r2, q2⟩ => ⟨x :: xs, H2, I2, .cons r1 r2, q2⟩

noncomputable def tTup (t : TA) : TE := fun σ H Q => t σ H fun xs H1 => xs.length ≤ sizeLine ∧ ∀ p, H1 p = none → Q (.ref p) (upd H1 p (.tup xs))
noncomputable def tLst (t : TA) : TE := fun σ H Q => t σ H fun xs H1 => xs.length ≤ sizeLine ∧ ∀ p, H1 p = none → Q (.ref p) (upd H1 p (.lst xs))
theorem pe_tup {x1} (h : PA X es t) : PE X (.Tuple es x1 pos) (tTup t) := by
  intro pins s σ H Q I hq
  refine wpAny_Tuple_spliced (thn (h pos pins s σ H _ I hq) fun us s1 ⟨xs, H1, I1, r, z, q⟩ => ⟨by rw [← r.length]; exact z, ?_⟩)
  have hf : H1 s1.heap.objs.size = none := I1.hok.fresh (Nat.le_refl _)
  refine ⟨.ref s1.heap.objs.size, upd H1 s1.heap.objs.size (.tup xs), I1.laid (t' := s1.toks) (fun b u e => Heap.get?_push_of_some _ e) (Nat.le_refl _) ?_, rfl, q _ hf⟩
  exact ⟨z, us, r, ⟨_, Heap.get?_push_size _ rfl, rfl, _, rfl⟩⟩
theorem pe_lst (h : PA X es t) : PE X (.List es pos) (tLst t) := by
  intro pins s σ H Q I hq
  refine wpAny_List_spliced (thn (h pos pins s σ H _ I hq) fun us s1 ⟨xs, H1, I1, r, z, q⟩ => ⟨by rw [← r.length]; exact z, ?_⟩)
  have hf : H1 s1.heap.objs.size = none := I1.hok.fresh (Nat.le_refl _)
  refine ⟨.ref s1.heap.objs.size, upd H1 s1.heap.objs.size (.lst xs), I1.laid (t' := s1.toks) (fun b u e => Heap.get?_push_of_some _ e) (Nat.le_refl _) ?_, rfl, q _ hf⟩
  exact ⟨z, us, 0, r, Heap.get?_push_size _ rfl⟩
end

noncomputable abbrev Sp := List V → Hp → VK → XK → Prop
noncomputable abbrev CXT := List Env → Hp → Shared → XK → Value → Shared → Prop

structure Env0 (P : Program) (w : World) (K : PySem.W.Frag) (mg : Str → Option Value) (base : Heap) (A : Around) (outer : List Env) (s : Shared) (H : Hp) : Prop where
  frames : A.frames = some outer
  mod : Mod K mg base
  bs : ∀ b o, base.get? b = some o → s.heap.get? b = some o ∧ H b = none
  bsz : base.objs.size ≤ s.heap.objs.size
  funs : s.heap.FunFrames base outer
  frf : ∀ b ∈ frs outer, H b = none
  hok : HOk P w H s.heap
  bare : AllBare s.gens
noncomputable def CE (outer : List Env) (P : Program) (w : World) (H : Hp) (s : Shared) (Q : VK) (u : Value) (s' : Shared) : Prop :=
  ∃ v H', s'.os = s.os ∧ AllBare s'.gens ∧ Un (frs outer) [] H H' s.heap s'.heap ∧ HOk P w H' s'.heap ∧ RelV v u ∧ Q v H'
noncomputable def CR (CX : CXT) (outer : List Env) (P : Program) (w : World) (H : Hp) (s : Shared) (Q : VK) (E : XK) (r : Result) (s' : Shared) : Prop :=
  match r with
  | .ok (.ret u) => CE outer P w H s Q u s'
  | .ok _ => False
  | .error e => CX outer H s E e s'
structure FnOk (P : Program) (w : World) (K : PySem.W.Frag) (mg : Str → Option Value) (base : Heap) (CX : CXT) (k : Nat) (f : Addr) (fd : FuncData) (ps : List Str) (sp : Sp) : Prop where
  len : ∀ vs H Q E, sp vs H Q E → vs.length = ps.length
  run : ∀ (A : Around) (outer : List Env) (s : Shared) (H : Hp) (args : Args) (us : List Value) (vs : List V) (Q : VK) (E : XK), Room k A → Env0 P w K mg base A outer s H → BindsTo s fd args (ps.zip us) → Vals vs us → sp vs H Q E →
    codeAny (model P w) A (.call (.ref f) args) (CR CX outer P w H s Q E) s
theorem FnOk.mono {P : Program} {w : World} {K : PySem.W.Frag} {mg : Str → Option Value} {base : Heap} {CX : CXT} {j k : Nat} {f : Addr} {fd : FuncData} {ps : List Str} {sp : Sp} (F : FnOk P w K mg base CX j f fd ps sp) (h : j ≤ k) :
    FnOk P w K mg base CX k f fd ps sp := ⟨F.len, fun A outer s H args us vs Q E hr => F.run A outer s H args us vs Q E (hr.mono h)⟩
theorem Env0.make {P : Program} {w : World} {K : PySem.W.Frag} {mg : Str → Option Value} {base : Heap} {A : Around} {outer : List Env} {s : Shared} {H : Hp} (e : Env0 P w K mg base A outer s H) (C : Addr) (us : List Value) (kw : List (Str × Value)) :
    Env0 P w K mg base (A.under (.builtin "type.__call__" ⟨.ref C :: us, kw⟩)) outer s H := ⟨by first | exact e.frames | (simpa [Around.under, Code.envs, Code.isFrame, pushEnvs] using e.frames), e.mod, e.bs, e.bsz, e.funs, e.frf, e.hok, e.bare⟩
theorem Env0.in1 {P : Program} {w : World} {K : PySem.W.Frag} {mg : Str → Option Value} {base : Heap} {A : Around} {outer : List Env} {s : Shared} {H : Hp} (e : Env0 P w K mg base A outer s H) :
    Env0 P w K mg base A.in1 outer s H := ⟨e.frames, e.mod, e.bs, e.bsz, e.funs, e.frf, e.hok, e.bare⟩

section
variable {X : Cx} {pins : List (Addr × Obj)} {σ : St} {H : Hp} {s s' : Shared}
theorem Inv.env0 (I : Inv X pins σ H s) : Env0 X.prog X.w X.K X.mg X.base X.A X.stack s H :=
  ⟨I.ok.frames, I.ok.mod, I.bs, Nat.le_trans I.ok.bsz I.sz, I.stack, I.stkFree, I.hok, I.bare⟩
theorem Inv.after {Q : VK} {u : Value} (I : Inv X pins σ H s) (h : CE X.stack X.prog X.w H s Q u s') : EP X pins σ Q u s' := by
  obtain ⟨v, H', os, bare, un, hok, r, q⟩ := h
  obtain ⟨hh, g, d, t, os'⟩ := s'
  obtain rfl : os' = s.os := os
  exact ⟨v, H', I.call (h' := hh) (g' := g) (d' := d) (t' := t) (ch := []) un hok bare (fun b z => absurd z (by simp)), r, q⟩
end

noncomputable def tCall (sp : Sp) (dvs : List V) (E : XK) (t : TA) : TE := fun σ H Q => t σ H fun vs H1 => sp (vs ++ dvs) H1 Q E
noncomputable def tMeth (C : Addr) (m : Str) (sp : Sp) (dvs : List V) (E : XK) (ta : TE) (t : TA) : TE := fun σ H Q => ta σ H fun x H1 => ∃ a dx fs, x = .ref a ∧ H1 a = some (.ins C dx fs) ∧ fs.lookup m = none ∧
  t σ H1 fun vs H2 => sp (x :: (vs ++ dvs)) H2 Q E
noncomputable def tMake (C : Addr) (sp : Sp) (dvs : List V) (E : XK) (t : TA) : TE := fun σ H Q => t σ H fun vs H1 => ∀ x dx, H1 x = none → H1 dx = none → dx ≠ x →
  sp (.ref x :: (vs ++ dvs)) (upd (upd H1 dx (.own x)) x (.ins C dx [])) (fun v H2 => v = .non ∧ Q (.ref x) H2) E

noncomputable def Binds (K : PySem.W.Frag) (fd : FuncData) (ps : List Str) (ds : List Value) : Prop :=
  ∀ (s : Shared) (us : List Value), K.In s.heap → (us ++ ds).length = ps.length → BindsTo s fd ⟨us, []⟩ (ps.zip (us ++ ds))
theorem Binds.all {K : PySem.W.Frag} {fd : FuncData} {ps : List Str} (h : ∀ us : List Value, us.length = ps.length → bindArgs fd ⟨us, []⟩ = pure (ps.zip us)) : Binds K fd ps [] := fun s us _ hl => by
  rw [List.append_nil] at hl ⊢
  exact .of_eq (h us hl)

noncomputable def Passes (CX : CXT) (X : Cx) (E : XK) : Prop := ∀ (pins : List (Addr × Obj)) (σ : St) (H : Hp) (s : Shared) (e : Value) (s' : Shared), Inv X pins σ H s → CX X.stack H s E e s' → X.xe e s'

section
variable {X : Cx} {CX : CXT} {k : Nat} {f C : Addr} {fd : FuncData} {ps : List Str} {sp : Sp} {dvs : List V} {ds : List Value} {E : XK} {x m : Str} {p pos apos : Pos} {e o : Expr} {es : List Expr} {ta : TE} {t : TA}

theorem run_fn {pins : List (Addr × Obj)} {σ : St} {H : Hp} {s : Shared} {Q : VK} {us : List Value} {vs : List V} (F : FnOk X.prog X.w X.K X.mg X.base CX k f fd ps sp) (hr : Room k X.A) (hb : Binds X.K fd ps ds) (hd : Vals dvs ds) (hx : Passes CX X E)
    (I : Inv X pins σ H s) (r : Vals vs us) (h : sp (vs ++ dvs) H Q E) : wpAny (model X.prog X.w) X.A (call (.ref f) us) (EP X pins σ Q) X.xe s := by
  have r2 : Vals (vs ++ dvs) (us ++ ds) := r.append hd
  have hl : (us ++ ds).length = ps.length := by rw [← r2.length]; exact F.len _ _ _ _ h
  refine wpAny_call (codeAny_mono (F.run X.A X.stack s H ⟨us, []⟩ (us ++ ds) (vs ++ dvs) Q E hr I.env0 (hb s us I.kIn hl) r2 h) fun r s' hq => ?_)
  cases r with
  | error e => exact hx pins σ H s e s' I hq
  | ok fl =>
    cases fl with
    | ret u => exact I.after hq
    | next => exact False.elim hq
    | brk => exact False.elim hq
    | cont => exact False.elim hq

theorem pe_call (F : FnOk X.prog X.w X.K X.mg X.base CX k f fd ps sp) (hr : Room k X.A) (hg : Gl X x) (hm : X.mg x = some (.ref f)) (hk : PySem.W.keepIn X.K (.ref f) = true) (hb : Binds X.K fd ps ds) (hd : Vals dvs ds) (hx : Passes CX X E)
    (ha : PA X (e :: es) t) (hdb : (x == ("__debug__" : Str)) = false := by decide) (he : starEach (e :: es) X.env = (false, eval e X.env) :: starEach es X.env := by rfl) (hpl : (backTo pos (starEach es X.env)).any (·.1) = false := by rfl) :
    PE X (.Call (.Name x p) (e :: es) [] pos) (tCall sp dvs E t) := by
  intro pins s σ H Q I h
  refine wpAny_Call_Name_kw (ld_glob I hg hm ?_ hdb)
  refine PySem.W.callWith_K (h₀ := X.base) I.ok.mod.kin hk (thn (ha pos pins s σ H _ I h) fun us s1 ⟨vs, H1, I1, r, q⟩ => ⟨I1.kIn, ?_⟩) he hpl
  exact run_fn F hr hb hd hx I1 r q
theorem pe_meth {pl : Sem Bool} (he : PE X o ta) (c : Cls X.K C) (hm : Meth X.K C m f) (F : FnOk X.prog X.w X.K X.mg X.base CX k f fd ps sp) (hr : Room k X.A) (hb : Binds X.K fd ps ds) (hd : Vals dvs ds) (hx : Passes CX X E) (ha : PA X (e :: es) t)
    (hst : starEach (e :: es) X.env = (false, eval e X.env) :: starEach es X.env := by rfl) (hpl : (backTo pos (starEach es X.env)).any (·.1) = false := by rfl)
    (ht : eval (.Call (.Attribute o m apos) (e :: es) [] pos) X.env = (do
      let ov ← eval o X.env
      standAt apos.atName
      let (f, first) ← holding [ov] (getMethod ov m pl)
      callWith pos f first (backTo pos (starEach (e :: es) X.env)) (backToKw pos (keywordEach [] X.env))) := by rfl) :
    PE X (.Call (.Attribute o m apos) (e :: es) [] pos) (tMeth C m sp dvs E ta t) := by
  intro pins s σ H Q I h
  refine PySem.W.methodCall_KW (pl := pl) (thn (he pins s σ H _ I h) fun u s1 ⟨x, H1, I1, rx, a, dx, fs, ex, ea, l, q⟩ => ?_) ht
  subst ex
  obtain rfl : u = Value.ref a := rx
  refine getmeth_ok I1 ea c hm l ?_
  refine PySem.W.callWith_K (first := [.ref a]) (h₀ := X.base) I.ok.mod.kin hm.kp (thn (ha pos pins s1 σ H1 _ I1 q) fun us s2 ⟨vs, H2, I2, r, q2⟩ => ⟨I2.kIn, ?_⟩) hst hpl
  exact run_fn (us := .ref a :: us) (vs := .ref a :: vs) F hr hb hd hx I2 (.cons rfl r) q2
theorem pe_meth0 {pl : Sem Bool} (he : PE X o ta) (c : Cls X.K C) (hm : Meth X.K C m f) (F : FnOk X.prog X.w X.K X.mg X.base CX k f fd ps sp) (hr : Room k X.A) (hb : Binds X.K fd ps ds) (hd : Vals dvs ds) (hx : Passes CX X E)
    (ht : eval (.Call (.Attribute o m apos) [] [] pos) X.env = (do
      let ov ← eval o X.env
      standAt apos.atName
      let (f, first) ← holding [ov] (getMethod ov m pl)
      callWith pos f first (backTo pos (starEach [] X.env)) (backToKw pos (keywordEach [] X.env))) := by rfl) :
    PE X (.Call (.Attribute o m apos) [] [] pos) (tMeth C m sp dvs E ta tNil) := by
  intro pins s σ H Q I h
  refine PySem.W.methodCall_KW (pl := pl) (thn (he pins s σ H _ I h) fun u s1 ⟨x, H1, I1, rx, a, dx, fs, ex, ea, l, q⟩ => ?_) ht
  subst ex
  obtain rfl : u = Value.ref a := rx
  refine getmeth_ok I1 ea c hm l ?_
  exact PySem.W.callWith_K0 (first := [.ref a]) I1.kIn hm.kp (run_fn (us := [.ref a]) (vs := [.ref a]) F hr hb hd hx I1 (.cons rfl .nil) q)

structure Mk (K : PySem.W.Frag) (C f : Addr) : Prop where
  makes : PySem.W.makesIn K C = true
  init : PySem.W.findIn K (.ref C) "__init__" = some (some (.ref f))
  fn : PySem.W.isFn K (.ref f) = true
  kp : PySem.W.keepIn K (.ref C) = true

theorem run_make {pins : List (Addr × Obj)} {σ : St} {H : Hp} {s : Shared} {Q : VK} {us : List Value} {vs : List V} (M : Mk X.K C f) (F : FnOk X.prog X.w X.K X.mg X.base CX k f fd ps sp) (hr : Room (k + 1) X.A) (hb : Binds X.K fd ps ds) (hd : Vals dvs ds)
    (hx : Passes CX X E) (I : Inv X pins σ H s) (r : Vals vs us)
    (h : ∀ x dx, H x = none → H dx = none → dx ≠ x → sp (.ref x :: (vs ++ dvs)) (upd (upd H dx (.own x)) x (.ins C dx [])) (fun v H2 => v = .non ∧ Q (.ref x) H2) E) :
    wpAny (model X.prog X.w) X.A (call (.ref C) us) (EP X pins σ Q) X.xe s := by
  have hq := h (s.heap.objs.size + 1) s.heap.objs.size (I.hok.fresh (Nat.le_succ _)) (I.hok.fresh (Nat.le_refl _)) (Nat.ne_of_lt (Nat.lt_succ_self _))
  have I2 := Inv.made (C := C) I
  have r2 : Vals (V.ref (s.heap.objs.size + 1) :: (vs ++ dvs)) (Value.ref (s.heap.objs.size + 1) :: (us ++ ds)) := .cons rfl (r.append hd)
  have hl : (Value.ref (s.heap.objs.size + 1) :: us ++ ds).length = ps.length := by
    have e := r2.length
    rw [F.len _ _ _ _ hq] at e
    exact e.symm
  refine wpAny_call (make_map (f := f) I.kIn M.makes M.init (beq_iff_eq.mp M.fn) (codeAny_mono (F.run _ X.stack _ _ ⟨Value.ref (s.heap.objs.size + 1) :: us, []⟩ (Value.ref (s.heap.objs.size + 1) :: (us ++ ds)) _ _ E (hr.make C us [])
    (I2.env0.make C us []) (hb _ (Value.ref (s.heap.objs.size + 1) :: us) I2.kIn hl) r2 hq) fun r s' hq' => ?_))
  cases r with
  | error e => exact hx pins σ _ _ e s' I2 hq'
  | ok fl =>
    cases fl with
    | ret u =>
      obtain ⟨v, H', I3, rv, ev, q3⟩ := I2.after hq'
      subst ev
      exact ⟨rv, ⟨V.ref (s.heap.objs.size + 1), H', I3, rfl, q3⟩⟩
    | next => exact False.elim hq'
    | brk => exact False.elim hq'
    | cont => exact False.elim hq'
theorem pe_make (M : Mk X.K C f) (F : FnOk X.prog X.w X.K X.mg X.base CX k f fd ps sp) (hr : Room (k + 1) X.A) (hg : Gl X x) (hm : X.mg x = some (.ref C)) (hb : Binds X.K fd ps ds) (hd : Vals dvs ds) (hx : Passes CX X E)
    (ha : PA X (e :: es) t) (hdb : (x == ("__debug__" : Str)) = false := by decide) (he : starEach (e :: es) X.env = (false, eval e X.env) :: starEach es X.env := by rfl) (hpl : (backTo pos (starEach es X.env)).any (·.1) = false := by rfl) :
    PE X (.Call (.Name x p) (e :: es) [] pos) (tMake C sp dvs E t) := by
  intro pins s σ H Q I h
  refine wpAny_Call_Name_kw (ld_glob I hg hm ?_ hdb)
  refine PySem.W.callWith_K (h₀ := X.base) I.ok.mod.kin M.kp (thn (ha pos pins s σ H _ I h) fun us s1 ⟨vs, H1, I1, r, q⟩ => ⟨I1.kIn, ?_⟩) he hpl
  exact run_make M F hr hb hd hx I1 r q
end

section
variable {X : Cx} {CX : CXT} {k : Nat} {f C : Addr} {fd : FuncData} {ps ks : List Str} {sp : Sp} {E : XK} {x m : Str} {p pos apos kpos : Pos} {e o : Expr} {es : List Expr} {kws : List Keyword} {te ta : TE} {t tk : TA} {nm : Option Str}
variable {g : List Value → List Value → List Value} {gV : List V → List V → List V}
end

structure FnScope (N P : List Str) (sc : Scope) : Prop where
  kind : sc.kind = .function
  co : sc.isCoroutine = false
  gen : sc.isGenerator = false
  nd : N.Nodup
  pre : N.take P.length = P
  par : ∀ x ∈ P, sc.names.lookup x = some .local ∨ sc.names.lookup x = some .cell
  nofree : ∀ y ∈ sc.names, y.2 ≠ .free

theorem bindL_out {kindOf : Str → Option NameKind} {x : Str} : ∀ {binds : List (Str × Value)} {m : Str → Option Value}, (∀ v, (x, v) ∉ binds) → bindL kindOf binds m x = m x
  | [], _, _ => rfl
  | (n, v) :: r, m, h => by
    unfold bindL
    rw [bindL_out fun w hw => h w (List.mem_cons_of_mem _ hw)]
    split
    · have : x ≠ n := by rintro rfl; exact h v List.mem_cons_self
      simp [this]
    · rfl
theorem bindC_out {kindOf : Str → Option NameKind} {x : Str} : ∀ {binds : List (Str × Value)} {m : Str → Option Value}, (∀ v, (x, v) ∉ binds) → bindC kindOf binds m x = m x
  | [], _, _ => rfl
  | (n, v) :: r, m, h => by
    unfold bindC
    rw [bindC_out fun w hw => h w (List.mem_cons_of_mem _ hw)]
    split
    · rfl
    · have : x ≠ n := by rintro rfl; exact h v List.mem_cons_self
      simp [this]
theorem bindL_get {kindOf : Str → Option NameKind} {x : Str} {v : Value} : ∀ {P : List Str} {vs : List Value} {i : Nat} {m : Str → Option Value}, P.Nodup → P[i]? = some x → vs[i]? = some v → kindOf x = some .local →
    bindL kindOf (P.zip vs) m x = some v
  | [], _, _, _, _, h, _, _ => by simp at h
  | _ :: _, [], _, _, _, _, h, _ => by simp at h
  | p :: P, w :: vs, 0, m, nd, h1, h2, hk => by
    simp at h1 h2; subst h1; subst h2
    show bindL kindOf ((p, w) :: P.zip vs) m p = _
    unfold bindL
    rw [bindL_out fun v hv => (List.nodup_cons.mp nd).1 (List.of_mem_zip hv).1, if_pos hk]
    simp
  | p :: P, w :: vs, i + 1, m, nd, h1, h2, hk => by
    show bindL kindOf ((p, w) :: P.zip vs) m x = _
    unfold bindL
    exact bindL_get (i := i) (List.nodup_cons.mp nd).2 (by simpa using h1) (by simpa using h2) hk
theorem bindC_get {kindOf : Str → Option NameKind} {x : Str} {v : Value} : ∀ {P : List Str} {vs : List Value} {i : Nat} {m : Str → Option Value}, P.Nodup → P[i]? = some x → vs[i]? = some v → kindOf x ≠ some .local →
    bindC kindOf (P.zip vs) m x = some v
  | [], _, _, _, _, h, _, _ => by simp at h
  | _ :: _, [], _, _, _, _, h, _ => by simp at h
  | p :: P, w :: vs, 0, m, nd, h1, h2, hk => by
    simp at h1 h2; subst h1; subst h2
    show bindC kindOf ((p, w) :: P.zip vs) m p = _
    unfold bindC
    rw [bindC_out fun v hv => (List.nodup_cons.mp nd).1 (List.of_mem_zip hv).1, if_neg hk]
    simp
  | p :: P, w :: vs, i + 1, m, nd, h1, h2, hk => by
    show bindC kindOf ((p, w) :: P.zip vs) m x = _
    unfold bindC
    exact bindC_get (i := i) (List.nodup_cons.mp nd).2 (by simpa using h1) (by simpa using h2) hk

noncomputable def start (N : List Str) (vs : List V) : St := vs.map some ++ List.replicate (N.length - vs.length) none

noncomputable def cxOf (CX : CXT) (P : Program) (w : World) (K : PySem.W.Frag) (mg : Str → Option Value) (base : Heap) (N : List Str) (qual : Str) (scope : Scope) (f : Addr) (cd : Value) (A : Around) (outer : List Env) (s : Shared) (H : Hp) (E : XK) : Cx where
  prog := P
  w := w
  K := K
  mg := mg
  base := base
  A := A.deeper (envOfC qual scope s.heap.objs.size f cd)
  N := N
  s₀ := s
  H₀ := H
  env := envOfC qual scope s.heap.objs.size f cd
  outer := outer
  stack := envOfC qual scope s.heap.objs.size f cd :: outer
  ex := []
  calm := true
  fn := fun _ => true
  pn := []
  xe := fun e s' => wpAny (model P w) (A.deeper (envOfC qual scope s.heap.objs.size f cd)) (leaving (envOfC qual scope s.heap.objs.size f cd) e) (fun _ s'' => CX outer H s E e s'') (fun e' s'' => CX outer H s E e' s'') s'

theorem cell_has {sc : Scope} {n : Nat} {x : Str} (h : sc.names.lookup x = some .cell) : ∃ c, (cellsFrom n sc.names []).lookup x = some c := by
  have q := PySem.W.cellsFrom_some sc.names n [] (.inl h)
  exact Option.isSome_iff_exists.mp q

theorem inv_start {CX : CXT} {P : Program} {w : World} {K : PySem.W.Frag} {mg : Str → Option Value} {base : Heap} {N ps : List Str} {qual : Str} {scope : Scope} {f : Addr} {cd : Value} {A : Around} {outer : List Env} {s s1 : Shared} {H : Hp} {E : XK} {us : List Value} {vs : List V}
    (S : FnScope N ps scope) (hd : A.handled = none) (e0 : Env0 P w K mg base A outer s H) (hl : vs.length = ps.length) (r : Vals vs us)
    (x : InCallC s s.heap.objs.size (bindL (envOfC qual scope s.heap.objs.size f cd).kindOf (ps.zip us) fun _ => none) (cellsFrom (s.heap.objs.size + 1) scope.names []) (bindC (envOfC qual scope s.heap.objs.size f cd).kindOf (ps.zip us) fun _ => none) s1) :
    Inv (cxOf CX P w K mg base N qual scope f cd A outer s H E) [] (start N vs) H s1 := by
  have hpl : ps.length ≤ N.length := by have := congrArg List.length S.pre; rw [List.length_take] at this; omega
  obtain ⟨h1, tk, rfl, hk⟩ := x.done
  have noA : ∀ b : Addr, b ∉ (cxOf CX P w K mg base N qual scope f cd A outer s H E).ex := fun b z => absurd (show b ∈ ([] : List Addr) from z) (by simp)
  refine ⟨⟨e0.mod, S.kind, rfl, rfl, Nat.le_refl _, fun y z c h1 h2 => ?_, fun y hy => ?_, fun y c _ h => ?_, fun _ => hd, Around.frames_deeper e0.frames, .inr ⟨rfl, rfl⟩, fun b z => absurd z (noA b), e0.bs, e0.bsz, fun b _ _ => noA b, fun b z => absurd z (noA b), e0.funs, e0.frf⟩,
    rfl, e0.bare, Un.kept hk, ⟨_, x.toInCall.ns, fun i y v h1 h2 h3 => ?_⟩, fun y c h => ⟨_, x.cell y c h⟩, e0.hok.fresh (Nat.le_refl _), fun y c h => ?_, fun p hp => absurd (show p ∈ ([] : List (Addr × Obj)) from hp) (by simp), e0.hok.kept hk, ?_⟩
  · exact name_of_addr x.apart (PySem.mem_of_lookup h1) (PySem.mem_of_lookup h2)
  · have hy : scope.names.lookup y = some .cell ∨ scope.names.lookup y = some .free := hy
    rcases hy with hy | hy
    · exact cell_has hy
    · exact absurd rfl (S.nofree _ (PySem.mem_of_lookup hy))
  · exact Nat.le_of_lt (x.above y c (PySem.mem_of_lookup h))
  · have hi : i < vs.length := by
      unfold start at h2
      by_cases hi : i < vs.length
      · exact hi
      · rw [List.getElem?_append_right (by simpa using hi)] at h2
        rw [List.getElem?_replicate] at h2
        split at h2 <;> cases h2
    have ha : vs[i]? = some v := by
      unfold start at h2
      rw [List.getElem?_append_left (by simpa using hi), List.getElem?_map] at h2
      cases e : vs[i]? with
      | none => rw [e] at h2; cases h2
      | some a => rw [e] at h2; cases h2; rfl
    obtain ⟨u, hu, rv⟩ := r.get ha
    have hp : ps[i]? = some y := by
      rw [← S.pre, List.getElem?_take_of_lt (by omega)]; exact h1
    have ndP : ps.Nodup := by rw [← S.pre]; exact S.nd.sublist (List.take_sublist _ _)
    refine ⟨u, rv, ?_⟩
    rcases S.par y (List.mem_of_getElem? hp) with k | k
    · exact .inl ⟨k, bindL_get ndP hp hu k⟩
    · obtain ⟨c, e⟩ := cell_has (n := s.heap.objs.size + 1) k
      refine .inr ⟨.inl k, c, e, ?_⟩
      have q := x.cell y c e
      rw [bindC_get ndP hp hu (by show scope.names.lookup y ≠ _; rw [k]; decide)] at q
      exact q
  · exact e0.hok.fresh (Nat.le_of_lt (x.above y c (PySem.mem_of_lookup h)))
  · unfold start
    show _ = N.length
    rw [List.length_append, List.length_map, List.length_replicate]
    omega

theorem fn_of {CX : CXT} {P : Program} {w : World} {K : PySem.W.Frag} {mg : Str → Option Value} {base : Heap} {k : Nat} {f : Addr} {name qual : Str} {params : Arguments} {body : List Stmt} {scope : Scope} {dV kV doc pm cdv ct oc : Value} {an od : Option Addr}
    {osl : Array (Option Value)} {N ps : List Str} {sp : Sp} (lk : K.lookup f = some ⟨oc, od, .func (PySem.W.fnOf name qual params body scope dV kV doc pm an cdv ct), osl⟩) (hcd : PySem.W.codeIn K cdv qual = true) (S : FnScope N ps scope)
    (len : ∀ vs H Q E, sp vs H Q E → vs.length = ps.length)
    (hbody : ∀ (A : Around) (outer : List Env) (s : Shared) (H : Hp) (vs : List V) (Q : VK) (E : XK), Room k (A.deeper (envOfC qual scope s.heap.objs.size f cdv)) → sp vs H Q E →
      ∃ t, PSs (cxOf CX P w K mg base N qual scope f cdv A outer s H E) body t ∧ t { nx := fun _ H' => Q .non H', rt := Q } (start N vs) H) :
    FnOk P w K mg base CX (k + 1) f (PySem.W.fnOf name qual params body scope dV kV doc pm an cdv ct) ps sp := by
  refine ⟨len, fun A outer s H args us vs Q E hr e0 hb r hsp => ?_⟩
  have hl := len _ _ _ _ hsp
  have KX : K.In s.heap := e0.mod.kin.keeps fun b o e => (e0.bs b o e).1
  have lim : s.heap.NoLimit := e0.mod.nolimit.keeps fun b o e => (e0.bs b o e).1
  have hkind : ∀ y ∈ ps.zip us, scope.names.lookup y.1 = some .local ∨ (scope.names.lookup y.1 = some .cell ∧ ((cellsFrom (s.heap.objs.size + 1) scope.names []).lookup y.1).isSome = true) := fun ⟨n, v⟩ hy => by
    rcases S.par n (List.of_mem_zip hy).1 with q | q
    · exact .inl q
    · exact .inr ⟨q, PySem.W.cellsFrom_some _ _ _ (.inl q)⟩
  refine codeAny_call_function hr.depth (KX _ _ lk) rfl S.co S.gen rfl (PySem.W.codeRec_of KX hcd) (hb _ _ _ _ ?_)
  refine wpAny_newFunctionEnv_cells S.kind hkind fun env he s1 x => ?_
  subst he
  refine ⟨lim.keeps x.toInCall.keep, codeAny_func ?_⟩
  obtain ⟨t, ht, hq⟩ := hbody A outer s H vs Q E (hr.deeper _) hsp
  have I : Inv (cxOf CX P w K mg base N qual scope f cdv A outer s H E) [] (start N vs) H s1 := inv_start S hr.hd e0 hl r x
  refine wpAny_mono (ht [] s1 (start N vs) H _ I hq) (fun fl s' hs => ?_) fun e s' hs => hs
  have fin : ∀ {σ' : St} {H' : Hp} {v : V} {u : Value}, Inv (cxOf CX P w K mg base N qual scope f cdv A outer s H E) [] σ' H' s' → RelV v u → Q v H' → CE outer P w H s Q u s' :=
    fun {σ' H' v u} J rv q => ⟨v, H', J.os, J.bare, J.base, J.hok, rv, q⟩
  cases fl with
  | ret u =>
    obtain ⟨v, σ', H', J, rv, q⟩ := hs
    exact fin J rv q
  | next =>
    obtain ⟨σ', H', J, q⟩ := hs
    exact fin (v := V.non) (u := Value.none) J rfl q
  | brk =>
    obtain ⟨_, _, _, q⟩ := hs
    exact False.elim q
  | cont =>
    obtain ⟨_, _, _, q⟩ := hs
    exact False.elim q
end L2

namespace L2
open PySem PySem.Spec PyProof.Rows
section
variable {X : Cx} {x : Str} {p pos : Pos} {e : Expr} {es : List Expr} {t : TA} {id T : String} {r : List V → Hp → VK → Prop}

noncomputable def tCB (r : List V → Hp → VK → Prop) (t : TA) : TE := fun σ H Q => t σ H fun vs H1 => r vs H1 Q
theorem pe_callB (hc : CallR X (.builtin id) r) (hg : Gl X x) (hm : X.mg x = none) (hv : bootBuiltins x = some (.builtin id)) (ha : PA X (e :: es) t) (hn : x ≠ "__name__" := by decide) (hdb : (x == ("__debug__" : Str)) = false := by decide)
    (he : starEach (e :: es) X.env = (false, eval e X.env) :: starEach es X.env := by rfl) (hpl : (backTo pos (starEach es X.env)).any (·.1) = false := by rfl) : PE X (.Call (.Name x p) (e :: es) [] pos) (tCB r t) := by
  intro pins s σ H Q I h
  refine wpAny_Call_Name_kw (ld_blt I hg hm hv ?_ hn hdb)
  exact PyProof.Rows.callWith_builtin1 (thn (ha pos pins s σ H _ I h) fun us s1 ⟨vs, H1, I1, r1, q1⟩ => hc pins s1 σ H1 vs us Q I1 r1 q1) he hpl
theorem pe_callTy (hc : CallR X (.type T) r) (hg : Gl X x) (hm : X.mg x = none) (hv : bootBuiltins x = some (.type T)) (ha : PA X (e :: es) t) (hn : x ≠ "__name__" := by decide) (hdb : (x == ("__debug__" : Str)) = false := by decide)
    (he : starEach (e :: es) X.env = (false, eval e X.env) :: starEach es X.env := by rfl) (hpl : (backTo pos (starEach es X.env)).any (·.1) = false := by rfl) : PE X (.Call (.Name x p) (e :: es) [] pos) (tCB r t) := by
  intro pins s σ H Q I h
  refine wpAny_Call_Name_kw (ld_blt I hg hm hv ?_ hn hdb)
  exact PyProof.Rows.callWith_type1 (thn (ha pos pins s σ H _ I h) fun us s1 ⟨vs, H1, I1, r1, q1⟩ => hc pins s1 σ H1 vs us Q I1 r1 q1) he hpl
end
end L2

namespace HT
open PySem PyProof.Rows

section
open PySem.SeqAt
open PySem.AutoSeq1 (wpAny_loadPart')
open PySem.MeetsSeq PySem.MeetsSeq2 PySem.MeetsSeq3

end

section
variable {prog : Program} {w : World} {A : Around} {E : Value → Shared → Prop} {s : Shared}

noncomputable def sIx (n d : Nat) : Option Int → Nat
  | none => d
  | some v => if v < 0 then (v + (n : Int)).toNat else min v.toNat n
theorem sIx_none (n d : Nat) : sIx n d none = d := rfl
theorem sIx_nat (n d k : Nat) : sIx n d (some (k : Int)) = min k n := by
  show (if (k : Int) < 0 then ((k : Int) + (n : Int)).toNat else min (k : Int).toNat n) = min k n
  rw [if_neg (by omega), Int.toNat_natCast]
theorem sIx_le (n d : Nat) (hd : d ≤ n) (o : Option Int) : sIx n d o ≤ n := by
  cases o with
  | none => exact hd
  | some v =>
    show (if v < 0 then (v + (n : Int)).toNat else min v.toNat n) ≤ n
    by_cases hv : v < 0
    · rw [if_pos hv]; omega
    · rw [if_neg hv]; exact Nat.min_le_right _ _
end
end HT

namespace L2
open PySem PySem.Spec PyProof.Rows

noncomputable abbrev TO := St → Hp → (Option Int → Hp → Prop) → Prop
noncomputable def PO (X : Cx) (e : Option Expr) (t : TO) : Prop :=
  ∀ (pins : List (Addr × Obj)) (s : Shared) (σ : St) (H : Hp) (Q : Option Int → Hp → Prop), Inv X pins σ H s → t σ H Q →
    wpAny (model X.prog X.w) X.A (evalPart e X.env) (fun u s' => ∃ o H', Inv X pins σ H' s' ∧ IsPart u o ∧ Q o H') X.xe s
noncomputable def tNoPart : TO := fun _ H Q => Q none H
noncomputable def tPart (t : TE) : TO := fun σ H Q => t σ H fun x H1 => ∃ i, x = .int i ∧ Q (some i) H1

section
variable {X : Cx} {e : Expr} {te : TE} {lo hi : Option Expr} {tl th : TO} {pos p2 : Pos}

theorem po_none : PO X none tNoPart := by
  intro pins s σ H Q I h
  rw [evalPart_none]
  exact wpAny_pure ⟨none, H, I, .none, h⟩
theorem po_some (h : PE X e te) : PO X (some e) (tPart te) := by
  intro pins s σ H Q I hw
  rw [evalPart_some]
  refine thn (h pins s σ H _ I hw) fun u s1 ⟨x, H1, I1, r1, q1⟩ => ?_
  obtain ⟨i, rfl, q⟩ := q1
  obtain ⟨t, rfl⟩ := r1
  exact ⟨some i, H1, I1, .int i t, q⟩

noncomputable def SlR (X : Cx) (r : V → Option Int → Option Int → Hp → VK → Prop) : Prop :=
  ∀ (pins : List (Addr × Obj)) (s : Shared) (σ : St) (H : Hp) (x : V) (v vl vu : Value) (lo hi : Option Int) (sl : Addr) (Q : VK), Inv X pins σ H s → RelV x v → s.heap.IsSliceOf sl vl vu .none → IsPart vl lo → IsPart vu hi → r x lo hi H Q →
    ∃ T id, typeLookup (.type T) "__getitem__" = pure (some (.builtin id)) ∧ s.TypeIs v T ∧ wpAny (model X.prog X.w) X.A (getItem v (.ref sl)) (EP X pins σ Q) X.xe s
theorem SlR.or {r r' : V → Option Int → Option Int → Hp → VK → Prop} (h : SlR X r) (h' : SlR X r') : SlR X (fun x lo hi H Q => r x lo hi H Q ∨ r' x lo hi H Q) := by
  intro pins s σ H x v vl vu lo hi sl Q I rx hs pl pu q
  rcases q with q | q
  · exact h pins s σ H x v vl vu lo hi sl Q I rx hs pl pu q
  · exact h' pins s σ H x v vl vu lo hi sl Q I rx hs pl pu q
noncomputable def tSl (r : V → Option Int → Option Int → Hp → VK → Prop) (te : TE) (tl th : TO) : TE := fun σ H Q => te σ H fun x H1 => tl σ H1 fun l H2 => th σ H2 fun u H3 => r x l u H3 Q
theorem pe_slice {r : V → Option Int → Option Int → Hp → VK → Prop} (hr : SlR X r) (he : PE X e te) (hl : PO X lo tl) (hu : PO X hi th) : PE X (.Subscript e (.Slice lo hi none p2) pos) (tSl r te tl th) := by
  intro pins s σ H Q I h
  refine Subscript_ (thn (he pins s σ H _ I h) fun v s1 ⟨x, H1, I1, r1, q1⟩ => ?_)
  refine wpAny_Slice (thn (hl pins s1 σ H1 _ I1 q1) fun vl s2 ⟨l, H2, I2, pl, q2⟩ => thn (hu pins s2 σ H2 _ I2 q2) fun vu s3 ⟨u, H3, I3, pu, q3⟩ => ?_)
  rw [evalPart_none]
  refine wpAny_pure ?_
  have I4 : Inv X pins σ H3 { s3 with heap := s3.heap.push { cls := .type "slice", data := .fields #[vl, vu, .none] } } := I3.kept (t' := s3.toks) fun b ob q => Heap.get?_push_of_some _ q
  obtain ⟨T, id, hT, ht, hg⟩ := hr pins { s3 with heap := s3.heap.push { cls := .type "slice", data := .fields #[vl, vu, .none] } } σ H3 x v vl vu l u s3.heap.objs.size Q I4 r1 (Heap.IsSliceOf.new ..) pl pu q3
  show wpAny (model X.prog X.w) X.A (subscriptTail e (.Slice lo hi none p2) v (.ref s3.heap.objs.size)) (EP X pins σ Q) X.xe { s3 with heap := s3.heap.push { cls := .type "slice", data := .fields #[vl, vu, .none] } }
  exact tail_any (ops := [.ref s3.heap.objs.size, v]) ht hT hg (by with_unfolding_all rfl)

noncomputable def cutV (xs : List V) (lo hi : Option Int) : List V := (xs.drop (HT.sIx xs.length 0 lo)).take (HT.sIx xs.length xs.length hi - HT.sIx xs.length 0 lo)
theorem cutV_length (xs : List V) (lo hi : Option Int) : (cutV xs lo hi).length ≤ xs.length := by
  unfold cutV
  rw [List.length_take, List.length_drop]
  omega
end
end L2

namespace L2
open PySem PySem.Spec PyProof.Rows

noncomputable def ixN (n : Nat) (i : Int) : Option Nat := if 0 ≤ i then (if i < n then some i.toNat else none) else if -(n : Int) ≤ i then some (i + n).toNat else none
noncomputable def atI {α : Type} (xs : List α) (i : Int) : Option α := (ixN xs.length i).bind fun j => xs[j]?
theorem ixN_seq {n : Nat} {i : Int} {j : Nat} (h : ixN n i = some j) : seqIndex? i n = some j ∧ j < n ∧ -(n : Int) ≤ i ∧ i < n := by
  unfold ixN at h
  by_cases h0 : 0 ≤ i
  · rw [if_pos h0] at h
    by_cases h1 : i < n
    · rw [if_pos h1] at h
      have e : i.toNat = j := Option.some.inj h
      exact ⟨by rw [seqIndex_of h0 h1, e], by omega, by omega, h1⟩
    · rw [if_neg h1] at h; cases h
  · rw [if_neg h0] at h
    by_cases h1 : -(n : Int) ≤ i
    · rw [if_pos h1] at h
      have e : (i + n).toNat = j := Option.some.inj h
      exact ⟨by rw [seqIndex_neg (by omega) h1, e], by omega, h1, by omega⟩
    · rw [if_neg h1] at h; cases h
theorem atI_get {α : Type} {xs : List α} {i : Int} {v : α} (h : atI xs i = some v) : ∃ j, seqIndex? i xs.length = some j ∧ xs[j]? = some v ∧ j < xs.length ∧ -(xs.length : Int) ≤ i ∧ i < xs.length := by
  unfold atI at h
  cases e : ixN xs.length i with
  | none => rw [e] at h; cases h
  | some j =>
    rw [e] at h
    obtain ⟨h1, h2, h3, h4⟩ := ixN_seq e
    exact ⟨j, h1, h, h2, h3, h4⟩
theorem atI_nat {α : Type} {xs : List α} {j : Nat} {v : α} (h : xs[j]? = some v) : atI xs (j : Int) = some v := by
  have hj : j < xs.length := (List.getElem?_eq_some_iff.mp h).1
  have e : ixN xs.length (j : Int) = some j := by
    unfold ixN
    rw [if_pos (by omega), if_pos (by omega)]; simp
  unfold atI; rw [e]; exact h
noncomputable def PlainIx (b : Expr) : Prop := ∀ o i, subscripted b false o i = operate [o, i] (getItem o i)
noncomputable def IxR (X : Cx) (r : R2) : Prop :=
  ∀ (value slice : Expr) (pins : List (Addr × Obj)) (s : Shared) (σ : St) (H : Hp) (x y : V) (v u : Value) (Q : VK), Inv X pins σ H s → RelV x v → RelV y u → r x y H Q →
    subscripted slice false v u = operate [v, u] (getItem v u) → wpAny (model X.prog X.w) X.A (subscriptTail value slice v u) (EP X pins σ Q) X.xe s
noncomputable def MtR (X : Cx) (id : String) (r : V → List V → Hp → VK → Prop) : Prop :=
  ∀ (pins : List (Addr × Obj)) (s : Shared) (σ : St) (H : Hp) (x : V) (xs : List V) (v : Value) (us : List Value) (Q : VK), Inv X pins σ H s → RelV x v → Vals xs us → r x xs H Q →
    wpAny (model X.prog X.w) X.A (call (.builtin id) (v :: us)) (EP X pins σ Q) X.xe s
section
variable {X : Cx} {a b : Expr} {ta tb : TE} {pos : Pos}
theorem IxR.or {r r' : R2} (h : IxR X r) (h' : IxR X r') : IxR X (fun x y H Q => r x y H Q ∨ r' x y H Q) := by
  intro value slice pins s σ H x y v u Q I rx ry q hs
  rcases q with q | q
  · exact h value slice pins s σ H x y v u Q I rx ry q hs
  · exact h' value slice pins s σ H x y v u Q I rx ry q hs
theorem MtR.or {id : String} {r r' : V → List V → Hp → VK → Prop} (h : MtR X id r) (h' : MtR X id r') : MtR X id (fun x xs H Q => r x xs H Q ∨ r' x xs H Q) := by
  intro pins s σ H x xs v us Q I rx rs q
  rcases q with q | q
  · exact h pins s σ H x xs v us Q I rx rs q
  · exact h' pins s σ H x xs v us Q I rx rs q
theorem pe_ix {r : R2} (hr : IxR X r) (ha : PE X a ta) (hb : PE X b tb) (hs : PlainIx b) : PE X (.Subscript a b pos) (tOp r ta tb) := by
  intro pins s σ H Q I h
  exact Subscript_ (binT ha hb I h fun v u s2 x y H2 I2 rx ry q => hr a b pins s2 σ H2 x y v u Q I2 rx ry q (hs _ _))

noncomputable def rIxL (K : PySem.W.Frag) : R2 := fun x y H Q => ∃ p xs i v, x = .ref p ∧ y = .int i ∧ SqL K H p xs ∧ atI xs i = some v ∧ Q v H
noncomputable def rIxT (K : PySem.W.Frag) : R2 := fun x y H Q => ∃ p xs i v, x = .ref p ∧ y = .int i ∧ SqT K H p xs ∧ atI xs i = some v ∧ Q v H
noncomputable def rIxS : R2 := fun x y H Q => ∃ z i c, x = .str z ∧ y = .int i ∧ z.length ≤ sizeLine ∧ atI z.cps.toList i = some c ∧ Q (.str ⟨#[c]⟩) H
theorem ix_list : IxR X (rIxL X.K) := by
  intro value slice pins s σ H x y v u Q I rx ry h hs
  obtain ⟨p, xs, i, z, rfl, rfl, hq, he, q⟩ := h
  cases rx
  obtain ⟨t, rfl⟩ := ry
  obtain ⟨its, r, pl, hz⟩ := I.list hq
  obtain ⟨j, h1, h2, h3, h4, h5⟩ := atI_get he
  obtain ⟨w, ew, rw'⟩ := r.get h2
  have hl := r.length
  have hn := line63
  have fin : EP X pins σ Q w s := ⟨z, H, I, rw', q⟩
  by_cases h0 : 0 ≤ i
  · have hj : i.toNat = j := by
      rw [seqIndex_of h0 h5] at h1
      exact Option.some.inj h1
    exact item_listR pl.isList h0 (by omega) (by rw [hj]; simpa using ew) fin hs
  · have hj : (i + (its.toArray.size : Int)).toNat = j := by
      rw [seqIndex_neg (by omega) h4] at h1
      rw [List.size_toArray, ← hl]
      exact Option.some.inj h1
    exact subscriptTail_builtinR (x := w) pl.isList.typeIs slot_list_getitem.lookup
      (wpAny_getItem_list_neg (Q := fun r s' => r = w ∧ EP X pins σ Q r s') pl.isList (by omega) (by rw [List.size_toArray] <;> omega) (by omega) (by rw [hj]; simpa using ew) ⟨rfl, fin⟩) hs
theorem ix_tup : IxR X (rIxT X.K) := by
  intro value slice pins s σ H x y v u Q I rx ry h hs
  obtain ⟨p, xs, i, z, rfl, rfl, hq, he, q⟩ := h
  cases rx
  obtain ⟨t, rfl⟩ := ry
  obtain ⟨its, r, pl, hz⟩ := I.tuple hq
  obtain ⟨j, h1, h2, h3, h4, h5⟩ := atI_get he
  obtain ⟨w, ew, rw'⟩ := r.get h2
  have hl := r.length
  have hn := line63
  have fin : EP X pins σ Q w s := ⟨z, H, I, rw', q⟩
  exact subscriptTail_builtinR (x := w) pl.typeIs slot_tuple_getitem.lookup
    (getItem_tuple (j := j) (Q := fun r s' => r = w ∧ EP X pins σ Q r s') pl (by omega) (by omega) (by rw [List.size_toArray, ← hl]; exact h1) (by simpa using ew) ⟨rfl, fin⟩) hs
theorem ix_str : IxR X rIxS := by
  intro value slice pins s σ H x y v u Q I rx ry h hs
  obtain ⟨z, i, c, rfl, rfl, hz, he, q⟩ := h
  obtain ⟨t, rfl⟩ := rx
  obtain ⟨t', rfl⟩ := ry
  obtain ⟨j, h1, h2, h3, h4, h5⟩ := atI_get he
  have hl : z.cps.toList.length = z.length := by simp [Str.length]
  rw [hl] at h1 h4 h5
  have hn := line63
  exact tail_any (typeIs_str s z t) slot_str_getitem.lookup (getItem_str (c := c) (by
    have e1 : decide (i < -(2 ^ 63 : Int)) = false := decide_eq_false (by omega)
    have e2 : decide (i ≥ 2 ^ 63) = false := decide_eq_false (by omega)
    rw [e1, e2, Bool.or_false]) (by rw [h1]; simpa using h2) ⟨.str ⟨#[c]⟩, H, I.tok _, ⟨_, rfl⟩, q⟩) hs
noncomputable def rIx (K : PySem.W.Frag) : R2 := fun x y H Q => rIxL K x y H Q ∨ rIxT K x y H Q ∨ rIxS x y H Q
theorem ix_seq : IxR X (rIx X.K) := ix_list.or (ix_tup.or ix_str)

theorem mapSeq_set (its : List Value) (n j : Nat) (u : Value) : Obj.mapSeq (·.setIfInBounds j u) { cls := .type "list", data := .seq its.toArray n } = { cls := .type "list", data := .seq (its.set j u).toArray n } := by
  simp [Obj.mapSeq]
theorem Inv.lst {pins : List (Addr × Obj)} {σ : St} {H : Hp} {s : Shared} {p : Addr} {xs : List V} (I : Inv X pins σ H s) (h : H p = some (.lst xs)) :
    ∃ (its : List Value) (n : Nat), Vals xs its ∧ s.heap.get? p = some { cls := .type "list", data := .seq its.toArray n } ∧ xs.length ≤ sizeLine := by
  obtain ⟨z, its, n, r, e⟩ := I.hok p _ h
  exact ⟨its, n, r, e, z⟩
theorem Inv.lstUpd {pins : List (Addr × Obj)} {σ : St} {H : Hp} {s : Shared} {p : Addr} {xs ys : List V} {its its' : List Value} {n n' : Nat} {f : Obj → Obj} (I : Inv X pins σ H s) (h : H p = some (.lst xs))
    (ho : s.heap.get? p = some { cls := .type "list", data := .seq its.toArray n }) (hf : f { cls := .type "list", data := .seq its.toArray n } = { cls := .type "list", data := .seq its'.toArray n' }) (r : Vals ys its') (hz : ys.length ≤ sizeLine) (t : Nat) :
    Inv X pins σ (upd H p (.lst ys)) { s with heap := s.heap.update p f, toks := t } := by
  have e : (s.heap.update p f).get? p = some { cls := .type "list", data := .seq its'.toArray n' } := by
    rw [Heap.get?_update_self f ho (by rw [hf] <;> rfl), hf]
  refine I.write (x := p) (e := p) (by rw [h]; trivial) (.inl rfl) (fun b u hb q => (Heap.get?_update_other _ _ (Ne.symm hb)).trans q) ⟨_, e⟩ ?_
  exact ⟨hz, its', n', r, e⟩
noncomputable def rSetL : V → V → V → Hp → (Hp → Prop) → Prop := fun o i v H Q => ∃ p xs k j, o = .ref p ∧ i = .int k ∧ H p = some (.lst xs) ∧ ixN xs.length k = some j ∧ Q (upd H p (.lst (xs.set j v)))
theorem set_list : PSet X rSetL := by
  intro pins s σ H o i v ov iv u Q I ro ri rv h
  obtain ⟨p, xs, k, j, rfl, rfl, hp, hj, q⟩ := h
  cases ro
  obtain ⟨t, rfl⟩ := ri
  obtain ⟨its, n, r, ho, hz⟩ := I.lst hp
  obtain ⟨h1, h2, h3, h4⟩ := ixN_seq hj
  have hl := r.length
  have hn := line63
  have I' : Inv X pins σ (upd H p (.lst (xs.set j v))) { s with heap := s.heap.update p (Obj.mapSeq (·.setIfInBounds j u)) } :=
    I.lstUpd hp ho (mapSeq_set its n j u) (r.set rv j) (by rw [List.length_set]; exact hz) s.toks
  by_cases h0 : 0 ≤ k
  · have hk : k.toNat = j := by
      rw [seqIndex_of h0 h4] at h1
      exact Option.some.inj h1
    exact PySem.W.ki_setAt ho h0 (by omega) (by rw [List.size_toArray, ← hl]; exact h4) (by rw [hk]; exact ⟨_, I', q⟩)
  · have hk : (k + (its.toArray.size : Int)).toNat = j := by
      rw [seqIndex_neg (by omega) h3] at h1
      rw [List.size_toArray, ← hl]
      exact Option.some.inj h1
    exact PySem.W.ki_setBack ho (by omega) (by rw [List.size_toArray, ← hl]; exact h3) (by omega) (by rw [hk]; exact ⟨_, I', q⟩)

theorem slice_bounds (lo hi : Option Int) (n : Nat) : (sliceBounds lo hi none n).1 = ((HT.sIx n 0 lo : Nat) : Int) ∧ (sliceBounds lo hi none n).2.1 = ((HT.sIx n n hi : Nat) : Int) ∧ (sliceBounds lo hi none n).2.2 = 1 := by
  refine ⟨?_, ?_, rfl⟩
  · cases lo with
    | none => simp [sliceBounds, HT.sIx]
    | some i =>
      simp only [sliceBounds, HT.sIx, Option.getD_none, show (1 : Int) > 0 by decide, if_true]
      by_cases h : i < 0
      · simp only [h, if_true] <;> omega
      · simp only [h, if_false] <;> omega
  · cases hi with
    | none => simp [sliceBounds, HT.sIx]
    | some i =>
      simp only [sliceBounds, HT.sIx, Option.getD_none, show (1 : Int) > 0 by decide, if_true]
      by_cases h : i < 0
      · simp only [h, if_true] <;> omega
      · simp only [h, if_false] <;> omega
theorem slicePick_cut (its : List Value) (lo hi : Option Int) : slicePick its.toArray lo hi none = ((its.drop (HT.sIx its.length 0 lo)).take (HT.sIx its.length its.length hi - HT.sIx its.length 0 lo)).toArray := by
  obtain ⟨h1, h2, h3⟩ := slice_bounds lo hi its.toArray.size
  unfold slicePick
  rw [h1, h2, h3]
  simp only [sliceRange_one, pick_run, List.size_toArray] <;> rfl
noncomputable def rSlL (K : PySem.W.Frag) : V → Option Int → Option Int → Hp → VK → Prop := fun x lo hi H Q => ∃ a xs, x = .ref a ∧ SqL K H a xs ∧ ∀ p, H p = none → Q (.ref p) (upd H p (.lst (cutV xs lo hi)))
theorem sl_list : SlR X (rSlL X.K) := by
  intro pins s σ H x v vl vu lo hi sl Q I rx hs pl pu h
  obtain ⟨a, xs, rfl, hx, q⟩ := h
  cases rx
  obtain ⟨its, r, ht, hz⟩ := I.list hx
  have hlen := r.length
  refine ⟨"list", _, slot_list_getitem.lookup, ht.isList.typeIs, ?_⟩
  refine wpAny_getItem_list_slice ht.isList hs pl pu .none (by simp) ?_ (by rw [List.size_toArray] <;> omega)
  rw [slicePick_cut, ← hlen]
  refine ⟨.ref s.heap.objs.size, _, I.laid (t' := s.toks) (o := .lst (cutV xs lo hi)) (fun b ob q => Heap.get?_push_of_some _ q) (Nat.le_refl _) ?_, rfl, q _ (I.hok.fresh (Nat.le_refl _))⟩
  exact ⟨Nat.le_trans (cutV_length xs lo hi) hz, _, 0, (r.drop (HT.sIx xs.length 0 lo)).take (HT.sIx xs.length xs.length hi - HT.sIx xs.length 0 lo), Heap.get?_push_size _ rfl⟩

noncomputable def flatV : V → Bool
  | .non => true
  | .bl _ => true
  | .int _ => true
  | .str _ => true
  | _ => false
noncomputable def eqV : V → V → Bool
  | .non, .non => true
  | .bl a, .bl b => a == b
  | .bl a, .int b => (if a then 1 else 0) == b
  | .int a, .bl b => a == (if b then 1 else 0)
  | .int a, .int b => a == b
  | .str a, .str b => a == b
  | _, _ => false
theorem eqAt_V {A : Around} {s : Shared} {y x : V} {u v : Value} (ry : RelV y u) (rx : RelV x v) (fy : flatV y = true) (fx : flatV x = true) : SeqAt.EqAt A s u v (eqV y x) := by
  cases y with
  | non =>
    cases ry
    cases x with
    | non => cases rx; exact SeqAt.EqAt.same _
    | bl b => cases rx; exact SeqAt.EqAt.none_bool b
    | int b => obtain ⟨t, rfl⟩ := rx; exact SeqAt.EqAt.none_int b t
    | str b => obtain ⟨t, rfl⟩ := rx; exact SeqAt.EqAt.none_str b t
    | _ => exact absurd (show false = true from fx) Bool.false_ne_true
  | bl a =>
    cases ry
    cases x with
    | non => cases rx; exact SeqAt.EqAt.bool_none a
    | bl b => cases rx; exact SeqAt.EqAt.bool_bool a b
    | int b => obtain ⟨t, rfl⟩ := rx; exact SeqAt.EqAt.bool_int a b t
    | str b => obtain ⟨t, rfl⟩ := rx; exact SeqAt.EqAt.bool_str a b t
    | _ => exact absurd (show false = true from fx) Bool.false_ne_true
  | int a =>
    obtain ⟨t', rfl⟩ := ry
    cases x with
    | non => cases rx; exact SeqAt.EqAt.int_none a t'
    | bl b => cases rx; exact SeqAt.EqAt.int_bool a t' b
    | int b => obtain ⟨t, rfl⟩ := rx; exact SeqAt.EqAt.int_int a t' b t
    | str b => obtain ⟨t, rfl⟩ := rx; exact SeqAt.EqAt.int_str a t' b t
    | _ => exact absurd (show false = true from fx) Bool.false_ne_true
  | str a =>
    obtain ⟨t', rfl⟩ := ry
    cases x with
    | non => cases rx; exact SeqAt.EqAt.str_none a t'
    | bl b => cases rx; exact SeqAt.EqAt.str_bool a t' b
    | int b => obtain ⟨t, rfl⟩ := rx; exact SeqAt.EqAt.str_int a t' b t
    | str b => obtain ⟨t, rfl⟩ := rx; exact SeqAt.EqAt.str_str a t' b t
    | _ => exact absurd (show false = true from fx) Bool.false_ne_true
  | _ => exact absurd (show false = true from fy) Bool.false_ne_true
noncomputable def eqU (x : V) (u : Value) : Bool := match u with
  | .none => eqV .non x
  | .bool b => eqV (.bl b) x
  | .int i _ => eqV (.int i) x
  | .str z _ => eqV (.str z) x
  | _ => false
theorem eqU_of {x y : V} {u : Value} (r : RelV y u) (f : flatV y = true) : eqU x u = eqV y x := by
  cases y with
  | non => cases r; rfl
  | bl b => cases r; rfl
  | int i => obtain ⟨t, rfl⟩ := r; rfl
  | str z => obtain ⟨t, rfl⟩ := r; rfl
  | _ => exact absurd (show false = true from f) Bool.false_ne_true
theorem any_eqU {x : V} : ∀ {xs : List V} {us : List Value}, Vals xs us → xs.all flatV = true → us.any (eqU x) = xs.any fun y => eqV y x
  | _, _, .nil, _ => rfl
  | y :: xs, u :: us, .cons r t, f => by
    rw [List.all_cons, Bool.and_eq_true] at f
    rw [List.any_cons, List.any_cons, eqU_of r f.1, any_eqU t f.2]
theorem mem_eqAt {A : Around} {s : Shared} {x : V} {v : Value} (rx : RelV x v) (fx : flatV x = true) : ∀ {xs : List V} {us : List Value}, Vals xs us → xs.all flatV = true → ∀ u ∈ us, SeqAt.EqAt A s u v (eqU x u)
  | _, _, .nil, _ => fun u hu => by cases hu
  | y :: xs, u :: us, .cons r t, f => fun u' hu => by
    rw [List.all_cons, Bool.and_eq_true] at f
    rcases List.mem_cons.mp hu with rfl | hu
    · rw [eqU_of r f.1]; exact eqAt_V r rx f.1 fx
    · exact mem_eqAt rx fx t f.2 u' hu
noncomputable def inV (x : V) (xs : List V) : Bool := xs.any fun y => eqV y x
noncomputable def rIn (K : PySem.W.Frag) (neg : Bool) : R2 := fun x y H Q => ∃ p xs, y = .ref p ∧ (SqL K H p xs ∨ SqT K H p xs) ∧ flatV x = true ∧ xs.all flatV = true ∧ Q (.bl (if neg then !inV x xs else inV x xs)) H
theorem op_in_seq : OpR X (compareOp .In) (rIn X.K false) := by
  intro pins s σ H x y v u Q I rx ry h
  obtain ⟨p, xs, rfl, hq, fx, fs, q⟩ := h
  cases ry
  rcases hq with hq | hq
  · obtain ⟨its, r, pl, hz⟩ := I.list hq
    refine SeqAt.in_listAt (eqU x) pl.isList (fun w hw => mem_eqAt rx fx r fs w (by simpa using hw)) ⟨.bl _, H, I, rfl, ?_⟩
    rw [show its.toArray.any (eqU x) = its.any (eqU x) by simp, any_eqU r fs]
    exact q
  · obtain ⟨its, r, pl, hz⟩ := I.tuple hq
    refine SeqAt.in_tupleAt (eqU x) pl (fun w hw => mem_eqAt rx fx r fs w (by simpa using hw)) ⟨.bl _, H, I, rfl, ?_⟩
    rw [show its.toArray.any (eqU x) = its.any (eqU x) by simp, any_eqU r fs]
    exact q
theorem call_len_seq : CallR X (.builtin "len") (fun xs H Q => ∃ p ys, xs = [.ref p] ∧ (SqL X.K H p ys ∨ SqT X.K H p ys) ∧ Q (.int ys.length) H) := by
  intro pins s σ H xs us Q I r h
  obtain ⟨p, ys, rfl, hq, q⟩ := h
  obtain ⟨u, rfl, rx⟩ := vals1 r
  cases rx
  have hn := line63
  rcases hq with hq | hq
  · obtain ⟨its, r', pl, hz⟩ := I.list hq
    have hlen := r'.length
    exact Calls.call_len_list pl.isList (by simp only [List.size_toArray] <;> omega) ⟨.int ys.length, H, I.tok _, ⟨s.toks + 1, by rw [List.size_toArray, hlen]⟩, q⟩
  · obtain ⟨its, r', pl, hz⟩ := I.tuple hq
    have hlen := r'.length
    exact len_tuple pl (by simp only [List.size_toArray] <;> omega) ⟨.int ys.length, H, I.tok _, ⟨s.toks + 1, by rw [List.size_toArray, hlen]⟩, q⟩
theorem call_len_str : CallR X (.builtin "len") (fun xs H Q => ∃ z, xs = [.str z] ∧ z.length ≤ sizeLine ∧ Q (.int z.length) H) := by
  intro pins s σ H xs us Q I r h
  obtain ⟨z, rfl, hz, q⟩ := h
  obtain ⟨u, rfl, t, rfl⟩ := vals1 r
  have hn := line63
  exact len_str (by omega) ⟨.int z.length, H, I.tok _, ⟨_, rfl⟩, q⟩
theorem CallR.or {f : Value} {r r' : List V → Hp → VK → Prop} (h : CallR X f r) (h' : CallR X f r') : CallR X f (fun xs H Q => r xs H Q ∨ r' xs H Q) := by
  intro pins s σ H xs us Q I rs q
  rcases q with q | q
  · exact h pins s σ H xs us Q I rs q
  · exact h' pins s σ H xs us Q I rs q
theorem call_list_of : CallR X (.type "list") (fun xs H Q => ∃ p ys, xs = [.ref p] ∧ (SqL X.K H p ys ∨ SqT X.K H p ys) ∧ ∀ l, H l = none → Q (.ref l) (upd H l (.lst ys))) := by
  intro pins s σ H xs us Q I r h
  obtain ⟨p, ys, rfl, hq, q⟩ := h
  obtain ⟨u, rfl, rx⟩ := vals1 r
  cases rx
  have fin : ∀ (its : List Value), Vals ys its → ys.length ≤ sizeLine → ∀ (h' : Heap) (c' : Nat), (∀ b o', s.heap.get? b = some o' → h'.get? b = some o') →
      h'.get? s.heap.objs.size = some { cls := .type "list", dict := none, data := .seq its.toArray c', slots := #[] } → EP X pins σ Q (.ref s.heap.objs.size) { s with heap := h' } := fun its r' hz h' c' kp e =>
    ⟨.ref s.heap.objs.size, _, I.laid (t' := s.toks) kp (Nat.le_refl _) (show ObjOk X.prog X.w _ h' _ (.lst ys) from ⟨hz, its, c', r', e⟩), rfl, q _ (I.hok.fresh (Nat.le_refl _))⟩
  rcases hq with hq | hq
  · obtain ⟨its, r', pl, hz⟩ := I.list hq
    have hlen := r'.length
    obtain ⟨o, ho, hc, n, hd⟩ := pl.isList
    exact call_list_seq p (.inl rfl) ho hc hd (fun h' c' kp e => fin its r' hz h' c' kp e) (by simp only [List.size_toArray] <;> omega)
  · obtain ⟨its, r', pl, hz⟩ := I.tuple hq
    have hlen := r'.length
    obtain ⟨o, ho, hc, n, hd⟩ := pl
    exact call_list_seq p (.inr rfl) ho hc hd (fun h' c' kp e => fin its r' hz h' c' kp e) (by simp only [List.size_toArray] <;> omega)
noncomputable def tyV (K : PySem.W.Frag) (T : String) (x : V) (H : Hp) : Prop := match x with
  | .str _ => T = "str"
  | .int _ => T = "int"
  | .ref p => (T = "list" ∧ ∃ xs, SqL K H p xs) ∨ (T = "tuple" ∧ ∃ o, K.lookup p = some o ∧ o.cls = .type "tuple" ∧ o.dict = none) ∨
      (T = "dict" ∧ ((∃ kvs, H p = some (.dK kvs)) ∨ ∃ kvs, H p = some (.dT kvs))) ∨ (T = "set" ∧ ∃ S n, H p = some (.set S n))
  | _ => False
theorem tyV_is {pins : List (Addr × Obj)} {σ : St} {H : Hp} {s : Shared} {T : String} {x : V} {v : Value} (I : Inv X pins σ H s) (r : RelV x v) (ty : tyV X.K T x H) :
    s.TypeIs v T ∧ ∀ a, v = .ref a → ∃ ob, s.heap.get? a = some ob ∧ ob.dict = none := by
  cases x with
  | str z =>
    obtain ⟨t, rfl⟩ := r
    cases (show T = "str" from ty)
    exact ⟨typeIs_str s z t, fun _ e => nomatch e⟩
  | int i =>
    obtain ⟨t, rfl⟩ := r
    cases (show T = "int" from ty)
    exact ⟨typeIs_int s i t, fun _ e => nomatch e⟩
  | ref p =>
    cases r
    rcases ty with ⟨rfl, xs, hq⟩ | ⟨rfl, o, hk, hc, hd⟩ | ⟨rfl, hk⟩ | ⟨rfl, S, n, hk⟩
    · obtain ⟨its, _, pl, _⟩ := I.list hq
      refine ⟨pl.isList.typeIs, fun a e => ?_⟩
      cases e
      obtain ⟨o, n, e, c, hd, _⟩ := pl
      exact ⟨o, e, hd⟩
    · refine ⟨⟨o, I.kIn p o hk, hc⟩, fun a e => ?_⟩
      cases e
      exact ⟨o, I.kIn _ o hk, hd⟩
    · have z : ∃ o, s.heap.get? p = some o ∧ o.ExactDict := by
        rcases hk with ⟨kvs, hk⟩ | ⟨kvs, hk⟩
        · obtain ⟨_, _, _, _, o, _, _, e, ex, _⟩ := I.hok p _ hk
          exact ⟨o, e, ex⟩
        · obtain ⟨_, _, _, _, o, _, _, e, ex, _⟩ := I.hok p _ hk
          exact ⟨o, e, ex⟩
      obtain ⟨o, e, ex⟩ := z
      refine ⟨⟨o, e, ex.1⟩, fun a e2 => ?_⟩
      cases e2
      exact ⟨o, e, ex.2.1⟩
    · obtain ⟨o, _, _, _, e, ex, _⟩ := I.hok p _ hk
      refine ⟨⟨o, e, ex.1⟩, fun a e2 => ?_⟩
      cases e2
      exact ⟨o, e, ex.2.1⟩
  | _ => exact False.elim ty
noncomputable def tBM0 (K : PySem.W.Frag) (T : String) (r : V → List V → Hp → VK → Prop) (to : TE) : TE := fun σ H Q => to σ H fun x H1 => tyV K T x H1 ∧ r x [] H1 Q
noncomputable def tBM (K : PySem.W.Frag) (T : String) (r : V → List V → Hp → VK → Prop) (to : TE) (t : TA) : TE := fun σ H Q => to σ H fun x H1 => tyV K T x H1 ∧ t σ H1 fun xs H2 => r x xs H2 Q
variable {o e : Expr} {es : List Expr} {to : TE} {t : TA} {name : Str} {apos cpos : Pos} {T id : String} {r : V → List V → Hp → VK → Prop}
theorem pe_bm0 (pa : PlainAttrs T) (slot : Slot T name id) (hty : typeOf (.builtin id) = pure (.type "method_descriptor")) (hm : MtR X id r) (ho : PE X o to)
    (hbase : attributeBase o name X.env (eval o X.env) = eval o X.env := by rfl) (hline : (apos.endLine == cpos.line) = true := by rfl) : PE X (.Call (.Attribute o name apos) [] [] cpos) (tBM0 X.K T r to) := by
  intro pins s σ H Q I h
  refine wpAny_Call_method0_late hbase hline (thn (ho pins s σ H _ I h) fun v s1 ⟨x, H1, I1, r1, ty, q1⟩ => ?_)
  obtain ⟨h1, h2⟩ := tyV_is I1 r1 ty
  exact ⟨T, id, pa, slot, hty, h1, h2, Calls.callWith_builtin rfl (PySem.evalArgs_none (hm pins s1 σ H1 x [] v [] Q I1 r1 .nil q1))⟩
theorem pe_bm (pa : PlainAttrs T) (slot : Slot T name id) (hty : typeOf (.builtin id) = pure (.type "method_descriptor")) (hm : MtR X id r) (ho : PE X o to) (ha : PA X (e :: es) t)
    (hbase : attributeBase o name X.env (eval o X.env) = eval o X.env := by rfl)
    (hfew : ((backTo cpos (starEach (e :: es) X.env)).all (fun x => !x.1) && (backToKw cpos (keywordEach [] X.env)).all (fun x => x.1.isSome)
      && decide ((e :: es).length + ([] : List Keyword).length + (if ([] : List Keyword).isEmpty then 0 else 1) < 30)) = true := by rfl)
    (hline : (apos.endLine == cpos.line) = true := by rfl) (hs : starEach (e :: es) X.env = (false, eval e X.env) :: starEach es X.env := by rfl) (hplain : (backTo cpos (starEach es X.env)).any (·.1) = false := by rfl) :
    PE X (.Call (.Attribute o name apos) (e :: es) [] cpos) (tBM X.K T r to t) := by
  intro pins s σ H Q I h
  refine wpAny_Call_method_late hbase hfew hline rfl (thn (ho pins s σ H _ I h) fun v s1 ⟨x, H1, I1, r1, ty, q1⟩ => ?_)
  obtain ⟨h1, h2⟩ := tyV_is I1 r1 ty
  refine ⟨T, id, pa, slot, hty, h1, h2, ?_⟩
  have hA := ha cpos pins s1 σ H1 _ I1 q1
  rw [hs] at hA ⊢
  refine Calls.callWith_builtin (by show (false || (backTo cpos (starEach es X.env)).any (·.1)) = false; rw [hplain] <;> rfl) (Calls.evalArgs_plain ?_)
  exact thn hA fun us s2 ⟨vs, H2, I2, r2, q2⟩ => hm pins s2 σ H2 x vs v us Q I2 r1 r2 q2
end
end L2

namespace L2
open PySem PySem.Spec PyProof.Rows

noncomputable def MtM (X : Cx) (id : String) (r : V → List V → Hp → VK → Prop) : Prop :=
  ∀ (pins : List (Addr × Obj)) (s : Shared) (σ : St) (H : Hp) (x : V) (xs : List V) (v : Value) (us : List Value) (Q : VK), Inv X pins σ H s → RelV x v → Vals xs us → r x xs H Q →
    wpAny (model X.prog X.w) X.A (call (.builtin id) (v :: us)) (EP X pins σ Q) X.xe s

theorem Vals.one : ∀ {x : V} {us : List Value}, Vals [x] us → ∃ u, us = [u] ∧ RelV x u
  | _, _, .cons r .nil => ⟨_, rfl, r⟩
theorem Vals.two : ∀ {x y : V} {us : List Value}, Vals [x, y] us → ∃ u v, us = [u, v] ∧ RelV x u ∧ RelV y v
  | _, _, _, .cons r (.cons q .nil) => ⟨_, _, rfl, r, q⟩
theorem Vals.zero : ∀ {us : List Value}, Vals [] us → us = []
  | _, .nil => rfl
theorem Vals.rep {xs : List V} {us : List Value} (h : Vals xs us) : ∀ k : Nat, Vals (List.replicate k xs).flatten (List.replicate k us).flatten
  | 0 => .nil
  | k + 1 => by
    rw [List.replicate_succ, List.replicate_succ, List.flatten_cons, List.flatten_cons]
    exact Vals.append h (Vals.rep h k)
theorem foldl_rep (its : List Value) : ∀ (k : Nat) (acc : List Value),
    List.foldl (fun x1 x2 => x1 ++ x2) acc.toArray (List.replicate k its.toArray) = (acc ++ (List.replicate k its).flatten).toArray
  | 0, acc => by simp
  | k + 1, acc => by
    have e : acc.toArray ++ its.toArray = (acc ++ its).toArray := by simp
    have e2 : (acc ++ its) ++ (List.replicate k its).flatten = acc ++ (List.replicate (k + 1) its).flatten := by
      rw [List.replicate_succ, List.flatten_cons, List.append_assoc]
    rw [← e2, ← foldl_rep its k (acc ++ its), ← e, List.replicate_succ, List.foldl_cons]

section
variable {X : Cx} {pins : List (Addr × Obj)} {σ : St} {H : Hp} {s : Shared} {l b : Addr} {xs ys zs : List V}

theorem Inv.lset {its its' : List Value} {n : Nat} {f : Array Value → Array Value} {t' : Nat} (I : Inv X pins σ H s) (hH : H l = some (.lst xs))
    (e : s.heap.get? l = some { cls := .type "list", data := .seq its.toArray n }) (hf : f its.toArray = its'.toArray) (hv : Vals ys its') (hz : ys.length ≤ sizeLine) :
    Inv X pins σ (upd H l (.lst ys)) { s with heap := s.heap.update l (Obj.mapSeq f), toks := t' } := by
  have q := PySem.IsL.update e f
  rw [hf] at q
  refine I.write (x := l) (e := l) (by rw [hH]; exact trivial) (.inl rfl) (fun b' u hb hu => (Heap.get?_update_other s.heap (Obj.mapSeq f) (Ne.symm hb)).trans hu) ⟨_, q⟩ ?_
  exact ⟨hz, its', _, hv, q⟩
theorem Inv.lnew {its : List Value} {t' : Nat} (I : Inv X pins σ H s) (hv : Vals ys its) (hz : ys.length ≤ sizeLine) :
    Inv X pins σ (upd H s.heap.objs.size (.lst ys)) { s with heap := s.heap.push { cls := .type "list", data := .seq its.toArray }, toks := t' } :=
  I.laid (fun _ _ q => Heap.get?_push_of_some _ q) (Nat.le_refl _) ⟨hz, its, 0, hv, Heap.get?_push_size _ rfl⟩
theorem Inv.fresh (I : Inv X pins σ H s) : H s.heap.objs.size = none := I.hok.fresh (Nat.le_refl _)
theorem Inv.lstM (I : Inv X pins σ H s) (hH : H l = some (.lst xs)) : xs.length ≤ sizeLine ∧ ∃ (its : List Value) (n : Nat), Vals xs its ∧ xs.length = its.length ∧ s.heap.get? l = some { cls := .type "list", data := .seq its.toArray n } := by
  obtain ⟨z, its, n, r, e⟩ := I.hok l _ hH
  exact ⟨z, its, n, r, r.length, e⟩

theorem notLongL {n : Nat} (h : n ≤ sizeLine) : Builtin.List.listTooLong n = false := by
  unfold Builtin.List.listTooLong
  exact decide_eq_false (by omega)
end

section
variable {X : Cx}

noncomputable def rAppend : V → List V → Hp → VK → Prop := fun x vs H Q => ∃ l xs y, x = .ref l ∧ vs = [y] ∧ H l = some (.lst xs) ∧ xs.length < sizeLine ∧ Q .non (upd H l (.lst (xs ++ [y])))
theorem mt_append : MtM X "list.append" rAppend := by
  intro pins s σ H x vs v us Q I rx rv h
  obtain ⟨l, xs, y, rfl, rfl, hH, hz, q⟩ := h
  cases rx
  obtain ⟨u, rfl, ru⟩ := rv.one
  obtain ⟨z, its, n, r, hl, e⟩ := I.lstM hH
  refine call_meets F.slot_list_append ⟨_, e, rfl⟩ F.entry_list_append (F.args_list_append_2 _ _) (PySem.list_append l its.toArray n u (by rw [List.size_toArray]; omega)) ⟨e, ?_⟩
  refine ⟨.non, _, I.lset (its' := its ++ [u]) hH e (by simp) (r.append (.cons ru .nil)) ?_, rfl, q⟩
  rw [List.length_append, List.length_singleton]
  omega

noncomputable def rExtend : V → List V → Hp → VK → Prop := fun x vs H Q => ∃ l b xs zs, x = .ref l ∧ vs = [.ref b] ∧ H l = some (.lst xs) ∧ H b = some (.lst zs) ∧ xs.length + zs.length ≤ sizeLine ∧ Q .non (upd H l (.lst (xs ++ zs)))
theorem mt_extend : MtM X "list.extend" rExtend := by
  intro pins s σ H x vs v us Q I rx rv h
  obtain ⟨l, b, xs, zs, rfl, rfl, hH, hB, hz, q⟩ := h
  cases rx
  obtain ⟨u, rfl, ru⟩ := rv.one
  cases ru
  obtain ⟨z, its, n, r, hl, e⟩ := I.lstM hH
  obtain ⟨z2, its2, n2, r2, hl2, e2⟩ := I.lstM hB
  have hsz : its.toArray.size + its2.toArray.size ≤ sizeLine := by rw [List.size_toArray, List.size_toArray]; omega
  have hlong : ¬ (!its.toArray.isEmpty && Builtin.List.listTooLong (its.toArray.size + its2.toArray.size)) = true := by
    rw [notLongL hsz, Bool.and_false]
    exact Bool.false_ne_true
  refine call_meets F.slot_list_extend ⟨_, e, rfl⟩ F.entry_list_extend (F.args_list_extend_2 _ _)
    (AutoSeq1.list_extend_list_list_0 l its.toArray n b its2.toArray n2 hlong (by rw [List.size_toArray]; omega) (by omega)) ⟨e, e2, ?_⟩
  refine ⟨.non, _, I.lset (its' := its ++ its2) hH e (by simp) (r.append r2) ?_, rfl, q⟩
  rw [List.length_append]
  omega

noncomputable def rClear : V → List V → Hp → VK → Prop := fun x vs H Q => ∃ l xs, x = .ref l ∧ vs = [] ∧ H l = some (.lst xs) ∧ Q .non (upd H l (.lst []))
theorem mt_clear : MtM X "list.clear" rClear := by
  intro pins s σ H x vs v us Q I rx rv h
  obtain ⟨l, xs, rfl, rfl, hH, q⟩ := h
  cases rx
  have hus := rv.zero
  subst hus
  obtain ⟨z, its, n, r, hl, e⟩ := I.lstM hH
  refine call_meets F.slot_list_clear ⟨_, e, rfl⟩ F.entry_list_clear (F.args_list_clear_1 _) (AutoSeq1.list_clear_list_0 l its.toArray n (by rw [List.size_toArray]; omega)) ⟨e, ?_⟩
  exact ⟨.non, _, I.lset (its' := []) (ys := []) hH e rfl .nil (Nat.zero_le _), rfl, q⟩

noncomputable def rCat : R2 := fun x y H Q => ∃ l b xs zs, x = .ref l ∧ y = .ref b ∧ H l = some (.lst xs) ∧ H b = some (.lst zs) ∧ xs.length + zs.length ≤ sizeLine ∧ ∀ p, H p = none → Q (.ref p) (upd H p (.lst (xs ++ zs)))
theorem op_cat : OpR X (binaryOp .Add) rCat := by
  intro pins s σ H x y v u Q I rx ry h
  obtain ⟨l, b, xs, zs, rfl, rfl, hH, hB, hz, q⟩ := h
  cases rx
  cases ry
  obtain ⟨z, its, n, r, hl, e⟩ := I.lstM hH
  obtain ⟨z2, its2, n2, r2, hl2, e2⟩ := I.lstM hB
  refine PySem.P.add_list e e2 ?_ (by rw [List.size_toArray, List.size_toArray]; omega)
  have ea : its.toArray ++ its2.toArray = (its ++ its2).toArray := by simp
  rw [ea]
  exact ⟨.ref _, _, I.lnew (t' := s.toks) (r.append r2) (by rw [List.length_append]; omega), rfl, q _ I.fresh⟩
noncomputable def rRep : R2 := fun x y H Q => ∃ l k xs, x = .ref l ∧ y = .int k ∧ H l = some (.lst xs) ∧ -(2 ^ 63) ≤ k ∧ k < 2 ^ 63 ∧ xs.length * k.toNat ≤ sizeLine ∧
  ∀ p, H p = none → Q (.ref p) (upd H p (.lst (List.replicate k.toNat xs).flatten))
theorem len_rep {α : Type} (xs : List α) (k : Nat) : (List.replicate k xs).flatten.length = k * xs.length := by
  induction k with
  | zero => simp
  | succ k ih => rw [List.replicate_succ, List.flatten_cons, List.length_append, ih, Nat.succ_mul, Nat.add_comm]
theorem op_rep : OpR X (binaryOp .Mult) rRep := by
  intro pins s σ H x y v u Q I rx ry h
  obtain ⟨l, k, xs, rfl, rfl, hH, h1, h2, hz, q⟩ := h
  cases rx
  obtain ⟨t, rfl⟩ := ry
  obtain ⟨z, its, n, r, hl, e⟩ := I.lstM hH
  have hlen : its.toArray.size * k.toNat ≤ sizeLine := by rw [List.size_toArray, ← hl]; exact hz
  have hcap : ¬ its.toArray.size * k.toNat > (2 ^ 63 - 1) / 8 := by
    have : (sizeLine : Nat) ≤ (2 ^ 63 - 1) / 8 := by decide
    omega
  have hfit : ¬ (!Builtin.List.listFitsIndex k) = true := by
    rw [fitsIndex_both h1 h2]
    exact Bool.false_ne_true
  have hlong : ¬ Builtin.List.listTooLong (its.toArray.size * k.toNat) = true := by
    rw [notLongL hlen]
    exact Bool.false_ne_true
  have hnew : List.foldl (fun x1 x2 => x1 ++ x2) #[] (List.replicate (if its.toArray.isEmpty = true then 0 else k.toNat) its.toArray) = (List.replicate k.toNat its).flatten.toArray := by
    have f0 : ∀ m : Nat, List.foldl (fun x1 x2 => x1 ++ x2) #[] (List.replicate m its.toArray) = (List.replicate m its).flatten.toArray := fun m => by
      have := foldl_rep its m []
      rw [List.nil_append] at this
      exact this
    rw [f0]
    cases its with
    | nil => simp
    | cons a r' => rw [if_neg (by simp)]
  refine wpAny_binaryOp_repeat_ref (T := "list") (U := "int") (by decide) ⟨_, e, rfl⟩ (fun s' => typeIs_int s' k t) noFill_list_mul F.fills_int_mul F.slot_int_rmul repeat_list F.slot_int_index.lookup
    (call_meets F.slot_int_rmul (typeIs_int s k t) F.entry_int_rmul (F.args_int_rmul_2 _ _) (int___rmul___int_list k t l its.toArray n)
      ⟨e, rfl, ⟨_, e, rfl⟩, call_meets F.slot_list_mul ⟨_, e, rfl⟩ F.entry_list_mul (F.args_list_mul_2 _ _) (AutoListH.list___mul___list_int_3 l its.toArray n k t hfit hcap hlong) ⟨e, ?_⟩⟩)
  rw [hnew]
  exact ⟨.ref _, _, I.lnew (t' := s.toks) (r.rep k.toNat) (by rw [len_rep, Nat.mul_comm]; exact hz), rfl, q _ I.fresh⟩

end

section
variable {prog : Program} {w : World} {A : Around} {E : Value → Shared → Prop} {s : Shared}
end

section
variable {X : Cx}
end
end L2

namespace Att
open PySem PySem.W PySem.Calls PyProof.Rows

theorem ints_of_wellAll {P : Params} {h : Heap} : ∀ (ns : List Int) (vs : List Value), WellAll P h vs (ns.map WData.int) → IntsAre vs ns := by
  intro ns
  induction ns with
  | nil =>
    intro vs w
    rw [List.map_nil] at w
    cases w
    exact .nil
  | cons n ns ih =>
    intro vs w
    rw [List.map_cons] at w
    cases w with
    | cons a b =>
      cases a
      exact .cons _ _ (ih _ b)

theorem script_of {l : OpenLaw} {n : Nat} (hn : l.most = some n) {P : Params} {h : Heap} {args : List WData} {vals : List Value}
    (hpre : l.row.toRowW.claim.pre args = true) (hwl : WellAll P h vals args) :
    ∃ a vs ns, vals = [Value.ref a] ∧ args = [WData.list (ns.map WData.int)] ∧ h.get? a = some { cls := .type "list", data := .seq vs.toArray } ∧ IntsAre vs ns ∧ ns.length ≤ n := by
  have hsh : WShape.hasAll [] args [.list .int] = true := (pre_splitW hpre).1
  have hc : l.pre.holds [] { args := args } = true := (pre_splitW hpre).2
  obtain ⟨d, r, rfl, h1, h2⟩ := hasAllW_cons hsh
  obtain rfl := hasAllW_nil h2
  obtain ⟨xs, rfl, h3⟩ := hasW_list h1
  obtain ⟨ns, rfl⟩ := items_int h3
  have hlen : ns.length ≤ n := by
    unfold OpenLaw.pre at hc
    have h4 : (WTm.not (.lt (.lit (.int (n : Int))) (.len (.arg 0)))).holds [] { args := [.list (ns.map .int)] } = true := by
      have h4 := (holds_andW hc).1
      rw [hn] at h4
      exact h4
    have h5 := condW_of h4 (w_not (w_lt w_lit (w_len_list (w_arg rfl))))
    rw [List.length_map] at h5
    refine Nat.le_of_not_lt fun q => ?_
    have q' : (n : Int) < ((ns.length : Nat) : Int) := by omega
    first
      | (rw [decide_eq_true q'] at h5; exact absurd h5 (by decide))
      | (simp at h5; omega)
  cases hwl with
  | cons w1 w2 =>
    cases w2
    cases w1 with
    | list ho hall => exact ⟨_, _, ns, rfl, rfl, ho, ints_of_wellAll ns _ hall, hlen⟩

theorem post_true (l : OpenLaw) (args : List WData) : l.row.toRowW.claim.post args (.bool true) args = true :=
  postW_of (r := l.row.toRowW) (X := (true == true))
    (show WShape.has [] (.bool true) .bool = true by first | rfl | decide | simp [WShape.has, WShape.arms, WShape.armsAll])
    (show (WTm.eq .res (.lit (.bool true))).value [] { args := args, res := some (.bool true), after := args } = some (.bool (true == true)) from w_eq_bool (w_res rfl) w_lit) rfl

theorem attach_call {l : OpenLaw} {n : Nat} {q : Program} {loose : List Str} {XP : (Str → Option Value) → Heap → Prop} {YP : World → Heap → Prop} {d : DefRec}
    (hn : l.most = some n) (hdf : d.params.defaults = [])
    (call : ∀ (w : World) (s₀ s₁ : Shared) (mg mb : Str → Option Value) (fa : Addr) (o : Obj) (pm cd doc : Value) (a : Addr) (vs : List Value) (ns : List Int),
      Ground q loose [] XP w s₀ mg mb s₁.heap → YP w s₁.heap →
      s₁.heap.get? fa = some o → o.data = .func (docDef d.name d.params d.body d.scope pm cd doc) → s₁.heap.CodeRec cd d.name → mg d.name = some (.ref fa) →
      s₁.heap.get? a = some { cls := .type "list", data := .seq vs.toArray } → IntsAre vs ns → ns.length ≤ n → s₁.gens = #[] →
      codeAny (model l.prog w) callerA (.call (.ref fa) ⟨[.ref a], []⟩) (fun r s' => r = .ok (.ret (.bool true)) ∧ OldK s₁.heap s'.heap ∧ s'.os = s₁.os ∧ AllBare s'.gens) s₁) :
    WalkO q loose XP YP l.row.toRowW d [] (fun f vs => PySem.call f vs) := by
  intro w s₀ s₁ mg mb G Y fa o pm cd doc dV kV ho hd hcd hD hmg hg args vals as hpre hlay hrd hwl hlo
  obtain rfl : dV = .none := Dflts.none hD hdf
  obtain rfl : kV = .none := Dflts.noKw hD
  obtain ⟨a, vs, ns, rfl, rfl, hobj, hints, hlen⟩ := script_of hn hpre hwl
  refine enter_call (codeAny_mono (call w s₀ s₁ mg mb fa o pm cd doc a vs ns G Y ho (fd_plain hd) hcd hmg hobj hints hlen hg) fun r s' hq => ?_)
  obtain ⟨rfl, h2, h3, h4⟩ := hq
  exact ⟨.inl ⟨.bool true, .bool true, [], rfl, fun _ => rfl, .bool true, post_true l _, fun _ => ⟨List.Pairwise.nil, fun _ hm => (nomatch hm)⟩⟩, h2, h3, h4⟩

section
variable {prog : Program} {w : World} {A : Around} {E : Value → Shared → Prop} {s : Shared} {K : Frag}

end
end Att

namespace L2
open PySem PySem.Spec PyProof.Rows

theorem vals_ints : ∀ {vs : List Value} {ns : List Int}, IntsAre vs ns → Vals (ns.map V.int) vs
  | _, _, .nil => .nil
  | _, _, .cons n t h => .cons ⟨t, rfl⟩ (vals_ints h)

noncomputable def Only (H : Hp) : Prop := ∀ b, H b = none ∨ ∃ o xs, H b = some (.frz o (.lst xs))

theorem law_call {P : Program} {w : World} {K : PySem.W.Frag} {mg mb : Str → Option Value} {CX : CXT} {k : Nat} {fa a : Addr} {fd : FuncData} {x : Str} {sp : Sp} {s₁ : Shared} {vs : List Value} {ns : List Int}
    (KX : K.In s₁.heap) (hns : s₁.heap.Ns mainGlobals mg) (hb : s₁.heap.Ns builtinsNs mb) (hbb : ∀ x : Str, x ≠ "__name__" → mb x = bootBuiltins x) (hlim : s₁.heap.NoLimit) (hg : s₁.gens = #[])
    (ha : s₁.heap.get? a = some { cls := .type "list", data := .seq vs.toArray }) (hi : IntsAre vs ns) (hl : ns.length ≤ sizeLine) (hr : Room k callerA)
    (F : ∀ base : Heap, K.In base → base.Ns mainGlobals mg → FnOk P w K mg base CX k fa fd [x] sp) (hbind : ∀ (s : Shared) (u : Value), BindsTo s fd ⟨[u], []⟩ [(x, u)])
    (hsp : ∀ H : Hp, Only H → SqL K H a (ns.map V.int) → sp [.ref a] H (fun v _ => v = .bl true) fun _ _ _ => False)
    (hCX : ∀ H e s', CX [] H s₁ (fun _ _ _ => False) e s' → False) :
    codeAny (model P w) callerA (.call (.ref fa) ⟨[.ref a], []⟩) (fun r s' => r = .ok (.ret (.bool true)) ∧ OldK s₁.heap s'.heap ∧ s'.os = s₁.os ∧ AllBare s'.gens) s₁ := by
  have rv := vals_ints hi
  have lenV := hi.length
  -- from an abstract heap in which nothing but the script may be tracked
  have core : ∀ H : Hp, Only H → SqL K H a (ns.map V.int) → HOk P w H s₁.heap → (∀ b, H b ≠ none → b = a) → (H a ≠ none → K.lookup a = none) →
      codeAny (model P w) callerA (.call (.ref fa) ⟨[.ref a], []⟩) (fun r s' => r = .ok (.ret (.bool true)) ∧ OldK s₁.heap s'.heap ∧ s'.os = s₁.os ∧ AllBare s'.gens) s₁ := by
    intro H hO hS hok hA hK
    have base_of : ∀ {b : Addr} {o : Obj}, s₁.heap.get? b = some o → H b = none → (hidT s₁.heap H).get? b = some o := fun e n => hidT_get e n
    have noA : ∀ {b : Addr} {o : Obj} {es : Array DictEntry} {ep : Nat}, s₁.heap.get? b = some o → o.data = .dict es ep → H b = none := fun {b o es ep} e d => by
      cases q : H b with
      | none => rfl
      | some u =>
        have e' : b = a := hA b (by rw [q]; simp)
        subst e'
        rw [ha] at e; cases e
        have d' : Data.seq vs.toArray _ = Data.dict es ep := d
        cases d'
    have nsK : ∀ {b : Addr} {m : Str → Option Value}, s₁.heap.Ns b m → (hidT s₁.heap H).Ns b m := fun {b m} ⟨o, es, ep, e, d, r⟩ => ⟨o, es, ep, base_of e (noA e d), d, r⟩
    have hKb : K.In (hidT s₁.heap H) := fun b o e => base_of (KX b o e) (by
      cases q : H b with
      | none => rfl
      | some u =>
        have e' : b = a := hA b (by rw [q]; simp)
        subst e'
        rw [hK (by rw [q]; simp)] at e; cases e)
    have hM : Mod K mg (hidT s₁.heap H) := ⟨hKb, nsK hns, ⟨mb, nsK hb, hbb⟩, let ⟨mc, h1, h2⟩ := hlim; ⟨mc, nsK h1, h2⟩⟩
    have e0 : Env0 P w K mg (hidT s₁.heap H) callerA [] s₁ H := ⟨rfl, hM, fun b o e => of_hidT e, Nat.le_of_eq (hidT_size _ _), trivial, fun b hb => absurd (show b ∈ ([] : List Addr) from hb) (by simp), hok, .of_eq hg⟩
    refine codeAny_mono ((F _ hKb (nsK hns)).run callerA [] s₁ H ⟨[.ref a], []⟩ [.ref a] [.ref a] _ _ hr e0 (hbind s₁ (.ref a)) (.cons rfl .nil) (hsp H hO hS)) fun r s' h => ?_
    cases r with
    | error e => exact (hCX H e s' h).elim
    | ok fl =>
      cases fl with
      | next => exact False.elim h
      | brk => exact False.elim h
      | cont => exact False.elim h
      | ret u =>
        obtain ⟨v, H', os, bare, un, hok', r', q⟩ := h
        have q' : v = .bl true := q
        subst q'
        obtain rfl : u = Value.bool true := r'
        refine ⟨rfl, OldK.of_keep fun b o e => ?_, os, bare⟩
        cases q : H b with
        | none => exact un.keep b o e q (by intro z; exact absurd (show b ∈ ([] : List Addr) from z) (by simp)) (by simp)
        | some u =>
          rcases hO b with z | ⟨ob, xs, z⟩
          · rw [q] at z; cases z
          · have z2 := un.frzs b ob _ z
            obtain ⟨e1, _⟩ := hok b _ z
            obtain ⟨e2, _⟩ := hok' b _ z2
            rw [e] at e1; cases e1
            exact e2
  cases hk : K.lookup a with
  | some o =>
    -- the script is one of the module's own objects
    have e := KX a o hk
    rw [ha] at e
    cases e
    refine core (fun _ => none) (fun _ => .inl rfl) (.inr ⟨_, vs.toArray, _, hk, rfl, rfl, rfl, by rw [List.size_toArray, lenV]; exact hl, by simpa using rv⟩) (fun b u z => by have z' : (none : Option HO) = some u := z; cases z') (fun b z => absurd rfl z) fun z => absurd rfl z
  | none =>
    refine core (fun b => if b = a then some (.frz { cls := .type "list", data := .seq vs.toArray } (.lst (ns.map V.int))) else none) (fun b => ?_) (.inl (.inr ⟨{ cls := .type "list", data := .seq vs.toArray }, if_pos rfl⟩)) (fun b u z => ?_) (fun b z => ?_) fun _ => hk
    · by_cases hb : b = a
      · exact .inr ⟨_, _, if_pos hb⟩
      · exact .inl (if_neg hb)
    · by_cases hb : b = a
      · have z' := (if_pos hb).symm.trans z
        cases z'
        subst hb
        exact ⟨ha, by rw [List.length_map]; exact hl, vs, _, rv, ha⟩
      · have z' := (if_neg hb).symm.trans z
        cases z'
    · by_cases hb : b = a
      · exact hb
      · exact absurd (if_neg hb) z
end L2

namespace L2
open PySem PySem.Spec PyProof.Rows

theorem walk_of {l : PySem.W.OpenLaw} {n k : Nat} {q : Program} {loose : List Str} {XP : (Str → Option Value) → Heap → Prop} {YP : World → Heap → Prop} {d : DefRec} {K : Params → PySem.W.Frag} {CX : World → CXT} {sp : World → Sp} {x : Str}
    (hn : l.most = some n) (hn2 : n ≤ sizeLine) (hdf : d.params.defaults = []) (hr : Room k callerA)
    (hY : ∀ (w : World) (h : Heap), YP w h → (K w.params).In h)
    (F : ∀ (w : World) (mg : Str → Option Value) (fa : Addr) (h : Heap), (K w.params).In h → h.Ns mainGlobals mg → mg d.name = some (.ref fa) →
      ∃ fd : FuncData, (∀ (s : Shared) (u : Value), BindsTo s fd ⟨[u], []⟩ [(x, u)]) ∧
        ∀ base : Heap, (K w.params).In base → base.Ns mainGlobals mg → FnOk l.prog w (K w.params) mg base (CX w) k fa fd [x] (sp w))
    (hsp : ∀ (w : World) (H : Hp) (a : Addr) (ns : List Int), ns.length ≤ n → Only H → SqL (K w.params) H a (ns.map V.int) → sp w [.ref a] H (fun v _ => v = .bl true) fun _ _ _ => False)
    (hCX : ∀ (w : World) (H : Hp) (s : Shared) (e : Value) (s' : Shared), CX w [] H s (fun _ _ _ => False) e s' → False) :
    PySem.W.WalkO q loose XP YP l.row.toRowW d [] (fun f vs => PySem.call f vs) := by
  refine Att.attach_call hn hdf fun w s₀ s₁ mg mb fa o pm cd doc a vs ns G Y ho hd hcd hmg hobj hints hlen hg => ?_
  have KX := hY w _ Y
  obtain ⟨fd, hb, hF⟩ := F w mg fa _ KX G.T.g hmg
  exact law_call KX G.T.g G.T.b G.T.builtins G.T.nolimit hg hobj hints (Nat.le_trans hlen hn2) hr hF hb (fun H hO hS => hsp w H a ns hlen hO hS) fun H e s' => hCX w H s₁ e s'
end L2

namespace L2
open PySem PySem.Spec PyProof.Rows

noncomputable def inClass (s : Stmt) (j : Nat) : Stmt := match s with
  | .ClassDef _ _ _ body _ _ _ _ _ _ _ => body.getD j (.Pass ⟨0, 0, 0, 0⟩)
  | _ => .Pass ⟨0, 0, 0, 0⟩
noncomputable def defArgs (s : Stmt) : Arguments := match s with
  | .FunctionDef _ a _ _ _ _ _ _ _ _ => a
  | _ => { posonlyargs := [], args := [], vararg := none, kwonlyargs := [], kw_defaults := [], kwarg := none, defaults := [] }
noncomputable def defBody (s : Stmt) : List Stmt := match s with
  | .FunctionDef _ _ b _ _ _ _ _ _ _ => b
  | _ => []
noncomputable def defScope (s : Stmt) : Scope := match s with
  | .FunctionDef _ _ _ _ _ _ sc _ _ _ => sc
  | _ => { kind := .function, names := [], isGenerator := false, isCoroutine := false }

noncomputable abbrev CX0 : CXT := fun _ _ _ _ _ _ => False
noncomputable abbrev E0 : XK := fun _ _ _ => False
theorem pass0 {X : Cx} : Passes CX0 X E0 := fun _ _ _ _ _ _ _ h => h.elim

structure Fun (K : PySem.W.Frag) (x qual : Str) (st : Stmt) (f : Addr) (fd : FuncData) : Prop where
  ex : ∃ (oc : Value) (od : Option Addr) (kV doc pm : Value) (an : Option Addr) (cdv ct : Value) (osl : Array (Option Value)),
    fd = PySem.W.fnOf x qual (defArgs st) (defBody st) (defScope st) .none kV doc pm an cdv ct ∧ K.lookup f = some ⟨oc, od, .func fd, osl⟩ ∧ PySem.W.codeIn K cdv qual = true
  kp : PySem.W.keepIn K (.ref f) = true
section
variable {P : Program} {w : World} {K : PySem.W.Frag} {mg : Str → Option Value} {base : Heap}
theorem Fun.ok {x qual : Str} {st : Stmt} {f : Addr} {fd : FuncData} {N ps : List Str} {k : Nat} {sp : Sp} (F : Fun K x qual st f fd) (S : FnScope N ps (defScope st)) (len : ∀ vs H Q E, sp vs H Q E → vs.length = ps.length)
    (hbody : ∀ (cdv : Value) (A : Around) (outer : List Env) (s : Shared) (H : Hp) (vs : List V) (Q : VK) (E : XK), Room k (A.deeper (envOfC qual (defScope st) s.heap.objs.size f cdv)) → sp vs H Q E →
      ∃ t, PSs (cxOf CX0 P w K mg base N qual (defScope st) f cdv A outer s H E).nox (defBody st) t ∧ t { nx := fun _ H' => Q .non H', rt := Q } (start N vs) H) : FnOk P w K mg base CX0 (k + 1) f fd ps sp := by
  obtain ⟨oc, od, kV, doc, pm, an, cdv, ct, osl, rfl, lk, hcd⟩ := F.ex
  refine fn_of lk hcd S len fun A outer s H vs Q E hr hsp => ?_
  obtain ⟨t, h, q⟩ := hbody cdv A outer s H vs Q E hr hsp
  exact ⟨t, h.nox, q⟩
theorem Fun.binds {x qual : Str} {st : Stmt} {f : Addr} {fd : FuncData} {ps : List Str} (F : Fun K x qual st f fd)
    (h : ∀ (kV doc pm : Value) (an : Option Addr) (cdv ct : Value) (us : List Value), us.length = ps.length → bindArgs (PySem.W.fnOf x qual (defArgs st) (defBody st) (defScope st) .none kV doc pm an cdv ct) ⟨us, []⟩ = pure (ps.zip us)) : Binds K fd ps [] := by
  obtain ⟨oc, od, kV, doc, pm, an, cdv, ct, osl, rfl, lk, hcd⟩ := F.ex
  exact .all (h kV doc pm an cdv ct)
end
section
variable {X : Cx}
theorem pv (i : Nat) {x : Str} {pos : Pos} (hN : X.N[i]? = some x := by rfl) (hv : Vis X.env.scope x := by first | exact Or.inl rfl | exact Or.inr (Or.inl rfl) | exact Or.inr (Or.inr rfl)) (hd : (x == ("__debug__" : Str)) = false := by decide)
    (hcd : (x == ("__classdict__" : Str)) = false := by decide) : PE X (.Name x pos) (tVar i) := pe_var hN hv hd hcd
end

theorem iteF {A B : Prop} (h : B) : if false = true then A else B := by
  rw [if_neg Bool.false_ne_true]
  exact h
theorem ite2 {c A B : Prop} [Decidable c] (h1 : c → A) (h2 : ¬ c → B) : if c then A else B := by
  by_cases h : c
  · rw [if_pos h]
    exact h1 h
  · rw [if_neg h]
    exact h2 h
noncomputable def Same (H H' : Hp) : Prop := ∀ b o, H b = some o → H' b = some o
theorem Same.refl (H : Hp) : Same H H := fun _ _ h => h
theorem Same.trans {H H1 H2 : Hp} (a : Same H H1) (b : Same H1 H2) : Same H H2 := fun c o h => b c o (a c o h)
theorem Same.free {H H' : Hp} (e : Same H H') {l : Addr} (h : H' l = Option.none) : H l = Option.none := by
  cases q : H l with
  | none => rfl
  | some o =>
    rw [e l o q] at h
    cases h
theorem Same.seq {K : PySem.W.Frag} {H H' : Hp} {a : Addr} {xs : List V} (e : Same H H') (h : SqL K H a xs) : SqL K H' a xs := by
  rcases h with (h | ⟨o, h⟩) | h
  · exact .inl (.inl (e _ _ h))
  · exact .inl (.inr ⟨o, e _ _ h⟩)
  · exact .inr h

end L2

namespace L2
open PySem PySem.Spec PyProof.Rows

end L2

namespace L2
open PySem PySem.Spec PyProof.Rows

section
variable (P : Program) (w : World)
end

section
variable {P : Program} {w : World} {H H' : Hp} {h h' : Heap} {a : Addr} {o : HO}
end

section
variable {P : Program} {w : World} {H : Hp} {h h' : Heap} {x e : Addr} {o' : HO}
end

section
variable {fs fs' ex ex' : List Addr} {H H1 H2 : Hp} {h h1 h2 h' : Heap} {a x e : Addr} {o : HO}
end

end L2

namespace L2
open PySem PySem.Spec PyProof.Rows

section
variable {X : Cx} {pins : List (Addr × Obj)} {σ : List (Option V)} {H H' : Hp} {s : Shared} {h' : Heap}

end

end L2

namespace L2
open PySem PySem.Spec PyProof.Rows
section
variable {X : Cx}

variable {a b : Expr} {ta tb : TE} {pos : Pos}
variable {tA tB' : TT} {rest : List Expr}
end
end L2

namespace L2
open PySem PySem.Spec PyProof.Rows

section
variable {X : Cx} {pins : List (Addr × Obj)} {σ : St} {H : Hp} {s : Shared} {a : Addr} {xs ys : List V}
end

section
variable {X : Cx} {pins : List (Addr × Obj)} {σ : St} {H : Hp} {s : Shared} {E : Value → Shared → Prop}
end

section
variable {X : Cx} {st : Stmt} {rest : List Stmt} {t u : TS} {e : Expr} {te : TE} {pos : Pos}
end

section
variable {X : Cx} {pos : Pos}
end

section
variable {X : Cx} {pos : Pos}
end

end L2

namespace L2
open PySem PySem.Spec PyProof.Rows
section
variable {X : Cx} {tg : Expr}
end

end L2

namespace L2
open PySem PySem.Spec PyProof.Rows

section
variable {X : Cx} {a b c : Expr} {ta tb tc : TE} {pos : Pos}

end

section
variable {X : Cx} {a b c : Expr} {ta tb tc : TE} {pos : Pos}
end
end L2

namespace L2
open PySem PySem.Spec PyProof.Rows

section
variable {prog : Program} {w : World} {A : Around} {E : Value → Shared → Prop} {s : Shared} {K : PySem.W.Frag} {x dx C f : Addr} {mA : Str → Option Value} {name : Str} {v : Value}

end

section
variable {P : Program} {w : World} {H H' : Hp} {h h' : Heap} {a C dx : Addr} {fs fs' : List (Str × V)}
end

section
variable {X : Cx} {pins : List (Addr × Obj)} {σ : St} {H : Hp} {s : Shared} {a C dx : Addr} {fs : List (Str × V)} {f : Str} {v : V} {A : Around} {E : Value → Shared → Prop}

end

section
variable {X : Cx} {o e value : Expr} {f : Str} {pos pos' tpos : Pos} {ta tv : TE}
end

section
variable {X : Cx} {pins : List (Addr × Obj)} {σ : St} {H : Hp} {s : Shared} {A : Around} {E : Value → Shared → Prop} {Q : Value → Shared → Prop} {c : Value} {b : Bool}
end
end L2

namespace L2
open PySem PySem.Spec PyProof.Rows

section
variable {X : Cx} {e : Expr} {es : List Expr} {te : TE} {t : TA} {pos : Pos}
end

section
variable {X : Cx} {pins : List (Addr × Obj)} {σ : St} {H : Hp} {s s' : Shared}
end

section
variable {X : Cx} {CX : CXT} {k : Nat} {f C : Addr} {fd : FuncData} {ps : List Str} {sp : Sp} {dvs : List V} {ds : List Value} {E : XK} {x m : Str} {p pos apos : Pos} {e o : Expr} {es : List Expr} {ta : TE} {t : TA}

end

section
variable {X : Cx} {CX : CXT} {k : Nat} {f C : Addr} {fd : FuncData} {ps ks : List Str} {sp : Sp} {E : XK} {x m : Str} {p pos apos kpos : Pos} {e o : Expr} {es : List Expr} {kws : List Keyword} {te ta : TE} {t tk : TA} {nm : Option Str}
variable {g : List Value → List Value → List Value} {gV : List V → List V → List V}
end

end L2

namespace L2
open PySem PySem.Spec PyProof.Rows
section
variable {X : Cx} {x : Str} {p pos : Pos} {e : Expr} {es : List Expr} {t : TA} {id T : String} {r : List V → Hp → VK → Prop}

end
end L2

namespace L2
open PySem PySem.Spec PyProof.Rows

section
variable {κ : Type} [DecidableEq κ]
noncomputable def valV (kvs : List (κ × V)) (k : κ) : Option V := (kvs.find? fun kv => decide (kv.1 = k)).map (·.2)
noncomputable def putK (kvs : List (κ × V)) (k : κ) (v : V) : List (κ × V) :=
  if (kvs.any fun kv => decide (kv.1 = k)) = true then kvs.map (fun kv => if kv.1 = k then (kv.1, v) else kv) else kvs ++ [(k, v)]
noncomputable def dropK (kvs : List (κ × V)) (k : κ) : List (κ × V) := kvs.filter fun kv => decide (kv.1 ≠ k)

theorem valV_pos {p : κ × V} {r : List (κ × V)} {k : κ} (e : p.1 = k) : valV (p :: r) k = some p.2 := by simp [valV, List.find?_cons, e]
theorem valV_neg {p : κ × V} {r : List (κ × V)} {k : κ} (e : ¬ p.1 = k) : valV (p :: r) k = valV r k := by simp [valV, List.find?_cons, e]
theorem valV_any (k : κ) : ∀ kvs : List (κ × V), (kvs.any fun kv => decide (kv.1 = k)) = (valV kvs k).isSome
  | [] => rfl
  | p :: r => by
    rw [List.any_cons]
    by_cases e : p.1 = k
    · simp only [valV_pos e, decide_eq_true e, Bool.true_or, Option.isSome_some]
    · rw [valV_neg e, decide_eq_false e, Bool.false_or]; exact valV_any k r
theorem RelO.isSome_eq {o : Option V} {u : Option Value} (r : RelO o u) : o.isSome = u.isSome := by
  cases o with
  | none => cases u with
    | none => rfl
    | some _ => exact (show False from r).elim
  | some _ => cases u with
    | none => exact (show False from r).elim
    | some _ => rfl
theorem RelO.getD {o : Option V} {u : Option Value} {d : V} {d' : Value} (r : RelO o u) (rd : RelV d d') : RelV (o.getD d) (u.getD d') := by
  cases o with
  | none => cases u with
    | none => exact rd
    | some _ => exact (show False from r).elim
  | some _ => cases u with
    | none => exact (show False from r).elim
    | some _ => exact r

theorem KV.val {kvs : List (κ × V)} {vs : List (κ × Value)} (r : KV kvs vs) (k : κ) : RelO (valV kvs k) (valueAt vs k) := by
  unfold KV at r
  induction r with
  | nil => exact True.intro
  | @cons p q ps qs h t ih =>
    obtain ⟨h1, h2⟩ := h
    by_cases e : p.1 = k
    · have e' : q.1 = k := h1.symm.trans e
      have b : valueAt (q :: qs) k = some q.2 := by simp [valueAt, List.find?_cons, e']
      rw [valV_pos e, b]; exact h2
    · have e' : ¬ q.1 = k := fun z => e (h1.trans z)
      have b : valueAt (q :: qs) k = valueAt qs k := by simp [valueAt, List.find?_cons, e']
      rw [valV_neg e, b]; exact ih
theorem KV.any {kvs : List (κ × V)} {vs : List (κ × Value)} (r : KV kvs vs) (k : κ) : (kvs.any fun kv => decide (kv.1 = k)) = vs.any fun kv => decide (kv.1 = k) := by
  unfold KV at r
  induction r with
  | nil => rfl
  | cons h t ih => rw [List.any_cons, List.any_cons, ih, h.1]
theorem KV.repl {kvs : List (κ × V)} {vs : List (κ × Value)} (r : KV kvs vs) (k : κ) {y : V} {u : Value} (ry : RelV y u) :
    KV (kvs.map fun kv => if kv.1 = k then (kv.1, y) else kv) (vs.map fun kv => if kv.1 = k then (kv.1, u) else kv) := by
  unfold KV at r ⊢
  induction r with
  | nil => exact .nil
  | @cons p q ps qs h t ih =>
    rw [List.map_cons, List.map_cons]
    refine .cons ?_ ih
    obtain ⟨h1, h2⟩ := h
    by_cases e : p.1 = k
    · rw [if_pos e, if_pos (h1.symm.trans e)]; exact ⟨h1, ry⟩
    · rw [if_neg e, if_neg (fun z => e (h1.trans z))]; exact ⟨h1, h2⟩
theorem KV.put {kvs : List (κ × V)} {vs : List (κ × Value)} (r : KV kvs vs) (k : κ) {y : V} {u : Value} (ry : RelV y u) : KV (putK kvs k y) (stored vs k u) := by
  unfold putK stored
  rw [r.any k]
  by_cases e : (vs.any fun kv => decide (kv.1 = k)) = true
  · rw [if_pos e, if_pos e]; exact r.repl k ry
  · rw [if_neg e, if_neg e]; exact Paired.snoc r ⟨rfl, ry⟩
theorem KV.drop {kvs : List (κ × V)} {vs : List (κ × Value)} (r : KV kvs vs) (k : κ) : KV (dropK kvs k) (without vs k) := by
  unfold KV at r ⊢
  unfold dropK without
  induction r with
  | nil => exact .nil
  | @cons p q ps qs h t ih =>
    obtain ⟨h1, h2⟩ := h
    rw [List.filter_cons, List.filter_cons]
    by_cases e : p.1 = k
    · have a : ¬ decide (p.1 ≠ k) = true := by simp [e]
      have b : ¬ decide (q.1 ≠ k) = true := by simp [h1.symm.trans e]
      rw [if_neg a, if_neg b]; exact ih
    · have e' : ¬ q.1 = k := fun z => e (h1.trans z)
      have a : decide (p.1 ≠ k) = true := by simp [e]
      have b : decide (q.1 ≠ k) = true := by simp [e']
      rw [if_pos a, if_pos b]; exact .cons ⟨h1, h2⟩ ih
theorem KV.keys {kvs : List (κ × V)} {vs : List (κ × Value)} (r : KV kvs vs) : kvs.map (·.1) = vs.map (·.1) := by
  unfold KV at r
  induction r with
  | nil => rfl
  | cons h t ih => rw [List.map_cons, List.map_cons, ih, h.1]
theorem KV.length {kvs : List (κ × V)} {vs : List (κ × Value)} (r : KV kvs vs) : kvs.length = vs.length := Paired.length r
end


noncomputable abbrev KT (H : Hp) : List (List Key × V) → List (List Key × Addr × Value) → Prop := Paired fun p q => p.1 = q.1 ∧ H q.2.1 = some (.tup (p.1.map kV)) ∧ RelV p.2 q.2.2
theorem KT.val {H : Hp} {kvs : List (List Key × V)} {xs : List (List Key × Addr × Value)} (r : KT H kvs xs) (k : List Key) : RelO (valV kvs k) ((atKey xs k).map (·.2)) := by
  induction r with
  | nil => exact True.intro
  | @cons p q ps qs h t ih =>
    obtain ⟨h1, _, h2⟩ := h
    by_cases e : p.1 = k
    · have e' : q.1 = k := h1.symm.trans e
      have b : atKey (q :: qs) k = some q.2 := by simp [atKey, List.find?_cons, e']
      rw [valV_pos e, b]; exact h2
    · have e' : ¬ q.1 = k := fun z => e (h1.trans z)
      have b : atKey (q :: qs) k = atKey qs k := by simp [atKey, List.find?_cons, e']
      rw [valV_neg e, b]; exact ih
theorem KT.repl {H : Hp} {kvs : List (List Key × V)} {xs : List (List Key × Addr × Value)} (r : KT H kvs xs) (k : List Key) {y : V} {u : Value} (ry : RelV y u) :
    KT H (kvs.map fun kv => if kv.1 = k then (kv.1, y) else kv) (xs.map (putAt k u)) := by
  induction r with
  | nil => exact .nil
  | @cons p q ps qs h t ih =>
    rw [List.map_cons, List.map_cons]
    refine .cons ?_ ih
    obtain ⟨h1, h2, h3⟩ := h
    unfold putAt
    by_cases e : p.1 = k
    · rw [if_pos e, if_pos (h1.symm.trans e)]; exact ⟨h1, h2, ry⟩
    · rw [if_neg e, if_neg (fun z => e (h1.trans z))]; exact ⟨h1, h2, h3⟩
theorem KT.put {H : Hp} {kvs : List (List Key × V)} {xs : List (List Key × Addr × Value)} (r : KT H kvs xs) (k : List Key) {b : Addr} {y : V} {u : Value} (hb : H b = some (.tup (k.map kV))) (ry : RelV y u) :
    KT H (putK kvs k y) (storedH xs k b u) := by
  have e : (kvs.any fun kv => decide (kv.1 = k)) = (atKey xs k).isSome := by
    rw [valV_any, (r.val k).isSome_eq, Option.isSome_map]
  unfold putK storedH
  rw [e]
  by_cases q : (atKey xs k).isSome = true
  · rw [if_pos q, if_pos q]; exact r.repl k ry
  · rw [if_neg q, if_neg q]; exact Paired.snoc r ⟨rfl, hb, ry⟩
theorem KT.keeps {H H' : Hp} {kvs : List (List Key × V)} {xs : List (List Key × Addr × Value)} (r : KT H kvs xs) (ht : ∀ b ys, H b = some (.tup ys) → H' b = some (.tup ys)) : KT H' kvs xs :=
  Paired.mapP r fun _ _ z => ⟨z.1, ht _ _ z.2.1, z.2.2⟩

section
variable {P : Program} {w : World} {H : Hp} {h : Heap} {a : Addr}
end

noncomputable def DGet (H : Hp) (a : Addr) (y : V) (r : Option V) : Prop :=
  (∃ kvs k, Rd H a (.dK kvs) ∧ y = kV k ∧ r = valV kvs k) ∨ ∃ kvs k b, Rd H a (.dT kvs) ∧ y = .ref b ∧ H b = some (.tup (k.map kV)) ∧ r = valV kvs k
noncomputable def DPut (H : Hp) (a : Addr) (y v : V) (H' : Hp) : Prop :=
  (∃ kvs k, H a = some (.dK kvs) ∧ y = kV k ∧ kvs.length < sizeLine ∧ H' = upd H a (.dK (putK kvs k v))) ∨
  ∃ kvs k b, H a = some (.dT kvs) ∧ y = .ref b ∧ H b = some (.tup (k.map kV)) ∧ kvs.length < sizeLine ∧ H' = upd H a (.dT (putK kvs k v))
theorem DGet.k {H : Hp} {a : Addr} {kvs : List (Key × V)} {k : Key} (e : H a = some (.dK kvs)) : DGet H a (kV k) (valV kvs k) := .inl ⟨kvs, k, .inl e, rfl, rfl⟩
theorem DGet.t {H : Hp} {a b : Addr} {kvs : List (List Key × V)} {k : List Key} (e : H a = some (.dT kvs)) (eb : H b = some (.tup (k.map kV))) : DGet H a (.ref b) (valV kvs k) := .inr ⟨kvs, k, b, .inl e, rfl, eb, rfl⟩
theorem DPut.k {H : Hp} {a : Addr} {kvs : List (Key × V)} {k : Key} {v : V} (e : H a = some (.dK kvs)) (hl : kvs.length < sizeLine) : DPut H a (kV k) v (upd H a (.dK (putK kvs k v))) := .inl ⟨kvs, k, e, rfl, hl, rfl⟩
theorem DPut.t {H : Hp} {a b : Addr} {kvs : List (List Key × V)} {k : List Key} {v : V} (e : H a = some (.dT kvs)) (eb : H b = some (.tup (k.map kV))) (hl : kvs.length < sizeLine) :
    DPut H a (.ref b) v (upd H a (.dT (putK kvs k v))) := .inr ⟨kvs, k, b, e, rfl, eb, hl, rfl⟩


section
variable {X : Cx} {pins : List (Addr × Obj)} {σ : St} {H : Hp} {s : Shared} {a : Addr} {y v : V} {u r : Value} {o : Option V} {A : Around} {E : Value → Shared → Prop}

end

section
variable {X : Cx} {pins : List (Addr × Obj)} {σ : St} {H : Hp} {s : Shared} {a : Addr} {kvs : List (Key × V)} {k : Key} {u : Value} {A : Around} {E : Value → Shared → Prop}
end


section
variable {X : Cx} {o i e value : Expr} {pos pos' tpos : Pos} {td ty tv : TE}
end


noncomputable def tDNewK : TE := fun _ H Q => ∀ p, H p = none → Q (.ref p) (upd H p (.dK []))
section
variable {X : Cx} {pos : Pos}
end

noncomputable def tPairs : List (TE × TE) → St → Hp → (List (V × V) → Hp → Prop) → Prop
  | [], _, H, Q => Q [] H
  | (tk, tv) :: r, σ, H, Q => tk σ H fun x H1 => tv σ H1 fun y H2 => tPairs r σ H2 fun ps H3 => Q ((x, y) :: ps) H3
noncomputable abbrev VV : List (V × V) → List (Value × Value) → Prop := Paired fun p q => RelV p.1 q.1 ∧ RelV p.2 q.2
noncomputable def PPs (X : Cx) (pos : Pos) (keys : List (Option Expr)) (values : List Expr) (trs : List (TE × TE)) : Prop :=
  ∀ (pins : List (Addr × Obj)) (s : Shared) (σ : St) (H : Hp) (Q : List (V × V) → Hp → Prop), Inv X pins σ H s → tPairs trs σ H Q →
    wpAny (model X.prog X.w) X.A (evalPairs (pairTrees keys values X.env pos)) (fun vs s' => ∃ ps H', Inv X pins σ H' s' ∧ VV ps vs ∧ Q ps H') X.xe s
noncomputable def mergeK (kvs more : List (Key × V)) : List (Key × V) := more.foldl (fun acc kv => putK acc kv.1 kv.2) kvs
noncomputable def tDisp (trs : List (TE × TE)) : TE := fun σ H Q => ∀ p, H p = none → tPairs trs σ (upd H p (.dK [])) fun ps H2 => H2 p = some (.dK []) ∧ ∃ kvs : List (Key × V), ps = kvs.map (fun kv => (kV kv.1, kv.2)) ∧ kvs.length ≤ 15 ∧ Q (.ref p) (upd H2 p (.dK (mergeK [] kvs)))
section
variable {X : Cx} {pins : List (Addr × Obj)} {σ : St} {H : Hp} {s : Shared} {a : Addr} {y d : V} {u r : Value} {o : Option V} {A : Around} {E : Value → Shared → Prop}
end

section
variable {X : Cx} {o e f : Expr} {apos cpos : Pos} {td ty tx : TE}
end

section
variable {X : Cx} {pins : List (Addr × Obj)} {σ : St} {H : Hp} {s : Shared} {a : Addr} {kvs : List (Key × V)} {A : Around} {E : Value → Shared → Prop}
end


section
variable {X : Cx} {pins : List (Addr × Obj)} {σ : St} {H : Hp} {s : Shared} {a : Addr} {y : V} {u : Value} {A : Around} {E : Value → Shared → Prop}
end
end L2

namespace Att
open PySem PySem.W PySem.Calls PyProof.Rows

section
variable {prog : Program} {w : World} {A : Around} {E : Value → Shared → Prop} {s : Shared} {K : Frag}

end
end Att

namespace L2
open PySem PySem.Spec PyProof.Rows

end L2

namespace L2
open PySem PySem.Spec PyProof.Rows

end L2

namespace L2
open PySem PySem.Spec PyProof.Rows

section
variable {P : Program} {w : World} {K : PySem.W.Frag} {mg : Str → Option Value} {base : Heap}
end
section
variable {X : Cx}
end

section
variable {κ : Type} [DecidableEq κ]
end
end L2


namespace L2
open PySem PySem.Spec PyProof.Rows

theorem clo_forIn {env : Env} {f : Str × NameKind → List (Str × Addr) → Sem (ForInStep (List (Str × Addr)))}
    (f1 : ∀ n k cs, k ≠ NameKind.free → f (n, k) cs = pure (.yield cs)) (f2 : ∀ n cs c, env.cells.lookup n = some c → f (n, .free) cs = pure (.yield ((n, c) :: cs))) :
    ∀ (names : List (Str × NameKind)) (acc : List (Str × Addr)), (∀ x ∈ names, x.2 = .free → ∃ c, env.cells.lookup x.1 = some c) → (∀ p ∈ acc, env.cells.lookup p.1 = some p.2) →
      ∃ cl, forIn names acc f = pure cl ∧ (∀ p ∈ cl, env.cells.lookup p.1 = some p.2) ∧ (∀ p ∈ acc, p ∈ cl) ∧ ∀ x ∈ names, x.2 = .free → ∃ c, (x.1, c) ∈ cl
  | [], acc, _, ha => ⟨acc, rfl, ha, fun _ h => h, fun x hx => nomatch hx⟩
  | (n, k) :: r, acc, hn, ha => by
    by_cases hk : k = .free
    · subst hk
      obtain ⟨c, hc⟩ := hn (n, .free) List.mem_cons_self rfl
      obtain ⟨cl, e, h1, h2, h3⟩ := clo_forIn f1 f2 r ((n, c) :: acc) (fun x hx => hn x (List.mem_cons_of_mem _ hx)) (fun p hp => by
        rcases List.mem_cons.mp hp with z | z
        · subst z; exact hc
        · exact ha p z)
      refine ⟨cl, ?_, h1, fun p hp => h2 p (List.mem_cons_of_mem _ hp), fun x hx hf => ?_⟩
      · rw [List.forIn_cons, f2 n acc c hc, pure_bind]
        exact e
      · rcases List.mem_cons.mp hx with z | z
        · subst z; exact ⟨c, h2 _ List.mem_cons_self⟩
        · exact h3 x z hf
    · obtain ⟨cl, e, h1, h2, h3⟩ := clo_forIn f1 f2 r acc (fun x hx => hn x (List.mem_cons_of_mem _ hx)) ha
      refine ⟨cl, ?_, h1, h2, fun x hx hf => ?_⟩
      · rw [List.forIn_cons, f1 n k acc hk, pure_bind]
        exact e
      · rcases List.mem_cons.mp hx with z | z
        · subst z; exact absurd hf hk
        · exact h3 x z hf
theorem closure_ok {scope : Scope} {env : Env} (h : ∀ x ∈ scope.names, x.2 = .free → ∃ c, env.cells.lookup x.1 = some c) :
    ∃ cl, closureFor scope env = pure cl ∧ (∀ p ∈ cl, env.cells.lookup p.1 = some p.2) ∧ ∀ x ∈ scope.names, x.2 = .free → ∃ c, (x.1, c) ∈ cl := by
  obtain ⟨cl, e, h1, _, h3⟩ := clo_forIn (env := env) (f := fun (x : Str × NameKind) (cs : List (Str × Addr)) => if (x.2 == NameKind.free) = true then (do let a ← cellOf env x.1; pure (ForInStep.yield ((x.1, a) :: cs))) else pure (ForInStep.yield cs)) (fun n k cs hk => by
    have hk' : (k == NameKind.free) = false := by simpa using hk
    simp only [hk', Bool.false_eq_true, if_false]) (fun n cs c hc => by
    simp only [beq_self_eq_true, if_true, cellOf, hc, pure_bind]) scope.names [] h (fun p hp => nomatch hp)
  refine ⟨cl, ?_, h1, h3⟩
  rw [← e]
  simp only [closureFor]
  simp
theorem lookup_has {cl : List (Str × Addr)} {n : Str} {c : Addr} (h : (n, c) ∈ cl) : ∃ d, cl.lookup n = some d := by
  induction cl with
  | nil => exact nomatch h
  | cons p r ih =>
    obtain ⟨m, d⟩ := p
    rw [List.lookup_cons]
    cases e : n == m with
    | true => exact ⟨d, rfl⟩
    | false =>
      rcases List.mem_cons.mp h with z | z
      · cases z; simp at e
      · exact ih z

noncomputable def relS (scope sc : Scope) : List (Str × NameKind) := scope.names.map fun (n, k) => if (k == .free && sc.kind == .function && sc.names.lookup n == some .cell) then (n, .cell) else (n, k)
noncomputable def compChk (sc scope : Scope) (NX N' : List Str) (src : List (Option Nat)) : Bool :=
  decide (scope.kind = .function) && scope.names.all (fun y => decide (y.2 ≠ .cell)) && scope.names.all (fun y => decide (y.2 ≠ .local) || decide (scope.names.lookup y.1 = some .local)) &&
  scope.names.all (fun y => decide (y.2 ≠ .free) || decide (sc.names.lookup y.1 = some .cell) || decide (sc.names.lookup y.1 = some .free)) && decide (src.length = N'.length) &&
  (N'.zip src).all (fun p => match p.2 with
    | none => true
    | some j => decide (NX[j]? = some p.1) && (decide (sc.names.lookup p.1 = some .cell) || decide (sc.names.lookup p.1 = some .free)) && (decide ((relS scope sc).lookup p.1 = some .cell) || decide ((relS scope sc).lookup p.1 = some .free)))
structure CompScope (sc scope : Scope) (NX N' : List Str) (src : List (Option Nat)) : Prop where
  kind : scope.kind = .function
  nocell : ∀ y ∈ scope.names, y.2 ≠ .cell
  names : ∀ y ∈ scope.names, y.2 = .local → scope.names.lookup y.1 = some .local
  free : ∀ y ∈ scope.names, y.2 = .free → sc.names.lookup y.1 = some .cell ∨ sc.names.lookup y.1 = some .free
  len : src.length = N'.length
  at_ : ∀ (i j : Nat) (x : Str), src[i]? = some (some j) → N'[i]? = some x → NX[j]? = some x ∧ (sc.names.lookup x = some .cell ∨ sc.names.lookup x = some .free) ∧ ((relS scope sc).lookup x = some .cell ∨ (relS scope sc).lookup x = some .free)
theorem CompScope.of {sc scope : Scope} {NX N' : List Str} {src : List (Option Nat)} (h : compChk sc scope NX N' src = true) : CompScope sc scope NX N' src := by
  unfold compChk at h
  simp only [Bool.and_eq_true, List.all_eq_true, decide_eq_true_eq, Bool.or_eq_true] at h
  obtain ⟨⟨⟨⟨⟨h1, h2⟩, h3⟩, h4⟩, h5⟩, h6⟩ := h
  refine ⟨h1, h2, fun y hy e => ?_, fun y hy e => ?_, h5, fun i j x e1 e2 => ?_⟩
  · rcases h3 y hy with z | z
    · exact absurd e z
    · exact z
  · rcases h4 y hy with (z | z) | z
    · exact absurd e z
    · exact .inl z
    · exact .inr z
  · have hm : (x, some j) ∈ N'.zip src := by
      refine List.mem_of_getElem? (i := i) ?_
      rw [List.getElem?_zip_eq_some]
      exact ⟨e2, e1⟩
    have q := h6 _ hm
    simp only [Bool.and_eq_true, Bool.or_eq_true, decide_eq_true_eq] at q
    exact ⟨q.1.1, q.1.2, q.2⟩

noncomputable def cxComp (X : Cx) (N' : List Str) (scope : Scope) (cl : List (Str × Addr)) (C : Addr) (fp : List Addr) (pn : List (Addr × Obj)) (s₂ : Shared) (H₂ : Hp) : Cx where
  prog := X.prog
  w := X.w
  K := X.K
  mg := X.mg
  base := X.base
  A := X.A
  N := N'
  s₀ := s₂
  H₀ := H₂
  env := compEnvC scope cl C X.env
  outer := X.stack
  stack := X.stack
  ex := fp
  fn := fun _ => false
  calm := X.calm
  pn := pn
  xe := fun _ _ => False
noncomputable def stComp (src : List (Option Nat)) (σ : St) : St := src.map fun o => match o with
  | none => none
  | some j => (σ[j]?).join
theorem stComp_get {src : List (Option Nat)} {σ : St} {i : Nat} {v : V} (h : (stComp src σ)[i]? = some (some v)) : ∃ j, src[i]? = some (some j) ∧ σ[j]? = some (some v) := by
  unfold stComp at h
  rw [List.getElem?_map] at h
  cases e : src[i]? with
  | none => rw [e] at h; cases h
  | some o =>
    rw [e] at h
    cases o with
    | none => cases h
    | some j =>
      refine ⟨j, rfl, ?_⟩
      have h' : (σ[j]?).join = some v := Option.some.inj h
      cases q : σ[j]? with
      | none => rw [q] at h'; cases h'
      | some z => rw [q] at h'; rw [show z = some v from h']

noncomputable def PIf (X : Cx) (ifs : List Expr) (t : TT) : Prop :=
  ∀ (pins : List (Addr × Obj)) (s : Shared) (σ : St) (H : Hp) (Q : Bool → Hp → Prop), Inv X pins σ H s → t σ H Q →
    wpAny (model X.prog X.w) X.A (forIn ifs true fun c r => if r = true then do let ok ← isTrue c X.env (eval c X.env); pure (ForInStep.yield ok) else pure (ForInStep.yield r)) (TP X pins σ Q) X.xe s
noncomputable def tYes : TT := fun _ H Q => Q true H
theorem pif_nil {X : Cx} : PIf X [] tYes := fun pins s σ H Q I h => wpAny_tests_nil ⟨H, I, h⟩
theorem pif_one {X : Cx} {c : Expr} {t : TT} (h : PT X c t) : PIf X [c] t := fun pins s σ H Q I q => wpAny_tests_one (h pins s σ H Q I q)

noncomputable def KeepSt (σ σ' : St) : Prop := σ'.length = σ.length ∧ ∀ (i : Nat) v, σ[i]? = some (some v) → σ'[i]? = some (some v)
theorem KeepSt.set {src : List (Option Nat)} {σ : St} {i : Nat} {x : V} (h : src[i]? = some none) : KeepSt (stComp src σ) ((stComp src σ).set i (some x)) := by
  refine ⟨List.length_set, fun j v e => ?_⟩
  have ne : i ≠ j := by
    rintro rfl
    obtain ⟨k, e1, _⟩ := stComp_get e
    rw [h] at e1; cases e1
  rw [List.getElem?_set_ne ne]
  exact e
noncomputable def tComp (src : List (Option Nat)) (wi : TI) (g : TG) (tc : TT) (te : TE) : TE := fun σ H Q => wi σ H fun J H1 => ∃ W : Nat → Nat → List V → Hp → Prop, (∃ m, W 0 m [] H1) ∧ ∀ i m ys H, W i m ys H →
  (J.stop i H ∧ ∀ l, H l = none → Q (.ref l) (upd H l (.lst ys))) ∨
  (J.go i H ∧ ys.length < sizeLine ∧ ∀ x H', J.yld i H x H' → g x (stComp src σ) H' fun σ2 H2 => KeepSt (stComp src σ) σ2 ∧ tc σ2 H2 fun b H3 => if b = true then te σ2 H3 fun y H4 => ∃ m', m' < m ∧ W (i + 1) m' (ys ++ [y]) H4 else ∃ m', m' < m ∧ W (i + 1) m' ys H3)

section
variable {prog : Program} {w : World} {A : Around} {R : Result → Shared → Prop} {s : Shared}
theorem compLoop_go {elt target iter : Expr} {ifs : List Expr} {scope : Scope} {pos : Pos} {it acc : Value} {env : Env} (I : Nat → Shared → Prop)
    (turn : ∀ n s, I n s → wpAny (model prog w) A (pyNext it) (fun r s₁ => match r with
      | none => R (.ok .next) s₁
      | some v => wpAny (model prog w) A (letOwnedTupleGo target it v) (fun _ s₀ => wpAny (model prog w) A (assign target env v) (fun _ s₂ =>
          wpAny (model prog w) A (forIn ifs true fun c r => if r = true then do let ok ← isTrue c env (eval c env); pure (ForInStep.yield ok) else pure (ForInStep.yield r)) (fun ok s₃ =>
            if ok = true then wpAny (model prog w) A (eval elt env) (fun x s₄ =>
              wpAny (model prog w) A (call (.builtin "list.append") [acc, x]) (fun _ s₅ => ∃ m, m < n ∧ I m s₅) (fun _ _ => False) s₄) (fun _ _ => False) s₃
            else ∃ m, m < n ∧ I m s₃) (fun _ _ => False) s₂) (fun _ _ => False) s₀) (fun _ _ => False) s₁) (fun _ _ => False) s)
    (n : Nat) (h : I n s) : codeAny (model prog w) A (.compLoop (.ListComp elt [⟨target, iter, ifs, 0⟩] scope pos) 0 it acc env) R s := by
  refine codeAny_loop rfl I (fun n s hI => ?_) n h
  show wpAny _ A ((compTurn (.ListComp elt [⟨target, iter, ifs, 0⟩] scope pos) 0 it acc env).onRaise (fun x => do noteFrame x env; theTreesLotGoes x)) _ _ s
  refine wpAny_noted ?_
  rw [compTurn_list]
  refine wpAny_bind (wpAny_standAt (wpAny_bind (wpAny_mono (turn n s hI) (fun r s₁ h₁ => ?_) fun _ _ h' => h'.elim)))
  cases r with
  | none => exact wpAny_pure h₁
  | some v =>
    refine wpAny_bind (wpAny_mono h₁ (fun _ s₀ h₀ => ?_) fun _ _ h' => h'.elim)
    refine wpAny_bind (wpAny_mono h₀ (fun _ s₂ h₂ => wpAny_bind (wpAny_mono h₂ (fun ok s₃ h₃ => ?_) fun _ _ h' => h'.elim)) fun _ _ h' => h'.elim)
    cases ok with
    | false => exact wpAny_pure ⟨rfl, h₃⟩
    | true =>
      exact wpAny_bind (wpAny_bind (wpAny_mono h₃ (fun x s₄ h₄ => wpAny_bind (wpAny_mono h₄ (fun _ s₅ h₅ => wpAny_pure (wpAny_pure ⟨rfl, h₅⟩)) fun _ _ h' => h'.elim)) fun _ _ h' => h'.elim))
end

section
variable {X : Cx}
theorem rel_free {scope : Scope} {env : Env} (hn : ∀ y ∈ scope.names, y.2 ≠ .cell) {x : Str} (h : (relabel scope env).names.lookup x = some .cell ∨ (relabel scope env).names.lookup x = some .free) : (x, NameKind.free) ∈ scope.names := by
  have key : ∀ k, (k = NameKind.cell ∨ k = .free) → (relabel scope env).names.lookup x = some k → (x, NameKind.free) ∈ scope.names := fun k hk e => by
    have hm := mem_of_lookup_some e
    obtain ⟨⟨n, k0⟩, h1, h2⟩ := List.mem_map.mp hm
    dsimp only at h2
    split at h2
    · rename_i hc
      simp only [Bool.and_eq_true, beq_iff_eq] at hc
      cases h2
      rw [hc.1.1] at h1
      exact h1
    · cases h2
      rcases hk with z | z
      · subst z; exact absurd rfl (hn _ h1)
      · subst z; exact h1
  rcases h with h | h
  · exact key _ (.inl rfl) h
  · exact key _ (.inr rfl) h
theorem Inv.compOk {pins : List (Addr × Obj)} {σ : St} {H₂ : Hp} {s₂ : Shared} {scope : Scope} {N' : List Str} {src : List (Option Nat)} {cl : List (Str × Addr)} {C : Addr} {fp : List Addr} (I : Inv X pins σ H₂ s₂) (S : CompScope X.env.scope scope X.N N' src)
    (hcl1 : ∀ p ∈ cl, X.env.cells.lookup p.1 = some p.2) (hcl2 : ∀ x ∈ scope.names, x.2 = .free → ∃ c, (x.1, c) ∈ cl) (hC : s₂.heap.objs.size ≤ C) (f2 : ∀ b ∈ fp, FpOk X pins H₂ b) (fo : ∀ b ∈ fp, ∃ o, s₂.heap.get? b = some o) :
    (cxComp X N' scope cl C fp (X.pn ++ pins) s₂ H₂).Ok := by
  have cells : ∀ x c, cl.lookup x = some c → X.env.cells.lookup x = some c := fun x c e => hcl1 (x, c) (mem_of_lookup_some e)
  refine ⟨I.ok.mod, S.kind, I.ok.glob, I.ok.blt, hC, fun x y c h1 h2 => I.ok.inj x y c (cells x c h1) (cells y c h2), fun x hx => ?_, (fun _ _ h _ => nomatch h), I.ok.hd, I.ok.frames, .inl rfl, fun b hb => ⟨?_, fun x c e => ?_⟩, I.bs, ?_, fun b o e hb => ?_, fun b hb z => ?_, I.stack, I.stkFree⟩
  · obtain ⟨c, hc⟩ := hcl2 _ (rel_free S.nocell hx) rfl
    exact lookup_has hc
  · obtain ⟨o, e⟩ := fo b hb
    exact Nat.ne_of_lt (Nat.lt_of_lt_of_le (Heap.lt_size e) hC)
  · exact (f2 b hb).2.2.2.2.1 x c (cells x c e)
  · exact Nat.le_trans I.ok.bsz I.sz
  · rcases (f2 b hb).2.2.2.1 with z | z
    · exact I.ok.noex b o e z
    · exact absurd (Nat.lt_of_lt_of_le (Heap.lt_size e) (Nat.le_trans I.ok.bsz z)) (Nat.lt_irrefl _)
  · rcases List.mem_cons.mp (I.stkSub b z) with z | z
    · exact (f2 b hb).2.1 z
    · exact (f2 b hb).2.2.1 z

structure TurnC (cal : Cx → Prop) (P : Program) (w : World) (K : PySem.W.Frag) (tg : Expr) (J : It) (fp : List Addr) (it : Addr) (tn : Nat → Heap → Prop) : Prop where
  mem : it ∈ fp
  obj : ∀ i h, tn i h → ∀ b ∈ fp, ∃ o, h.get? b = some o ∧ ∀ v, o.data ≠ .cell v
  keep : ∀ i h h', tn i h → (∀ b ∈ fp, ∀ o, h.get? b = some o → h'.get? b = some o) → tn i h'
  item : ∀ (X : Cx), X.prog = P → X.w = w → X.K = K → cal X → ∀ (i : Nat) (pins : List (Addr × Obj)) (s : Shared) (σ : St) (H : Hp) (E : Value → Shared → Prop), Inv X pins σ H s → (∀ b ∈ fp, FpOk X pins H b) → tn i s.heap → J.go i H →
    wpAny (model P w) X.A (pyNext (.ref it)) (fun r s1 => ∃ u, r = some u ∧
      wpAny (model P w) X.A (letOwnedTupleGo tg (.ref it) u) (fun _ s2 => ∃ x H', Inv X pins σ H' s2 ∧ RelV x u ∧ J.yld i H x H' ∧ tn (i + 1) s2.heap ∧ ∀ b ∈ fp, H' b = none) E s1) E s
  done : ∀ (X : Cx), X.prog = P → X.w = w → X.K = K → cal X → ∀ (i : Nat) (pins : List (Addr × Obj)) (s : Shared) (σ : St) (H : Hp) (E : Value → Shared → Prop), Inv X pins σ H s → (∀ b ∈ fp, FpOk X pins H b) → tn i s.heap → J.stop i H →
    wpAny (model P w) X.A (pyNext (.ref it)) (fun r s1 => r = none ∧ Inv X pins σ H s1) E s
  self : ∀ (A : Around) (i : Nat) (s : Shared) (Q : Value → Shared → Prop) (E : Value → Shared → Prop), tn i s.heap → Q (.ref it) s → wpAny (model P w) A (pyIter (.ref it)) Q E s
theorem Turn.c {P : Program} {w : World} {K : PySem.W.Frag} {tg : Expr} {J : It} {fp : List Addr} {it : Addr} {tn : Nat → Heap → Prop} (T : Turn P w K tg J fp it tn) : TurnC (fun X => X.calm = true) P w K tg J fp it tn := ⟨T.mem, T.obj, T.keep, T.item, T.done, T.self⟩
noncomputable def PIEC (cal : Cx → Prop) (X : Cx) (pins : List (Addr × Obj)) (σ : St) (tg : Expr) (R : It → Hp → Prop) (itv : Value) (s2 : Shared) : Prop :=
  ∃ (it : Addr) (fp : List Addr) (tn : Nat → Heap → Prop) (J : It) (H' : Hp), itv = .ref it ∧ Inv X pins σ H' s2 ∧ TurnC cal X.prog X.w X.K tg J fp it tn ∧ tn 0 s2.heap ∧ (∀ b ∈ fp, FpOk X pins H' b) ∧ R J H'
noncomputable def PIC (cal : Cx → Prop) (X : Cx) (tg iter : Expr) (wi : TI) : Prop :=
  ∀ (pins : List (Addr × Obj)) (s : Shared) (σ : St) (H : Hp) (R : It → Hp → Prop), Inv X pins σ H s → wi σ H R →
    wpAny (model X.prog X.w) X.A (eval iter X.env) (fun v s1 => wpAny (model X.prog X.w) X.A (pyIter v) (PIEC cal X pins σ tg R) X.xe s1) X.xe s
theorem PI.c {X : Cx} {tg iter : Expr} {wi : TI} (h : PI X tg iter wi) : PIC (fun X => X.calm = true) X tg iter wi := fun pins s σ H R I q =>
  thn (h pins s σ H R I q) fun v s1 q1 => thn q1 fun u s2 ⟨it, fp, tn, J, H', e, I', T, t0, f, r⟩ => ⟨it, fp, tn, J, H', e, I', T.c, t0, f, r⟩
theorem lcomp_core {elt tg iter : Expr} {ifs : List Expr} {scope : Scope} {pos : Pos} {wi : TI} {g : TG} {tc : TT} {te : TE} {N' : List Str} {src : List (Option Nat)} {cal : Cx → Prop} (hc : ∀ {pins : List (Addr × Obj)} {σ : St} {H₂ : Hp} {s₂ : Shared} (cl : List (Str × Addr)) (C : Addr) (fp : List Addr) (pn : List (Addr × Obj)), Inv X pins σ H₂ s₂ → cal (cxComp X N' scope cl C fp pn s₂ H₂)) (S : CompScope X.env.scope scope X.N N' src)
    (hi : PIC cal X tg iter wi) (hg : ∀ cl C fp pn s₂ H₂, cal (cxComp X N' scope cl C fp pn s₂ H₂) → PG (cxComp X N' scope cl C fp pn s₂ H₂) tg g) (ht : ∀ cl C fp pn s₂ H₂, cal (cxComp X N' scope cl C fp pn s₂ H₂) → PIf (cxComp X N' scope cl C fp pn s₂ H₂) ifs tc) (he : ∀ cl C fp pn s₂ H₂, cal (cxComp X N' scope cl C fp pn s₂ H₂) → PE (cxComp X N' scope cl C fp pn s₂ H₂) elt te)
    (hs : ∀ x, foldedSetIterable iter X.env x = pure x) {use : Option (Value → Sem Unit)} {Qc : Value → Shared → Prop} {pins : List (Addr × Obj)} {s : Shared} {σ : St} {H : Hp} {Q : VK} {cpos : Pos} (I : Inv X pins σ H s) (hq : tComp src wi g tc te σ H Q)
    (hfin : ∀ (D C : Addr) (oC : Obj) (ys : List V) (H' : Hp) (s4 : Shared), Inv X (pins ++ [(C, oC)]) σ (upd H' D (.lst ys)) s4 → (∃ m, s4.heap.Ns C m) → FpOk X pins (upd H' D (.lst ys)) C → Q (.ref D) (upd H' D (.lst ys)) →
      compPost (model X.prog X.w) X.A X.xe use Qc (.ref D) C (.ok .next) s4) :
    wpAny (model X.prog X.w) X.A (comprehension (.ListComp elt [⟨tg, iter, ifs, 0⟩] scope pos) scope X.env cpos (newList []) false (eval iter X.env) use) Qc X.xe s := by
  obtain ⟨cl, hcl, hcl1, hcl2⟩ := closure_ok (scope := scope) (env := X.env) fun x hx hf => I.ok.has x.1 (S.free x hx hf)
  refine wpAny_comprehension_free (use := use) rfl hs hcl S.kind S.names (thn (hi pins s σ H _ I hq) fun v s1 h1 => thn h1 fun itv s2 h2 => ?_)
  obtain ⟨it, fp, tn, J, H2, e, I2, T, st2, f2, W, ⟨m0, w0⟩, turn⟩ := h2
  subst e
  refine wpAny_newObj_type (wpAny_newFunctionEnv S.nocell (by intro y hy; simp at hy) (fun h₁ hns₁ hsb₁ => ?_) S.kind)
  dsimp only at hns₁ hsb₁ ⊢
  generalize hP : s2.heap.push { cls := .type "list", dict := none, data := .seq ([] : List Value).toArray } = P2 at hns₁ hsb₁ ⊢
  have hC : P2.objs.size = s2.heap.objs.size + 1 := by rw [← hP, Heap.size_push]
  have hCle : s2.heap.objs.size ≤ P2.objs.size := by rw [hC]; exact Nat.le_succ _
  have hDC : s2.heap.objs.size ≠ P2.objs.size := by rw [hC]; exact Nat.ne_of_lt (Nat.lt_succ_self _)
  have old : ∀ b o, s2.heap.get? b = some o → h₁.get? b = some o := fun b o e =>
    hsb₁.extBut b o (Nat.ne_of_lt (Nat.lt_of_lt_of_le (Heap.lt_size e) hCle)) (Heap.get?_push_of_some _ (hP ▸ Heap.get?_push_of_some _ e))
  have oldD : h₁.get? s2.heap.objs.size = some { cls := .type "list", data := .seq ([] : List Value).toArray } := hsb₁.extBut _ _ hDC (Heap.get?_push_of_some _ (hP ▸ Heap.get?_push_size _ rfl))
  have fo : ∀ b ∈ fp, ∃ o, s2.heap.get? b = some o := fun b hb => let ⟨o, e, _⟩ := T.obj _ _ st2 b hb; ⟨o, e⟩
  have fpD : ∀ b ∈ fp, s2.heap.objs.size ≠ b := fun b hb z => by
    obtain ⟨o, e⟩ := fo b hb
    exact absurd (Heap.lt_size e) (by rw [← z]; exact Nat.lt_irrefl _)
  have fpC : ∀ b ∈ fp, b ≠ P2.objs.size := fun b hb => by
    obtain ⟨o, e⟩ := fo b hb
    exact Nat.ne_of_lt (Nat.lt_of_lt_of_le (Heap.lt_size e) hCle)
  have ok' := I2.compOk (C := P2.objs.size) S hcl1 hcl2 hCle f2 fo
  have cells : ∀ x c, cl.lookup x = some c → X.env.cells.lookup x = some c := fun x c e => hcl1 (x, c) (mem_of_lookup_some e)
  have stkne : ∀ p ∈ X.pn ++ pins, p.1 ∉ frs X.stack := fun p hp z => by
    obtain ⟨_, _, n1, n2, _⟩ := I2.pin p hp
    rcases List.mem_cons.mp (I2.stkSub _ z) with z | z
    · exact n1 z
    · exact n2 z
  have stkD : ∀ b, s2.heap.objs.size ≤ b → b ∉ frs X.stack := fun b hb z => by
    rcases List.mem_cons.mp (I2.stkSub _ z) with z | z
    · exact absurd I2.lt (by rw [← z]; exact Nat.not_lt.mpr hb)
    · exact I2.nofs hb z
  -- the state at the block's beginning
  have I4 : Inv (cxComp X N' scope cl P2.objs.size fp (X.pn ++ pins) s2 H2) [(s2.heap.objs.size, { cls := .type "list", data := .seq ([] : List Value).toArray })] (stComp src σ) H2 { s2 with heap := h₁, toks := s2.toks + ([] : List (Str × Value)).length } := by
    refine ⟨ok', rfl, I2.bare, Un.kept old, ⟨_, hns₁, fun i x v e1 e2 e3 => ?_⟩, fun x c e => ?_, I2.hok.fresh hCle, fun x c e => I2.freeC x c (cells x c e), fun p hp => ?_, I2.hok.kept old, ?_⟩
    · obtain ⟨j, q1, q2⟩ := stComp_get e2
      obtain ⟨a1, a2, a3⟩ := S.at_ i j x q1 e1
      obtain ⟨m, hm, hl⟩ := I2.loc
      have vis : Vis X.env.scope x := a2.elim (fun z => .inr (.inl z)) fun z => .inr (.inr z)
      obtain ⟨u, r, l⟩ := hl j x v a1 q2 vis
      refine ⟨u, r, ?_⟩
      rcases l with ⟨k, _⟩ | ⟨_, c, hcx, z⟩
      · have k' : X.env.scope.names.lookup x = some .local := k
        rcases a2 with a2 | a2 <;> (rw [a2] at k'; cases k')
      · have hfree := rel_free (env := X.env) S.nocell a3
        obtain ⟨c', hc'⟩ := hcl2 _ hfree rfl
        obtain ⟨d, hd⟩ := lookup_has hc'
        have ed : d = c := by
          have := cells x d hd
          rw [hcx] at this; exact (Option.some.inj this).symm
        subst ed
        refine .inr ⟨a3, d, hd, ?_⟩
        obtain ⟨o, ho, hod⟩ := z
        exact ⟨o, old _ _ ho, hod⟩
    · obtain ⟨v, o, ho, hod⟩ := I2.cell x c (cells x c e)
      exact ⟨v, o, old _ _ ho, hod⟩
    · rcases List.mem_append.mp hp with hp | hp
      · obtain ⟨a1, a2, a3, a4, a5⟩ := I2.pin p hp
        exact ⟨old _ _ a1, a2, Nat.ne_of_lt (Nat.lt_of_lt_of_le (Heap.lt_size a1) hCle), stkne p hp, a5⟩
      · obtain rfl := List.mem_singleton.mp hp
        exact ⟨oldD, I2.hok.fresh (Nat.le_refl _), hDC, stkD _ (Nat.le_refl _), fun v z => by cases z⟩
    · show (stComp src σ).length = N'.length
      unfold stComp
      rw [List.length_map]; exact S.len
  have pinD : ∀ {o : Obj} {H' : Hp} {σ' : St} {s' : Shared} {pl : List (Addr × Obj)}, Inv (cxComp X N' scope cl P2.objs.size fp (X.pn ++ pins) s2 H2) pl σ' H' s' → (s2.heap.objs.size, o) ∈ pl → s'.heap.get? s2.heap.objs.size = some o ∧ H' s2.heap.objs.size = none :=
    fun {o H' σ' s' pl} J hm => let q := J.pin _ (List.mem_append_right _ hm); ⟨q.1, q.2.1⟩
  have stat : ∀ {H' : Hp} {o : Obj}, (∀ b ∈ fp, H' b = none) → ∀ b ∈ fp, FpOk (cxComp X N' scope cl P2.objs.size fp (X.pn ++ pins) s2 H2) [(s2.heap.objs.size, o)] H' b := fun {H' o} hn b hb => by
    refine ⟨hn b hb, fpC b hb, fun z => ?_, .inl hb, fun x c e => (f2 b hb).2.2.2.2.1 x c (cells x c e), fun p hp => ?_⟩
    · rcases List.mem_cons.mp (I2.stkSub b z) with z | z
      · exact (f2 b hb).2.1 z
      · exact (f2 b hb).2.2.1 z
    · rcases List.mem_append.mp hp with hp | hp
      · exact (f2 b hb).2.2.2.2.2 p hp
      · obtain rfl := List.mem_singleton.mp hp
        exact fpD b hb
  -- the loop
  have loop : ∀ s₃ : Shared, s₃ = { s2 with heap := h₁, toks := s2.toks + ([] : List (Str × Value)).length } →
      codeAny (model X.prog X.w) X.A (.compLoop (.ListComp elt [⟨tg, iter, ifs, 0⟩] scope pos) 0 (.ref it) (.ref s2.heap.objs.size) (compEnvC scope cl P2.objs.size X.env)) (compPost (model X.prog X.w) X.A X.xe use Qc (.ref s2.heap.objs.size) P2.objs.size) s₃ := by
    rintro s₃ rfl
    refine compLoop_go (fun n s' => ∃ i ys H' its k, Inv (cxComp X N' scope cl P2.objs.size fp (X.pn ++ pins) s2 H2) [(s2.heap.objs.size, { cls := .type "list", data := .seq (its : List Value).toArray k })] (stComp src σ) H' s' ∧ tn i s'.heap ∧ (∀ b ∈ fp, H' b = none) ∧ Vals ys its ∧ ys.length ≤ sizeLine ∧ W i n ys H') ?_ m0
      ⟨0, [], H2, [], _, I4, T.keep _ _ _ st2 fun b hb o e => old b o e, fun b hb => (f2 b hb).1, .nil, Nat.zero_le _, w0⟩
    rintro n s3 ⟨i, ys, H3, its, k, I3, st3, fr3, rv, hz, w3⟩
    rcases turn i n ys H3 w3 with ⟨stop, qn⟩ | ⟨go, hlt, step⟩
    · refine thn (T.done (cxComp X N' scope cl P2.objs.size fp (X.pn ++ pins) s2 H2) rfl rfl rfl (hc _ _ _ _ I2) i _ s3 _ H3 _ I3 (stat fr3) st3 stop) fun r s4 ⟨hr, I4'⟩ => ?_
      subst hr
      obtain ⟨gD, nD⟩ := pinD I4' List.mem_cons_self
      obtain ⟨m, hm, _⟩ := id I4'.loc
      obtain ⟨oC, es, ep, hoC, hdC, hrC⟩ := id hm
      have ltC : ∀ b o, s2.heap.get? b = some o → b ≠ P2.objs.size := fun b o e => Nat.ne_of_lt (Nat.lt_of_lt_of_le (Heap.lt_size e) hCle)
      have ltD : ∀ b o, s2.heap.get? b = some o → b ≠ s2.heap.objs.size := fun b o e => Nat.ne_of_lt (Heap.lt_size e)
      have hC' : H3 P2.objs.size = none := I4'.free
      have hC'' : upd H3 s2.heap.objs.size (.lst ys) P2.objs.size = none := by rw [upd_ne (Ne.symm hDC)]; exact hC'
      have J : Inv X pins σ (upd H3 s2.heap.objs.size (.lst ys)) s4 := by
        refine I2.call' (ch := fp) I4'.os ⟨fun b o e n hb hx => I4'.base.keep b o e n hb hx, fun b o e n hb hx => I4'.base.slot b o e n hb hx, fun b o e n hx => ?_, fun b o e hx => I4'.base.there b o e hx, fun b xs e => ?_, fun b o xs e => ?_, fun b ps e => ?_⟩ (fun b u e => ?_) I4'.bare fun b hb => ?_
        · rw [upd_ne (ltD b o e)]
          exact I4'.base.free b o e n hx
        · have q := I4'.base.tups b xs e
          rw [upd_ne (ne_of_none q nD)]; exact q
        · have q := I4'.base.frzs b o xs e
          rw [upd_ne (ne_of_none q nD)]; exact q
        · obtain ⟨more, q⟩ := I4'.base.tbls b ps e
          exact ⟨more, by rw [upd_ne (ne_of_none q nD)]; exact q⟩
        · by_cases hb : b = s2.heap.objs.size
          · subst hb
            rw [upd_same] at e
            cases e
            exact ⟨hz, its, k, rv, gD⟩
          · rw [upd_ne hb] at e
            exact (I4'.hok b u e).stay (fun c v _ q => q) (fun c q => by rw [upd_ne (ne_of_none q nD)]; exact q) fun c xs q => by rw [upd_ne (ne_of_none q nD)]; exact q
        · exact ⟨(f2 b hb).2.2.2.1, (f2 b hb).2.1, (f2 b hb).2.2.2.2.1, (f2 b hb).2.2.2.2.2⟩
      have fC : FpOk X pins (upd H3 s2.heap.objs.size (.lst ys)) P2.objs.size := I2.fpOk hCle hC''
      have J' : Inv X (pins ++ [(P2.objs.size, oC)]) σ (upd H3 s2.heap.objs.size (.lst ys)) s4 := J.pins_of fun p hp => by
        rcases List.mem_append.mp hp with hp | hp
        · exact J.pin p (List.mem_append_right _ hp)
        · obtain rfl := List.mem_singleton.mp hp
          exact ⟨hoC, hC'', fC.2.1, fC.2.2.1, fun v z => by rw [hdC] at z; cases z⟩
      exact hfin _ _ oC ys H3 s4 J' ⟨m, hm⟩ fC (qn _ nD)
    · refine thn (T.item (cxComp X N' scope cl P2.objs.size fp (X.pn ++ pins) s2 H2) rfl rfl rfl (hc _ _ _ _ I2) i _ s3 _ H3 _ I3 (stat fr3) st3 go) fun r s4 ⟨u, hr, h4⟩ => ?_
      subst hr
      refine thn h4 fun _ s5 ⟨x, H5, I5, r5, y5, st5, fr5⟩ => ?_
      have I5' := I5.pinned (stat fr5) (T.obj _ _ st5)
      refine thn (hg cl P2.objs.size fp (X.pn ++ pins) s2 H2 (hc _ _ _ _ I2) _ s5 _ H5 x u _ I5' r5 (step x H5 y5)) fun _ s6 ⟨σ6, H6, I6, ks6, q6⟩ => ?_
      refine thn (ht cl P2.objs.size fp (X.pn ++ pins) s2 H2 (hc _ _ _ _ I2) _ s6 σ6 H6 _ I6 q6) fun okb s7 ⟨H7, I7, q7⟩ => ?_
      have again : ∀ {s8 : Shared} {H8 : Hp}, Inv (cxComp X N' scope cl P2.objs.size fp (X.pn ++ pins) s2 H2) ([(s2.heap.objs.size, ({ cls := .type "list", data := .seq (its : List Value).toArray k } : Obj))] ++ pinsAt fp s5.heap) σ6 H8 s8 → tn (i + 1) s8.heap ∧ (∀ b ∈ fp, H8 b = none) := fun {s8 H8} I8 => by
        refine ⟨T.keep _ _ _ st5 fun b hb o e => (I8.pin (b, o) (List.mem_append_right _ (List.mem_append_right _ (mem_pinsAt hb e)))).1, fun b hb => ?_⟩
        obtain ⟨o, e, d⟩ := T.obj _ _ st5 b hb
        exact (I8.pin (b, o) (List.mem_append_right _ (List.mem_append_right _ (mem_pinsAt hb e)))).2.1
      cases okb with
      | false =>
        simp only [Bool.false_eq_true, if_false] at q7 ⊢
        obtain ⟨m', hm', w7⟩ := q7
        obtain ⟨t7, n7⟩ := again I7
        exact ⟨m', hm', i + 1, ys, H7, its, k, (I7.unpinned).weak ks6.1.symm ks6.2, t7, n7, rv, hz, w7⟩
      | true =>
        simp only [if_true] at q7 ⊢
        refine thn (he cl P2.objs.size fp (X.pn ++ pins) s2 H2 (hc _ _ _ _ I2) _ s7 σ6 H7 _ I7 q7) fun yv s8 ⟨y, H8, I8, r8, m', hm', w8⟩ => ?_
        obtain ⟨t8, n8⟩ := again I8
        obtain ⟨gD, nD⟩ := pinD I8 (List.mem_append_left _ List.mem_cons_self)
        have hsz : its.toArray.size ≤ sizeLine := by
          have := rv.length
          rw [List.size_toArray]
          omega
        refine wpAny_list_append_plain (hsz := hsz) ⟨_, gD⟩ fun h9 hl9 hs9 => ?_
        obtain ⟨k9, g9⟩ := hl9
        have I8n : Inv (cxComp X N' scope cl P2.objs.size fp (X.pn ++ pins) s2 H2) [] σ6 H8 s8 := I8.pins_of fun p hp => nomatch hp
        have fo' : ∀ p ∈ (cxComp X N' scope cl P2.objs.size fp (X.pn ++ pins) s2 H2).pn ++ ([] : List (Addr × Obj)), p.1 ≠ s2.heap.objs.size := fun p hp => by
          rw [List.append_nil] at hp
          exact Nat.ne_of_lt (Heap.lt_size (I2.pin p hp).1)
        have I9 : Inv (cxComp X N' scope cl P2.objs.size fp (X.pn ++ pins) s2 H2) [] σ6 H8 { s8 with heap := h9 } := I8n.turned (t' := s8.toks) (it := s2.heap.objs.size) (fun b o hb e => (hs9.2 b hb).trans e) nD hDC (.inr (Nat.le_refl _))
          (fun x c e z => by
            obtain ⟨v, q⟩ := I2.cell x c (cells x c e)
            exact absurd q.lt (by rw [z]; exact Nat.lt_irrefl _)) fo'
        have I9' : Inv (cxComp X N' scope cl P2.objs.size fp (X.pn ++ pins) s2 H2) [(s2.heap.objs.size, ({ cls := .type "list", data := .seq (its ++ [yv]).toArray k9 } : Obj))] σ6 H8 { s8 with heap := h9 } := I9.pins_of fun p hp => by
          obtain rfl := List.mem_singleton.mp hp
          refine ⟨?_, nD, hDC, stkD _ (Nat.le_refl _), fun v z => by cases z⟩
          show h9.get? s2.heap.objs.size = _
          rw [g9]
          simp
        refine ⟨m', hm', i + 1, ys ++ [y], H8, its ++ [yv], k9, I9'.weak ks6.1.symm ks6.2, T.keep _ _ _ t8 fun b hb o e => (hs9.2 b (Ne.symm (fpD b hb))).trans e, n8, rv.append (.cons r8 .nil), ?_, w8⟩
        rw [List.length_append, List.length_singleton]
        exact hlt
  have st1 : tn 0 h₁ := T.keep _ _ _ st2 fun b hb o e => old b o e
  exact codeAny_compStart_list (loop _ rfl) (T.self X.A 0 _ _ _ st1 (loop _ rfl))

theorem pe_lcomp {elt tg iter : Expr} {ifs : List Expr} {scope : Scope} {pos : Pos} {wi : TI} {g : TG} {tc : TT} {te : TE} {N' : List Str} {src : List (Option Nat)} (hc : X.calm = true) (S : CompScope X.env.scope scope X.N N' src)
    (hi : PI X tg iter wi) (hg : ∀ cl C fp pn s₂ H₂, PG (cxComp X N' scope cl C fp pn s₂ H₂) tg g) (ht : ∀ cl C fp pn s₂ H₂, PIf (cxComp X N' scope cl C fp pn s₂ H₂) ifs tc) (he : ∀ cl C fp pn s₂ H₂, PE (cxComp X N' scope cl C fp pn s₂ H₂) elt te)
    (hs : ∀ x, foldedSetIterable iter X.env x = pure x := by intro _; rfl) : PE X (.ListComp elt [⟨tg, iter, ifs, 0⟩] scope pos) (tComp src wi g tc te) := by
  intro pins s σ H Q I hq
  rw [eval_ListComp]
  refine lcomp_core (use := none) (cal := fun Y => Y.calm = true) (fun _ _ _ _ _ => hc) S hi.c (fun cl C fp pn s₂ H₂ _ => hg cl C fp pn s₂ H₂) (fun cl C fp pn s₂ H₂ _ => ht cl C fp pn s₂ H₂) (fun cl C fp pn s₂ H₂ _ => he cl C fp pn s₂ H₂) hs I hq fun D C oC ys H' s4 J hm fC q => ?_
  obtain ⟨m, hm⟩ := hm
  refine ⟨m, hm, fun h' hs' => ⟨.ref D, _, (J.unpinned).turned (t' := s4.toks) (it := C) (fun b o hb e => (hs'.2 b hb).trans e) fC.1 fC.2.1 fC.2.2.2.1 fC.2.2.2.2.1 fC.2.2.2.2.2, rfl, q⟩⟩
noncomputable def tAsgC (i : Nat) (t : TE) : TS := fun D σ H => t σ H fun v H1 => D.nx (σ.set i (some v)) H1
theorem ps_set_lcomp {i : Nat} {y : Str} {py spos : Pos} {elt tg iter : Expr} {ifs : List Expr} {scope : Scope} {pos : Pos} {wi : TI} {g : TG} {tc : TT} {te : TE} {N' : List Str} {src : List (Option Nat)} (hN : X.N.Nodup) (hy : X.N[i]? = some y) (hl : X.env.scope.names.lookup y = some .local)
    (hc : X.calm = true) (S : CompScope X.env.scope scope X.N N' src)
    (hi : PI X tg iter wi) (hg : ∀ cl C fp pn s₂ H₂, PG (cxComp X N' scope cl C fp pn s₂ H₂) tg g) (ht : ∀ cl C fp pn s₂ H₂, PIf (cxComp X N' scope cl C fp pn s₂ H₂) ifs tc) (he : ∀ cl C fp pn s₂ H₂, PE (cxComp X N' scope cl C fp pn s₂ H₂) elt te)
    (hsw : swapsWith (.ListComp elt [⟨tg, iter, ifs, 0⟩] scope pos) (some (.Name y py)) spos.line X.env = pure true := by rfl)
    (hs : ∀ x, foldedSetIterable iter X.env x = pure x := by intro _; rfl) : PS X (.Assign [.Name y py] (.ListComp elt [⟨tg, iter, ifs, 0⟩] scope pos) spos) (tAsgC i (tComp src wi g tc te)) := by
  intro pins s σ H D I hq
  rw [exec_Assign_Name_used _ _ _ _ hsw]
  refine wpAny_bind (wpAny_standAt (wpAny_bind ?_))
  show wpAny _ X.A (do let _ ← comprehension (.ListComp elt [⟨tg, iter, ifs, 0⟩] scope pos) scope X.env _ (newList []) false (eval iter X.env) (some (assign (.Name y py) X.env))) _ _ s
  refine wpAny_bind (wpAny_mono (lcomp_core (use := some (assign (.Name y py) X.env)) (Qc := fun _ s' => SP X pins D .next s') (cal := fun Y => Y.calm = true) (fun _ _ _ _ _ => hc) S hi.c (fun cl C fp pn s₂ H₂ _ => hg cl C fp pn s₂ H₂) (fun cl C fp pn s₂ H₂ _ => ht cl C fp pn s₂ H₂) (fun cl C fp pn s₂ H₂ _ => he cl C fp pn s₂ H₂) hs I hq fun Dl C oC ys H' s4 J hm fC q => ?_) (fun _ s' hq => wpAny_pure (wpAny_pure hq)) fun _ _ e => e)
  obtain ⟨m, hm⟩ := hm
  show wpAny _ X.A (assign (.Name y py) X.env (.ref Dl)) _ _ s4
  refine thn ((pg_name (i := i) (pos := py) hN hy (.inl hl) (.inr hl)) _ s4 σ _ (.ref Dl) (.ref Dl) (fun σ' H' => D.nx σ' H' ∧ H' C = none) J rfl ⟨q, fC.1⟩) fun _ s5 ⟨σ5, H5, J5, q5, n5⟩ => ?_
  obtain ⟨p1, _⟩ := J5.pin (C, oC) (List.mem_append_right _ (List.mem_append_right _ List.mem_cons_self))
  obtain ⟨p2, _⟩ := J.pin (C, oC) (List.mem_append_right _ (List.mem_append_right _ List.mem_cons_self))
  obtain ⟨o, es, ep, ho, r⟩ := hm
  have eo : o = oC := by
    have z : s4.heap.get? C = some oC := p2
    rw [ho] at z; exact Option.some.inj z
  subst eo
  refine ⟨m, ⟨o, es, ep, p1, r⟩, fun h' hs' => ⟨σ5, H5, (J5.unpinned).turned (t' := s5.toks) (it := C) (fun b o hb e => (hs'.2 b hb).trans e) n5 fC.2.1 fC.2.2.2.1 fC.2.2.2.2.1 fC.2.2.2.2.2, q5⟩⟩
end

noncomputable def Wk (J : It) (xs : List V) (Pv : Hp → Prop) : Prop := ∀ i H, Pv H → (i < xs.length → J.go i H) ∧ (xs.length ≤ i → J.stop i H) ∧ (i < xs.length → ∀ x H', J.yld i H x H' → H' = H ∧ xs[i]? = some x)
theorem wk_list {K : PySem.W.Frag} {a : Addr} {xs : List V} {Pv : Hp → Prop} (hl : ∀ H, Pv H → SqL K H a xs) : Wk (Itl K a) xs Pv := fun i H p =>
  ⟨fun h => ⟨xs, xs[i], hl H p, by simp [h]⟩, fun h => ⟨xs, hl H p, h⟩, fun _ _ _ y => ⟨y.1, y.2 xs (hl H p)⟩⟩
noncomputable def rngV (lo : Int) (n : Nat) : List V := (List.range n).map fun i : Nat => V.int (lo + (i : Int))
theorem rngV_length (lo : Int) (n : Nat) : (rngV lo n).length = n := by simp [rngV]
theorem rngV_get {lo : Int} {n i : Nat} (h : i < n) : (rngV lo n)[i]? = some (V.int (lo + (i : Int))) := by simp [rngV, h]
theorem wk_range {lo : Int} {n : Nat} {Pv : Hp → Prop} : Wk (Itr lo n) (rngV lo n) Pv := fun i H p =>
  ⟨fun h => by rw [rngV_length] at h; exact h, fun h => by rw [rngV_length] at h; exact h, fun h x H' y => ⟨y.1, by rw [rngV_length] at h; rw [rngV_get h, y.2]⟩⟩
theorem comp_walk {J : It} {xs : List V} {src : List (Option Nat)} {tc : TT} {te : TE} {σ : St} {H : Hp} {Q : VK} {k : Nat} (F : V → List V) (Pv : Hp → Prop) (hsrc : src[k]? = some none) (h0 : Pv H) (hw : Wk J xs Pv) (hz : xs.length ≤ sizeLine)
    (hs : ∀ (i : Nat) (x : V) (H' : Hp) (Cy : VK) (Cn : Hp → Prop), xs[i]? = some x → Pv H' → (∀ y H4, F x = [y] → Pv H4 → Cy y H4) → (∀ H3, F x = [] → Pv H3 → Cn H3) →
      tc ((stComp src σ).set k (some x)) H' fun b H3 => if b = true then te ((stComp src σ).set k (some x)) H3 Cy else Cn H3)
    (hd : ∀ H' l, Pv H' → H' l = none → Q (.ref l) (upd H' l (.lst (xs.flatMap F)))) :
    ∃ W : Nat → Nat → List V → Hp → Prop, (∃ m, W 0 m [] H) ∧ ∀ i m ys H, W i m ys H →
      (J.stop i H ∧ ∀ l, H l = none → Q (.ref l) (upd H l (.lst ys))) ∨
      (J.go i H ∧ ys.length < sizeLine ∧ ∀ x H', J.yld i H x H' → gName k x (stComp src σ) H' fun σ2 H2 => KeepSt (stComp src σ) σ2 ∧ tc σ2 H2 fun b H3 => if b = true then te σ2 H3 fun y H4 => ∃ m', m' < m ∧ W (i + 1) m' (ys ++ [y]) H4 else ∃ m', m' < m ∧ W (i + 1) m' ys H3) := by
  have flen : ∀ (l : List V) (i : Nat), (∀ j x, l[j]? = some x → j < i → (F x).length ≤ 1) → ((l.take i).flatMap F).length ≤ min i l.length := by
    intro l
    induction l with
    | nil => intro i _; simp
    | cons y r ih =>
      intro i hF
      cases i with
      | zero => simp
      | succ i =>
        have a1 := hF 0 y rfl (Nat.succ_pos _)
        have a2 := ih i fun j x e hj => hF (j + 1) x (by simpa using e) (by omega)
        simp only [List.take_succ_cons, List.flatMap_cons, List.length_append, List.length_cons]
        omega
  refine ⟨fun i m ys H => m = xs.length - i ∧ i ≤ xs.length ∧ ys = (xs.take i).flatMap F ∧ (∀ j x, xs[j]? = some x → j < i → (F x).length ≤ 1) ∧ Pv H, ⟨xs.length, rfl, Nat.zero_le _, by simp, fun j x _ h => absurd h (Nat.not_lt_zero _), h0⟩, ?_⟩
  rintro i m ys H1 ⟨rfl, hi, rfl, hF, p⟩
  obtain ⟨g1, g2, g3⟩ := hw i H1 p
  by_cases hlt : i < xs.length
  · have hL := flen xs i hF
    refine .inr ⟨g1 hlt, by omega, fun x H' y => ?_⟩
    obtain ⟨e, hx⟩ := g3 hlt x H' y
    subst e
    have tk : ∀ z, F x = z → z.length ≤ 1 → (xs.take i).flatMap F ++ z = (xs.take (i + 1)).flatMap F ∧ ∀ j x', xs[j]? = some x' → j < i + 1 → (F x').length ≤ 1 := fun z ez hz => by
      constructor
      · rw [List.take_add_one, hx, List.flatMap_append]
        simp [ez]
      · intro j x' e hj
        by_cases hji : j = i
        · subst hji
          rw [hx] at e; cases e
          rw [ez]; exact hz
        · exact hF j x' e (by omega)
    refine ⟨KeepSt.set hsrc, hs i x H' _ _ hx p (fun y' H4 h4 p4 => ?_) (fun H3 h3 p3 => ?_)⟩
    · obtain ⟨t1, t2⟩ := tk [y'] h4 (Nat.le_refl _)
      exact ⟨xs.length - (i + 1), by omega, rfl, hlt, t1, t2, p4⟩
    · obtain ⟨t1, t2⟩ := tk [] h3 (Nat.zero_le _)
      exact ⟨xs.length - (i + 1), by omega, rfl, hlt, by rw [← t1, List.append_nil], t2, p3⟩
  · have e : i = xs.length := by omega
    subst e
    refine .inl ⟨g2 (Nat.le_refl _), fun l hn => ?_⟩
    have := hd H1 l p hn
    rw [List.take_length]
    exact this
end L2

namespace L2
open PySem PySem.Spec PyProof.Rows

noncomputable abbrev sg (x : Str) : List Nat := x.cps.toList
noncomputable def mkS (l : List Nat) : Str := ⟨l.toArray⟩
theorem sg_mk (l : List Nat) : sg (mkS l) = l := by simp [mkS]
theorem mk_sg (x : Str) : mkS (sg x) = x := by
  cases x
  simp [mkS]
theorem sg_len (x : Str) : (sg x).length = x.length := by simp [Str.length]
theorem mk_len (l : List Nat) : (mkS l).length = l.length := by simp [mkS, Str.length]
theorem sg_inj {x y : Str} (h : sg x = sg y) : x = y := by rw [← mk_sg x, ← mk_sg y, h]
theorem sg_app (x y : Str) : sg (x ++ y) = sg x ++ sg y := PySem.W.KT.app_list x y
theorem mk_app (a b : List Nat) : mkS a ++ mkS b = mkS (a ++ b) := sg_inj (by rw [sg_app, sg_mk, sg_mk, sg_mk])
theorem mk_one (c : Nat) : (⟨#[c]⟩ : Str) = mkS [c] := rfl
theorem mk_inj {a b : List Nat} (h : mkS a = mkS b) : a = b := by rw [← sg_mk a, ← sg_mk b, h]
noncomputable def cutL {α : Type} (xs : List α) (lo hi : Option Int) : List α := (xs.drop (HT.sIx xs.length 0 lo)).take (HT.sIx xs.length xs.length hi - HT.sIx xs.length 0 lo)
theorem pickN (l : List Nat) (a : Nat) : ∀ k : Nat, ((List.range k).map (a + ·)).filterMap (l.toArray[·]?) = (l.drop a).take k
  | 0 => by simp
  | k + 1 => by
    rw [List.range_succ, List.map_append, List.filterMap_append, pickN l a k, List.take_add_one, List.getElem?_drop]
    cases h : l[a + k]? with
    | none => simp [h]
    | some v => simp [h]
theorem slice_idx (lo hi : Option Int) (n : Nat) : Builtin.Str.strSliceIndices lo hi 1 n = (List.range (HT.sIx n n hi - HT.sIx n 0 lo)).map (HT.sIx n 0 lo + ·) := by
  obtain ⟨h1, h2, h3⟩ := slice_bounds lo hi n
  have e : Builtin.Str.strSliceIndices lo hi 1 n = sliceRange (sliceBounds lo hi none n).1 (sliceBounds lo hi none n).2.1 1 := by
    cases lo <;> cases hi <;> rfl
  rw [e, h1, h2, sliceRange_one]
theorem slice_cut (x : Str) (lo hi : Option Int) : Txt.slice x lo hi = mkS (cutL (sg x) lo hi) := by
  have hl := sg_len x
  unfold Txt.slice
  rw [slice_idx]
  split
  · rename_i hc
    simp only [beq_self_eq_true, Bool.true_and, List.length_map, List.length_range, beq_iff_eq] at hc
    have b1 := HT.sIx_le x.length 0 (Nat.zero_le _) lo
    have b2 := HT.sIx_le x.length x.length (Nat.le_refl _) hi
    have a0 : HT.sIx x.length 0 lo = 0 := by omega
    have a1 : HT.sIx x.length x.length hi = x.length := by omega
    unfold cutL
    rw [hl, a0, a1, List.drop_zero, Nat.sub_zero, List.take_of_length_le (by rw [hl]; exact Nat.le_refl _), mk_sg]
  · unfold cutL mkS
    rw [hl]
    have := pickN (sg x) (HT.sIx x.length 0 lo) (HT.sIx x.length x.length hi - HT.sIx x.length 0 lo)
    rw [← this]
section
variable {X : Cx}
noncomputable def rSlS : V → Option Int → Option Int → Hp → VK → Prop := fun x lo hi H Q => ∃ z, x = .str z ∧ z.length ≤ sizeLine ∧ Q (.str (mkS (cutL (sg z) lo hi))) H
theorem sl_str : SlR X rSlS := by
  intro pins s σ H x v vl vu lo hi sl Q I rx hs pl pu h
  obtain ⟨z, rfl, hz, q⟩ := h
  obtain ⟨t, rfl⟩ := rx
  refine ⟨"str", _, F.slot_str_getitem.lookup, typeIs_str _ _ _, ?_⟩
  have fin : ∀ (lo hi : Option Int), Q (.str (mkS (cutL (sg z) lo hi))) H → (Txt.slice z lo hi).length ≤ sizeLine ∧ ∀ t' k, EP X pins σ Q (.str (Txt.slice z lo hi) t') { s with toks := k } := fun lo hi q =>
    ⟨Nat.le_trans (Txt.slice_le z _ _) hz, fun t' k => ⟨.str (Txt.slice z lo hi), H, I.tok k, ⟨t', rfl⟩, by rw [slice_cut]; exact q⟩⟩
  cases pl with
  | none =>
    cases pu with
    | none => exact wpAny_getItem_str_slice (l := none) (u := none) (st := none) hs rfl (post_val_or_str (fin none none q))
    | int j uj => exact wpAny_getItem_str_slice (l := none) (u := some (j, uj)) (st := none) hs rfl (post_val_or_str (fin none (some j) q))
  | int i ui =>
    cases pu with
    | none => exact wpAny_getItem_str_slice (l := some (i, ui)) (u := none) (st := none) hs rfl (post_val_or_str (fin (some i) none q))
    | int j uj => exact wpAny_getItem_str_slice (l := some (i, ui)) (u := some (j, uj)) (st := none) hs rfl (post_val_or_str (fin (some i) (some j) q))

theorem strsAre_of {ns : List Str} : ∀ {us : List Value}, Vals (ns.map V.str) us → StrsAre us ns := by
  induction ns with
  | nil => intro us r; rw [List.map_nil] at r; cases r; exact .nil
  | cons n ns ih =>
    intro us r
    rw [List.map_cons] at r
    cases r with
    | cons r1 r2 =>
      obtain ⟨t, e⟩ := r1
      subst e
      exact .cons n t (ih r2)
theorem op_mul_str : OpR X (binaryOp .Mult) (fun x y H Q => ∃ a n, x = .str a ∧ y = .int n ∧ MulOk a n ∧ Q (.str (Txt.mul a n)) H) := by
  intro pins s σ H x y v u Q I rx ry h
  obtain ⟨a, n, rfl, rfl, hm, q⟩ := h
  obtain ⟨t, rfl⟩ := rx
  obtain ⟨t', rfl⟩ := ry
  exact SB.mul hm fun t'' k => ⟨.str (Txt.mul a n), H, I.tok k, ⟨t'', rfl⟩, q⟩

noncomputable def hasS (fig : List Nat) (c : Nat) : Bool := decide (c ∈ fig)
theorem op_in_one : OpR X (compareOp .In) (fun x y H Q => ∃ c l, x = .str (mkS [c]) ∧ y = .str (mkS l) ∧ Q (.bl (hasS l c)) H) := by
  intro pins s σ H x y v u Q I rx ry h
  obtain ⟨c, l, rfl, rfl, q⟩ := h
  refine op_in_str pins s σ H _ _ v u Q I rx ry ⟨_, _, rfl, rfl, ?_⟩
  have e := StrLaws.found_one (mkS l) c
  rw [show (mkS l).cps.toList = l from sg_mk l] at e
  show Q (V.bl (!(Builtin.Str.occurrences (mkS l) (mkS [c]) 0 (mkS l).length 1).isEmpty)) H
  rw [show mkS [c] = (⟨#[c]⟩ : Str) from rfl, e]
  exact q
theorem for_walk {J : It} {xs : List V} {g : TG} {tb : TS} {D : Ends} {σ : St} {H : Hp} (Pv : Nat → St → Hp → Prop) (h0 : Pv 0 σ H) (hw : Wk J xs fun H => ∃ i σ, Pv i σ H)
    (hs : ∀ i x σ H, xs[i]? = some x → Pv i σ H → g x σ H fun σ2 H2 => tb { D with nx := Pv (i + 1), ct := Pv (i + 1), bk := D.nx } σ2 H2) (hd : ∀ σ H, Pv xs.length σ H → D.nx σ H) :
    ∃ W : Nat → Nat → St → Hp → Prop, (∃ m, W 0 m σ H) ∧ ∀ i m σ H, W i m σ H →
      (J.stop i H ∧ D.nx σ H) ∨ (J.go i H ∧ ∃ N : St → Hp → Prop, (∀ σ' H', N σ' H' → ∃ m', m' < m ∧ W (i + 1) m' σ' H') ∧ ∀ x H', J.yld i H x H' → g x σ H' fun σ2 H2 => tb { D with nx := N, ct := N, bk := D.nx } σ2 H2) := by
  refine ⟨fun i m σ H => m = xs.length - i ∧ i ≤ xs.length ∧ Pv i σ H, ⟨xs.length, rfl, Nat.zero_le _, h0⟩, ?_⟩
  rintro i m σ H ⟨rfl, hi, p⟩
  obtain ⟨g1, g2, g3⟩ := hw i H ⟨i, σ, p⟩
  by_cases hlt : i < xs.length
  · refine .inr ⟨g1 hlt, Pv (i + 1), fun σ' H' p' => ⟨xs.length - (i + 1), by omega, rfl, hlt, p'⟩, fun x H' y => ?_⟩
    obtain ⟨e, hx⟩ := g3 hlt x H' y
    subst e
    exact hs i x σ _ hx p
  · have e : i = xs.length := by omega
    subst e
    exact .inl ⟨g2 (Nat.le_refl _), hd σ H p⟩

noncomputable def kitB (T T' : String) : Option Bool := if (Value.type T == Value.type T') = true then some true else if PySem.W.kitMeta T' = true then (fastBuiltinMro T).map (·.contains (Value.type T')) else none
theorem kitOne_b (K : PySem.W.Frag) (T T' : String) : PySem.W.kitOne K (.type T) (.type T') = kitB T T' := rfl
theorem call_isiB : CallR X (.builtin "isinstance") (fun xs H Q => ∃ x T T' b, xs = [x, .ty T'] ∧ TyOf X.K H x (.type T) ∧ kitB T T' = some b ∧ Q (.bl b) H) := by
  intro pins s σ H xs us Q I r h
  obtain ⟨x, T, T', b, rfl, ty, e, q⟩ := h
  obtain ⟨u1, u2, rfl, r1, r2⟩ := vals2 r
  cases r2
  exact isinst_ok I r1 ty (by rw [kitOne_b]; exact e) fun tk => ⟨.bl b, H, I.tok tk, rfl, q⟩

noncomputable def eqL : List V → List V → Bool
  | [], [] => true
  | x :: xs, y :: ys => eqV x y && eqL xs ys
  | _, _ => false
theorem eqL_len : ∀ {xs ys : List V}, xs.length ≠ ys.length → eqL xs ys = false
  | [], [], h => absurd rfl h
  | [], _ :: _, _ => rfl
  | _ :: _, [], _ => rfl
  | x :: xs, y :: ys, h => by
    unfold eqL
    rw [eqL_len (by simpa using h), Bool.and_false]
theorem eqL_range : ∀ {xs ys : List V}, xs.length = ys.length → eqL xs ys = (List.range xs.length).all fun j => eqV (xs.getD j .non) (ys.getD j .non)
  | [], [], _ => rfl
  | [], _ :: _, h => by cases h
  | _ :: _, [], h => by cases h
  | x :: xs, y :: ys, h => by
    unfold eqL
    rw [eqL_range (by simpa using h), List.length_cons, List.range_succ_eq_map, List.all_cons, List.all_map]
    rfl
theorem eqV_self : ∀ x : V, flatV x = true → eqV x x = true := fun x h => by
  cases x <;> simp [eqV, flatV] at h ⊢
theorem eqL_self : ∀ xs : List V, xs.all flatV = true → eqL xs xs = true
  | [], _ => rfl
  | x :: xs, h => by
    rw [List.all_cons, Bool.and_eq_true] at h
    unfold eqL
    rw [eqV_self x h.1, eqL_self xs h.2]
    rfl
theorem eqs_of {A : Around} {s : Shared} {xs ys : List V} {us ws : List Value} (r1 : Vals xs us) (r2 : Vals ys ws) (f1 : xs.all flatV = true) (f2 : ys.all flatV = true) (j : Nat) (h1 : j < us.toArray.size) (h2 : j < ws.toArray.size) :
    SeqAt.EqAt A s us.toArray[j] ws.toArray[j] (eqV (xs.getD j .non) (ys.getD j .non)) := by
  have l1 := r1.length
  have l2 := r2.length
  rw [List.size_toArray] at h1 h2
  have g1 : xs[j]? = some xs[j] := by simp [l1, h1]
  have g2 : ys[j]? = some ys[j] := by simp [l2, h2]
  obtain ⟨u, e1, q1⟩ := r1.get g1
  obtain ⟨w, e2, q2⟩ := r2.get g2
  have e1' : us.toArray[j] = u := by
    have := List.getElem?_eq_some_iff.mp e1
    obtain ⟨_, z⟩ := this
    simpa using z
  have e2' : ws.toArray[j] = w := by
    have := List.getElem?_eq_some_iff.mp e2
    obtain ⟨_, z⟩ := this
    simpa using z
  rw [e1', e2', show xs.getD j .non = xs[j] by simp [List.getD, g1], show ys.getD j .non = ys[j] by simp [List.getD, g2]]
  exact eqAt_V q1 q2 (List.all_eq_true.mp f1 _ (List.getElem_mem _)) (List.all_eq_true.mp f2 _ (List.getElem_mem _))
noncomputable def rEqL (K : PySem.W.Frag) (neg : Bool) : R2 := fun x y H Q => ∃ a b xs ys, x = .ref a ∧ y = .ref b ∧ SqL K H a xs ∧ SqL K H b ys ∧ xs.all flatV = true ∧ ys.all flatV = true ∧ Q (.bl (if neg then !eqL xs ys else eqL xs ys)) H
theorem op_eqL (hu : X.A.units < cLine) : OpR X (compareOp .Eq) (rEqL X.K false) := by
  intro pins s σ H x y v u Q I rx ry h
  obtain ⟨a, b, xs, ys, rfl, rfl, ha, hb, f1, f2, q⟩ := h
  cases rx
  cases ry
  obtain ⟨us, r1, p1, _⟩ := I.list ha
  obtain ⟨ws, r2, p2, _⟩ := I.list hb
  have l1 := r1.length
  have l2 := r2.length
  by_cases hl : xs.length = ys.length
  · have hsz : us.toArray.size = ws.toArray.size := by simp only [List.size_toArray]; omega
    refine SeqAt.eq_listAt p1.isList p2.isList hsz hu (fun j h1 h2 => eqs_of r1 r2 f1 f2 j h1 h2) ⟨.bl _, H, I, rfl, ?_⟩
    rw [List.size_toArray, ← l1, ← eqL_range hl]
    exact q
  · have hsz : (us.toArray.size != ws.toArray.size) = true := by simp only [List.size_toArray, bne_iff_ne]; omega
    refine SeqAt.eq_list_lengthsAt p1.isList p2.isList hsz hu ⟨.bl _, H, I, rfl, ?_⟩
    have e := eqL_len hl
    simp only [Bool.false_eq_true, if_false, e] at q
    exact q
theorem op_neL (hu : X.A.units < cLine) : OpR X (compareOp .NotEq) (rEqL X.K true) := by
  intro pins s σ H x y v u Q I rx ry h
  obtain ⟨a, b, xs, ys, rfl, rfl, ha, hb, f1, f2, q⟩ := h
  cases rx
  cases ry
  obtain ⟨us, r1, p1, _⟩ := I.list ha
  obtain ⟨ws, r2, p2, _⟩ := I.list hb
  have l1 := r1.length
  have l2 := r2.length
  by_cases hl : xs.length = ys.length
  · have hsz : us.toArray.size = ws.toArray.size := by simp only [List.size_toArray]; omega
    refine SeqAt.RcNeAt.lists p1.isList p2.isList hsz hu (fun j h1 h2 => eqs_of r1 r2 f1 f2 j h1 h2) _ _ _ _ ⟨.bl _, H, I, rfl, ?_⟩
    rw [List.size_toArray, ← l1, ← eqL_range hl]
    exact q
  · have hsz : (us.toArray.size != ws.toArray.size) = true := by simp only [List.size_toArray, bne_iff_ne]; omega
    refine SeqAt.RcNeAt.lists_lengths p1.isList p2.isList hsz hu _ _ _ _ ⟨.bl _, H, I, rfl, ?_⟩
    have e := eqL_len hl
    simp only [if_true, e] at q
    exact q

theorem call_all (hh : X.calm = true) : CallR X (.builtin "all") (fun xs H Q => ∃ (p : Addr) (bs : List Bool), xs = [.ref p] ∧ SqL X.K H p (bs.map V.bl) ∧ Q (.bl (bs.all id)) H) := by
  intro pins s σ H xs us Q I r h
  obtain ⟨p, bs, rfl, hq, q⟩ := h
  obtain ⟨u, rfl, rp⟩ := vals1 r
  cases rp
  obtain ⟨its, rv, pl, hz⟩ := I.list hq
  have hlen := rv.length
  rw [List.length_map] at hlen
  have hA : X.A.in1.handled = none := I.ok.hd hh
  obtain ⟨ob, ho, hoc, hn⟩ := id pl.isList
  have hne : p ≠ s.heap.objs.size := Nat.ne_of_lt (Heap.lt_size ho)
  refine call_all_walk (wpAny_pyIter_list pl.isList ?_)
  refine ⟨s.heap.objs.size, _, _, _, _, _, fun i => bs.getD i true, rfl, Walks.list hA s.heap.objs.size p hne its.toArray, ⟨⟨_, Heap.get?_push_size _ rfl, rfl, rfl⟩, ⟨ob, Heap.get?_push_of_some _ ho, hoc, hn⟩⟩, fun i v s' Q' E' hP hQ => ?_, fun h' tk kk => ?_⟩
  · have hP' : its[i]? = some v := by simpa using hP
    have hi : i < bs.length := by
      have := (List.getElem?_eq_some_iff.mp hP').1
      omega
    have g : (bs.map V.bl)[i]? = some (V.bl bs[i]) := by simp [hi]
    obtain ⟨u, e1, q1⟩ := rv.get g
    rw [hP'] at e1
    cases e1
    cases q1
    have e : bs.getD i true = bs[i] := by simp [List.getD, hi]
    dsimp only at hQ
    rw [e] at hQ
    exact wpAny_truthy_bool hQ
  · have I1 : Inv X pins σ H { s with heap := h', toks := tk } := I.kept fun b o e => kk b o (by
      simp only [List.mem_singleton]
      exact Nat.ne_of_lt (Heap.lt_size e)) (Heap.get?_push_of_some _ e)
    refine ⟨.bl (bs.all id), H, I1, ?_, q⟩
    have e : (List.range its.toArray.size).all (fun i => bs.getD i true) = bs.all id := by
      rw [List.size_toArray, ← hlen]
      clear hlen rv pl hz ho hn I1 q hq I
      induction bs with
      | nil => rfl
      | cons b bs ih =>
        rw [List.length_cons, List.range_succ_eq_map, List.all_cons, List.all_map, List.all_cons]
        show (b && _) = (b && _)
        rw [← ih]
        rfl
    rw [e]
    rfl
end
end L2

namespace L2
open PySem PySem.Spec PyProof.Rows
section
variable {X : Cx}
noncomputable def rAddA : R2 := fun x y H Q => rI0 (fun i j => .int (i + j)) x y H Q ∨ (∃ i j, x = .str i ∧ y = .str j ∧ i.length + j.length ≤ sizeLine ∧ Q (.str (i ++ j)) H) ∨ rCat x y H Q
theorem o_add : OpR X (binaryOp .Add) rAddA := op_add.or (op_add_str.or op_cat)
noncomputable def rMulA : R2 := fun x y H Q => rI CMul (fun i j => .int (i * j)) x y H Q ∨ (∃ a n, x = .str a ∧ y = .int n ∧ MulOk a n ∧ Q (.str (Txt.mul a n)) H) ∨ rRep x y H Q
theorem o_mul : OpR X (binaryOp .Mult) rMulA := op_mul.or (op_mul_str.or op_rep)
noncomputable def rEqA (K : PySem.W.Frag) : R2 := fun x y H Q => rEq x y H Q ∨ rEqL K false x y H Q
theorem o_eq {K : PySem.W.Frag} (hu : X.A.units < cLine) (hK : X.K = K := by rfl) : OpR X (compareOp .Eq) (rEqA K) := by subst hK; exact op_eq.or (op_eqL hu)
noncomputable def rNeA (K : PySem.W.Frag) : R2 := fun x y H Q => rNe x y H Q ∨ rEqL K true x y H Q
theorem o_ne {K : PySem.W.Frag} (hu : X.A.units < cLine) (hK : X.K = K := by rfl) : OpR X (compareOp .NotEq) (rNeA K) := by subst hK; exact op_ne.or (op_neL hu)
noncomputable def rInA (K : PySem.W.Frag) : R2 := fun x y H Q => (∃ c l, x = .str (mkS [c]) ∧ y = .str (mkS l) ∧ Q (.bl (hasS l c)) H) ∨ rIn K false x y H Q
theorem o_in {K : PySem.W.Frag} (hK : X.K = K := by rfl) : OpR X (compareOp .In) (rInA K) := by subst hK; exact op_in_one.or op_in_seq
noncomputable def rNotInA (K : PySem.W.Frag) : R2 := fun x y H Q => (∃ c l, x = .str (mkS [c]) ∧ y = .str (mkS l) ∧ Q (.bl (!hasS l c)) H) ∨ rIn K true x y H Q
noncomputable def rIsA : R2 := fun x y H Q => (y = .non ∧ Q (.bl (decide (x = .non))) H) ∨ ∃ a b, x = .bl a ∧ y = .bl b ∧ Q (.bl (a == b)) H
noncomputable def rIsNotA : R2 := fun x y H Q => (y = .non ∧ Q (.bl (!decide (x = .non))) H) ∨ ∃ a b, x = .bl a ∧ y = .bl b ∧ Q (.bl (a != b)) H
noncomputable def rSlA (K : PySem.W.Frag) : V → Option Int → Option Int → Hp → VK → Prop := fun x lo hi H Q => rSlL K x lo hi H Q ∨ rSlS x lo hi H Q
theorem o_sl {K : PySem.W.Frag} (hK : X.K = K := by rfl) : SlR X (rSlA K) := by subst hK; exact sl_list.or sl_str
theorem o_ix {K : PySem.W.Frag} (hK : X.K = K := by rfl) : IxR X (rIx K) := by subst hK; exact ix_seq
noncomputable def rLenA (K : PySem.W.Frag) : List V → Hp → VK → Prop := fun xs H Q => (∃ p ys, xs = [.ref p] ∧ (SqL K H p ys ∨ SqT K H p ys) ∧ Q (.int ys.length) H) ∨ ∃ z, xs = [.str z] ∧ z.length ≤ sizeLine ∧ Q (.int z.length) H
theorem o_len {K : PySem.W.Frag} (hK : X.K = K := by rfl) : CallR X (.builtin "len") (rLenA K) := by subst hK; exact call_len_seq.or call_len_str
noncomputable def rIsi (K : PySem.W.Frag) : List V → Hp → VK → Prop := fun xs H Q => ∃ x T T' b, xs = [x, .ty T'] ∧ TyOf K H x (.type T) ∧ kitB T T' = some b ∧ Q (.bl b) H
theorem o_isinstance {K : PySem.W.Frag} (hK : X.K = K := by rfl) : CallR X (.builtin "isinstance") (rIsi K) := by subst hK; exact call_isiB
noncomputable def rAll (K : PySem.W.Frag) : List V → Hp → VK → Prop := fun xs H Q => ∃ (p : Addr) (bs : List Bool), xs = [.ref p] ∧ SqL K H p (bs.map V.bl) ∧ Q (.bl (bs.all id)) H
theorem o_all {K : PySem.W.Frag} (hh : X.calm = true := by rfl) (hK : X.K = K := by rfl) : CallR X (.builtin "all") (rAll K) := by subst hK; exact call_all hh
noncomputable def rAbs : List V → Hp → VK → Prop := fun xs H Q => ∃ i, xs = [.int i] ∧ Q (.int (if i < 0 then -i else i)) H
noncomputable def rIntT : List V → Hp → VK → Prop := fun xs H Q => (∃ i, xs = [.int i] ∧ Q (.int i) H) ∨ ∃ k, xs = [.bl k] ∧ Q (.int (if k then 1 else 0)) H
theorem call_int : CallR X (.type "int") rIntT := call_int1
noncomputable def rFind : V → List V → Hp → VK → Prop := fun x xs H Q => ∃ a b, x = .str a ∧ xs = [.str b] ∧ Q (.int (Txt.find a b)) H
noncomputable def rIndex : V → List V → Hp → VK → Prop := fun x xs H Q => ∃ a b, x = .str a ∧ xs = [.str b] ∧ 0 ≤ Txt.find a b ∧ Q (.int (Txt.find a b)) H
theorem o_append : MtR X "list.append" rAppend := mt_append
theorem pe_bmK {K : PySem.W.Frag} {o e : Expr} {es : List Expr} {to : TE} {t : TA} {name : Str} {apos cpos : Pos} {T id : String} {r : V → List V → Hp → VK → Prop} (pa : PlainAttrs T) (slot : Slot T name id) (hty : typeOf (.builtin id) = pure (.type "method_descriptor")) (hm : MtR X id r) (ho : PE X o to) (ha : PA X (e :: es) t) (hK : X.K = K := by rfl)
    (hbase : attributeBase o name X.env (eval o X.env) = eval o X.env := by rfl)
    (hfew : ((backTo cpos (starEach (e :: es) X.env)).all (fun x => !x.1) && (backToKw cpos (keywordEach [] X.env)).all (fun x => x.1.isSome)
      && decide ((e :: es).length + ([] : List Keyword).length + (if ([] : List Keyword).isEmpty then 0 else 1) < 30)) = true := by rfl)
    (hline : (apos.endLine == cpos.line) = true := by rfl) (hs : starEach (e :: es) X.env = (false, eval e X.env) :: starEach es X.env := by rfl) (hplain : (backTo cpos (starEach es X.env)).any (·.1) = false := by rfl) :
    PE X (.Call (.Attribute o name apos) (e :: es) [] cpos) (tBM K T r to t) := by
  subst hK
  exact pe_bm pa slot hty hm ho ha hbase hfew hline hs hplain
theorem pi_listK {K : PySem.W.Frag} {tg l : Expr} {tl : TE} (hl : PE X l tl) (hK : X.K = K := by rfl) : PI X tg l (iList K tl) := by subst hK; exact pi_list hl
theorem pg_tupK {K : PySem.W.Frag} {es : List Expr} {k : Nat} {t : TGs} {n : Nat} {pos : Pos} (hc : X.calm = true) (h : PGs X es t) (hK : X.K = K := by rfl)
    (hn : (assignEach es X.env).length = n := by rfl) (hst : (assignEach es X.env).findIdx? (·.1) = none := by rfl) : PG X (.Tuple es k pos) (gTup K n t) := by subst hK; exact pg_tup hc h hn hst
theorem pe_gl {x : Str} {v : V} {pos : Pos} (hg : Gl X x) (h : ∃ u, X.mg x = some u ∧ RelV v u) (hd : (x == ("__debug__" : Str)) = false := by decide) : PE X (.Name x pos) (tC v) := by
  obtain ⟨u, hm, r⟩ := h
  exact pe_glob hg hm r hd
end

structure Fn (K : PySem.W.Frag) (x qual : Str) (st : Stmt) (f : Addr) (fd : FuncData) : Prop where
  ex : ∃ (oc : Value) (od : Option Addr) (dV kV doc pm : Value) (an : Option Addr) (cdv ct : Value) (osl : Array (Option Value)),
    fd = PySem.W.fnOf x qual (defArgs st) (defBody st) (defScope st) dV kV doc pm an cdv ct ∧ K.lookup f = some ⟨oc, od, .func fd, osl⟩ ∧ PySem.W.codeIn K cdv qual = true
  kp : PySem.W.keepIn K (.ref f) = true
section
variable {P : Program} {w : World} {K : PySem.W.Frag} {mg : Str → Option Value} {base : Heap}
theorem Fn.ok {x qual : Str} {st : Stmt} {f : Addr} {fd : FuncData} {N ps : List Str} {k : Nat} {sp : Sp} (F : Fn K x qual st f fd) (S : FnScope N ps (defScope st)) (len : ∀ vs H Q E, sp vs H Q E → vs.length = ps.length)
    (hbody : ∀ (cdv : Value) (A : Around) (outer : List Env) (s : Shared) (H : Hp) (vs : List V) (Q : VK) (E : XK), Room k (A.deeper (envOfC qual (defScope st) s.heap.objs.size f cdv)) → sp vs H Q E →
      ∃ t, PSs (cxOf CX0 P w K mg base N qual (defScope st) f cdv A outer s H E).nox (defBody st) t ∧ t { nx := fun _ H' => Q .non H', rt := Q } (start N vs) H) : FnOk P w K mg base CX0 (k + 1) f fd ps sp := by
  obtain ⟨oc, od, dV, kV, doc, pm, an, cdv, ct, osl, rfl, lk, hcd⟩ := F.ex
  refine fn_of lk hcd S len fun A outer s H vs Q E hr hsp => ?_
  obtain ⟨t, h, q⟩ := hbody cdv A outer s H vs Q E hr hsp
  exact ⟨t, h.nox, q⟩
theorem fn_mk {x qual : Str} {st : Stmt} {f : Addr} {oc : Value} {od an : Option Addr} {osl : Array (Option Value)} {dV kV doc pm cdv ct : Value} (l : K.lookup f = some ⟨oc, od, .func (PySem.W.fnOf x qual (defArgs st) (defBody st) (defScope st) dV kV doc pm an cdv ct), osl⟩)
    (c : PySem.W.codeIn K cdv qual = true) (k : PySem.W.keepIn K (.ref f) = true) : Fn K x qual st f (PySem.W.fnOf x qual (defArgs st) (defBody st) (defScope st) dV kV doc pm an cdv ct) := ⟨⟨oc, od, dV, kV, doc, pm, an, cdv, ct, osl, rfl, l, c⟩, k⟩
end
structure DefAt (K : PySem.W.Frag) (mg : Str → Option Value) (x : Str) (st : Stmt) (ps : List Str) where
  f : Addr
  fd : FuncData
  F : Fn K x x st f fd
  b : Binds K fd ps []
  m : mg x = some (.ref f)
section
variable {X : Cx} {k : Nat} {ps : List Str} {sp : Sp} {x : Str} {st : Stmt} {p pos : Pos} {e : Expr} {es : List Expr} {t : TA}
theorem pc (D : DefAt X.K X.mg x st ps) (G : FnOk X.prog X.w X.K X.mg X.base CX0 k D.f D.fd ps sp) (hr : Room k X.A) (ha : PA X (e :: es) t) (hg : Gl X x := by rfl) (hdb : (x == ("__debug__" : Str)) = false := by decide)
    (he : starEach (e :: es) X.env = (false, eval e X.env) :: starEach es X.env := by rfl) (hpl : (backTo pos (starEach es X.env)).any (·.1) = false := by rfl) : PE X (.Call (.Name x p) (e :: es) [] pos) (tCall sp [] E0 t) :=
  pe_call G hr hg D.m D.F.kp D.b .nil pass0 ha hdb he hpl
theorem pcd (D : DefAt X.K X.mg x st ps) (G : FnOk X.prog X.w X.K X.mg X.base CX0 k D.f D.fd ps sp) (hr : Room k X.A) {dvs : List V} (hd : ∃ ds, Binds X.K D.fd ps ds ∧ Vals dvs ds) (ha : PA X (e :: es) t) (hg : Gl X x := by rfl) (hdb : (x == ("__debug__" : Str)) = false := by decide)
    (he : starEach (e :: es) X.env = (false, eval e X.env) :: starEach es X.env := by rfl) (hpl : (backTo pos (starEach es X.env)).any (·.1) = false := by rfl) : PE X (.Call (.Name x p) (e :: es) [] pos) (tCall sp dvs E0 t) := by
  obtain ⟨ds, hb, hv⟩ := hd
  exact pe_call G hr hg D.m D.F.kp hb hv pass0 ha hdb he hpl
end
noncomputable def Knw (K : PySem.W.Frag) (H : Hp) (x : V) : Prop := ∃ T, TyOf K H x (.type T)
theorem Same.upd {H H' : Hp} {l : Addr} {o : HO} (e : Same H H') (h : H' l = none) : Same H (upd H' l o) := fun b u q => by
  rw [upd_ne (ne_of_none (e b u q) h)]
  exact e b u q
theorem Knw.same {K : PySem.W.Frag} {H H' : Hp} {x : V} (e : Same H H') (k : Knw K H x) : Knw K H' x := by
  obtain ⟨T, k⟩ := k
  cases k with
  | non => exact ⟨_, .non⟩
  | bl b => exact ⟨_, .bl b⟩
  | int i => exact ⟨_, .int i⟩
  | str z => exact ⟨_, .str z⟩
  | flt z => exact ⟨_, .flt z⟩
  | lst h => exact ⟨_, .lst (e _ _ h)⟩
  | frz h => exact ⟨_, .frz (e _ _ h)⟩
  | tup h => exact ⟨_, .tup (e _ _ h)⟩
  | dK h => exact ⟨_, .dK (e _ _ h)⟩
  | dT h => exact ⟨_, .dT (e _ _ h)⟩
end L2

namespace L2
open PySem PySem.Spec PyProof.Rows
theorem mk_iff (a b : List Nat) : mkS a = mkS b ↔ a = b := ⟨mk_inj, fun h => by rw [h]⟩
theorem tyV_str {K : PySem.W.Frag} {z : Str} {H : Hp} : tyV K "str" (.str z) H ↔ True := by simp [tyV]
theorem tyV_lst {K : PySem.W.Frag} {p : Addr} {xs : List V} {H : Hp} (h : SqL K H p xs) : tyV K "list" (.ref p) H := Or.inl ⟨rfl, xs, h⟩
theorem fm_one {α β : Type} (f : α → β) : ∀ l : List α, l.flatMap (fun c => [f c]) = l.map f
  | [] => rfl
  | a :: l => by rw [List.flatMap_cons, fm_one f l]; rfl
section
variable {tb : TS} {D : Ends} {σ : St} {H : Hp} {k : Nat}
theorem tfor_list {K : PySem.W.Frag} {a : Addr} {xs : List V} {te : TE} (hte : ∀ R : VK, R (.ref a) H → te σ H R) (hq : SqL K H a xs) (Pv : Nat → St → Hp → Prop) (h0 : Pv 0 σ H) (hl : ∀ i σ H, Pv i σ H → SqL K H a xs)
    (hs : ∀ (i : Nat) (x : V) (σ : St) (H : Hp), xs[i]? = some x → Pv i σ H → tb { D with nx := Pv (i + 1), ct := Pv (i + 1), bk := D.nx } (σ.set k (some x)) H) (hd : ∀ σ H, Pv xs.length σ H → D.nx σ H) :
    tFor (iList K te) (gName k) tb D σ H :=
  hte _ ⟨a, rfl, ⟨xs, hq⟩, for_walk (xs := xs) Pv h0 (wk_list fun H ⟨i, σ, p⟩ => hl i σ H p) (fun i x σ H hx p => hs i x σ H hx p) hd⟩
theorem tfor_rng {te : TE} (j : Int) (h1 : 0 ≤ j) (h2 : j < 1073741824) (hte : ∀ R : VK, R (.int j) H → te σ H R) (Pv : Nat → St → Hp → Prop) (h0 : Pv 0 σ H)
    (hs : ∀ (i : Nat) (σ : St) (H : Hp), (i : Int) < j → Pv i σ H → tb { D with nx := Pv (i + 1), ct := Pv (i + 1), bk := D.nx } (σ.set k (some (.int (i : Int)))) H) (hd : ∀ σ H, Pv j.toNat σ H → D.nx σ H) :
    tFor (iRng1 (tCons te tNil)) (gName k) tb D σ H := by
  refine hte _ ⟨j, rfl, by omega, by omega, for_range (n := j.toNat) Pv h0 (fun i σ H hi p => ?_) hd⟩
  rw [Int.zero_add]
  exact hs i σ H (by omega) p
end
section
variable {tc : TT} {te : TE} {src : List (Option Nat)} {σ : St} {H : Hp} {Q : VK} {k : Nat}
theorem tcomp_list {K : PySem.W.Frag} {a : Addr} {xs : List V} {tl : TE} (H0 : Hp) (hte : ∀ R : VK, R (.ref a) H0 → tl σ H R) (hq : SqL K H0 a xs) (F : V → List V) (Pv : Hp → Prop) (hsrc : src[k]? = some none) (h0 : Pv H0) (hl : ∀ H, Pv H → SqL K H a xs) (hz : xs.length ≤ sizeLine)
    (hs : ∀ (i : Nat) (x : V) (H' : Hp) (Cy : VK) (Cn : Hp → Prop), xs[i]? = some x → Pv H' → (∀ y H4, F x = [y] → Pv H4 → Cy y H4) → (∀ H3, F x = [] → Pv H3 → Cn H3) →
      tc ((stComp src σ).set k (some x)) H' fun b H3 => if b = true then te ((stComp src σ).set k (some x)) H3 Cy else Cn H3)
    (hd : ∀ H' l, Pv H' → H' l = none → Q (.ref l) (upd H' l (.lst (xs.flatMap F)))) : tComp src (iList K tl) (gName k) tc te σ H Q :=
  hte _ ⟨a, rfl, ⟨xs, hq⟩, comp_walk F Pv hsrc h0 (wk_list hl) hz hs hd⟩
end
end L2

namespace L2
open PySem PySem.Spec PyProof.Rows
section
variable {K : PySem.W.Frag} {H : Hp} {Q : VK} {a b : Int} {x y : Str} {p q : Bool} {l : List Nat} {c : Nat} {v : V}
theorem add_ii : rAddA (.int a) (.int b) H Q ↔ Q (.int (a + b)) H := by simp [rAddA, rI0, rCat]
theorem add_ss : rAddA (.str x) (.str y) H Q ↔ x.length + y.length ≤ sizeLine ∧ Q (.str (x ++ y)) H := by simp [rAddA, rI0, rCat]
theorem mul_ii : rMulA (.int a) (.int b) H Q ↔ CMul a b ∧ Q (.int (a * b)) H := by simp [rMulA, rI, rRep]
theorem mul_si : rMulA (.str x) (.int b) H Q ↔ MulOk x b ∧ Q (.str (Txt.mul x b)) H := by simp [rMulA, rI, rRep]
theorem ix_si : rIx K (.str x) (.int a) H Q ↔ x.length ≤ sizeLine ∧ ∃ c, atI x.cps.toList a = some c ∧ Q (.str (mkS [c])) H := by
  simp [rIx, rIxL, rIxT, rIxS, mk_one]
theorem eq_ii : rEqA K (.int a) (.int b) H Q ↔ Q (.bl (decide (a = b))) H := by
  have s : scal (V.int a) (V.int b) = true := rfl
  simp [rEqA, rEq, rEqL, s]
theorem eq_ss : rEqA K (.str x) (.str y) H Q ↔ Q (.bl (decide (x = y))) H := by
  have s : scal (V.str x) (V.str y) = true := rfl
  simp [rEqA, rEq, rEqL, s]
theorem eq_bb : rEqA K (.bl p) (.bl q) H Q ↔ Q (.bl (decide (p = q))) H := by
  have s : scal (V.bl p) (V.bl q) = true := rfl
  simp [rEqA, rEq, rEqL, s]
theorem ne_ii : rNeA K (.int a) (.int b) H Q ↔ Q (.bl (!decide (a = b))) H := by
  have s : scal (V.int a) (V.int b) = true := rfl
  simp [rNeA, rNe, rEqL, s]
theorem ne_ss : rNeA K (.str x) (.str y) H Q ↔ Q (.bl (!decide (x = y))) H := by
  have s : scal (V.str x) (V.str y) = true := rfl
  simp [rNeA, rNe, rEqL, s]
theorem ne_ni : rNeA K .non (.int a) H Q ↔ Q (.bl true) H := by
  have s : scal (V.non) (V.int a) = true := rfl
  simp [rNeA, rNe, rEqL, s]
theorem ne_in : rNeA K (.int a) .non H Q ↔ Q (.bl true) H := by
  have s : scal (V.int a) (V.non) = true := rfl
  simp [rNeA, rNe, rEqL, s]
theorem in_s1 : rInA K (.str (mkS [c])) (.str (mkS l)) H Q ↔ Q (.bl (hasS l c)) H := by
  simp only [rInA, rIn, V.str.injEq, mk_iff, List.cons.injEq, and_true, reduceCtorEq, false_and, exists_false, or_false]
  exact ⟨fun ⟨_, _, e1, e2, z⟩ => by subst e1 e2; exact z, fun z => ⟨_, _, rfl, rfl, z⟩⟩
theorem notin_s1 : rNotInA K (.str (mkS [c])) (.str (mkS l)) H Q ↔ Q (.bl (!hasS l c)) H := by
  simp only [rNotInA, rIn, V.str.injEq, mk_iff, List.cons.injEq, and_true, reduceCtorEq, false_and, exists_false, or_false]
  exact ⟨fun ⟨_, _, e1, e2, z⟩ => by subst e1 e2; exact z, fun z => ⟨_, _, rfl, rfl, z⟩⟩
theorem is_xn : rIsA v .non H Q ↔ Q (.bl (decide (v = .non))) H := by simp [rIsA]
theorem is_bb : rIsA (.bl p) (.bl q) H Q ↔ Q (.bl (p == q)) H := by simp [rIsA]
theorem isnot_xn : rIsNotA v .non H Q ↔ Q (.bl (!decide (v = .non))) H := by simp [rIsNotA]
theorem isnot_bb : rIsNotA (.bl p) (.bl q) H Q ↔ Q (.bl (p != q)) H := by simp [rIsNotA]
theorem sl_s {lo hi : Option Int} : rSlA K (.str x) lo hi H Q ↔ x.length ≤ sizeLine ∧ Q (.str (mkS (cutL (sg x) lo hi))) H := by simp [rSlA, rSlL, rSlS]
theorem len_s : rLenA K [.str x] H Q ↔ x.length ≤ sizeLine ∧ Q (.int x.length) H := by simp [rLenA]
theorem find_ss : rFind (.str x) [.str y] H Q ↔ Q (.int (Txt.find x y)) H := by simp [rFind]
theorem index_ss : rIndex (.str x) [.str y] H Q ↔ 0 ≤ Txt.find x y ∧ Q (.int (Txt.find x y)) H := by simp [rIndex]
variable {r s t : Addr} {xs ys : List V}
theorem ixL (h : SqL K H r xs) (e : atI xs a = some v) (z : Q v H) : rIx K (.ref r) (.int a) H Q := .inl ⟨r, xs, a, v, rfl, rfl, h, e, z⟩
theorem ixT (h : SqT K H r xs) (e : atI xs a = some v) (z : Q v H) : rIx K (.ref r) (.int a) H Q := .inr (.inl ⟨r, xs, a, v, rfl, rfl, h, e, z⟩)
theorem eqLL (h1 : SqL K H r xs) (h2 : SqL K H s ys) (f1 : xs.all flatV = true) (f2 : ys.all flatV = true) (z : Q (.bl (eqL xs ys)) H) : rEqA K (.ref r) (.ref s) H Q := .inr ⟨r, s, xs, ys, rfl, rfl, h1, h2, f1, f2, z⟩
theorem neLL (h1 : SqL K H r xs) (h2 : SqL K H s ys) (f1 : xs.all flatV = true) (f2 : ys.all flatV = true) (z : Q (.bl (!eqL xs ys)) H) : rNeA K (.ref r) (.ref s) H Q := .inr ⟨r, s, xs, ys, rfl, rfl, h1, h2, f1, f2, z⟩
theorem lenL (h : SqL K H r xs) (z : Q (.int xs.length) H) : rLenA K [.ref r] H Q := .inl ⟨r, xs, rfl, .inl h, z⟩
theorem catL (h1 : H r = some (.lst xs)) (h2 : H s = some (.lst ys)) (hz : xs.length + ys.length ≤ sizeLine) (z : ∀ p, H p = none → Q (.ref p) (upd H p (.lst (xs ++ ys)))) : rAddA (.ref r) (.ref s) H Q := .inr (.inr ⟨r, s, xs, ys, rfl, rfl, h1, h2, hz, z⟩)
theorem slL {lo hi : Option Int} (h : SqL K H r xs) (z : ∀ p, H p = none → Q (.ref p) (upd H p (.lst (cutL xs lo hi)))) : rSlA K (.ref r) lo hi H Q := .inl ⟨r, xs, rfl, h, z⟩
theorem appL (h : H r = some (.lst xs)) (hz : xs.length < sizeLine) (z : Q .non (upd H r (.lst (xs ++ [v])))) : rAppend (.ref r) [v] H Q := ⟨r, xs, v, rfl, rfl, h, hz, z⟩
theorem allL {bs : List Bool} (h : SqL K H r (bs.map V.bl)) (z : Q (.bl (bs.all id)) H) : rAll K [.ref r] H Q := ⟨r, bs, rfl, h, z⟩
theorem isi_t {v : V} {T0 T' : String} (k : TyOf K H v (.type T0)) (q : Q (.bl true) H) (e : kitB T0 T' = some true := by decide +kernel) : rIsi K [v, .ty T'] H Q := ⟨v, T0, T', true, rfl, k, e, q⟩
theorem isi_f {v : V} {T0 T' : String} (k : TyOf K H v (.type T0)) (q : Q (.bl false) H) (e : kitB T0 T' = some false := by decide +kernel) : rIsi K [v, .ty T'] H Q := ⟨v, T0, T', false, rfl, k, e, q⟩
theorem atIn {α : Type} {xs : List α} {i : Int} {c : α} (h0 : 0 ≤ i) (h : xs[i.toNat]? = some c) : atI xs i = some c := by
  have := atI_nat (j := i.toNat) h
  rw [Int.toNat_of_nonneg h0] at this
  exact this
end
end L2

namespace L2
open PySem PySem.Spec PyProof.Rows
section
variable {tb : TS} {D : Ends} {σ : St} {H : Hp} {k : Nat}
theorem while_cps {c : TT} (Pv : St → Hp → Prop) (μ : St → Hp → Nat) (h0 : Pv σ H)
    (hs : ∀ (σ : St) (H : Hp) (C : Bool → Hp → Prop), Pv σ H → (∀ H1, tb { D with nx := fun σ' H' => Pv σ' H' ∧ μ σ' H' < μ σ H, ct := fun σ' H' => Pv σ' H' ∧ μ σ' H' < μ σ H, bk := D.nx } σ H1 → C true H1) → (∀ H1, D.nx σ H1 → C false H1) → c σ H C) : tWhile c tb D σ H := by
  refine ⟨fun m σ H => m = μ σ H ∧ Pv σ H, ⟨_, rfl, h0⟩, ?_⟩
  rintro m σ H ⟨rfl, p⟩
  refine hs σ H _ p (fun H1 q => ?_) fun H1 q => ?_
  · exact ⟨_, fun σ' H' ⟨p', l⟩ => ⟨_, l, rfl, p'⟩, q⟩
  · exact q
end
end L2

namespace L2
open PySem PySem.Spec PyProof.Rows
end L2

namespace L2
open PySem PySem.Spec PyProof.Rows
noncomputable def plE : Expr → Bool
  | .Starred .. => false
  | _ => true
theorem star_cons {e : Expr} {es : List Expr} {env : Env} (h : plE e = true) : starEach (e :: es) env = (false, eval e env) :: starEach es env := by
  cases e <;> first
    | rfl
    | cases h
theorem star_any {pos : Pos} {env : Env} : ∀ {es : List Expr}, es.all plE = true → (backTo pos (starEach es env)).any (·.1) = false
  | [], _ => rfl
  | e :: es, h => by
    rw [List.all_cons, Bool.and_eq_true] at h
    rw [star_cons h.1]
    show (false || (backTo pos (starEach es env)).any (·.1)) = false
    rw [star_any h.2]
    rfl
theorem star_all {pos : Pos} {env : Env} : ∀ {es : List Expr}, es.all plE = true → (backTo pos (starEach es env)).all (fun x => !x.1) = true
  | [], _ => rfl
  | e :: es, h => by
    rw [List.all_cons, Bool.and_eq_true] at h
    rw [star_cons h.1]
    show (true && (backTo pos (starEach es env)).all (fun x => !x.1)) = true
    rw [star_all h.2]
    rfl
section
variable {X : Cx} {k : Nat} {ps : List Str} {sp : Sp} {x : Str} {st : Stmt} {p pos : Pos} {e : Expr} {es : List Expr} {t : TA} {te : TE} {id T : String} {r : List V → Hp → VK → Prop}
theorem pa1 (ha : PE X e te) (hr : PA X es t) (h : plE e = true := by rfl) : PA X (e :: es) (tCons te t) := pa_cons ha hr (star_cons h)
theorem pcB (hc : CallR X (.builtin id) r) (hg : Gl X x) (hm : X.mg x = none) (hv : bootBuiltins x = some (.builtin id)) (ha : PA X (e :: es) t) (h : plE e = true := by rfl) (h2 : es.all plE = true := by rfl) (hn : x ≠ "__name__" := by decide) (hdb : (x == ("__debug__" : Str)) = false := by decide) : PE X (.Call (.Name x p) (e :: es) [] pos) (tCB r t) :=
  pe_callB hc hg hm hv ha hn hdb (star_cons h) (star_any h2)
theorem pcT (hc : CallR X (.type T) r) (hg : Gl X x) (hm : X.mg x = none) (hv : bootBuiltins x = some (.type T)) (ha : PA X (e :: es) t) (h : plE e = true := by rfl) (h2 : es.all plE = true := by rfl) (hn : x ≠ "__name__" := by decide) (hdb : (x == ("__debug__" : Str)) = false := by decide) : PE X (.Call (.Name x p) (e :: es) [] pos) (tCB r t) :=
  pe_callTy hc hg hm hv ha hn hdb (star_cons h) (star_any h2)
theorem pc1 (D : DefAt X.K X.mg x st ps) (G : FnOk X.prog X.w X.K X.mg X.base CX0 k D.f D.fd ps sp) (hr : Room k X.A) (ha : PA X (e :: es) t) (h : plE e = true := by rfl) (h2 : es.all plE = true := by rfl) (hg : Gl X x := by rfl) (hdb : (x == ("__debug__" : Str)) = false := by decide) : PE X (.Call (.Name x p) (e :: es) [] pos) (tCall sp [] E0 t) :=
  pc D G hr ha hg hdb (star_cons h) (star_any h2)
theorem pcd1 (D : DefAt X.K X.mg x st ps) (G : FnOk X.prog X.w X.K X.mg X.base CX0 k D.f D.fd ps sp) (hr : Room k X.A) {dvs : List V} (hd : ∃ ds, Binds X.K D.fd ps ds ∧ Vals dvs ds) (ha : PA X (e :: es) t) (h : plE e = true := by rfl) (h2 : es.all plE = true := by rfl) (hg : Gl X x := by rfl) (hdb : (x == ("__debug__" : Str)) = false := by decide) : PE X (.Call (.Name x p) (e :: es) [] pos) (tCall sp dvs E0 t) :=
  pcd D G hr hd ha hg hdb (star_cons h) (star_any h2)
theorem pm1 {K : PySem.W.Frag} {o : Expr} {to : TE} {name : Str} {apos cpos : Pos} {r : V → List V → Hp → VK → Prop} (pa : PlainAttrs T) (slot : Slot T name id) (hty : typeOf (.builtin id) = pure (.type "method_descriptor")) (hm : MtR X id r) (ho : PE X o to) (ha : PA X (e :: es) t) (h : plE e = true := by rfl) (h2 : es.all plE = true := by rfl) (h3 : es.length < 20 := by decide) (hK : X.K = K := by rfl)
    (hbase : attributeBase o name X.env (eval o X.env) = eval o X.env := by rfl) (hline : (apos.endLine == cpos.line) = true := by rfl) : PE X (.Call (.Attribute o name apos) (e :: es) [] cpos) (tBM K T r to t) :=
  pe_bmK pa slot hty hm ho ha hK hbase (by
    rw [star_all (by rw [List.all_cons, h, h2]; rfl)]
    have : decide ((e :: es).length + ([] : List Keyword).length + (if ([] : List Keyword).isEmpty then 0 else 1) < 30) = true := decide_eq_true (by
      show es.length + 1 + 0 + 0 < 30
      omega)
    rw [this]
    rfl) hline (star_cons h) (star_any h2)
end
end L2

namespace L2
open PySem
noncomputable def ExAt (h : Heap) (x : Addr) (cls a0 : Value) (T : Addr) (fl : Value) : Prop :=
  ∃ ox vs oT ts, h.get? x = some ox ∧ (ox.cls = cls ∧ ox.dict = none) ∧ ox.data = .fields vs ∧ vs[0]? = some a0 ∧ vs[1]? = some (.ref T) ∧ vs[2]? = some .none ∧ T ≠ x ∧ h.get? T = some oT ∧ oT.data = .fields ts ∧ ts[3]? = some fl
structure KeepBut (l fs : List Addr) (h h' : Heap) : Prop where
  keep : ∀ b o, b ∉ l → b ∉ fs → h.get? b = some o → h'.get? b = some o
  slot : ∀ b o, b ∉ l → h.get? b = some o → ∃ sl, h'.get? b = some { o with slots := sl }
  there : ∀ b o, h.get? b = some o → ∃ o', h'.get? b = some o'
theorem KeepBut.trans {l fs : List Addr} {h h1 h2 : Heap} (a : KeepBut l fs h h1) (b : KeepBut l fs h1 h2) : KeepBut l fs h h2 where
  keep := fun c o n m e => b.keep c o n m (a.keep c o n m e)
  slot := fun c o n e => by
    obtain ⟨_, e1⟩ := a.slot c o n e
    obtain ⟨sl, e2⟩ := b.slot c _ n e1
    exact ⟨sl, e2⟩
  there := fun c o e => by
    obtain ⟨o1, e1⟩ := a.there c o e
    exact b.there c o1 e1
theorem KeepBut.mono {l l' fs fs' : List Addr} {h h' : Heap} (a : KeepBut l fs h h') (m : ∀ b ∈ l, b ∈ l') (n : ∀ b ∈ fs, b ∈ fs') : KeepBut l' fs' h h' :=
  ⟨fun b o x y => a.keep b o (fun z => x (m b z)) (fun z => y (n b z)), fun b o x => a.slot b o fun z => x (m b z), a.there⟩
theorem KeepBut.upd {h : Heap} {x : Addr} {fs : List Addr} {f : Obj → Obj} {o : Obj} (e : h.get? x = some o) (nf : (f o).isFreed = false) : KeepBut [x] fs h (h.update x f) where
  keep := fun b u n _ q => by
    rw [Heap.get?_update_other _ _ (fun z => n (by simp [z]))]
    exact q
  slot := fun b u n q => ⟨u.slots, by
    rw [Heap.get?_update_other _ _ (fun z => n (by simp [z]))]
    exact q⟩
  there := fun b u q => by
    by_cases z : x = b
    · subst z
      exact ⟨_, Heap.get?_update_self f e nf⟩
    · exact ⟨u, by rw [Heap.get?_update_other _ _ z]; exact q⟩
theorem KeepBut.push {h : Heap} {l fs : List Addr} (o : Obj) : KeepBut l fs h (h.push o) :=
  ⟨fun _ _ _ _ q => Heap.get?_push_of_some _ q, fun _ u _ q => ⟨u.slots, Heap.get?_push_of_some _ q⟩, fun _ u q => ⟨u, Heap.get?_push_of_some _ q⟩⟩
theorem KeepBut.slots {h h' : Heap} {l fs : List Addr} (k : Heap.SlotsOnly fs h h') : KeepBut l fs h h' :=
  ⟨fun b o _ n q => (k.2.1 b n).trans q, fun b o _ q => k.2.2 b o q, fun b o q => let ⟨_, e⟩ := k.2.2 b o q; ⟨_, e⟩⟩
section
variable {M : Model} {A : Around} {E : Value → Shared → Prop} {s : Shared}
end
end L2

namespace L2
open PySem PyProof.Rows
section
variable {prog : Program} {w : World} {A : Around} {E : Value → Shared → Prop} {s : Shared}
end
end L2

namespace L2
open PySem PySem.W PyProof.Rows
section
variable {K : Frag} {prog : Program} {w : World} {A : Around} {E : Value → Shared → Prop} {s : Shared} {x D : Addr} {ox : Obj} {odo : Option Obj}
end
end L2

namespace L2
open PySem PySem.Spec PyProof.Rows
theorem ObjOk.has {P : Program} {w : World} {H : Hp} {h : Heap} {a : Addr} : ∀ {o : HO}, ObjOk P w H h a o → ∃ ob, h.get? a = some ob
  | .lst _, x => by obtain ⟨_, _, _, _, e⟩ := x; exact ⟨_, e⟩
  | .tup _, x => by obtain ⟨_, _, _, o, e, _⟩ := x; exact ⟨o, e⟩
  | .dK _, x => by obtain ⟨_, _, _, _, o, _, _, e, _⟩ := x; exact ⟨o, e⟩
  | .dT _, x => by obtain ⟨_, _, _, _, o, _, _, e, _⟩ := x; exact ⟨o, e⟩
  | .set _ _, x => by
    obtain ⟨o, e⟩ : ∃ o, h.get? a = some o := by
      have z : h.SetOf (intKind P w) a _ _ := x
      obtain ⟨o, _, _, _, e, _⟩ := z
      exact ⟨o, e⟩
    exact ⟨o, e⟩
  | .ins _ _ _, x => by obtain ⟨_, _, _, e, _⟩ := x; exact ⟨_, e⟩
  | .own _, x => x
  | .xd _, x => by obtain ⟨_, ⟨o, _, _, e, _⟩, _⟩ := x; exact ⟨o, e⟩
  | .met _ _, e => ⟨_, e⟩
  | .rng _ _, ⟨_, _, _, e⟩ => ⟨_, e⟩
  | .frz o _, ⟨e, _⟩ => ⟨o, e⟩
  | .tbl _, e => ⟨_, e⟩
  | .ext _, ⟨_, e, _⟩ => e
theorem HOk.no {P : Program} {w : World} {H : Hp} {h : Heap} (ok : HOk P w H h) {a : Addr} (n : h.get? a = none) : H a = none := by
  cases e : H a with
  | none => rfl
  | some o =>
    obtain ⟨ob, z⟩ := (ok a o e).has
    rw [n] at z
    cases z
section
variable {P : Program} {w : World} {H H' : Hp} {h h1 h2 : Heap} {l fs : List Addr}
theorem hok_but (ok : HOk P w H h1) (kb : KeepBut l fs h1 h2) (hl : ∀ b ∈ l, H b = none) (hf : ∀ b ∈ fs, H b = none) : HOk P w H h2 := fun b u e => by
  have key : ∀ c v, H c ≠ none → h1.get? c = some v → h2.get? c = some v := fun c v n q => kb.keep c v (fun z => n (hl c z)) (fun z => n (hf c z)) q
  refine (ok b u e).stay (fun c v hc q => key c v ?_ q) (fun _ q => q) fun _ _ q => q
  rcases hc with z | z
  · rw [z, e]; exact fun q => nomatch q
  · rw [z]; exact fun q => nomatch q
end
section
variable {X : Cx} {pins : List (Addr × Obj)} {σ : St} {H H' : Hp} {s s' : Shared}
theorem Inv.outer (I : Inv X pins σ H s) (hx : X.ex = []) (hs : X.stack = X.env :: X.outer) (hf : X.env.frame = some X.env.locals) (u : Un (frs X.stack) [] H H' s.heap s'.heap) : Un (frs X.outer) [] X.H₀ H' X.s₀.heap s'.heap := by
  have hsub : ∀ b, b ∈ frs X.stack ↔ b = X.env.locals ∨ b ∈ frs X.outer := fun b => by
    rw [hs]
    unfold frs
    rw [List.filterMap_cons, hf]
    simp
  have B := I.base
  rw [hx] at B
  have neL : ∀ b o, X.s₀.heap.get? b = some o → b ≠ X.env.locals := fun b o e => Nat.ne_of_lt (Nat.lt_of_lt_of_le (Heap.lt_size e) I.ok.above)
  refine ⟨fun b o e n hb hx' => ?_, fun b o e n hb hx' => ?_, fun b o e n hx' => ?_, fun b o e hx' => ?_, fun b xs e => u.tups b xs (B.tups b xs e), fun b o v e => u.frzs b o v (B.frzs b o v e), fun b ps e => ?_⟩
  · exact u.keep b o (B.keep b o e n hb hx') (B.free b o e n hx') (fun z => ((hsub b).mp z).elim (neL b o e) hb) (by simp)
  · obtain ⟨sl, e1⟩ := B.slot b o e n hb hx'
    obtain ⟨sl2, e2⟩ := u.any e1 (B.free b o e n hx') (by simp)
    exact ⟨sl2, e2⟩
  · obtain ⟨o1, e1⟩ := B.there b o e hx'
    exact u.free b o1 e1 (B.free b o e n hx') (by simp)
  · obtain ⟨o1, e1⟩ := B.there b o e hx'
    exact u.there b o1 e1 (by simp)
  · obtain ⟨m1, e1⟩ := B.tbls b ps e
    obtain ⟨m2, e2⟩ := u.tbls b _ e1
    exact ⟨m1 ++ m2, by rw [e2, Array.append_assoc]⟩
end
section
variable {P : Program} {w : World} {K : PySem.W.Frag} {mg : Str → Option Value} {base : Heap} {N : List Str} {qual : Str} {scope : Scope} {f : Addr} {cd : Value} {A : Around} {outer : List Env} {s₀ : Shared} {H₀ : Hp} {E : XK}
end
end L2

namespace L2
open PySem PySem.Spec PyProof.Rows
noncomputable def tRaise (C : Addr) (E : XK) (t : TA) : TS := fun _ σ H => t σ H fun vs H1 => vs.length ≤ sizeLine ∧ E (.ref C) none H1
section
variable {X : Cx} {E : XK} {x : Str} {C : Addr} {np cpos pos : Pos} {e : Expr} {es : List Expr} {t : TA}
end
end L2

namespace L2
open PySem PySem.Spec PyProof.Rows
section
variable {P : Program} {w : World} {K : PySem.W.Frag} {mg : Str → Option Value} {base : Heap}
end
section
variable {X : Cx} {k : Nat} {ps : List Str} {sp : Sp} {x : Str} {st : Stmt} {p pos : Pos} {e : Expr} {es : List Expr} {t : TA} {E : XK}
end
noncomputable def XP (X : Cx) (pins : List (Addr × Obj)) (σ : St) (Ex : XK) (e : Value) (s' : Shared) : Prop := ∃ (x C T : Addr) (a0 : Value) (H' : Hp), e = .ref x ∧ Inv X pins σ H' s' ∧ ExAt s'.heap x (.ref C) a0 T .none ∧ X.s₀.heap.get? x = none ∧ X.s₀.heap.get? T = none ∧
  (∀ p ∈ X.pn ++ pins, p.1 ≠ x ∧ p.1 ≠ T) ∧ H' x = none ∧ H' T = none ∧ Ex (.ref C) none H'
noncomputable def PEX (X : Cx) (e : Expr) (tx : XK → TE) : Prop := ∀ (pins : List (Addr × Obj)) (s : Shared) (σ : St) (H : Hp) (Q : VK) (Ex : XK), Inv X pins σ H s → tx Ex σ H Q → wpAny (model X.prog X.w) X.A (eval e X.env) (EP X pins σ Q) (XP X pins σ Ex) s
section
variable {X : Cx} {pins : List (Addr × Obj)} {σ : St} {H H' : Hp} {s s' : Shared}
theorem Inv.but {h' : Heap} {l : List Addr} (I : Inv X pins σ H s) (hx : X.ex = []) (kb : KeepBut l (frs X.stack) s.heap h') (hl : ∀ b ∈ l, X.s₀.heap.get? b = none ∧ H b = none ∧ (∀ p ∈ X.pn ++ pins, p.1 ≠ b) ∧ ∃ vs, ∀ o, s.heap.get? b = some o → o.data = .fields vs) : Inv X pins σ H { s with heap := h' } := by
  have neL : X.env.locals ∉ l := fun z => by
    obtain ⟨m, ⟨o, es, ep, ho, hd, _⟩, _⟩ := I.loc
    obtain ⟨_, _, _, vs, hv⟩ := hl _ z
    have := hv o ho
    rw [hd] at this; cases this
  have neC : ∀ x c, X.env.cells.lookup x = some c → c ∉ l := fun x c e z => by
    obtain ⟨v, o, ho, hd⟩ := I.cell x c e
    obtain ⟨_, _, _, vs, hv⟩ := hl _ z
    have := hv o ho
    rw [hd] at this; cases this
  have nl : ∀ b o, X.s₀.heap.get? b = some o → b ∉ l := fun b o e z => by rw [(hl b z).1] at e; cases e
  have sub : ∀ b o, X.s₀.heap.get? b = some o → b ∈ frs X.stack → b ∈ X.fs := fun b o e z => by
    rcases List.mem_cons.mp (I.stkSub b z) with y | y
    · exact absurd y (Nat.ne_of_lt (Nat.lt_of_lt_of_le (Heap.lt_size e) I.ok.above))
    · exact y
  refine ⟨I.ok, I.os, I.bare, ⟨fun b o e n hb he => ?_, fun b o e n hb he => ?_, I.base.free, fun b o e he => ?_, I.base.tups, I.base.frzs, I.base.tbls⟩, ?_, fun x c e => ?_, I.free, I.freeC, fun p hp => ?_, hok_but I.hok kb (fun b hb => (hl b hb).2.1) I.stkFree, I.len⟩
  · exact kb.keep b o (nl b o e) (fun z => hb (sub b o e z)) (I.base.keep b o e n hb he)
  · obtain ⟨sl, e1⟩ := I.base.slot b o e n hb he
    obtain ⟨sl2, e2⟩ := kb.slot b _ (nl b o e) e1
    exact ⟨sl2, e2⟩
  · obtain ⟨o1, e1⟩ := I.base.there b o e he
    exact kb.there b o1 e1
  · obtain ⟨m, ⟨o, es, ep, ho, r⟩, hm⟩ := I.loc
    obtain ⟨sl, e⟩ := kb.slot _ o neL ho
    refine ⟨m, ⟨_, es, ep, e, r⟩, fun i x v e1 e2 e3 => ?_⟩
    obtain ⟨u, ru, lk⟩ := hm i x v e1 e2 e3
    refine ⟨u, ru, ?_⟩
    rcases lk with lk | ⟨kk, c, ec, oc, hoc, hdc⟩
    · exact .inl lk
    · obtain ⟨sl2, e'⟩ := kb.slot c oc (neC x c ec) hoc
      exact .inr ⟨kk, c, ec, _, e', hdc⟩
  · obtain ⟨v, o, ho, hd⟩ := I.cell x c e
    obtain ⟨sl, e'⟩ := kb.slot c o (neC x c e) ho
    exact ⟨v, _, e', hd⟩
  · obtain ⟨e, n, ne, nf, d⟩ := I.pin p hp
    refine ⟨kb.keep p.1 p.2 (fun z => (hl p.1 z).2.2.1 p hp rfl) (fun z => ?_) e, n, ne, nf, d⟩
    rcases List.mem_cons.mp (I.stkSub _ z) with y | y
    · exact ne y
    · exact nf y
end
end L2

namespace L2
open PySem PySem.Spec PyProof.Rows
noncomputable def HX (H : Hp) (x : Addr) (ox : Obj) : Prop := H x = some (.frz ox (.own x)) ∧ ∃ vs, ox.data = .fields vs ∧ vs[2]? = some .none
structure RoomH (k : Nat) (A : Around) (x : Addr) : Prop where
  hd : A.handled = some (.ref x)
  dp : A.depth + 3 * k + 5 < recursionLimit
  un : A.units + 16 * k + 200 < cLine
theorem RoomH.mono {j k : Nat} {A : Around} {x : Addr} (r : RoomH k A x) (h : j ≤ k) : RoomH j A x := ⟨r.hd, by have := r.dp; omega, by have := r.un; omega⟩
theorem RoomH.deeper {k : Nat} {A : Around} {x : Addr} (r : RoomH (k + 1) A x) (env : Env) : RoomH k (A.deeper env) x :=
  ⟨r.hd, by have := r.dp; show A.depth + 1 + 3 * k + 5 < _; omega, by have := r.un; show A.units + 3 + 16 * k + 200 < _; omega⟩
theorem Room.mark {k : Nat} {A : Around} (r : Room k A) (x : Addr) : RoomH k (A.mark (some (.ref x))) x := ⟨rfl, r.dp, r.un⟩
theorem RoomH.units0 {k : Nat} {A : Around} {x : Addr} (r : RoomH k A x) : A.units < cLine := by have := r.un; omega
section
variable {P : Program} {w : World} {K : PySem.W.Frag} {mg : Str → Option Value} {base : Heap}
end
noncomputable def tCallH (x : Addr) (sp : Sp) (t : TA) : TE := fun σ H Q => t σ H fun vs H1 => (∃ ox, HX H1 x ox) ∧ sp (vs ++ []) H1 Q E0
section
variable {X : Cx} {k : Nat} {ps : List Str} {sp : Sp} {x : Str} {st : Stmt} {p pos : Pos} {e : Expr} {es : List Expr} {t : TA} {y : Addr}
end
noncomputable def ExOb (ox : Obj) (D : Addr) : Prop := ox.cls = .ref D ∧ ox.dict = none ∧ ∃ vs, ox.data = .fields vs ∧ vs[2]? = some .none
end L2

namespace L2
open PySem PySem.Spec PyProof.Rows
section
variable {prog : Program} {w : World} {A : Around} {E : Value → Shared → Prop} {s : Shared} {env : Env}
end
noncomputable def tTryR (K : PySem.W.Frag) (C : Addr) (i : Nat) (tx : XK → TE) (ts : Addr → TS) : TS := fun D σ H => tx (fun cls _ H1 => ∃ C', cls = .ref C' ∧ PySem.W.exmOne K (.ref C') (.ref C) = some true ∧
  ∀ x ox, H1 x = none → ExOb ox C' → ts x { nx := fun _ _ => False, rt := D.rt } (σ.set i (some (.ref x))) (upd H1 x (.frz ox (.own x)))) σ H D.rt
section
variable {X : Cx} {K : PySem.W.Frag} {e : Expr} {tx : XK → TE} {cn n : Str} {C : Addr} {i : Nat} {b₀ : Stmt} {suite : List Stmt} {rpos np hpos pos : Pos} {ts : Addr → TS}
end
end L2

namespace L2
open PySem
noncomputable def numUp : V → Int → Bool
  | .int i, m => decide (0 ≤ i ∧ i ≤ m)
  | _, _ => false
noncomputable def isInt : V → Bool
  | .int _ => true
  | _ => false
theorem sl1000 {n : Nat} (h : n ≤ 100000) : n ≤ sizeLine := by rw [sizeLine_eq]; omega
theorem cxK {CX : CXT} {P : Program} {w : World} {K : PySem.W.Frag} {mg : Str → Option Value} {base : Heap} {N : List Str} {qual : Str} {scope : Scope} {f : Addr} {cd : Value} {A : Around} {outer : List Env} {s : Shared} {H : Hp} {E : XK} : (cxOf CX P w K mg base N qual scope f cd A outer s H E).K = K := rfl
theorem cutTo1 (l : List Nat) : cutL l none (some 1) = l.take 1 := by
  unfold cutL
  rw [HT.sIx_none, show (some (1 : Int)) = some ((1 : Nat) : Int) from rfl, HT.sIx_nat, List.drop_zero, Nat.sub_zero]
  rcases Nat.lt_or_ge l.length 1 with h | h
  · rw [Nat.min_eq_right (by omega), List.take_of_length_le (Nat.le_refl _), List.take_of_length_le (by omega)]
  · rw [Nat.min_eq_left h]
theorem cutFrom (l : List Nat) (k : Nat) : cutL l (some (k : Int)) none = l.drop k := by
  unfold cutL
  rw [HT.sIx_none, HT.sIx_nat, List.take_of_length_le (by rw [List.length_drop]; omega)]
  rcases Nat.lt_or_ge l.length k with h | h
  · rw [Nat.min_eq_right (by omega), List.drop_of_length_le (Nat.le_refl _), List.drop_of_length_le (by omega)]
  · rw [Nat.min_eq_left h]
theorem cutFrom1 (l : List Nat) : cutL l (some 1) none = l.drop 1 := cutFrom l 1
theorem Same.set {H H' : Hp} {l : Addr} {o : HO} (e : Same H H') (h : H l = none) : Same H (L2.upd H' l o) := fun b u q => by
  rw [upd_ne (ne_of_none q h)]
  exact e b u q
theorem Same.no {H H' : Hp} (e : Same H H') {l : Addr} (h : H' l = none) : H l = none := e.free h
noncomputable def NoL (K : PySem.W.Frag) (H : Hp) (x : V) : Prop := ∃ T0, TyOf K H x (.type T0) ∧ kitB T0 "list" = some false
theorem TyOf.same {K : PySem.W.Frag} {H H' : Hp} {x : V} {T : String} (e : Same H H') (k : TyOf K H x (.type T)) : TyOf K H' x (.type T) := by
  cases k with
  | non => exact .non
  | bl b => exact .bl b
  | int i => exact .int i
  | str z => exact .str z
  | flt z => exact .flt z
  | lst h => exact .lst (e _ _ h)
  | frz h => exact .frz (e _ _ h)
  | tup h => exact .tup (e _ _ h)
  | dK h => exact .dK (e _ _ h)
  | dT h => exact .dT (e _ _ h)
theorem NoL.same {K : PySem.W.Frag} {H H' : Hp} {x : V} (e : Same H H') (k : NoL K H x) : NoL K H' x := let ⟨T, a, b⟩ := k; ⟨T, a.same e, b⟩
theorem NoL.non {K : PySem.W.Frag} {H : Hp} : NoL K H .non := ⟨_, .non, by decide +kernel⟩
theorem NoL.bl {K : PySem.W.Frag} {H : Hp} {b : Bool} : NoL K H (.bl b) := ⟨_, .bl b, by decide +kernel⟩
theorem NoL.int {K : PySem.W.Frag} {H : Hp} {i : Int} : NoL K H (.int i) := ⟨_, .int i, by decide +kernel⟩
theorem NoL.str {K : PySem.W.Frag} {H : Hp} {z : Str} : NoL K H (.str z) := ⟨_, .str z, by decide +kernel⟩
theorem NoL.tup {K : PySem.W.Frag} {H : Hp} {a : Addr} {xs : List V} (e : H a = some (.tup xs)) : NoL K H (.ref a) := ⟨_, .tup e, by decide +kernel⟩
theorem NoL.dK {K : PySem.W.Frag} {H : Hp} {a : Addr} {xs : List (Key × V)} (e : H a = some (.dK xs)) : NoL K H (.ref a) := ⟨_, .dK e, by decide +kernel⟩
theorem isi_l {K : PySem.W.Frag} {H : Hp} {a : Addr} {xs : List V} {Q : VK} (k : H a = some (.lst xs)) (q : Q (.bl true) H) : rIsi K [.ref a, .ty "list"] H Q := isi_t (.lst k) q
theorem and_m2 (a b : Nat) : (a &&& b) % 2 = (a % 2) * (b % 2) := by
  have := @Nat.and_mod_two_pow a b 1
  simp only [Nat.pow_one] at this
  rw [this]
  rcases Nat.mod_two_eq_zero_or_one a with h | h <;> rcases Nat.mod_two_eq_zero_or_one b with h' | h' <;> rw [h, h'] <;> rfl
theorem xor_m2 (a b : Nat) : (a ^^^ b) % 2 = (a % 2 + b % 2) % 2 := by
  have := @Nat.xor_mod_two_pow a b 1
  simp only [Nat.pow_one] at this
  rw [this]
  rcases Nat.mod_two_eq_zero_or_one a with h | h <;> rcases Nat.mod_two_eq_zero_or_one b with h' | h' <;> rw [h, h'] <;> rfl
theorem xor_and : ∀ a b : Nat, (a ^^^ b) + 2 * (a &&& b) = a + b := by
  intro a
  induction a using Nat.strongRecOn with
  | _ a ih =>
    intro b
    by_cases h0 : a = 0
    · subst h0; simp
    · have h := ih (a / 2) (by omega) (b / 2)
      rw [← Nat.xor_div_two, ← Nat.and_div_two] at h
      rcases Nat.mod_two_eq_zero_or_one a with ha | ha <;> rcases Nat.mod_two_eq_zero_or_one b with hb | hb
      · have m1 : (a &&& b) % 2 = 0 := by rw [and_m2, ha, hb]
        have m2 : (a ^^^ b) % 2 = 0 := by rw [xor_m2, ha, hb]
        omega
      · have m1 : (a &&& b) % 2 = 0 := by rw [and_m2, ha, hb]
        have m2 : (a ^^^ b) % 2 = 1 := by rw [xor_m2, ha, hb]
        omega
      · have m1 : (a &&& b) % 2 = 0 := by rw [and_m2, ha, hb]
        have m2 : (a ^^^ b) % 2 = 1 := by rw [xor_m2, ha, hb]
        omega
      · have m1 : (a &&& b) % 2 = 1 := by rw [and_m2, ha, hb]
        have m2 : (a ^^^ b) % 2 = 0 := by rw [xor_m2, ha, hb]
        omega
theorem bx (a b : Nat) : Builtin.bitXor (a : Int) (b : Int) = ((a ^^^ b : Nat) : Int) := by
  have h : Builtin.bitAnd (a : Int) (b : Int) = ((a &&& b : Nat) : Int) := by simp [Builtin.bitAnd]
  rw [PyProof.Rows.bitXor_and, h]
  have := xor_and a b
  omega
end L2
namespace L2
open PySem
section
variable {X : Cx} {K : PySem.W.Frag}
noncomputable def rList (K : PySem.W.Frag) : List V → Hp → VK → Prop := fun xs H Q => ∃ p ys, xs = [.ref p] ∧ (SqL K H p ys ∨ SqT K H p ys) ∧ ∀ l, H l = none → Q (.ref l) (upd H l (.lst ys))
theorem call_listK (hK : X.K = K := by rfl) : CallR X (.type "list") (rList K) := by subst hK; exact call_list_of
end
theorem listL {K : PySem.W.Frag} {H : Hp} {Q : VK} {p : Addr} {ys : List V} (h : SqL K H p ys) (q : ∀ l, H l = none → Q (.ref l) (upd H l (.lst ys))) : rList K [.ref p] H Q := ⟨p, ys, rfl, .inl h, q⟩
end L2
namespace L2
open PySem
theorem KeepSt.refl (σ : St) : KeepSt σ σ := ⟨rfl, fun _ _ h => h⟩
theorem KeepSt.two {x y : V} : KeepSt [none, none] [some x, some y] := ⟨rfl, fun i v h => by
  match i with
  | 0 => cases h
  | 1 => cases h
  | i + 2 => cases h⟩
theorem tupT {K : PySem.W.Frag} {H : Hp} {p : Addr} {x y : V} {σ : St} {Q : St → Hp → Prop} {i j : Nat} (h : H p = some (.tup [x, y])) (q : Q ((σ.set i (some x)).set j (some y)) H) : gTup K 2 (gCons (gName i) (gCons (gName j) gNil)) (.ref p) σ H Q :=
  ⟨p, [x, y], rfl, SqT.of h, rfl, x, [y], rfl, y, [], rfl, rfl, q⟩
end L2
namespace L2
open PySem
end L2
namespace L2
open PySem
end L2
namespace L2
open PySem
theorem flat_ints (l : List Int) : (l.map V.int).all flatV = true := by simp [List.all_map, flatV]
theorem neLL_same {K : PySem.W.Frag} {H : Hp} {Q : VK} {r s : Addr} {xs : List V} (h1 : H r = some (.lst xs)) (h2 : H s = some (.lst xs)) (f : xs.all flatV = true) (z : Q (.bl false) H) : rNeA K (.ref r) (.ref s) H Q :=
  neLL (SqL.of h1) (SqL.of h2) f f (by rw [eqL_self xs f]; exact z)
theorem eqLL_same {K : PySem.W.Frag} {H : Hp} {Q : VK} {r s : Addr} {xs : List V} (h1 : H r = some (.lst xs)) (h2 : H s = some (.lst xs)) (f : xs.all flatV = true) (z : Q (.bl true) H) : rEqA K (.ref r) (.ref s) H Q :=
  eqLL (SqL.of h1) (SqL.of h2) f f (by rw [eqL_self xs f]; exact z)
end L2

namespace L2
open PySem PySem.Spec PyProof.Rows
section
variable {X : Cx} {tg : Expr}
end
section
variable {X : Cx} {elts : List Expr} {x1 : Nat} {tpos : Pos}
end
end L2

namespace L2
open PySem PySem.Spec PyProof.Rows Builtin Builtin.Str
variable {X : Cx}
end L2

namespace L2
open PySem PySem.Spec PyProof.Rows
section
variable {X : Cx} {pins : List (Addr × Obj)} {σ : St} {H : Hp} {s : Shared}
end
end L2

namespace L2
open PySem
theorem comp_walkP {J : It} {xs : List V} {src : List (Option Nat)} {g : TG} {tc : TT} {te : TE} {σ : St} {H : Hp} {Q : VK} (Pv : Nat → List V → Hp → Prop) (h0 : Pv 0 [] H) (hw : Wk J xs fun H => ∃ i ys, Pv i ys H) (hz : xs.length ≤ sizeLine)
    (hs : ∀ (i : Nat) (x : V) (ys : List V) (H' : Hp) (Cy : VK) (Cn : Hp → Prop), xs[i]? = some x → Pv i ys H' → (∀ y H4, Pv (i + 1) (ys ++ [y]) H4 → Cy y H4) → (∀ H3, Pv (i + 1) ys H3 → Cn H3) →
      g x (stComp src σ) H' fun σ2 H2 => KeepSt (stComp src σ) σ2 ∧ tc σ2 H2 fun b H3 => if b = true then te σ2 H3 Cy else Cn H3)
    (hd : ∀ ys H' l, Pv xs.length ys H' → H' l = none → Q (.ref l) (upd H' l (.lst ys))) :
    ∃ W : Nat → Nat → List V → Hp → Prop, (∃ m, W 0 m [] H) ∧ ∀ i m ys H, W i m ys H →
      (J.stop i H ∧ ∀ l, H l = none → Q (.ref l) (upd H l (.lst ys))) ∨
      (J.go i H ∧ ys.length < sizeLine ∧ ∀ x H', J.yld i H x H' → g x (stComp src σ) H' fun σ2 H2 => KeepSt (stComp src σ) σ2 ∧ tc σ2 H2 fun b H3 => if b = true then te σ2 H3 fun y H4 => ∃ m', m' < m ∧ W (i + 1) m' (ys ++ [y]) H4 else ∃ m', m' < m ∧ W (i + 1) m' ys H3) := by
  refine ⟨fun i m ys H => m = xs.length - i ∧ i ≤ xs.length ∧ ys.length ≤ i ∧ Pv i ys H, ⟨xs.length, rfl, Nat.zero_le _, Nat.le_refl _, h0⟩, ?_⟩
  rintro i m ys H1 ⟨rfl, hi, hl, p⟩
  obtain ⟨g1, g2, g3⟩ := hw i H1 ⟨i, ys, p⟩
  by_cases hlt : i < xs.length
  · refine .inr ⟨g1 hlt, by omega, fun x H' y => ?_⟩
    obtain ⟨e, hx⟩ := g3 hlt x H' y
    subst e
    exact hs i x ys _ _ _ hx p (fun y' H4 p4 => ⟨xs.length - (i + 1), by omega, rfl, hlt, by rw [List.length_append]; simp; omega, p4⟩) fun H3 p3 => ⟨xs.length - (i + 1), by omega, rfl, hlt, by omega, p3⟩
  · have e : i = xs.length := by omega
    subst e
    exact .inl ⟨g2 (Nat.le_refl _), fun l hn => hd ys H1 l p hn⟩
section
variable {tc : TT} {te ta tb' td : TE} {src : List (Option Nat)} {σ : St} {H : Hp} {Q : VK} {k : Nat}
end
section
variable {tb : TS} {D : Ends} {σ : St} {H : Hp} {k : Nat}
end
end L2

namespace L2
open PySem PySem.Spec PyProof.Rows Builtin Builtin.Str
section
variable {X : Cx} {e a b o : Expr} {te ta tb to : TE} {lo hi : Option Expr} {tl th : TO} {pos p2 : Pos}
end
end L2

namespace L2
open PySem PySem.Spec PyProof.Rows
mutual
def RdD (K : PySem.W.Frag) (H : Hp) : PyData → V → Prop
  | .none, x => x = .non
  | .bool b, x => x = .bl b
  | .int i, x => x = .int i
  | .str z, x => x = .str z
  | .list ds, x => ∃ a xs, x = .ref a ∧ SqL K H a xs ∧ RdDs K H ds xs
  | .tuple ds, x => ∃ a xs, x = .ref a ∧ SqT K H a xs ∧ RdDs K H ds xs
  | .dict _, _ => False
def RdDs (K : PySem.W.Frag) (H : Hp) : List PyData → List V → Prop
  | [], xs => xs = []
  | d :: ds, xs => ∃ y ys, xs = y :: ys ∧ RdD K H d y ∧ RdDs K H ds ys
end
section
variable {X : Cx} {pins : List (Addr × Obj)} {σ : St} {H : Hp} {s : Shared}
mutual
theorem RdD.reads (I : Inv X pins σ H s) : ∀ (d : PyData) (x : V) (u : Value), RdD X.K H d x → RelV x u → ∃ as, Reads s.heap u d as
  | .none, x, u, h, r => by
    rw [RdD] at h; subst h; cases r; exact ⟨_, .none⟩
  | .bool b, x, u, h, r => by
    rw [RdD] at h; subst h; cases r; exact ⟨_, .bool b⟩
  | .int i, x, u, h, r => by
    rw [RdD] at h; subst h; obtain ⟨t, rfl⟩ := r; exact ⟨_, .int i t⟩
  | .str z, x, u, h, r => by
    rw [RdD] at h; subst h; obtain ⟨t, rfl⟩ := r; exact ⟨_, .str z t⟩
  | .list ds, x, u, h, r => by
    rw [RdD] at h
    obtain ⟨a, xs, rfl, hq, hd⟩ := h
    cases r
    obtain ⟨its, rv, pl, hz⟩ := I.list hq
    obtain ⟨as, ra⟩ := RdDs.reads I ds xs its hd rv
    obtain ⟨o, h1, h2, n, h3⟩ := pl.isList
    exact ⟨_, .list h1 h2 h3 (by simpa using ra)⟩
  | .tuple ds, x, u, h, r => by
    rw [RdD] at h
    obtain ⟨a, xs, rfl, hq, hd⟩ := h
    cases r
    obtain ⟨its, rv, pl, hz⟩ := I.tuple hq
    obtain ⟨as, ra⟩ := RdDs.reads I ds xs its hd rv
    obtain ⟨o, h1, h2, n, h3⟩ := pl
    exact ⟨_, .tuple h1 h2 h3 (by simpa using ra)⟩
  | .dict _, x, u, h, r => by rw [RdD] at h; exact h.elim
theorem RdDs.reads (I : Inv X pins σ H s) : ∀ (ds : List PyData) (xs : List V) (us : List Value), RdDs X.K H ds xs → Vals xs us → ∃ as, ReadsAll s.heap us ds as
  | [], xs, us, h, r => by
    rw [RdDs] at h; subst h; cases r; exact ⟨_, .nil⟩
  | d :: ds, xs, us, h, r => by
    rw [RdDs] at h
    obtain ⟨y, ys, rfl, h1, h2⟩ := h
    cases r with
    | cons r1 r2 =>
      obtain ⟨as, a1⟩ := RdD.reads I d y _ h1 r1
      obtain ⟨bs, a2⟩ := RdDs.reads I ds ys _ h2 r2
      exact ⟨_, .cons a1 a2⟩
end
noncomputable def rEqD (K : PySem.W.Frag) (neg : Bool) : R2 := fun x y H Q => ∃ d e, RdD K H d x ∧ RdD K H e y ∧ d.canLay0 = true ∧ e.canLay0 = true ∧ d.depth ≤ 60 ∧ Q (.bl (if neg then !PyData.eqv d e else PyData.eqv d e)) H
theorem o_eqD {K : PySem.W.Frag} (hu : X.A.units + 64 < cLine) (hK : X.K = K := by rfl) : OpR X (compareOp .Eq) (rEqD K false) := by
  subst hK
  intro pins s σ H x y v u Q I rx ry h
  obtain ⟨d, e, h1, h2, l1, l2, hd, q⟩ := h
  obtain ⟨as, r1⟩ := RdD.reads I d x v h1 rx
  obtain ⟨bs, r2⟩ := RdD.reads I e y u h2 ry
  exact SeqAt.compareEq_reads r1 r2 l1 l2 (by omega) ⟨.bl _, H, I, rfl, q⟩
theorem eqD_same {K : PySem.W.Frag} {x y : V} {Q : VK} (d : PyData) (h1 : RdD K H d x) (h2 : RdD K H d y) (l : d.canLay0 = true) (hd : d.depth ≤ 60) (q : Q (.bl true) H) : rEqD K false x y H Q :=
  ⟨d, d, h1, h2, l, l, hd, by rw [SeqAt.eqv_refl d l]; exact q⟩
theorem preSum_getD (ns : List Int) : ∀ j, preSum (fun i => ns.getD i 0) j = (ns.take j).sum
  | 0 => by simp [preSum]
  | j + 1 => by
    rw [preSum, preSum_getD ns j]
    by_cases h : j < ns.length
    · rw [List.take_succ, List.sum_append_int]
      simp [List.getD, h]
    · rw [List.take_of_length_le (by omega), List.take_of_length_le (by omega)]
      simp [List.getD, List.getElem?_eq_none (show ns.length ≤ j by omega)]
theorem sum_take_b {ns : List Int} (hb : ∀ n ∈ ns, 0 ≤ n ∧ n < 1000000) : ∀ j, 0 ≤ (ns.take j).sum ∧ (ns.take j).sum ≤ 1000000 * (min j ns.length : Nat) := by
  intro j
  induction ns generalizing j with
  | nil => simp
  | cons a ns ih =>
    cases j with
    | zero => simp
    | succ j =>
      have := ih (fun n hn => hb n (List.mem_cons_of_mem _ hn)) j
      have := hb a List.mem_cons_self
      rw [List.take_succ_cons, List.sum_cons, List.length_cons]
      omega
noncomputable def rSum (K : PySem.W.Frag) : List V → Hp → VK → Prop := fun xs H Q => ∃ (p : Addr) (ns : List Int), xs = [.ref p] ∧ SqL K H p (ns.map V.int) ∧ (∀ n ∈ ns, 0 ≤ n ∧ n < 1000000) ∧ ns.length ≤ 1000000 ∧ Q (.int ns.sum) H
theorem call_sum (hh : X.calm = true) : CallR X (.builtin "sum") (rSum X.K) := by
  intro pins s σ H xs us Q I r h
  obtain ⟨p, ns, rfl, hq, hb, hn, q⟩ := h
  obtain ⟨u, rfl, rp⟩ := vals1 r
  cases rp
  obtain ⟨its, rv, pl, hz⟩ := I.list hq
  have hlen := rv.length
  rw [List.length_map] at hlen
  have hA : X.A.in1.handled = none := I.ok.hd hh
  obtain ⟨ob, ho, hoc, hn'⟩ := id pl.isList
  have hne : p ≠ s.heap.objs.size := Nat.ne_of_lt (Heap.lt_size ho)
  refine call_sum_walk (wpAny_pyIter_list pl.isList ?_)
  refine ⟨s.heap.objs.size, _, _, _, _, _, fun i => ns.getD i 0, rfl, Walks.list hA s.heap.objs.size p hne its.toArray, ⟨⟨_, Heap.get?_push_size _ rfl, rfl, rfl⟩, ⟨ob, Heap.get?_push_of_some _ ho, hoc, hn'⟩⟩, ?_, fun i v hP => ?_, fun j hj => ?_, fun h' tk t' kk => ?_⟩
  · intro b hb'
    have h0 := Heap.lt_size ho
    simp only [List.mem_cons, List.not_mem_nil, or_false] at hb'
    show b < (s.heap.push _).objs.size
    rw [Heap.size_push]
    rcases hb' with z | z
    all_goals
      rw [z]
      first | exact Nat.lt_succ_self _ | exact Nat.lt_succ_of_lt h0
  · have hP' : its[i]? = some v := by simpa using hP
    have hi : i < ns.length := by
      have := (List.getElem?_eq_some_iff.mp hP').1
      omega
    have g : (ns.map V.int)[i]? = some (V.int ns[i]) := by simp [hi]
    obtain ⟨u, e1, q1⟩ := rv.get g
    rw [hP'] at e1
    cases e1
    have e : ns.getD i 0 = ns[i] := by simp [List.getD, hi]
    show ∃ t, v = Value.int (ns.getD i 0) t
    rw [e]
    exact q1
  · rw [List.size_toArray] at hj
    have b1 := sum_take_b hb (j + 1)
    have b2 : 0 ≤ ns.getD j 0 ∧ ns.getD j 0 < 1000000 := by
      rw [show ns.getD j 0 = ns[j]'(by omega) by simp [List.getD, show j < ns.length by omega]]
      exact hb _ (List.getElem_mem _)
    show PySem.InLong (ns.getD j 0) ∧ _
    rw [preSum_getD]
    have : (min (j + 1) ns.length : Nat) ≤ 1000000 := by omega
    exact ⟨⟨by omega, by omega⟩, ⟨by omega, by omega⟩⟩
  · have I1 : Inv X pins σ H { s with heap := h', toks := tk } := I.kept fun b o e => kk b o (by
      simp only [List.mem_singleton]
      exact Nat.ne_of_lt (Heap.lt_size e)) (Heap.get?_push_of_some _ e)
    refine ⟨.int ns.sum, H, I1, ⟨t', ?_⟩, q⟩
    rw [List.size_toArray, preSum_getD, List.take_of_length_le (by omega)]
theorem o_sum {K : PySem.W.Frag} (hh : X.calm = true := by rfl) (hK : X.K = K := by rfl) : CallR X (.builtin "sum") (rSum K) := by subst hK; exact call_sum hh
end
section
variable {X : Cx} {K : PySem.W.Frag} {e : Expr} {tx : XK → TE} {cn n : Str} {C : Addr} {i : Nat} {b₀ : Stmt} {suite : List Stmt} {rpos np hpos pos : Pos} {ts : Addr → TS}
end
end L2

namespace L2
open PySem PySem.Spec PyProof.Rows
structure MethAt (K : PySem.W.Frag) (C : Addr) (m qual : Str) (st : Stmt) (ps : List Str) where
  f : Addr
  fd : FuncData
  F : Fn K m qual st f fd
  b : Binds K fd ps []
  at_ : PySem.W.findIn K (.ref C) m = some (some (.ref f))
  fn : PySem.W.isFn K (.ref f) = true
section
variable {X : Cx} {K : PySem.W.Frag} {k : Nat} {ps : List Str} {sp : Sp} {x m qual : Str} {st : Stmt} {p pos apos : Pos} {e o value : Expr} {es : List Expr} {t : TA} {ta tv : TE} {E : XK} {C : Addr} {f : Str} {pos' : Pos}
theorem pe_fldK (he : PE X e ta) (hb : attributeBase e f X.env (eval e X.env) = eval e X.env := by rfl) (hK : X.K = K := by rfl) : PE X (.Attribute e f pos) (tFld K ta f) := by
  subst hK
  exact pe_fld he hb
theorem ps_fldK (ha : PE X o ta) (hv : PE X value tv) (hs : swapsWith value (some (.Attribute o f pos')) pos.line X.env = pure false := by rfl) (hK : X.K = K := by rfl) : PS X (.Assign [.Attribute o f pos'] value pos) (sFld K ta tv f) := by
  subst hK
  exact ps_fld ha hv hs
theorem pmk (hk : PySem.W.makesIn X.K C = true) (hp : PySem.W.keepIn X.K (.ref C) = true) (hm : X.mg x = some (.ref C)) (D : MethAt X.K C "__init__" qual st ps) (G : FnOk X.prog X.w X.K X.mg X.base CX0 k D.f D.fd ps sp) (hr : Room (k + 1) X.A) (ha : PA X (e :: es) t)
    (h : plE e = true := by rfl) (h2 : es.all plE = true := by rfl) (hg : Gl X x := by rfl) (hdb : (x == ("__debug__" : Str)) = false := by decide) : PE X (.Call (.Name x p) (e :: es) [] pos) (tMake C sp [] E0 t) :=
  pe_make ⟨hk, D.at_, D.fn, hp⟩ G hr hg hm D.b .nil pass0 ha hdb (star_cons h) (star_any h2)
theorem pmt {pl : Sem Bool} (he : PE X o ta) (c : Cls X.K C) (D : MethAt X.K C m qual st ps) (G : FnOk X.prog X.w X.K X.mg X.base CX0 k D.f D.fd ps sp) (hr : Room k X.A) (ha : PA X (e :: es) t) (h : plE e = true := by rfl) (h2 : es.all plE = true := by rfl)
    (ht : eval (.Call (.Attribute o m apos) (e :: es) [] pos) X.env = (do
      let ov ← eval o X.env
      standAt apos.atName
      let (f, first) ← holding [ov] (getMethod ov m pl)
      callWith pos f first (backTo pos (starEach (e :: es) X.env)) (backToKw pos (keywordEach [] X.env))) := by rfl) :
    PE X (.Call (.Attribute o m apos) (e :: es) [] pos) (tMeth C m sp [] E0 ta t) := pe_meth he c ⟨D.at_, D.fn, D.F.kp⟩ G hr D.b .nil pass0 ha (star_cons h) (star_any h2) ht
theorem pmt0 {pl : Sem Bool} (he : PE X o ta) (c : Cls X.K C) (D : MethAt X.K C m qual st ps) (G : FnOk X.prog X.w X.K X.mg X.base CX0 k D.f D.fd ps sp) (hr : Room k X.A)
    (ht : eval (.Call (.Attribute o m apos) [] [] pos) X.env = (do
      let ov ← eval o X.env
      standAt apos.atName
      let (f, first) ← holding [ov] (getMethod ov m pl)
      callWith pos f first (backTo pos (starEach [] X.env)) (backToKw pos (keywordEach [] X.env))) := by rfl) :
    PE X (.Call (.Attribute o m apos) [] [] pos) (tMeth C m sp [] E0 ta tNil) := pe_meth0 he c ⟨D.at_, D.fn, D.F.kp⟩ G hr D.b .nil pass0 ht
theorem PS.nox {st : Stmt} {t : TS} (h : PS X.nox st t) : PS X st t := fun pins s σ H D I hw =>
  wpAny_mono (h pins s σ H D (I.wish _) hw) (fun _ _ q => q.unwish) fun _ _ z => False.elim z
end
end L2

namespace L2
open PySem PySem.Spec PyProof.Rows
theorem Same.seqT {K : PySem.W.Frag} {H H' : Hp} {a : Addr} {xs : List V} (e : Same H H') (h : SqT K H a xs) : SqT K H' a xs := by
  rcases h with (h | ⟨o, h⟩) | h
  · exact .inl (.inl (e _ _ h))
  · exact .inl (.inr ⟨o, e _ _ h⟩)
  · exact .inr h
mutual
theorem RdD.same {K : PySem.W.Frag} {H H' : Hp} (e : Same H H') : ∀ (d : PyData) (x : V), RdD K H d x → RdD K H' d x
  | .none, x, h => by rw [RdD] at h ⊢; exact h
  | .bool b, x, h => by rw [RdD] at h ⊢; exact h
  | .int i, x, h => by rw [RdD] at h ⊢; exact h
  | .str z, x, h => by rw [RdD] at h ⊢; exact h
  | .list ds, x, h => by
    rw [RdD] at h ⊢
    obtain ⟨a, xs, rfl, hq, hd⟩ := h
    exact ⟨a, xs, rfl, e.seq hq, RdDs.same e ds xs hd⟩
  | .tuple ds, x, h => by
    rw [RdD] at h ⊢
    obtain ⟨a, xs, rfl, hq, hd⟩ := h
    exact ⟨a, xs, rfl, e.seqT hq, RdDs.same e ds xs hd⟩
  | .dict _, x, h => by rw [RdD] at h; exact h.elim
theorem RdDs.same {K : PySem.W.Frag} {H H' : Hp} (e : Same H H') : ∀ (ds : List PyData) (xs : List V), RdDs K H ds xs → RdDs K H' ds xs
  | [], xs, h => by rw [RdDs] at h ⊢; exact h
  | d :: ds, xs, h => by
    rw [RdDs] at h ⊢
    obtain ⟨y, ys, rfl, h1, h2⟩ := h
    exact ⟨y, ys, rfl, RdD.same e d y h1, RdDs.same e ds ys h2⟩
end
theorem rd_ints {K : PySem.W.Frag} {H : Hp} : ∀ ns : List Int, RdDs K H (ns.map PyData.int) (ns.map V.int)
  | [] => by rw [List.map_nil, RdDs]; rfl
  | n :: ns => by rw [List.map_cons, RdDs]; exact ⟨_, _, rfl, by rw [RdD], rd_ints ns⟩
theorem lay_ints : ∀ ns : List Int, PyData.canLayAll0 (ns.map PyData.int) = true
  | [] => rfl
  | n :: ns => by rw [List.map_cons, PyData.canLayAll0, lay_ints ns]; rfl
theorem dep_ints : ∀ ns : List Int, PyData.depthAll (ns.map PyData.int) = 0
  | [] => rfl
  | n :: ns => by rw [List.map_cons, PyData.depthAll, dep_ints ns]; rfl
section
variable {σ : St} {H : Hp} {D : Ends} {k : Nat} {tb : TS}
end
section
variable {tc : TT} {te : TE} {src : List (Option Nat)} {σ : St} {H : Hp} {Q : VK} {k : Nat}
theorem tcomp_rngP {tl : TE} (j : Int) (h1 : 0 ≤ j) (h2 : j ≤ 100000) (hte : ∀ R : VK, R (.int j) H → tl σ H R) (Pv : Nat → List V → Hp → Prop) (hsrc : src[k]? = some none) (h0 : Pv 0 [] H)
    (hs : ∀ (i : Nat) (ys : List V) (H' : Hp) (Cy : VK) (Cn : Hp → Prop), (i : Int) < j → Pv i ys H' → (∀ y H4, Pv (i + 1) (ys ++ [y]) H4 → Cy y H4) → (∀ H3, Pv (i + 1) ys H3 → Cn H3) →
      tc ((stComp src σ).set k (some (.int (i : Int)))) H' fun b H3 => if b = true then te ((stComp src σ).set k (some (.int (i : Int)))) H3 Cy else Cn H3)
    (hd : ∀ ys H' l, Pv j.toNat ys H' → H' l = none → Q (.ref l) (upd H' l (.lst ys))) : tComp src (iRng1 (tCons tl tNil)) (gName k) tc te σ H Q := by
  refine hte _ ⟨j, rfl, by omega, by omega, comp_walkP (xs := rngV 0 j.toNat) Pv h0 wk_range (by rw [rngV_length, sizeLine_eq]; omega) (fun i x ys H' Cy Cn hx p cy cn => ?_) (fun ys H' a p hn => hd ys H' a (by rw [rngV_length] at p; exact p) hn)⟩
  have hi : i < j.toNat := by
    have := (List.getElem?_eq_some_iff.mp hx).1
    rw [rngV_length] at this
    exact this
  rw [rngV_get hi] at hx
  have ex : x = V.int (i : Int) := by rw [← Option.some.inj hx, Int.zero_add]
  subst ex
  exact ⟨KeepSt.set hsrc, hs i ys H' Cy Cn (by omega) p cy cn⟩
theorem tcomp_listM {K : PySem.W.Frag} {xs : List V} {tl : TE} {g : TG} (P : Addr → Hp → Prop) (hte : ∀ R : VK, (∀ a H0, P a H0 → R (.ref a) H0) → tl σ H R) (Pv : Addr → Nat → List V → Hp → Prop) (h0 : ∀ a H0, P a H0 → Pv a 0 [] H0) (hq : ∀ a i ys H', Pv a i ys H' → SqL K H' a xs) (hz : xs.length ≤ sizeLine)
    (hs : ∀ (a : Addr) (i : Nat) (x : V) (ys : List V) (H' : Hp) (Cy : VK) (Cn : Hp → Prop), xs[i]? = some x → Pv a i ys H' → (∀ y H4, Pv a (i + 1) (ys ++ [y]) H4 → Cy y H4) → (∀ H3, Pv a (i + 1) ys H3 → Cn H3) →
      g x (stComp src σ) H' fun σ2 H2 => KeepSt (stComp src σ) σ2 ∧ tc σ2 H2 fun b H3 => if b = true then te σ2 H3 Cy else Cn H3)
    (hd : ∀ a ys H' l, Pv a xs.length ys H' → H' l = none → Q (.ref l) (upd H' l (.lst ys))) : tComp src (iList K tl) g tc te σ H Q :=
  hte _ fun a H0 p => ⟨a, rfl, ⟨xs, hq a 0 [] H0 (h0 a H0 p)⟩, comp_walkP (xs := xs) (Pv a) (h0 a H0 p) (wk_list fun H' ⟨i, ys, z⟩ => hq a i ys H' z) hz (fun i x ys H' Cy Cn hx p cy cn => hs a i x ys H' Cy Cn hx p cy cn) (hd a)⟩
end
theorem tSeq_gen {t u : TS} {D : Ends} {σ : St} {H : Hp} (h : ∀ B : TS, B = u → tSeq t B D σ H) : tSeq t u D σ H := h u rfl
end L2

namespace L2
open PySem PySem.Spec PyProof.Rows
theorem vals_of_strs : ∀ {vs : List Value} {ss : List Str}, StrsAre vs ss → Vals (ss.map V.str) vs
  | _, _, .nil => .nil
  | _, _, .cons x t r => .cons ⟨t, rfl⟩ (vals_of_strs r)
theorem rising_pw : ∀ (l : List Str) (p : Str), risingS p l = true → (p :: l).Pairwise (fun a b => a.cps.toList ≤ b.cps.toList)
  | [], p, _ => by simp
  | x :: r, p, h => by
    have h' : (!ltCps x.cps.toList p.cps.toList && risingS x r) = true := h
    rw [Bool.and_eq_true, Bool.not_eq_true', ltCps_eq, decide_eq_false_iff_not] at h'
    have ih := rising_pw r x h'.2
    refine List.pairwise_cons.mpr ⟨fun y hy => ?_, ih⟩
    have hx : p.cps.toList ≤ x.cps.toList := h'.1
    rcases List.mem_cons.mp hy with z | z
    · rw [z]; exact hx
    · exact List.le_trans hx ((List.pairwise_cons.mp ih).1 y z)
theorem sorted_pw {l : List Str} (h : sortedS l = true) : l.Pairwise (fun a b => a.cps.toList ≤ b.cps.toList) := by
  cases l with
  | nil => exact .nil
  | cons x r => exact rising_pw r x h
theorem sorted_same {a b : List Str} (hp : a.Perm b) (ha : sortedS a = true) (hb : sortedS b = true) : a = b :=
  List.Perm.eq_of_pairwise (fun x y _ _ h1 h2 => by
    have := List.le_antisymm h1 h2
    cases x; cases y
    congr 1
    exact Array.toList_inj.mp this) (sorted_pw ha) (sorted_pw hb) hp
section
variable {X : Cx}
noncomputable def rSortS (K : PySem.W.Frag) : List V → Hp → VK → Prop := fun xs H Q => ∃ (p : Addr) (ss : List Str), xs = [.ref p] ∧ SqL K H p (ss.map V.str) ∧ ss.length < 64 ∧ ∀ l ss', H l = none → ss'.Perm ss → sortedS ss' = true → Q (.ref l) (upd H l (.lst (ss'.map V.str)))
theorem o_sorted {K : PySem.W.Frag} (hK : X.K = K := by rfl) : CallR X (.builtin "sorted") (rSortS K) := by
  subst hK
  intro pins s σ H xs us Q I r h
  obtain ⟨p, ss, rfl, hq, hn, q⟩ := h
  obtain ⟨u, rfl, rp⟩ := vals1 r
  cases rp
  obtain ⟨its, rv, pl, hz⟩ := I.list hq
  have hlen := rv.length
  rw [List.length_map] at hlen
  refine sorted_strs pl.isList (strsAre_of rv) (by omega) fun out ss' a1 a2 a3 => ?_
  obtain ⟨e, he⟩ := sortedAll_at s.heap its out
  have hf : H (s.heap.objs.size + 1) = none := I.hok.fresh (Nat.le_succ _)
  have hl' := a2.length_eq
  refine ⟨.ref (s.heap.objs.size + 1), upd H (s.heap.objs.size + 1) (.lst (ss'.map V.str)), I.laid (t' := s.toks) (fun b u e => sortedAll_old e) (Nat.le_succ _) ?_, rfl, q _ _ hf a2 a3⟩
  exact ⟨by rw [List.length_map, sizeLine_eq]; omega, out.toList, e, vals_of_strs a1, by simpa using he⟩
end
end L2

namespace PySem.SeqAt
open AutoSeq1 (wpAny_loadPart')
open MeetsSeq MeetsSeq2 MeetsSeq3 SeqRoads2
theorem tuple_index2 (l : Addr) (y0 y1 x : Value) (n : Nat) (dd : Option Addr) (sl : Array (Option Value)) (e0 e1 : Bool) (h0 : EqGives y0 x e0) (h1 : EqGives y1 x e1) (hj : e0 = true ∨ e1 = true) :
    Meets (Builtin.«tuple.index» ⟨[.ref l, x], []⟩)
      (fun A R s => s.heap.get? l = some { cls := .type "tuple", dict := dd, data := .seq #[y0, y1] n, slots := sl } ∧ R (.ok (.ret (.int (if e0 then 0 else 1) s.toks))) { s with toks := s.toks + 1 }) := by
  intro prog w A R s h
  obtain ⟨hp, g, d, tk, os⟩ := s; obtain ⟨hl, h⟩ := h
  wp_walk using wpAny_loadPart' hl
  refine (show wpAny _ _ (forIn (m := Sem) ([:min #[y0, y1].size #[y0, y1].size] : Std.Legacy.Range) (none, ()) (fun (i : Nat) (__s : Option _ × Unit) => match #[y0, y1][i]? with
            | some y => do
              let __do_lift ← eqBool y x
              if __do_lift = true then do
                  let __do_lift ← retInt ↑i
                  pure (ForInStep.done (some __do_lift, ()))
                else pure (ForInStep.yield (none, ()))
            | x => pure (ForInStep.yield (none, ())))) _ _ _ from ?_)
  rw [Std.Legacy.Range.forIn_eq_forIn_range']
  have hr : List.range' ([:min #[y0, y1].size #[y0, y1].size] : Std.Legacy.Range).start ([:min #[y0, y1].size #[y0, y1].size] : Std.Legacy.Range).size ([:min #[y0, y1].size #[y0, y1].size] : Std.Legacy.Range).step = [0, 1] := by simp [Std.Legacy.Range.size, List.range']
  rw [hr, List.forIn_cons]
  refine wpAny_bind ?_
  show wpAny _ _ (do
              let __do_lift ← eqBool y0 x
              if __do_lift = true then do
                  let __do_lift ← retInt 0
                  pure (ForInStep.done (some __do_lift, ()))
                else pure (ForInStep.yield (none, ()))) _ _ _
  refine wpAny_bind (h0 prog w _ _ _ _ ?_)
  cases e0 with
  | true =>
    wp_walk
    exact h
  | false =>
    refine wpAny_pure ?_
    dsimp only
    rw [List.forIn_cons]
    refine wpAny_bind ?_
    show wpAny _ _ (do
              let __do_lift ← eqBool y1 x
              if __do_lift = true then do
                  let __do_lift ← retInt 1
                  pure (ForInStep.done (some __do_lift, ()))
                else pure (ForInStep.yield (none, ()))) _ _ _
    refine wpAny_bind (h1 prog w _ _ _ _ ?_)
    rcases hj with z | z
    · cases z
    subst z
    wp_walk
    exact h
end PySem.SeqAt
namespace L2
open PySem PySem.Spec PyProof.Rows
noncomputable def tDead : TS := fun _ _ _ => False
theorem ps_dead {X : Cx} {st : Stmt} : PS X st tDead := by
  intro pins s σ H D I hw
  exact hw.elim
noncomputable def CShl (i j : Int) : Prop := 0 ≤ j ∧ (Builtin.Int.intBits i : Int) + j ≤ 2 ^ 27
section
variable {X : Cx}
theorem o_shl : OpR X (binaryOp .LShift) (rI CShl fun i j => .int (i * 2 ^ j.toNat)) := opI fun _ _ _ _ _ _ _ hc q => lshift_int hc.1 hc.2 q
theorem o_extend : MtR X "list.extend" rExtend := mt_extend
theorem o_clear : MtR X "list.clear" rClear := mt_clear
theorem pm0 {K : PySem.W.Frag} {T id : String} {o : Expr} {to : TE} {name : Str} {apos cpos : Pos} {r : V → List V → Hp → VK → Prop} (pa : PlainAttrs T) (slot : Slot T name id) (hty : typeOf (.builtin id) = pure (.type "method_descriptor")) (hm : MtR X id r) (ho : PE X o to) (hK : X.K = K := by rfl)
    (hbase : attributeBase o name X.env (eval o X.env) = eval o X.env := by rfl) (hline : (apos.endLine == cpos.line) = true := by rfl) : PE X (.Call (.Attribute o name apos) [] [] cpos) (tBM0 K T r to) := by
  subst hK
  exact pe_bm0 pa slot hty hm ho hbase hline
noncomputable def KTup (K : PySem.W.Frag) (a : Addr) (xs : List V) : Prop := ∃ (o : Obj) (its : Array Value) (n : Nat), K.lookup a = some o ∧ o.cls = .type "tuple" ∧ o.dict = none ∧ o.data = .seq its n ∧ its.size ≤ sizeLine ∧ Vals xs its.toList
theorem KTup.sq {K : PySem.W.Frag} {a : Addr} {xs : List V} (h : KTup K a xs) {H : Hp} : SqT K H a xs := let ⟨o, its, n, h1, h2, _, h4⟩ := h; .inr ⟨o, its, n, h1, h2, h4⟩
theorem KTup.ty {K : PySem.W.Frag} {a : Addr} {xs : List V} (h : KTup K a xs) {H : Hp} : tyV K "tuple" (.ref a) H := let ⟨o, _, _, h1, h2, h3, _⟩ := h; .inr (.inl ⟨rfl, o, h1, h2, h3⟩)
noncomputable def rTIndex (K : PySem.W.Frag) : V → List V → Hp → VK → Prop := fun x xs H Q => ∃ (p : Addr) (y z w : Str), x = .ref p ∧ xs = [.str w] ∧ SqT K H p [.str y, .str z] ∧ ((w = y ∧ Q (.int 0) H) ∨ (w ≠ y ∧ w = z ∧ Q (.int 1) H))
theorem str_ne {y w : Str} (h : w ≠ y) : (y.cps.toList == w.cps.toList) = false := by
  cases hb : (y.cps.toList == w.cps.toList) with
  | false => rfl
  | true =>
    exfalso
    apply h
    have h1 := eq_of_beq hb
    cases y
    cases w
    congr 1
    exact (Array.toList_inj.mp h1).symm
theorem o_tindex {K : PySem.W.Frag} (hK : X.K = K := by rfl) : MtR X "tuple.index" (rTIndex K) := by
  subst hK
  intro pins s σ H x xs v us Q I rx rs h
  obtain ⟨p, y, z, w, rfl, rfl, hq, h⟩ := h
  cases rx
  obtain ⟨u, rfl, t, rfl⟩ := vals1 rs
  obtain ⟨its, rv, ⟨o, ho, hc, n, hd⟩, hz⟩ := I.tuple hq
  obtain ⟨t1, t2, rfl⟩ : ∃ t1 t2, its = [.str y t1, .str z t2] := by
    cases rv with
    | cons r1 rv =>
      cases rv with
      | cons r2 rv =>
        cases rv
        obtain ⟨t1, rfl⟩ := r1
        obtain ⟨t2, rfl⟩ := r2
        exact ⟨t1, t2, rfl⟩
  obtain ⟨cls, dd, data, sl⟩ := o
  simp only at hc hd
  subst hc hd
  have e0 := SeqRoads2.EqGives.str y w t1 t
  have e1 := SeqRoads2.EqGives.str z w t2 t
  rcases h with ⟨rfl, q⟩ | ⟨hne, rfl, q⟩
  · rw [beq_self_eq_true] at e0
    refine call_meets F.slot_tuple_index ⟨_, ho, rfl⟩ F.entry_tuple_index (F.args_tuple_index_2 _ _) (SeqAt.tuple_index2 p _ _ _ n dd sl _ _ e0 e1 (.inl rfl)) ⟨ho, ?_⟩
    exact ⟨.int 0, H, I.tok _, ⟨_, rfl⟩, q⟩
  · rw [str_ne hne] at e0
    rw [beq_self_eq_true] at e1
    refine call_meets F.slot_tuple_index ⟨_, ho, rfl⟩ F.entry_tuple_index (F.args_tuple_index_2 _ _) (SeqAt.tuple_index2 p _ _ _ n dd sl _ _ e0 e1 (.inr rfl)) ⟨ho, ?_⟩
    exact ⟨.int 1, H, I.tok _, ⟨_, rfl⟩, q⟩
end
section
variable {tb : TS} {D : Ends} {σ : St} {H : Hp}
theorem tfor_listG {K : PySem.W.Frag} {g : TG} {a : Addr} {xs : List V} {te : TE} (hte : ∀ R : VK, R (.ref a) H → te σ H R) (hq : SqL K H a xs) (Pv : Nat → St → Hp → Prop) (h0 : Pv 0 σ H) (hl : ∀ i σ H, Pv i σ H → SqL K H a xs)
    (hs : ∀ (i : Nat) (x : V) (σ : St) (H : Hp), xs[i]? = some x → Pv i σ H → g x σ H fun σ2 H2 => tb { D with nx := Pv (i + 1), ct := Pv (i + 1), bk := D.nx } σ2 H2) (hd : ∀ σ H, Pv xs.length σ H → D.nx σ H) :
    tFor (iList K te) g tb D σ H :=
  hte _ ⟨a, rfl, ⟨xs, hq⟩, for_walk (xs := xs) Pv h0 (wk_list fun H ⟨i, σ, p⟩ => hl i σ H p) (fun i x σ H hx p => hs i x σ H hx p) hd⟩
end
section
variable {tc : TT} {te : TE} {src : List (Option Nat)} {σ : St} {H : Hp} {Q : VK} {k : Nat}
theorem tcomp_rngM {tl : TE} (j : Int) (h1 : 0 ≤ j) (h2 : j ≤ 100000) (P : Hp → Prop) (hte : ∀ R : VK, (∀ H0, P H0 → R (.int j) H0) → tl σ H R) (Pv : Nat → List V → Hp → Prop) (hsrc : src[k]? = some none) (h0 : ∀ H0, P H0 → Pv 0 [] H0)
    (hs : ∀ (i : Nat) (ys : List V) (H' : Hp) (Cy : VK) (Cn : Hp → Prop), (i : Int) < j → Pv i ys H' → (∀ y H4, Pv (i + 1) (ys ++ [y]) H4 → Cy y H4) → (∀ H3, Pv (i + 1) ys H3 → Cn H3) →
      tc ((stComp src σ).set k (some (.int (i : Int)))) H' fun b H3 => if b = true then te ((stComp src σ).set k (some (.int (i : Int)))) H3 Cy else Cn H3)
    (hd : ∀ ys H' l, Pv j.toNat ys H' → H' l = none → Q (.ref l) (upd H' l (.lst ys))) : tComp src (iRng1 (tCons tl tNil)) (gName k) tc te σ H Q := by
  refine hte _ fun H0 p0 => ⟨j, rfl, by omega, by omega, comp_walkP (xs := rngV 0 j.toNat) Pv (h0 H0 p0) wk_range (by rw [rngV_length, sizeLine_eq]; omega) (fun i x ys H' Cy Cn hx p cy cn => ?_) (fun ys H' a p hn => hd ys H' a (by rw [rngV_length] at p; exact p) hn)⟩
  have hi : i < j.toNat := by
    have := (List.getElem?_eq_some_iff.mp hx).1
    rw [rngV_length] at this
    exact this
  rw [rngV_get hi] at hx
  have ex : x = V.int (i : Int) := by rw [← Option.some.inj hx, Int.zero_add]
  subst ex
  exact ⟨KeepSt.set hsrc, hs i ys H' Cy Cn (by omega) p cy cn⟩
end
theorem putF_putF (f : Str) (v w : V) : ∀ fs : List (Str × V), putF f v (putF f w fs) = putF f v fs
  | [] => by simp [putF]
  | (g, x) :: r => by
    by_cases h : g = f
    · simp [putF, h]
    · simp [putF, h, putF_putF f v w r]
noncomputable def Stp (p : Addr) (H H' : Hp) : Prop := (∀ a o, H a = some o → a ≠ p → H' a = some o) ∧ ∀ a, H' a = none → H a = none
theorem Stp.refl (p : Addr) (H : Hp) : Stp p H H := ⟨fun _ _ h _ => h, fun _ h => h⟩
theorem Stp.trans {p : Addr} {H H' H'' : Hp} (h : Stp p H H') (h' : Stp p H' H'') : Stp p H H'' := ⟨fun a o e n => h'.1 a o (h.1 a o e n) n, fun a e => h.2 a (h'.2 a e)⟩
theorem Stp.new {p l : Addr} {H H' : Hp} {o : HO} (h : Stp p H H') (n : H' l = none) : Stp p H (upd H' l o) := h.trans ⟨fun a u e _ => by
  rw [upd_ne (fun z => by rw [z, n] at e; cases e)]
  exact e, fun a e => by
  by_cases z : a = l
  · rw [z]; exact n
  · rw [upd_ne z] at e; exact e⟩
theorem Stp.own {p : Addr} {H H' : Hp} {o u : HO} (h : Stp p H H') (n : H' p = some u) : Stp p H (upd H' p o) := h.trans ⟨fun a u e z => by rw [upd_ne z]; exact e, fun a e => by
  by_cases z : a = p
  · rw [z, upd_same] at e; cases e
  · rw [upd_ne z] at e; exact e⟩
theorem Stp.same {p : Addr} {H0 H H' : Hp} (s : Same H0 H) (n : H0 p = none) (h : Stp p H H') : Same H0 H' := fun a o e => h.1 a o (s a o e) (fun z => by rw [z, n] at e; cases e)
theorem Stp.of {p : Addr} {H H' : Hp} (s : Same H H') : Stp p H H' := ⟨fun a o e _ => s a o e, fun a e => s.no e⟩
end L2

namespace Crc
noncomputable abbrev W := BitVec 16
noncomputable def pol : W := 4129#16
noncomputable def S (x : W) : W := (x <<< 1) ^^^ (if x.msb then pol else 0#16)
theorem S_lin (x y : W) : S (x ^^^ y) = S x ^^^ S y := by
  unfold S
  rw [BitVec.shiftLeft_xor_distrib, BitVec.msb_xor]
  cases x.msb <;> cases y.msb <;> simp
  · rw [BitVec.xor_assoc]
  · rw [BitVec.xor_assoc, BitVec.xor_assoc, BitVec.xor_comm pol]
  · rw [BitVec.xor_assoc (x <<< 1) pol, BitVec.xor_comm pol, BitVec.xor_assoc, BitVec.xor_self, BitVec.xor_zero]
theorem S_low {x : W} (h : x.msb = false) : S x = x <<< 1 := by
  unfold S
  simp [h]
noncomputable def top (b : Bool) : W := if b then 32768#16 else 0#16
theorem top_msb (b : Bool) : (top b).msb = b := by cases b <;> decide
noncomputable def rd (c : W) (b : Bool) : W := S (c ^^^ top b)
noncomputable def run (c : W) (bs : List Bool) : W := bs.foldl rd c
theorem run_app (c : W) (a b : List Bool) : run c (a ++ b) = run (run c a) b := List.foldl_append ..
noncomputable def wd : List Bool → W
  | [] => 0#16
  | b :: bs => top b ^^^ (wd bs >>> 1)
theorem wd_cons (b : Bool) (bs : List Bool) : wd (b :: bs) = top b ^^^ (wd bs >>> 1) := rfl
theorem wd_low : ∀ (bs : List Bool) (j : Nat), j + bs.length < 16 → (wd bs).getLsbD j = false
  | [], j, _ => by simp [wd]
  | b :: bs, j, h => by
    simp only [List.length_cons] at h
    unfold wd
    rw [BitVec.getLsbD_xor, BitVec.getLsbD_ushiftRight, wd_low bs (1 + j) (by omega)]
    have : (top b).getLsbD j = false := by
      unfold top
      cases b with
      | false => simp
      | true =>
        have hj : j < 15 := by omega
        have key : ∀ j : Nat, j < 15 → (32768#16).getLsbD j = false := by decide
        simpa using key j hj
    rw [this]
    rfl
theorem shr_shl {x : W} (h : x.getLsbD 0 = false) : (x >>> 1) <<< 1 = x := by
  apply BitVec.eq_of_getLsbD_eq
  intro i hi
  rw [BitVec.getLsbD_shiftLeft, BitVec.getLsbD_ushiftRight]
  by_cases h0 : i = 0
  · subst h0
    rw [h]
    rfl
  · have : 1 + (i - 1) = i := by omega
    rw [this]
    have a : decide (i < 16) = true := by simpa using hi
    have b : decide (i < 1) = false := by simp; omega
    rw [a, b]
    simp
theorem shr_msb (x : W) : (x >>> 1).msb = false := by
  rw [BitVec.msb_eq_getLsbD_last, BitVec.getLsbD_ushiftRight]
  simp
noncomputable def Sn : Nat → W → W
  | 0, x => x
  | n + 1, x => Sn n (S x)
theorem run_wd : ∀ (bs : List Bool) (c : W), bs.length ≤ 16 → run c bs = Sn bs.length (c ^^^ wd bs)
  | [], c, _ => by simp [run, Sn, wd]
  | b :: bs, c, h => by
    simp only [List.length_cons] at h
    show run (rd c b) bs = Sn bs.length (S (c ^^^ wd (b :: bs)))
    rw [run_wd bs _ (by omega)]
    congr 1
    unfold rd
    rw [wd_cons, ← BitVec.xor_assoc, S_lin (c ^^^ top b), S_low (shr_msb _), shr_shl (wd_low bs 0 (by omega))]
noncomputable def bits (n : Int) : List Bool := [decide (n / 128 % 2 = 1), decide (n / 64 % 2 = 1), decide (n / 32 % 2 = 1), decide (n / 16 % 2 = 1), decide (n / 8 % 2 = 1), decide (n / 4 % 2 = 1), decide (n / 2 % 2 = 1), decide (n % 2 = 1)]
noncomputable def bitsL (l : List Int) : List Bool := l.flatMap bits
theorem bits_len (n : Int) : (bits n).length = 8 := rfl
theorem bitsL_len (l : List Int) : (bitsL l).length = 8 * l.length := by
  induction l with
  | nil => rfl
  | cons a l ih =>
    show (bits a ++ bitsL l).length = _
    rw [List.length_append, ih, bits_len, List.length_cons]
    omega
noncomputable def hi (n : Int) : W := BitVec.ofNat 16 (n.toNat * 256)
theorem hi_wd8 : ∀ n : Nat, n < 256 → hi n = wd (bits n) := by decide +kernel
theorem hi_wd {n : Int} (h0 : 0 ≤ n) (h1 : n < 256) : hi n = wd (bits n) := by
  obtain ⟨k, rfl⟩ : ∃ k : Nat, n = k := ⟨n.toNat, by omega⟩
  exact hi_wd8 k (by omega)
theorem byte_run {n : Int} (c : W) (h0 : 0 ≤ n) (h1 : n < 256) : Sn 8 (c ^^^ hi n) = run c (bits n) := by
  rw [run_wd (bits n) c (by rw [bits_len]; omega), hi_wd h0 h1]
  rfl
noncomputable def crc (l : List Int) : W := run 65535#16 (bitsL l)
theorem crc_snoc (l : List Int) (n : Int) : crc (l ++ [n]) = run (crc l) (bits n) := by
  unfold crc
  rw [show bitsL (l ++ [n]) = bitsL l ++ bits n by simp [bitsL], run_app]
end Crc

namespace Crc
theorem S_toNat (x : W) : (S x).toNat = if x.toNat * 2 < 65536 then x.toNat * 2 else (x.toNat * 2 - 65536) ^^^ 4129 := by
  have hx := x.isLt
  unfold S
  rw [BitVec.toNat_xor, BitVec.toNat_shiftLeft, BitVec.msb_eq_decide, Nat.shiftLeft_eq]
  by_cases h : x.toNat * 2 < 65536
  · rw [if_pos h]
    have : decide (2 ^ (16 - 1) ≤ x.toNat) = false := by simp; omega
    rw [this, Nat.mod_eq_of_lt (by omega)]
    simp
  · rw [if_neg h]
    have : decide (2 ^ (16 - 1) ≤ x.toNat) = true := by simp; omega
    rw [this, show x.toNat * 2 ^ 1 % 2 ^ 16 = x.toNat * 2 - 65536 by omega]
    simp [pol]
theorem rd_toNat (x : W) (b : Bool) : (rd x b).toNat = if (x.toNat / 32768 + (if b then 1 else 0)) % 2 = 1 then (x.toNat * 2 % 65536) ^^^ 4129 else x.toNat * 2 % 65536 := by
  have hx := x.isLt
  have e : rd x b = (x <<< 1) ^^^ (if (x.msb != b) then pol else 0#16) := by
    unfold rd S
    rw [BitVec.shiftLeft_xor_distrib, BitVec.msb_xor, top_msb]
    have : top b <<< 1 = 0#16 := by cases b <;> decide
    rw [this, BitVec.xor_zero]
  rw [e, BitVec.toNat_xor, BitVec.toNat_shiftLeft, BitVec.msb_eq_decide, Nat.shiftLeft_eq]
  have e2 : x.toNat * 2 ^ 1 % 2 ^ 16 = x.toNat * 2 % 65536 := by omega
  rw [e2]
  by_cases h : 32768 ≤ x.toNat
  · have a : decide (2 ^ (16 - 1) ≤ x.toNat) = true := by simp; omega
    have d : x.toNat / 32768 = 1 := by omega
    rw [a, d]
    cases b <;> simp [pol]
  · have a : decide (2 ^ (16 - 1) ≤ x.toNat) = false := by simp; omega
    have d : x.toNat / 32768 = 0 := by omega
    rw [a, d]
    cases b <;> simp [pol]
theorem hi_toNat (x : W) {n : Int} (h0 : 0 ≤ n) (h1 : n < 256) : (x ^^^ hi n).toNat = x.toNat ^^^ (n * 256).toNat := by
  rw [BitVec.toNat_xor]
  congr 1
  unfold hi
  rw [BitVec.toNat_ofNat, Nat.mod_eq_of_lt (by omega)]
  omega
noncomputable def IsB (l : List Int) : Prop := ∀ n ∈ l, 0 ≤ n ∧ n < 256
end Crc

namespace Crc
noncomputable def vN (l : List Bool) : Nat := l.foldl (fun n b => 2 * n + b.toNat) 0
theorem vN_from (l : List Bool) : ∀ a : Nat, l.foldl (fun n b => 2 * n + b.toNat) a = a * 2 ^ l.length + vN l := by
  induction l with
  | nil => intro a; simp [vN]
  | cons b l ih =>
    intro a
    have e : vN (b :: l) = b.toNat * 2 ^ l.length + vN l := by
      show l.foldl _ (2 * 0 + b.toNat) = _
      rw [ih]
      simp
    rw [e, List.foldl_cons, ih, List.length_cons, Nat.pow_succ, Nat.add_mul]
    rw [show 2 * a * 2 ^ l.length = a * (2 ^ l.length * 2) by rw [Nat.mul_comm 2 a, Nat.mul_assoc, Nat.mul_comm 2]]
    omega
theorem vN_cons (b : Bool) (l : List Bool) : vN (b :: l) = b.toNat * 2 ^ l.length + vN l := by
  have := vN_from l (2 * 0 + b.toNat)
  show l.foldl _ (2 * 0 + b.toNat) = _
  rw [this]
  simp
theorem vN_app (a b : List Bool) : vN (a ++ b) = vN a * 2 ^ b.length + vN b := by
  unfold vN
  rw [List.foldl_append, vN_from b]
  rfl
theorem vN_lt : ∀ l : List Bool, vN l < 2 ^ l.length
  | [] => by simp [vN]
  | b :: l => by
    have := vN_lt l
    rw [vN_cons, List.length_cons, Nat.pow_succ]
    cases b <;> simp <;> omega
theorem addx {a n m : Nat} (h : n < 2 ^ m) : a * 2 ^ m + n = (a <<< m) ^^^ n := by
  rw [Nat.shiftLeft_eq, Nat.mul_comm, Nat.two_pow_add_eq_or_of_lt h]
  apply Nat.eq_of_testBit_eq
  intro i
  rw [Nat.testBit_or, Nat.testBit_xor, Nat.testBit_two_pow_mul]
  by_cases hi : m ≤ i
  · have : n.testBit i = false := Nat.testBit_lt_two_pow (Nat.lt_of_lt_of_le h (Nat.pow_le_pow_right (by decide) hi))
    rw [this]; simp
  · simp [hi]
theorem low17 (x : Nat) (hx : x < 65536) : x <<< 1 = ((x / 32768) <<< 16) ^^^ (x * 2 % 65536) := by
  rw [← addx (show x * 2 % 65536 < 2 ^ 16 by omega), Nat.shiftLeft_eq]
  omega
theorem tx2 : ∀ (d : Nat), d < 2 → ∀ b : Bool, (d ^^^ b.toNat) = (d + (if b = true then 1 else 0)) % 2 ∧ (d + (if b = true then 1 else 0)) % 2 < 2 := by decide
theorem div_step (x : W) (b : Bool) (r : List Bool) :
    ((rd x b).toNat <<< r.length) ^^^ (vN r <<< 16) =
      if (((x.toNat <<< (r.length + 1)) ^^^ (vN (b :: r) <<< 16)) >>> (r.length + 16)) % 2 = 1 then ((x.toNat <<< (r.length + 1)) ^^^ (vN (b :: r) <<< 16)) ^^^ (69665 <<< r.length) else (x.toNat <<< (r.length + 1)) ^^^ (vN (b :: r) <<< 16) := by
  have hx := x.isLt
  have hN := vN_lt r
  rw [vN_cons, addx hN, rd_toNat]
  generalize r.length = m at hN ⊢
  generalize vN r = N at hN ⊢
  generalize hlow : x.toNat * 2 % 65536 = low
  have e1 : x.toNat <<< (m + 1) = (x.toNat <<< 1) <<< m := by rw [← Nat.shiftLeft_add, Nat.add_comm]
  have ex := low17 x.toNat hx
  rw [hlow] at ex
  have hA : (x.toNat <<< (m + 1)) ^^^ (((b.toNat <<< m) ^^^ N) <<< 16) = ((((x.toNat / 32768) ^^^ b.toNat) <<< 16 ^^^ low) <<< m) ^^^ (N <<< 16) := by
    rw [e1, ex, Nat.shiftLeft_xor_distrib, Nat.shiftLeft_xor_distrib, Nat.shiftLeft_xor_distrib, Nat.shiftLeft_xor_distrib, Nat.shiftLeft_xor_distrib]
    rw [show (b.toNat <<< m) <<< 16 = (b.toNat <<< 16) <<< m by rw [← Nat.shiftLeft_add, ← Nat.shiftLeft_add, Nat.add_comm]]
    simp only [Nat.xor_assoc]
    congr 1
    rw [← Nat.xor_assoc, ← Nat.xor_assoc, Nat.xor_comm (low <<< m)]
  rw [hA]
  have hlt : low < 2 ^ 16 := by omega
  have hd : x.toNat / 32768 < 2 := by omega
  have hN2 : N <<< 16 < 2 ^ (m + 16) := by
    rw [Nat.shiftLeft_eq, Nat.pow_add]
    exact Nat.mul_lt_mul_of_pos_right hN (by decide)
  have sh : ∀ t : Nat, t < 2 → (((t <<< 16 ^^^ low) <<< m) ^^^ (N <<< 16)) >>> (m + 16) = t := by
    intro t ht
    rw [Nat.shiftRight_xor_distrib, Nat.shiftRight_eq_div_pow (N <<< 16), Nat.div_eq_of_lt hN2, Nat.xor_zero, Nat.shiftRight_add, Nat.shiftLeft_shiftRight, ← addx hlt, Nat.shiftRight_eq_div_pow]
    omega
  obtain ⟨tx, ht⟩ := tx2 (x.toNat / 32768) hd b
  rw [tx]
  generalize (x.toNat / 32768 + (if b = true then 1 else 0)) % 2 = t at ht ⊢
  rw [sh t ht]
  match t, ht with
  | 0, _ => simp
  | 1, _ =>
    rw [if_pos rfl, if_pos rfl, show (69665 : Nat) = (1 <<< 16) ^^^ 4129 from rfl]
    simp only [Nat.shiftLeft_xor_distrib]
    apply Nat.eq_of_testBit_eq
    intro i
    simp only [Nat.testBit_xor]
    cases Nat.testBit (1 <<< 16 <<< m) i <;> cases Nat.testBit (low <<< m) i <;> cases Nat.testBit (4129 <<< m) i <;> cases Nat.testBit (N <<< 16) i <;> rfl
noncomputable def gn (l : List Bool) (k : Nat) : Nat := ((run 65535#16 (l.take k)).toNat <<< (l.length - k)) ^^^ (vN (l.drop k) <<< 16)
theorem gn_zero (l : List Bool) : gn l 0 = (vN l <<< 16) ^^^ (65535 <<< l.length) := by
  unfold gn
  rw [List.take_zero, List.drop_zero, Nat.sub_zero, Nat.xor_comm]
  rfl
theorem gn_end (l : List Bool) : gn l l.length = (run 65535#16 l).toNat := by
  unfold gn
  rw [List.take_length, List.drop_length, Nat.sub_self]
  simp [vN]
theorem gn_step (l : List Bool) {k : Nat} (h : k < l.length) : gn l (k + 1) = if (gn l k >>> (l.length + 15 - k)) % 2 = 1 then gn l k ^^^ (69665 <<< (l.length - 1 - k)) else gn l k := by
  have hd : l.drop k = l[k] :: l.drop (k + 1) := List.drop_eq_getElem_cons h
  have ht : l.take (k + 1) = l.take k ++ [l[k]] := by rw [List.take_add_one, List.getElem?_eq_getElem h]; rfl
  have hl : (l.drop (k + 1)).length = l.length - (k + 1) := List.length_drop
  have := div_step (run 65535#16 (l.take k)) l[k] (l.drop (k + 1))
  unfold gn
  rw [ht, run_app, hd]
  rw [hl] at this
  rw [show l.length - k = l.length - (k + 1) + 1 by omega, show l.length + 15 - k = l.length - (k + 1) + 16 by omega, show l.length - 1 - k = l.length - (k + 1) by omega]
  exact this
noncomputable def numN (ns : List Int) : Nat := vN (bitsL ns)
theorem vN8 : ∀ n : Nat, n < 256 → vN (bits n) = n := by decide +kernel
theorem numN_snoc (ns : List Int) {n : Int} (h0 : 0 ≤ n) (h1 : n < 256) : (numN (ns ++ [n]) : Int) = (numN ns : Int) * 256 + n := by
  unfold numN
  have e : bitsL (ns ++ [n]) = bitsL ns ++ bits n := by simp [bitsL]
  rw [e, vN_app, bits_len]
  obtain ⟨a, rfl⟩ : ∃ a : Nat, n = a := ⟨n.toNat, by omega⟩
  rw [vN8 a (by omega)]
  omega
theorem numN_lt (ns : List Int) : numN ns < 2 ^ (8 * ns.length) := by
  have := vN_lt (bitsL ns)
  rw [bitsL_len] at this
  exact this
end Crc

namespace K25
open PySem L2

noncomputable def top (i : Nat) : Stmt := PySem.Challenge.pw_linkyard_k25_images_written.main.body.getD i (.Pass ⟨0, 0, 0, 0⟩)
noncomputable abbrev s_is_number_up_to : Stmt := top 6
noncomputable abbrev s_is_byte : Stmt := top 7
noncomputable abbrev s_need_bytes : Stmt := top 8
noncomputable abbrev s_two_of : Stmt := top 9
noncomputable abbrev s_word_in : Stmt := top 10
noncomputable abbrev s_one_bit_left : Stmt := top 14
noncomputable abbrev s_check_of : Stmt := top 15
noncomputable abbrev s_sealed : Stmt := top 16
noncomputable abbrev s_opened : Stmt := top 17
noncomputable abbrev s_Image___init__ : Stmt := inClass (top 21) 0
noncomputable abbrev s_need : Stmt := top 23
noncomputable abbrev s_Reader___init__ : Stmt := inClass (top 24) 0
noncomputable abbrev s_Reader_several : Stmt := inClass (top 24) 1
noncomputable abbrev s_Reader_byte : Stmt := inClass (top 24) 2
noncomputable abbrev s_Reader_two : Stmt := inClass (top 24) 3
noncomputable abbrev s_Reader_need_mark : Stmt := inClass (top 24) 4
noncomputable abbrev s_Reader_need_end : Stmt := inClass (top 24) 5
noncomputable abbrev s_image_bytes : Stmt := top 27
noncomputable abbrev s_section_read : Stmt := top 28
noncomputable abbrev s_need_codes_ahead : Stmt := top 29
noncomputable abbrev s_size_of : Stmt := top 30
noncomputable abbrev s_codes_of : Stmt := top 31
noncomputable abbrev s_beginnings_of : Stmt := top 32
noncomputable abbrev s_need_far_within : Stmt := top 33
noncomputable abbrev s_image_in : Stmt := top 34
noncomputable abbrev s__law_cell_at : Stmt := top 36
noncomputable abbrev s__law_mixed : Stmt := top 37
noncomputable abbrev s__law_check : Stmt := top 38
noncomputable abbrev s__law_sealed : Stmt := top 39
noncomputable abbrev s__law_image : Stmt := top 40
noncomputable abbrev s__law_two_of : Stmt := top 41
noncomputable abbrev s__law_due : Stmt := top 42
noncomputable abbrev s__law_alike : Stmt := top 43
noncomputable abbrev s_law : Stmt := top 44

open Crc
theorem obl_S (x : W) : (((S x).toNat : Nat) : Int) = if (x.toNat : Int) * 2 < 65536 then (x.toNat : Int) * 2 else Builtin.bitXor ((x.toNat : Int) * 2 - 65536) 4129 := by
  rw [S_toNat]
  by_cases h : x.toNat * 2 < 65536
  · rw [if_pos h, if_pos (by omega)]
    omega
  · rw [if_neg h, if_neg (by omega)]
    have e : (x.toNat : Int) * 2 - 65536 = ((x.toNat * 2 - 65536 : Nat) : Int) := by omega
    rw [e, show (4129 : Int) = ((4129 : Nat) : Int) from rfl, bx]
theorem lay_hi (x : W) {n : Int} (h0 : 0 ≤ n) (h1 : n < 256) : Builtin.bitXor (x.toNat : Int) (n * 256) = (((x ^^^ hi n).toNat : Nat) : Int) := by
  rw [hi_toNat x h0 h1, ← bx]
  congr 1
  omega
theorem Sn_snoc (n : Nat) (x : W) : Sn (n + 1) x = S (Sn n x) := by
  induction n generalizing x with
  | zero => rfl
  | succ n ih => rw [show Sn (n + 1 + 1) x = Sn (n + 1) (S x) from rfl, ih, show Sn (n + 1) x = Sn n (S x) from rfl]
theorem crc_lt (l : List Int) : (crc l).toNat < 65536 := (crc l).isLt
theorem allB {ns : List Int} : IsB ns ↔ (ns.map V.int).all (numUp · 255) = true := by
  induction ns with
  | nil => simp [IsB]
  | cons n ns ih =>
    rw [List.map_cons, List.all_cons, Bool.and_eq_true, ← ih]
    constructor
    · intro h
      exact ⟨by have := h n List.mem_cons_self; simp [numUp]; omega, fun m hm => h m (List.mem_cons_of_mem _ hm)⟩
    · rintro ⟨h1, h2⟩ m hm
      rcases List.mem_cons.mp hm with z | z
      · subst z
        simp [numUp] at h1
        omega
      · exact h2 m z
noncomputable def NB (K : PySem.W.Frag) (H : Hp) (x : V) : Prop := (∃ a xs, x = .ref a ∧ H a = some (.lst xs) ∧ (∀ v ∈ xs, Knw K H v) ∧ xs.length ≤ 1000 ∧ (xs.all (numUp · 255) = false ∨ xs.length < 2)) ∨ NoL K H x
theorem NB.same {K : PySem.W.Frag} {H H' : Hp} {x : V} (e : Same H H') (h : NB K H x) : NB K H' x := by
  rcases h with ⟨a, xs, rfl, h1, h2, h3⟩ | h
  · exact .inl ⟨a, xs, rfl, e _ _ h1, fun v hv => (h2 v hv).same e, h3⟩
  · exact .inr (h.same e)
theorem knw_ints {K : PySem.W.Frag} {H : Hp} {ns : List Int} : ∀ v ∈ ns.map V.int, Knw K H v := fun v hv => by
  obtain ⟨n, _, rfl⟩ := List.mem_map.mp hv
  exact ⟨_, .int n⟩
theorem cut_m2 {α : Type} {xs : List α} (h : 2 ≤ xs.length) : cutL xs none (some (-2)) = xs.take (xs.length - 2) := by
  unfold cutL
  rw [HT.sIx_none, List.drop_zero, Nat.sub_zero]
  congr 1
  simp [HT.sIx]
  omega
theorem all_map {xs : List V} : ((xs.map (numUp · 255)).map V.bl) = xs.flatMap (fun v => [V.bl (numUp v 255)]) := by
  rw [fm_one, List.map_map]
  rfl

noncomputable def fldI (m : Int) (s b f : Addr) : List (Str × V) := putF "far" (.ref f) (putF "body" (.ref b) (putF "sections" (.ref s) (putF "main" (.int m) [])))
theorem fI_main (m : Int) (s b f : Addr) : (fldI m s b f).lookup ("main" : Str) = some (.int m) := by
  unfold fldI
  rw [lookup_putF, if_neg (by decide +kernel), lookup_putF, if_neg (by decide +kernel), lookup_putF, if_neg (by decide +kernel), lookup_putF, if_pos rfl]
theorem fI_sections (m : Int) (s b f : Addr) : (fldI m s b f).lookup ("sections" : Str) = some (.ref s) := by
  unfold fldI
  rw [lookup_putF, if_neg (by decide +kernel), lookup_putF, if_neg (by decide +kernel), lookup_putF, if_pos rfl]
theorem fI_body (m : Int) (s b f : Addr) : (fldI m s b f).lookup ("body" : Str) = some (.ref b) := by
  unfold fldI
  rw [lookup_putF, if_neg (by decide +kernel), lookup_putF, if_pos rfl]
theorem fI_far (m : Int) (s b f : Addr) : (fldI m s b f).lookup ("far" : Str) = some (.ref f) := by
  unfold fldI
  rw [lookup_putF, if_pos rfl]
theorem take_snoc {fs : List Int} {i : Nat} {p : Int} (h : fs[i]? = some p) : fs.take (i + 1) = fs.take i ++ [p] := by
  rw [List.take_add_one, h]
  rfl
theorem ix_at {n : Nat} {p : Int} (h0 : 0 ≤ p) (h1 : p < (n : Int)) : ixN n p = some p.toNat := by
  unfold ixN
  rw [if_pos (by omega), if_pos h1]
noncomputable def HeldOk (p : Addr) (prs : List Addr) (H : Hp) : Prop := ∀ z ∈ prs, z ≠ p ∧ ∃ (u v : Addr) (xs : List Int), u ≠ p ∧ v ≠ p ∧ H z = some (.tup [.ref u, .ref v]) ∧ H u = some (.lst (xs.map V.int)) ∧ H v = some (.lst (xs.map V.int))
theorem HeldOk.keep {p : Addr} {prs : List Addr} {H H' : Hp} (h : HeldOk p prs H) (k : ∀ c o, H c = some o → c ≠ p → H' c = some o) : HeldOk p prs H' := fun z hz => by
  obtain ⟨n, u, v, xs, nu, nv, e1, e2, e3⟩ := h z hz
  exact ⟨n, u, v, xs, nu, nv, k _ _ e1 n, k _ _ e2 nu, k _ _ e3 nv⟩
theorem HeldOk.same {p : Addr} {prs : List Addr} {H H' : Hp} (h : HeldOk p prs H) (k : Same H H') : HeldOk p prs H' := h.keep fun c o e _ => k c o e
theorem rd4 {K : PySem.W.Frag} {H : Hp} {t s b f : Addr} {m : Int} {ds : List PyData} {svs : List V} {bs fs : List Int} (et : H t = some (.tup [.int m, .ref s, .ref b, .ref f])) (es : H s = some (.lst svs)) (rds : RdDs K H ds svs) (eb : H b = some (.lst (bs.map V.int))) (ef : H f = some (.lst (fs.map V.int))) :
    RdD K H (.tuple [.int m, .list ds, .list (bs.map .int), .list (fs.map .int)]) (.ref t) := by
  simp only [RdD, RdDs]
  exact ⟨t, _, rfl, SqT.of et, _, _, rfl, rfl, _, _, rfl, ⟨s, _, rfl, SqL.of es, rds⟩, _, _, rfl, ⟨b, _, rfl, SqL.of eb, rd_ints bs⟩, _, _, rfl, ⟨f, _, rfl, SqL.of ef, rd_ints fs⟩, rfl⟩
theorem lay4 {m : Int} {ds : List PyData} {bs fs : List Int} (h : PyData.canLayAll0 ds = true) : PyData.canLay0 (.tuple [.int m, .list ds, .list (bs.map .int), .list (fs.map .int)]) = true := by
  simp [PyData.canLay0, PyData.canLayAll0, h, lay_ints]
theorem dep4 {m : Int} {ds : List PyData} {bs fs : List Int} (h : PyData.depthAll ds ≤ 5) : PyData.depth (.tuple [.int m, .list ds, .list (bs.map .int), .list (fs.map .int)]) ≤ 60 := by
  simp [PyData.depth, PyData.depthAll, dep_ints]
  omega
noncomputable abbrev codeS : Str := Str.ofString "code"
noncomputable abbrev dataS : Str := Str.ofString "data"
noncomputable def SecOk (l : Addr) (ts : List (Addr × Str × Int)) (H : Hp) : Prop := ∀ e ∈ ts, e.1 ≠ l ∧ H e.1 = some (.tup [.str e.2.1, .int e.2.2]) ∧ (e.2.1 = codeS ∨ e.2.1 = dataS) ∧ 1 ≤ e.2.2 ∧ e.2.2 ≤ 40
theorem SecOk.keep {l : Addr} {ts : List (Addr × Str × Int)} {H H' : Hp} (h : SecOk l ts H) (k : ∀ c o, H c = some o → c ≠ l → H' c = some o) : SecOk l ts H' := fun e he => by
  obtain ⟨n, e1, e2⟩ := h e he
  exact ⟨n, k _ _ e1 n, e2⟩
theorem SecOk.same {l : Addr} {ts : List (Addr × Str × Int)} {H H' : Hp} (h : SecOk l ts H) (k : Same H H') : SecOk l ts H' := h.keep fun c o e _ => k c o e
noncomputable def refsT (ts : List (Addr × Str × Int)) : List V := ts.map fun e => V.ref e.1
noncomputable def szs (ts : List (Addr × Str × Int)) : List Int := ts.map fun e => e.2.2
noncomputable def cszs (ts : List (Addr × Str × Int)) : List Int := szs (ts.filter fun e => e.2.1 = codeS)
theorem szs_b {l : Addr} {H : Hp} {ts : List (Addr × Str × Int)} (h : SecOk l ts H) : (∀ n ∈ szs ts, 0 ≤ n ∧ n < 1000000) ∧ 0 ≤ (szs ts).sum ∧ (szs ts).sum ≤ 40 * (ts.length : Int) ∧ (ts.length : Int) ≤ (szs ts).sum := by
  refine ⟨fun n hn => ?_, ?_⟩
  · obtain ⟨e, he, rfl⟩ := List.mem_map.mp hn
    have := (h e he).2.2.2
    omega
  · induction ts with
    | nil => simp [szs]
    | cons e ts ih =>
      have h1 := (h e List.mem_cons_self).2.2.2
      have h2 := ih fun e he => h e (List.mem_cons_of_mem _ he)
      have e1 : (szs (e :: ts)).sum = e.2.2 + (szs ts).sum := by simp [szs]
      rw [e1, List.length_cons]
      omega
theorem cszs_b {l : Addr} {H : Hp} {ts : List (Addr × Str × Int)} (h : SecOk l ts H) : (∀ n ∈ cszs ts, 0 ≤ n ∧ n < 1000000) ∧ 0 ≤ (cszs ts).sum ∧ (cszs ts).sum ≤ (szs ts).sum := by
  have hf : SecOk l (ts.filter fun e => e.2.1 = codeS) H := fun e he => h e (List.mem_filter.mp he).1
  refine ⟨(szs_b hf).1, (szs_b hf).2.1, ?_⟩
  clear hf
  induction ts with
  | nil => simp [cszs, szs]
  | cons e ts ih =>
    have h1 := (h e List.mem_cons_self).2.2.2
    have h2 := ih fun e he => h e (List.mem_cons_of_mem _ he)
    have e1 : (szs (e :: ts)).sum = e.2.2 + (szs ts).sum := by simp [szs]
    rw [e1]
    by_cases hc : e.2.1 = codeS
    · have e2 : (cszs (e :: ts)).sum = e.2.2 + (cszs ts).sum := by simp [cszs, szs, List.filter_cons, hc]
      omega
    · have e2 : cszs (e :: ts) = cszs ts := by simp [cszs, szs, List.filter_cons, hc]
      rw [e2]
      omega
theorem take_snocT {α : Type} {fs : List α} {i : Nat} {p : α} (h : fs[i]? = some p) : fs.take (i + 1) = fs.take i ++ [p] := by
  rw [List.take_add_one, h]
  rfl
theorem szs_snoc (ts : List (Addr × Str × Int)) (e : Addr × Str × Int) : szs (ts ++ [e]) = szs ts ++ [e.2.2] := by simp [szs]
theorem cszs_snoc (ts : List (Addr × Str × Int)) (e : Addr × Str × Int) : cszs (ts ++ [e]) = if e.2.1 = codeS then cszs ts ++ [e.2.2] else cszs ts := by
  unfold cszs
  rw [List.filter_append]
  by_cases h : e.2.1 = codeS
  · rw [if_pos h]; simp [szs, h]
  · rw [if_neg h]; simp [szs, h]
theorem refsT_get {ts : List (Addr × Str × Int)} {i : Nat} {x : V} (h : (refsT ts)[i]? = some x) : ∃ e, ts[i]? = some e ∧ x = V.ref e.1 := by
  unfold refsT at h
  rw [List.getElem?_map] at h
  cases e : ts[i]? with
  | none => rw [e] at h; cases h
  | some t => rw [e] at h; cases h; exact ⟨t, rfl, rfl⟩
noncomputable def muP (σ : List (Option V)) : Nat := match σ[8]? with
  | some (some (V.int pl)) => (1000 - pl).toNat
  | _ => 0
theorem SecOk.updL {l p : Addr} {ts : List (Addr × Str × Int)} {H : Hp} {xs ys : List V} (h : SecOk l ts H) (e : H p = some (.lst xs)) : SecOk l ts (upd H p (.lst ys)) := fun z hz => by
  obtain ⟨n, e1, e2⟩ := h z hz
  exact ⟨n, by rw [upd_ne (ne_of e1 e (by intro z; cases z))]; exact e1, e2⟩
theorem cutTo {α : Type} (l : List α) (k : Nat) : cutL l none (some (k : Int)) = l.take k := by
  unfold cutL
  rw [HT.sIx_nat, show HT.sIx l.length 0 none = 0 from rfl, List.drop_zero, Nat.sub_zero]
  rcases Nat.lt_or_ge l.length k with h | h
  · rw [Nat.min_eq_right (by omega), List.take_of_length_le (Nat.le_refl _), List.take_of_length_le (by omega)]
  · rw [Nat.min_eq_left h]
theorem nnI (i : Nat) : (0 : Int) ≤ (i : Int) := Int.natCast_nonneg i
theorem r4 (c : Int) : 0 ≤ 1 + c % 4 ∧ 1 + c % 4 < 1073741824 := by omega
theorem r3 (c : Int) : 0 ≤ c / 4 % 3 ∧ c / 4 % 3 < 1073741824 := by omega
theorem lt4 {i : Nat} {c : Int} (h : (i : Int) < 1 + c % 4) : (i : Int) ≤ 1000 ∧ i ≤ 10 := by omega
theorem lt3 {i : Nat} {c : Int} (h : (i : Int) < c / 4 % 3) : (i : Int) ≤ 1000 ∧ i ≤ 10 := by omega
theorem m2n (r : Int) : 0 ≤ r % 2 := Int.emod_nonneg _ (by decide)
theorem m2t (r : Int) : (r % 2).toNat < 2 := by omega
theorem sz1 {r x : Int} (x0 : 0 < x) (x1 : x ≤ 30) : 1 ≤ 1 + r % x ∧ 1 + r % x ≤ 40 := by
  have m1 := Int.emod_nonneg r (show x ≠ 0 by omega)
  have m2 := Int.emod_lt_of_pos r x0
  omega
theorem sz2 (r : Int) : 1 ≤ 4 + 2 * (r % 5) ∧ 4 + 2 * (r % 5) ≤ 40 := by omega
theorem le100 {n i : Nat} (h : n = i) (hi : i ≤ 10) : n ≤ 100 := by omega
theorem le100' {n i : Nat} {c : Int} (h : n = (1 + c % 4).toNat + i) (hi : i ≤ 10) : n ≤ 100 := by omega
theorem kb {i : Nat} {who : Int} (h : (i : Int) < who) (h' : who ≤ 240) : (i : Int) ≤ 1000 := by omega
theorem pl_le {pl : Int} (h : pl ≤ 300) : pl ≤ 1000 := by omega
theorem pl_nx {pl r cod who : Int} (h0 : 0 ≤ pl) (h : pl + 2 ≤ cod) (h1 : cod ≤ who) (h2 : who ≤ 240) : 0 ≤ pl + 2 + r % 9 ∧ pl + 2 + r % 9 ≤ 300 := by omega
theorem fl_nx {n : Nat} {pl r : Int} (h : (n : Int) ≤ pl) : ((n + 1 : Nat) : Int) ≤ pl + 2 + r % 9 := by omega
theorem mu_nx {pl r : Int} (h : pl ≤ 300) : (1000 - (pl + 2 + r % 9)).toNat < (1000 - pl).toNat := by omega
theorem fs_len {n : Nat} {pl : Int} (h : (n : Int) ≤ pl) (h' : pl ≤ 300) : n < 100000 ∧ n ≤ 1000 := by omega
theorem ix1 {p cod who : Int} {n : Nat} (h : n = who.toNat) (h1 : p + 2 ≤ cod) (h2 : cod ≤ who) : p < (n : Int) ∧ p + 1 < (n : Int) := by omega
theorem p_le {p cod who : Int} (h1 : p + 2 ≤ cod) (h2 : cod ≤ who) (h3 : who ≤ 240) : p ≤ 1000 := by omega
theorem s0 {p : Int} (h : 0 ≤ p) : 0 ≤ p + 1 := by omega
theorem ms0 {n : Nat} {c : Int} (h : n = (1 + c % 4).toNat) : 0 < (n : Int) := by omega
noncomputable def NotO (o : HO) : Prop := ∀ C dx fs, o ≠ .ins C dx fs
theorem ne_ins {H : Hp} {p c C dx : Addr} {fs : List (Str × V)} {o : HO} (ep : H p = some (.ins C dx fs)) (ec : H c = some o) (h : NotO o) : c ≠ p := fun z => by
  rw [z, ep] at ec
  exact h _ _ _ (Option.some.inj ec).symm
theorem keepU {H : Hp} {p c : Addr} {o u : HO} (e : H c = some u) (n : c ≠ p) : upd H p o c = some u := by rw [upd_ne n]; exact e
theorem fld_new {H : Hp} {p C dx l : Addr} {fs fs' : List (Str × V)} {o : HO} (ep : H p = some (.ins C dx fs)) (nl : upd H p (.ins C dx fs') l = none) :
    ∃ H', (H' p = some (.ins C dx fs') ∧ (∀ c u, H c = some u → c ≠ p → H' c = some u) ∧ (∀ c, upd H p (.ins C dx fs') c = none → H c = none) ∧ ∀ c, H' c = none → H c = none) ∧ H' l = some o ∧ upd (upd H p (.ins C dx fs')) l o = H' := by
  have np : p ≠ l := fun z => by rw [← z, upd_same] at nl; cases nl
  have k : ∀ c, upd H p (.ins C dx fs') c = none → H c = none := fun c h => by
    by_cases z : c = p
    · rw [z, upd_same] at h; cases h
    · rw [upd_ne z] at h; exact h
  refine ⟨_, ⟨by rw [upd_ne np, upd_same], fun c u e nc => ?_, k, fun c h => k c ((Same.upd (Same.refl _) nl).no h)⟩, upd_same, rfl⟩
  have : c ≠ l := fun z => by rw [← z, upd_ne nc, e] at nl; cases nl
  rw [upd_ne this, upd_ne nc]
  exact e
theorem fl3 (m : Int) (s : Addr) : (putF "sections" (V.ref s) (putF "main" (V.int m) [])).length < 1000 := by
  have := length_putF "sections" (V.ref s) (putF "main" (V.int m) []); have := length_putF "main" (V.int m) []; simp at *; omega
theorem fl4 (m : Int) (s b : Addr) : (putF "body" (V.ref b) (putF "sections" (V.ref s) (putF "main" (V.int m) []))).length < 1000 := by
  have := length_putF "body" (V.ref b) (putF "sections" (V.ref s) (putF "main" (V.int m) [])); have := length_putF "sections" (V.ref s) (putF "main" (V.int m) []); have := length_putF "main" (V.int m) []; simp at *; omega
theorem getI {r : List Int} {p : Int} (h0 : 0 ≤ p) (h1 : p < (r.length : Int)) : atI (r.map V.int) p = some (V.int (r.getD p.toNat 0)) := by
  refine atIn h0 ?_
  have : p.toNat < r.length := by omega
  simp [List.getD, this]

noncomputable def two (n : Int) : List Int := [n / 256, n % 256]
noncomputable def kindN (k : Str) : Int := if k = codeS then 0 else 1
noncomputable def secB (ks : List (Str × Int)) : List Int := ks.flatMap fun e => kindN e.1 :: two e.2
noncomputable def farB (fs : List Int) : List Int := fs.flatMap two
noncomputable def rowF (m : Int) (ks : List (Str × Int)) (bs fs : List Int) : List Int := [105, 1] ++ (two m ++ (two ks.length ++ (secB ks ++ (bs ++ (two fs.length ++ farB fs)))))
noncomputable def dueF (m : Int) (ks : List (Str × Int)) (bs fs : List Int) : List Int := rowF m ks bs fs ++ two ((crc (rowF m ks bs fs)).toNat : Int)
noncomputable def sumK (ks : List (Str × Int)) : Int := (ks.map (·.2)).sum
structure GI (n k : Nat) (m : Int) (ks : List (Str × Int)) (bs fs : List Int) : Prop where
  kinds : ks.map (·.1) = List.replicate n codeS ++ List.replicate k dataS
  nk : n ≤ 4 ∧ k ≤ 2
  sz : ∀ e ∈ ks, 1 ≤ e.2 ∧ e.2 ≤ 40
  lb : (bs.length : Int) = sumK ks
  bb : IsB bs
  fp : fs.Pairwise (fun p q => p + 2 ≤ q)
  fb : ∀ p ∈ fs, 0 ≤ p ∧ p + 2 ≤ sumK (ks.take n)
  fl : fs.length ≤ 300
  mb : ∃ j, j < n ∧ m = sumK (ks.take j)
theorem sumK_b {ks : List (Str × Int)} (h : ∀ e ∈ ks, 1 ≤ e.2 ∧ e.2 ≤ 40) : 0 ≤ sumK ks ∧ sumK ks ≤ 40 * (ks.length : Int) := by
  induction ks with
  | nil => simp [sumK]
  | cons e ks ih =>
    have h1 := h e List.mem_cons_self
    have h2 := ih fun e he => h e (List.mem_cons_of_mem _ he)
    have e1 : sumK (e :: ks) = e.2 + sumK ks := by simp [sumK]
    rw [e1, List.length_cons]
    omega
theorem sumK_take {ks : List (Str × Int)} (h : ∀ e ∈ ks, 1 ≤ e.2 ∧ e.2 ≤ 40) (j : Nat) : 0 ≤ sumK (ks.take j) ∧ sumK (ks.take j) ≤ sumK ks := by
  have e : sumK ks = sumK (ks.take j) + sumK (ks.drop j) := by
    unfold sumK
    rw [← List.sum_append_int, ← List.map_append, List.take_append_drop]
  have h1 := (sumK_b (ks := ks.take j) fun e he => h e (List.mem_of_mem_take he)).1
  have h2 := (sumK_b (ks := ks.drop j) fun e he => h e (List.mem_of_mem_drop he)).1
  omega
section
variable {n k : Nat} {m : Int} {ks : List (Str × Int)} {bs fs : List Int}
theorem GI.len (g : GI n k m ks bs fs) : ks.length = n + k := by
  have := congrArg List.length g.kinds
  simpa using this
theorem GI.len6 (g : GI n k m ks bs fs) : ks.length ≤ 6 := by
  have := g.len
  have := g.nk
  omega
theorem GI.sum (g : GI n k m ks bs fs) : 0 ≤ sumK ks ∧ sumK ks ≤ 240 := by
  have := sumK_b g.sz
  have := g.len6
  omega
theorem GI.m0 (g : GI n k m ks bs fs) : 0 ≤ m ∧ m ≤ 240 := by
  obtain ⟨j, _, rfl⟩ := g.mb
  have := sumK_take g.sz j
  have := g.sum
  omega
theorem GI.bl (g : GI n k m ks bs fs) : bs.length ≤ 240 := by
  have := g.lb
  have := g.sum
  omega
theorem GI.fb2 (g : GI n k m ks bs fs) : ∀ p ∈ fs, 0 ≤ p ∧ p < 65536 := fun p hp => by
  have := g.fb p hp
  have := sumK_take g.sz n
  have := g.sum
  omega
theorem secB_len (ks : List (Str × Int)) : (secB ks).length = 3 * ks.length := by
  induction ks with
  | nil => rfl
  | cons e ks ih =>
    have : secB (e :: ks) = (kindN e.1 :: two e.2) ++ secB ks := rfl
    rw [this, List.length_append, ih]
    show 3 + _ = _
    rw [List.length_cons]
    omega
theorem farB_len (fs : List Int) : (farB fs).length = 2 * fs.length := by
  induction fs with
  | nil => rfl
  | cons e fs ih =>
    have : farB (e :: fs) = two e ++ farB fs := rfl
    rw [this, List.length_append, ih]
    show 2 + _ = _
    rw [List.length_cons]
    omega
theorem row_len : (rowF m ks bs fs).length = 8 + 3 * ks.length + bs.length + 2 * fs.length := by
  unfold rowF
  simp only [List.length_append, secB_len, farB_len]
  show 2 + (2 + (2 + _)) = _
  simp only [two, List.length_cons, List.length_nil]
  omega
theorem IsB.app {a b : List Int} (h : IsB a) (h' : IsB b) : IsB (a ++ b) := fun n hn => by
  rcases List.mem_append.mp hn with z | z
  · exact h n z
  · exact h' n z
theorem two_b {n : Int} (h : 0 ≤ n) (h' : n < 65536) : IsB (two n) := fun x hx => by
  rcases List.mem_cons.mp hx with z | z
  · rw [z]; omega
  · rw [List.mem_singleton.mp z]; omega
theorem GI.rb (g : GI n k m ks bs fs) : IsB (rowF m ks bs fs) := by
  have m0 := g.m0
  have l6 := g.len6
  have fl := g.fl
  refine IsB.app (fun x hx => ?_) (IsB.app (two_b m0.1 (by omega)) (IsB.app (two_b (by omega) (by omega)) (IsB.app (fun x hx => ?_) (IsB.app g.bb (IsB.app (two_b (by omega) (by omega)) fun x hx => ?_)))))
  · rcases List.mem_cons.mp hx with z | z
    · rw [z]; decide
    · rw [List.mem_singleton.mp z]; decide
  · obtain ⟨e, he, hx⟩ := List.mem_flatMap.mp hx
    have := g.sz e he
    rcases List.mem_cons.mp hx with z | z
    · rw [z]; unfold kindN; split <;> decide
    · exact two_b (by omega) (by omega) x z
  · obtain ⟨e, he, hx⟩ := List.mem_flatMap.mp hx
    have := g.fb2 e he
    exact two_b this.1 this.2 x hx
theorem GI.rl (g : GI n k m ks bs fs) : (rowF m ks bs fs).length ≤ 900 := by
  rw [row_len]
  have := g.len6
  have := g.bl
  have := g.fl
  omega
theorem GI.dl (g : GI n k m ks bs fs) : (dueF m ks bs fs).length ≤ 902 := by
  have := g.rl
  unfold dueF
  rw [List.length_append]
  show _ + 2 ≤ 902
  omega
end
theorem secB_snoc (ks : List (Str × Int)) (e : Str × Int) : secB (ks ++ [e]) = secB ks ++ (kindN e.1 :: two e.2) := by simp [secB]
theorem farB_snoc (fs : List Int) (p : Int) : farB (fs ++ [p]) = farB fs ++ two p := by simp [farB]
theorem two_w {n : Int} : n / 256 * 256 + n % 256 = n := by omega
noncomputable def SecL (H : Hp) (ts : List (Addr × Str × Int)) : Prop := ∀ e ∈ ts, H e.1 = some (.tup [.str e.2.1, .int e.2.2])
theorem SecL.same {H H' : Hp} {ts : List (Addr × Str × Int)} (h : SecL H ts) (s : Same H H') : SecL H' ts := fun e he => s _ _ (h e he)
noncomputable def ksT (ts : List (Addr × Str × Int)) : List (Str × Int) := ts.map (·.2)
theorem ksT_take (ts : List (Addr × Str × Int)) (i : Nat) : ksT (ts.take i) = (ksT ts).take i := by simp [ksT, List.map_take]
theorem ksT_len (ts : List (Addr × Str × Int)) : (ksT ts).length = ts.length := by simp [ksT]
noncomputable def fldR (c : Addr) (k : Nat) : List (Str × V) := putF "spot" (.int (k : Int)) (putF "content" (.ref c) [])
theorem fR_content (c : Addr) (k : Nat) : (fldR c k).lookup ("content" : Str) = some (.ref c) := by
  unfold fldR
  rw [lookup_putF, if_neg (by decide +kernel), lookup_putF, if_pos rfl]
theorem fR_spot (c : Addr) (k : Nat) : (fldR c k).lookup ("spot" : Str) = some (.int (k : Int)) := by
  unfold fldR
  rw [lookup_putF, if_pos rfl]
theorem fR_no (c : Addr) (k : Nat) {f : Str} (h1 : f ≠ "spot") (h2 : f ≠ "content") : (fldR c k).lookup f = none := by
  unfold fldR
  rw [lookup_putF, if_neg h1, lookup_putF, if_neg h2]
  rfl
theorem fR_set (c : Addr) (k j : Nat) : putF "spot" (.int (j : Int)) (fldR c k) = fldR c j := putF_putF _ _ _ _
theorem fR_len (c : Addr) (k : Nat) : (fldR c k).length < 1000 := by
  have := length_putF "spot" (V.int (k : Int)) (putF "content" (V.ref c) []); have := length_putF "content" (V.ref c) []; simp [fldR] at *; omega
theorem cut_mid {α : Type} (a b c : List α) : cutL (a ++ (b ++ c)) (some (a.length : Int)) (some ((a.length : Int) + (b.length : Int))) = b := by
  unfold cutL
  rw [show ((a.length : Int) + (b.length : Int)) = ((a.length + b.length : Nat) : Int) by omega, HT.sIx_nat, HT.sIx_nat]
  simp only [List.length_append]
  rw [Nat.min_eq_left (by omega), Nat.min_eq_left (by omega), List.drop_left, Nat.add_sub_cancel_left, List.take_left]
theorem flat_strs (ss : List Str) : (ss.map V.str).all flatV = true := by
  induction ss with
  | nil => rfl
  | cons n ns ih => rw [List.map_cons, List.all_cons, ih]; rfl
theorem tup4 {K : PySem.W.Frag} {H : Hp} {p : Addr} {x y z u : V} {σ : St} {Q : St → Hp → Prop} {i j k l : Nat} (h : H p = some (.tup [x, y, z, u])) (q : Q ((((σ.set i (some x)).set j (some y)).set k (some z)).set l (some u)) H) : gTup K 4 (gCons (gName i) (gCons (gName j) (gCons (gName k) (gCons (gName l) gNil)))) (.ref p) σ H Q :=
  ⟨p, [x, y, z, u], rfl, SqT.of h, rfl, x, _, rfl, y, _, rfl, z, _, rfl, u, [], rfl, rfl, q⟩
theorem GI.kd {n k : Nat} {m : Int} {ks : List (Str × Int)} {bs fs : List Int} (g : GI n k m ks bs fs) : ∀ e ∈ ks, e.1 = codeS ∨ e.1 = dataS := fun e he => by
  have : e.1 ∈ ks.map (·.1) := List.mem_map.mpr ⟨e, he, rfl⟩
  rw [g.kinds] at this
  rcases List.mem_append.mp this with z | z
  · exact .inl (List.eq_of_mem_replicate z)
  · exact .inr (List.eq_of_mem_replicate z)
theorem kd_d {k : Str} (h : k = codeS ∨ k = dataS) : (if k = dataS then (1 : Int) else 0) = kindN k := by
  rcases h with z | z <;> subst z <;> decide +kernel
theorem tix {K : PySem.W.Frag} {H : Hp} {Q : VK} {p : Addr} {k : Str} (h : KTup K p [.str codeS, .str dataS]) (hk : k = codeS ∨ k = dataS) (q : Q (.int (kindN k)) H) : rTIndex K (.ref p) [.str k] H Q := by
  refine ⟨p, codeS, dataS, k, rfl, rfl, h.sq, ?_⟩
  have hne : dataS ≠ codeS := by decide +kernel
  rcases hk with z | z
  · subst z
    exact .inl ⟨rfl, q⟩
  · subst z
    rw [show kindN dataS = 1 from if_neg hne] at q
    exact .inr ⟨hne, rfl, q⟩
theorem szl {xs : List Int} (h : xs.length ≤ 2000) : (xs.map V.int).length < sizeLine := by
  rw [List.length_map]
  exact Nat.lt_of_lt_of_le (show _ < 100000 by omega) (sl1000 (Nat.le_refl _))
theorem szx {xs ys : List Int} (h : xs.length + ys.length ≤ 2000) : (xs.map V.int).length + (ys.map V.int).length ≤ sizeLine := by
  rw [List.length_map, List.length_map]
  exact sl1000 (by omega)
noncomputable def hdr (m : Int) (n : Nat) : List Int := ([105, 1] ++ two m) ++ two n
theorem row_eq (m : Int) (ks : List (Str × Int)) (bs fs : List Int) : rowF m ks bs fs = (((hdr m ks.length ++ secB ks) ++ bs) ++ two fs.length) ++ farB fs := by simp [rowF, hdr]
theorem hdr_len (m : Int) (n : Nat) : (hdr m n).length = 6 := rfl
theorem codes_take {ts : List (Addr × Str × Int)} {n k : Nat} (h : (ksT ts).map (·.1) = List.replicate n codeS ++ List.replicate k dataS) : ts.filter (fun e => e.2.1 = codeS) = ts.take n ∧ (ts.filter fun e => e.2.1 == Str.ofString "code") = ts.take n := by
  have hm : ts.map (fun e => e.2.1) = List.replicate n codeS ++ List.replicate k dataS := by rw [← h, ksT, List.map_map]; rfl
  have h1 : ∀ e ∈ ts.take n, e.2.1 = codeS := fun e he => by
    have : e.2.1 ∈ (ts.take n).map (fun e => e.2.1) := List.mem_map.mpr ⟨e, he, rfl⟩
    rw [List.map_take, hm, List.take_append_of_le_length (by simp), List.take_of_length_le (by simp)] at this
    exact List.eq_of_mem_replicate this
  have h2 : ∀ e ∈ ts.drop n, e.2.1 = dataS := fun e he => by
    have : e.2.1 ∈ (ts.drop n).map (fun e => e.2.1) := List.mem_map.mpr ⟨e, he, rfl⟩
    rw [List.map_drop, hm, List.drop_append_of_le_length (by simp), List.drop_of_length_le (by simp), List.nil_append] at this
    exact List.eq_of_mem_replicate this
  have hne : dataS ≠ codeS := by decide +kernel
  have key : ∀ q : (Addr × Str × Int) → Bool, (∀ e, e.2.1 = codeS → q e = true) → (∀ e, e.2.1 = dataS → q e = false) → ts.filter q = ts.take n := fun q q1 q2 => by
    conv => lhs; rw [← List.take_append_drop n ts]
    rw [List.filter_append, List.filter_eq_self.mpr (fun e he => q1 e (h1 e he)), List.filter_eq_nil_iff.mpr (fun e he => by rw [q2 e (h2 e he)]; exact Bool.false_ne_true), List.append_nil]
  refine ⟨key _ (fun e h => decide_eq_true h) fun e h => decide_eq_false (by rw [h]; exact hne), key _ (fun e h => beq_iff_eq.mpr h) fun e h => beq_eq_false_iff_ne.mpr (by rw [h]; exact hne)⟩
theorem sum_k (ts : List (Addr × Str × Int)) : (ts.map (·.2.2)).sum = sumK (ksT ts) := by
  unfold sumK ksT
  rw [List.map_map]
  rfl
theorem secB_at {ks : List (Str × Int)} {i : Nat} {e : Str × Int} (h : ks[i]? = some e) : secB ks = secB (ks.take i) ++ ((kindN e.1 :: two e.2) ++ secB (ks.drop (i + 1))) := by
  obtain ⟨hi, ei⟩ := List.getElem?_eq_some_iff.mp h
  have hd : ks.drop i = e :: ks.drop (i + 1) := by rw [List.drop_eq_getElem_cons hi, ei]
  conv => lhs; rw [← List.take_append_drop i ks, hd]
  simp [secB]
theorem farB_at {fs : List Int} {i : Nat} {p : Int} (h : fs[i]? = some p) : farB fs = farB (fs.take i) ++ (two p ++ farB (fs.drop (i + 1))) := by
  obtain ⟨hi, ei⟩ := List.getElem?_eq_some_iff.mp h
  have hd : fs.drop i = p :: fs.drop (i + 1) := by rw [List.drop_eq_getElem_cons hi, ei]
  conv => lhs; rw [← List.take_append_drop i fs, hd]
  simp [farB]
noncomputable def ImgAt (C p : Addr) (m : Int) (ks : List (Str × Int)) (bs fs : List Int) (H : Hp) : Prop := ∃ (dx s b f : Addr) (ts : List (Addr × Str × Int)), H p = some (.ins C dx (fldI m s b f)) ∧ H s = some (.lst (refsT ts)) ∧ SecL H ts ∧ ksT ts = ks ∧ H b = some (.lst (bs.map V.int)) ∧ H f = some (.lst (fs.map V.int))
noncomputable def TupAt (t : Addr) (m : Int) (ks : List (Str × Int)) (bs fs : List Int) (H : Hp) : Prop := ∃ (s b f : Addr) (ts : List (Addr × Str × Int)), H t = some (.tup [.int m, .ref s, .ref b, .ref f]) ∧ H s = some (.lst (refsT ts)) ∧ SecL H ts ∧ ksT ts = ks ∧ H b = some (.lst (bs.map V.int)) ∧ H f = some (.lst (fs.map V.int))
theorem ImgAt.same {C p : Addr} {m : Int} {ks : List (Str × Int)} {bs fs : List Int} {H H' : Hp} (h : ImgAt C p m ks bs fs H) (S : Same H H') : ImgAt C p m ks bs fs H' := by
  obtain ⟨dx, s, b, f, ts, h1, h2, h3, h4, h5, h6⟩ := h
  exact ⟨dx, s, b, f, ts, S _ _ h1, S _ _ h2, h3.same S, h4, S _ _ h5, S _ _ h6⟩
theorem TupAt.same {p : Addr} {m : Int} {ks : List (Str × Int)} {bs fs : List Int} {H H' : Hp} (h : TupAt p m ks bs fs H) (S : Same H H') : TupAt p m ks bs fs H' := by
  obtain ⟨s, b, f, ts, h1, h2, h3, h4, h5, h6⟩ := h
  exact ⟨s, b, f, ts, S _ _ h1, S _ _ h2, h3.same S, h4, S _ _ h5, S _ _ h6⟩
noncomputable def secK (ks : List (Str × Int)) : List PyData := ks.map fun e => .tuple [.str e.1, .int e.2]
theorem rd_secK {K : PySem.W.Frag} {H : Hp} : ∀ {ts : List (Addr × Str × Int)}, SecL H ts → (∀ e ∈ ksT ts, e.1 = codeS ∨ e.1 = dataS) → RdDs K H (secK (ksT ts)) (refsT ts) ∧ PyData.canLayAll0 (secK (ksT ts)) = true ∧ PyData.depthAll (secK (ksT ts)) ≤ 5
  | [], _, _ => ⟨by simp [secK, ksT, refsT, RdDs], rfl, by simp [secK, ksT, PyData.depthAll]⟩
  | e :: ts, h, hk => by
    obtain ⟨a1, a2, a3⟩ := rd_secK (K := K) (ts := ts) (fun e he => h e (List.mem_cons_of_mem _ he)) fun e he => hk e (List.mem_cons_of_mem _ he)
    have e1 := h e List.mem_cons_self
    have e2 := hk e.2 List.mem_cons_self
    refine ⟨?_, ?_, ?_⟩
    · show RdDs K H (.tuple [.str e.2.1, .int e.2.2] :: secK (ksT ts)) (V.ref e.1 :: refsT ts)
      simp only [RdDs, RdD]
      exact ⟨_, _, rfl, ⟨_, _, rfl, SqT.of e1, _, _, rfl, rfl, _, _, rfl, rfl, rfl⟩, a1⟩
    · show PyData.canLayAll0 (.tuple [.str e.2.1, .int e.2.2] :: secK (ksT ts)) = true
      have hs : PyData.canLay0 (.str e.2.1) = true := by
        rcases e2 with z | z <;> rw [z] <;> decide +kernel
      simp only [PyData.canLayAll0, a2, Bool.and_true]
      rw [PyData.canLay0, PyData.canLayAll0, hs]
      rfl
    · show PyData.depthAll (.tuple [.str e.2.1, .int e.2.2] :: secK (ksT ts)) ≤ 5
      simp [PyData.depthAll, PyData.depth]
      omega
theorem SecL.stp {x : Addr} {H H' : Hp} {ts : List (Addr × Str × Int)} {C dx : Addr} {fs : List (Str × V)} (h : SecL H ts) (hx : H x = some (.ins C dx fs)) (s : Stp x H H') : SecL H' ts := fun e he => s.1 _ _ (h e he) (ne_ins hx (h e he) (by intro _ _ _ z; cases z))
theorem SecL.snoc {H : Hp} {ts : List (Addr × Str × Int)} {e : Addr × Str × Int} (h : SecL H ts) (h' : H e.1 = some (.tup [.str e.2.1, .int e.2.2])) : SecL H (ts ++ [e]) := fun x hx => by
  rcases List.mem_append.mp hx with z | z
  · exact h x z
  · rw [List.mem_singleton.mp z]; exact h'
theorem sec_push2 {H H2 : Hp} {l1 : Addr} {ts : List (Addr × Str × Int)} (S2 : Same H H2) (n1 : H l1 = none) (el : H2 l1 = some (.lst (refsT ts))) (hts : SecOk l1 ts H2) {k : Str} {z : Int} (hk : k = codeS ∨ k = dataS) (h1 : 1 ≤ z) (h2 : z ≤ 40) (hl : ts.length ≤ 100) {p : Addr} (np : H2 p = none) {R : VK}
    (r : ∀ H', Same H H' → H' l1 = some (.lst (refsT (ts ++ [(p, k, z)]))) → SecOk l1 (ts ++ [(p, k, z)]) H' → R .non H') : rAppend (.ref l1) [.ref p] (upd H2 p (.tup [.str k, .int z])) R := by
  have S3 := Same.upd (Same.refl H2) np (o := .tup [.str k, .int z])
  have npl : p ≠ l1 := fun e => by rw [e, el] at np; cases np
  refine appL (S3 _ _ el) (Nat.lt_of_lt_of_le (show _ < 100000 by simp [refsT]; omega) (sl1000 (Nat.le_refl _))) (r _ (Same.set (S2.trans S3) n1) (by rw [upd_same]; simp [refsT]) fun e he => ?_)
  rcases List.mem_append.mp he with he | he
  · exact (hts.same S3).keep (fun c o e nc => by rw [upd_ne nc]; exact e) e he
  · rw [List.mem_singleton.mp he]
    exact ⟨npl, by rw [upd_ne npl, upd_same], hk, h1, h2⟩
theorem kd_snoc {ts : List (Addr × Str × Int)} {xs : List Str} {p : Addr} {k : Str} {z : Int} {i : Nat} (h : (ksT ts).map (·.1) = xs ++ List.replicate i k) : (ksT (ts ++ [(p, k, z)])).map (·.1) = xs ++ List.replicate (i + 1) k := by
  rw [List.replicate_succ', ← List.append_assoc, ← h]
  simp [ksT]
theorem IsB.snoc {bs : List Int} {r : Int} (h : IsB bs) : IsB (bs ++ [r % 256]) := IsB.app h fun n hn => by
  rw [List.mem_singleton.mp hn]
  omega
theorem IsB.put {bs : List Int} {j : Nat} {r : Int} (h : IsB bs) (h0 : 0 ≤ r) (h1 : r < 256) : IsB (bs.set j r) := fun n hn => by
  rcases List.mem_or_eq_of_mem_set hn with z | z
  · exact h n z
  · rw [z]; exact ⟨h0, h1⟩
theorem pw_snoc {fs : List Int} {pl : Int} (h : fs.Pairwise (fun p q => p + 2 ≤ q)) (h' : ∀ p ∈ fs, p + 2 ≤ pl) : (fs ++ [pl]).Pairwise (fun p q => p + 2 ≤ q) :=
  List.pairwise_append.mpr ⟨h, List.pairwise_singleton _ _, fun a ha b hb => by rw [List.mem_singleton.mp hb]; exact h' a ha⟩
theorem szs_k (ts : List (Addr × Str × Int)) : (szs ts).sum = sumK (ksT ts) := sum_k ts
theorem main_in {n k : Nat} {m : Int} {ks : List (Str × Int)} {bs fs : List Int} {ts : List (Addr × Str × Int)} (ek : ksT ts = ks) (gi : GI n k m ks bs fs) : inV (.int m) ((List.range (ts.take n).length).map fun i => V.int (((ts.take n).take i).map (·.2.2)).sum) = true := by
  obtain ⟨j, hj, rfl⟩ := gi.mb
  have hl : ts.length = n + k := by rw [← ksT_len, ek]; exact gi.len
  refine List.any_eq_true.mpr ⟨V.int (sumK (ks.take j)), List.mem_map.mpr ⟨j, List.mem_range.mpr (by rw [List.length_take]; omega), ?_⟩, beq_iff_eq.mpr rfl⟩
  rw [List.take_take, Nat.min_eq_left (by omega), sum_k, ksT_take, ek]
theorem shlN (a j : Nat) : ((a <<< j : Nat) : Int) = (a : Int) * (2 : Int) ^ j := by rw [Nat.shiftLeft_eq]; push_cast; rfl
theorem shrN (a j : Nat) : (((a >>> j) % 2 : Nat) : Int) = (a : Int) / (2 : Int) ^ j % 2 := by rw [Nat.shiftRight_eq_div_pow]; push_cast; rfl
theorem gn0 (ns : List Int) : Builtin.bitXor ((numN ns : Int) * (2 : Int) ^ Int.toNat 16) (65535 * (2 : Int) ^ (8 * (ns.length : Int)).toNat) = (gn (bitsL ns) 0 : Int) := by
  have e1 : (numN ns : Int) * (2 : Int) ^ Int.toNat 16 = ((vN (bitsL ns) <<< 16 : Nat) : Int) := (shlN (numN ns) 16).symm
  have e2 : (65535 : Int) * (2 : Int) ^ (8 * (ns.length : Int)).toNat = ((65535 <<< (bitsL ns).length : Nat) : Int) := by
    rw [bitsL_len, show (8 * (ns.length : Int)).toNat = 8 * ns.length by omega]
    exact (shlN 65535 _).symm
  rw [gn_zero, e1, e2, bx]
theorem gns (ns : List Int) {k : Nat} (h : (k : Int) < 8 * (ns.length : Int)) : (gn (bitsL ns) (k + 1) : Int) = if ((gn (bitsL ns) k : Int) / (2 : Int) ^ (8 * (ns.length : Int) + 15 - (k : Int)).toNat) % 2 = 1 then Builtin.bitXor (gn (bitsL ns) k : Int) (69665 * (2 : Int) ^ (8 * (ns.length : Int) - 1 - (k : Int)).toNat) else (gn (bitsL ns) k : Int) := by
  rw [gn_step _ (by rw [bitsL_len]; omega), bitsL_len, show (8 * (ns.length : Int) + 15 - (k : Int)).toNat = 8 * ns.length + 15 - k by omega, show (8 * (ns.length : Int) - 1 - (k : Int)).toNat = 8 * ns.length - 1 - k by omega]
  generalize gn (bitsL ns) k = g
  rw [← shrN]
  have e2 : (69665 : Int) * (2 : Int) ^ (8 * ns.length - 1 - k) = ((69665 <<< (8 * ns.length - 1 - k) : Nat) : Int) := (shlN 69665 _).symm
  rw [e2, bx]
  by_cases hc : (g >>> (8 * ns.length + 15 - k)) % 2 = 1
  · rw [if_pos hc, if_pos (by rw [hc]; rfl)]
  · rw [if_neg hc, if_neg (by omega)]
theorem numN_bits (ns : List Int) (h : ns.length ≤ 1000) : (Builtin.Int.intBits (numN ns : Int) : Int) ≤ 8000 := by
  have h1 := numN_lt ns
  have : Builtin.Int.intBits (numN ns : Int) ≤ 8 * ns.length := PyProof.Rows.intBits_le (by rw [Int.natAbs_natCast]; exact h1)
  omega
theorem nin3 {H : Hp} {c h1 h2 h3 : Addr} {o1 o2 o3 : HO} (nc : H c = none) (f1 : H h1 = some o1) (f2 : H h2 = some o2) (f3 : H h3 = some o3) : c ∉ [h1, h2, h3] := fun hm => by
  rcases List.mem_cons.mp hm with z | hm
  · rw [z, f1] at nc; cases nc
  rcases List.mem_cons.mp hm with z | hm
  · rw [z, f2] at nc; cases nc
  · rw [List.mem_singleton.mp hm, f3] at nc; cases nc
theorem nin3' {H : Hp} {c h1 h2 h3 : Addr} {o : HO} (e : H c = some o) (n1 : H h1 = none) (n2 : H h2 = none) (n3 : H h3 = none) : c ∉ [h1, h2, h3] := fun hm => by
  rcases List.mem_cons.mp hm with z | hm
  · rw [z, n1] at e; cases e
  rcases List.mem_cons.mp hm with z | hm
  · rw [z, n2] at e; cases e
  · rw [List.mem_singleton.mp hm, n3] at e; cases e
theorem cut_midM (pre mid post : List Int) : cutL ((pre ++ (mid ++ post)).map V.int) (some (pre.length : Int)) (some ((pre.length : Int) + (mid.length : Int))) = mid.map V.int := by
  have h := cut_mid (pre.map V.int) (mid.map V.int) (post.map V.int)
  rw [List.length_map, List.length_map] at h
  rw [List.map_append, List.map_append]
  exact h
theorem fR_set2 (c : Addr) (pre mid : List Int) : putF "spot" (V.int ((pre.length : Int) + (mid.length : Int))) (fldR c pre.length) = fldR c (pre ++ mid).length := by
  rw [List.length_append, ← fR_set c pre.length (pre.length + mid.length)]
  push_cast
  rfl
theorem kat {k : Str} (h : k = codeS ∨ k = dataS) : atI [V.str codeS, V.str dataS] (kindN k) = some (V.str k) := by
  have hne : dataS ≠ codeS := by decide +kernel
  rcases h with z | z
  · subst z
    rw [show kindN codeS = 0 from if_pos rfl]
    rfl
  · subst z
    rw [show kindN dataS = 1 from if_neg hne]
    rfl
theorem kinds_sorted : ∀ n, n < 5 → ∀ k, k < 3 → PyProof.Rows.sortedS (List.replicate n codeS ++ List.replicate k dataS) = true := by decide +kernel

structure Txt (K : PySem.W.Frag) (mg : Str → Option Value) where
  d_is_number_up_to : DefAt K mg "is_number_up_to" s_is_number_up_to ["thing", "most"]
  d_is_byte : DefAt K mg "is_byte" s_is_byte ["thing"]
  d_need_bytes : DefAt K mg "need_bytes" s_need_bytes ["thing"]
  d_two_of : DefAt K mg "two_of" s_two_of ["number"]
  d_word_in : DefAt K mg "word_in" s_word_in ["row", "place"]
  d_one_bit_left : DefAt K mg "one_bit_left" s_one_bit_left ["check"]
  d_check_of : DefAt K mg "check_of" s_check_of ["row"]
  d_sealed : DefAt K mg "sealed" s_sealed ["row"]
  d_opened : DefAt K mg "opened" s_opened ["row"]
  d_need : DefAt K mg "need" s_need ["good", "words"]
  d_image_bytes : DefAt K mg "image_bytes" s_image_bytes ["image"]
  d_section_read : DefAt K mg "section_read" s_section_read ["reader"]
  d_need_codes_ahead : DefAt K mg "need_codes_ahead" s_need_codes_ahead ["sections"]
  d_size_of : DefAt K mg "size_of" s_size_of ["sections"]
  d_codes_of : DefAt K mg "codes_of" s_codes_of ["sections"]
  d_beginnings_of : DefAt K mg "beginnings_of" s_beginnings_of ["sections"]
  d_need_far_within : DefAt K mg "need_far_within" s_need_far_within ["far", "size"]
  d_image_in : DefAt K mg "image_in" s_image_in ["row"]
  d__law_cell_at : DefAt K mg "_law_cell_at" s__law_cell_at ["_law_script", "_law_k"]
  d__law_mixed : DefAt K mg "_law_mixed" s__law_mixed ["_law_cell", "_law_k"]
  d__law_check : DefAt K mg "_law_check" s__law_check ["_law_row"]
  d__law_sealed : DefAt K mg "_law_sealed" s__law_sealed ["_law_row"]
  d__law_image : DefAt K mg "_law_image" s__law_image ["_law_script"]
  d__law_two_of : DefAt K mg "_law_two_of" s__law_two_of ["_law_number"]
  d__law_due : DefAt K mg "_law_due" s__law_due ["_law_parts"]
  d__law_alike : DefAt K mg "_law_alike" s__law_alike ["_law_image_here", "_law_parts"]
  d_law : DefAt K mg "law" s_law ["_law_script"]
  c_MOST_BYTE : ∃ u, mg "MOST_BYTE" = some u ∧ RelV (.int 255) u
  c_FIRST_CHECK : ∃ u, mg "FIRST_CHECK" = some u ∧ RelV (.int 65535) u
  c_LAID_OVER : ∃ u, mg "LAID_OVER" = some u ∧ RelV (.int 4129) u
  c_MOST_BYTES : ∃ u, mg "MOST_BYTES" = some u ∧ RelV (.int 8000) u
  x_KINDS : Addr
  c_KINDS : ∃ u, mg "KINDS" = some u ∧ RelV (.ref x_KINDS) u
  sq_KINDS : KTup K x_KINDS [V.str (Str.ofString "code"), V.str (Str.ofString "data")]
  x_MARK : Addr
  c_MARK : ∃ u, mg "MARK" = some u ∧ RelV (.ref x_MARK) u
  sq_MARK : KTup K x_MARK [V.int 105, V.int 1]
  n_all : mg "all" = none
  n_bool : mg "bool" = none
  n_int : mg "int" = none
  n_isinstance : mg "isinstance" = none
  n_len : mg "len" = none
  n_list : mg "list" = none
  n_range : mg "range" = none
  n_sorted : mg "sorted" = none
  n_sum : mg "sum" = none
  n_tuple : mg "tuple" = none
  x_Image : Addr
  x_Reader : Addr
  m_Image : mg "Image" = some (.ref x_Image)
  m_Reader : mg "Reader" = some (.ref x_Reader)
  ocg_Image : PySem.W.plainGet K x_Image Str.empty = true
  och_Image : PySem.W.hasDictIn K x_Image = true
  oco_Image : PySem.W.plainOver K x_Image = true
  ocs_Image : PySem.W.findIn K (.ref x_Image) "__setattr__" = some (some (.builtin "object.__setattr__"))
  mk_Image : PySem.W.makesIn K x_Image = true
  kp_Image : PySem.W.keepIn K (.ref x_Image) = true
  nf_Image_main : PySem.W.findIn K (.ref x_Image) "main" = some none
  nf_Image_sections : PySem.W.findIn K (.ref x_Image) "sections" = some none
  nf_Image_body : PySem.W.findIn K (.ref x_Image) "body" = some none
  nf_Image_far : PySem.W.findIn K (.ref x_Image) "far" = some none
  ocg_Reader : PySem.W.plainGet K x_Reader Str.empty = true
  och_Reader : PySem.W.hasDictIn K x_Reader = true
  oco_Reader : PySem.W.plainOver K x_Reader = true
  ocs_Reader : PySem.W.findIn K (.ref x_Reader) "__setattr__" = some (some (.builtin "object.__setattr__"))
  mk_Reader : PySem.W.makesIn K x_Reader = true
  kp_Reader : PySem.W.keepIn K (.ref x_Reader) = true
  nf_Reader_content : PySem.W.findIn K (.ref x_Reader) "content" = some none
  nf_Reader_spot : PySem.W.findIn K (.ref x_Reader) "spot" = some none
  d_Image___init__ : MethAt K x_Image "__init__" "Image.__init__" s_Image___init__ ["self", "main", "sections", "body", "far"]
  d_Reader___init__ : MethAt K x_Reader "__init__" "Reader.__init__" s_Reader___init__ ["self", "row"]
  d_Reader_several : MethAt K x_Reader "several" "Reader.several" s_Reader_several ["self", "size"]
  d_Reader_byte : MethAt K x_Reader "byte" "Reader.byte" s_Reader_byte ["self"]
  d_Reader_two : MethAt K x_Reader "two" "Reader.two" s_Reader_two ["self"]
  d_Reader_need_mark : MethAt K x_Reader "need_mark" "Reader.need_mark" s_Reader_need_mark ["self", "mark"]
  d_Reader_need_end : MethAt K x_Reader "need_end" "Reader.need_end" s_Reader_need_end ["self"]
  dd_word_in : ∃ ds, Binds K d_word_in.fd ["row", "place"] ds ∧ Vals [V.int 0] ds
theorem Txt.oc_Image {K : PySem.W.Frag} {mg : Str → Option Value} (T : Txt K mg) : Cls K T.x_Image := ⟨T.ocg_Image, T.och_Image, T.oco_Image, T.ocs_Image⟩
theorem Txt.oc_Reader {K : PySem.W.Frag} {mg : Str → Option Value} (T : Txt K mg) : Cls K T.x_Reader := ⟨T.ocg_Reader, T.och_Reader, T.oco_Reader, T.ocs_Reader⟩

end K25
namespace K25
open PySem L2 Crc
seal L2.PA L2.PE L2.PS L2.PSs L2.PT L2.PW L2.PI L2.PG L2.PGs L2.PIf L2.PO L2.OpR L2.UnR L2.CallR L2.IxR L2.MtR L2.SlR L2.PSet L2.PEX L2.PIC L2.PPs
section
variable {P : Program} {w : World} {K : PySem.W.Frag} {mg : Str → Option Value} {base : Heap}
noncomputable def sp_is_number_up_to (K : PySem.W.Frag) : Sp := fun vs H Q E => ∃ x m, vs = [x, .int m] ∧ Knw K H x ∧ Q (.bl (numUp x m)) H
theorem sc_is_number_up_to : FnScope ["thing", "most"] ["thing", "most"] (defScope s_is_number_up_to) := ⟨rfl, rfl, rfl, by decide +kernel, rfl, by decide +kernel, by decide +kernel⟩
theorem ok_is_number_up_to (T : Txt K mg) : FnOk P w K mg base CX0 1 T.d_is_number_up_to.f T.d_is_number_up_to.fd ["thing", "most"] (sp_is_number_up_to K) := by
  have nd := sc_is_number_up_to.nd
  refine T.d_is_number_up_to.F.ok sc_is_number_up_to (fun vs H Q E h => ?_) (fun cdv A outer s H vs Q E hr h => ?_)
  · obtain ⟨x, m, rfl, ⟨T0, k⟩, q⟩ := h
    rfl
  · obtain ⟨x, m, rfl, ⟨T0, k⟩, q⟩ := h
    have hu := hr.units0
    refine ⟨_, (pss_one (ps_ret (pe_and (pcB (o_isinstance (K := K)) rfl T.n_isinstance (by kernel_rfl) (pa1 (pv 0) (pa1 (pe_bltn (v := .ty "int") rfl T.n_int (by kernel_rfl) rfl) pa_nil))) (pe_and (pe_not (pcB (o_isinstance (K := K)) rfl T.n_isinstance (by kernel_rfl) (pa1 (pv 0) (pa1 (pe_bltn (v := .ty "bool") rfl T.n_bool (by kernel_rfl) rfl) pa_nil)))) (pe_one (pe_chain op_le op_le pe_int (pv 0) (pv 1))))))), ?_⟩
    rw [show start ["thing", "most"] [x, V.int m] = [some (x), some (V.int m)] from rfl]
    simp only [tSeq, tIfS, tRet, tRetN, tC, tVar, tOp, tUn, tTest, tB, tAnd, tOr, tNot, tAndV, tOrV, tNotV, tIf, tChain, tCons, tNil, tCall, tCB, tLst, tTup, tSl, tNoPart, tPart, gName, tNext, tDrop, tAsg, tAsgC, tBM, tYes, tDNewK, rI, rI0, rU, rEq, rNe, rAbs, rIntT, CDiv, add_ii, add_ss, mul_ii, mul_si, ix_si, eq_ii, eq_ss, eq_bb, ne_ii, ne_ss, ne_ni, ne_in, in_s1, notin_s1, is_xn, is_bb, isnot_xn, isnot_bb, sl_s, len_s, find_ss, index_ss, List.append_nil, List.cons_append, List.nil_append, List.getElem?_cons_succ, List.getElem?_cons_zero, List.set_cons_succ, List.set_cons_zero, Option.some.injEq, V.int.injEq, V.bl.injEq, V.str.injEq, V.ref.injEq, V.ty.injEq, List.cons.injEq, and_true, true_and, exists_eq_left, exists_eq_left', exists_and_left, exists_eq', exists_const, exists_and_right, exists_eq_right, exists_eq_right', reduceCtorEq, false_and, and_false, exists_false, or_false, false_or, decide_eq_true_eq, Bool.not_eq_true', decide_eq_false_iff_not, Bool.false_eq_true, if_false, if_true, mk_app, mk_len, sg_mk, mk_one, decide_true, decide_false, Bool.not_true, Bool.not_false, ite_true, ite_false, not_true_eq_false, not_false_eq_true, cxK, cutTo1, cutFrom1, mk_iff, tyV_str, stComp, List.map_cons, List.map_nil, Option.join_some, Option.join_none, gt_iff_lt, ge_iff_le, tRaise, tTryR, tCallH, tDisp, tPairs, tFld, sFld, tMake, tMeth, tAug, ipI, tDead, tBM0, if_false_right, and_self]
    cases k with
    | int i =>
      refine isi_t (.int i) ?_
      simp only [tSeq, tIfS, tRet, tRetN, tC, tVar, tOp, tUn, tTest, tB, tAnd, tOr, tNot, tAndV, tOrV, tNotV, tIf, tChain, tCons, tNil, tCall, tCB, tLst, tTup, tSl, tNoPart, tPart, gName, tNext, tDrop, tAsg, tAsgC, tBM, tYes, tDNewK, rI, rI0, rU, rEq, rNe, rAbs, rIntT, CDiv, add_ii, add_ss, mul_ii, mul_si, ix_si, eq_ii, eq_ss, eq_bb, ne_ii, ne_ss, ne_ni, ne_in, in_s1, notin_s1, is_xn, is_bb, isnot_xn, isnot_bb, sl_s, len_s, find_ss, index_ss, List.append_nil, List.cons_append, List.nil_append, List.getElem?_cons_succ, List.getElem?_cons_zero, List.set_cons_succ, List.set_cons_zero, Option.some.injEq, V.int.injEq, V.bl.injEq, V.str.injEq, V.ref.injEq, V.ty.injEq, List.cons.injEq, and_true, true_and, exists_eq_left, exists_eq_left', exists_and_left, exists_eq', exists_const, exists_and_right, exists_eq_right, exists_eq_right', reduceCtorEq, false_and, and_false, exists_false, or_false, false_or, decide_eq_true_eq, Bool.not_eq_true', decide_eq_false_iff_not, Bool.false_eq_true, if_false, if_true, mk_app, mk_len, sg_mk, mk_one, decide_true, decide_false, Bool.not_true, Bool.not_false, ite_true, ite_false, not_true_eq_false, not_false_eq_true, cxK, cutTo1, cutFrom1, mk_iff, tyV_str, stComp, List.map_cons, List.map_nil, Option.join_some, Option.join_none, gt_iff_lt, ge_iff_le, tRaise, tTryR, tCallH, tDisp, tPairs, tFld, sFld, tMake, tMeth, tAug, ipI, tDead, tBM0, if_false_right, and_self]
      refine isi_f (.int i) ?_
      simp only [tSeq, tIfS, tRet, tRetN, tC, tVar, tOp, tUn, tTest, tB, tAnd, tOr, tNot, tAndV, tOrV, tNotV, tIf, tChain, tCons, tNil, tCall, tCB, tLst, tTup, tSl, tNoPart, tPart, gName, tNext, tDrop, tAsg, tAsgC, tBM, tYes, tDNewK, rI, rI0, rU, rEq, rNe, rAbs, rIntT, CDiv, add_ii, add_ss, mul_ii, mul_si, ix_si, eq_ii, eq_ss, eq_bb, ne_ii, ne_ss, ne_ni, ne_in, in_s1, notin_s1, is_xn, is_bb, isnot_xn, isnot_bb, sl_s, len_s, find_ss, index_ss, List.append_nil, List.cons_append, List.nil_append, List.getElem?_cons_succ, List.getElem?_cons_zero, List.set_cons_succ, List.set_cons_zero, Option.some.injEq, V.int.injEq, V.bl.injEq, V.str.injEq, V.ref.injEq, V.ty.injEq, List.cons.injEq, and_true, true_and, exists_eq_left, exists_eq_left', exists_and_left, exists_eq', exists_const, exists_and_right, exists_eq_right, exists_eq_right', reduceCtorEq, false_and, and_false, exists_false, or_false, false_or, decide_eq_true_eq, Bool.not_eq_true', decide_eq_false_iff_not, Bool.false_eq_true, if_false, if_true, mk_app, mk_len, sg_mk, mk_one, decide_true, decide_false, Bool.not_true, Bool.not_false, ite_true, ite_false, not_true_eq_false, not_false_eq_true, cxK, cutTo1, cutFrom1, mk_iff, tyV_str, stComp, List.map_cons, List.map_nil, Option.join_some, Option.join_none, gt_iff_lt, ge_iff_le, tRaise, tTryR, tCallH, tDisp, tPairs, tFld, sFld, tMake, tMeth, tAug, ipI, tDead, tBM0, if_false_right, and_self]
      refine ite2 (fun h => ?_) (fun h => ?_)
      · rw [show numUp (V.int i) m = decide (i ≤ m) by simp [numUp, h]] at q
        exact q
      · rw [show numUp (V.int i) m = false by simp [numUp, h]] at q
        exact q
    | str z => exact isi_f (.str z) (by simp only [tSeq, tIfS, tRet, tRetN, tC, tVar, tOp, tUn, tTest, tB, tAnd, tOr, tNot, tAndV, tOrV, tNotV, tIf, tChain, tCons, tNil, tCall, tCB, tLst, tTup, tSl, tNoPart, tPart, gName, tNext, tDrop, tAsg, tAsgC, tBM, tYes, tDNewK, rI, rI0, rU, rEq, rNe, rAbs, rIntT, CDiv, add_ii, add_ss, mul_ii, mul_si, ix_si, eq_ii, eq_ss, eq_bb, ne_ii, ne_ss, ne_ni, ne_in, in_s1, notin_s1, is_xn, is_bb, isnot_xn, isnot_bb, sl_s, len_s, find_ss, index_ss, List.append_nil, List.cons_append, List.nil_append, List.getElem?_cons_succ, List.getElem?_cons_zero, List.set_cons_succ, List.set_cons_zero, Option.some.injEq, V.int.injEq, V.bl.injEq, V.str.injEq, V.ref.injEq, V.ty.injEq, List.cons.injEq, and_true, true_and, exists_eq_left, exists_eq_left', exists_and_left, exists_eq', exists_const, exists_and_right, exists_eq_right, exists_eq_right', reduceCtorEq, false_and, and_false, exists_false, or_false, false_or, decide_eq_true_eq, Bool.not_eq_true', decide_eq_false_iff_not, Bool.false_eq_true, if_false, if_true, mk_app, mk_len, sg_mk, mk_one, decide_true, decide_false, Bool.not_true, Bool.not_false, ite_true, ite_false, not_true_eq_false, not_false_eq_true, cxK, cutTo1, cutFrom1, mk_iff, tyV_str, stComp, List.map_cons, List.map_nil, Option.join_some, Option.join_none, gt_iff_lt, ge_iff_le, tRaise, tTryR, tCallH, tDisp, tPairs, tFld, sFld, tMake, tMeth, tAug, ipI, tDead, tBM0, if_false_right, and_self]; exact q)
    | bl b => exact isi_t (.bl b) (by simp only [tSeq, tIfS, tRet, tRetN, tC, tVar, tOp, tUn, tTest, tB, tAnd, tOr, tNot, tAndV, tOrV, tNotV, tIf, tChain, tCons, tNil, tCall, tCB, tLst, tTup, tSl, tNoPart, tPart, gName, tNext, tDrop, tAsg, tAsgC, tBM, tYes, tDNewK, rI, rI0, rU, rEq, rNe, rAbs, rIntT, CDiv, add_ii, add_ss, mul_ii, mul_si, ix_si, eq_ii, eq_ss, eq_bb, ne_ii, ne_ss, ne_ni, ne_in, in_s1, notin_s1, is_xn, is_bb, isnot_xn, isnot_bb, sl_s, len_s, find_ss, index_ss, List.append_nil, List.cons_append, List.nil_append, List.getElem?_cons_succ, List.getElem?_cons_zero, List.set_cons_succ, List.set_cons_zero, Option.some.injEq, V.int.injEq, V.bl.injEq, V.str.injEq, V.ref.injEq, V.ty.injEq, List.cons.injEq, and_true, true_and, exists_eq_left, exists_eq_left', exists_and_left, exists_eq', exists_const, exists_and_right, exists_eq_right, exists_eq_right', reduceCtorEq, false_and, and_false, exists_false, or_false, false_or, decide_eq_true_eq, Bool.not_eq_true', decide_eq_false_iff_not, Bool.false_eq_true, if_false, if_true, mk_app, mk_len, sg_mk, mk_one, decide_true, decide_false, Bool.not_true, Bool.not_false, ite_true, ite_false, not_true_eq_false, not_false_eq_true, cxK, cutTo1, cutFrom1, mk_iff, tyV_str, stComp, List.map_cons, List.map_nil, Option.join_some, Option.join_none, gt_iff_lt, ge_iff_le, tRaise, tTryR, tCallH, tDisp, tPairs, tFld, sFld, tMake, tMeth, tAug, ipI, tDead, tBM0, if_false_right, and_self]; exact isi_t (.bl b) (by simp only [tSeq, tIfS, tRet, tRetN, tC, tVar, tOp, tUn, tTest, tB, tAnd, tOr, tNot, tAndV, tOrV, tNotV, tIf, tChain, tCons, tNil, tCall, tCB, tLst, tTup, tSl, tNoPart, tPart, gName, tNext, tDrop, tAsg, tAsgC, tBM, tYes, tDNewK, rI, rI0, rU, rEq, rNe, rAbs, rIntT, CDiv, add_ii, add_ss, mul_ii, mul_si, ix_si, eq_ii, eq_ss, eq_bb, ne_ii, ne_ss, ne_ni, ne_in, in_s1, notin_s1, is_xn, is_bb, isnot_xn, isnot_bb, sl_s, len_s, find_ss, index_ss, List.append_nil, List.cons_append, List.nil_append, List.getElem?_cons_succ, List.getElem?_cons_zero, List.set_cons_succ, List.set_cons_zero, Option.some.injEq, V.int.injEq, V.bl.injEq, V.str.injEq, V.ref.injEq, V.ty.injEq, List.cons.injEq, and_true, true_and, exists_eq_left, exists_eq_left', exists_and_left, exists_eq', exists_const, exists_and_right, exists_eq_right, exists_eq_right', reduceCtorEq, false_and, and_false, exists_false, or_false, false_or, decide_eq_true_eq, Bool.not_eq_true', decide_eq_false_iff_not, Bool.false_eq_true, if_false, if_true, mk_app, mk_len, sg_mk, mk_one, decide_true, decide_false, Bool.not_true, Bool.not_false, ite_true, ite_false, not_true_eq_false, not_false_eq_true, cxK, cutTo1, cutFrom1, mk_iff, tyV_str, stComp, List.map_cons, List.map_nil, Option.join_some, Option.join_none, gt_iff_lt, ge_iff_le, tRaise, tTryR, tCallH, tDisp, tPairs, tFld, sFld, tMake, tMeth, tAug, ipI, tDead, tBM0, if_false_right, and_self]; exact q))
    | non => exact isi_f .non (by simp only [tSeq, tIfS, tRet, tRetN, tC, tVar, tOp, tUn, tTest, tB, tAnd, tOr, tNot, tAndV, tOrV, tNotV, tIf, tChain, tCons, tNil, tCall, tCB, tLst, tTup, tSl, tNoPart, tPart, gName, tNext, tDrop, tAsg, tAsgC, tBM, tYes, tDNewK, rI, rI0, rU, rEq, rNe, rAbs, rIntT, CDiv, add_ii, add_ss, mul_ii, mul_si, ix_si, eq_ii, eq_ss, eq_bb, ne_ii, ne_ss, ne_ni, ne_in, in_s1, notin_s1, is_xn, is_bb, isnot_xn, isnot_bb, sl_s, len_s, find_ss, index_ss, List.append_nil, List.cons_append, List.nil_append, List.getElem?_cons_succ, List.getElem?_cons_zero, List.set_cons_succ, List.set_cons_zero, Option.some.injEq, V.int.injEq, V.bl.injEq, V.str.injEq, V.ref.injEq, V.ty.injEq, List.cons.injEq, and_true, true_and, exists_eq_left, exists_eq_left', exists_and_left, exists_eq', exists_const, exists_and_right, exists_eq_right, exists_eq_right', reduceCtorEq, false_and, and_false, exists_false, or_false, false_or, decide_eq_true_eq, Bool.not_eq_true', decide_eq_false_iff_not, Bool.false_eq_true, if_false, if_true, mk_app, mk_len, sg_mk, mk_one, decide_true, decide_false, Bool.not_true, Bool.not_false, ite_true, ite_false, not_true_eq_false, not_false_eq_true, cxK, cutTo1, cutFrom1, mk_iff, tyV_str, stComp, List.map_cons, List.map_nil, Option.join_some, Option.join_none, gt_iff_lt, ge_iff_le, tRaise, tTryR, tCallH, tDisp, tPairs, tFld, sFld, tMake, tMeth, tAug, ipI, tDead, tBM0, if_false_right, and_self]; exact q)
    | flt z => exact isi_f (.flt z) (by simp only [tSeq, tIfS, tRet, tRetN, tC, tVar, tOp, tUn, tTest, tB, tAnd, tOr, tNot, tAndV, tOrV, tNotV, tIf, tChain, tCons, tNil, tCall, tCB, tLst, tTup, tSl, tNoPart, tPart, gName, tNext, tDrop, tAsg, tAsgC, tBM, tYes, tDNewK, rI, rI0, rU, rEq, rNe, rAbs, rIntT, CDiv, add_ii, add_ss, mul_ii, mul_si, ix_si, eq_ii, eq_ss, eq_bb, ne_ii, ne_ss, ne_ni, ne_in, in_s1, notin_s1, is_xn, is_bb, isnot_xn, isnot_bb, sl_s, len_s, find_ss, index_ss, List.append_nil, List.cons_append, List.nil_append, List.getElem?_cons_succ, List.getElem?_cons_zero, List.set_cons_succ, List.set_cons_zero, Option.some.injEq, V.int.injEq, V.bl.injEq, V.str.injEq, V.ref.injEq, V.ty.injEq, List.cons.injEq, and_true, true_and, exists_eq_left, exists_eq_left', exists_and_left, exists_eq', exists_const, exists_and_right, exists_eq_right, exists_eq_right', reduceCtorEq, false_and, and_false, exists_false, or_false, false_or, decide_eq_true_eq, Bool.not_eq_true', decide_eq_false_iff_not, Bool.false_eq_true, if_false, if_true, mk_app, mk_len, sg_mk, mk_one, decide_true, decide_false, Bool.not_true, Bool.not_false, ite_true, ite_false, not_true_eq_false, not_false_eq_true, cxK, cutTo1, cutFrom1, mk_iff, tyV_str, stComp, List.map_cons, List.map_nil, Option.join_some, Option.join_none, gt_iff_lt, ge_iff_le, tRaise, tTryR, tCallH, tDisp, tPairs, tFld, sFld, tMake, tMeth, tAug, ipI, tDead, tBM0, if_false_right, and_self]; exact q)
    | lst e => exact isi_f (.lst e) (by simp only [tSeq, tIfS, tRet, tRetN, tC, tVar, tOp, tUn, tTest, tB, tAnd, tOr, tNot, tAndV, tOrV, tNotV, tIf, tChain, tCons, tNil, tCall, tCB, tLst, tTup, tSl, tNoPart, tPart, gName, tNext, tDrop, tAsg, tAsgC, tBM, tYes, tDNewK, rI, rI0, rU, rEq, rNe, rAbs, rIntT, CDiv, add_ii, add_ss, mul_ii, mul_si, ix_si, eq_ii, eq_ss, eq_bb, ne_ii, ne_ss, ne_ni, ne_in, in_s1, notin_s1, is_xn, is_bb, isnot_xn, isnot_bb, sl_s, len_s, find_ss, index_ss, List.append_nil, List.cons_append, List.nil_append, List.getElem?_cons_succ, List.getElem?_cons_zero, List.set_cons_succ, List.set_cons_zero, Option.some.injEq, V.int.injEq, V.bl.injEq, V.str.injEq, V.ref.injEq, V.ty.injEq, List.cons.injEq, and_true, true_and, exists_eq_left, exists_eq_left', exists_and_left, exists_eq', exists_const, exists_and_right, exists_eq_right, exists_eq_right', reduceCtorEq, false_and, and_false, exists_false, or_false, false_or, decide_eq_true_eq, Bool.not_eq_true', decide_eq_false_iff_not, Bool.false_eq_true, if_false, if_true, mk_app, mk_len, sg_mk, mk_one, decide_true, decide_false, Bool.not_true, Bool.not_false, ite_true, ite_false, not_true_eq_false, not_false_eq_true, cxK, cutTo1, cutFrom1, mk_iff, tyV_str, stComp, List.map_cons, List.map_nil, Option.join_some, Option.join_none, gt_iff_lt, ge_iff_le, tRaise, tTryR, tCallH, tDisp, tPairs, tFld, sFld, tMake, tMeth, tAug, ipI, tDead, tBM0, if_false_right, and_self]; exact q)
    | frz e => exact isi_f (.frz e) (by simp only [tSeq, tIfS, tRet, tRetN, tC, tVar, tOp, tUn, tTest, tB, tAnd, tOr, tNot, tAndV, tOrV, tNotV, tIf, tChain, tCons, tNil, tCall, tCB, tLst, tTup, tSl, tNoPart, tPart, gName, tNext, tDrop, tAsg, tAsgC, tBM, tYes, tDNewK, rI, rI0, rU, rEq, rNe, rAbs, rIntT, CDiv, add_ii, add_ss, mul_ii, mul_si, ix_si, eq_ii, eq_ss, eq_bb, ne_ii, ne_ss, ne_ni, ne_in, in_s1, notin_s1, is_xn, is_bb, isnot_xn, isnot_bb, sl_s, len_s, find_ss, index_ss, List.append_nil, List.cons_append, List.nil_append, List.getElem?_cons_succ, List.getElem?_cons_zero, List.set_cons_succ, List.set_cons_zero, Option.some.injEq, V.int.injEq, V.bl.injEq, V.str.injEq, V.ref.injEq, V.ty.injEq, List.cons.injEq, and_true, true_and, exists_eq_left, exists_eq_left', exists_and_left, exists_eq', exists_const, exists_and_right, exists_eq_right, exists_eq_right', reduceCtorEq, false_and, and_false, exists_false, or_false, false_or, decide_eq_true_eq, Bool.not_eq_true', decide_eq_false_iff_not, Bool.false_eq_true, if_false, if_true, mk_app, mk_len, sg_mk, mk_one, decide_true, decide_false, Bool.not_true, Bool.not_false, ite_true, ite_false, not_true_eq_false, not_false_eq_true, cxK, cutTo1, cutFrom1, mk_iff, tyV_str, stComp, List.map_cons, List.map_nil, Option.join_some, Option.join_none, gt_iff_lt, ge_iff_le, tRaise, tTryR, tCallH, tDisp, tPairs, tFld, sFld, tMake, tMeth, tAug, ipI, tDead, tBM0, if_false_right, and_self]; exact q)
    | tup e => exact isi_f (.tup e) (by simp only [tSeq, tIfS, tRet, tRetN, tC, tVar, tOp, tUn, tTest, tB, tAnd, tOr, tNot, tAndV, tOrV, tNotV, tIf, tChain, tCons, tNil, tCall, tCB, tLst, tTup, tSl, tNoPart, tPart, gName, tNext, tDrop, tAsg, tAsgC, tBM, tYes, tDNewK, rI, rI0, rU, rEq, rNe, rAbs, rIntT, CDiv, add_ii, add_ss, mul_ii, mul_si, ix_si, eq_ii, eq_ss, eq_bb, ne_ii, ne_ss, ne_ni, ne_in, in_s1, notin_s1, is_xn, is_bb, isnot_xn, isnot_bb, sl_s, len_s, find_ss, index_ss, List.append_nil, List.cons_append, List.nil_append, List.getElem?_cons_succ, List.getElem?_cons_zero, List.set_cons_succ, List.set_cons_zero, Option.some.injEq, V.int.injEq, V.bl.injEq, V.str.injEq, V.ref.injEq, V.ty.injEq, List.cons.injEq, and_true, true_and, exists_eq_left, exists_eq_left', exists_and_left, exists_eq', exists_const, exists_and_right, exists_eq_right, exists_eq_right', reduceCtorEq, false_and, and_false, exists_false, or_false, false_or, decide_eq_true_eq, Bool.not_eq_true', decide_eq_false_iff_not, Bool.false_eq_true, if_false, if_true, mk_app, mk_len, sg_mk, mk_one, decide_true, decide_false, Bool.not_true, Bool.not_false, ite_true, ite_false, not_true_eq_false, not_false_eq_true, cxK, cutTo1, cutFrom1, mk_iff, tyV_str, stComp, List.map_cons, List.map_nil, Option.join_some, Option.join_none, gt_iff_lt, ge_iff_le, tRaise, tTryR, tCallH, tDisp, tPairs, tFld, sFld, tMake, tMeth, tAug, ipI, tDead, tBM0, if_false_right, and_self]; exact q)
    | dK e => exact isi_f (.dK e) (by simp only [tSeq, tIfS, tRet, tRetN, tC, tVar, tOp, tUn, tTest, tB, tAnd, tOr, tNot, tAndV, tOrV, tNotV, tIf, tChain, tCons, tNil, tCall, tCB, tLst, tTup, tSl, tNoPart, tPart, gName, tNext, tDrop, tAsg, tAsgC, tBM, tYes, tDNewK, rI, rI0, rU, rEq, rNe, rAbs, rIntT, CDiv, add_ii, add_ss, mul_ii, mul_si, ix_si, eq_ii, eq_ss, eq_bb, ne_ii, ne_ss, ne_ni, ne_in, in_s1, notin_s1, is_xn, is_bb, isnot_xn, isnot_bb, sl_s, len_s, find_ss, index_ss, List.append_nil, List.cons_append, List.nil_append, List.getElem?_cons_succ, List.getElem?_cons_zero, List.set_cons_succ, List.set_cons_zero, Option.some.injEq, V.int.injEq, V.bl.injEq, V.str.injEq, V.ref.injEq, V.ty.injEq, List.cons.injEq, and_true, true_and, exists_eq_left, exists_eq_left', exists_and_left, exists_eq', exists_const, exists_and_right, exists_eq_right, exists_eq_right', reduceCtorEq, false_and, and_false, exists_false, or_false, false_or, decide_eq_true_eq, Bool.not_eq_true', decide_eq_false_iff_not, Bool.false_eq_true, if_false, if_true, mk_app, mk_len, sg_mk, mk_one, decide_true, decide_false, Bool.not_true, Bool.not_false, ite_true, ite_false, not_true_eq_false, not_false_eq_true, cxK, cutTo1, cutFrom1, mk_iff, tyV_str, stComp, List.map_cons, List.map_nil, Option.join_some, Option.join_none, gt_iff_lt, ge_iff_le, tRaise, tTryR, tCallH, tDisp, tPairs, tFld, sFld, tMake, tMeth, tAug, ipI, tDead, tBM0, if_false_right, and_self]; exact q)
    | dT e => exact isi_f (.dT e) (by simp only [tSeq, tIfS, tRet, tRetN, tC, tVar, tOp, tUn, tTest, tB, tAnd, tOr, tNot, tAndV, tOrV, tNotV, tIf, tChain, tCons, tNil, tCall, tCB, tLst, tTup, tSl, tNoPart, tPart, gName, tNext, tDrop, tAsg, tAsgC, tBM, tYes, tDNewK, rI, rI0, rU, rEq, rNe, rAbs, rIntT, CDiv, add_ii, add_ss, mul_ii, mul_si, ix_si, eq_ii, eq_ss, eq_bb, ne_ii, ne_ss, ne_ni, ne_in, in_s1, notin_s1, is_xn, is_bb, isnot_xn, isnot_bb, sl_s, len_s, find_ss, index_ss, List.append_nil, List.cons_append, List.nil_append, List.getElem?_cons_succ, List.getElem?_cons_zero, List.set_cons_succ, List.set_cons_zero, Option.some.injEq, V.int.injEq, V.bl.injEq, V.str.injEq, V.ref.injEq, V.ty.injEq, List.cons.injEq, and_true, true_and, exists_eq_left, exists_eq_left', exists_and_left, exists_eq', exists_const, exists_and_right, exists_eq_right, exists_eq_right', reduceCtorEq, false_and, and_false, exists_false, or_false, false_or, decide_eq_true_eq, Bool.not_eq_true', decide_eq_false_iff_not, Bool.false_eq_true, if_false, if_true, mk_app, mk_len, sg_mk, mk_one, decide_true, decide_false, Bool.not_true, Bool.not_false, ite_true, ite_false, not_true_eq_false, not_false_eq_true, cxK, cutTo1, cutFrom1, mk_iff, tyV_str, stComp, List.map_cons, List.map_nil, Option.join_some, Option.join_none, gt_iff_lt, ge_iff_le, tRaise, tTryR, tCallH, tDisp, tPairs, tFld, sFld, tMake, tMeth, tAug, ipI, tDead, tBM0, if_false_right, and_self]; exact q)
noncomputable def sp_is_byte (K : PySem.W.Frag) : Sp := fun vs H Q E => ∃ x, vs = [x] ∧ Knw K H x ∧ Q (.bl (numUp x 255)) H
theorem sc_is_byte : FnScope ["thing"] ["thing"] (defScope s_is_byte) := ⟨rfl, rfl, rfl, by decide +kernel, rfl, by decide +kernel, by decide +kernel⟩
theorem ok_is_byte (T : Txt K mg) : FnOk P w K mg base CX0 2 T.d_is_byte.f T.d_is_byte.fd ["thing"] (sp_is_byte K) := by
  have nd := sc_is_byte.nd
  refine T.d_is_byte.F.ok sc_is_byte (fun vs H Q E h => ?_) (fun cdv A outer s H vs Q E hr h => ?_)
  · obtain ⟨x, rfl, k, q⟩ := h
    rfl
  · obtain ⟨x, rfl, k, q⟩ := h
    have hu := hr.units0
    refine ⟨_, (pss_one (ps_ret (pc1 T.d_is_number_up_to (ok_is_number_up_to T) (hr.mono (by decide)) (pa1 (pv 0) (pa1 (pe_gl rfl T.c_MOST_BYTE) pa_nil))))), ?_⟩
    rw [show start ["thing"] [x] = [some (x)] from rfl]
    simp only [tSeq, tIfS, tRet, tRetN, tC, tVar, tOp, tUn, tTest, tB, tAnd, tOr, tNot, tAndV, tOrV, tNotV, tIf, tChain, tCons, tNil, tCall, tCB, tLst, tTup, tSl, tNoPart, tPart, gName, tNext, tDrop, tAsg, tAsgC, tBM, tYes, tDNewK, rI, rI0, rU, rEq, rNe, rAbs, rIntT, CDiv, add_ii, add_ss, mul_ii, mul_si, ix_si, eq_ii, eq_ss, eq_bb, ne_ii, ne_ss, ne_ni, ne_in, in_s1, notin_s1, is_xn, is_bb, isnot_xn, isnot_bb, sl_s, len_s, find_ss, index_ss, List.append_nil, List.cons_append, List.nil_append, List.getElem?_cons_succ, List.getElem?_cons_zero, List.set_cons_succ, List.set_cons_zero, Option.some.injEq, V.int.injEq, V.bl.injEq, V.str.injEq, V.ref.injEq, V.ty.injEq, List.cons.injEq, and_true, true_and, exists_eq_left, exists_eq_left', exists_and_left, exists_eq', exists_const, exists_and_right, exists_eq_right, exists_eq_right', reduceCtorEq, false_and, and_false, exists_false, or_false, false_or, decide_eq_true_eq, Bool.not_eq_true', decide_eq_false_iff_not, Bool.false_eq_true, if_false, if_true, mk_app, mk_len, sg_mk, mk_one, decide_true, decide_false, Bool.not_true, Bool.not_false, ite_true, ite_false, not_true_eq_false, not_false_eq_true, cxK, cutTo1, cutFrom1, mk_iff, tyV_str, stComp, List.map_cons, List.map_nil, Option.join_some, Option.join_none, gt_iff_lt, ge_iff_le, tRaise, tTryR, tCallH, tDisp, tPairs, tFld, sFld, tMake, tMeth, tAug, ipI, tDead, tBM0, if_false_right, and_self]
    exact ⟨x, 255, rfl, k, q⟩
noncomputable def sp_need_bytes (K : PySem.W.Frag) : Sp := fun vs H Q E => ∃ (a : Addr) (ns : List Int), vs = [.ref a] ∧ H a = some (.lst (ns.map V.int)) ∧ IsB ns ∧ ns.length ≤ 1000 ∧ ∀ l H', H l = none → Same H H' → H' l = some (.lst (ns.map V.int)) → Q (.ref l) H'
theorem sc_need_bytes : FnScope ["thing", "row"] ["thing"] (defScope s_need_bytes) := ⟨rfl, rfl, rfl, by decide +kernel, rfl, by decide +kernel, by decide +kernel⟩
theorem ok_need_bytes (T : Txt K mg) : FnOk P w K mg base CX0 3 T.d_need_bytes.f T.d_need_bytes.fd ["thing"] (sp_need_bytes K) := by
  have nd := sc_need_bytes.nd
  refine T.d_need_bytes.F.ok sc_need_bytes (fun vs H Q E h => ?_) (fun cdv A outer s H vs Q E hr h => ?_)
  · obtain ⟨a, ns, rfl, ha, hb, hlen, q⟩ := h
    rfl
  · obtain ⟨a, ns, rfl, ha, hb, hlen, q⟩ := h
    have hu := hr.units0
    refine ⟨_, (pss_cons (ps_if (pt_not (pt_val (pcB (o_isinstance (K := K)) rfl T.n_isinstance (by kernel_rfl) (pa1 (pv 0) (pa1 (pe_bltn (v := .ty "list") rfl T.n_list (by kernel_rfl) rfl) pa_nil))))) (pss_one ps_dead) pss_nil)
      (pss_cons (ps_set (i := 1) nd rfl (Or.inl rfl) (pcT (call_listK (K := K)) rfl T.n_list (by kernel_rfl) (pa1 (pv 0) pa_nil)))
      (pss_cons (ps_if (pt_not (pt_val (pcB (o_all (K := K)) rfl T.n_all (by kernel_rfl) (pa1 (pe_lcomp (N' := ["byte"]) (src := [none]) rfl (CompScope.of (by kernel_rfl)) (pi_listK (K := K) (pv 1)) (fun _ _ _ _ _ _ => (pg_name (i := 0) (show (["byte"] : List Str).Nodup by decide +kernel) rfl (Or.inl rfl))) (fun _ _ _ _ _ _ => pif_nil) (fun _ _ _ _ _ _ => (pc1 T.d_is_byte (ok_is_byte T) (hr.mono (by decide)) (pa1 (pv 0) pa_nil)))) pa_nil)))) (pss_one ps_dead) pss_nil)
      (pss_one (ps_ret (pv 1)))))), ?_⟩
    rw [show start ["thing", "row"] [V.ref a] = [some (V.ref a), none] from rfl]
    simp only [tSeq, tIfS, tRet, tRetN, tC, tVar, tOp, tUn, tTest, tB, tAnd, tOr, tNot, tAndV, tOrV, tNotV, tIf, tChain, tCons, tNil, tCall, tCB, tLst, tTup, tSl, tNoPart, tPart, gName, tNext, tDrop, tAsg, tAsgC, tBM, tYes, tDNewK, rI, rI0, rU, rEq, rNe, rAbs, rIntT, CDiv, add_ii, add_ss, mul_ii, mul_si, ix_si, eq_ii, eq_ss, eq_bb, ne_ii, ne_ss, ne_ni, ne_in, in_s1, notin_s1, is_xn, is_bb, isnot_xn, isnot_bb, sl_s, len_s, find_ss, index_ss, List.append_nil, List.cons_append, List.nil_append, List.getElem?_cons_succ, List.getElem?_cons_zero, List.set_cons_succ, List.set_cons_zero, Option.some.injEq, V.int.injEq, V.bl.injEq, V.str.injEq, V.ref.injEq, V.ty.injEq, List.cons.injEq, and_true, true_and, exists_eq_left, exists_eq_left', exists_and_left, exists_eq', exists_const, exists_and_right, exists_eq_right, exists_eq_right', reduceCtorEq, false_and, and_false, exists_false, or_false, false_or, decide_eq_true_eq, Bool.not_eq_true', decide_eq_false_iff_not, Bool.false_eq_true, if_false, if_true, mk_app, mk_len, sg_mk, mk_one, decide_true, decide_false, Bool.not_true, Bool.not_false, ite_true, ite_false, not_true_eq_false, not_false_eq_true, cxK, cutTo1, cutFrom1, mk_iff, tyV_str, stComp, List.map_cons, List.map_nil, Option.join_some, Option.join_none, gt_iff_lt, ge_iff_le, tRaise, tTryR, tCallH, tDisp, tPairs, tFld, sFld, tMake, tMeth, tAug, ipI, tDead, tBM0, if_false_right, and_self]
    refine isi_l ha ?_
    simp only [tSeq, tIfS, tRet, tRetN, tC, tVar, tOp, tUn, tTest, tB, tAnd, tOr, tNot, tAndV, tOrV, tNotV, tIf, tChain, tCons, tNil, tCall, tCB, tLst, tTup, tSl, tNoPart, tPart, gName, tNext, tDrop, tAsg, tAsgC, tBM, tYes, tDNewK, rI, rI0, rU, rEq, rNe, rAbs, rIntT, CDiv, add_ii, add_ss, mul_ii, mul_si, ix_si, eq_ii, eq_ss, eq_bb, ne_ii, ne_ss, ne_ni, ne_in, in_s1, notin_s1, is_xn, is_bb, isnot_xn, isnot_bb, sl_s, len_s, find_ss, index_ss, List.append_nil, List.cons_append, List.nil_append, List.getElem?_cons_succ, List.getElem?_cons_zero, List.set_cons_succ, List.set_cons_zero, Option.some.injEq, V.int.injEq, V.bl.injEq, V.str.injEq, V.ref.injEq, V.ty.injEq, List.cons.injEq, and_true, true_and, exists_eq_left, exists_eq_left', exists_and_left, exists_eq', exists_const, exists_and_right, exists_eq_right, exists_eq_right', reduceCtorEq, false_and, and_false, exists_false, or_false, false_or, decide_eq_true_eq, Bool.not_eq_true', decide_eq_false_iff_not, Bool.false_eq_true, if_false, if_true, mk_app, mk_len, sg_mk, mk_one, decide_true, decide_false, Bool.not_true, Bool.not_false, ite_true, ite_false, not_true_eq_false, not_false_eq_true, cxK, cutTo1, cutFrom1, mk_iff, tyV_str, stComp, List.map_cons, List.map_nil, Option.join_some, Option.join_none, gt_iff_lt, ge_iff_le, tRaise, tTryR, tCallH, tDisp, tPairs, tFld, sFld, tMake, tMeth, tAug, ipI, tDead, tBM0, if_false_right, and_self]
    refine listL (SqL.of ha) fun l hl => ?_
    have s1 := Same.upd (Same.refl H) hl (o := .lst (ns.map V.int))
    have e1 : upd H l (.lst (ns.map V.int)) l = some (.lst (ns.map V.int)) := upd_same
    generalize upd H l (.lst (ns.map V.int)) = H1 at s1 e1 ⊢
    refine tcomp_list (a := l) (xs := ns.map V.int) H1 (fun R r => ⟨_, rfl, r⟩) (SqL.of e1) (fun v => [V.bl (numUp v 255)]) (· = H1) rfl rfl (fun H' e => by rw [e]; exact SqL.of e1) (sl1000 (by simp; omega)) (fun i x H' Cy Cn hx e cy cn => ?_) (fun H' r e hr => ?_)
    · subst H'
      simp only [tSeq, tIfS, tRet, tRetN, tC, tVar, tOp, tUn, tTest, tB, tAnd, tOr, tNot, tAndV, tOrV, tNotV, tIf, tChain, tCons, tNil, tCall, tCB, tLst, tTup, tSl, tNoPart, tPart, gName, tNext, tDrop, tAsg, tAsgC, tBM, tYes, tDNewK, rI, rI0, rU, rEq, rNe, rAbs, rIntT, CDiv, add_ii, add_ss, mul_ii, mul_si, ix_si, eq_ii, eq_ss, eq_bb, ne_ii, ne_ss, ne_ni, ne_in, in_s1, notin_s1, is_xn, is_bb, isnot_xn, isnot_bb, sl_s, len_s, find_ss, index_ss, List.append_nil, List.cons_append, List.nil_append, List.getElem?_cons_succ, List.getElem?_cons_zero, List.set_cons_succ, List.set_cons_zero, Option.some.injEq, V.int.injEq, V.bl.injEq, V.str.injEq, V.ref.injEq, V.ty.injEq, List.cons.injEq, and_true, true_and, exists_eq_left, exists_eq_left', exists_and_left, exists_eq', exists_const, exists_and_right, exists_eq_right, exists_eq_right', reduceCtorEq, false_and, and_false, exists_false, or_false, false_or, decide_eq_true_eq, Bool.not_eq_true', decide_eq_false_iff_not, Bool.false_eq_true, if_false, if_true, mk_app, mk_len, sg_mk, mk_one, decide_true, decide_false, Bool.not_true, Bool.not_false, ite_true, ite_false, not_true_eq_false, not_false_eq_true, cxK, cutTo1, cutFrom1, mk_iff, tyV_str, stComp, List.map_cons, List.map_nil, Option.join_some, Option.join_none, gt_iff_lt, ge_iff_le, tRaise, tTryR, tCallH, tDisp, tPairs, tFld, sFld, tMake, tMeth, tAug, ipI, tDead, tBM0, if_false_right, and_self]
      exact ⟨x, rfl, knw_ints x (List.mem_of_getElem? hx), cy _ _ rfl rfl⟩
    · subst H'
      refine allL (bs := (ns.map V.int).map (numUp · 255)) (SqL.of (by rw [upd_same, all_map])) ⟨_, rfl, ?_⟩
      rw [List.all_map]
      have s2 := Same.upd (Same.refl H1) hr (o := .lst ((ns.map V.int).flatMap (fun v => [V.bl (numUp v 255)])))
      rw [show ((ns.map V.int).all (id ∘ fun x => numUp x 255)) = true from allB.mp hb]
      exact q l _ hl (s1.trans s2) (s2 _ _ e1)
noncomputable def sp_two_of : Sp := fun vs H Q E => ∃ n, vs = [.int n] ∧ ∀ l, H l = none → Q (.ref l) (upd H l (.lst [.int (n / 256), .int (n % 256)]))
theorem sc_two_of : FnScope ["number"] ["number"] (defScope s_two_of) := ⟨rfl, rfl, rfl, by decide +kernel, rfl, by decide +kernel, by decide +kernel⟩
theorem ok_two_of (T : Txt K mg) : FnOk P w K mg base CX0 1 T.d_two_of.f T.d_two_of.fd ["number"] (sp_two_of) := by
  have nd := sc_two_of.nd
  refine T.d_two_of.F.ok sc_two_of (fun vs H Q E h => ?_) (fun cdv A outer s H vs Q E hr h => ?_)
  · obtain ⟨n, rfl, q⟩ := h
    rfl
  · obtain ⟨n, rfl, q⟩ := h
    have hu := hr.units0
    refine ⟨_, (pss_one (ps_ret (pe_lst (pa1 (pe_op op_fdiv (pv 0) pe_int) (pa1 (pe_op op_mod (pv 0) pe_int) pa_nil))))), ?_⟩
    rw [show start ["number"] [V.int n] = [some (V.int n)] from rfl]
    simp only [tSeq, tIfS, tRet, tRetN, tC, tVar, tOp, tUn, tTest, tB, tAnd, tOr, tNot, tAndV, tOrV, tNotV, tIf, tChain, tCons, tNil, tCall, tCB, tLst, tTup, tSl, tNoPart, tPart, gName, tNext, tDrop, tAsg, tAsgC, tBM, tYes, tDNewK, rI, rI0, rU, rEq, rNe, rAbs, rIntT, CDiv, add_ii, add_ss, mul_ii, mul_si, ix_si, eq_ii, eq_ss, eq_bb, ne_ii, ne_ss, ne_ni, ne_in, in_s1, notin_s1, is_xn, is_bb, isnot_xn, isnot_bb, sl_s, len_s, find_ss, index_ss, List.append_nil, List.cons_append, List.nil_append, List.getElem?_cons_succ, List.getElem?_cons_zero, List.set_cons_succ, List.set_cons_zero, Option.some.injEq, V.int.injEq, V.bl.injEq, V.str.injEq, V.ref.injEq, V.ty.injEq, List.cons.injEq, and_true, true_and, exists_eq_left, exists_eq_left', exists_and_left, exists_eq', exists_const, exists_and_right, exists_eq_right, exists_eq_right', reduceCtorEq, false_and, and_false, exists_false, or_false, false_or, decide_eq_true_eq, Bool.not_eq_true', decide_eq_false_iff_not, Bool.false_eq_true, if_false, if_true, mk_app, mk_len, sg_mk, mk_one, decide_true, decide_false, Bool.not_true, Bool.not_false, ite_true, ite_false, not_true_eq_false, not_false_eq_true, cxK, cutTo1, cutFrom1, mk_iff, tyV_str, stComp, List.map_cons, List.map_nil, Option.join_some, Option.join_none, gt_iff_lt, ge_iff_le, tRaise, tTryR, tCallH, tDisp, tPairs, tFld, sFld, tMake, tMeth, tAug, ipI, tDead, tBM0, if_false_right, and_self]
    exact ⟨⟨by decide, by decide⟩, by decide, by show 2 ≤ sizeLine; exact sl1000 (by decide), q⟩
noncomputable def sp_word_in (K : PySem.W.Frag) : Sp := fun vs H Q E => ∃ a xs p u v, vs = [.ref a, .int p] ∧ SqL K H a xs ∧ atI xs p = some (.int u) ∧ atI xs (p + 1) = some (.int v) ∧ Q (.int (u * 256 + v)) H
theorem sc_word_in : FnScope ["row", "place"] ["row", "place"] (defScope s_word_in) := ⟨rfl, rfl, rfl, by decide +kernel, rfl, by decide +kernel, by decide +kernel⟩
theorem ok_word_in (T : Txt K mg) : FnOk P w K mg base CX0 1 T.d_word_in.f T.d_word_in.fd ["row", "place"] (sp_word_in K) := by
  have nd := sc_word_in.nd
  refine T.d_word_in.F.ok sc_word_in (fun vs H Q E h => ?_) (fun cdv A outer s H vs Q E hr h => ?_)
  · obtain ⟨a, xs, p, u, v, rfl, hq, e1, e2, q⟩ := h
    rfl
  · obtain ⟨a, xs, p, u, v, rfl, hq, e1, e2, q⟩ := h
    have hu := hr.units0
    refine ⟨_, (pss_one (ps_ret (pe_op o_add (pe_op o_mul (pe_ix (o_ix (K := K)) (pv 0) (pv 1) (fun _ _ => rfl)) pe_int) (pe_ix (o_ix (K := K)) (pv 0) (pe_op o_add (pv 1) pe_int) (fun _ _ => rfl))))), ?_⟩
    rw [show start ["row", "place"] [V.ref a, V.int p] = [some (V.ref a), some (V.int p)] from rfl]
    simp only [tSeq, tIfS, tRet, tRetN, tC, tVar, tOp, tUn, tTest, tB, tAnd, tOr, tNot, tAndV, tOrV, tNotV, tIf, tChain, tCons, tNil, tCall, tCB, tLst, tTup, tSl, tNoPart, tPart, gName, tNext, tDrop, tAsg, tAsgC, tBM, tYes, tDNewK, rI, rI0, rU, rEq, rNe, rAbs, rIntT, CDiv, add_ii, add_ss, mul_ii, mul_si, ix_si, eq_ii, eq_ss, eq_bb, ne_ii, ne_ss, ne_ni, ne_in, in_s1, notin_s1, is_xn, is_bb, isnot_xn, isnot_bb, sl_s, len_s, find_ss, index_ss, List.append_nil, List.cons_append, List.nil_append, List.getElem?_cons_succ, List.getElem?_cons_zero, List.set_cons_succ, List.set_cons_zero, Option.some.injEq, V.int.injEq, V.bl.injEq, V.str.injEq, V.ref.injEq, V.ty.injEq, List.cons.injEq, and_true, true_and, exists_eq_left, exists_eq_left', exists_and_left, exists_eq', exists_const, exists_and_right, exists_eq_right, exists_eq_right', reduceCtorEq, false_and, and_false, exists_false, or_false, false_or, decide_eq_true_eq, Bool.not_eq_true', decide_eq_false_iff_not, Bool.false_eq_true, if_false, if_true, mk_app, mk_len, sg_mk, mk_one, decide_true, decide_false, Bool.not_true, Bool.not_false, ite_true, ite_false, not_true_eq_false, not_false_eq_true, cxK, cutTo1, cutFrom1, mk_iff, tyV_str, stComp, List.map_cons, List.map_nil, Option.join_some, Option.join_none, gt_iff_lt, ge_iff_le, tRaise, tTryR, tCallH, tDisp, tPairs, tFld, sFld, tMake, tMeth, tAug, ipI, tDead, tBM0, if_false_right, and_self]
    refine ixL hq e1 ?_
    simp only [tSeq, tIfS, tRet, tRetN, tC, tVar, tOp, tUn, tTest, tB, tAnd, tOr, tNot, tAndV, tOrV, tNotV, tIf, tChain, tCons, tNil, tCall, tCB, tLst, tTup, tSl, tNoPart, tPart, gName, tNext, tDrop, tAsg, tAsgC, tBM, tYes, tDNewK, rI, rI0, rU, rEq, rNe, rAbs, rIntT, CDiv, add_ii, add_ss, mul_ii, mul_si, ix_si, eq_ii, eq_ss, eq_bb, ne_ii, ne_ss, ne_ni, ne_in, in_s1, notin_s1, is_xn, is_bb, isnot_xn, isnot_bb, sl_s, len_s, find_ss, index_ss, List.append_nil, List.cons_append, List.nil_append, List.getElem?_cons_succ, List.getElem?_cons_zero, List.set_cons_succ, List.set_cons_zero, Option.some.injEq, V.int.injEq, V.bl.injEq, V.str.injEq, V.ref.injEq, V.ty.injEq, List.cons.injEq, and_true, true_and, exists_eq_left, exists_eq_left', exists_and_left, exists_eq', exists_const, exists_and_right, exists_eq_right, exists_eq_right', reduceCtorEq, false_and, and_false, exists_false, or_false, false_or, decide_eq_true_eq, Bool.not_eq_true', decide_eq_false_iff_not, Bool.false_eq_true, if_false, if_true, mk_app, mk_len, sg_mk, mk_one, decide_true, decide_false, Bool.not_true, Bool.not_false, ite_true, ite_false, not_true_eq_false, not_false_eq_true, cxK, cutTo1, cutFrom1, mk_iff, tyV_str, stComp, List.map_cons, List.map_nil, Option.join_some, Option.join_none, gt_iff_lt, ge_iff_le, tRaise, tTryR, tCallH, tDisp, tPairs, tFld, sFld, tMake, tMeth, tAug, ipI, tDead, tBM0, if_false_right, and_self]
    refine ⟨.inr ⟨by decide, by decide⟩, ixL hq e2 ?_⟩
    simp only [tSeq, tIfS, tRet, tRetN, tC, tVar, tOp, tUn, tTest, tB, tAnd, tOr, tNot, tAndV, tOrV, tNotV, tIf, tChain, tCons, tNil, tCall, tCB, tLst, tTup, tSl, tNoPart, tPart, gName, tNext, tDrop, tAsg, tAsgC, tBM, tYes, tDNewK, rI, rI0, rU, rEq, rNe, rAbs, rIntT, CDiv, add_ii, add_ss, mul_ii, mul_si, ix_si, eq_ii, eq_ss, eq_bb, ne_ii, ne_ss, ne_ni, ne_in, in_s1, notin_s1, is_xn, is_bb, isnot_xn, isnot_bb, sl_s, len_s, find_ss, index_ss, List.append_nil, List.cons_append, List.nil_append, List.getElem?_cons_succ, List.getElem?_cons_zero, List.set_cons_succ, List.set_cons_zero, Option.some.injEq, V.int.injEq, V.bl.injEq, V.str.injEq, V.ref.injEq, V.ty.injEq, List.cons.injEq, and_true, true_and, exists_eq_left, exists_eq_left', exists_and_left, exists_eq', exists_const, exists_and_right, exists_eq_right, exists_eq_right', reduceCtorEq, false_and, and_false, exists_false, or_false, false_or, decide_eq_true_eq, Bool.not_eq_true', decide_eq_false_iff_not, Bool.false_eq_true, if_false, if_true, mk_app, mk_len, sg_mk, mk_one, decide_true, decide_false, Bool.not_true, Bool.not_false, ite_true, ite_false, not_true_eq_false, not_false_eq_true, cxK, cutTo1, cutFrom1, mk_iff, tyV_str, stComp, List.map_cons, List.map_nil, Option.join_some, Option.join_none, gt_iff_lt, ge_iff_le, tRaise, tTryR, tCallH, tDisp, tPairs, tFld, sFld, tMake, tMeth, tAug, ipI, tDead, tBM0, if_false_right, and_self]
    exact q
noncomputable def sp_one_bit_left : Sp := fun vs H Q E => ∃ c : W, vs = [.int (c.toNat : Int)] ∧ Q (.int ((S c).toNat : Int)) H
theorem sc_one_bit_left : FnScope ["check", "moved"] ["check"] (defScope s_one_bit_left) := ⟨rfl, rfl, rfl, by decide +kernel, rfl, by decide +kernel, by decide +kernel⟩
theorem ok_one_bit_left (T : Txt K mg) : FnOk P w K mg base CX0 1 T.d_one_bit_left.f T.d_one_bit_left.fd ["check"] (sp_one_bit_left) := by
  have nd := sc_one_bit_left.nd
  refine T.d_one_bit_left.F.ok sc_one_bit_left (fun vs H Q E h => ?_) (fun cdv A outer s H vs Q E hr h => ?_)
  · obtain ⟨c, rfl, q⟩ := h
    rfl
  · obtain ⟨c, rfl, q⟩ := h
    have hu := hr.units0
    refine ⟨_, (pss_cons (ps_set (i := 1) nd rfl (Or.inl rfl) (pe_op o_mul (pv 0) pe_int))
      (pss_cons (ps_if (pt_cmpR op_lt (pv 1) pe_int (nomark _)) (pss_one (ps_ret (pv 1))) pss_nil)
      (pss_one (ps_ret (pe_op op_xor (pe_op op_sub (pv 1) pe_int) (pe_gl rfl T.c_LAID_OVER)))))), ?_⟩
    rw [show start ["check", "moved"] [V.int (c.toNat : Int)] = [some (V.int (c.toNat : Int)), none] from rfl]
    simp only [tSeq, tIfS, tRet, tRetN, tC, tVar, tOp, tUn, tTest, tB, tAnd, tOr, tNot, tAndV, tOrV, tNotV, tIf, tChain, tCons, tNil, tCall, tCB, tLst, tTup, tSl, tNoPart, tPart, gName, tNext, tDrop, tAsg, tAsgC, tBM, tYes, tDNewK, rI, rI0, rU, rEq, rNe, rAbs, rIntT, CDiv, add_ii, add_ss, mul_ii, mul_si, ix_si, eq_ii, eq_ss, eq_bb, ne_ii, ne_ss, ne_ni, ne_in, in_s1, notin_s1, is_xn, is_bb, isnot_xn, isnot_bb, sl_s, len_s, find_ss, index_ss, List.append_nil, List.cons_append, List.nil_append, List.getElem?_cons_succ, List.getElem?_cons_zero, List.set_cons_succ, List.set_cons_zero, Option.some.injEq, V.int.injEq, V.bl.injEq, V.str.injEq, V.ref.injEq, V.ty.injEq, List.cons.injEq, and_true, true_and, exists_eq_left, exists_eq_left', exists_and_left, exists_eq', exists_const, exists_and_right, exists_eq_right, exists_eq_right', reduceCtorEq, false_and, and_false, exists_false, or_false, false_or, decide_eq_true_eq, Bool.not_eq_true', decide_eq_false_iff_not, Bool.false_eq_true, if_false, if_true, mk_app, mk_len, sg_mk, mk_one, decide_true, decide_false, Bool.not_true, Bool.not_false, ite_true, ite_false, not_true_eq_false, not_false_eq_true, cxK, cutTo1, cutFrom1, mk_iff, tyV_str, stComp, List.map_cons, List.map_nil, Option.join_some, Option.join_none, gt_iff_lt, ge_iff_le, tRaise, tTryR, tCallH, tDisp, tPairs, tFld, sFld, tMake, tMeth, tAug, ipI, tDead, tBM0, if_false_right, and_self]
    rw [obl_S] at q
    by_cases h : (c.toNat : Int) * 2 < 65536
    · rw [if_pos h] at q ⊢
      exact ⟨.inr ⟨by omega, by omega⟩, q⟩
    · rw [if_neg h] at q ⊢
      exact ⟨.inr ⟨by omega, by omega⟩, q⟩
noncomputable def sp_check_of (K : PySem.W.Frag) : Sp := fun vs H Q E => ∃ (a : Addr) (ns : List Int), vs = [.ref a] ∧ SqL K H a (ns.map V.int) ∧ IsB ns ∧ Q (.int ((crc ns).toNat : Int)) H
theorem sc_check_of : FnScope ["row", "check", "byte", "turn"] ["row"] (defScope s_check_of) := ⟨rfl, rfl, rfl, by decide +kernel, rfl, by decide +kernel, by decide +kernel⟩
theorem ok_check_of (T : Txt K mg) : FnOk P w K mg base CX0 2 T.d_check_of.f T.d_check_of.fd ["row"] (sp_check_of K) := by
  have nd := sc_check_of.nd
  refine T.d_check_of.F.ok sc_check_of (fun vs H Q E h => ?_) (fun cdv A outer s H vs Q E hr h => ?_)
  · obtain ⟨a, ns, rfl, hq, hb, q⟩ := h
    rfl
  · obtain ⟨a, ns, rfl, hq, hb, q⟩ := h
    have hu := hr.units0
    refine ⟨_, (pss_cons (ps_set (i := 1) nd rfl (Or.inl rfl) (pe_gl rfl T.c_FIRST_CHECK))
      (pss_cons (ps_for PassesOwn.never rfl (pi_listK (K := K) (pv 0)) (pg_name (i := 2) nd rfl (Or.inl rfl))
        (pss_cons (ps_set (i := 1) nd rfl (Or.inl rfl) (pe_op op_xor (pv 1) (pe_op o_mul (pv 2) pe_int)))
      (pss_one (ps_for PassesOwn.never rfl (pi_range1 rfl T.n_range (pa1 pe_int pa_nil)) (pg_name (i := 3) nd rfl (Or.inl rfl))
        (pss_one (ps_set (i := 1) nd rfl (Or.inl rfl) (pc1 T.d_one_bit_left (ok_one_bit_left T) (hr.mono (by decide)) (pa1 (pv 1) pa_nil))))))))
      (pss_one (ps_ret (pv 1))))), ?_⟩
    rw [show start ["row", "check", "byte", "turn"] [V.ref a] = [some (V.ref a), none, none, none] from rfl]
    simp only [tSeq, tIfS, tRet, tRetN, tC, tVar, tOp, tUn, tTest, tB, tAnd, tOr, tNot, tAndV, tOrV, tNotV, tIf, tChain, tCons, tNil, tCall, tCB, tLst, tTup, tSl, tNoPart, tPart, gName, tNext, tDrop, tAsg, tAsgC, tBM, tYes, tDNewK, rI, rI0, rU, rEq, rNe, rAbs, rIntT, CDiv, add_ii, add_ss, mul_ii, mul_si, ix_si, eq_ii, eq_ss, eq_bb, ne_ii, ne_ss, ne_ni, ne_in, in_s1, notin_s1, is_xn, is_bb, isnot_xn, isnot_bb, sl_s, len_s, find_ss, index_ss, List.append_nil, List.cons_append, List.nil_append, List.getElem?_cons_succ, List.getElem?_cons_zero, List.set_cons_succ, List.set_cons_zero, Option.some.injEq, V.int.injEq, V.bl.injEq, V.str.injEq, V.ref.injEq, V.ty.injEq, List.cons.injEq, and_true, true_and, exists_eq_left, exists_eq_left', exists_and_left, exists_eq', exists_const, exists_and_right, exists_eq_right, exists_eq_right', reduceCtorEq, false_and, and_false, exists_false, or_false, false_or, decide_eq_true_eq, Bool.not_eq_true', decide_eq_false_iff_not, Bool.false_eq_true, if_false, if_true, mk_app, mk_len, sg_mk, mk_one, decide_true, decide_false, Bool.not_true, Bool.not_false, ite_true, ite_false, not_true_eq_false, not_false_eq_true, cxK, cutTo1, cutFrom1, mk_iff, tyV_str, stComp, List.map_cons, List.map_nil, Option.join_some, Option.join_none, gt_iff_lt, ge_iff_le, tRaise, tTryR, tCallH, tDisp, tPairs, tFld, sFld, tMake, tMeth, tAug, ipI, tDead, tBM0, if_false_right, and_self]
    refine tfor_list (a := a) (xs := ns.map V.int) (fun R r => ⟨_, rfl, r⟩) hq (fun i σ H' => H' = H ∧ ∃ v1 v2, σ = [some (V.ref a), some (V.int ((crc (ns.take i)).toNat : Int)), v1, v2]) ⟨rfl, none, none, rfl⟩ (fun i σ H' p => by rw [p.1]; exact hq) ?_ ?_
    · rintro i x σ H' hx ⟨e0, v1, v2, rfl⟩
      subst H'
      rw [List.getElem?_map] at hx
      cases e : ns[i]? with
      | none => rw [e] at hx; cases hx
      | some n =>
        rw [e] at hx
        cases hx
        have hn := hb n (List.mem_of_getElem? e)
        simp only [tSeq, tIfS, tRet, tRetN, tC, tVar, tOp, tUn, tTest, tB, tAnd, tOr, tNot, tAndV, tOrV, tNotV, tIf, tChain, tCons, tNil, tCall, tCB, tLst, tTup, tSl, tNoPart, tPart, gName, tNext, tDrop, tAsg, tAsgC, tBM, tYes, tDNewK, rI, rI0, rU, rEq, rNe, rAbs, rIntT, CDiv, add_ii, add_ss, mul_ii, mul_si, ix_si, eq_ii, eq_ss, eq_bb, ne_ii, ne_ss, ne_ni, ne_in, in_s1, notin_s1, is_xn, is_bb, isnot_xn, isnot_bb, sl_s, len_s, find_ss, index_ss, List.append_nil, List.cons_append, List.nil_append, List.getElem?_cons_succ, List.getElem?_cons_zero, List.set_cons_succ, List.set_cons_zero, Option.some.injEq, V.int.injEq, V.bl.injEq, V.str.injEq, V.ref.injEq, V.ty.injEq, List.cons.injEq, and_true, true_and, exists_eq_left, exists_eq_left', exists_and_left, exists_eq', exists_const, exists_and_right, exists_eq_right, exists_eq_right', reduceCtorEq, false_and, and_false, exists_false, or_false, false_or, decide_eq_true_eq, Bool.not_eq_true', decide_eq_false_iff_not, Bool.false_eq_true, if_false, if_true, mk_app, mk_len, sg_mk, mk_one, decide_true, decide_false, Bool.not_true, Bool.not_false, ite_true, ite_false, not_true_eq_false, not_false_eq_true, cxK, cutTo1, cutFrom1, mk_iff, tyV_str, stComp, List.map_cons, List.map_nil, Option.join_some, Option.join_none, gt_iff_lt, ge_iff_le, tRaise, tTryR, tCallH, tDisp, tPairs, tFld, sFld, tMake, tMeth, tAug, ipI, tDead, tBM0, if_false_right, and_self]
        refine ⟨.inr ⟨by decide, by decide⟩, ?_⟩
        rw [lay_hi _ hn.1 hn.2]
        refine tfor_rng 8 (by decide) (by decide) (fun R r => r) (fun j σ H' => H' = H ∧ ∃ v2, σ = [some (V.ref a), some (V.int ((Sn j (crc (ns.take i) ^^^ hi n)).toNat : Int)), some (V.int n), v2]) ⟨rfl, v2, rfl⟩ ?_ ?_
        · rintro j σ H' hj ⟨e0, v2, rfl⟩
          subst H'
          simp only [tSeq, tIfS, tRet, tRetN, tC, tVar, tOp, tUn, tTest, tB, tAnd, tOr, tNot, tAndV, tOrV, tNotV, tIf, tChain, tCons, tNil, tCall, tCB, tLst, tTup, tSl, tNoPart, tPart, gName, tNext, tDrop, tAsg, tAsgC, tBM, tYes, tDNewK, rI, rI0, rU, rEq, rNe, rAbs, rIntT, CDiv, add_ii, add_ss, mul_ii, mul_si, ix_si, eq_ii, eq_ss, eq_bb, ne_ii, ne_ss, ne_ni, ne_in, in_s1, notin_s1, is_xn, is_bb, isnot_xn, isnot_bb, sl_s, len_s, find_ss, index_ss, List.append_nil, List.cons_append, List.nil_append, List.getElem?_cons_succ, List.getElem?_cons_zero, List.set_cons_succ, List.set_cons_zero, Option.some.injEq, V.int.injEq, V.bl.injEq, V.str.injEq, V.ref.injEq, V.ty.injEq, List.cons.injEq, and_true, true_and, exists_eq_left, exists_eq_left', exists_and_left, exists_eq', exists_const, exists_and_right, exists_eq_right, exists_eq_right', reduceCtorEq, false_and, and_false, exists_false, or_false, false_or, decide_eq_true_eq, Bool.not_eq_true', decide_eq_false_iff_not, Bool.false_eq_true, if_false, if_true, mk_app, mk_len, sg_mk, mk_one, decide_true, decide_false, Bool.not_true, Bool.not_false, ite_true, ite_false, not_true_eq_false, not_false_eq_true, cxK, cutTo1, cutFrom1, mk_iff, tyV_str, stComp, List.map_cons, List.map_nil, Option.join_some, Option.join_none, gt_iff_lt, ge_iff_le, tRaise, tTryR, tCallH, tDisp, tPairs, tFld, sFld, tMake, tMeth, tAug, ipI, tDead, tBM0, if_false_right, and_self]
          exact ⟨_, rfl, rfl, by rw [Sn_snoc]⟩
        · rintro σ H' ⟨e0, v2, rfl⟩
          subst H'
          refine ⟨rfl, some (V.int n), v2, ?_⟩
          rw [show (8 : Int).toNat = 8 from rfl, byte_run _ hn.1 hn.2, ← crc_snoc, List.take_add_one, e]
          rfl
    · rintro σ H' ⟨rfl, v1, v2, rfl⟩
      simp only [tSeq, tIfS, tRet, tRetN, tC, tVar, tOp, tUn, tTest, tB, tAnd, tOr, tNot, tAndV, tOrV, tNotV, tIf, tChain, tCons, tNil, tCall, tCB, tLst, tTup, tSl, tNoPart, tPart, gName, tNext, tDrop, tAsg, tAsgC, tBM, tYes, tDNewK, rI, rI0, rU, rEq, rNe, rAbs, rIntT, CDiv, add_ii, add_ss, mul_ii, mul_si, ix_si, eq_ii, eq_ss, eq_bb, ne_ii, ne_ss, ne_ni, ne_in, in_s1, notin_s1, is_xn, is_bb, isnot_xn, isnot_bb, sl_s, len_s, find_ss, index_ss, List.append_nil, List.cons_append, List.nil_append, List.getElem?_cons_succ, List.getElem?_cons_zero, List.set_cons_succ, List.set_cons_zero, Option.some.injEq, V.int.injEq, V.bl.injEq, V.str.injEq, V.ref.injEq, V.ty.injEq, List.cons.injEq, and_true, true_and, exists_eq_left, exists_eq_left', exists_and_left, exists_eq', exists_const, exists_and_right, exists_eq_right, exists_eq_right', reduceCtorEq, false_and, and_false, exists_false, or_false, false_or, decide_eq_true_eq, Bool.not_eq_true', decide_eq_false_iff_not, Bool.false_eq_true, if_false, if_true, mk_app, mk_len, sg_mk, mk_one, decide_true, decide_false, Bool.not_true, Bool.not_false, ite_true, ite_false, not_true_eq_false, not_false_eq_true, cxK, cutTo1, cutFrom1, mk_iff, tyV_str, stComp, List.map_cons, List.map_nil, Option.join_some, Option.join_none, gt_iff_lt, ge_iff_le, tRaise, tTryR, tCallH, tDisp, tPairs, tFld, sFld, tMake, tMeth, tAug, ipI, tDead, tBM0, if_false_right, and_self]
      rw [List.length_map, List.take_length]
      exact q
noncomputable def sp_sealed (K : PySem.W.Frag) : Sp := fun vs H Q E => ∃ (a : Addr) (ns : List Int), vs = [.ref a] ∧ SqL K H a (ns.map V.int) ∧ IsB ns ∧ ns.length ≤ 900 ∧ ∀ l H', H l = none → Same H H' → H' l = some (.lst ((ns ++ [((crc ns).toNat : Int) / 256, ((crc ns).toNat : Int) % 256]).map V.int)) → Q (.ref l) H'
theorem sc_sealed : FnScope ["row"] ["row"] (defScope s_sealed) := ⟨rfl, rfl, rfl, by decide +kernel, rfl, by decide +kernel, by decide +kernel⟩
theorem ok_sealed (T : Txt K mg) : FnOk P w K mg base CX0 3 T.d_sealed.f T.d_sealed.fd ["row"] (sp_sealed K) := by
  have nd := sc_sealed.nd
  refine T.d_sealed.F.ok sc_sealed (fun vs H Q E h => ?_) (fun cdv A outer s H vs Q E hr h => ?_)
  · obtain ⟨a, ns, rfl, hq, hb, hl, q⟩ := h
    rfl
  · obtain ⟨a, ns, rfl, hq, hb, hl, q⟩ := h
    have hu := hr.units0
    refine ⟨_, (pss_one (ps_ret (pe_op o_add (pcT (call_listK (K := K)) rfl T.n_list (by kernel_rfl) (pa1 (pv 0) pa_nil)) (pc1 T.d_two_of (ok_two_of T) (hr.mono (by decide)) (pa1 (pc1 T.d_check_of (ok_check_of T) (hr.mono (by decide)) (pa1 (pv 0) pa_nil)) pa_nil))))), ?_⟩
    rw [show start ["row"] [V.ref a] = [some (V.ref a)] from rfl]
    simp only [tSeq, tIfS, tRet, tRetN, tC, tVar, tOp, tUn, tTest, tB, tAnd, tOr, tNot, tAndV, tOrV, tNotV, tIf, tChain, tCons, tNil, tCall, tCB, tLst, tTup, tSl, tNoPart, tPart, gName, tNext, tDrop, tAsg, tAsgC, tBM, tYes, tDNewK, rI, rI0, rU, rEq, rNe, rAbs, rIntT, CDiv, add_ii, add_ss, mul_ii, mul_si, ix_si, eq_ii, eq_ss, eq_bb, ne_ii, ne_ss, ne_ni, ne_in, in_s1, notin_s1, is_xn, is_bb, isnot_xn, isnot_bb, sl_s, len_s, find_ss, index_ss, List.append_nil, List.cons_append, List.nil_append, List.getElem?_cons_succ, List.getElem?_cons_zero, List.set_cons_succ, List.set_cons_zero, Option.some.injEq, V.int.injEq, V.bl.injEq, V.str.injEq, V.ref.injEq, V.ty.injEq, List.cons.injEq, and_true, true_and, exists_eq_left, exists_eq_left', exists_and_left, exists_eq', exists_const, exists_and_right, exists_eq_right, exists_eq_right', reduceCtorEq, false_and, and_false, exists_false, or_false, false_or, decide_eq_true_eq, Bool.not_eq_true', decide_eq_false_iff_not, Bool.false_eq_true, if_false, if_true, mk_app, mk_len, sg_mk, mk_one, decide_true, decide_false, Bool.not_true, Bool.not_false, ite_true, ite_false, not_true_eq_false, not_false_eq_true, cxK, cutTo1, cutFrom1, mk_iff, tyV_str, stComp, List.map_cons, List.map_nil, Option.join_some, Option.join_none, gt_iff_lt, ge_iff_le, tRaise, tTryR, tCallH, tDisp, tPairs, tFld, sFld, tMake, tMeth, tAug, ipI, tDead, tBM0, if_false_right, and_self]
    refine listL hq fun l h1 => ?_
    have s1 := Same.upd (Same.refl H) h1 (o := .lst (ns.map V.int))
    refine ⟨a, ns, rfl, s1.seq hq, hb, ⟨_, rfl, fun l2 h2 => ?_⟩⟩
    have s2 := Same.upd s1 h2 (o := .lst [V.int (((crc ns).toNat : Int) / 256), V.int (((crc ns).toNat : Int) % 256)])
    have e1 := Same.upd (Same.refl _) h2 (o := .lst [V.int (((crc ns).toNat : Int) / 256), V.int (((crc ns).toNat : Int) % 256)]) l _ upd_same
    refine catL e1 upd_same (sl1000 (by simp; omega)) fun l3 h3 => q l3 _ (s2.no h3) (Same.upd s2 h3) ?_
    rw [upd_same, List.map_append]
    rfl
noncomputable def sp_opened (K : PySem.W.Frag) : Sp := fun vs H Q E => ∃ (a : Addr) (inn : List Int), vs = [.ref a] ∧ H a = some (.lst ((inn ++ two ((crc inn).toNat : Int)).map V.int)) ∧ IsB inn ∧ inn.length ≤ 990 ∧ ∀ l H', H l = none → Same H H' → H' l = some (.lst (inn.map V.int)) → Q (.ref l) H'
theorem sc_opened : FnScope ["row", "whole", "inner"] ["row"] (defScope s_opened) := ⟨rfl, rfl, rfl, by decide +kernel, rfl, by decide +kernel, by decide +kernel⟩
theorem ok_opened (T : Txt K mg) : FnOk P w K mg base CX0 4 T.d_opened.f T.d_opened.fd ["row"] (sp_opened K) := by
  have nd := sc_opened.nd
  refine T.d_opened.F.ok sc_opened (fun vs H Q E h => ?_) (fun cdv A outer s H vs Q E hr h => ?_)
  · obtain ⟨a, inn, rfl, ha, hb, hlen, q⟩ := h
    rfl
  · obtain ⟨a, inn, rfl, ha, hb, hlen, q⟩ := h
    have hu := hr.units0
    refine ⟨_, (pss_cons (ps_set (i := 1) nd rfl (Or.inl rfl) (pc1 T.d_need_bytes (ok_need_bytes T) (hr.mono (by decide)) (pa1 (pv 0) pa_nil)))
      (pss_cons (ps_if (pt_cmpR op_lt (pcB (o_len (K := K)) rfl T.n_len (by kernel_rfl) (pa1 (pv 1) pa_nil)) pe_int (nomark _)) (pss_one ps_dead) pss_nil)
      (pss_cons (ps_set (i := 2) nd rfl (Or.inl rfl) (pe_slice (o_sl (K := K)) (pv 1) po_none (po_some (pe_un un_neg pe_int))))
      (pss_cons (ps_if (pt_cmpR (o_ne (K := K) hu) (pc1 T.d_check_of (ok_check_of T) (hr.mono (by decide)) (pa1 (pv 2) pa_nil)) (pc1 T.d_word_in (ok_word_in T) (hr.mono (by decide)) (pa1 (pv 1) (pa1 (pcB (o_len (K := K)) rfl T.n_len (by kernel_rfl) (pa1 (pv 2) pa_nil)) pa_nil))) (nomark _)) (pss_one ps_dead) pss_nil)
      (pss_one (ps_ret (pv 2))))))), ?_⟩
    rw [show start ["row", "whole", "inner"] [V.ref a] = [some (V.ref a), none, none] from rfl]
    have hc := crc_lt inn
    have lall : (inn ++ two ((crc inn).toNat : Int)).length = inn.length + 2 := by simp [two]
    simp only [tSeq, tIfS, tRet, tRetN, tC, tVar, tOp, tUn, tTest, tB, tAnd, tOr, tNot, tAndV, tOrV, tNotV, tIf, tChain, tCons, tNil, tCall, tCB, tLst, tTup, tSl, tNoPart, tPart, gName, tNext, tDrop, tAsg, tAsgC, tBM, tYes, tDNewK, rI, rI0, rU, rEq, rNe, rAbs, rIntT, CDiv, add_ii, add_ss, mul_ii, mul_si, ix_si, eq_ii, eq_ss, eq_bb, ne_ii, ne_ss, ne_ni, ne_in, in_s1, notin_s1, is_xn, is_bb, isnot_xn, isnot_bb, sl_s, len_s, find_ss, index_ss, List.append_nil, List.cons_append, List.nil_append, List.getElem?_cons_succ, List.getElem?_cons_zero, List.set_cons_succ, List.set_cons_zero, Option.some.injEq, V.int.injEq, V.bl.injEq, V.str.injEq, V.ref.injEq, V.ty.injEq, List.cons.injEq, and_true, true_and, exists_eq_left, exists_eq_left', exists_and_left, exists_eq', exists_const, exists_and_right, exists_eq_right, exists_eq_right', reduceCtorEq, false_and, and_false, exists_false, or_false, false_or, decide_eq_true_eq, Bool.not_eq_true', decide_eq_false_iff_not, Bool.false_eq_true, if_false, if_true, mk_app, mk_len, sg_mk, mk_one, decide_true, decide_false, Bool.not_true, Bool.not_false, ite_true, ite_false, not_true_eq_false, not_false_eq_true, cxK, cutTo1, cutFrom1, mk_iff, tyV_str, stComp, List.map_cons, List.map_nil, Option.join_some, Option.join_none, gt_iff_lt, ge_iff_le, tRaise, tTryR, tCallH, tDisp, tPairs, tFld, sFld, tMake, tMeth, tAug, ipI, tDead, tBM0, if_false_right, and_self]
    refine ⟨a, _, rfl, ha, IsB.app hb (two_b (by omega) (by omega)), by omega, fun l H1 hl s0 el => ?_⟩
    refine lenL (SqL.of el) ?_
    simp only [tSeq, tIfS, tRet, tRetN, tC, tVar, tOp, tUn, tTest, tB, tAnd, tOr, tNot, tAndV, tOrV, tNotV, tIf, tChain, tCons, tNil, tCall, tCB, tLst, tTup, tSl, tNoPart, tPart, gName, tNext, tDrop, tAsg, tAsgC, tBM, tYes, tDNewK, rI, rI0, rU, rEq, rNe, rAbs, rIntT, CDiv, add_ii, add_ss, mul_ii, mul_si, ix_si, eq_ii, eq_ss, eq_bb, ne_ii, ne_ss, ne_ni, ne_in, in_s1, notin_s1, is_xn, is_bb, isnot_xn, isnot_bb, sl_s, len_s, find_ss, index_ss, List.append_nil, List.cons_append, List.nil_append, List.getElem?_cons_succ, List.getElem?_cons_zero, List.set_cons_succ, List.set_cons_zero, Option.some.injEq, V.int.injEq, V.bl.injEq, V.str.injEq, V.ref.injEq, V.ty.injEq, List.cons.injEq, and_true, true_and, exists_eq_left, exists_eq_left', exists_and_left, exists_eq', exists_const, exists_and_right, exists_eq_right, exists_eq_right', reduceCtorEq, false_and, and_false, exists_false, or_false, false_or, decide_eq_true_eq, Bool.not_eq_true', decide_eq_false_iff_not, Bool.false_eq_true, if_false, if_true, mk_app, mk_len, sg_mk, mk_one, decide_true, decide_false, Bool.not_true, Bool.not_false, ite_true, ite_false, not_true_eq_false, not_false_eq_true, cxK, cutTo1, cutFrom1, mk_iff, tyV_str, stComp, List.map_cons, List.map_nil, Option.join_some, Option.join_none, gt_iff_lt, ge_iff_le, tRaise, tTryR, tCallH, tDisp, tPairs, tFld, sFld, tMake, tMeth, tAug, ipI, tDead, tBM0, if_false_right, and_self]
    rw [if_neg (by rw [List.length_map]; omega)]
    have ecut : cutL ((inn ++ two ((crc inn).toNat : Int)).map V.int) none (some (-2)) = inn.map V.int := by
      rw [cut_m2 (by rw [List.length_map]; omega), List.length_map, lall, Nat.add_sub_cancel, ← List.map_take, List.take_left]
    refine slL (SqL.of el) fun p hp => ?_
    rw [ecut]
    have s1 := Same.upd s0 hp (o := .lst (inn.map V.int))
    have el1 := Same.upd (Same.refl _) hp (o := .lst (inn.map V.int)) l _ el
    have g1 : ((inn ++ two ((crc inn).toNat : Int)).map V.int)[inn.length]? = some (V.int (((crc inn).toNat : Int) / 256)) := by simp [two]
    have g2 : ((inn ++ two ((crc inn).toNat : Int)).map V.int)[inn.length + 1]? = some (V.int (((crc inn).toNat : Int) % 256)) := by simp [two]
    refine ⟨p, inn, rfl, SqL.of upd_same, hb, lenL (SqL.of upd_same) ⟨l, _, _, ((crc inn).toNat : Int) / 256, ((crc inn).toNat : Int) % 256, rfl, SqL.of el1, ?_, ?_, ne_ii.mpr ⟨_, rfl, ?_⟩⟩⟩
    · rw [List.length_map]
      exact atIn (by omega) (by rw [Int.toNat_natCast]; exact g1)
    · rw [List.length_map]
      exact atIn (by omega) (by rw [show ((inn.length : Int) + 1).toNat = inn.length + 1 by omega]; exact g2)
    · rw [two_w, decide_eq_true rfl]
      exact iteF (q p _ (s0.no hp) s1 upd_same)
noncomputable def sp_Image___init__ (T : Txt K mg) : Sp := fun vs H Q E => ∃ (p dx : Addr) (m : Int) (s b f : Addr) (ss bs fs : List V), vs = [.ref p, .int m, .ref s, .ref b, .ref f] ∧ H p = some (.ins T.x_Image dx []) ∧ H s = some (.lst ss) ∧ H b = some (.lst bs) ∧ H f = some (.lst fs) ∧ ∀ s' b' f' H', H s' = none → H b' = none → H f' = none → H' p = some (.ins T.x_Image dx (fldI m s' b' f')) → H' s' = some (.lst ss) → H' b' = some (.lst bs) → H' f' = some (.lst fs) → (∀ c o, H c = some o → c ≠ p → H' c = some o) → Q .non H'
theorem sc_Image___init__ : FnScope ["self", "main", "sections", "body", "far"] ["self", "main", "sections", "body", "far"] (defScope s_Image___init__) := ⟨rfl, rfl, rfl, by decide +kernel, rfl, by decide +kernel, by decide +kernel⟩
theorem ok_Image___init__ (T : Txt K mg) : FnOk P w K mg base CX0 1 T.d_Image___init__.f T.d_Image___init__.fd ["self", "main", "sections", "body", "far"] (sp_Image___init__ T) := by
  have nd := sc_Image___init__.nd
  refine T.d_Image___init__.F.ok sc_Image___init__ (fun vs H Q E h => ?_) (fun cdv A outer s H vs Q E hr h => ?_)
  · obtain ⟨p, dx, m, s, b, f, ss, bs, fs, rfl, hp, hs, hb, hf, q⟩ := h
    rfl
  · obtain ⟨p, dx, m, s, b, f, ss, bs, fs, rfl, hp, hs, hb, hf, q⟩ := h
    have hu := hr.units0
    refine ⟨_, (pss_cons (ps_fldK (K := K) (pv 0) (pv 1))
      (pss_cons (ps_fldK (K := K) (pv 0) (pcT (call_listK (K := K)) rfl T.n_list (by kernel_rfl) (pa1 (pv 2) pa_nil)))
      (pss_cons (ps_fldK (K := K) (pv 0) (pcT (call_listK (K := K)) rfl T.n_list (by kernel_rfl) (pa1 (pv 3) pa_nil)))
      (pss_one (ps_fldK (K := K) (pv 0) (pcT (call_listK (K := K)) rfl T.n_list (by kernel_rfl) (pa1 (pv 4) pa_nil))))))), ?_⟩
    rw [show start ["self", "main", "sections", "body", "far"] [V.ref p, V.int m, V.ref s, V.ref b, V.ref f] = [some (V.ref p), some (V.int m), some (V.ref s), some (V.ref b), some (V.ref f)] from rfl]
    simp only [tSeq, tIfS, tRet, tRetN, tC, tVar, tOp, tUn, tTest, tB, tAnd, tOr, tNot, tAndV, tOrV, tNotV, tIf, tChain, tCons, tNil, tCall, tCB, tLst, tTup, tSl, tNoPart, tPart, gName, tNext, tDrop, tAsg, tAsgC, tBM, tYes, tDNewK, rI, rI0, rU, rEq, rNe, rAbs, rIntT, CDiv, add_ii, add_ss, mul_ii, mul_si, ix_si, eq_ii, eq_ss, eq_bb, ne_ii, ne_ss, ne_ni, ne_in, in_s1, notin_s1, is_xn, is_bb, isnot_xn, isnot_bb, sl_s, len_s, find_ss, index_ss, List.append_nil, List.cons_append, List.nil_append, List.getElem?_cons_succ, List.getElem?_cons_zero, List.set_cons_succ, List.set_cons_zero, Option.some.injEq, V.int.injEq, V.bl.injEq, V.str.injEq, V.ref.injEq, V.ty.injEq, List.cons.injEq, and_true, true_and, exists_eq_left, exists_eq_left', exists_and_left, exists_eq', exists_const, exists_and_right, exists_eq_right, exists_eq_right', reduceCtorEq, false_and, and_false, exists_false, or_false, false_or, decide_eq_true_eq, Bool.not_eq_true', decide_eq_false_iff_not, Bool.false_eq_true, if_false, if_true, mk_app, mk_len, sg_mk, mk_one, decide_true, decide_false, Bool.not_true, Bool.not_false, ite_true, ite_false, not_true_eq_false, not_false_eq_true, cxK, cutTo1, cutFrom1, mk_iff, tyV_str, stComp, List.map_cons, List.map_nil, Option.join_some, Option.join_none, gt_iff_lt, ge_iff_le, tRaise, tTryR, tCallH, tDisp, tPairs, tFld, sFld, tMake, tMeth, tAug, ipI, tDead, tBM0, if_false_right, and_self]
    have ns := ne_ins hp hs (by intro _ _ _ z; cases z)
    have nb := ne_ins hp hb (by intro _ _ _ z; cases z)
    have nf := ne_ins hp hf (by intro _ _ _ z; cases z)
    refine ⟨_, dx, [], hp, T.oc_Image, T.nf_Image_main, (by show 0 < 1000; decide), listL (SqL.of (keepU hs ns)) fun s' ns' => ?_⟩
    obtain ⟨H1, k1, e1, x1⟩ := fld_new hp ns' (o := .lst ss)
    rw [x1]
    refine ⟨_, dx, _, k1.1, T.oc_Image, T.nf_Image_sections, (by show 1 < 1000; decide), listL (SqL.of (keepU (k1.2.1 _ _ hb nb) nb)) fun b' nb' => ?_⟩
    obtain ⟨H2, k2, e2, x2⟩ := fld_new k1.1 nb' (o := .lst bs)
    rw [x2]
    refine ⟨_, dx, _, k2.1, T.oc_Image, T.nf_Image_body, fl3 _ _, listL (SqL.of (keepU (k2.2.1 _ _ (k1.2.1 _ _ hf nf) nf) nf)) fun f' nf' => ?_⟩
    obtain ⟨H3, k3, e3, x3⟩ := fld_new k2.1 nf' (o := .lst fs)
    rw [x3]
    refine ⟨_, dx, _, k3.1, T.oc_Image, T.nf_Image_far, fl4 _ _ _, ?_⟩
    have p1 := ne_ins k1.1 e1 (by intro _ _ _ z; cases z)
    have p2 := ne_ins k2.1 e2 (by intro _ _ _ z; cases z)
    have p3 := ne_ins k3.1 e3 (by intro _ _ _ z; cases z)
    exact q s' b' f' _ (k1.2.2.1 _ ns') (k1.2.2.2 _ (k2.2.2.1 _ nb')) (k1.2.2.2 _ (k2.2.2.2 _ (k3.2.2.1 _ nf'))) upd_same (keepU (k3.2.1 _ _ (k2.2.1 _ _ e1 p1) p1) p1) (keepU (k3.2.1 _ _ e2 p2) p2) (keepU e3 p3) fun c o e nc => keepU (k3.2.1 _ _ (k2.2.1 _ _ (k1.2.1 _ _ e nc) nc) nc) nc
noncomputable def sp_need : Sp := fun vs H Q E => ∃ g x, vs = [.bl g, x] ∧ g = true ∧ Q .non H
theorem sc_need : FnScope ["good", "words"] ["good", "words"] (defScope s_need) := ⟨rfl, rfl, rfl, by decide +kernel, rfl, by decide +kernel, by decide +kernel⟩
theorem ok_need (T : Txt K mg) : FnOk P w K mg base CX0 1 T.d_need.f T.d_need.fd ["good", "words"] (sp_need) := by
  have nd := sc_need.nd
  refine T.d_need.F.ok sc_need (fun vs H Q E h => ?_) (fun cdv A outer s H vs Q E hr h => ?_)
  · obtain ⟨g, x, rfl, rfl, q⟩ := h
    rfl
  · obtain ⟨g, x, rfl, rfl, q⟩ := h
    have hu := hr.units0
    refine ⟨_, (pss_one (ps_if (pt_not (pt_val (pv 0))) (pss_one ps_dead) pss_nil)), ?_⟩
    rw [show start ["good", "words"] [V.bl true, x] = [some (V.bl true), some (x)] from rfl]
    simp only [tSeq, tIfS, tRet, tRetN, tC, tVar, tOp, tUn, tTest, tB, tAnd, tOr, tNot, tAndV, tOrV, tNotV, tIf, tChain, tCons, tNil, tCall, tCB, tLst, tTup, tSl, tNoPart, tPart, gName, tNext, tDrop, tAsg, tAsgC, tBM, tYes, tDNewK, rI, rI0, rU, rEq, rNe, rAbs, rIntT, CDiv, add_ii, add_ss, mul_ii, mul_si, ix_si, eq_ii, eq_ss, eq_bb, ne_ii, ne_ss, ne_ni, ne_in, in_s1, notin_s1, is_xn, is_bb, isnot_xn, isnot_bb, sl_s, len_s, find_ss, index_ss, List.append_nil, List.cons_append, List.nil_append, List.getElem?_cons_succ, List.getElem?_cons_zero, List.set_cons_succ, List.set_cons_zero, Option.some.injEq, V.int.injEq, V.bl.injEq, V.str.injEq, V.ref.injEq, V.ty.injEq, List.cons.injEq, and_true, true_and, exists_eq_left, exists_eq_left', exists_and_left, exists_eq', exists_const, exists_and_right, exists_eq_right, exists_eq_right', reduceCtorEq, false_and, and_false, exists_false, or_false, false_or, decide_eq_true_eq, Bool.not_eq_true', decide_eq_false_iff_not, Bool.false_eq_true, if_false, if_true, mk_app, mk_len, sg_mk, mk_one, decide_true, decide_false, Bool.not_true, Bool.not_false, ite_true, ite_false, not_true_eq_false, not_false_eq_true, cxK, cutTo1, cutFrom1, mk_iff, tyV_str, stComp, List.map_cons, List.map_nil, Option.join_some, Option.join_none, gt_iff_lt, ge_iff_le, tRaise, tTryR, tCallH, tDisp, tPairs, tFld, sFld, tMake, tMeth, tAug, ipI, tDead, tBM0, if_false_right, and_self]
    exact q
noncomputable def sp_Reader___init__ (T : Txt K mg) : Sp := fun vs H Q E => ∃ (p dx r : Addr) (xs : List V), vs = [.ref p, .ref r] ∧ H p = some (.ins T.x_Reader dx []) ∧ H r = some (.lst xs) ∧ ∀ c H', H c = none → H' p = some (.ins T.x_Reader dx (fldR c 0)) → H' c = some (.lst xs) → Stp p H H' → Q .non H'
theorem sc_Reader___init__ : FnScope ["self", "row"] ["self", "row"] (defScope s_Reader___init__) := ⟨rfl, rfl, rfl, by decide +kernel, rfl, by decide +kernel, by decide +kernel⟩
theorem ok_Reader___init__ (T : Txt K mg) : FnOk P w K mg base CX0 1 T.d_Reader___init__.f T.d_Reader___init__.fd ["self", "row"] (sp_Reader___init__ T) := by
  have nd := sc_Reader___init__.nd
  refine T.d_Reader___init__.F.ok sc_Reader___init__ (fun vs H Q E h => ?_) (fun cdv A outer s H vs Q E hr h => ?_)
  · obtain ⟨p, dx, r, xs, rfl, hp, hr', q⟩ := h
    rfl
  · obtain ⟨p, dx, r, xs, rfl, hp, hr', q⟩ := h
    have hu := hr.units0
    refine ⟨_, (pss_cons (ps_fldK (K := K) (pv 0) (pcT (call_listK (K := K)) rfl T.n_list (by kernel_rfl) (pa1 (pv 1) pa_nil)))
      (pss_one (ps_fldK (K := K) (pv 0) pe_int))), ?_⟩
    rw [show start ["self", "row"] [V.ref p, V.ref r] = [some (V.ref p), some (V.ref r)] from rfl]
    simp only [tSeq, tIfS, tRet, tRetN, tC, tVar, tOp, tUn, tTest, tB, tAnd, tOr, tNot, tAndV, tOrV, tNotV, tIf, tChain, tCons, tNil, tCall, tCB, tLst, tTup, tSl, tNoPart, tPart, gName, tNext, tDrop, tAsg, tAsgC, tBM, tYes, tDNewK, rI, rI0, rU, rEq, rNe, rAbs, rIntT, CDiv, add_ii, add_ss, mul_ii, mul_si, ix_si, eq_ii, eq_ss, eq_bb, ne_ii, ne_ss, ne_ni, ne_in, in_s1, notin_s1, is_xn, is_bb, isnot_xn, isnot_bb, sl_s, len_s, find_ss, index_ss, List.append_nil, List.cons_append, List.nil_append, List.getElem?_cons_succ, List.getElem?_cons_zero, List.set_cons_succ, List.set_cons_zero, Option.some.injEq, V.int.injEq, V.bl.injEq, V.str.injEq, V.ref.injEq, V.ty.injEq, List.cons.injEq, and_true, true_and, exists_eq_left, exists_eq_left', exists_and_left, exists_eq', exists_const, exists_and_right, exists_eq_right, exists_eq_right', reduceCtorEq, false_and, and_false, exists_false, or_false, false_or, decide_eq_true_eq, Bool.not_eq_true', decide_eq_false_iff_not, Bool.false_eq_true, if_false, if_true, mk_app, mk_len, sg_mk, mk_one, decide_true, decide_false, Bool.not_true, Bool.not_false, ite_true, ite_false, not_true_eq_false, not_false_eq_true, cxK, cutTo1, cutFrom1, mk_iff, tyV_str, stComp, List.map_cons, List.map_nil, Option.join_some, Option.join_none, gt_iff_lt, ge_iff_le, tRaise, tTryR, tCallH, tDisp, tPairs, tFld, sFld, tMake, tMeth, tAug, ipI, tDead, tBM0, if_false_right, and_self]
    refine listL (SqL.of hr') fun c nc => ?_
    have pc : p ≠ c := ne_of_none hp nc
    have hp1 : upd H c (.lst xs) p = some (.ins T.x_Reader dx []) := by rw [upd_ne pc]; exact hp
    refine ⟨_, dx, [], hp1, T.oc_Reader, T.nf_Reader_content, (by show 0 < 1000; decide), _, dx, _, upd_same, T.oc_Reader, T.nf_Reader_spot, (by show 1 < 1000; decide), ?_⟩
    rw [upd_upd]
    exact q c _ nc upd_same (by rw [upd_ne pc.symm, upd_same]) (((Stp.refl p H).new nc).own hp1)
noncomputable def sp_Reader_several (T : Txt K mg) : Sp := fun vs H Q E => ∃ (p dx c : Addr) (pre mid post : List Int), vs = [.ref p, .int (mid.length : Int)] ∧ H p = some (.ins T.x_Reader dx (fldR c pre.length)) ∧ H c = some (.lst ((pre ++ (mid ++ post)).map V.int)) ∧ ∀ l H', H l = none → H' l = some (.lst (mid.map V.int)) → Stp p H H' → H' p = some (.ins T.x_Reader dx (fldR c (pre ++ mid).length)) → Q (.ref l) H'
theorem sc_Reader_several : FnScope ["self", "size", "behind", "read"] ["self", "size"] (defScope s_Reader_several) := ⟨rfl, rfl, rfl, by decide +kernel, rfl, by decide +kernel, by decide +kernel⟩
theorem ok_Reader_several (T : Txt K mg) : FnOk P w K mg base CX0 2 T.d_Reader_several.f T.d_Reader_several.fd ["self", "size"] (sp_Reader_several T) := by
  have nd := sc_Reader_several.nd
  refine T.d_Reader_several.F.ok sc_Reader_several (fun vs H Q E h => ?_) (fun cdv A outer s H vs Q E hr h => ?_)
  · obtain ⟨p, dx, c, pre, mid, post, rfl, hp, hc, q⟩ := h
    rfl
  · obtain ⟨p, dx, c, pre, mid, post, rfl, hp, hc, q⟩ := h
    have hu := hr.units0
    refine ⟨_, (pss_cons (ps_set (i := 2) nd rfl (Or.inl rfl) (pe_op o_add (pe_fldK (K := K) (pv 0)) (pv 1)))
      (pss_cons (ps_expr (pc1 T.d_need (ok_need T) (hr.mono (by decide)) (pa1 (pe_cmpR op_le (pv 2) (pcB (o_len (K := K)) rfl T.n_len (by kernel_rfl) (pa1 (pe_fldK (K := K) (pv 0)) pa_nil)) (nomark _)) (pa1 pe_str pa_nil))))
      (pss_cons (ps_set (i := 3) nd rfl (Or.inl rfl) (pe_slice (o_sl (K := K)) (pe_fldK (K := K) (pv 0)) (po_some (pe_fldK (K := K) (pv 0))) (po_some (pv 2))))
      (pss_cons (ps_fldK (K := K) (pv 0) (pv 2))
      (pss_one (ps_ret (pv 3))))))), ?_⟩
    rw [show start ["self", "size", "behind", "read"] [V.ref p, V.int (mid.length : Int)] = [some (V.ref p), some (V.int (mid.length : Int)), none, none] from rfl]
    have NC : NoAttr K T.x_Reader "content" := T.nf_Reader_content
    have NS : NoAttr K T.x_Reader "spot" := T.nf_Reader_spot
    simp only [tSeq, tIfS, tRet, tRetN, tC, tVar, tOp, tUn, tTest, tB, tAnd, tOr, tNot, tAndV, tOrV, tNotV, tIf, tChain, tCons, tNil, tCall, tCB, tLst, tTup, tSl, tNoPart, tPart, gName, tNext, tDrop, tAsg, tAsgC, tBM, tYes, tDNewK, rI, rI0, rU, rEq, rNe, rAbs, rIntT, CDiv, add_ii, add_ss, mul_ii, mul_si, ix_si, eq_ii, eq_ss, eq_bb, ne_ii, ne_ss, ne_ni, ne_in, in_s1, notin_s1, is_xn, is_bb, isnot_xn, isnot_bb, sl_s, len_s, find_ss, index_ss, List.append_nil, List.cons_append, List.nil_append, List.getElem?_cons_succ, List.getElem?_cons_zero, List.set_cons_succ, List.set_cons_zero, Option.some.injEq, V.int.injEq, V.bl.injEq, V.str.injEq, V.ref.injEq, V.ty.injEq, List.cons.injEq, and_true, true_and, exists_eq_left, exists_eq_left', exists_and_left, exists_eq', exists_const, exists_and_right, exists_eq_right, exists_eq_right', reduceCtorEq, false_and, and_false, exists_false, or_false, false_or, decide_eq_true_eq, Bool.not_eq_true', decide_eq_false_iff_not, Bool.false_eq_true, if_false, if_true, mk_app, mk_len, sg_mk, mk_one, decide_true, decide_false, Bool.not_true, Bool.not_false, ite_true, ite_false, not_true_eq_false, not_false_eq_true, cxK, cutTo1, cutFrom1, mk_iff, tyV_str, stComp, List.map_cons, List.map_nil, Option.join_some, Option.join_none, gt_iff_lt, ge_iff_le, tRaise, tTryR, tCallH, tDisp, tPairs, tFld, sFld, tMake, tMeth, tAug, ipI, tDead, tBM0, if_false_right, and_self]
    refine ⟨_, dx, _, hp, T.oc_Reader, NS, _, fR_spot _ _, ?_⟩
    simp only [tSeq, tIfS, tRet, tRetN, tC, tVar, tOp, tUn, tTest, tB, tAnd, tOr, tNot, tAndV, tOrV, tNotV, tIf, tChain, tCons, tNil, tCall, tCB, tLst, tTup, tSl, tNoPart, tPart, gName, tNext, tDrop, tAsg, tAsgC, tBM, tYes, tDNewK, rI, rI0, rU, rEq, rNe, rAbs, rIntT, CDiv, add_ii, add_ss, mul_ii, mul_si, ix_si, eq_ii, eq_ss, eq_bb, ne_ii, ne_ss, ne_ni, ne_in, in_s1, notin_s1, is_xn, is_bb, isnot_xn, isnot_bb, sl_s, len_s, find_ss, index_ss, List.append_nil, List.cons_append, List.nil_append, List.getElem?_cons_succ, List.getElem?_cons_zero, List.set_cons_succ, List.set_cons_zero, Option.some.injEq, V.int.injEq, V.bl.injEq, V.str.injEq, V.ref.injEq, V.ty.injEq, List.cons.injEq, and_true, true_and, exists_eq_left, exists_eq_left', exists_and_left, exists_eq', exists_const, exists_and_right, exists_eq_right, exists_eq_right', reduceCtorEq, false_and, and_false, exists_false, or_false, false_or, decide_eq_true_eq, Bool.not_eq_true', decide_eq_false_iff_not, Bool.false_eq_true, if_false, if_true, mk_app, mk_len, sg_mk, mk_one, decide_true, decide_false, Bool.not_true, Bool.not_false, ite_true, ite_false, not_true_eq_false, not_false_eq_true, cxK, cutTo1, cutFrom1, mk_iff, tyV_str, stComp, List.map_cons, List.map_nil, Option.join_some, Option.join_none, gt_iff_lt, ge_iff_le, tRaise, tTryR, tCallH, tDisp, tPairs, tFld, sFld, tMake, tMeth, tAug, ipI, tDead, tBM0, if_false_right, and_self]
    refine ⟨_, dx, _, hp, T.oc_Reader, NC, _, fR_content _ _, lenL (SqL.of hc) ?_⟩
    simp only [tSeq, tIfS, tRet, tRetN, tC, tVar, tOp, tUn, tTest, tB, tAnd, tOr, tNot, tAndV, tOrV, tNotV, tIf, tChain, tCons, tNil, tCall, tCB, tLst, tTup, tSl, tNoPart, tPart, gName, tNext, tDrop, tAsg, tAsgC, tBM, tYes, tDNewK, rI, rI0, rU, rEq, rNe, rAbs, rIntT, CDiv, add_ii, add_ss, mul_ii, mul_si, ix_si, eq_ii, eq_ss, eq_bb, ne_ii, ne_ss, ne_ni, ne_in, in_s1, notin_s1, is_xn, is_bb, isnot_xn, isnot_bb, sl_s, len_s, find_ss, index_ss, List.append_nil, List.cons_append, List.nil_append, List.getElem?_cons_succ, List.getElem?_cons_zero, List.set_cons_succ, List.set_cons_zero, Option.some.injEq, V.int.injEq, V.bl.injEq, V.str.injEq, V.ref.injEq, V.ty.injEq, List.cons.injEq, and_true, true_and, exists_eq_left, exists_eq_left', exists_and_left, exists_eq', exists_const, exists_and_right, exists_eq_right, exists_eq_right', reduceCtorEq, false_and, and_false, exists_false, or_false, false_or, decide_eq_true_eq, Bool.not_eq_true', decide_eq_false_iff_not, Bool.false_eq_true, if_false, if_true, mk_app, mk_len, sg_mk, mk_one, decide_true, decide_false, Bool.not_true, Bool.not_false, ite_true, ite_false, not_true_eq_false, not_false_eq_true, cxK, cutTo1, cutFrom1, mk_iff, tyV_str, stComp, List.map_cons, List.map_nil, Option.join_some, Option.join_none, gt_iff_lt, ge_iff_le, tRaise, tTryR, tCallH, tDisp, tPairs, tFld, sFld, tMake, tMeth, tAug, ipI, tDead, tBM0, if_false_right, and_self]
    refine ⟨_, _, rfl, decide_eq_true (by rw [List.length_map, List.length_append, List.length_append]; omega), ?_⟩
    refine ⟨_, dx, _, hp, T.oc_Reader, NC, _, fR_content _ _, _, dx, _, hp, T.oc_Reader, NS, _, fR_spot _ _, _, rfl, slL (SqL.of hc) fun l nl => ?_⟩
    rw [cut_midM]
    have pl : p ≠ l := ne_of_none hp nl
    have hp1 : upd H l (.lst (mid.map V.int)) p = some (.ins T.x_Reader dx (fldR c pre.length)) := by rw [upd_ne pl]; exact hp
    refine ⟨_, dx, _, hp1, T.oc_Reader, NS, fR_len _ _, ?_⟩
    rw [fR_set2]
    exact q l _ nl (by rw [upd_ne pl.symm, upd_same]) (((Stp.refl p H).new nl).own hp1) upd_same
noncomputable def sp_Reader_byte (T : Txt K mg) : Sp := fun vs H Q E => ∃ (p dx c : Addr) (pre : List Int) (x : Int) (post : List Int), vs = [.ref p] ∧ H p = some (.ins T.x_Reader dx (fldR c pre.length)) ∧ H c = some (.lst ((pre ++ (x :: post)).map V.int)) ∧ ∀ H', Stp p H H' → H' p = some (.ins T.x_Reader dx (fldR c (pre ++ [x]).length)) → Q (.int x) H'
theorem sc_Reader_byte : FnScope ["self"] ["self"] (defScope s_Reader_byte) := ⟨rfl, rfl, rfl, by decide +kernel, rfl, by decide +kernel, by decide +kernel⟩
theorem ok_Reader_byte (T : Txt K mg) : FnOk P w K mg base CX0 3 T.d_Reader_byte.f T.d_Reader_byte.fd ["self"] (sp_Reader_byte T) := by
  have nd := sc_Reader_byte.nd
  refine T.d_Reader_byte.F.ok sc_Reader_byte (fun vs H Q E h => ?_) (fun cdv A outer s H vs Q E hr h => ?_)
  · obtain ⟨p, dx, c, pre, x, post, rfl, hp, hc, q⟩ := h
    rfl
  · obtain ⟨p, dx, c, pre, x, post, rfl, hp, hc, q⟩ := h
    have hu := hr.units0
    refine ⟨_, (pss_one (ps_ret (pe_ix (o_ix (K := K)) (pmt (pv 0) T.oc_Reader T.d_Reader_several (ok_Reader_several T) (hr.mono (by decide)) (pa1 pe_int pa_nil)) pe_int (fun _ _ => rfl)))), ?_⟩
    rw [show start ["self"] [V.ref p] = [some (V.ref p)] from rfl]
    simp only [tSeq, tIfS, tRet, tRetN, tC, tVar, tOp, tUn, tTest, tB, tAnd, tOr, tNot, tAndV, tOrV, tNotV, tIf, tChain, tCons, tNil, tCall, tCB, tLst, tTup, tSl, tNoPart, tPart, gName, tNext, tDrop, tAsg, tAsgC, tBM, tYes, tDNewK, rI, rI0, rU, rEq, rNe, rAbs, rIntT, CDiv, add_ii, add_ss, mul_ii, mul_si, ix_si, eq_ii, eq_ss, eq_bb, ne_ii, ne_ss, ne_ni, ne_in, in_s1, notin_s1, is_xn, is_bb, isnot_xn, isnot_bb, sl_s, len_s, find_ss, index_ss, List.append_nil, List.cons_append, List.nil_append, List.getElem?_cons_succ, List.getElem?_cons_zero, List.set_cons_succ, List.set_cons_zero, Option.some.injEq, V.int.injEq, V.bl.injEq, V.str.injEq, V.ref.injEq, V.ty.injEq, List.cons.injEq, and_true, true_and, exists_eq_left, exists_eq_left', exists_and_left, exists_eq', exists_const, exists_and_right, exists_eq_right, exists_eq_right', reduceCtorEq, false_and, and_false, exists_false, or_false, false_or, decide_eq_true_eq, Bool.not_eq_true', decide_eq_false_iff_not, Bool.false_eq_true, if_false, if_true, mk_app, mk_len, sg_mk, mk_one, decide_true, decide_false, Bool.not_true, Bool.not_false, ite_true, ite_false, not_true_eq_false, not_false_eq_true, cxK, cutTo1, cutFrom1, mk_iff, tyV_str, stComp, List.map_cons, List.map_nil, Option.join_some, Option.join_none, gt_iff_lt, ge_iff_le, tRaise, tTryR, tCallH, tDisp, tPairs, tFld, sFld, tMake, tMeth, tAug, ipI, tDead, tBM0, if_false_right, and_self]
    refine ⟨dx, _, hp, fR_no _ _ (by decide +kernel) (by decide +kernel), p, dx, c, pre, [x], post, rfl, hp, hc, fun l H1 nl el st hp1 => ?_⟩
    exact ixL (SqL.of el) (atIn (by decide) rfl) (q H1 st hp1)
noncomputable def sp_Reader_two (T : Txt K mg) : Sp := fun vs H Q E => ∃ (p dx c : Addr) (pre : List Int) (n : Int) (post : List Int), vs = [.ref p] ∧ H p = some (.ins T.x_Reader dx (fldR c pre.length)) ∧ H c = some (.lst ((pre ++ (two n ++ post)).map V.int)) ∧ ∀ H', Stp p H H' → H' p = some (.ins T.x_Reader dx (fldR c (pre ++ two n).length)) → Q (.int n) H'
theorem sc_Reader_two : FnScope ["self"] ["self"] (defScope s_Reader_two) := ⟨rfl, rfl, rfl, by decide +kernel, rfl, by decide +kernel, by decide +kernel⟩
theorem ok_Reader_two (T : Txt K mg) : FnOk P w K mg base CX0 3 T.d_Reader_two.f T.d_Reader_two.fd ["self"] (sp_Reader_two T) := by
  have nd := sc_Reader_two.nd
  refine T.d_Reader_two.F.ok sc_Reader_two (fun vs H Q E h => ?_) (fun cdv A outer s H vs Q E hr h => ?_)
  · obtain ⟨p, dx, c, pre, n, post, rfl, hp, hc, q⟩ := h
    rfl
  · obtain ⟨p, dx, c, pre, n, post, rfl, hp, hc, q⟩ := h
    have hu := hr.units0
    refine ⟨_, (pss_one (ps_ret (pcd1 T.d_word_in (ok_word_in T) (hr.mono (by decide)) (by exact T.dd_word_in) (pa1 (pmt (pv 0) T.oc_Reader T.d_Reader_several (ok_Reader_several T) (hr.mono (by decide)) (pa1 pe_int pa_nil)) pa_nil)))), ?_⟩
    rw [show start ["self"] [V.ref p] = [some (V.ref p)] from rfl]
    simp only [tSeq, tIfS, tRet, tRetN, tC, tVar, tOp, tUn, tTest, tB, tAnd, tOr, tNot, tAndV, tOrV, tNotV, tIf, tChain, tCons, tNil, tCall, tCB, tLst, tTup, tSl, tNoPart, tPart, gName, tNext, tDrop, tAsg, tAsgC, tBM, tYes, tDNewK, rI, rI0, rU, rEq, rNe, rAbs, rIntT, CDiv, add_ii, add_ss, mul_ii, mul_si, ix_si, eq_ii, eq_ss, eq_bb, ne_ii, ne_ss, ne_ni, ne_in, in_s1, notin_s1, is_xn, is_bb, isnot_xn, isnot_bb, sl_s, len_s, find_ss, index_ss, List.append_nil, List.cons_append, List.nil_append, List.getElem?_cons_succ, List.getElem?_cons_zero, List.set_cons_succ, List.set_cons_zero, Option.some.injEq, V.int.injEq, V.bl.injEq, V.str.injEq, V.ref.injEq, V.ty.injEq, List.cons.injEq, and_true, true_and, exists_eq_left, exists_eq_left', exists_and_left, exists_eq', exists_const, exists_and_right, exists_eq_right, exists_eq_right', reduceCtorEq, false_and, and_false, exists_false, or_false, false_or, decide_eq_true_eq, Bool.not_eq_true', decide_eq_false_iff_not, Bool.false_eq_true, if_false, if_true, mk_app, mk_len, sg_mk, mk_one, decide_true, decide_false, Bool.not_true, Bool.not_false, ite_true, ite_false, not_true_eq_false, not_false_eq_true, cxK, cutTo1, cutFrom1, mk_iff, tyV_str, stComp, List.map_cons, List.map_nil, Option.join_some, Option.join_none, gt_iff_lt, ge_iff_le, tRaise, tTryR, tCallH, tDisp, tPairs, tFld, sFld, tMake, tMeth, tAug, ipI, tDead, tBM0, if_false_right, and_self]
    refine ⟨dx, _, hp, fR_no _ _ (by decide +kernel) (by decide +kernel), p, dx, c, pre, two n, post, rfl, hp, hc, fun l H1 nl el st hp1 => ?_⟩
    refine ⟨l, _, 0, n / 256, n % 256, rfl, SqL.of el, atIn (by decide) rfl, atIn (by decide) rfl, ?_⟩
    rw [two_w]
    exact q H1 st hp1
noncomputable def sp_Reader_need_mark (T : Txt K mg) : Sp := fun vs H Q E => ∃ (p dx c a : Addr) (post : List Int), vs = [.ref p, .ref a] ∧ KTup K a [.int 105, .int 1] ∧ H p = some (.ins T.x_Reader dx (fldR c 0)) ∧ H c = some (.lst (([105, 1] ++ post).map V.int)) ∧ ∀ H', Stp p H H' → H' p = some (.ins T.x_Reader dx (fldR c 2)) → Q .non H'
theorem sc_Reader_need_mark : FnScope ["self", "mark"] ["self", "mark"] (defScope s_Reader_need_mark) := ⟨rfl, rfl, rfl, by decide +kernel, rfl, by decide +kernel, by decide +kernel⟩
theorem ok_Reader_need_mark (T : Txt K mg) : FnOk P w K mg base CX0 3 T.d_Reader_need_mark.f T.d_Reader_need_mark.fd ["self", "mark"] (sp_Reader_need_mark T) := by
  have nd := sc_Reader_need_mark.nd
  refine T.d_Reader_need_mark.F.ok sc_Reader_need_mark (fun vs H Q E h => ?_) (fun cdv A outer s H vs Q E hr h => ?_)
  · obtain ⟨p, dx, c, a, post, rfl, ka, hp, hc, q⟩ := h
    rfl
  · obtain ⟨p, dx, c, a, post, rfl, ka, hp, hc, q⟩ := h
    have hu := hr.units0
    refine ⟨_, (pss_one (ps_expr (pc1 T.d_need (ok_need T) (hr.mono (by decide)) (pa1 (pe_cmpR (o_eq (K := K) hu) (pmt (pv 0) T.oc_Reader T.d_Reader_several (ok_Reader_several T) (hr.mono (by decide)) (pa1 (pcB (o_len (K := K)) rfl T.n_len (by kernel_rfl) (pa1 (pv 1) pa_nil)) pa_nil)) (pcT (call_listK (K := K)) rfl T.n_list (by kernel_rfl) (pa1 (pv 1) pa_nil)) (nomark _)) (pa1 pe_str pa_nil))))), ?_⟩
    rw [show start ["self", "mark"] [V.ref p, V.ref a] = [some (V.ref p), some (V.ref a)] from rfl]
    simp only [tSeq, tIfS, tRet, tRetN, tC, tVar, tOp, tUn, tTest, tB, tAnd, tOr, tNot, tAndV, tOrV, tNotV, tIf, tChain, tCons, tNil, tCall, tCB, tLst, tTup, tSl, tNoPart, tPart, gName, tNext, tDrop, tAsg, tAsgC, tBM, tYes, tDNewK, rI, rI0, rU, rEq, rNe, rAbs, rIntT, CDiv, add_ii, add_ss, mul_ii, mul_si, ix_si, eq_ii, eq_ss, eq_bb, ne_ii, ne_ss, ne_ni, ne_in, in_s1, notin_s1, is_xn, is_bb, isnot_xn, isnot_bb, sl_s, len_s, find_ss, index_ss, List.append_nil, List.cons_append, List.nil_append, List.getElem?_cons_succ, List.getElem?_cons_zero, List.set_cons_succ, List.set_cons_zero, Option.some.injEq, V.int.injEq, V.bl.injEq, V.str.injEq, V.ref.injEq, V.ty.injEq, List.cons.injEq, and_true, true_and, exists_eq_left, exists_eq_left', exists_and_left, exists_eq', exists_const, exists_and_right, exists_eq_right, exists_eq_right', reduceCtorEq, false_and, and_false, exists_false, or_false, false_or, decide_eq_true_eq, Bool.not_eq_true', decide_eq_false_iff_not, Bool.false_eq_true, if_false, if_true, mk_app, mk_len, sg_mk, mk_one, decide_true, decide_false, Bool.not_true, Bool.not_false, ite_true, ite_false, not_true_eq_false, not_false_eq_true, cxK, cutTo1, cutFrom1, mk_iff, tyV_str, stComp, List.map_cons, List.map_nil, Option.join_some, Option.join_none, gt_iff_lt, ge_iff_le, tRaise, tTryR, tCallH, tDisp, tPairs, tFld, sFld, tMake, tMeth, tAug, ipI, tDead, tBM0, if_false_right, and_self]
    refine ⟨dx, _, hp, fR_no _ _ (by decide +kernel) (by decide +kernel), .inl ⟨a, _, rfl, .inr ka.sq, p, dx, c, [], [105, 1], post, rfl, hp, hc, fun l H1 nl el st hp1 => ?_⟩⟩
    refine ⟨a, _, rfl, .inr ka.sq, fun l2 n2 => ?_⟩
    refine eqLL_same (xs := [V.int 105, V.int 1]) (by rw [upd_ne (ne_of_none el n2)]; exact el) upd_same rfl ?_
    exact ⟨_, _, rfl, rfl, q _ (st.new n2) (by rw [upd_ne (ne_of_none hp1 n2)]; exact hp1)⟩
noncomputable def sp_Reader_need_end (T : Txt K mg) : Sp := fun vs H Q E => ∃ (p dx c : Addr) (xs : List V), vs = [.ref p] ∧ H p = some (.ins T.x_Reader dx (fldR c xs.length)) ∧ H c = some (.lst xs) ∧ Q .non H
theorem sc_Reader_need_end : FnScope ["self"] ["self"] (defScope s_Reader_need_end) := ⟨rfl, rfl, rfl, by decide +kernel, rfl, by decide +kernel, by decide +kernel⟩
theorem ok_Reader_need_end (T : Txt K mg) : FnOk P w K mg base CX0 2 T.d_Reader_need_end.f T.d_Reader_need_end.fd ["self"] (sp_Reader_need_end T) := by
  have nd := sc_Reader_need_end.nd
  refine T.d_Reader_need_end.F.ok sc_Reader_need_end (fun vs H Q E h => ?_) (fun cdv A outer s H vs Q E hr h => ?_)
  · obtain ⟨p, dx, c, xs, rfl, hp, hc, q⟩ := h
    rfl
  · obtain ⟨p, dx, c, xs, rfl, hp, hc, q⟩ := h
    have hu := hr.units0
    refine ⟨_, (pss_one (ps_expr (pc1 T.d_need (ok_need T) (hr.mono (by decide)) (pa1 (pe_cmpR (o_eq (K := K) hu) (pe_fldK (K := K) (pv 0)) (pcB (o_len (K := K)) rfl T.n_len (by kernel_rfl) (pa1 (pe_fldK (K := K) (pv 0)) pa_nil)) (nomark _)) (pa1 pe_str pa_nil))))), ?_⟩
    rw [show start ["self"] [V.ref p] = [some (V.ref p)] from rfl]
    have NC : NoAttr K T.x_Reader "content" := T.nf_Reader_content
    have NS : NoAttr K T.x_Reader "spot" := T.nf_Reader_spot
    simp only [tSeq, tIfS, tRet, tRetN, tC, tVar, tOp, tUn, tTest, tB, tAnd, tOr, tNot, tAndV, tOrV, tNotV, tIf, tChain, tCons, tNil, tCall, tCB, tLst, tTup, tSl, tNoPart, tPart, gName, tNext, tDrop, tAsg, tAsgC, tBM, tYes, tDNewK, rI, rI0, rU, rEq, rNe, rAbs, rIntT, CDiv, add_ii, add_ss, mul_ii, mul_si, ix_si, eq_ii, eq_ss, eq_bb, ne_ii, ne_ss, ne_ni, ne_in, in_s1, notin_s1, is_xn, is_bb, isnot_xn, isnot_bb, sl_s, len_s, find_ss, index_ss, List.append_nil, List.cons_append, List.nil_append, List.getElem?_cons_succ, List.getElem?_cons_zero, List.set_cons_succ, List.set_cons_zero, Option.some.injEq, V.int.injEq, V.bl.injEq, V.str.injEq, V.ref.injEq, V.ty.injEq, List.cons.injEq, and_true, true_and, exists_eq_left, exists_eq_left', exists_and_left, exists_eq', exists_const, exists_and_right, exists_eq_right, exists_eq_right', reduceCtorEq, false_and, and_false, exists_false, or_false, false_or, decide_eq_true_eq, Bool.not_eq_true', decide_eq_false_iff_not, Bool.false_eq_true, if_false, if_true, mk_app, mk_len, sg_mk, mk_one, decide_true, decide_false, Bool.not_true, Bool.not_false, ite_true, ite_false, not_true_eq_false, not_false_eq_true, cxK, cutTo1, cutFrom1, mk_iff, tyV_str, stComp, List.map_cons, List.map_nil, Option.join_some, Option.join_none, gt_iff_lt, ge_iff_le, tRaise, tTryR, tCallH, tDisp, tPairs, tFld, sFld, tMake, tMeth, tAug, ipI, tDead, tBM0, if_false_right, and_self]
    refine ⟨_, dx, _, hp, T.oc_Reader, NS, _, fR_spot _ _, ?_⟩
    refine ⟨_, dx, _, hp, T.oc_Reader, NC, _, fR_content _ _, lenL (SqL.of hc) ?_⟩
    simp only [tSeq, tIfS, tRet, tRetN, tC, tVar, tOp, tUn, tTest, tB, tAnd, tOr, tNot, tAndV, tOrV, tNotV, tIf, tChain, tCons, tNil, tCall, tCB, tLst, tTup, tSl, tNoPart, tPart, gName, tNext, tDrop, tAsg, tAsgC, tBM, tYes, tDNewK, rI, rI0, rU, rEq, rNe, rAbs, rIntT, CDiv, add_ii, add_ss, mul_ii, mul_si, ix_si, eq_ii, eq_ss, eq_bb, ne_ii, ne_ss, ne_ni, ne_in, in_s1, notin_s1, is_xn, is_bb, isnot_xn, isnot_bb, sl_s, len_s, find_ss, index_ss, List.append_nil, List.cons_append, List.nil_append, List.getElem?_cons_succ, List.getElem?_cons_zero, List.set_cons_succ, List.set_cons_zero, Option.some.injEq, V.int.injEq, V.bl.injEq, V.str.injEq, V.ref.injEq, V.ty.injEq, List.cons.injEq, and_true, true_and, exists_eq_left, exists_eq_left', exists_and_left, exists_eq', exists_const, exists_and_right, exists_eq_right, exists_eq_right', reduceCtorEq, false_and, and_false, exists_false, or_false, false_or, decide_eq_true_eq, Bool.not_eq_true', decide_eq_false_iff_not, Bool.false_eq_true, if_false, if_true, mk_app, mk_len, sg_mk, mk_one, decide_true, decide_false, Bool.not_true, Bool.not_false, ite_true, ite_false, not_true_eq_false, not_false_eq_true, cxK, cutTo1, cutFrom1, mk_iff, tyV_str, stComp, List.map_cons, List.map_nil, Option.join_some, Option.join_none, gt_iff_lt, ge_iff_le, tRaise, tTryR, tCallH, tDisp, tPairs, tFld, sFld, tMake, tMeth, tAug, ipI, tDead, tBM0, if_false_right, and_self]
    exact ⟨_, _, rfl, rfl, q⟩
noncomputable def sp_image_bytes (T : Txt K mg) : Sp := fun vs H Q E => ∃ (p : Addr) (m : Int) (ks : List (Str × Int)) (bs fs : List Int) (n k : Nat), vs = [.ref p] ∧ ImgAt T.x_Image p m ks bs fs H ∧ GI n k m ks bs fs ∧ ∀ l H', H l = none → Same H H' → H' l = some (.lst ((dueF m ks bs fs).map V.int)) → Q (.ref l) H'
theorem sc_image_bytes : FnScope ["image", "row", "section", "place"] ["image"] (defScope s_image_bytes) := ⟨rfl, rfl, rfl, by decide +kernel, rfl, by decide +kernel, by decide +kernel⟩
theorem ok_image_bytes (T : Txt K mg) : FnOk P w K mg base CX0 4 T.d_image_bytes.f T.d_image_bytes.fd ["image"] (sp_image_bytes T) := by
  have nd := sc_image_bytes.nd
  refine T.d_image_bytes.F.ok sc_image_bytes (fun vs H Q E h => ?_) (fun cdv A outer s H vs Q E hr h => ?_)
  · obtain ⟨p, m, ks, bs, fs, n, k, rfl, ⟨dx, s, b, f, ts, hp, hs, hts, rfl, hb, hf⟩, gi, q⟩ := h
    rfl
  · obtain ⟨p, m, ks, bs, fs, n, k, rfl, ⟨dx, s, b, f, ts, hp, hs, hts, rfl, hb, hf⟩, gi, q⟩ := h
    have hu := hr.units0
    refine ⟨_, (pss_cons (ps_set (i := 1) nd rfl (Or.inl rfl) (pe_op o_add (pe_op o_add (pcT (call_listK (K := K)) rfl T.n_list (by kernel_rfl) (pa1 (pe_gl rfl T.c_MARK) pa_nil)) (pc1 T.d_two_of (ok_two_of T) (hr.mono (by decide)) (pa1 (pe_fldK (K := K) (pv 0)) pa_nil))) (pc1 T.d_two_of (ok_two_of T) (hr.mono (by decide)) (pa1 (pcB (o_len (K := K)) rfl T.n_len (by kernel_rfl) (pa1 (pe_fldK (K := K) (pv 0)) pa_nil)) pa_nil))))
      (pss_cons (ps_for PassesOwn.never rfl (pi_listK (K := K) (pe_fldK (K := K) (pv 0))) (pg_name (i := 2) nd rfl (Or.inl rfl))
        (pss_cons (ps_expr (pm1 (K := K) PySem.F.plainAttrs_list PySem.F.slot_list_append PySem.F.type_list_append o_append (pv 1) (pa1 (pm1 (K := K) PySem.F.plainAttrs_tuple PySem.F.slot_tuple_index PySem.F.type_tuple_index (o_tindex (K := K)) (pe_gl rfl T.c_KINDS) (pa1 (pe_ix (o_ix (K := K)) (pv 2) pe_int (fun _ _ => rfl)) pa_nil)) pa_nil)))
      (pss_one (ps_expr (pm1 (K := K) PySem.F.plainAttrs_list PySem.F.slot_list_extend PySem.F.type_list_extend o_extend (pv 1) (pa1 (pc1 T.d_two_of (ok_two_of T) (hr.mono (by decide)) (pa1 (pe_ix (o_ix (K := K)) (pv 2) pe_int (fun _ _ => rfl)) pa_nil)) pa_nil))))))
      (pss_cons (ps_expr (pm1 (K := K) PySem.F.plainAttrs_list PySem.F.slot_list_extend PySem.F.type_list_extend o_extend (pv 1) (pa1 (pe_fldK (K := K) (pv 0)) pa_nil)))
      (pss_cons (ps_expr (pm1 (K := K) PySem.F.plainAttrs_list PySem.F.slot_list_extend PySem.F.type_list_extend o_extend (pv 1) (pa1 (pc1 T.d_two_of (ok_two_of T) (hr.mono (by decide)) (pa1 (pcB (o_len (K := K)) rfl T.n_len (by kernel_rfl) (pa1 (pe_fldK (K := K) (pv 0)) pa_nil)) pa_nil)) pa_nil)))
      (pss_cons (ps_for PassesOwn.never rfl (pi_listK (K := K) (pe_fldK (K := K) (pv 0))) (pg_name (i := 3) nd rfl (Or.inl rfl))
        (pss_one (ps_expr (pm1 (K := K) PySem.F.plainAttrs_list PySem.F.slot_list_extend PySem.F.type_list_extend o_extend (pv 1) (pa1 (pc1 T.d_two_of (ok_two_of T) (hr.mono (by decide)) (pa1 (pv 3) pa_nil)) pa_nil)))))
      (pss_one (ps_ret (pc1 T.d_sealed (ok_sealed T) (hr.mono (by decide)) (pa1 (pv 1) pa_nil))))))))), ?_⟩
    rw [show start ["image", "row", "section", "place"] [V.ref p] = [some (V.ref p), none, none, none] from rfl]
    have NM : NoAttr K T.x_Image "main" := T.nf_Image_main
    have NX : NoAttr K T.x_Image "sections" := T.nf_Image_sections
    have NB : NoAttr K T.x_Image "body" := T.nf_Image_body
    have NF : NoAttr K T.x_Image "far" := T.nf_Image_far
    have cI := T.oc_Image
    
    have l6 := gi.len6
    have lbs := gi.bl
    have lfs := gi.fl
    have lr : (refsT ts).length = (ksT ts).length := by simp [refsT, ksT]
    have S := Same.refl H
    refine tSeq_gen fun B hB => ?_
    simp only [tSeq, tIfS, tRet, tRetN, tC, tVar, tOp, tUn, tTest, tB, tAnd, tOr, tNot, tAndV, tOrV, tNotV, tIf, tChain, tCons, tNil, tCall, tCB, tLst, tTup, tSl, tNoPart, tPart, gName, tNext, tDrop, tAsg, tAsgC, tBM, tYes, tDNewK, rI, rI0, rU, rEq, rNe, rAbs, rIntT, CDiv, add_ii, add_ss, mul_ii, mul_si, ix_si, eq_ii, eq_ss, eq_bb, ne_ii, ne_ss, ne_ni, ne_in, in_s1, notin_s1, is_xn, is_bb, isnot_xn, isnot_bb, sl_s, len_s, find_ss, index_ss, List.append_nil, List.cons_append, List.nil_append, List.getElem?_cons_succ, List.getElem?_cons_zero, List.set_cons_succ, List.set_cons_zero, Option.some.injEq, V.int.injEq, V.bl.injEq, V.str.injEq, V.ref.injEq, V.ty.injEq, List.cons.injEq, and_true, true_and, exists_eq_left, exists_eq_left', exists_and_left, exists_eq', exists_const, exists_and_right, exists_eq_right, exists_eq_right', reduceCtorEq, false_and, and_false, exists_false, or_false, false_or, decide_eq_true_eq, Bool.not_eq_true', decide_eq_false_iff_not, Bool.false_eq_true, if_false, if_true, mk_app, mk_len, sg_mk, mk_one, decide_true, decide_false, Bool.not_true, Bool.not_false, ite_true, ite_false, not_true_eq_false, not_false_eq_true, cxK, cutTo1, cutFrom1, mk_iff, tyV_str, stComp, List.map_cons, List.map_nil, Option.join_some, Option.join_none, gt_iff_lt, ge_iff_le, tRaise, tTryR, tCallH, tDisp, tPairs, tFld, sFld, tMake, tMeth, tAug, ipI, tDead, tBM0, if_false_right, and_self]
    refine ⟨_, _, rfl, .inr T.sq_MARK.sq, fun l1 n1 => ?_⟩
    have t0 := Same.upd (Same.refl H) n1 (o := .lst [V.int 105, V.int 1])
    have e1 : upd H l1 (.lst [V.int 105, V.int 1]) l1 = some (.lst [V.int 105, V.int 1]) := upd_same
    generalize upd H l1 (.lst [V.int 105, V.int 1]) = H1 at t0 e1 ⊢
    have S := S.trans t0
    clear t0
    refine ⟨_, dx, _, S _ _ hp, cI, NM, _, fI_main _ _ _ _, _, rfl, fun l2 n2 => ?_⟩
    have t0 := Same.upd (Same.refl H1) n2 (o := .lst [V.int (m / 256), V.int (m % 256)])
    have e2 : upd H1 l2 (.lst [V.int (m / 256), V.int (m % 256)]) l2 = some (.lst [V.int (m / 256), V.int (m % 256)]) := upd_same
    generalize upd H1 l2 (.lst [V.int (m / 256), V.int (m % 256)]) = H2 at t0 e2 ⊢
    have e1 := t0 _ _ e1
    have S := S.trans t0
    clear t0
    refine catL e1 e2 (sl1000 (by simp)) fun l3 n3 => ?_
    have t0 := Same.upd (Same.refl H2) n3 (o := .lst ([V.int 105, V.int 1] ++ [V.int (m / 256), V.int (m % 256)]))
    have e3 : upd H2 l3 (.lst ([V.int 105, V.int 1] ++ [V.int (m / 256), V.int (m % 256)])) l3 = some (.lst ([V.int 105, V.int 1] ++ [V.int (m / 256), V.int (m % 256)])) := upd_same
    generalize upd H2 l3 (.lst ([V.int 105, V.int 1] ++ [V.int (m / 256), V.int (m % 256)])) = H3 at t0 e3 ⊢
    have S := S.trans t0
    clear t0
    refine ⟨_, dx, _, S _ _ hp, cI, NX, _, fI_sections _ _ _ _, lenL (SqL.of (S _ _ hs)) ⟨_, rfl, fun l4 n4 => ?_⟩⟩
    rw [lr]
    have t0 := Same.upd (Same.refl H3) n4 (o := .lst [V.int (((ksT ts).length : Int) / 256), V.int (((ksT ts).length : Int) % 256)])
    have e4 : upd H3 l4 (.lst [V.int (((ksT ts).length : Int) / 256), V.int (((ksT ts).length : Int) % 256)]) l4 = some (.lst [V.int (((ksT ts).length : Int) / 256), V.int (((ksT ts).length : Int) % 256)]) := upd_same
    generalize upd H3 l4 (.lst [V.int (((ksT ts).length : Int) / 256), V.int (((ksT ts).length : Int) % 256)]) = H4 at t0 e4 ⊢
    have e3 := t0 _ _ e3
    have S := S.trans t0
    clear t0
    refine catL e3 e4 (sl1000 (by simp)) fun l5 n5 => ?_
    have n5H := S.no n5
    have t0 := Same.upd (Same.refl H4) n5 (o := .lst (([V.int 105, V.int 1] ++ [V.int (m / 256), V.int (m % 256)]) ++ [V.int (((ksT ts).length : Int) / 256), V.int (((ksT ts).length : Int) % 256)]))
    have e5 : upd H4 l5 (.lst (([V.int 105, V.int 1] ++ [V.int (m / 256), V.int (m % 256)]) ++ [V.int (((ksT ts).length : Int) / 256), V.int (((ksT ts).length : Int) % 256)])) l5 = some (.lst (([V.int 105, V.int 1] ++ [V.int (m / 256), V.int (m % 256)]) ++ [V.int (((ksT ts).length : Int) / 256), V.int (((ksT ts).length : Int) % 256)])) := upd_same
    generalize upd H4 l5 (.lst (([V.int 105, V.int 1] ++ [V.int (m / 256), V.int (m % 256)]) ++ [V.int (((ksT ts).length : Int) / 256), V.int (((ksT ts).length : Int) % 256)])) = H5 at t0 e5 ⊢
    have S := S.trans t0
    clear t0
    have e5 : H5 l5 = some (.lst ((hdr m (ksT ts).length).map V.int)) := e5
    clear e1 e2 e3 e4 n1 n2 n3 n4 n5
    subst hB
    refine tSeq_gen fun B hB => ?_
    refine tfor_list (a := s) (xs := refsT ts) (fun R r => ⟨_, rfl, _, _, _, _, _, rfl, S _ _ hp, cI, NX, fI_sections _ _ _ _, r⟩) (SqL.of (S _ _ hs)) (fun i σ H' => Same H H' ∧ H' l5 = some (.lst ((hdr m (ksT ts).length ++ secB ((ksT ts).take i)).map V.int)) ∧ ∃ v2, σ = [some (V.ref p), some (V.ref l5), v2, none]) ⟨S, by simpa [secB] using e5, none, rfl⟩ (fun i σ H' h => SqL.of (h.1 _ _ hs)) ?_ ?_
    · clear e5 S hB
      rintro i x σ H6 hx ⟨S, el, v2, rfl⟩
      obtain ⟨e, ee, rfl⟩ := refsT_get hx
      have hm := hts e (List.mem_of_getElem? ee)
      have ee2 : (ksT ts)[i]? = some e.2 := by simp [ksT, ee]
      have ek := gi.kd e.2 (List.mem_of_getElem? ee2)
      have li : (hdr m (ksT ts).length ++ secB ((ksT ts).take i)).length ≤ 100 := by
        rw [List.length_append, hdr_len, secB_len, List.length_take]
        omega
      refine tSeq_gen fun B hB => ?_
      simp only [tSeq, tIfS, tRet, tRetN, tC, tVar, tOp, tUn, tTest, tB, tAnd, tOr, tNot, tAndV, tOrV, tNotV, tIf, tChain, tCons, tNil, tCall, tCB, tLst, tTup, tSl, tNoPart, tPart, gName, tNext, tDrop, tAsg, tAsgC, tBM, tYes, tDNewK, rI, rI0, rU, rEq, rNe, rAbs, rIntT, CDiv, add_ii, add_ss, mul_ii, mul_si, ix_si, eq_ii, eq_ss, eq_bb, ne_ii, ne_ss, ne_ni, ne_in, in_s1, notin_s1, is_xn, is_bb, isnot_xn, isnot_bb, sl_s, len_s, find_ss, index_ss, List.append_nil, List.cons_append, List.nil_append, List.getElem?_cons_succ, List.getElem?_cons_zero, List.set_cons_succ, List.set_cons_zero, Option.some.injEq, V.int.injEq, V.bl.injEq, V.str.injEq, V.ref.injEq, V.ty.injEq, List.cons.injEq, and_true, true_and, exists_eq_left, exists_eq_left', exists_and_left, exists_eq', exists_const, exists_and_right, exists_eq_right, exists_eq_right', reduceCtorEq, false_and, and_false, exists_false, or_false, false_or, decide_eq_true_eq, Bool.not_eq_true', decide_eq_false_iff_not, Bool.false_eq_true, if_false, if_true, mk_app, mk_len, sg_mk, mk_one, decide_true, decide_false, Bool.not_true, Bool.not_false, ite_true, ite_false, not_true_eq_false, not_false_eq_true, cxK, cutTo1, cutFrom1, mk_iff, tyV_str, stComp, List.map_cons, List.map_nil, Option.join_some, Option.join_none, gt_iff_lt, ge_iff_le, tRaise, tTryR, tCallH, tDisp, tPairs, tFld, sFld, tMake, tMeth, tAug, ipI, tDead, tBM0, if_false_right, and_self]
      refine ⟨tyV_lst (SqL.of el), T.sq_KINDS.ty, ixT (SqT.of (S _ _ hm)) (atIn (by decide) rfl) (tix T.sq_KINDS ek (appL el (szl (by omega)) ?_))⟩
      rw [show (hdr m (ksT ts).length ++ secB ((ksT ts).take i)).map V.int ++ [V.int (kindN e.2.1)] = ((hdr m (ksT ts).length ++ secB ((ksT ts).take i)) ++ [kindN e.2.1]).map V.int by simp]
      have S7 := Same.set S n5H (o := .lst (((hdr m (ksT ts).length ++ secB ((ksT ts).take i)) ++ [kindN e.2.1]).map V.int))
      have e7 : upd H6 l5 (.lst (((hdr m (ksT ts).length ++ secB ((ksT ts).take i)) ++ [kindN e.2.1]).map V.int)) l5 = some (.lst (((hdr m (ksT ts).length ++ secB ((ksT ts).take i)) ++ [kindN e.2.1]).map V.int)) := upd_same
      generalize upd H6 l5 (.lst (((hdr m (ksT ts).length ++ secB ((ksT ts).take i)) ++ [kindN e.2.1]).map V.int)) = H7 at S7 e7 ⊢
      subst hB
      simp only [tSeq, tIfS, tRet, tRetN, tC, tVar, tOp, tUn, tTest, tB, tAnd, tOr, tNot, tAndV, tOrV, tNotV, tIf, tChain, tCons, tNil, tCall, tCB, tLst, tTup, tSl, tNoPart, tPart, gName, tNext, tDrop, tAsg, tAsgC, tBM, tYes, tDNewK, rI, rI0, rU, rEq, rNe, rAbs, rIntT, CDiv, add_ii, add_ss, mul_ii, mul_si, ix_si, eq_ii, eq_ss, eq_bb, ne_ii, ne_ss, ne_ni, ne_in, in_s1, notin_s1, is_xn, is_bb, isnot_xn, isnot_bb, sl_s, len_s, find_ss, index_ss, List.append_nil, List.cons_append, List.nil_append, List.getElem?_cons_succ, List.getElem?_cons_zero, List.set_cons_succ, List.set_cons_zero, Option.some.injEq, V.int.injEq, V.bl.injEq, V.str.injEq, V.ref.injEq, V.ty.injEq, List.cons.injEq, and_true, true_and, exists_eq_left, exists_eq_left', exists_and_left, exists_eq', exists_const, exists_and_right, exists_eq_right, exists_eq_right', reduceCtorEq, false_and, and_false, exists_false, or_false, false_or, decide_eq_true_eq, Bool.not_eq_true', decide_eq_false_iff_not, Bool.false_eq_true, if_false, if_true, mk_app, mk_len, sg_mk, mk_one, decide_true, decide_false, Bool.not_true, Bool.not_false, ite_true, ite_false, not_true_eq_false, not_false_eq_true, cxK, cutTo1, cutFrom1, mk_iff, tyV_str, stComp, List.map_cons, List.map_nil, Option.join_some, Option.join_none, gt_iff_lt, ge_iff_le, tRaise, tTryR, tCallH, tDisp, tPairs, tFld, sFld, tMake, tMeth, tAug, ipI, tDead, tBM0, if_false_right, and_self]
      refine ⟨tyV_lst (SqL.of e7), ixT (SqT.of (S7 _ _ hm)) (atIn (by decide) rfl) ⟨_, rfl, fun l6 n6 => ?_⟩⟩
      have t0 := Same.upd (Same.refl H7) n6 (o := .lst ((two e.2.2).map V.int))
      refine ⟨l5, l6, _, _, rfl, rfl, t0 _ _ e7, upd_same, szx (xs := (hdr m (ksT ts).length ++ secB ((ksT ts).take i)) ++ [kindN e.2.1]) (ys := two e.2.2) (by rw [List.length_append]; show _ + 1 + 2 ≤ 2000; omega), ?_⟩
      refine ⟨Same.set (S7.trans t0) n5H, ?_⟩
      rw [upd_same, take_snocT ee2, secB_snoc]
      simp [two]
    clear S
    rintro σ H6 ⟨S, el, v2, rfl⟩
    rw [lr, List.take_length] at el
    subst hB
    dsimp only
    refine tSeq_gen fun B hB => ?_
    simp only [tSeq, tIfS, tRet, tRetN, tC, tVar, tOp, tUn, tTest, tB, tAnd, tOr, tNot, tAndV, tOrV, tNotV, tIf, tChain, tCons, tNil, tCall, tCB, tLst, tTup, tSl, tNoPart, tPart, gName, tNext, tDrop, tAsg, tAsgC, tBM, tYes, tDNewK, rI, rI0, rU, rEq, rNe, rAbs, rIntT, CDiv, add_ii, add_ss, mul_ii, mul_si, ix_si, eq_ii, eq_ss, eq_bb, ne_ii, ne_ss, ne_ni, ne_in, in_s1, notin_s1, is_xn, is_bb, isnot_xn, isnot_bb, sl_s, len_s, find_ss, index_ss, List.append_nil, List.cons_append, List.nil_append, List.getElem?_cons_succ, List.getElem?_cons_zero, List.set_cons_succ, List.set_cons_zero, Option.some.injEq, V.int.injEq, V.bl.injEq, V.str.injEq, V.ref.injEq, V.ty.injEq, List.cons.injEq, and_true, true_and, exists_eq_left, exists_eq_left', exists_and_left, exists_eq', exists_const, exists_and_right, exists_eq_right, exists_eq_right', reduceCtorEq, false_and, and_false, exists_false, or_false, false_or, decide_eq_true_eq, Bool.not_eq_true', decide_eq_false_iff_not, Bool.false_eq_true, if_false, if_true, mk_app, mk_len, sg_mk, mk_one, decide_true, decide_false, Bool.not_true, Bool.not_false, ite_true, ite_false, not_true_eq_false, not_false_eq_true, cxK, cutTo1, cutFrom1, mk_iff, tyV_str, stComp, List.map_cons, List.map_nil, Option.join_some, Option.join_none, gt_iff_lt, ge_iff_le, tRaise, tTryR, tCallH, tDisp, tPairs, tFld, sFld, tMake, tMeth, tAug, ipI, tDead, tBM0, if_false_right, and_self]
    have lh : (hdr m (ksT ts).length ++ secB (ksT ts)).length ≤ 100 := by
      rw [List.length_append, hdr_len, secB_len]
      omega
    refine ⟨tyV_lst (SqL.of el), _, dx, _, S _ _ hp, cI, NB, _, fI_body _ _ _ _, l5, b, _, _, rfl, rfl, el, S _ _ hb, szx (by omega), ?_⟩
    rw [← List.map_append]
    have S7 := Same.set S n5H (o := .lst (((hdr m (ksT ts).length ++ secB (ksT ts)) ++ bs).map V.int))
    have e7 : upd H6 l5 (.lst (((hdr m (ksT ts).length ++ secB (ksT ts)) ++ bs).map V.int)) l5 = some (.lst (((hdr m (ksT ts).length ++ secB (ksT ts)) ++ bs).map V.int)) := upd_same
    generalize upd H6 l5 (.lst (((hdr m (ksT ts).length ++ secB (ksT ts)) ++ bs).map V.int)) = H7 at S7 e7 ⊢
    clear el S e5
    have lh : ((hdr m (ksT ts).length ++ secB (ksT ts)) ++ bs).length ≤ 400 := by
      rw [List.length_append]
      omega
    subst hB
    refine tSeq_gen fun B hB => ?_
    simp only [tSeq, tIfS, tRet, tRetN, tC, tVar, tOp, tUn, tTest, tB, tAnd, tOr, tNot, tAndV, tOrV, tNotV, tIf, tChain, tCons, tNil, tCall, tCB, tLst, tTup, tSl, tNoPart, tPart, gName, tNext, tDrop, tAsg, tAsgC, tBM, tYes, tDNewK, rI, rI0, rU, rEq, rNe, rAbs, rIntT, CDiv, add_ii, add_ss, mul_ii, mul_si, ix_si, eq_ii, eq_ss, eq_bb, ne_ii, ne_ss, ne_ni, ne_in, in_s1, notin_s1, is_xn, is_bb, isnot_xn, isnot_bb, sl_s, len_s, find_ss, index_ss, List.append_nil, List.cons_append, List.nil_append, List.getElem?_cons_succ, List.getElem?_cons_zero, List.set_cons_succ, List.set_cons_zero, Option.some.injEq, V.int.injEq, V.bl.injEq, V.str.injEq, V.ref.injEq, V.ty.injEq, List.cons.injEq, and_true, true_and, exists_eq_left, exists_eq_left', exists_and_left, exists_eq', exists_const, exists_and_right, exists_eq_right, exists_eq_right', reduceCtorEq, false_and, and_false, exists_false, or_false, false_or, decide_eq_true_eq, Bool.not_eq_true', decide_eq_false_iff_not, Bool.false_eq_true, if_false, if_true, mk_app, mk_len, sg_mk, mk_one, decide_true, decide_false, Bool.not_true, Bool.not_false, ite_true, ite_false, not_true_eq_false, not_false_eq_true, cxK, cutTo1, cutFrom1, mk_iff, tyV_str, stComp, List.map_cons, List.map_nil, Option.join_some, Option.join_none, gt_iff_lt, ge_iff_le, tRaise, tTryR, tCallH, tDisp, tPairs, tFld, sFld, tMake, tMeth, tAug, ipI, tDead, tBM0, if_false_right, and_self]
    refine ⟨tyV_lst (SqL.of e7), _, dx, _, S7 _ _ hp, cI, NF, _, fI_far _ _ _ _, lenL (SqL.of (S7 _ _ hf)) ⟨_, rfl, fun l6 n6 => ?_⟩⟩
    rw [List.length_map]
    have t0 := Same.upd (Same.refl H7) n6 (o := .lst ((two (fs.length : Int)).map V.int))
    refine ⟨l5, l6, _, _, rfl, rfl, t0 _ _ e7, upd_same, szx (xs := (hdr m (ksT ts).length ++ secB (ksT ts)) ++ bs) (ys := two (fs.length : Int)) (by show _ + 2 ≤ 2000; omega), ?_⟩
    rw [show [V.int ((fs.length : Int) / 256), V.int ((fs.length : Int) % 256)] = (two (fs.length : Int)).map V.int from rfl, ← List.map_append]
    have S8 := Same.set (S7.trans t0) n5H (o := .lst ((((hdr m (ksT ts).length ++ secB (ksT ts)) ++ bs) ++ two (fs.length : Int)).map V.int))
    have e8 : upd (upd H7 l6 (.lst ((two (fs.length : Int)).map V.int))) l5 (.lst ((((hdr m (ksT ts).length ++ secB (ksT ts)) ++ bs) ++ two (fs.length : Int)).map V.int)) l5 = some (.lst ((((hdr m (ksT ts).length ++ secB (ksT ts)) ++ bs) ++ two (fs.length : Int)).map V.int)) := upd_same
    have lh : (((hdr m (ksT ts).length ++ secB (ksT ts)) ++ bs) ++ two (fs.length : Int)).length ≤ 402 := by
      rw [List.length_append]
      show _ + 2 ≤ 402
      omega
    clear e7 S7 t0
    have rq := row_eq m (ksT ts) bs fs
    generalize ((hdr m (ksT ts).length ++ secB (ksT ts)) ++ bs) ++ two (fs.length : Int) = rw0 at S8 e8 lh rq ⊢
    generalize upd (upd H7 l6 (.lst ((two (fs.length : Int)).map V.int))) l5 (.lst (rw0.map V.int)) = H8 at S8 e8 ⊢
    subst hB
    refine tSeq_gen fun B hB => ?_
    refine tfor_list (a := f) (xs := fs.map V.int) (fun R r => ⟨_, rfl, _, _, _, _, _, rfl, S8 _ _ hp, cI, NF, fI_far _ _ _ _, r⟩) (SqL.of (S8 _ _ hf)) (fun i σ H' => Same H H' ∧ H' l5 = some (.lst ((rw0 ++ farB (fs.take i)).map V.int)) ∧ ∃ v2 v3, σ = [some (V.ref p), some (V.ref l5), v2, v3]) ⟨S8, by simpa [farB] using e8, _, _, rfl⟩ (fun i σ H' h => SqL.of (h.1 _ _ hf)) ?_ ?_
    · clear e8 S8 hB
      rintro i x σ H6 hx ⟨S, el, v2, v3, rfl⟩
      rw [List.getElem?_map] at hx
      cases ee : fs[i]? with
      | none => rw [ee] at hx; cases hx
      | some pl =>
        rw [ee] at hx
        cases hx
        have li : (rw0 ++ farB (fs.take i)).length ≤ 1100 := by
          rw [List.length_append, farB_len, List.length_take]
          omega
        simp only [tSeq, tIfS, tRet, tRetN, tC, tVar, tOp, tUn, tTest, tB, tAnd, tOr, tNot, tAndV, tOrV, tNotV, tIf, tChain, tCons, tNil, tCall, tCB, tLst, tTup, tSl, tNoPart, tPart, gName, tNext, tDrop, tAsg, tAsgC, tBM, tYes, tDNewK, rI, rI0, rU, rEq, rNe, rAbs, rIntT, CDiv, add_ii, add_ss, mul_ii, mul_si, ix_si, eq_ii, eq_ss, eq_bb, ne_ii, ne_ss, ne_ni, ne_in, in_s1, notin_s1, is_xn, is_bb, isnot_xn, isnot_bb, sl_s, len_s, find_ss, index_ss, List.append_nil, List.cons_append, List.nil_append, List.getElem?_cons_succ, List.getElem?_cons_zero, List.set_cons_succ, List.set_cons_zero, Option.some.injEq, V.int.injEq, V.bl.injEq, V.str.injEq, V.ref.injEq, V.ty.injEq, List.cons.injEq, and_true, true_and, exists_eq_left, exists_eq_left', exists_and_left, exists_eq', exists_const, exists_and_right, exists_eq_right, exists_eq_right', reduceCtorEq, false_and, and_false, exists_false, or_false, false_or, decide_eq_true_eq, Bool.not_eq_true', decide_eq_false_iff_not, Bool.false_eq_true, if_false, if_true, mk_app, mk_len, sg_mk, mk_one, decide_true, decide_false, Bool.not_true, Bool.not_false, ite_true, ite_false, not_true_eq_false, not_false_eq_true, cxK, cutTo1, cutFrom1, mk_iff, tyV_str, stComp, List.map_cons, List.map_nil, Option.join_some, Option.join_none, gt_iff_lt, ge_iff_le, tRaise, tTryR, tCallH, tDisp, tPairs, tFld, sFld, tMake, tMeth, tAug, ipI, tDead, tBM0, if_false_right, and_self]
        refine ⟨tyV_lst (SqL.of el), _, rfl, fun l6 n6 => ?_⟩
        have t0 := Same.upd (Same.refl H6) n6 (o := .lst ((two pl).map V.int))
        refine ⟨l5, l6, _, _, rfl, rfl, t0 _ _ el, upd_same, szx (xs := rw0 ++ farB (fs.take i)) (ys := two pl) (by show _ + 2 ≤ 2000; omega), ?_⟩
        refine ⟨Same.set (S.trans t0) n5H, ?_⟩
        rw [upd_same, take_snoc ee, farB_snoc]
        simp [two]
    rintro σ H6 ⟨S, el, v2, v3, rfl⟩
    rw [List.length_map, List.take_length, ← rq] at el
    subst hB
    simp only [tSeq, tIfS, tRet, tRetN, tC, tVar, tOp, tUn, tTest, tB, tAnd, tOr, tNot, tAndV, tOrV, tNotV, tIf, tChain, tCons, tNil, tCall, tCB, tLst, tTup, tSl, tNoPart, tPart, gName, tNext, tDrop, tAsg, tAsgC, tBM, tYes, tDNewK, rI, rI0, rU, rEq, rNe, rAbs, rIntT, CDiv, add_ii, add_ss, mul_ii, mul_si, ix_si, eq_ii, eq_ss, eq_bb, ne_ii, ne_ss, ne_ni, ne_in, in_s1, notin_s1, is_xn, is_bb, isnot_xn, isnot_bb, sl_s, len_s, find_ss, index_ss, List.append_nil, List.cons_append, List.nil_append, List.getElem?_cons_succ, List.getElem?_cons_zero, List.set_cons_succ, List.set_cons_zero, Option.some.injEq, V.int.injEq, V.bl.injEq, V.str.injEq, V.ref.injEq, V.ty.injEq, List.cons.injEq, and_true, true_and, exists_eq_left, exists_eq_left', exists_and_left, exists_eq', exists_const, exists_and_right, exists_eq_right, exists_eq_right', reduceCtorEq, false_and, and_false, exists_false, or_false, false_or, decide_eq_true_eq, Bool.not_eq_true', decide_eq_false_iff_not, Bool.false_eq_true, if_false, if_true, mk_app, mk_len, sg_mk, mk_one, decide_true, decide_false, Bool.not_true, Bool.not_false, ite_true, ite_false, not_true_eq_false, not_false_eq_true, cxK, cutTo1, cutFrom1, mk_iff, tyV_str, stComp, List.map_cons, List.map_nil, Option.join_some, Option.join_none, gt_iff_lt, ge_iff_le, tRaise, tTryR, tCallH, tDisp, tPairs, tFld, sFld, tMake, tMeth, tAug, ipI, tDead, tBM0, if_false_right, and_self]
    exact ⟨l5, _, rfl, SqL.of el, gi.rb, gi.rl, fun l H' nl S' el' => q l H' (S.no nl) (S.trans S') el'⟩
noncomputable def sp_section_read (T : Txt K mg) : Sp := fun vs H Q E => ∃ (p dx c : Addr) (pre : List Int) (e : Str × Int) (post : List Int), vs = [.ref p] ∧ H p = some (.ins T.x_Reader dx (fldR c pre.length)) ∧ H c = some (.lst ((pre ++ ((kindN e.1 :: two e.2) ++ post)).map V.int)) ∧ (e.1 = codeS ∨ e.1 = dataS) ∧ 1 ≤ e.2 ∧ ∀ l H', H l = none → H' l = some (.tup [.str e.1, .int e.2]) → Stp p H H' → H' p = some (.ins T.x_Reader dx (fldR c (pre ++ (kindN e.1 :: two e.2)).length)) → Q (.ref l) H'
theorem sc_section_read : FnScope ["reader", "kind", "size"] ["reader"] (defScope s_section_read) := ⟨rfl, rfl, rfl, by decide +kernel, rfl, by decide +kernel, by decide +kernel⟩
theorem ok_section_read (T : Txt K mg) : FnOk P w K mg base CX0 4 T.d_section_read.f T.d_section_read.fd ["reader"] (sp_section_read T) := by
  have nd := sc_section_read.nd
  refine T.d_section_read.F.ok sc_section_read (fun vs H Q E h => ?_) (fun cdv A outer s H vs Q E hr h => ?_)
  · obtain ⟨p, dx, c, pre, e, post, rfl, hp, hc, hk, h1, q⟩ := h
    rfl
  · obtain ⟨p, dx, c, pre, e, post, rfl, hp, hc, hk, h1, q⟩ := h
    have hu := hr.units0
    refine ⟨_, (pss_cons (ps_set (i := 1) nd rfl (Or.inl rfl) (pmt0 (pv 0) T.oc_Reader T.d_Reader_byte (ok_Reader_byte T) (hr.mono (by decide))))
      (pss_cons (ps_expr (pc1 T.d_need (ok_need T) (hr.mono (by decide)) (pa1 (pe_cmpR op_lt (pv 1) (pcB (o_len (K := K)) rfl T.n_len (by kernel_rfl) (pa1 (pe_gl rfl T.c_KINDS) pa_nil)) (nomark _)) (pa1 pe_str pa_nil))))
      (pss_cons (ps_set (i := 2) nd rfl (Or.inl rfl) (pmt0 (pv 0) T.oc_Reader T.d_Reader_two (ok_Reader_two T) (hr.mono (by decide))))
      (pss_cons (ps_expr (pc1 T.d_need (ok_need T) (hr.mono (by decide)) (pa1 (pe_cmpR op_gt (pv 2) pe_int (nomark _)) (pa1 pe_str pa_nil))))
      (pss_one (ps_ret (pe_tup (pa1 (pe_ix (o_ix (K := K)) (pe_gl rfl T.c_KINDS) (pv 1) (fun _ _ => rfl)) (pa1 (pv 2) pa_nil))))))))), ?_⟩
    rw [show start ["reader", "kind", "size"] [V.ref p] = [some (V.ref p), none, none] from rfl]
    have cp : c ≠ p := ne_ins hp hc (by intro _ _ _ z; cases z)
    simp only [tSeq, tIfS, tRet, tRetN, tC, tVar, tOp, tUn, tTest, tB, tAnd, tOr, tNot, tAndV, tOrV, tNotV, tIf, tChain, tCons, tNil, tCall, tCB, tLst, tTup, tSl, tNoPart, tPart, gName, tNext, tDrop, tAsg, tAsgC, tBM, tYes, tDNewK, rI, rI0, rU, rEq, rNe, rAbs, rIntT, CDiv, add_ii, add_ss, mul_ii, mul_si, ix_si, eq_ii, eq_ss, eq_bb, ne_ii, ne_ss, ne_ni, ne_in, in_s1, notin_s1, is_xn, is_bb, isnot_xn, isnot_bb, sl_s, len_s, find_ss, index_ss, List.append_nil, List.cons_append, List.nil_append, List.getElem?_cons_succ, List.getElem?_cons_zero, List.set_cons_succ, List.set_cons_zero, Option.some.injEq, V.int.injEq, V.bl.injEq, V.str.injEq, V.ref.injEq, V.ty.injEq, List.cons.injEq, and_true, true_and, exists_eq_left, exists_eq_left', exists_and_left, exists_eq', exists_const, exists_and_right, exists_eq_right, exists_eq_right', reduceCtorEq, false_and, and_false, exists_false, or_false, false_or, decide_eq_true_eq, Bool.not_eq_true', decide_eq_false_iff_not, Bool.false_eq_true, if_false, if_true, mk_app, mk_len, sg_mk, mk_one, decide_true, decide_false, Bool.not_true, Bool.not_false, ite_true, ite_false, not_true_eq_false, not_false_eq_true, cxK, cutTo1, cutFrom1, mk_iff, tyV_str, stComp, List.map_cons, List.map_nil, Option.join_some, Option.join_none, gt_iff_lt, ge_iff_le, tRaise, tTryR, tCallH, tDisp, tPairs, tFld, sFld, tMake, tMeth, tAug, ipI, tDead, tBM0, if_false_right, and_self]
    refine ⟨dx, _, hp, fR_no _ _ (by decide +kernel) (by decide +kernel), p, dx, c, pre, kindN e.1, two e.2 ++ post, rfl, hp, hc, fun H1 st1 hp1 => ?_⟩
    have hc1 := st1.1 _ _ hc cp
    simp only [tSeq, tIfS, tRet, tRetN, tC, tVar, tOp, tUn, tTest, tB, tAnd, tOr, tNot, tAndV, tOrV, tNotV, tIf, tChain, tCons, tNil, tCall, tCB, tLst, tTup, tSl, tNoPart, tPart, gName, tNext, tDrop, tAsg, tAsgC, tBM, tYes, tDNewK, rI, rI0, rU, rEq, rNe, rAbs, rIntT, CDiv, add_ii, add_ss, mul_ii, mul_si, ix_si, eq_ii, eq_ss, eq_bb, ne_ii, ne_ss, ne_ni, ne_in, in_s1, notin_s1, is_xn, is_bb, isnot_xn, isnot_bb, sl_s, len_s, find_ss, index_ss, List.append_nil, List.cons_append, List.nil_append, List.getElem?_cons_succ, List.getElem?_cons_zero, List.set_cons_succ, List.set_cons_zero, Option.some.injEq, V.int.injEq, V.bl.injEq, V.str.injEq, V.ref.injEq, V.ty.injEq, List.cons.injEq, and_true, true_and, exists_eq_left, exists_eq_left', exists_and_left, exists_eq', exists_const, exists_and_right, exists_eq_right, exists_eq_right', reduceCtorEq, false_and, and_false, exists_false, or_false, false_or, decide_eq_true_eq, Bool.not_eq_true', decide_eq_false_iff_not, Bool.false_eq_true, if_false, if_true, mk_app, mk_len, sg_mk, mk_one, decide_true, decide_false, Bool.not_true, Bool.not_false, ite_true, ite_false, not_true_eq_false, not_false_eq_true, cxK, cutTo1, cutFrom1, mk_iff, tyV_str, stComp, List.map_cons, List.map_nil, Option.join_some, Option.join_none, gt_iff_lt, ge_iff_le, tRaise, tTryR, tCallH, tDisp, tPairs, tFld, sFld, tMake, tMeth, tAug, ipI, tDead, tBM0, if_false_right, and_self]
    refine .inl ⟨_, _, rfl, .inr T.sq_KINDS.sq, ?_⟩
    simp only [tSeq, tIfS, tRet, tRetN, tC, tVar, tOp, tUn, tTest, tB, tAnd, tOr, tNot, tAndV, tOrV, tNotV, tIf, tChain, tCons, tNil, tCall, tCB, tLst, tTup, tSl, tNoPart, tPart, gName, tNext, tDrop, tAsg, tAsgC, tBM, tYes, tDNewK, rI, rI0, rU, rEq, rNe, rAbs, rIntT, CDiv, add_ii, add_ss, mul_ii, mul_si, ix_si, eq_ii, eq_ss, eq_bb, ne_ii, ne_ss, ne_ni, ne_in, in_s1, notin_s1, is_xn, is_bb, isnot_xn, isnot_bb, sl_s, len_s, find_ss, index_ss, List.append_nil, List.cons_append, List.nil_append, List.getElem?_cons_succ, List.getElem?_cons_zero, List.set_cons_succ, List.set_cons_zero, Option.some.injEq, V.int.injEq, V.bl.injEq, V.str.injEq, V.ref.injEq, V.ty.injEq, List.cons.injEq, and_true, true_and, exists_eq_left, exists_eq_left', exists_and_left, exists_eq', exists_const, exists_and_right, exists_eq_right, exists_eq_right', reduceCtorEq, false_and, and_false, exists_false, or_false, false_or, decide_eq_true_eq, Bool.not_eq_true', decide_eq_false_iff_not, Bool.false_eq_true, if_false, if_true, mk_app, mk_len, sg_mk, mk_one, decide_true, decide_false, Bool.not_true, Bool.not_false, ite_true, ite_false, not_true_eq_false, not_false_eq_true, cxK, cutTo1, cutFrom1, mk_iff, tyV_str, stComp, List.map_cons, List.map_nil, Option.join_some, Option.join_none, gt_iff_lt, ge_iff_le, tRaise, tTryR, tCallH, tDisp, tPairs, tFld, sFld, tMake, tMeth, tAug, ipI, tDead, tBM0, if_false_right, and_self]
    refine ⟨_, _, rfl, decide_eq_true (by show kindN e.1 < 2; unfold kindN; split <;> decide), ?_⟩
    refine ⟨dx, _, hp1, fR_no _ _ (by decide +kernel) (by decide +kernel), p, dx, c, pre ++ [kindN e.1], e.2, post, rfl, hp1, by rw [List.append_assoc]; exact hc1, fun H2 st2 hp2 => ?_⟩
    simp only [tSeq, tIfS, tRet, tRetN, tC, tVar, tOp, tUn, tTest, tB, tAnd, tOr, tNot, tAndV, tOrV, tNotV, tIf, tChain, tCons, tNil, tCall, tCB, tLst, tTup, tSl, tNoPart, tPart, gName, tNext, tDrop, tAsg, tAsgC, tBM, tYes, tDNewK, rI, rI0, rU, rEq, rNe, rAbs, rIntT, CDiv, add_ii, add_ss, mul_ii, mul_si, ix_si, eq_ii, eq_ss, eq_bb, ne_ii, ne_ss, ne_ni, ne_in, in_s1, notin_s1, is_xn, is_bb, isnot_xn, isnot_bb, sl_s, len_s, find_ss, index_ss, List.append_nil, List.cons_append, List.nil_append, List.getElem?_cons_succ, List.getElem?_cons_zero, List.set_cons_succ, List.set_cons_zero, Option.some.injEq, V.int.injEq, V.bl.injEq, V.str.injEq, V.ref.injEq, V.ty.injEq, List.cons.injEq, and_true, true_and, exists_eq_left, exists_eq_left', exists_and_left, exists_eq', exists_const, exists_and_right, exists_eq_right, exists_eq_right', reduceCtorEq, false_and, and_false, exists_false, or_false, false_or, decide_eq_true_eq, Bool.not_eq_true', decide_eq_false_iff_not, Bool.false_eq_true, if_false, if_true, mk_app, mk_len, sg_mk, mk_one, decide_true, decide_false, Bool.not_true, Bool.not_false, ite_true, ite_false, not_true_eq_false, not_false_eq_true, cxK, cutTo1, cutFrom1, mk_iff, tyV_str, stComp, List.map_cons, List.map_nil, Option.join_some, Option.join_none, gt_iff_lt, ge_iff_le, tRaise, tTryR, tCallH, tDisp, tPairs, tFld, sFld, tMake, tMeth, tAug, ipI, tDead, tBM0, if_false_right, and_self]
    refine ⟨_, _, rfl, decide_eq_true (by omega), ?_⟩
    simp only [tSeq, tIfS, tRet, tRetN, tC, tVar, tOp, tUn, tTest, tB, tAnd, tOr, tNot, tAndV, tOrV, tNotV, tIf, tChain, tCons, tNil, tCall, tCB, tLst, tTup, tSl, tNoPart, tPart, gName, tNext, tDrop, tAsg, tAsgC, tBM, tYes, tDNewK, rI, rI0, rU, rEq, rNe, rAbs, rIntT, CDiv, add_ii, add_ss, mul_ii, mul_si, ix_si, eq_ii, eq_ss, eq_bb, ne_ii, ne_ss, ne_ni, ne_in, in_s1, notin_s1, is_xn, is_bb, isnot_xn, isnot_bb, sl_s, len_s, find_ss, index_ss, List.append_nil, List.cons_append, List.nil_append, List.getElem?_cons_succ, List.getElem?_cons_zero, List.set_cons_succ, List.set_cons_zero, Option.some.injEq, V.int.injEq, V.bl.injEq, V.str.injEq, V.ref.injEq, V.ty.injEq, List.cons.injEq, and_true, true_and, exists_eq_left, exists_eq_left', exists_and_left, exists_eq', exists_const, exists_and_right, exists_eq_right, exists_eq_right', reduceCtorEq, false_and, and_false, exists_false, or_false, false_or, decide_eq_true_eq, Bool.not_eq_true', decide_eq_false_iff_not, Bool.false_eq_true, if_false, if_true, mk_app, mk_len, sg_mk, mk_one, decide_true, decide_false, Bool.not_true, Bool.not_false, ite_true, ite_false, not_true_eq_false, not_false_eq_true, cxK, cutTo1, cutFrom1, mk_iff, tyV_str, stComp, List.map_cons, List.map_nil, Option.join_some, Option.join_none, gt_iff_lt, ge_iff_le, tRaise, tTryR, tCallH, tDisp, tPairs, tFld, sFld, tMake, tMeth, tAug, ipI, tDead, tBM0, if_false_right, and_self]
    refine ixT T.sq_KINDS.sq (kat hk) ⟨sl1000 (by simp), fun l nl => ?_⟩
    have st := (st1.trans st2).new nl (o := .tup [V.str e.1, V.int e.2])
    refine q l _ ((st1.trans st2).2 _ nl) upd_same st ?_
    rw [upd_ne (ne_of_none hp2 nl), hp2, List.append_assoc]
    rfl
noncomputable def sp_need_codes_ahead (K : PySem.W.Frag) : Sp := fun vs H Q E => ∃ (a : Addr) (es : List (Addr × Str × Int)) (n k : Nat), vs = [.ref a] ∧ H a = some (.lst (es.map fun e => V.ref e.1)) ∧ (∀ e ∈ es, H e.1 = some (.tup [.str e.2.1, .int e.2.2])) ∧ (es.map fun e => e.2.1) = List.replicate n codeS ++ List.replicate k dataS ∧ n ≤ 4 ∧ k ≤ 2 ∧ ∀ H', Same H H' → Q .non H'
theorem sc_need_codes_ahead : FnScope ["sections", "kinds"] ["sections"] (defScope s_need_codes_ahead) := ⟨rfl, rfl, rfl, by decide +kernel, rfl, by decide +kernel, by decide +kernel⟩
theorem ok_need_codes_ahead (T : Txt K mg) : FnOk P w K mg base CX0 2 T.d_need_codes_ahead.f T.d_need_codes_ahead.fd ["sections"] (sp_need_codes_ahead K) := by
  have nd := sc_need_codes_ahead.nd
  refine T.d_need_codes_ahead.F.ok sc_need_codes_ahead (fun vs H Q E h => ?_) (fun cdv A outer s H vs Q E hr h => ?_)
  · obtain ⟨a, es, n, k, rfl, ha, hes, hk, n4, k2, q⟩ := h
    rfl
  · obtain ⟨a, es, n, k, rfl, ha, hes, hk, n4, k2, q⟩ := h
    have hu := hr.units0
    refine ⟨_, (pss_cons (ps_set_lcomp (i := 1) nd rfl rfl (N' := ["section"]) (src := [none]) rfl (CompScope.of (by kernel_rfl)) (pi_listK (K := K) (pv 0)) (fun _ _ _ _ _ _ => (pg_name (i := 0) (show (["section"] : List Str).Nodup by decide +kernel) rfl (Or.inl rfl))) (fun _ _ _ _ _ _ => pif_nil) (fun _ _ _ _ _ _ => (pe_ix (o_ix (K := K)) (pv 0) pe_int (fun _ _ => rfl))))
      (pss_one (ps_expr (pc1 T.d_need (ok_need T) (hr.mono (by decide)) (pa1 (pe_cmpR (o_eq (K := K) hu) (pv 1) (pcB (o_sorted (K := K)) rfl T.n_sorted (by kernel_rfl) (pa1 (pv 1) pa_nil)) (nomark _)) (pa1 pe_str pa_nil)))))), ?_⟩
    rw [show start ["sections", "kinds"] [V.ref a] = [some (V.ref a), none] from rfl]
    have le : es.length = n + k := by
      have := congrArg List.length hk
      simpa using this
    simp only [tSeq, tIfS, tRet, tRetN, tC, tVar, tOp, tUn, tTest, tB, tAnd, tOr, tNot, tAndV, tOrV, tNotV, tIf, tChain, tCons, tNil, tCall, tCB, tLst, tTup, tSl, tNoPart, tPart, gName, tNext, tDrop, tAsg, tAsgC, tBM, tYes, tDNewK, rI, rI0, rU, rEq, rNe, rAbs, rIntT, CDiv, add_ii, add_ss, mul_ii, mul_si, ix_si, eq_ii, eq_ss, eq_bb, ne_ii, ne_ss, ne_ni, ne_in, in_s1, notin_s1, is_xn, is_bb, isnot_xn, isnot_bb, sl_s, len_s, find_ss, index_ss, List.append_nil, List.cons_append, List.nil_append, List.getElem?_cons_succ, List.getElem?_cons_zero, List.set_cons_succ, List.set_cons_zero, Option.some.injEq, V.int.injEq, V.bl.injEq, V.str.injEq, V.ref.injEq, V.ty.injEq, List.cons.injEq, and_true, true_and, exists_eq_left, exists_eq_left', exists_and_left, exists_eq', exists_const, exists_and_right, exists_eq_right, exists_eq_right', reduceCtorEq, false_and, and_false, exists_false, or_false, false_or, decide_eq_true_eq, Bool.not_eq_true', decide_eq_false_iff_not, Bool.false_eq_true, if_false, if_true, mk_app, mk_len, sg_mk, mk_one, decide_true, decide_false, Bool.not_true, Bool.not_false, ite_true, ite_false, not_true_eq_false, not_false_eq_true, cxK, cutTo1, cutFrom1, mk_iff, tyV_str, stComp, List.map_cons, List.map_nil, Option.join_some, Option.join_none, gt_iff_lt, ge_iff_le, tRaise, tTryR, tCallH, tDisp, tPairs, tFld, sFld, tMake, tMeth, tAug, ipI, tDead, tBM0, if_false_right, and_self]
    refine tcomp_listM (xs := es.map fun e => V.ref e.1) (fun a' H0 => a' = a ∧ H0 = H) (fun R h => ⟨_, rfl, h _ _ ⟨rfl, rfl⟩⟩) (fun a' i ys H' => a' = a ∧ H' = H ∧ ys = ((es.take i).map fun e => e.2.1).map V.str) (fun a' H0 h => ⟨h.1, h.2, rfl⟩) (fun a' i ys H' h => by rw [h.1, h.2.1]; exact SqL.of ha) (sl1000 (by simp; omega)) ?_ ?_
    · rintro a' i x ys H' Cy Cn hx ⟨rfl, rfl, rfl⟩ cy cn
      rw [List.getElem?_map] at hx
      obtain ⟨e, ee, rfl⟩ : ∃ e, es[i]? = some e ∧ x = V.ref e.1 := by
        cases e : es[i]? with
        | none => rw [e] at hx; cases hx
        | some t => rw [e] at hx; cases hx; exact ⟨t, rfl, rfl⟩
      have e1 := hes e (List.mem_of_getElem? ee)
      refine ⟨KeepSt.set rfl, ?_⟩
      simp only [tSeq, tIfS, tRet, tRetN, tC, tVar, tOp, tUn, tTest, tB, tAnd, tOr, tNot, tAndV, tOrV, tNotV, tIf, tChain, tCons, tNil, tCall, tCB, tLst, tTup, tSl, tNoPart, tPart, gName, tNext, tDrop, tAsg, tAsgC, tBM, tYes, tDNewK, rI, rI0, rU, rEq, rNe, rAbs, rIntT, CDiv, add_ii, add_ss, mul_ii, mul_si, ix_si, eq_ii, eq_ss, eq_bb, ne_ii, ne_ss, ne_ni, ne_in, in_s1, notin_s1, is_xn, is_bb, isnot_xn, isnot_bb, sl_s, len_s, find_ss, index_ss, List.append_nil, List.cons_append, List.nil_append, List.getElem?_cons_succ, List.getElem?_cons_zero, List.set_cons_succ, List.set_cons_zero, Option.some.injEq, V.int.injEq, V.bl.injEq, V.str.injEq, V.ref.injEq, V.ty.injEq, List.cons.injEq, and_true, true_and, exists_eq_left, exists_eq_left', exists_and_left, exists_eq', exists_const, exists_and_right, exists_eq_right, exists_eq_right', reduceCtorEq, false_and, and_false, exists_false, or_false, false_or, decide_eq_true_eq, Bool.not_eq_true', decide_eq_false_iff_not, Bool.false_eq_true, if_false, if_true, mk_app, mk_len, sg_mk, mk_one, decide_true, decide_false, Bool.not_true, Bool.not_false, ite_true, ite_false, not_true_eq_false, not_false_eq_true, cxK, cutTo1, cutFrom1, mk_iff, tyV_str, stComp, List.map_cons, List.map_nil, Option.join_some, Option.join_none, gt_iff_lt, ge_iff_le, tRaise, tTryR, tCallH, tDisp, tPairs, tFld, sFld, tMake, tMeth, tAug, ipI, tDead, tBM0, if_false_right, and_self]
      exact ixT (SqT.of e1) (atIn (by decide) rfl) (cy _ _ ⟨rfl, rfl, by rw [List.take_add_one, ee]; simp⟩)
    rintro a' ys H' l1 ⟨rfl, rfl, rfl⟩ n1
    rw [List.length_map, List.take_length, hk]
    have e1 : upd H' l1 (.lst ((List.replicate n codeS ++ List.replicate k dataS).map V.str)) l1 = some (.lst ((List.replicate n codeS ++ List.replicate k dataS).map V.str)) := upd_same
    have S1 := Same.upd (Same.refl H') n1 (o := .lst ((List.replicate n codeS ++ List.replicate k dataS).map V.str))
    generalize upd H' l1 (.lst ((List.replicate n codeS ++ List.replicate k dataS).map V.str)) = H1 at e1 S1 ⊢
    refine ⟨l1, _, rfl, SqL.of e1, by simp; omega, fun l2 ss' n2 hp hs => ?_⟩
    have es := sorted_same hp hs (kinds_sorted n (by omega) k (by omega))
    subst es
    have S2 := Same.upd (Same.refl H1) n2 (o := .lst ((List.replicate n codeS ++ List.replicate k dataS).map V.str))
    refine eqLL_same (S2 _ _ e1) upd_same (flat_strs _) ?_
    exact ⟨_, _, rfl, rfl, q _ (S1.trans S2)⟩
noncomputable def sp_size_of (K : PySem.W.Frag) : Sp := fun vs H Q E => ∃ (a : Addr) (es : List (Addr × Str × Int)), vs = [.ref a] ∧ H a = some (.lst (es.map fun e => V.ref e.1)) ∧ (∀ e ∈ es, H e.1 = some (.tup [.str e.2.1, .int e.2.2])) ∧ es.length ≤ 100 ∧ (∀ e ∈ es, 0 ≤ e.2.2 ∧ e.2.2 < 1000000) ∧ ∀ H', Same H H' → Q (.int (es.map (·.2.2)).sum) H'
theorem sc_size_of : FnScope ["sections"] ["sections"] (defScope s_size_of) := ⟨rfl, rfl, rfl, by decide +kernel, rfl, by decide +kernel, by decide +kernel⟩
theorem ok_size_of (T : Txt K mg) : FnOk P w K mg base CX0 1 T.d_size_of.f T.d_size_of.fd ["sections"] (sp_size_of K) := by
  have nd := sc_size_of.nd
  refine T.d_size_of.F.ok sc_size_of (fun vs H Q E h => ?_) (fun cdv A outer s H vs Q E hr h => ?_)
  · obtain ⟨a, es, rfl, ha, hes, le, hb, q⟩ := h
    rfl
  · obtain ⟨a, es, rfl, ha, hes, le, hb, q⟩ := h
    have hu := hr.units0
    refine ⟨_, (pss_one (ps_ret (pcB (o_sum (K := K)) rfl T.n_sum (by kernel_rfl) (pa1 (pe_lcomp (N' := ["section"]) (src := [none]) rfl (CompScope.of (by kernel_rfl)) (pi_listK (K := K) (pv 0)) (fun _ _ _ _ _ _ => (pg_name (i := 0) (show (["section"] : List Str).Nodup by decide +kernel) rfl (Or.inl rfl))) (fun _ _ _ _ _ _ => pif_nil) (fun _ _ _ _ _ _ => (pe_ix (o_ix (K := K)) (pv 0) pe_int (fun _ _ => rfl)))) pa_nil)))), ?_⟩
    rw [show start ["sections"] [V.ref a] = [some (V.ref a)] from rfl]
    simp only [tSeq, tIfS, tRet, tRetN, tC, tVar, tOp, tUn, tTest, tB, tAnd, tOr, tNot, tAndV, tOrV, tNotV, tIf, tChain, tCons, tNil, tCall, tCB, tLst, tTup, tSl, tNoPart, tPart, gName, tNext, tDrop, tAsg, tAsgC, tBM, tYes, tDNewK, rI, rI0, rU, rEq, rNe, rAbs, rIntT, CDiv, add_ii, add_ss, mul_ii, mul_si, ix_si, eq_ii, eq_ss, eq_bb, ne_ii, ne_ss, ne_ni, ne_in, in_s1, notin_s1, is_xn, is_bb, isnot_xn, isnot_bb, sl_s, len_s, find_ss, index_ss, List.append_nil, List.cons_append, List.nil_append, List.getElem?_cons_succ, List.getElem?_cons_zero, List.set_cons_succ, List.set_cons_zero, Option.some.injEq, V.int.injEq, V.bl.injEq, V.str.injEq, V.ref.injEq, V.ty.injEq, List.cons.injEq, and_true, true_and, exists_eq_left, exists_eq_left', exists_and_left, exists_eq', exists_const, exists_and_right, exists_eq_right, exists_eq_right', reduceCtorEq, false_and, and_false, exists_false, or_false, false_or, decide_eq_true_eq, Bool.not_eq_true', decide_eq_false_iff_not, Bool.false_eq_true, if_false, if_true, mk_app, mk_len, sg_mk, mk_one, decide_true, decide_false, Bool.not_true, Bool.not_false, ite_true, ite_false, not_true_eq_false, not_false_eq_true, cxK, cutTo1, cutFrom1, mk_iff, tyV_str, stComp, List.map_cons, List.map_nil, Option.join_some, Option.join_none, gt_iff_lt, ge_iff_le, tRaise, tTryR, tCallH, tDisp, tPairs, tFld, sFld, tMake, tMeth, tAug, ipI, tDead, tBM0, if_false_right, and_self]
    refine tcomp_listM (xs := es.map fun e => V.ref e.1) (fun a' H0 => a' = a ∧ H0 = H) (fun R h => ⟨_, rfl, h _ _ ⟨rfl, rfl⟩⟩) (fun a' i ys H' => a' = a ∧ H' = H ∧ ys = ((es.take i).map (·.2.2)).map V.int) (fun a' H0 h => ⟨h.1, h.2, rfl⟩) (fun a' i ys H' h => by rw [h.1, h.2.1]; exact SqL.of ha) (sl1000 (by simp; omega)) ?_ ?_
    · rintro a' i x ys H' Cy Cn hx ⟨rfl, rfl, rfl⟩ cy cn
      rw [List.getElem?_map] at hx
      obtain ⟨e, ee, rfl⟩ : ∃ e, es[i]? = some e ∧ x = V.ref e.1 := by
        cases e : es[i]? with
        | none => rw [e] at hx; cases hx
        | some t => rw [e] at hx; cases hx; exact ⟨t, rfl, rfl⟩
      have e1 := hes e (List.mem_of_getElem? ee)
      refine ⟨KeepSt.set rfl, ?_⟩
      simp only [tSeq, tIfS, tRet, tRetN, tC, tVar, tOp, tUn, tTest, tB, tAnd, tOr, tNot, tAndV, tOrV, tNotV, tIf, tChain, tCons, tNil, tCall, tCB, tLst, tTup, tSl, tNoPart, tPart, gName, tNext, tDrop, tAsg, tAsgC, tBM, tYes, tDNewK, rI, rI0, rU, rEq, rNe, rAbs, rIntT, CDiv, add_ii, add_ss, mul_ii, mul_si, ix_si, eq_ii, eq_ss, eq_bb, ne_ii, ne_ss, ne_ni, ne_in, in_s1, notin_s1, is_xn, is_bb, isnot_xn, isnot_bb, sl_s, len_s, find_ss, index_ss, List.append_nil, List.cons_append, List.nil_append, List.getElem?_cons_succ, List.getElem?_cons_zero, List.set_cons_succ, List.set_cons_zero, Option.some.injEq, V.int.injEq, V.bl.injEq, V.str.injEq, V.ref.injEq, V.ty.injEq, List.cons.injEq, and_true, true_and, exists_eq_left, exists_eq_left', exists_and_left, exists_eq', exists_const, exists_and_right, exists_eq_right, exists_eq_right', reduceCtorEq, false_and, and_false, exists_false, or_false, false_or, decide_eq_true_eq, Bool.not_eq_true', decide_eq_false_iff_not, Bool.false_eq_true, if_false, if_true, mk_app, mk_len, sg_mk, mk_one, decide_true, decide_false, Bool.not_true, Bool.not_false, ite_true, ite_false, not_true_eq_false, not_false_eq_true, cxK, cutTo1, cutFrom1, mk_iff, tyV_str, stComp, List.map_cons, List.map_nil, Option.join_some, Option.join_none, gt_iff_lt, ge_iff_le, tRaise, tTryR, tCallH, tDisp, tPairs, tFld, sFld, tMake, tMeth, tAug, ipI, tDead, tBM0, if_false_right, and_self]
      exact ixT (SqT.of e1) (atIn (by decide) rfl) (cy _ _ ⟨rfl, rfl, by rw [List.take_add_one, ee]; simp⟩)
    rintro a' ys H' l1 ⟨rfl, rfl, rfl⟩ n1
    rw [List.length_map, List.take_length]
    exact ⟨l1, es.map (·.2.2), rfl, SqL.of upd_same, fun n hn => by
      obtain ⟨e, he, rfl⟩ := List.mem_map.mp hn
      exact hb e he, by simp; omega, q _ (Same.upd (Same.refl _) n1)⟩
noncomputable def sp_codes_of (K : PySem.W.Frag) : Sp := fun vs H Q E => ∃ (a : Addr) (es : List (Addr × Str × Int)), vs = [.ref a] ∧ H a = some (.lst (es.map fun e => V.ref e.1)) ∧ (∀ e ∈ es, H e.1 = some (.tup [.str e.2.1, .int e.2.2])) ∧ es.length ≤ 100 ∧ ∀ l H', H l = none → Same H H' → H' l = some (.lst ((es.filter fun e => e.2.1 == Str.ofString "code").map fun e => V.ref e.1)) → Q (.ref l) H'
theorem sc_codes_of : FnScope ["sections"] ["sections"] (defScope s_codes_of) := ⟨rfl, rfl, rfl, by decide +kernel, rfl, by decide +kernel, by decide +kernel⟩
theorem ok_codes_of (T : Txt K mg) : FnOk P w K mg base CX0 1 T.d_codes_of.f T.d_codes_of.fd ["sections"] (sp_codes_of K) := by
  have nd := sc_codes_of.nd
  refine T.d_codes_of.F.ok sc_codes_of (fun vs H Q E h => ?_) (fun cdv A outer s H vs Q E hr h => ?_)
  · obtain ⟨a, es, rfl, ha, hes, le, q⟩ := h
    rfl
  · obtain ⟨a, es, rfl, ha, hes, le, q⟩ := h
    have hu := hr.units0
    refine ⟨_, (pss_one (ps_ret (pe_lcomp (N' := ["section"]) (src := [none]) rfl (CompScope.of (by kernel_rfl)) (pi_listK (K := K) (pv 0)) (fun _ _ _ _ _ _ => (pg_name (i := 0) (show (["section"] : List Str).Nodup by decide +kernel) rfl (Or.inl rfl))) (fun _ _ _ _ _ _ => (pif_one (pt_cmpR (o_eq (K := K) hu) (pe_ix (o_ix (K := K)) (pv 0) pe_int (fun _ _ => rfl)) pe_str (nomark _)))) (fun _ _ _ _ _ _ => (pv 0))))), ?_⟩
    rw [show start ["sections"] [V.ref a] = [some (V.ref a)] from rfl]
    simp only [tSeq, tIfS, tRet, tRetN, tC, tVar, tOp, tUn, tTest, tB, tAnd, tOr, tNot, tAndV, tOrV, tNotV, tIf, tChain, tCons, tNil, tCall, tCB, tLst, tTup, tSl, tNoPart, tPart, gName, tNext, tDrop, tAsg, tAsgC, tBM, tYes, tDNewK, rI, rI0, rU, rEq, rNe, rAbs, rIntT, CDiv, add_ii, add_ss, mul_ii, mul_si, ix_si, eq_ii, eq_ss, eq_bb, ne_ii, ne_ss, ne_ni, ne_in, in_s1, notin_s1, is_xn, is_bb, isnot_xn, isnot_bb, sl_s, len_s, find_ss, index_ss, List.append_nil, List.cons_append, List.nil_append, List.getElem?_cons_succ, List.getElem?_cons_zero, List.set_cons_succ, List.set_cons_zero, Option.some.injEq, V.int.injEq, V.bl.injEq, V.str.injEq, V.ref.injEq, V.ty.injEq, List.cons.injEq, and_true, true_and, exists_eq_left, exists_eq_left', exists_and_left, exists_eq', exists_const, exists_and_right, exists_eq_right, exists_eq_right', reduceCtorEq, false_and, and_false, exists_false, or_false, false_or, decide_eq_true_eq, Bool.not_eq_true', decide_eq_false_iff_not, Bool.false_eq_true, if_false, if_true, mk_app, mk_len, sg_mk, mk_one, decide_true, decide_false, Bool.not_true, Bool.not_false, ite_true, ite_false, not_true_eq_false, not_false_eq_true, cxK, cutTo1, cutFrom1, mk_iff, tyV_str, stComp, List.map_cons, List.map_nil, Option.join_some, Option.join_none, gt_iff_lt, ge_iff_le, tRaise, tTryR, tCallH, tDisp, tPairs, tFld, sFld, tMake, tMeth, tAug, ipI, tDead, tBM0, if_false_right, and_self]
    refine tcomp_listM (xs := es.map fun e => V.ref e.1) (fun a' H0 => a' = a ∧ H0 = H) (fun R h => ⟨_, rfl, h _ _ ⟨rfl, rfl⟩⟩) (fun a' i ys H' => a' = a ∧ H' = H ∧ ys = ((es.take i).filter fun e => e.2.1 == Str.ofString "code").map fun e => V.ref e.1) (fun a' H0 h => ⟨h.1, h.2, rfl⟩) (fun a' i ys H' h => by rw [h.1, h.2.1]; exact SqL.of ha) (sl1000 (by simp; omega)) ?_ ?_
    · rintro a' i x ys H' Cy Cn hx ⟨rfl, rfl, rfl⟩ cy cn
      rw [List.getElem?_map] at hx
      obtain ⟨e, ee, rfl⟩ : ∃ e, es[i]? = some e ∧ x = V.ref e.1 := by
        cases e : es[i]? with
        | none => rw [e] at hx; cases hx
        | some t => rw [e] at hx; cases hx; exact ⟨t, rfl, rfl⟩
      have e1 := hes e (List.mem_of_getElem? ee)
      refine ⟨KeepSt.set rfl, ?_⟩
      simp only [tSeq, tIfS, tRet, tRetN, tC, tVar, tOp, tUn, tTest, tB, tAnd, tOr, tNot, tAndV, tOrV, tNotV, tIf, tChain, tCons, tNil, tCall, tCB, tLst, tTup, tSl, tNoPart, tPart, gName, tNext, tDrop, tAsg, tAsgC, tBM, tYes, tDNewK, rI, rI0, rU, rEq, rNe, rAbs, rIntT, CDiv, add_ii, add_ss, mul_ii, mul_si, ix_si, eq_ii, eq_ss, eq_bb, ne_ii, ne_ss, ne_ni, ne_in, in_s1, notin_s1, is_xn, is_bb, isnot_xn, isnot_bb, sl_s, len_s, find_ss, index_ss, List.append_nil, List.cons_append, List.nil_append, List.getElem?_cons_succ, List.getElem?_cons_zero, List.set_cons_succ, List.set_cons_zero, Option.some.injEq, V.int.injEq, V.bl.injEq, V.str.injEq, V.ref.injEq, V.ty.injEq, List.cons.injEq, and_true, true_and, exists_eq_left, exists_eq_left', exists_and_left, exists_eq', exists_const, exists_and_right, exists_eq_right, exists_eq_right', reduceCtorEq, false_and, and_false, exists_false, or_false, false_or, decide_eq_true_eq, Bool.not_eq_true', decide_eq_false_iff_not, Bool.false_eq_true, if_false, if_true, mk_app, mk_len, sg_mk, mk_one, decide_true, decide_false, Bool.not_true, Bool.not_false, ite_true, ite_false, not_true_eq_false, not_false_eq_true, cxK, cutTo1, cutFrom1, mk_iff, tyV_str, stComp, List.map_cons, List.map_nil, Option.join_some, Option.join_none, gt_iff_lt, ge_iff_le, tRaise, tTryR, tCallH, tDisp, tPairs, tFld, sFld, tMake, tMeth, tAug, ipI, tDead, tBM0, if_false_right, and_self]
      refine ixT (SqT.of e1) (atIn (by decide) rfl) ?_
      simp only [tSeq, tIfS, tRet, tRetN, tC, tVar, tOp, tUn, tTest, tB, tAnd, tOr, tNot, tAndV, tOrV, tNotV, tIf, tChain, tCons, tNil, tCall, tCB, tLst, tTup, tSl, tNoPart, tPart, gName, tNext, tDrop, tAsg, tAsgC, tBM, tYes, tDNewK, rI, rI0, rU, rEq, rNe, rAbs, rIntT, CDiv, add_ii, add_ss, mul_ii, mul_si, ix_si, eq_ii, eq_ss, eq_bb, ne_ii, ne_ss, ne_ni, ne_in, in_s1, notin_s1, is_xn, is_bb, isnot_xn, isnot_bb, sl_s, len_s, find_ss, index_ss, List.append_nil, List.cons_append, List.nil_append, List.getElem?_cons_succ, List.getElem?_cons_zero, List.set_cons_succ, List.set_cons_zero, Option.some.injEq, V.int.injEq, V.bl.injEq, V.str.injEq, V.ref.injEq, V.ty.injEq, List.cons.injEq, and_true, true_and, exists_eq_left, exists_eq_left', exists_and_left, exists_eq', exists_const, exists_and_right, exists_eq_right, exists_eq_right', reduceCtorEq, false_and, and_false, exists_false, or_false, false_or, decide_eq_true_eq, Bool.not_eq_true', decide_eq_false_iff_not, Bool.false_eq_true, if_false, if_true, mk_app, mk_len, sg_mk, mk_one, decide_true, decide_false, Bool.not_true, Bool.not_false, ite_true, ite_false, not_true_eq_false, not_false_eq_true, cxK, cutTo1, cutFrom1, mk_iff, tyV_str, stComp, List.map_cons, List.map_nil, Option.join_some, Option.join_none, gt_iff_lt, ge_iff_le, tRaise, tTryR, tCallH, tDisp, tPairs, tFld, sFld, tMake, tMeth, tAug, ipI, tDead, tBM0, if_false_right, and_self]
      exact ite2 (fun h => cy _ _ ⟨rfl, rfl, by rw [List.take_add_one, ee]; simp [List.filter_append, h]⟩) fun h => cn _ ⟨rfl, rfl, by rw [List.take_add_one, ee]; simp [List.filter_append, h]⟩
    rintro a' ys H' l1 ⟨rfl, rfl, rfl⟩ n1
    rw [List.length_map, List.take_length]
    exact q l1 _ n1 (Same.upd (Same.refl _) n1) upd_same
noncomputable def sp_beginnings_of (K : PySem.W.Frag) : Sp := fun vs H Q E => ∃ (a : Addr) (es : List (Addr × Str × Int)), vs = [.ref a] ∧ H a = some (.lst (es.map fun e => V.ref e.1)) ∧ (∀ e ∈ es, H e.1 = some (.tup [.str e.2.1, .int e.2.2])) ∧ es.length ≤ 100 ∧ ∀ l H', H l = none → Same H H' → H' l = some (.lst ((List.range es.length).map fun i => V.int ((es.take i).map (·.2.2)).sum)) → Q (.ref l) H'
theorem sc_beginnings_of : FnScope ["sections", "beginnings", "place", "section"] ["sections"] (defScope s_beginnings_of) := ⟨rfl, rfl, rfl, by decide +kernel, rfl, by decide +kernel, by decide +kernel⟩
theorem ok_beginnings_of (T : Txt K mg) : FnOk P w K mg base CX0 1 T.d_beginnings_of.f T.d_beginnings_of.fd ["sections"] (sp_beginnings_of K) := by
  have nd := sc_beginnings_of.nd
  refine T.d_beginnings_of.F.ok sc_beginnings_of (fun vs H Q E h => ?_) (fun cdv A outer s H vs Q E hr h => ?_)
  · obtain ⟨a, es, rfl, ha, hes, le, q⟩ := h
    rfl
  · obtain ⟨a, es, rfl, ha, hes, le, q⟩ := h
    have hu := hr.units0
    refine ⟨_, (pss_cons (ps_set (i := 1) nd rfl (Or.inl rfl) (pe_lst pa_nil))
      (pss_cons (ps_set (i := 2) nd rfl (Or.inl rfl) pe_int)
      (pss_cons (ps_for PassesOwn.never rfl (pi_listK (K := K) (pv 0)) (pg_name (i := 3) nd rfl (Or.inl rfl))
        (pss_cons (ps_expr (pm1 (K := K) PySem.F.plainAttrs_list PySem.F.slot_list_append PySem.F.type_list_append o_append (pv 1) (pa1 (pv 2) pa_nil)))
      (pss_one (ps_aug (i := 2) nd rfl (Or.inl rfl) (pe_ix (o_ix (K := K)) (pv 3) pe_int (fun _ _ => rfl)) ip_add))))
      (pss_one (ps_ret (pv 1)))))), ?_⟩
    rw [show start ["sections", "beginnings", "place", "section"] [V.ref a] = [some (V.ref a), none, none, none] from rfl]
    refine tSeq_gen fun B hB => ?_
    simp only [tSeq, tIfS, tRet, tRetN, tC, tVar, tOp, tUn, tTest, tB, tAnd, tOr, tNot, tAndV, tOrV, tNotV, tIf, tChain, tCons, tNil, tCall, tCB, tLst, tTup, tSl, tNoPart, tPart, gName, tNext, tDrop, tAsg, tAsgC, tBM, tYes, tDNewK, rI, rI0, rU, rEq, rNe, rAbs, rIntT, CDiv, add_ii, add_ss, mul_ii, mul_si, ix_si, eq_ii, eq_ss, eq_bb, ne_ii, ne_ss, ne_ni, ne_in, in_s1, notin_s1, is_xn, is_bb, isnot_xn, isnot_bb, sl_s, len_s, find_ss, index_ss, List.append_nil, List.cons_append, List.nil_append, List.getElem?_cons_succ, List.getElem?_cons_zero, List.set_cons_succ, List.set_cons_zero, Option.some.injEq, V.int.injEq, V.bl.injEq, V.str.injEq, V.ref.injEq, V.ty.injEq, List.cons.injEq, and_true, true_and, exists_eq_left, exists_eq_left', exists_and_left, exists_eq', exists_const, exists_and_right, exists_eq_right, exists_eq_right', reduceCtorEq, false_and, and_false, exists_false, or_false, false_or, decide_eq_true_eq, Bool.not_eq_true', decide_eq_false_iff_not, Bool.false_eq_true, if_false, if_true, mk_app, mk_len, sg_mk, mk_one, decide_true, decide_false, Bool.not_true, Bool.not_false, ite_true, ite_false, not_true_eq_false, not_false_eq_true, cxK, cutTo1, cutFrom1, mk_iff, tyV_str, stComp, List.map_cons, List.map_nil, Option.join_some, Option.join_none, gt_iff_lt, ge_iff_le, tRaise, tTryR, tCallH, tDisp, tPairs, tFld, sFld, tMake, tMeth, tAug, ipI, tDead, tBM0, if_false_right, and_self]
    refine ⟨sl1000 (by simp), fun p np => ?_⟩
    subst hB
    have S1 := Same.upd (Same.refl H) np (o := .lst [])
    have e1 : upd H p (.lst []) p = some (.lst []) := upd_same
    generalize upd H p (.lst []) = H1 at S1 e1 ⊢
    refine tSeq_gen fun B hB => ?_
    simp only [tSeq, tIfS, tRet, tRetN, tC, tVar, tOp, tUn, tTest, tB, tAnd, tOr, tNot, tAndV, tOrV, tNotV, tIf, tChain, tCons, tNil, tCall, tCB, tLst, tTup, tSl, tNoPart, tPart, gName, tNext, tDrop, tAsg, tAsgC, tBM, tYes, tDNewK, rI, rI0, rU, rEq, rNe, rAbs, rIntT, CDiv, add_ii, add_ss, mul_ii, mul_si, ix_si, eq_ii, eq_ss, eq_bb, ne_ii, ne_ss, ne_ni, ne_in, in_s1, notin_s1, is_xn, is_bb, isnot_xn, isnot_bb, sl_s, len_s, find_ss, index_ss, List.append_nil, List.cons_append, List.nil_append, List.getElem?_cons_succ, List.getElem?_cons_zero, List.set_cons_succ, List.set_cons_zero, Option.some.injEq, V.int.injEq, V.bl.injEq, V.str.injEq, V.ref.injEq, V.ty.injEq, List.cons.injEq, and_true, true_and, exists_eq_left, exists_eq_left', exists_and_left, exists_eq', exists_const, exists_and_right, exists_eq_right, exists_eq_right', reduceCtorEq, false_and, and_false, exists_false, or_false, false_or, decide_eq_true_eq, Bool.not_eq_true', decide_eq_false_iff_not, Bool.false_eq_true, if_false, if_true, mk_app, mk_len, sg_mk, mk_one, decide_true, decide_false, Bool.not_true, Bool.not_false, ite_true, ite_false, not_true_eq_false, not_false_eq_true, cxK, cutTo1, cutFrom1, mk_iff, tyV_str, stComp, List.map_cons, List.map_nil, Option.join_some, Option.join_none, gt_iff_lt, ge_iff_le, tRaise, tTryR, tCallH, tDisp, tPairs, tFld, sFld, tMake, tMeth, tAug, ipI, tDead, tBM0, if_false_right, and_self]
    subst hB
    refine tSeq_gen fun B hB => ?_
    refine tfor_list (a := a) (xs := es.map fun e => V.ref e.1) (fun R r => ⟨_, rfl, r⟩) (SqL.of (S1 _ _ ha)) (fun i σ H' => Same H H' ∧ H' p = some (.lst ((List.range i).map fun j => V.int ((es.take j).map (·.2.2)).sum)) ∧ ∃ v3, σ = [some (V.ref a), some (V.ref p), some (V.int ((es.take i).map (·.2.2)).sum), v3]) ⟨S1, e1, none, rfl⟩ (fun i σ H' h => SqL.of (h.1 _ _ ha)) ?_ ?_
    · rintro i x σ H' hx ⟨S2, ep, v3, rfl⟩
      rw [List.getElem?_map] at hx
      cases ee : es[i]? with
      | none => rw [ee] at hx; cases hx
      | some e =>
        rw [ee] at hx
        cases hx
        have he := hes e (List.mem_of_getElem? ee)
        have hi := (List.getElem?_eq_some_iff.mp ee).1
        clear hB
        refine tSeq_gen fun B hB => ?_
        simp only [tSeq, tIfS, tRet, tRetN, tC, tVar, tOp, tUn, tTest, tB, tAnd, tOr, tNot, tAndV, tOrV, tNotV, tIf, tChain, tCons, tNil, tCall, tCB, tLst, tTup, tSl, tNoPart, tPart, gName, tNext, tDrop, tAsg, tAsgC, tBM, tYes, tDNewK, rI, rI0, rU, rEq, rNe, rAbs, rIntT, CDiv, add_ii, add_ss, mul_ii, mul_si, ix_si, eq_ii, eq_ss, eq_bb, ne_ii, ne_ss, ne_ni, ne_in, in_s1, notin_s1, is_xn, is_bb, isnot_xn, isnot_bb, sl_s, len_s, find_ss, index_ss, List.append_nil, List.cons_append, List.nil_append, List.getElem?_cons_succ, List.getElem?_cons_zero, List.set_cons_succ, List.set_cons_zero, Option.some.injEq, V.int.injEq, V.bl.injEq, V.str.injEq, V.ref.injEq, V.ty.injEq, List.cons.injEq, and_true, true_and, exists_eq_left, exists_eq_left', exists_and_left, exists_eq', exists_const, exists_and_right, exists_eq_right, exists_eq_right', reduceCtorEq, false_and, and_false, exists_false, or_false, false_or, decide_eq_true_eq, Bool.not_eq_true', decide_eq_false_iff_not, Bool.false_eq_true, if_false, if_true, mk_app, mk_len, sg_mk, mk_one, decide_true, decide_false, Bool.not_true, Bool.not_false, ite_true, ite_false, not_true_eq_false, not_false_eq_true, cxK, cutTo1, cutFrom1, mk_iff, tyV_str, stComp, List.map_cons, List.map_nil, Option.join_some, Option.join_none, gt_iff_lt, ge_iff_le, tRaise, tTryR, tCallH, tDisp, tPairs, tFld, sFld, tMake, tMeth, tAug, ipI, tDead, tBM0, if_false_right, and_self]
        refine ⟨tyV_lst (SqL.of ep), appL ep (Nat.lt_of_lt_of_le (show _ < 100000 by simp; omega) (sl1000 (Nat.le_refl _))) ?_⟩
        subst hB
        have S3 := Same.set S2 np (o := .lst ((List.range i).map (fun j => V.int ((es.take j).map (·.2.2)).sum) ++ [V.int ((es.take i).map (·.2.2)).sum]))
        have e3 : upd H' p (.lst ((List.range i).map (fun j => V.int ((es.take j).map (·.2.2)).sum) ++ [V.int ((es.take i).map (·.2.2)).sum])) p = _ := upd_same
        generalize upd H' p (.lst ((List.range i).map (fun j => V.int ((es.take j).map (·.2.2)).sum) ++ [V.int ((es.take i).map (·.2.2)).sum])) = H4 at S3 e3 ⊢
        simp only [tSeq, tIfS, tRet, tRetN, tC, tVar, tOp, tUn, tTest, tB, tAnd, tOr, tNot, tAndV, tOrV, tNotV, tIf, tChain, tCons, tNil, tCall, tCB, tLst, tTup, tSl, tNoPart, tPart, gName, tNext, tDrop, tAsg, tAsgC, tBM, tYes, tDNewK, rI, rI0, rU, rEq, rNe, rAbs, rIntT, CDiv, add_ii, add_ss, mul_ii, mul_si, ix_si, eq_ii, eq_ss, eq_bb, ne_ii, ne_ss, ne_ni, ne_in, in_s1, notin_s1, is_xn, is_bb, isnot_xn, isnot_bb, sl_s, len_s, find_ss, index_ss, List.append_nil, List.cons_append, List.nil_append, List.getElem?_cons_succ, List.getElem?_cons_zero, List.set_cons_succ, List.set_cons_zero, Option.some.injEq, V.int.injEq, V.bl.injEq, V.str.injEq, V.ref.injEq, V.ty.injEq, List.cons.injEq, and_true, true_and, exists_eq_left, exists_eq_left', exists_and_left, exists_eq', exists_const, exists_and_right, exists_eq_right, exists_eq_right', reduceCtorEq, false_and, and_false, exists_false, or_false, false_or, decide_eq_true_eq, Bool.not_eq_true', decide_eq_false_iff_not, Bool.false_eq_true, if_false, if_true, mk_app, mk_len, sg_mk, mk_one, decide_true, decide_false, Bool.not_true, Bool.not_false, ite_true, ite_false, not_true_eq_false, not_false_eq_true, cxK, cutTo1, cutFrom1, mk_iff, tyV_str, stComp, List.map_cons, List.map_nil, Option.join_some, Option.join_none, gt_iff_lt, ge_iff_le, tRaise, tTryR, tCallH, tDisp, tPairs, tFld, sFld, tMake, tMeth, tAug, ipI, tDead, tBM0, if_false_right, and_self]
        refine ixT (SqT.of (S3 _ _ he)) (atIn (by decide) rfl) ?_
        have tk : ((es.take (i + 1)).map (·.2.2)).sum = ((es.take i).map (·.2.2)).sum + e.2.2 := by
          rw [List.take_add_one, ee]
          simp
        simp only [tSeq, tIfS, tRet, tRetN, tC, tVar, tOp, tUn, tTest, tB, tAnd, tOr, tNot, tAndV, tOrV, tNotV, tIf, tChain, tCons, tNil, tCall, tCB, tLst, tTup, tSl, tNoPart, tPart, gName, tNext, tDrop, tAsg, tAsgC, tBM, tYes, tDNewK, rI, rI0, rU, rEq, rNe, rAbs, rIntT, CDiv, add_ii, add_ss, mul_ii, mul_si, ix_si, eq_ii, eq_ss, eq_bb, ne_ii, ne_ss, ne_ni, ne_in, in_s1, notin_s1, is_xn, is_bb, isnot_xn, isnot_bb, sl_s, len_s, find_ss, index_ss, List.append_nil, List.cons_append, List.nil_append, List.getElem?_cons_succ, List.getElem?_cons_zero, List.set_cons_succ, List.set_cons_zero, Option.some.injEq, V.int.injEq, V.bl.injEq, V.str.injEq, V.ref.injEq, V.ty.injEq, List.cons.injEq, and_true, true_and, exists_eq_left, exists_eq_left', exists_and_left, exists_eq', exists_const, exists_and_right, exists_eq_right, exists_eq_right', reduceCtorEq, false_and, and_false, exists_false, or_false, false_or, decide_eq_true_eq, Bool.not_eq_true', decide_eq_false_iff_not, Bool.false_eq_true, if_false, if_true, mk_app, mk_len, sg_mk, mk_one, decide_true, decide_false, Bool.not_true, Bool.not_false, ite_true, ite_false, not_true_eq_false, not_false_eq_true, cxK, cutTo1, cutFrom1, mk_iff, tyV_str, stComp, List.map_cons, List.map_nil, Option.join_some, Option.join_none, gt_iff_lt, ge_iff_le, tRaise, tTryR, tCallH, tDisp, tPairs, tFld, sFld, tMake, tMeth, tAug, ipI, tDead, tBM0, if_false_right, and_self]
        exact ⟨S3, by rw [e3, List.range_succ, List.map_append]; rfl, tk.symm⟩
    rintro σ H' ⟨S2, ep, v3, rfl⟩
    subst hB
    simp only [tSeq, tIfS, tRet, tRetN, tC, tVar, tOp, tUn, tTest, tB, tAnd, tOr, tNot, tAndV, tOrV, tNotV, tIf, tChain, tCons, tNil, tCall, tCB, tLst, tTup, tSl, tNoPart, tPart, gName, tNext, tDrop, tAsg, tAsgC, tBM, tYes, tDNewK, rI, rI0, rU, rEq, rNe, rAbs, rIntT, CDiv, add_ii, add_ss, mul_ii, mul_si, ix_si, eq_ii, eq_ss, eq_bb, ne_ii, ne_ss, ne_ni, ne_in, in_s1, notin_s1, is_xn, is_bb, isnot_xn, isnot_bb, sl_s, len_s, find_ss, index_ss, List.append_nil, List.cons_append, List.nil_append, List.getElem?_cons_succ, List.getElem?_cons_zero, List.set_cons_succ, List.set_cons_zero, Option.some.injEq, V.int.injEq, V.bl.injEq, V.str.injEq, V.ref.injEq, V.ty.injEq, List.cons.injEq, and_true, true_and, exists_eq_left, exists_eq_left', exists_and_left, exists_eq', exists_const, exists_and_right, exists_eq_right, exists_eq_right', reduceCtorEq, false_and, and_false, exists_false, or_false, false_or, decide_eq_true_eq, Bool.not_eq_true', decide_eq_false_iff_not, Bool.false_eq_true, if_false, if_true, mk_app, mk_len, sg_mk, mk_one, decide_true, decide_false, Bool.not_true, Bool.not_false, ite_true, ite_false, not_true_eq_false, not_false_eq_true, cxK, cutTo1, cutFrom1, mk_iff, tyV_str, stComp, List.map_cons, List.map_nil, Option.join_some, Option.join_none, gt_iff_lt, ge_iff_le, tRaise, tTryR, tCallH, tDisp, tPairs, tFld, sFld, tMake, tMeth, tAug, ipI, tDead, tBM0, if_false_right, and_self]
    rw [List.length_map] at ep
    exact q p H' np S2 ep
noncomputable def sp_need_far_within (K : PySem.W.Frag) : Sp := fun vs H Q E => ∃ (a : Addr) (fs : List Int) (z : Int), vs = [.ref a, .int z] ∧ H a = some (.lst (fs.map V.int)) ∧ fs.Pairwise (fun p q => p + 2 ≤ q) ∧ (∀ p ∈ fs, 0 ≤ p ∧ p + 2 ≤ z) ∧ Q .non H
theorem sc_need_far_within : FnScope ["far", "size", "free", "place"] ["far", "size"] (defScope s_need_far_within) := ⟨rfl, rfl, rfl, by decide +kernel, rfl, by decide +kernel, by decide +kernel⟩
theorem ok_need_far_within (T : Txt K mg) : FnOk P w K mg base CX0 2 T.d_need_far_within.f T.d_need_far_within.fd ["far", "size"] (sp_need_far_within K) := by
  have nd := sc_need_far_within.nd
  refine T.d_need_far_within.F.ok sc_need_far_within (fun vs H Q E h => ?_) (fun cdv A outer s H vs Q E hr h => ?_)
  · obtain ⟨a, fs, z, rfl, ha, hp, hz, q⟩ := h
    rfl
  · obtain ⟨a, fs, z, rfl, ha, hp, hz, q⟩ := h
    have hu := hr.units0
    refine ⟨_, (pss_cons (ps_set (i := 2) nd rfl (Or.inl rfl) pe_int)
      (pss_one (ps_for PassesOwn.never rfl (pi_listK (K := K) (pv 0)) (pg_name (i := 3) nd rfl (Or.inl rfl))
        (pss_cons (ps_expr (pc1 T.d_need (ok_need T) (hr.mono (by decide)) (pa1 (pe_and (pe_cmpR op_le (pv 2) (pv 3) (nomark _)) (pe_one (pe_cmpR op_le (pe_op o_add (pv 3) pe_int) (pv 1) (nomark _)))) (pa1 pe_str pa_nil))))
      (pss_one (ps_set (i := 2) nd rfl (Or.inl rfl) (pe_op o_add (pv 3) pe_int))))))), ?_⟩
    rw [show start ["far", "size", "free", "place"] [V.ref a, V.int z] = [some (V.ref a), some (V.int z), none, none] from rfl]
    simp only [tSeq, tIfS, tRet, tRetN, tC, tVar, tOp, tUn, tTest, tB, tAnd, tOr, tNot, tAndV, tOrV, tNotV, tIf, tChain, tCons, tNil, tCall, tCB, tLst, tTup, tSl, tNoPart, tPart, gName, tNext, tDrop, tAsg, tAsgC, tBM, tYes, tDNewK, rI, rI0, rU, rEq, rNe, rAbs, rIntT, CDiv, add_ii, add_ss, mul_ii, mul_si, ix_si, eq_ii, eq_ss, eq_bb, ne_ii, ne_ss, ne_ni, ne_in, in_s1, notin_s1, is_xn, is_bb, isnot_xn, isnot_bb, sl_s, len_s, find_ss, index_ss, List.append_nil, List.cons_append, List.nil_append, List.getElem?_cons_succ, List.getElem?_cons_zero, List.set_cons_succ, List.set_cons_zero, Option.some.injEq, V.int.injEq, V.bl.injEq, V.str.injEq, V.ref.injEq, V.ty.injEq, List.cons.injEq, and_true, true_and, exists_eq_left, exists_eq_left', exists_and_left, exists_eq', exists_const, exists_and_right, exists_eq_right, exists_eq_right', reduceCtorEq, false_and, and_false, exists_false, or_false, false_or, decide_eq_true_eq, Bool.not_eq_true', decide_eq_false_iff_not, Bool.false_eq_true, if_false, if_true, mk_app, mk_len, sg_mk, mk_one, decide_true, decide_false, Bool.not_true, Bool.not_false, ite_true, ite_false, not_true_eq_false, not_false_eq_true, cxK, cutTo1, cutFrom1, mk_iff, tyV_str, stComp, List.map_cons, List.map_nil, Option.join_some, Option.join_none, gt_iff_lt, ge_iff_le, tRaise, tTryR, tCallH, tDisp, tPairs, tFld, sFld, tMake, tMeth, tAug, ipI, tDead, tBM0, if_false_right, and_self]
    refine tfor_list (a := a) (xs := fs.map V.int) (fun R r => ⟨_, rfl, r⟩) (SqL.of ha) (fun i σ H' => H' = H ∧ ∃ (fr : Int) (v3 : Option V), (∀ q ∈ fs.drop i, fr ≤ q) ∧ σ = [some (V.ref a), some (V.int z), some (V.int fr), v3]) ⟨rfl, 0, none, fun q hq => (hz q (List.mem_of_mem_drop hq)).1, rfl⟩ (fun i σ H' h => by rw [h.1]; exact SqL.of ha) ?_ ?_
    · rintro i x σ H' hx ⟨rfl, fr, v3, hfr, rfl⟩
      rw [List.getElem?_map] at hx
      cases ee : fs[i]? with
      | none => rw [ee] at hx; cases hx
      | some p =>
        rw [ee] at hx
        cases hx
        obtain ⟨hi, ei⟩ := List.getElem?_eq_some_iff.mp ee
        have hd : fs.drop i = p :: fs.drop (i + 1) := by rw [List.drop_eq_getElem_cons hi, ei]
        have h1 := hfr p (by rw [hd]; exact List.mem_cons_self)
        have h2 := (hz p (List.mem_of_getElem? ee)).2
        have h3 : ∀ q ∈ fs.drop (i + 1), p + 2 ≤ q := by
          have := hp.drop (i := i)
          rw [hd] at this
          exact (List.pairwise_cons.mp this).1
        simp only [tSeq, tIfS, tRet, tRetN, tC, tVar, tOp, tUn, tTest, tB, tAnd, tOr, tNot, tAndV, tOrV, tNotV, tIf, tChain, tCons, tNil, tCall, tCB, tLst, tTup, tSl, tNoPart, tPart, gName, tNext, tDrop, tAsg, tAsgC, tBM, tYes, tDNewK, rI, rI0, rU, rEq, rNe, rAbs, rIntT, CDiv, add_ii, add_ss, mul_ii, mul_si, ix_si, eq_ii, eq_ss, eq_bb, ne_ii, ne_ss, ne_ni, ne_in, in_s1, notin_s1, is_xn, is_bb, isnot_xn, isnot_bb, sl_s, len_s, find_ss, index_ss, List.append_nil, List.cons_append, List.nil_append, List.getElem?_cons_succ, List.getElem?_cons_zero, List.set_cons_succ, List.set_cons_zero, Option.some.injEq, V.int.injEq, V.bl.injEq, V.str.injEq, V.ref.injEq, V.ty.injEq, List.cons.injEq, and_true, true_and, exists_eq_left, exists_eq_left', exists_and_left, exists_eq', exists_const, exists_and_right, exists_eq_right, exists_eq_right', reduceCtorEq, false_and, and_false, exists_false, or_false, false_or, decide_eq_true_eq, Bool.not_eq_true', decide_eq_false_iff_not, Bool.false_eq_true, if_false, if_true, mk_app, mk_len, sg_mk, mk_one, decide_true, decide_false, Bool.not_true, Bool.not_false, ite_true, ite_false, not_true_eq_false, not_false_eq_true, cxK, cutTo1, cutFrom1, mk_iff, tyV_str, stComp, List.map_cons, List.map_nil, Option.join_some, Option.join_none, gt_iff_lt, ge_iff_le, tRaise, tTryR, tCallH, tDisp, tPairs, tFld, sFld, tMake, tMeth, tAug, ipI, tDead, tBM0, if_false_right, and_self]
        rw [if_pos h1]
        exact ⟨_, _, rfl, decide_eq_true h2, rfl, h3⟩
    rintro σ H' ⟨rfl, fr, v3, hfr, rfl⟩
    simp only [tSeq, tIfS, tRet, tRetN, tC, tVar, tOp, tUn, tTest, tB, tAnd, tOr, tNot, tAndV, tOrV, tNotV, tIf, tChain, tCons, tNil, tCall, tCB, tLst, tTup, tSl, tNoPart, tPart, gName, tNext, tDrop, tAsg, tAsgC, tBM, tYes, tDNewK, rI, rI0, rU, rEq, rNe, rAbs, rIntT, CDiv, add_ii, add_ss, mul_ii, mul_si, ix_si, eq_ii, eq_ss, eq_bb, ne_ii, ne_ss, ne_ni, ne_in, in_s1, notin_s1, is_xn, is_bb, isnot_xn, isnot_bb, sl_s, len_s, find_ss, index_ss, List.append_nil, List.cons_append, List.nil_append, List.getElem?_cons_succ, List.getElem?_cons_zero, List.set_cons_succ, List.set_cons_zero, Option.some.injEq, V.int.injEq, V.bl.injEq, V.str.injEq, V.ref.injEq, V.ty.injEq, List.cons.injEq, and_true, true_and, exists_eq_left, exists_eq_left', exists_and_left, exists_eq', exists_const, exists_and_right, exists_eq_right, exists_eq_right', reduceCtorEq, false_and, and_false, exists_false, or_false, false_or, decide_eq_true_eq, Bool.not_eq_true', decide_eq_false_iff_not, Bool.false_eq_true, if_false, if_true, mk_app, mk_len, sg_mk, mk_one, decide_true, decide_false, Bool.not_true, Bool.not_false, ite_true, ite_false, not_true_eq_false, not_false_eq_true, cxK, cutTo1, cutFrom1, mk_iff, tyV_str, stComp, List.map_cons, List.map_nil, Option.join_some, Option.join_none, gt_iff_lt, ge_iff_le, tRaise, tTryR, tCallH, tDisp, tPairs, tFld, sFld, tMake, tMeth, tAug, ipI, tDead, tBM0, if_false_right, and_self]
    exact q
noncomputable def sp_image_in (T : Txt K mg) : Sp := fun vs H Q E => ∃ (a : Addr) (m : Int) (ks : List (Str × Int)) (bs fs : List Int) (n k : Nat), vs = [.ref a] ∧ H a = some (.lst ((dueF m ks bs fs).map V.int)) ∧ GI n k m ks bs fs ∧ ∀ (p dx s b f : Addr) (ts : List (Addr × Str × Int)) (H' : Hp), H p = none → H s = none → H b = none → H f = none → Same H H' → H' p = some (.ins T.x_Image dx (fldI m s b f)) → H' s = some (.lst (refsT ts)) → SecL H' ts → ksT ts = ks → H' b = some (.lst (bs.map V.int)) → H' f = some (.lst (fs.map V.int)) → Q (.ref p) H'
theorem sc_image_in : FnScope ["row", "reader", "main", "sections", "body", "far"] ["row"] (defScope s_image_in) := ⟨rfl, rfl, rfl, by decide +kernel, rfl, by decide +kernel, by decide +kernel⟩
theorem ok_image_in (T : Txt K mg) : FnOk P w K mg base CX0 5 T.d_image_in.f T.d_image_in.fd ["row"] (sp_image_in T) := by
  have nd := sc_image_in.nd
  refine T.d_image_in.F.ok sc_image_in (fun vs H Q E h => ?_) (fun cdv A outer s H vs Q E hr h => ?_)
  · obtain ⟨a, m, ks, bs, fs, n, k, rfl, ha, gi, q⟩ := h
    rfl
  · obtain ⟨a, m, ks, bs, fs, n, k, rfl, ha, gi, q⟩ := h
    have hu := hr.units0
    refine ⟨_, (pss_cons (ps_set (i := 1) nd rfl (Or.inr rfl) (pmk T.mk_Reader T.kp_Reader T.m_Reader T.d_Reader___init__ (ok_Reader___init__ T) (hr.mono (by decide)) (pa1 (pc1 T.d_opened (ok_opened T) (hr.mono (by decide)) (pa1 (pv 0) pa_nil)) pa_nil)))
      (pss_cons (ps_expr (pmt (pv 1) T.oc_Reader T.d_Reader_need_mark (ok_Reader_need_mark T) (hr.mono (by decide)) (pa1 (pe_gl rfl T.c_MARK) pa_nil)))
      (pss_cons (ps_set (i := 2) nd rfl (Or.inl rfl) (pmt0 (pv 1) T.oc_Reader T.d_Reader_two (ok_Reader_two T) (hr.mono (by decide))))
      (pss_cons (ps_set_lcomp (i := 3) nd rfl rfl (N' := ["turn", "reader"]) (src := [none, some 1]) rfl (CompScope.of (by kernel_rfl)) (pi_range1 rfl T.n_range (pa1 (pmt0 (pv 1) T.oc_Reader T.d_Reader_two (ok_Reader_two T) (hr.mono (by decide))) pa_nil)) (fun _ _ _ _ _ _ => (pg_name (i := 0) (show (["turn", "reader"] : List Str).Nodup by decide +kernel) rfl (Or.inl rfl))) (fun _ _ _ _ _ _ => pif_nil) (fun _ _ _ _ _ _ => (pc1 T.d_section_read (ok_section_read T) (hr.mono (by decide)) (pa1 (pv 1) pa_nil))))
      (pss_cons (ps_expr (pc1 T.d_need_codes_ahead (ok_need_codes_ahead T) (hr.mono (by decide)) (pa1 (pv 3) pa_nil)))
      (pss_cons (ps_expr (pc1 T.d_need (ok_need T) (hr.mono (by decide)) (pa1 (pe_cmpR op_le (pc1 T.d_size_of (ok_size_of T) (hr.mono (by decide)) (pa1 (pv 3) pa_nil)) (pe_gl rfl T.c_MOST_BYTES) (nomark _)) (pa1 pe_str pa_nil))))
      (pss_cons (ps_set (i := 4) nd rfl (Or.inl rfl) (pmt (pv 1) T.oc_Reader T.d_Reader_several (ok_Reader_several T) (hr.mono (by decide)) (pa1 (pc1 T.d_size_of (ok_size_of T) (hr.mono (by decide)) (pa1 (pv 3) pa_nil)) pa_nil)))
      (pss_cons (ps_set_lcomp (i := 5) nd rfl rfl (N' := ["turn", "reader"]) (src := [none, some 1]) rfl (CompScope.of (by kernel_rfl)) (pi_range1 rfl T.n_range (pa1 (pmt0 (pv 1) T.oc_Reader T.d_Reader_two (ok_Reader_two T) (hr.mono (by decide))) pa_nil)) (fun _ _ _ _ _ _ => (pg_name (i := 0) (show (["turn", "reader"] : List Str).Nodup by decide +kernel) rfl (Or.inl rfl))) (fun _ _ _ _ _ _ => pif_nil) (fun _ _ _ _ _ _ => (pmt0 (pv 1) T.oc_Reader T.d_Reader_two (ok_Reader_two T) (hr.mono (by decide)))))
      (pss_cons (ps_expr (pmt0 (pv 1) T.oc_Reader T.d_Reader_need_end (ok_Reader_need_end T) (hr.mono (by decide))))
      (pss_cons (ps_expr (pc1 T.d_need (ok_need T) (hr.mono (by decide)) (pa1 (pe_cmpR (o_in (K := K)) (pv 2) (pc1 T.d_beginnings_of (ok_beginnings_of T) (hr.mono (by decide)) (pa1 (pc1 T.d_codes_of (ok_codes_of T) (hr.mono (by decide)) (pa1 (pv 3) pa_nil)) pa_nil)) (by with_unfolding_all rfl)) (pa1 pe_str pa_nil))))
      (pss_cons (ps_expr (pc1 T.d_need_far_within (ok_need_far_within T) (hr.mono (by decide)) (pa1 (pv 5) (pa1 (pc1 T.d_size_of (ok_size_of T) (hr.mono (by decide)) (pa1 (pc1 T.d_codes_of (ok_codes_of T) (hr.mono (by decide)) (pa1 (pv 3) pa_nil)) pa_nil)) pa_nil))))
      (pss_one (ps_ret (pmk T.mk_Image T.kp_Image T.m_Image T.d_Image___init__ (ok_Image___init__ T) (hr.mono (by decide)) (pa1 (pv 2) (pa1 (pv 3) (pa1 (pv 4) (pa1 (pv 5) pa_nil)))))))))))))))))), ?_⟩
    rw [show start ["row", "reader", "main", "sections", "body", "far"] [V.ref a] = [some (V.ref a), none, none, none, none, none] from rfl]
    have l6 := gi.len6
    have lfs := gi.fl
    have hrl := gi.rl
    refine tSeq_gen fun B hB => ?_
    simp only [tSeq, tIfS, tRet, tRetN, tC, tVar, tOp, tUn, tTest, tB, tAnd, tOr, tNot, tAndV, tOrV, tNotV, tIf, tChain, tCons, tNil, tCall, tCB, tLst, tTup, tSl, tNoPart, tPart, gName, tNext, tDrop, tAsg, tAsgC, tBM, tYes, tDNewK, rI, rI0, rU, rEq, rNe, rAbs, rIntT, CDiv, add_ii, add_ss, mul_ii, mul_si, ix_si, eq_ii, eq_ss, eq_bb, ne_ii, ne_ss, ne_ni, ne_in, in_s1, notin_s1, is_xn, is_bb, isnot_xn, isnot_bb, sl_s, len_s, find_ss, index_ss, List.append_nil, List.cons_append, List.nil_append, List.getElem?_cons_succ, List.getElem?_cons_zero, List.set_cons_succ, List.set_cons_zero, Option.some.injEq, V.int.injEq, V.bl.injEq, V.str.injEq, V.ref.injEq, V.ty.injEq, List.cons.injEq, and_true, true_and, exists_eq_left, exists_eq_left', exists_and_left, exists_eq', exists_const, exists_and_right, exists_eq_right, exists_eq_right', reduceCtorEq, false_and, and_false, exists_false, or_false, false_or, decide_eq_true_eq, Bool.not_eq_true', decide_eq_false_iff_not, Bool.false_eq_true, if_false, if_true, mk_app, mk_len, sg_mk, mk_one, decide_true, decide_false, Bool.not_true, Bool.not_false, ite_true, ite_false, not_true_eq_false, not_false_eq_true, cxK, cutTo1, cutFrom1, mk_iff, tyV_str, stComp, List.map_cons, List.map_nil, Option.join_some, Option.join_none, gt_iff_lt, ge_iff_le, tRaise, tTryR, tCallH, tDisp, tPairs, tFld, sFld, tMake, tMeth, tAug, ipI, tDead, tBM0, if_false_right, and_self]
    refine ⟨a, rowF m ks bs fs, rfl, ha, gi.rb, by omega, fun r H1 nr S1 er x dx nx ndx nxd => ?_⟩
    have K0 : Same H1 (upd (upd H1 dx (.own x)) x (.ins T.x_Reader dx [])) := fun c o e => by
      rw [upd_ne (ne_of_none e nx), upd_ne (ne_of_none e ndx)]
      exact e
    refine ⟨x, dx, r, _, rfl, upd_same, K0 _ _ er, fun c H3 nc hx hc st => ⟨rfl, ?_⟩⟩
    have nxH : H x = none := S1.no nx
    have S := Stp.same (S1.trans K0) nxH st
    have cx : c ≠ x := ne_ins hx hc (by intro _ _ _ z; cases z)
    clear st K0 nc nx ndx nxd er S1 nr
    subst hB
    refine tSeq_gen fun B hB => ?_
    simp only [tSeq, tIfS, tRet, tRetN, tC, tVar, tOp, tUn, tTest, tB, tAnd, tOr, tNot, tAndV, tOrV, tNotV, tIf, tChain, tCons, tNil, tCall, tCB, tLst, tTup, tSl, tNoPart, tPart, gName, tNext, tDrop, tAsg, tAsgC, tBM, tYes, tDNewK, rI, rI0, rU, rEq, rNe, rAbs, rIntT, CDiv, add_ii, add_ss, mul_ii, mul_si, ix_si, eq_ii, eq_ss, eq_bb, ne_ii, ne_ss, ne_ni, ne_in, in_s1, notin_s1, is_xn, is_bb, isnot_xn, isnot_bb, sl_s, len_s, find_ss, index_ss, List.append_nil, List.cons_append, List.nil_append, List.getElem?_cons_succ, List.getElem?_cons_zero, List.set_cons_succ, List.set_cons_zero, Option.some.injEq, V.int.injEq, V.bl.injEq, V.str.injEq, V.ref.injEq, V.ty.injEq, List.cons.injEq, and_true, true_and, exists_eq_left, exists_eq_left', exists_and_left, exists_eq', exists_const, exists_and_right, exists_eq_right, exists_eq_right', reduceCtorEq, false_and, and_false, exists_false, or_false, false_or, decide_eq_true_eq, Bool.not_eq_true', decide_eq_false_iff_not, Bool.false_eq_true, if_false, if_true, mk_app, mk_len, sg_mk, mk_one, decide_true, decide_false, Bool.not_true, Bool.not_false, ite_true, ite_false, not_true_eq_false, not_false_eq_true, cxK, cutTo1, cutFrom1, mk_iff, tyV_str, stComp, List.map_cons, List.map_nil, Option.join_some, Option.join_none, gt_iff_lt, ge_iff_le, tRaise, tTryR, tCallH, tDisp, tPairs, tFld, sFld, tMake, tMeth, tAug, ipI, tDead, tBM0, if_false_right, and_self]
    refine ⟨dx, _, hx, fR_no _ _ (by decide +kernel) (by decide +kernel), x, dx, c, T.x_MARK, two m ++ (two (ks.length : Int) ++ (secB ks ++ (bs ++ (two (fs.length : Int) ++ farB fs)))), rfl, T.sq_MARK, hx, hc, fun H4 st hx => ?_⟩
    have S := Stp.same S nxH st
    have hc := st.1 _ _ hc cx
    clear st
    subst hB
    refine tSeq_gen fun B hB => ?_
    simp only [tSeq, tIfS, tRet, tRetN, tC, tVar, tOp, tUn, tTest, tB, tAnd, tOr, tNot, tAndV, tOrV, tNotV, tIf, tChain, tCons, tNil, tCall, tCB, tLst, tTup, tSl, tNoPart, tPart, gName, tNext, tDrop, tAsg, tAsgC, tBM, tYes, tDNewK, rI, rI0, rU, rEq, rNe, rAbs, rIntT, CDiv, add_ii, add_ss, mul_ii, mul_si, ix_si, eq_ii, eq_ss, eq_bb, ne_ii, ne_ss, ne_ni, ne_in, in_s1, notin_s1, is_xn, is_bb, isnot_xn, isnot_bb, sl_s, len_s, find_ss, index_ss, List.append_nil, List.cons_append, List.nil_append, List.getElem?_cons_succ, List.getElem?_cons_zero, List.set_cons_succ, List.set_cons_zero, Option.some.injEq, V.int.injEq, V.bl.injEq, V.str.injEq, V.ref.injEq, V.ty.injEq, List.cons.injEq, and_true, true_and, exists_eq_left, exists_eq_left', exists_and_left, exists_eq', exists_const, exists_and_right, exists_eq_right, exists_eq_right', reduceCtorEq, false_and, and_false, exists_false, or_false, false_or, decide_eq_true_eq, Bool.not_eq_true', decide_eq_false_iff_not, Bool.false_eq_true, if_false, if_true, mk_app, mk_len, sg_mk, mk_one, decide_true, decide_false, Bool.not_true, Bool.not_false, ite_true, ite_false, not_true_eq_false, not_false_eq_true, cxK, cutTo1, cutFrom1, mk_iff, tyV_str, stComp, List.map_cons, List.map_nil, Option.join_some, Option.join_none, gt_iff_lt, ge_iff_le, tRaise, tTryR, tCallH, tDisp, tPairs, tFld, sFld, tMake, tMeth, tAug, ipI, tDead, tBM0, if_false_right, and_self]
    refine ⟨dx, _, hx, fR_no _ _ (by decide +kernel) (by decide +kernel), x, dx, c, [105, 1], m, two (ks.length : Int) ++ (secB ks ++ (bs ++ (two (fs.length : Int) ++ farB fs))), rfl, hx, hc, fun H5 st hx => ?_⟩
    have S := Stp.same S nxH st
    have hc := st.1 _ _ hc cx
    clear st
    subst hB
    refine tSeq_gen fun B hB => ?_
    simp only [tSeq, tIfS, tRet, tRetN, tC, tVar, tOp, tUn, tTest, tB, tAnd, tOr, tNot, tAndV, tOrV, tNotV, tIf, tChain, tCons, tNil, tCall, tCB, tLst, tTup, tSl, tNoPart, tPart, gName, tNext, tDrop, tAsg, tAsgC, tBM, tYes, tDNewK, rI, rI0, rU, rEq, rNe, rAbs, rIntT, CDiv, add_ii, add_ss, mul_ii, mul_si, ix_si, eq_ii, eq_ss, eq_bb, ne_ii, ne_ss, ne_ni, ne_in, in_s1, notin_s1, is_xn, is_bb, isnot_xn, isnot_bb, sl_s, len_s, find_ss, index_ss, List.append_nil, List.cons_append, List.nil_append, List.getElem?_cons_succ, List.getElem?_cons_zero, List.set_cons_succ, List.set_cons_zero, Option.some.injEq, V.int.injEq, V.bl.injEq, V.str.injEq, V.ref.injEq, V.ty.injEq, List.cons.injEq, and_true, true_and, exists_eq_left, exists_eq_left', exists_and_left, exists_eq', exists_const, exists_and_right, exists_eq_right, exists_eq_right', reduceCtorEq, false_and, and_false, exists_false, or_false, false_or, decide_eq_true_eq, Bool.not_eq_true', decide_eq_false_iff_not, Bool.false_eq_true, if_false, if_true, mk_app, mk_len, sg_mk, mk_one, decide_true, decide_false, Bool.not_true, Bool.not_false, ite_true, ite_false, not_true_eq_false, not_false_eq_true, cxK, cutTo1, cutFrom1, mk_iff, tyV_str, stComp, List.map_cons, List.map_nil, Option.join_some, Option.join_none, gt_iff_lt, ge_iff_le, tRaise, tTryR, tCallH, tDisp, tPairs, tFld, sFld, tMake, tMeth, tAug, ipI, tDead, tBM0, if_false_right, and_self]
    refine tcomp_rngM (ks.length : Int) (by omega) (by omega) (fun H0 => Same H H0 ∧ H0 x = some (.ins T.x_Reader dx (fldR c (hdr m ks.length).length)) ∧ H0 c = some (.lst ((rowF m ks bs fs).map V.int))) (fun R h => ⟨_, rfl, x, dx, _, rfl, hx, fR_no _ _ (by decide +kernel) (by decide +kernel), x, dx, c, [105, 1] ++ two m, (ks.length : Int), secB ks ++ (bs ++ (two (fs.length : Int) ++ farB fs)), rfl, hx, hc, fun H6 st hx6 => h H6 ⟨Stp.same S nxH st, hx6, st.1 _ _ hc cx⟩⟩) (fun i ys H' => Same H H' ∧ H' x = some (.ins T.x_Reader dx (fldR c (hdr m ks.length ++ secB (ks.take i)).length)) ∧ H' c = some (.lst ((rowF m ks bs fs).map V.int)) ∧ ∃ ts, ys = refsT ts ∧ ksT ts = ks.take i ∧ SecL H' ts) rfl (fun H0 h => ⟨h.1, h.2.1, h.2.2, [], rfl, rfl, fun e he => nomatch he⟩) ?_ ?_
    · clear hx hc S
      rintro i ys H7 Cy Cn hi ⟨S, hx, hc, ts, rfl, ek, hts⟩ cy cn
      obtain ⟨e, ee⟩ : ∃ e, ks[i]? = some e := ⟨_, List.getElem?_eq_getElem (by omega)⟩
      have rq : rowF m ks bs fs = (hdr m ks.length ++ secB (ks.take i)) ++ ((kindN e.1 :: two e.2) ++ (secB (ks.drop (i + 1)) ++ (bs ++ (two (fs.length : Int) ++ farB fs)))) := by
        rw [rowF, secB_at ee]
        simp [hdr]
      simp only [tSeq, tIfS, tRet, tRetN, tC, tVar, tOp, tUn, tTest, tB, tAnd, tOr, tNot, tAndV, tOrV, tNotV, tIf, tChain, tCons, tNil, tCall, tCB, tLst, tTup, tSl, tNoPart, tPart, gName, tNext, tDrop, tAsg, tAsgC, tBM, tYes, tDNewK, rI, rI0, rU, rEq, rNe, rAbs, rIntT, CDiv, add_ii, add_ss, mul_ii, mul_si, ix_si, eq_ii, eq_ss, eq_bb, ne_ii, ne_ss, ne_ni, ne_in, in_s1, notin_s1, is_xn, is_bb, isnot_xn, isnot_bb, sl_s, len_s, find_ss, index_ss, List.append_nil, List.cons_append, List.nil_append, List.getElem?_cons_succ, List.getElem?_cons_zero, List.set_cons_succ, List.set_cons_zero, Option.some.injEq, V.int.injEq, V.bl.injEq, V.str.injEq, V.ref.injEq, V.ty.injEq, List.cons.injEq, and_true, true_and, exists_eq_left, exists_eq_left', exists_and_left, exists_eq', exists_const, exists_and_right, exists_eq_right, exists_eq_right', reduceCtorEq, false_and, and_false, exists_false, or_false, false_or, decide_eq_true_eq, Bool.not_eq_true', decide_eq_false_iff_not, Bool.false_eq_true, if_false, if_true, mk_app, mk_len, sg_mk, mk_one, decide_true, decide_false, Bool.not_true, Bool.not_false, ite_true, ite_false, not_true_eq_false, not_false_eq_true, cxK, cutTo1, cutFrom1, mk_iff, tyV_str, stComp, List.map_cons, List.map_nil, Option.join_some, Option.join_none, gt_iff_lt, ge_iff_le, tRaise, tTryR, tCallH, tDisp, tPairs, tFld, sFld, tMake, tMeth, tAug, ipI, tDead, tBM0, if_false_right, and_self]
      refine ⟨x, dx, c, hdr m ks.length ++ secB (ks.take i), e, secB (ks.drop (i + 1)) ++ (bs ++ (two (fs.length : Int) ++ farB fs)), rfl, hx, by rw [← rq]; exact hc, gi.kd e (List.mem_of_getElem? ee), (gi.sz e (List.mem_of_getElem? ee)).1, fun l H8 nl el st hx8 => cy _ _ ⟨Stp.same S nxH st, ?_, st.1 _ _ hc cx, ts ++ [(l, e)], by simp [refsT], ?_, (hts.stp hx st).snoc el⟩⟩
      · rw [take_snocT ee, secB_snoc, ← List.append_assoc]
        exact hx8
      · rw [take_snocT ee, ← ek]
        simp [ksT]
    clear hx hc S
    rintro ys H8 l3 ⟨S, hx, hc, ts, rfl, ek, hts⟩ n3
    rw [Int.toNat_natCast, List.take_length] at hx ek
    have n3H := S.no n3
    have t0 := Same.upd (Same.refl H8) n3 (o := .lst (refsT ts))
    have e3 : upd H8 l3 (.lst (refsT ts)) l3 = some (.lst (refsT ts)) := upd_same
    generalize upd H8 l3 (.lst (refsT ts)) = H9 at t0 e3 ⊢
    have hx := t0 _ _ hx
    have hc := t0 _ _ hc
    have hts := hts.same t0
    have S := S.trans t0
    clear t0
    have l3x : l3 ≠ x := ne_ins hx e3 (by intro _ _ _ z; cases z)
    have lt6 : ts.length ≤ 6 := by rw [← ksT_len, ek]; exact l6
    have bnd : ∀ e ∈ ts, 0 ≤ e.2.2 ∧ e.2.2 < 1000000 := fun e he => by
      have := gi.sz e.2 (by rw [← ek]; exact List.mem_map.mpr ⟨e, he, rfl⟩)
      omega
    have hkd : (ksT ts).map (·.1) = List.replicate n codeS ++ List.replicate k dataS := by rw [ek]; exact gi.kinds
    have hsum : (ts.map (·.2.2)).sum = (bs.length : Int) := by rw [sum_k, ek, gi.lb]
    subst hB
    refine tSeq_gen fun B hB => ?_
    simp only [tSeq, tIfS, tRet, tRetN, tC, tVar, tOp, tUn, tTest, tB, tAnd, tOr, tNot, tAndV, tOrV, tNotV, tIf, tChain, tCons, tNil, tCall, tCB, tLst, tTup, tSl, tNoPart, tPart, gName, tNext, tDrop, tAsg, tAsgC, tBM, tYes, tDNewK, rI, rI0, rU, rEq, rNe, rAbs, rIntT, CDiv, add_ii, add_ss, mul_ii, mul_si, ix_si, eq_ii, eq_ss, eq_bb, ne_ii, ne_ss, ne_ni, ne_in, in_s1, notin_s1, is_xn, is_bb, isnot_xn, isnot_bb, sl_s, len_s, find_ss, index_ss, List.append_nil, List.cons_append, List.nil_append, List.getElem?_cons_succ, List.getElem?_cons_zero, List.set_cons_succ, List.set_cons_zero, Option.some.injEq, V.int.injEq, V.bl.injEq, V.str.injEq, V.ref.injEq, V.ty.injEq, List.cons.injEq, and_true, true_and, exists_eq_left, exists_eq_left', exists_and_left, exists_eq', exists_const, exists_and_right, exists_eq_right, exists_eq_right', reduceCtorEq, false_and, and_false, exists_false, or_false, false_or, decide_eq_true_eq, Bool.not_eq_true', decide_eq_false_iff_not, Bool.false_eq_true, if_false, if_true, mk_app, mk_len, sg_mk, mk_one, decide_true, decide_false, Bool.not_true, Bool.not_false, ite_true, ite_false, not_true_eq_false, not_false_eq_true, cxK, cutTo1, cutFrom1, mk_iff, tyV_str, stComp, List.map_cons, List.map_nil, Option.join_some, Option.join_none, gt_iff_lt, ge_iff_le, tRaise, tTryR, tCallH, tDisp, tPairs, tFld, sFld, tMake, tMeth, tAug, ipI, tDead, tBM0, if_false_right, and_self]
    refine ⟨l3, ts, n, k, rfl, e3, hts, by rw [← hkd]; simp [ksT], gi.nk.1, gi.nk.2, fun H10 S' => ?_⟩
    have hts := hts.same S'
    have e3 := S' _ _ e3
    have hx := S' _ _ hx
    have hc := S' _ _ hc
    have S := S.trans S'
    clear S'
    subst hB
    refine tSeq_gen fun B hB => ?_
    simp only [tSeq, tIfS, tRet, tRetN, tC, tVar, tOp, tUn, tTest, tB, tAnd, tOr, tNot, tAndV, tOrV, tNotV, tIf, tChain, tCons, tNil, tCall, tCB, tLst, tTup, tSl, tNoPart, tPart, gName, tNext, tDrop, tAsg, tAsgC, tBM, tYes, tDNewK, rI, rI0, rU, rEq, rNe, rAbs, rIntT, CDiv, add_ii, add_ss, mul_ii, mul_si, ix_si, eq_ii, eq_ss, eq_bb, ne_ii, ne_ss, ne_ni, ne_in, in_s1, notin_s1, is_xn, is_bb, isnot_xn, isnot_bb, sl_s, len_s, find_ss, index_ss, List.append_nil, List.cons_append, List.nil_append, List.getElem?_cons_succ, List.getElem?_cons_zero, List.set_cons_succ, List.set_cons_zero, Option.some.injEq, V.int.injEq, V.bl.injEq, V.str.injEq, V.ref.injEq, V.ty.injEq, List.cons.injEq, and_true, true_and, exists_eq_left, exists_eq_left', exists_and_left, exists_eq', exists_const, exists_and_right, exists_eq_right, exists_eq_right', reduceCtorEq, false_and, and_false, exists_false, or_false, false_or, decide_eq_true_eq, Bool.not_eq_true', decide_eq_false_iff_not, Bool.false_eq_true, if_false, if_true, mk_app, mk_len, sg_mk, mk_one, decide_true, decide_false, Bool.not_true, Bool.not_false, ite_true, ite_false, not_true_eq_false, not_false_eq_true, cxK, cutTo1, cutFrom1, mk_iff, tyV_str, stComp, List.map_cons, List.map_nil, Option.join_some, Option.join_none, gt_iff_lt, ge_iff_le, tRaise, tTryR, tCallH, tDisp, tPairs, tFld, sFld, tMake, tMeth, tAug, ipI, tDead, tBM0, if_false_right, and_self]
    refine ⟨l3, ts, rfl, e3, hts, by omega, bnd, fun H11 S' => ?_⟩
    rw [hsum]
    simp only [tSeq, tIfS, tRet, tRetN, tC, tVar, tOp, tUn, tTest, tB, tAnd, tOr, tNot, tAndV, tOrV, tNotV, tIf, tChain, tCons, tNil, tCall, tCB, tLst, tTup, tSl, tNoPart, tPart, gName, tNext, tDrop, tAsg, tAsgC, tBM, tYes, tDNewK, rI, rI0, rU, rEq, rNe, rAbs, rIntT, CDiv, add_ii, add_ss, mul_ii, mul_si, ix_si, eq_ii, eq_ss, eq_bb, ne_ii, ne_ss, ne_ni, ne_in, in_s1, notin_s1, is_xn, is_bb, isnot_xn, isnot_bb, sl_s, len_s, find_ss, index_ss, List.append_nil, List.cons_append, List.nil_append, List.getElem?_cons_succ, List.getElem?_cons_zero, List.set_cons_succ, List.set_cons_zero, Option.some.injEq, V.int.injEq, V.bl.injEq, V.str.injEq, V.ref.injEq, V.ty.injEq, List.cons.injEq, and_true, true_and, exists_eq_left, exists_eq_left', exists_and_left, exists_eq', exists_const, exists_and_right, exists_eq_right, exists_eq_right', reduceCtorEq, false_and, and_false, exists_false, or_false, false_or, decide_eq_true_eq, Bool.not_eq_true', decide_eq_false_iff_not, Bool.false_eq_true, if_false, if_true, mk_app, mk_len, sg_mk, mk_one, decide_true, decide_false, Bool.not_true, Bool.not_false, ite_true, ite_false, not_true_eq_false, not_false_eq_true, cxK, cutTo1, cutFrom1, mk_iff, tyV_str, stComp, List.map_cons, List.map_nil, Option.join_some, Option.join_none, gt_iff_lt, ge_iff_le, tRaise, tTryR, tCallH, tDisp, tPairs, tFld, sFld, tMake, tMeth, tAug, ipI, tDead, tBM0, if_false_right, and_self]
    refine ⟨_, _, rfl, decide_eq_true (by have := gi.bl; omega), ?_⟩
    have hts := hts.same S'
    have e3 := S' _ _ e3
    have hx := S' _ _ hx
    have hc := S' _ _ hc
    have S := S.trans S'
    clear S'
    subst hB
    refine tSeq_gen fun B hB => ?_
    simp only [tSeq, tIfS, tRet, tRetN, tC, tVar, tOp, tUn, tTest, tB, tAnd, tOr, tNot, tAndV, tOrV, tNotV, tIf, tChain, tCons, tNil, tCall, tCB, tLst, tTup, tSl, tNoPart, tPart, gName, tNext, tDrop, tAsg, tAsgC, tBM, tYes, tDNewK, rI, rI0, rU, rEq, rNe, rAbs, rIntT, CDiv, add_ii, add_ss, mul_ii, mul_si, ix_si, eq_ii, eq_ss, eq_bb, ne_ii, ne_ss, ne_ni, ne_in, in_s1, notin_s1, is_xn, is_bb, isnot_xn, isnot_bb, sl_s, len_s, find_ss, index_ss, List.append_nil, List.cons_append, List.nil_append, List.getElem?_cons_succ, List.getElem?_cons_zero, List.set_cons_succ, List.set_cons_zero, Option.some.injEq, V.int.injEq, V.bl.injEq, V.str.injEq, V.ref.injEq, V.ty.injEq, List.cons.injEq, and_true, true_and, exists_eq_left, exists_eq_left', exists_and_left, exists_eq', exists_const, exists_and_right, exists_eq_right, exists_eq_right', reduceCtorEq, false_and, and_false, exists_false, or_false, false_or, decide_eq_true_eq, Bool.not_eq_true', decide_eq_false_iff_not, Bool.false_eq_true, if_false, if_true, mk_app, mk_len, sg_mk, mk_one, decide_true, decide_false, Bool.not_true, Bool.not_false, ite_true, ite_false, not_true_eq_false, not_false_eq_true, cxK, cutTo1, cutFrom1, mk_iff, tyV_str, stComp, List.map_cons, List.map_nil, Option.join_some, Option.join_none, gt_iff_lt, ge_iff_le, tRaise, tTryR, tCallH, tDisp, tPairs, tFld, sFld, tMake, tMeth, tAug, ipI, tDead, tBM0, if_false_right, and_self]
    have rq2 : rowF m ks bs fs = (hdr m ks.length ++ secB ks) ++ (bs ++ (two (fs.length : Int) ++ farB fs)) := by simp [rowF, hdr]
    refine ⟨dx, _, hx, fR_no _ _ (by decide +kernel) (by decide +kernel), l3, ts, rfl, e3, hts, by omega, bnd, fun H12 S' => ?_⟩
    have hts := hts.same S'
    have e3 := S' _ _ e3
    have hx := S' _ _ hx
    have hc := S' _ _ hc
    have S := S.trans S'
    clear S'
    refine ⟨x, dx, c, hdr m ks.length ++ secB ks, bs, two (fs.length : Int) ++ farB fs, by rw [hsum], hx, by rw [← rq2]; exact hc, fun l4 H13 n4 e4 st hx' => ?_⟩
    have n4H := S.no n4
    have hts := hts.stp hx st
    have e3 := st.1 _ _ e3 l3x
    have S := Stp.same S nxH st
    have hc := st.1 _ _ hc cx
    have hx := hx'
    clear st hx'
    have l4x : l4 ≠ x := ne_ins hx e4 (by intro _ _ _ z; cases z)
    subst hB
    refine tSeq_gen fun B hB => ?_
    simp only [tSeq, tIfS, tRet, tRetN, tC, tVar, tOp, tUn, tTest, tB, tAnd, tOr, tNot, tAndV, tOrV, tNotV, tIf, tChain, tCons, tNil, tCall, tCB, tLst, tTup, tSl, tNoPart, tPart, gName, tNext, tDrop, tAsg, tAsgC, tBM, tYes, tDNewK, rI, rI0, rU, rEq, rNe, rAbs, rIntT, CDiv, add_ii, add_ss, mul_ii, mul_si, ix_si, eq_ii, eq_ss, eq_bb, ne_ii, ne_ss, ne_ni, ne_in, in_s1, notin_s1, is_xn, is_bb, isnot_xn, isnot_bb, sl_s, len_s, find_ss, index_ss, List.append_nil, List.cons_append, List.nil_append, List.getElem?_cons_succ, List.getElem?_cons_zero, List.set_cons_succ, List.set_cons_zero, Option.some.injEq, V.int.injEq, V.bl.injEq, V.str.injEq, V.ref.injEq, V.ty.injEq, List.cons.injEq, and_true, true_and, exists_eq_left, exists_eq_left', exists_and_left, exists_eq', exists_const, exists_and_right, exists_eq_right, exists_eq_right', reduceCtorEq, false_and, and_false, exists_false, or_false, false_or, decide_eq_true_eq, Bool.not_eq_true', decide_eq_false_iff_not, Bool.false_eq_true, if_false, if_true, mk_app, mk_len, sg_mk, mk_one, decide_true, decide_false, Bool.not_true, Bool.not_false, ite_true, ite_false, not_true_eq_false, not_false_eq_true, cxK, cutTo1, cutFrom1, mk_iff, tyV_str, stComp, List.map_cons, List.map_nil, Option.join_some, Option.join_none, gt_iff_lt, ge_iff_le, tRaise, tTryR, tCallH, tDisp, tPairs, tFld, sFld, tMake, tMeth, tAug, ipI, tDead, tBM0, if_false_right, and_self]
    have rq3 : rowF m ks bs fs = ((hdr m ks.length ++ secB ks) ++ bs) ++ (two (fs.length : Int) ++ farB fs) := by simp [rowF, hdr]
    refine tcomp_rngM (fs.length : Int) (by omega) (by omega) (fun H0 => Same H H0 ∧ H0 x = some (.ins T.x_Reader dx (fldR c (((hdr m ks.length ++ secB ks) ++ bs) ++ two (fs.length : Int)).length)) ∧ H0 c = some (.lst ((rowF m ks bs fs).map V.int)) ∧ H0 l3 = some (.lst (refsT ts)) ∧ H0 l4 = some (.lst (bs.map V.int)) ∧ SecL H0 ts) (fun R h => ⟨_, rfl, x, dx, _, rfl, hx, fR_no _ _ (by decide +kernel) (by decide +kernel), x, dx, c, (hdr m ks.length ++ secB ks) ++ bs, (fs.length : Int), farB fs, rfl, hx, by rw [← rq3]; exact hc, fun H6 st hx6 => h H6 ⟨Stp.same S nxH st, hx6, st.1 _ _ hc cx, st.1 _ _ e3 l3x, st.1 _ _ e4 l4x, hts.stp hx st⟩⟩) (fun i ys H' => Same H H' ∧ H' x = some (.ins T.x_Reader dx (fldR c ((((hdr m ks.length ++ secB ks) ++ bs) ++ two (fs.length : Int)) ++ farB (fs.take i)).length)) ∧ H' c = some (.lst ((rowF m ks bs fs).map V.int)) ∧ H' l3 = some (.lst (refsT ts)) ∧ H' l4 = some (.lst (bs.map V.int)) ∧ SecL H' ts ∧ ys = (fs.take i).map V.int) rfl (fun H0 h => ⟨h.1, by simpa [farB] using h.2.1, h.2.2.1, h.2.2.2.1, h.2.2.2.2.1, h.2.2.2.2.2, rfl⟩) ?_ ?_
    · clear hx hc S e3 e4 hts
      rintro i ys H7 Cy Cn hi ⟨S, hx, hc, e3, e4, hts, rfl⟩ cy cn
      obtain ⟨p, ee⟩ : ∃ e, fs[i]? = some e := ⟨_, List.getElem?_eq_getElem (by omega)⟩
      have rq : rowF m ks bs fs = ((((hdr m ks.length ++ secB ks) ++ bs) ++ two (fs.length : Int)) ++ farB (fs.take i)) ++ (two p ++ farB (fs.drop (i + 1))) := by
        rw [row_eq, farB_at ee]
        simp
      simp only [tSeq, tIfS, tRet, tRetN, tC, tVar, tOp, tUn, tTest, tB, tAnd, tOr, tNot, tAndV, tOrV, tNotV, tIf, tChain, tCons, tNil, tCall, tCB, tLst, tTup, tSl, tNoPart, tPart, gName, tNext, tDrop, tAsg, tAsgC, tBM, tYes, tDNewK, rI, rI0, rU, rEq, rNe, rAbs, rIntT, CDiv, add_ii, add_ss, mul_ii, mul_si, ix_si, eq_ii, eq_ss, eq_bb, ne_ii, ne_ss, ne_ni, ne_in, in_s1, notin_s1, is_xn, is_bb, isnot_xn, isnot_bb, sl_s, len_s, find_ss, index_ss, List.append_nil, List.cons_append, List.nil_append, List.getElem?_cons_succ, List.getElem?_cons_zero, List.set_cons_succ, List.set_cons_zero, Option.some.injEq, V.int.injEq, V.bl.injEq, V.str.injEq, V.ref.injEq, V.ty.injEq, List.cons.injEq, and_true, true_and, exists_eq_left, exists_eq_left', exists_and_left, exists_eq', exists_const, exists_and_right, exists_eq_right, exists_eq_right', reduceCtorEq, false_and, and_false, exists_false, or_false, false_or, decide_eq_true_eq, Bool.not_eq_true', decide_eq_false_iff_not, Bool.false_eq_true, if_false, if_true, mk_app, mk_len, sg_mk, mk_one, decide_true, decide_false, Bool.not_true, Bool.not_false, ite_true, ite_false, not_true_eq_false, not_false_eq_true, cxK, cutTo1, cutFrom1, mk_iff, tyV_str, stComp, List.map_cons, List.map_nil, Option.join_some, Option.join_none, gt_iff_lt, ge_iff_le, tRaise, tTryR, tCallH, tDisp, tPairs, tFld, sFld, tMake, tMeth, tAug, ipI, tDead, tBM0, if_false_right, and_self]
      refine ⟨dx, _, hx, fR_no _ _ (by decide +kernel) (by decide +kernel), x, dx, c, (((hdr m ks.length ++ secB ks) ++ bs) ++ two (fs.length : Int)) ++ farB (fs.take i), p, farB (fs.drop (i + 1)), rfl, hx, by rw [← rq]; exact hc, fun H8 st hx8 => cy _ _ ⟨Stp.same S nxH st, ?_, st.1 _ _ hc cx, st.1 _ _ e3 l3x, st.1 _ _ e4 l4x, hts.stp hx st, by rw [take_snoc ee]; simp⟩⟩
      rw [take_snoc ee, farB_snoc, ← List.append_assoc]
      exact hx8
    clear hx hc S e3 e4 hts
    rintro ys H14 l5 ⟨S, hx, hc, e3, e4, hts, rfl⟩ n5
    rw [Int.toNat_natCast, List.take_length] at hx
    rw [Int.toNat_natCast, List.take_length]
    have t0 := Same.upd (Same.refl H14) n5 (o := .lst (fs.map V.int))
    have e5 : upd H14 l5 (.lst (fs.map V.int)) l5 = some (.lst (fs.map V.int)) := upd_same
    generalize upd H14 l5 (.lst (fs.map V.int)) = H15 at t0 e5 ⊢
    have hx := t0 _ _ hx
    have hc := t0 _ _ hc
    have e3 := t0 _ _ e3
    have e4 := t0 _ _ e4
    have hts := hts.same t0
    have S := S.trans t0
    clear t0
    subst hB
    refine tSeq_gen fun B hB => ?_
    simp only [tSeq, tIfS, tRet, tRetN, tC, tVar, tOp, tUn, tTest, tB, tAnd, tOr, tNot, tAndV, tOrV, tNotV, tIf, tChain, tCons, tNil, tCall, tCB, tLst, tTup, tSl, tNoPart, tPart, gName, tNext, tDrop, tAsg, tAsgC, tBM, tYes, tDNewK, rI, rI0, rU, rEq, rNe, rAbs, rIntT, CDiv, add_ii, add_ss, mul_ii, mul_si, ix_si, eq_ii, eq_ss, eq_bb, ne_ii, ne_ss, ne_ni, ne_in, in_s1, notin_s1, is_xn, is_bb, isnot_xn, isnot_bb, sl_s, len_s, find_ss, index_ss, List.append_nil, List.cons_append, List.nil_append, List.getElem?_cons_succ, List.getElem?_cons_zero, List.set_cons_succ, List.set_cons_zero, Option.some.injEq, V.int.injEq, V.bl.injEq, V.str.injEq, V.ref.injEq, V.ty.injEq, List.cons.injEq, and_true, true_and, exists_eq_left, exists_eq_left', exists_and_left, exists_eq', exists_const, exists_and_right, exists_eq_right, exists_eq_right', reduceCtorEq, false_and, and_false, exists_false, or_false, false_or, decide_eq_true_eq, Bool.not_eq_true', decide_eq_false_iff_not, Bool.false_eq_true, if_false, if_true, mk_app, mk_len, sg_mk, mk_one, decide_true, decide_false, Bool.not_true, Bool.not_false, ite_true, ite_false, not_true_eq_false, not_false_eq_true, cxK, cutTo1, cutFrom1, mk_iff, tyV_str, stComp, List.map_cons, List.map_nil, Option.join_some, Option.join_none, gt_iff_lt, ge_iff_le, tRaise, tTryR, tCallH, tDisp, tPairs, tFld, sFld, tMake, tMeth, tAug, ipI, tDead, tBM0, if_false_right, and_self]
    refine ⟨dx, _, hx, fR_no _ _ (by decide +kernel) (by decide +kernel), x, dx, c, (rowF m ks bs fs).map V.int, rfl, by rw [List.length_map, row_eq]; exact hx, hc, ?_⟩
    have ec := codes_take hkd
    have hts6 : ∀ H', SecL H' ts → SecL H' (ts.take n) := fun H' h e he => h e (List.mem_of_mem_take he)
    subst hB
    refine tSeq_gen fun B hB => ?_
    simp only [tSeq, tIfS, tRet, tRetN, tC, tVar, tOp, tUn, tTest, tB, tAnd, tOr, tNot, tAndV, tOrV, tNotV, tIf, tChain, tCons, tNil, tCall, tCB, tLst, tTup, tSl, tNoPart, tPart, gName, tNext, tDrop, tAsg, tAsgC, tBM, tYes, tDNewK, rI, rI0, rU, rEq, rNe, rAbs, rIntT, CDiv, add_ii, add_ss, mul_ii, mul_si, ix_si, eq_ii, eq_ss, eq_bb, ne_ii, ne_ss, ne_ni, ne_in, in_s1, notin_s1, is_xn, is_bb, isnot_xn, isnot_bb, sl_s, len_s, find_ss, index_ss, List.append_nil, List.cons_append, List.nil_append, List.getElem?_cons_succ, List.getElem?_cons_zero, List.set_cons_succ, List.set_cons_zero, Option.some.injEq, V.int.injEq, V.bl.injEq, V.str.injEq, V.ref.injEq, V.ty.injEq, List.cons.injEq, and_true, true_and, exists_eq_left, exists_eq_left', exists_and_left, exists_eq', exists_const, exists_and_right, exists_eq_right, exists_eq_right', reduceCtorEq, false_and, and_false, exists_false, or_false, false_or, decide_eq_true_eq, Bool.not_eq_true', decide_eq_false_iff_not, Bool.false_eq_true, if_false, if_true, mk_app, mk_len, sg_mk, mk_one, decide_true, decide_false, Bool.not_true, Bool.not_false, ite_true, ite_false, not_true_eq_false, not_false_eq_true, cxK, cutTo1, cutFrom1, mk_iff, tyV_str, stComp, List.map_cons, List.map_nil, Option.join_some, Option.join_none, gt_iff_lt, ge_iff_le, tRaise, tTryR, tCallH, tDisp, tPairs, tFld, sFld, tMake, tMeth, tAug, ipI, tDead, tBM0, if_false_right, and_self]
    refine ⟨l3, ts, rfl, e3, hts, by omega, fun l7 H16 n7 S' e7 => ?_⟩
    rw [ec.2] at e7
    have hts := hts.same S'
    have e3 := S' _ _ e3
    have e4 := S' _ _ e4
    have e5 := S' _ _ e5
    have S := S.trans S'
    clear S'
    refine ⟨l7, ts.take n, rfl, e7, hts6 _ hts, by rw [List.length_take]; omega, fun l8 H17 n8 S' e8 => ?_⟩
    have hts := hts.same S'
    have e3 := S' _ _ e3
    have e4 := S' _ _ e4
    have e5 := S' _ _ e5
    have S := S.trans S'
    clear S'
    refine .inr ⟨l8, _, rfl, .inl (SqL.of e8), rfl, by simp [flatV], ?_⟩
    refine ⟨_, _, rfl, main_in ek gi, ?_⟩
    clear e7 e8 n7 n8
    subst hB
    refine tSeq_gen fun B hB => ?_
    simp only [tSeq, tIfS, tRet, tRetN, tC, tVar, tOp, tUn, tTest, tB, tAnd, tOr, tNot, tAndV, tOrV, tNotV, tIf, tChain, tCons, tNil, tCall, tCB, tLst, tTup, tSl, tNoPart, tPart, gName, tNext, tDrop, tAsg, tAsgC, tBM, tYes, tDNewK, rI, rI0, rU, rEq, rNe, rAbs, rIntT, CDiv, add_ii, add_ss, mul_ii, mul_si, ix_si, eq_ii, eq_ss, eq_bb, ne_ii, ne_ss, ne_ni, ne_in, in_s1, notin_s1, is_xn, is_bb, isnot_xn, isnot_bb, sl_s, len_s, find_ss, index_ss, List.append_nil, List.cons_append, List.nil_append, List.getElem?_cons_succ, List.getElem?_cons_zero, List.set_cons_succ, List.set_cons_zero, Option.some.injEq, V.int.injEq, V.bl.injEq, V.str.injEq, V.ref.injEq, V.ty.injEq, List.cons.injEq, and_true, true_and, exists_eq_left, exists_eq_left', exists_and_left, exists_eq', exists_const, exists_and_right, exists_eq_right, exists_eq_right', reduceCtorEq, false_and, and_false, exists_false, or_false, false_or, decide_eq_true_eq, Bool.not_eq_true', decide_eq_false_iff_not, Bool.false_eq_true, if_false, if_true, mk_app, mk_len, sg_mk, mk_one, decide_true, decide_false, Bool.not_true, Bool.not_false, ite_true, ite_false, not_true_eq_false, not_false_eq_true, cxK, cutTo1, cutFrom1, mk_iff, tyV_str, stComp, List.map_cons, List.map_nil, Option.join_some, Option.join_none, gt_iff_lt, ge_iff_le, tRaise, tTryR, tCallH, tDisp, tPairs, tFld, sFld, tMake, tMeth, tAug, ipI, tDead, tBM0, if_false_right, and_self]
    refine ⟨l3, ts, rfl, e3, hts, by omega, fun l7 H18 n7 S' e7 => ?_⟩
    rw [ec.2] at e7
    have hts := hts.same S'
    have e3 := S' _ _ e3
    have e4 := S' _ _ e4
    have e5 := S' _ _ e5
    have S := S.trans S'
    clear S'
    refine ⟨l7, ts.take n, rfl, e7, hts6 _ hts, by rw [List.length_take]; omega, fun e he => bnd e (List.mem_of_mem_take he), fun H19 S' => ?_⟩
    have hts := hts.same S'
    have e3 := S' _ _ e3
    have e4 := S' _ _ e4
    have e5 := S' _ _ e5
    have S := S.trans S'
    clear S'
    refine ⟨l5, fs, _, rfl, e5, gi.fp, fun p hp => ?_, ?_⟩
    · rw [sum_k, ksT_take, ek]
      exact gi.fb p hp
    clear e7 n7
    subst hB
    simp only [tSeq, tIfS, tRet, tRetN, tC, tVar, tOp, tUn, tTest, tB, tAnd, tOr, tNot, tAndV, tOrV, tNotV, tIf, tChain, tCons, tNil, tCall, tCB, tLst, tTup, tSl, tNoPart, tPart, gName, tNext, tDrop, tAsg, tAsgC, tBM, tYes, tDNewK, rI, rI0, rU, rEq, rNe, rAbs, rIntT, CDiv, add_ii, add_ss, mul_ii, mul_si, ix_si, eq_ii, eq_ss, eq_bb, ne_ii, ne_ss, ne_ni, ne_in, in_s1, notin_s1, is_xn, is_bb, isnot_xn, isnot_bb, sl_s, len_s, find_ss, index_ss, List.append_nil, List.cons_append, List.nil_append, List.getElem?_cons_succ, List.getElem?_cons_zero, List.set_cons_succ, List.set_cons_zero, Option.some.injEq, V.int.injEq, V.bl.injEq, V.str.injEq, V.ref.injEq, V.ty.injEq, List.cons.injEq, and_true, true_and, exists_eq_left, exists_eq_left', exists_and_left, exists_eq', exists_const, exists_and_right, exists_eq_right, exists_eq_right', reduceCtorEq, false_and, and_false, exists_false, or_false, false_or, decide_eq_true_eq, Bool.not_eq_true', decide_eq_false_iff_not, Bool.false_eq_true, if_false, if_true, mk_app, mk_len, sg_mk, mk_one, decide_true, decide_false, Bool.not_true, Bool.not_false, ite_true, ite_false, not_true_eq_false, not_false_eq_true, cxK, cutTo1, cutFrom1, mk_iff, tyV_str, stComp, List.map_cons, List.map_nil, Option.join_some, Option.join_none, gt_iff_lt, ge_iff_le, tRaise, tTryR, tCallH, tDisp, tPairs, tFld, sFld, tMake, tMeth, tAug, ipI, tDead, tBM0, if_false_right, and_self]
    intro p2 dx2 np2 nd2 nq2
    have K0 : Same H19 (upd (upd H19 dx2 (.own p2)) p2 (.ins T.x_Image dx2 [])) := fun c o e => by
      rw [upd_ne (ne_of_none e np2), upd_ne (ne_of_none e nd2)]
      exact e
    refine ⟨p2, dx2, m, l3, l4, l5, refsT ts, bs.map V.int, fs.map V.int, rfl, upd_same, K0 _ _ e3, K0 _ _ e4, K0 _ _ e5, fun s' b' f' G ns' nb' nf' ex es' eb' ef' kp => ⟨rfl, ?_⟩⟩
    have SG : Same H19 G := fun c o e => kp c o (K0 c o e) (ne_of_none e np2)
    have SK := S.trans K0
    exact q p2 dx2 s' b' f' ts G (S.no np2) (SK.no ns') (SK.no nb') (SK.no nf') (S.trans SG) ex es' (hts.same SG) ek eb' ef'
noncomputable def sp__law_cell_at (K : PySem.W.Frag) : Sp := fun vs H Q E => ∃ (a : Addr) (ns : List Int) (k : Int), vs = [.ref a, .int k] ∧ SqL K H a (ns.map V.int) ∧ 0 ≤ k ∧ ∀ n, Q (.int n) H
theorem sc__law_cell_at : FnScope ["_law_script", "_law_k"] ["_law_script", "_law_k"] (defScope s__law_cell_at) := ⟨rfl, rfl, rfl, by decide +kernel, rfl, by decide +kernel, by decide +kernel⟩
theorem ok__law_cell_at (T : Txt K mg) : FnOk P w K mg base CX0 1 T.d__law_cell_at.f T.d__law_cell_at.fd ["_law_script", "_law_k"] (sp__law_cell_at K) := by
  have nd := sc__law_cell_at.nd
  refine T.d__law_cell_at.F.ok sc__law_cell_at (fun vs H Q E h => ?_) (fun cdv A outer s H vs Q E hr h => ?_)
  · obtain ⟨a, ns, k, rfl, hq, h0, q⟩ := h
    rfl
  · obtain ⟨a, ns, k, rfl, hq, h0, q⟩ := h
    have hu := hr.units0
    refine ⟨_, (pss_cons (ps_if (pt_cmpR op_lt (pv 1) (pcB (o_len (K := K)) rfl T.n_len (by kernel_rfl) (pa1 (pv 0) pa_nil)) (nomark _)) (pss_one (ps_ret (pe_ix (o_ix (K := K)) (pv 0) (pv 1) (fun _ _ => rfl)))) pss_nil)
      (pss_one (ps_ret pe_int))), ?_⟩
    rw [show start ["_law_script", "_law_k"] [V.ref a, V.int k] = [some (V.ref a), some (V.int k)] from rfl]
    simp only [tSeq, tIfS, tRet, tRetN, tC, tVar, tOp, tUn, tTest, tB, tAnd, tOr, tNot, tAndV, tOrV, tNotV, tIf, tChain, tCons, tNil, tCall, tCB, tLst, tTup, tSl, tNoPart, tPart, gName, tNext, tDrop, tAsg, tAsgC, tBM, tYes, tDNewK, rI, rI0, rU, rEq, rNe, rAbs, rIntT, CDiv, add_ii, add_ss, mul_ii, mul_si, ix_si, eq_ii, eq_ss, eq_bb, ne_ii, ne_ss, ne_ni, ne_in, in_s1, notin_s1, is_xn, is_bb, isnot_xn, isnot_bb, sl_s, len_s, find_ss, index_ss, List.append_nil, List.cons_append, List.nil_append, List.getElem?_cons_succ, List.getElem?_cons_zero, List.set_cons_succ, List.set_cons_zero, Option.some.injEq, V.int.injEq, V.bl.injEq, V.str.injEq, V.ref.injEq, V.ty.injEq, List.cons.injEq, and_true, true_and, exists_eq_left, exists_eq_left', exists_and_left, exists_eq', exists_const, exists_and_right, exists_eq_right, exists_eq_right', reduceCtorEq, false_and, and_false, exists_false, or_false, false_or, decide_eq_true_eq, Bool.not_eq_true', decide_eq_false_iff_not, Bool.false_eq_true, if_false, if_true, mk_app, mk_len, sg_mk, mk_one, decide_true, decide_false, Bool.not_true, Bool.not_false, ite_true, ite_false, not_true_eq_false, not_false_eq_true, cxK, cutTo1, cutFrom1, mk_iff, tyV_str, stComp, List.map_cons, List.map_nil, Option.join_some, Option.join_none, gt_iff_lt, ge_iff_le, tRaise, tTryR, tCallH, tDisp, tPairs, tFld, sFld, tMake, tMeth, tAug, ipI, tDead, tBM0, if_false_right, and_self]
    refine lenL hq ?_
    simp only [tSeq, tIfS, tRet, tRetN, tC, tVar, tOp, tUn, tTest, tB, tAnd, tOr, tNot, tAndV, tOrV, tNotV, tIf, tChain, tCons, tNil, tCall, tCB, tLst, tTup, tSl, tNoPart, tPart, gName, tNext, tDrop, tAsg, tAsgC, tBM, tYes, tDNewK, rI, rI0, rU, rEq, rNe, rAbs, rIntT, CDiv, add_ii, add_ss, mul_ii, mul_si, ix_si, eq_ii, eq_ss, eq_bb, ne_ii, ne_ss, ne_ni, ne_in, in_s1, notin_s1, is_xn, is_bb, isnot_xn, isnot_bb, sl_s, len_s, find_ss, index_ss, List.append_nil, List.cons_append, List.nil_append, List.getElem?_cons_succ, List.getElem?_cons_zero, List.set_cons_succ, List.set_cons_zero, Option.some.injEq, V.int.injEq, V.bl.injEq, V.str.injEq, V.ref.injEq, V.ty.injEq, List.cons.injEq, and_true, true_and, exists_eq_left, exists_eq_left', exists_and_left, exists_eq', exists_const, exists_and_right, exists_eq_right, exists_eq_right', reduceCtorEq, false_and, and_false, exists_false, or_false, false_or, decide_eq_true_eq, Bool.not_eq_true', decide_eq_false_iff_not, Bool.false_eq_true, if_false, if_true, mk_app, mk_len, sg_mk, mk_one, decide_true, decide_false, Bool.not_true, Bool.not_false, ite_true, ite_false, not_true_eq_false, not_false_eq_true, cxK, cutTo1, cutFrom1, mk_iff, tyV_str, stComp, List.map_cons, List.map_nil, Option.join_some, Option.join_none, gt_iff_lt, ge_iff_le, tRaise, tTryR, tCallH, tDisp, tPairs, tFld, sFld, tMake, tMeth, tAug, ipI, tDead, tBM0, if_false_right, and_self]
    rw [List.length_map]
    refine ite2 (fun h => ?_) fun h => ?_
    · have hk : k.toNat < ns.length := by omega
      exact ixL hq (atIn (c := V.int (ns[k.toNat])) h0 (by simp [hk])) (q _)
    · exact q _
noncomputable def sp__law_mixed : Sp := fun vs H Q E => ∃ c k, vs = [.int c, .int k] ∧ 0 ≤ k ∧ k ≤ 1000 ∧ ∀ r, 0 ≤ r → r < 1000003 → Q (.int r) H
theorem sc__law_mixed : FnScope ["_law_cell", "_law_k", "_law_number"] ["_law_cell", "_law_k"] (defScope s__law_mixed) := ⟨rfl, rfl, rfl, by decide +kernel, rfl, by decide +kernel, by decide +kernel⟩
theorem ok__law_mixed (T : Txt K mg) : FnOk P w K mg base CX0 1 T.d__law_mixed.f T.d__law_mixed.fd ["_law_cell", "_law_k"] (sp__law_mixed) := by
  have nd := sc__law_mixed.nd
  refine T.d__law_mixed.F.ok sc__law_mixed (fun vs H Q E h => ?_) (fun cdv A outer s H vs Q E hr h => ?_)
  · obtain ⟨c, k, rfl, h0, h1, q⟩ := h
    rfl
  · obtain ⟨c, k, rfl, h0, h1, q⟩ := h
    have hu := hr.units0
    refine ⟨_, (pss_cons (ps_set (i := 2) nd rfl (Or.inl rfl) (pe_op o_add (pe_op o_mul (pe_op op_mod (pv 0) pe_int) (pe_op o_add (pe_op o_mul (pv 1) (pv 1)) pe_int)) (pe_op op_fdiv (pv 0) pe_int)))
      (pss_cons (ps_set (i := 2) nd rfl (Or.inl rfl) (pe_op op_mod (pe_op o_add (pe_op o_add (pv 2) (pe_op o_mul pe_int (pv 1))) pe_int) pe_int))
      (pss_one (ps_ret (pe_op op_mod (pe_op o_mul (pe_op op_mod (pe_op o_mul (pv 2) (pv 2)) pe_int) (pe_op o_add (pe_op o_add (pv 2) (pe_op o_mul pe_int (pv 1))) pe_int)) pe_int))))), ?_⟩
    rw [show start ["_law_cell", "_law_k", "_law_number"] [V.int c, V.int k] = [some (V.int c), some (V.int k), none] from rfl]
    simp only [tSeq, tIfS, tRet, tRetN, tC, tVar, tOp, tUn, tTest, tB, tAnd, tOr, tNot, tAndV, tOrV, tNotV, tIf, tChain, tCons, tNil, tCall, tCB, tLst, tTup, tSl, tNoPart, tPart, gName, tNext, tDrop, tAsg, tAsgC, tBM, tYes, tDNewK, rI, rI0, rU, rEq, rNe, rAbs, rIntT, CDiv, add_ii, add_ss, mul_ii, mul_si, ix_si, eq_ii, eq_ss, eq_bb, ne_ii, ne_ss, ne_ni, ne_in, in_s1, notin_s1, is_xn, is_bb, isnot_xn, isnot_bb, sl_s, len_s, find_ss, index_ss, List.append_nil, List.cons_append, List.nil_append, List.getElem?_cons_succ, List.getElem?_cons_zero, List.set_cons_succ, List.set_cons_zero, Option.some.injEq, V.int.injEq, V.bl.injEq, V.str.injEq, V.ref.injEq, V.ty.injEq, List.cons.injEq, and_true, true_and, exists_eq_left, exists_eq_left', exists_and_left, exists_eq', exists_const, exists_and_right, exists_eq_right, exists_eq_right', reduceCtorEq, false_and, and_false, exists_false, or_false, false_or, decide_eq_true_eq, Bool.not_eq_true', decide_eq_false_iff_not, Bool.false_eq_true, if_false, if_true, mk_app, mk_len, sg_mk, mk_one, decide_true, decide_false, Bool.not_true, Bool.not_false, ite_true, ite_false, not_true_eq_false, not_false_eq_true, cxK, cutTo1, cutFrom1, mk_iff, tyV_str, stComp, List.map_cons, List.map_nil, Option.join_some, Option.join_none, gt_iff_lt, ge_iff_le, tRaise, tTryR, tCallH, tDisp, tPairs, tFld, sFld, tMake, tMeth, tAug, ipI, tDead, tBM0, if_false_right, and_self]
    have hk : 0 ≤ k * k ∧ k * k ≤ 1000 * 1000 := ⟨Int.mul_nonneg h0 h0, Int.mul_le_mul h1 h1 h0 (by decide)⟩
    generalize hn : (c % 1000003 * (k * k + 48271) + c / 1000003 + 7919 * k + 11) % 1000003 = n
    have n0 : 0 ≤ n ∧ n < 1000003 := by rw [← hn]; exact ⟨Int.emod_nonneg _ (by decide), Int.emod_lt_of_pos _ (by decide)⟩
    have c1 : ∀ {x y : Int}, 0 ≤ x → x ≤ 1100000 → CMul x y := fun h0 h1 => .inl ⟨by omega, by omega⟩
    have c2 : ∀ {x y : Int}, 0 ≤ y → y ≤ 1100000 → CMul x y := fun h0 h1 => .inr ⟨by omega, by omega⟩
    exact ⟨by decide, c1 h0 (Int.le_trans h1 (by decide)), c2 (Int.add_nonneg hk.1 (by decide)) (Int.le_trans (Int.add_le_add_right hk.2 _) (by decide)), ⟨by decide, by decide⟩, .inl ⟨by decide, by decide⟩, by decide, c1 n0.1 (Int.le_trans (Int.le_of_lt n0.2) (by decide)), by decide, .inl ⟨by decide, by decide⟩, c2 (by omega) (by omega), by decide, q _ (Int.emod_nonneg _ (by decide)) (Int.emod_lt_of_pos _ (by decide))⟩
noncomputable def sp__law_check (K : PySem.W.Frag) : Sp := fun vs H Q E => ∃ (a : Addr) (ns : List Int), vs = [.ref a] ∧ H a = some (.lst (ns.map V.int)) ∧ IsB ns ∧ ns.length ≤ 1000 ∧ Q (.int ((crc ns).toNat : Int)) H
theorem sc__law_check : FnScope ["_law_row", "_law_number", "_law_byte", "_law_size", "_law_k"] ["_law_row"] (defScope s__law_check) := ⟨rfl, rfl, rfl, by decide +kernel, rfl, by decide +kernel, by decide +kernel⟩
theorem ok__law_check (T : Txt K mg) : FnOk P w K mg base CX0 1 T.d__law_check.f T.d__law_check.fd ["_law_row"] (sp__law_check K) := by
  have nd := sc__law_check.nd
  refine T.d__law_check.F.ok sc__law_check (fun vs H Q E h => ?_) (fun cdv A outer s H vs Q E hr h => ?_)
  · obtain ⟨a, ns, rfl, ha, hb, hl, q⟩ := h
    rfl
  · obtain ⟨a, ns, rfl, ha, hb, hl, q⟩ := h
    have hu := hr.units0
    refine ⟨_, (pss_cons (ps_set (i := 1) nd rfl (Or.inl rfl) pe_int)
      (pss_cons (ps_for PassesOwn.never rfl (pi_listK (K := K) (pv 0)) (pg_name (i := 2) nd rfl (Or.inl rfl))
        (pss_one (ps_set (i := 1) nd rfl (Or.inl rfl) (pe_op o_add (pe_op o_mul (pv 1) pe_int) (pv 2)))))
      (pss_cons (ps_set (i := 3) nd rfl (Or.inl rfl) (pe_op o_mul pe_int (pcB (o_len (K := K)) rfl T.n_len (by kernel_rfl) (pa1 (pv 0) pa_nil))))
      (pss_cons (ps_set (i := 1) nd rfl (Or.inl rfl) (pe_op op_xor (pe_op o_shl (pv 1) pe_int) (pe_op o_shl pe_int (pv 3))))
      (pss_cons (ps_for PassesOwn.never rfl (pi_range1 rfl T.n_range (pa1 (pv 3) pa_nil)) (pg_name (i := 4) nd rfl (Or.inl rfl))
        (pss_one (ps_if (pt_cmpR (o_eq (K := K) hu) (pe_op op_mod (pe_op op_shr (pv 1) (pe_op op_sub (pe_op o_add (pv 3) pe_int) (pv 4))) pe_int) pe_int (nomark _)) (pss_one (ps_set (i := 1) nd rfl (Or.inl rfl) (pe_op op_xor (pv 1) (pe_op o_shl pe_int (pe_op op_sub (pe_op op_sub (pv 3) pe_int) (pv 4)))))) pss_nil)))
      (pss_one (ps_ret (pv 1)))))))), ?_⟩
    rw [show start ["_law_row", "_law_number", "_law_byte", "_law_size", "_law_k"] [V.ref a] = [some (V.ref a), none, none, none, none] from rfl]
    simp only [tSeq, tIfS, tRet, tRetN, tC, tVar, tOp, tUn, tTest, tB, tAnd, tOr, tNot, tAndV, tOrV, tNotV, tIf, tChain, tCons, tNil, tCall, tCB, tLst, tTup, tSl, tNoPart, tPart, gName, tNext, tDrop, tAsg, tAsgC, tBM, tYes, tDNewK, rI, rI0, rU, rEq, rNe, rAbs, rIntT, CDiv, add_ii, add_ss, mul_ii, mul_si, ix_si, eq_ii, eq_ss, eq_bb, ne_ii, ne_ss, ne_ni, ne_in, in_s1, notin_s1, is_xn, is_bb, isnot_xn, isnot_bb, sl_s, len_s, find_ss, index_ss, List.append_nil, List.cons_append, List.nil_append, List.getElem?_cons_succ, List.getElem?_cons_zero, List.set_cons_succ, List.set_cons_zero, Option.some.injEq, V.int.injEq, V.bl.injEq, V.str.injEq, V.ref.injEq, V.ty.injEq, List.cons.injEq, and_true, true_and, exists_eq_left, exists_eq_left', exists_and_left, exists_eq', exists_const, exists_and_right, exists_eq_right, exists_eq_right', reduceCtorEq, false_and, and_false, exists_false, or_false, false_or, decide_eq_true_eq, Bool.not_eq_true', decide_eq_false_iff_not, Bool.false_eq_true, if_false, if_true, mk_app, mk_len, sg_mk, mk_one, decide_true, decide_false, Bool.not_true, Bool.not_false, ite_true, ite_false, not_true_eq_false, not_false_eq_true, cxK, cutTo1, cutFrom1, mk_iff, tyV_str, stComp, List.map_cons, List.map_nil, Option.join_some, Option.join_none, gt_iff_lt, ge_iff_le, tRaise, tTryR, tCallH, tDisp, tPairs, tFld, sFld, tMake, tMeth, tAug, ipI, tDead, tBM0, if_false_right, and_self]
    refine tfor_list (a := a) (xs := ns.map V.int) (fun R r => ⟨_, rfl, r⟩) (SqL.of ha) (fun i σ H' => H' = H ∧ ∃ v2, σ = [some (V.ref a), some (V.int (numN (ns.take i) : Int)), v2, none, none]) ⟨rfl, none, rfl⟩ (fun i σ H' p => by rw [p.1]; exact SqL.of ha) ?_ ?_
    · rintro i x σ H' hx ⟨e0, v2, rfl⟩
      subst H'
      rw [List.getElem?_map] at hx
      cases e : ns[i]? with
      | none => rw [e] at hx; cases hx
      | some n =>
        rw [e] at hx
        cases hx
        have hn := hb n (List.mem_of_getElem? e)
        simp only [tSeq, tIfS, tRet, tRetN, tC, tVar, tOp, tUn, tTest, tB, tAnd, tOr, tNot, tAndV, tOrV, tNotV, tIf, tChain, tCons, tNil, tCall, tCB, tLst, tTup, tSl, tNoPart, tPart, gName, tNext, tDrop, tAsg, tAsgC, tBM, tYes, tDNewK, rI, rI0, rU, rEq, rNe, rAbs, rIntT, CDiv, add_ii, add_ss, mul_ii, mul_si, ix_si, eq_ii, eq_ss, eq_bb, ne_ii, ne_ss, ne_ni, ne_in, in_s1, notin_s1, is_xn, is_bb, isnot_xn, isnot_bb, sl_s, len_s, find_ss, index_ss, List.append_nil, List.cons_append, List.nil_append, List.getElem?_cons_succ, List.getElem?_cons_zero, List.set_cons_succ, List.set_cons_zero, Option.some.injEq, V.int.injEq, V.bl.injEq, V.str.injEq, V.ref.injEq, V.ty.injEq, List.cons.injEq, and_true, true_and, exists_eq_left, exists_eq_left', exists_and_left, exists_eq', exists_const, exists_and_right, exists_eq_right, exists_eq_right', reduceCtorEq, false_and, and_false, exists_false, or_false, false_or, decide_eq_true_eq, Bool.not_eq_true', decide_eq_false_iff_not, Bool.false_eq_true, if_false, if_true, mk_app, mk_len, sg_mk, mk_one, decide_true, decide_false, Bool.not_true, Bool.not_false, ite_true, ite_false, not_true_eq_false, not_false_eq_true, cxK, cutTo1, cutFrom1, mk_iff, tyV_str, stComp, List.map_cons, List.map_nil, Option.join_some, Option.join_none, gt_iff_lt, ge_iff_le, tRaise, tTryR, tCallH, tDisp, tPairs, tFld, sFld, tMake, tMeth, tAug, ipI, tDead, tBM0, if_false_right, and_self]
        refine ⟨.inr ⟨by decide, by decide⟩, ?_⟩
        rw [take_snoc e, numN_snoc _ hn.1 hn.2]
    rintro σ H' ⟨rfl, v2, rfl⟩
    rw [List.length_map, List.take_length]
    simp only [tSeq, tIfS, tRet, tRetN, tC, tVar, tOp, tUn, tTest, tB, tAnd, tOr, tNot, tAndV, tOrV, tNotV, tIf, tChain, tCons, tNil, tCall, tCB, tLst, tTup, tSl, tNoPart, tPart, gName, tNext, tDrop, tAsg, tAsgC, tBM, tYes, tDNewK, rI, rI0, rU, rEq, rNe, rAbs, rIntT, CDiv, add_ii, add_ss, mul_ii, mul_si, ix_si, eq_ii, eq_ss, eq_bb, ne_ii, ne_ss, ne_ni, ne_in, in_s1, notin_s1, is_xn, is_bb, isnot_xn, isnot_bb, sl_s, len_s, find_ss, index_ss, List.append_nil, List.cons_append, List.nil_append, List.getElem?_cons_succ, List.getElem?_cons_zero, List.set_cons_succ, List.set_cons_zero, Option.some.injEq, V.int.injEq, V.bl.injEq, V.str.injEq, V.ref.injEq, V.ty.injEq, List.cons.injEq, and_true, true_and, exists_eq_left, exists_eq_left', exists_and_left, exists_eq', exists_const, exists_and_right, exists_eq_right, exists_eq_right', reduceCtorEq, false_and, and_false, exists_false, or_false, false_or, decide_eq_true_eq, Bool.not_eq_true', decide_eq_false_iff_not, Bool.false_eq_true, if_false, if_true, mk_app, mk_len, sg_mk, mk_one, decide_true, decide_false, Bool.not_true, Bool.not_false, ite_true, ite_false, not_true_eq_false, not_false_eq_true, cxK, cutTo1, cutFrom1, mk_iff, tyV_str, stComp, List.map_cons, List.map_nil, Option.join_some, Option.join_none, gt_iff_lt, ge_iff_le, tRaise, tTryR, tCallH, tDisp, tPairs, tFld, sFld, tMake, tMeth, tAug, ipI, tDead, tBM0, if_false_right, and_self]
    refine lenL (SqL.of ha) ?_
    rw [List.length_map]
    have hN := numN_bits ns hl
    refine mul_ii.mpr ⟨.inl ⟨by decide, by decide⟩, ⟨by decide, by omega⟩, _, rfl, ⟨by omega, PyProof.Rows.bits_add_le (by decide) (by omega)⟩, ?_⟩
    rw [gn0]
    refine tfor_rng (8 * (ns.length : Int)) (by omega) (by omega) (fun R r => ⟨_, rfl, r⟩) (fun i σ H1 => H1 = H' ∧ ∃ v4, σ = [some (V.ref a), some (V.int (gn (bitsL ns) i : Int)), v2, some (V.int (8 * (ns.length : Int))), v4]) ⟨rfl, none, rfl⟩ ?_ ?_
    · rintro i σ H1 hi ⟨e0, v4, rfl⟩
      subst H1
      simp only [tSeq, tIfS, tRet, tRetN, tC, tVar, tOp, tUn, tTest, tB, tAnd, tOr, tNot, tAndV, tOrV, tNotV, tIf, tChain, tCons, tNil, tCall, tCB, tLst, tTup, tSl, tNoPart, tPart, gName, tNext, tDrop, tAsg, tAsgC, tBM, tYes, tDNewK, rI, rI0, rU, rEq, rNe, rAbs, rIntT, CDiv, add_ii, add_ss, mul_ii, mul_si, ix_si, eq_ii, eq_ss, eq_bb, ne_ii, ne_ss, ne_ni, ne_in, in_s1, notin_s1, is_xn, is_bb, isnot_xn, isnot_bb, sl_s, len_s, find_ss, index_ss, List.append_nil, List.cons_append, List.nil_append, List.getElem?_cons_succ, List.getElem?_cons_zero, List.set_cons_succ, List.set_cons_zero, Option.some.injEq, V.int.injEq, V.bl.injEq, V.str.injEq, V.ref.injEq, V.ty.injEq, List.cons.injEq, and_true, true_and, exists_eq_left, exists_eq_left', exists_and_left, exists_eq', exists_const, exists_and_right, exists_eq_right, exists_eq_right', reduceCtorEq, false_and, and_false, exists_false, or_false, false_or, decide_eq_true_eq, Bool.not_eq_true', decide_eq_false_iff_not, Bool.false_eq_true, if_false, if_true, mk_app, mk_len, sg_mk, mk_one, decide_true, decide_false, Bool.not_true, Bool.not_false, ite_true, ite_false, not_true_eq_false, not_false_eq_true, cxK, cutTo1, cutFrom1, mk_iff, tyV_str, stComp, List.map_cons, List.map_nil, Option.join_some, Option.join_none, gt_iff_lt, ge_iff_le, tRaise, tTryR, tCallH, tDisp, tPairs, tFld, sFld, tMake, tMeth, tAug, ipI, tDead, tBM0, if_false_right, and_self]
      refine ⟨by omega, by decide, ?_⟩
      rw [gns ns hi]
      by_cases hc : ((gn (bitsL ns) i : Int) / 2 ^ (8 * (ns.length : Int) + 15 - (i : Int)).toNat) % 2 = 1
      · rw [if_pos hc, if_pos hc]
        exact ⟨⟨by omega, PyProof.Rows.bits_add_le (by decide) (by omega)⟩, rfl⟩
      · rw [if_neg hc, if_neg hc]
    rintro σ H1 ⟨e0, v4, rfl⟩
    subst H1
    simp only [tSeq, tIfS, tRet, tRetN, tC, tVar, tOp, tUn, tTest, tB, tAnd, tOr, tNot, tAndV, tOrV, tNotV, tIf, tChain, tCons, tNil, tCall, tCB, tLst, tTup, tSl, tNoPart, tPart, gName, tNext, tDrop, tAsg, tAsgC, tBM, tYes, tDNewK, rI, rI0, rU, rEq, rNe, rAbs, rIntT, CDiv, add_ii, add_ss, mul_ii, mul_si, ix_si, eq_ii, eq_ss, eq_bb, ne_ii, ne_ss, ne_ni, ne_in, in_s1, notin_s1, is_xn, is_bb, isnot_xn, isnot_bb, sl_s, len_s, find_ss, index_ss, List.append_nil, List.cons_append, List.nil_append, List.getElem?_cons_succ, List.getElem?_cons_zero, List.set_cons_succ, List.set_cons_zero, Option.some.injEq, V.int.injEq, V.bl.injEq, V.str.injEq, V.ref.injEq, V.ty.injEq, List.cons.injEq, and_true, true_and, exists_eq_left, exists_eq_left', exists_and_left, exists_eq', exists_const, exists_and_right, exists_eq_right, exists_eq_right', reduceCtorEq, false_and, and_false, exists_false, or_false, false_or, decide_eq_true_eq, Bool.not_eq_true', decide_eq_false_iff_not, Bool.false_eq_true, if_false, if_true, mk_app, mk_len, sg_mk, mk_one, decide_true, decide_false, Bool.not_true, Bool.not_false, ite_true, ite_false, not_true_eq_false, not_false_eq_true, cxK, cutTo1, cutFrom1, mk_iff, tyV_str, stComp, List.map_cons, List.map_nil, Option.join_some, Option.join_none, gt_iff_lt, ge_iff_le, tRaise, tTryR, tCallH, tDisp, tPairs, tFld, sFld, tMake, tMeth, tAug, ipI, tDead, tBM0, if_false_right, and_self]
    rw [show (8 * (ns.length : Int)).toNat = (bitsL ns).length by rw [bitsL_len]; omega, gn_end]
    exact q
noncomputable def sp__law_sealed (K : PySem.W.Frag) : Sp := fun vs H Q E => ∃ (a : Addr) (ns : List Int), vs = [.ref a] ∧ H a = some (.lst (ns.map V.int)) ∧ IsB ns ∧ ns.length ≤ 900 ∧ ∀ l H', H l = none → Same H H' → H' l = some (.lst ((ns ++ two ((crc ns).toNat : Int)).map V.int)) → Q (.ref l) H'
theorem sc__law_sealed : FnScope ["_law_row", "_law_check_here"] ["_law_row"] (defScope s__law_sealed) := ⟨rfl, rfl, rfl, by decide +kernel, rfl, by decide +kernel, by decide +kernel⟩
theorem ok__law_sealed (T : Txt K mg) : FnOk P w K mg base CX0 2 T.d__law_sealed.f T.d__law_sealed.fd ["_law_row"] (sp__law_sealed K) := by
  have nd := sc__law_sealed.nd
  refine T.d__law_sealed.F.ok sc__law_sealed (fun vs H Q E h => ?_) (fun cdv A outer s H vs Q E hr h => ?_)
  · obtain ⟨a, ns, rfl, ha, hb, hl, q⟩ := h
    rfl
  · obtain ⟨a, ns, rfl, ha, hb, hl, q⟩ := h
    have hu := hr.units0
    refine ⟨_, (pss_cons (ps_set (i := 1) nd rfl (Or.inl rfl) (pc1 T.d__law_check (ok__law_check T) (hr.mono (by decide)) (pa1 (pv 0) pa_nil)))
      (pss_one (ps_ret (pe_op o_add (pv 0) (pe_lst (pa1 (pe_op op_fdiv (pv 1) pe_int) (pa1 (pe_op op_mod (pv 1) pe_int) pa_nil))))))), ?_⟩
    rw [show start ["_law_row", "_law_check_here"] [V.ref a] = [some (V.ref a), none] from rfl]
    simp only [tSeq, tIfS, tRet, tRetN, tC, tVar, tOp, tUn, tTest, tB, tAnd, tOr, tNot, tAndV, tOrV, tNotV, tIf, tChain, tCons, tNil, tCall, tCB, tLst, tTup, tSl, tNoPart, tPart, gName, tNext, tDrop, tAsg, tAsgC, tBM, tYes, tDNewK, rI, rI0, rU, rEq, rNe, rAbs, rIntT, CDiv, add_ii, add_ss, mul_ii, mul_si, ix_si, eq_ii, eq_ss, eq_bb, ne_ii, ne_ss, ne_ni, ne_in, in_s1, notin_s1, is_xn, is_bb, isnot_xn, isnot_bb, sl_s, len_s, find_ss, index_ss, List.append_nil, List.cons_append, List.nil_append, List.getElem?_cons_succ, List.getElem?_cons_zero, List.set_cons_succ, List.set_cons_zero, Option.some.injEq, V.int.injEq, V.bl.injEq, V.str.injEq, V.ref.injEq, V.ty.injEq, List.cons.injEq, and_true, true_and, exists_eq_left, exists_eq_left', exists_and_left, exists_eq', exists_const, exists_and_right, exists_eq_right, exists_eq_right', reduceCtorEq, false_and, and_false, exists_false, or_false, false_or, decide_eq_true_eq, Bool.not_eq_true', decide_eq_false_iff_not, Bool.false_eq_true, if_false, if_true, mk_app, mk_len, sg_mk, mk_one, decide_true, decide_false, Bool.not_true, Bool.not_false, ite_true, ite_false, not_true_eq_false, not_false_eq_true, cxK, cutTo1, cutFrom1, mk_iff, tyV_str, stComp, List.map_cons, List.map_nil, Option.join_some, Option.join_none, gt_iff_lt, ge_iff_le, tRaise, tTryR, tCallH, tDisp, tPairs, tFld, sFld, tMake, tMeth, tAug, ipI, tDead, tBM0, if_false_right, and_self]
    refine ⟨a, ns, rfl, ha, hb, by omega, ?_⟩
    simp only [tSeq, tIfS, tRet, tRetN, tC, tVar, tOp, tUn, tTest, tB, tAnd, tOr, tNot, tAndV, tOrV, tNotV, tIf, tChain, tCons, tNil, tCall, tCB, tLst, tTup, tSl, tNoPart, tPart, gName, tNext, tDrop, tAsg, tAsgC, tBM, tYes, tDNewK, rI, rI0, rU, rEq, rNe, rAbs, rIntT, CDiv, add_ii, add_ss, mul_ii, mul_si, ix_si, eq_ii, eq_ss, eq_bb, ne_ii, ne_ss, ne_ni, ne_in, in_s1, notin_s1, is_xn, is_bb, isnot_xn, isnot_bb, sl_s, len_s, find_ss, index_ss, List.append_nil, List.cons_append, List.nil_append, List.getElem?_cons_succ, List.getElem?_cons_zero, List.set_cons_succ, List.set_cons_zero, Option.some.injEq, V.int.injEq, V.bl.injEq, V.str.injEq, V.ref.injEq, V.ty.injEq, List.cons.injEq, and_true, true_and, exists_eq_left, exists_eq_left', exists_and_left, exists_eq', exists_const, exists_and_right, exists_eq_right, exists_eq_right', reduceCtorEq, false_and, and_false, exists_false, or_false, false_or, decide_eq_true_eq, Bool.not_eq_true', decide_eq_false_iff_not, Bool.false_eq_true, if_false, if_true, mk_app, mk_len, sg_mk, mk_one, decide_true, decide_false, Bool.not_true, Bool.not_false, ite_true, ite_false, not_true_eq_false, not_false_eq_true, cxK, cutTo1, cutFrom1, mk_iff, tyV_str, stComp, List.map_cons, List.map_nil, Option.join_some, Option.join_none, gt_iff_lt, ge_iff_le, tRaise, tTryR, tCallH, tDisp, tPairs, tFld, sFld, tMake, tMeth, tAug, ipI, tDead, tBM0, if_false_right, and_self]
    refine ⟨⟨by decide, by decide⟩, by decide, sl1000 (by simp), fun l2 h2 => ?_⟩
    have s2 := Same.upd (Same.refl H) h2 (o := .lst [V.int (((crc ns).toNat : Int) / 256), V.int (((crc ns).toNat : Int) % 256)])
    refine catL (s2 _ _ ha) upd_same (sl1000 (by simp; omega)) fun l3 h3 => q l3 _ (s2.no h3) (Same.upd s2 h3) ?_
    rw [upd_same, List.map_append]
    rfl
noncomputable def sp__law_image (K : PySem.W.Frag) : Sp := fun vs H Q E => ∃ (a : Addr) (ns : List Int), vs = [.ref a] ∧ SqL K H a (ns.map V.int) ∧ ∀ (t : Addr) (m : Int) (ks : List (Str × Int)) (bs fs : List Int) (n k : Nat) (H' : Hp), Same H H' → TupAt t m ks bs fs H' → GI n k m ks bs fs → Q (.ref t) H'
theorem sc__law_image : FnScope ["_law_script", "_law_sections", "_law_first", "_law_k", "_law_codes", "_law_whole", "_law_body", "_law_far", "_law_place", "_law_one", "_law_begins"] ["_law_script"] (defScope s__law_image) := ⟨rfl, rfl, rfl, by decide +kernel, rfl, by decide +kernel, by decide +kernel⟩
theorem ok__law_image (T : Txt K mg) : FnOk P w K mg base CX0 2 T.d__law_image.f T.d__law_image.fd ["_law_script"] (sp__law_image K) := by
  have nd := sc__law_image.nd
  refine T.d__law_image.F.ok sc__law_image (fun vs H Q E h => ?_) (fun cdv A outer s H vs Q E hr h => ?_)
  · obtain ⟨a, ns, rfl, hq, q⟩ := h
    rfl
  · obtain ⟨a, ns, rfl, hq, q⟩ := h
    have hu := hr.units0
    refine ⟨_, (pss_cons (ps_set (i := 1) nd rfl (Or.inr rfl) (pe_lst pa_nil))
      (pss_cons (ps_set (i := 2) nd rfl (Or.inl rfl) (pc1 T.d__law_cell_at (ok__law_cell_at T) (hr.mono (by decide)) (pa1 (pv 0) (pa1 pe_int pa_nil))))
      (pss_cons (ps_for PassesOwn.never rfl (pi_range1 rfl T.n_range (pa1 (pe_op o_add pe_int (pe_op op_mod (pv 2) pe_int)) pa_nil)) (pg_name (i := 3) nd rfl (Or.inl rfl))
        (pss_one (ps_expr (pm1 (K := K) PySem.F.plainAttrs_list PySem.F.slot_list_append PySem.F.type_list_append o_append (pv 1) (pa1 (pe_tup (pa1 pe_str (pa1 (pe_op o_add pe_int (pe_op op_mod (pc1 T.d__law_mixed (ok__law_mixed T) (hr.mono (by decide)) (pa1 (pc1 T.d__law_cell_at (ok__law_cell_at T) (hr.mono (by decide)) (pa1 (pv 0) (pa1 pe_int pa_nil))) (pa1 (pv 3) pa_nil))) (pe_ix (o_ix (K := K)) (pe_lst (pa1 pe_int (pa1 pe_int pa_nil))) (pe_op op_mod (pc1 T.d__law_mixed (ok__law_mixed T) (hr.mono (by decide)) (pa1 (pv 2) (pa1 (pv 3) pa_nil))) pe_int) (fun _ _ => rfl)))) pa_nil))) pa_nil)))))
      (pss_cons (ps_for PassesOwn.never rfl (pi_range1 rfl T.n_range (pa1 (pe_op op_mod (pe_op op_fdiv (pv 2) pe_int) pe_int) pa_nil)) (pg_name (i := 3) nd rfl (Or.inl rfl))
        (pss_one (ps_expr (pm1 (K := K) PySem.F.plainAttrs_list PySem.F.slot_list_append PySem.F.type_list_append o_append (pv 1) (pa1 (pe_tup (pa1 pe_str (pa1 (pe_op o_add pe_int (pe_op o_mul pe_int (pe_op op_mod (pc1 T.d__law_mixed (ok__law_mixed T) (hr.mono (by decide)) (pa1 (pc1 T.d__law_cell_at (ok__law_cell_at T) (hr.mono (by decide)) (pa1 (pv 0) (pa1 pe_int pa_nil))) (pa1 (pv 3) pa_nil))) pe_int))) pa_nil))) pa_nil)))))
      (pss_cons (ps_set (i := 4) nd rfl (Or.inl rfl) (pcB (o_sum (K := K)) rfl T.n_sum (by kernel_rfl) (pa1 (pe_lcomp (N' := ["_law_kind", "_law_size"]) (src := [none, none]) rfl (CompScope.of (by kernel_rfl)) (pi_listK (K := K) (pv 1)) (fun _ _ _ _ _ _ => (pg_tupK (K := K) (n := 2) rfl (pgs_cons (pg_name (i := 0) (show (["_law_kind", "_law_size"] : List Str).Nodup by decide +kernel) rfl (Or.inl rfl)) (pgs_cons (pg_name (i := 1) (show (["_law_kind", "_law_size"] : List Str).Nodup by decide +kernel) rfl (Or.inl rfl)) pgs_nil)))) (fun _ _ _ _ _ _ => (pif_one (pt_cmpR (o_eq (K := K) hu) (pv 0) pe_str (nomark _)))) (fun _ _ _ _ _ _ => (pv 1))) pa_nil)))
      (pss_cons (ps_set (i := 5) nd rfl (Or.inl rfl) (pcB (o_sum (K := K)) rfl T.n_sum (by kernel_rfl) (pa1 (pe_lcomp (N' := ["_law_kind", "_law_size"]) (src := [none, none]) rfl (CompScope.of (by kernel_rfl)) (pi_listK (K := K) (pv 1)) (fun _ _ _ _ _ _ => (pg_tupK (K := K) (n := 2) rfl (pgs_cons (pg_name (i := 0) (show (["_law_kind", "_law_size"] : List Str).Nodup by decide +kernel) rfl (Or.inl rfl)) (pgs_cons (pg_name (i := 1) (show (["_law_kind", "_law_size"] : List Str).Nodup by decide +kernel) rfl (Or.inl rfl)) pgs_nil)))) (fun _ _ _ _ _ _ => pif_nil) (fun _ _ _ _ _ _ => (pv 1))) pa_nil)))
      (pss_cons (ps_set_lcomp (i := 6) nd rfl rfl (N' := ["_law_k", "_law_script"]) (src := [none, some 0]) rfl (CompScope.of (by kernel_rfl)) (pi_range1 rfl T.n_range (pa1 (pv 5) pa_nil)) (fun _ _ _ _ _ _ => (pg_name (i := 0) (show (["_law_k", "_law_script"] : List Str).Nodup by decide +kernel) rfl (Or.inl rfl))) (fun _ _ _ _ _ _ => pif_nil) (fun _ _ _ _ _ _ => (pe_op op_mod (pc1 T.d__law_mixed (ok__law_mixed T) (hr.mono (by decide)) (pa1 (pc1 T.d__law_cell_at (ok__law_cell_at T) (hr.mono (by decide)) (pa1 (pv 1) (pa1 pe_int pa_nil))) (pa1 (pv 0) pa_nil))) pe_int)))
      (pss_cons (ps_set (i := 7) nd rfl (Or.inl rfl) (pe_lst pa_nil))
      (pss_cons (ps_set (i := 8) nd rfl (Or.inl rfl) (pe_op op_mod (pc1 T.d__law_mixed (ok__law_mixed T) (hr.mono (by decide)) (pa1 (pv 2) (pa1 pe_int pa_nil))) pe_int))
      (pss_cons (ps_while PassesOwn.never (pt_cmpR op_le (pe_op o_add (pv 8) pe_int) (pv 4) (nomark _))
        (pss_cons (ps_expr (pm1 (K := K) PySem.F.plainAttrs_list PySem.F.slot_list_append PySem.F.type_list_append o_append (pv 7) (pa1 (pv 8) pa_nil)))
      (pss_one (ps_set (i := 8) nd rfl (Or.inl rfl) (pe_op o_add (pe_op o_add (pv 8) pe_int) (pe_op op_mod (pc1 T.d__law_mixed (ok__law_mixed T) (hr.mono (by decide)) (pa1 (pc1 T.d__law_cell_at (ok__law_cell_at T) (hr.mono (by decide)) (pa1 (pv 0) (pa1 pe_int pa_nil))) (pa1 (pv 8) pa_nil))) pe_int))))))
      (pss_cons (ps_for PassesOwn.never rfl (pi_listK (K := K) (pv 7)) (pg_name (i := 9) nd rfl (Or.inl rfl))
        (pss_cons (ps_asg pe_int (pg_sub (pv 6) (pv 9) set_list))
      (pss_one (ps_asg (pe_op op_mod (pe_op op_mod (pc1 T.d__law_mixed (ok__law_mixed T) (hr.mono (by decide)) (pa1 (pc1 T.d__law_cell_at (ok__law_cell_at T) (hr.mono (by decide)) (pa1 (pv 0) (pa1 pe_int pa_nil))) (pa1 (pv 9) pa_nil))) (pv 5)) pe_int) (pg_sub (pv 6) (pe_op o_add (pv 9) pe_int) set_list)))))
      (pss_cons (ps_set_lcomp (i := 10) nd rfl rfl (N' := ["_law_k", "_law_sections"]) (src := [none, some 1]) rfl (CompScope.of (by kernel_rfl)) (pi_range1 rfl T.n_range (pa1 (pe_op o_add pe_int (pe_op op_mod (pv 2) pe_int)) pa_nil)) (fun _ _ _ _ _ _ => (pg_name (i := 0) (show (["_law_k", "_law_sections"] : List Str).Nodup by decide +kernel) rfl (Or.inl rfl))) (fun _ _ _ _ _ _ => pif_nil) (fun _ _ _ _ _ _ => (pcB (o_sum (K := K)) rfl T.n_sum (by kernel_rfl) (pa1 (pe_lcomp (N' := ["_law_kind", "_law_size"]) (src := [none, none]) rfl (CompScope.of (by kernel_rfl)) (pi_listK (K := K) (pe_slice (o_sl (K := K)) (pv 1) po_none (po_some (pv 0)))) (fun _ _ _ _ _ _ => (pg_tupK (K := K) (n := 2) rfl (pgs_cons (pg_name (i := 0) (show (["_law_kind", "_law_size"] : List Str).Nodup by decide +kernel) rfl (Or.inl rfl)) (pgs_cons (pg_name (i := 1) (show (["_law_kind", "_law_size"] : List Str).Nodup by decide +kernel) rfl (Or.inl rfl)) pgs_nil)))) (fun _ _ _ _ _ _ => pif_nil) (fun _ _ _ _ _ _ => (pv 1))) pa_nil))))
      (pss_one (ps_ret (pe_tup (pa1 (pe_ix (o_ix (K := K)) (pv 10) (pe_op op_mod (pc1 T.d__law_mixed (ok__law_mixed T) (hr.mono (by decide)) (pa1 (pv 2) (pa1 pe_int pa_nil))) (pcB (o_len (K := K)) rfl T.n_len (by kernel_rfl) (pa1 (pv 10) pa_nil))) (fun _ _ => rfl)) (pa1 (pv 1) (pa1 (pv 6) (pa1 (pv 7) pa_nil))))))))))))))))))), ?_⟩
    rw [show start ["_law_script", "_law_sections", "_law_first", "_law_k", "_law_codes", "_law_whole", "_law_body", "_law_far", "_law_place", "_law_one", "_law_begins"] [V.ref a] = [some (V.ref a), none, none, none, none, none, none, none, none, none, none] from rfl]
    simp only [tSeq, tIfS, tRet, tRetN, tC, tVar, tOp, tUn, tTest, tB, tAnd, tOr, tNot, tAndV, tOrV, tNotV, tIf, tChain, tCons, tNil, tCall, tCB, tLst, tTup, tSl, tNoPart, tPart, gName, tNext, tDrop, tAsg, tAsgC, tBM, tYes, tDNewK, rI, rI0, rU, rEq, rNe, rAbs, rIntT, CDiv, add_ii, add_ss, mul_ii, mul_si, ix_si, eq_ii, eq_ss, eq_bb, ne_ii, ne_ss, ne_ni, ne_in, in_s1, notin_s1, is_xn, is_bb, isnot_xn, isnot_bb, sl_s, len_s, find_ss, index_ss, List.append_nil, List.cons_append, List.nil_append, List.getElem?_cons_succ, List.getElem?_cons_zero, List.set_cons_succ, List.set_cons_zero, Option.some.injEq, V.int.injEq, V.bl.injEq, V.str.injEq, V.ref.injEq, V.ty.injEq, List.cons.injEq, and_true, true_and, exists_eq_left, exists_eq_left', exists_and_left, exists_eq', exists_const, exists_and_right, exists_eq_right, exists_eq_right', reduceCtorEq, false_and, and_false, exists_false, or_false, false_or, decide_eq_true_eq, Bool.not_eq_true', decide_eq_false_iff_not, Bool.false_eq_true, if_false, if_true, mk_app, mk_len, sg_mk, mk_one, decide_true, decide_false, Bool.not_true, Bool.not_false, ite_true, ite_false, not_true_eq_false, not_false_eq_true, cxK, cutTo1, cutFrom1, mk_iff, tyV_str, stComp, List.map_cons, List.map_nil, Option.join_some, Option.join_none, gt_iff_lt, ge_iff_le, tRaise, tTryR, tCallH, tDisp, tPairs, tFld, sFld, tMake, tMeth, tAug, ipI, tDead, tBM0, if_false_right, and_self]
    refine ⟨sl1000 (by simp), fun l1 n1 => ?_⟩
    have S0 := Same.upd (Same.refl H) n1 (o := .lst [])
    refine ⟨a, ns, 0, rfl, S0.seq hq, by decide, fun c => ?_⟩
    refine tfor_rng (1 + c % 4) (r4 c).1 (r4 c).2 (fun R h => ?_) (fun i σ H' => Same H H' ∧ ∃ ts v3, H' l1 = some (.lst (refsT ts)) ∧ (ksT ts).map (·.1) = [] ++ List.replicate i codeS ∧ SecOk l1 ts H' ∧ σ = [some (V.ref a), some (V.ref l1), some (V.int c), v3, none, none, none, none, none, none, none]) ⟨S0, [], none, upd_same, rfl, (fun z hz => nomatch hz), rfl⟩ ?_ ?_
    · simp only [tSeq, tIfS, tRet, tRetN, tC, tVar, tOp, tUn, tTest, tB, tAnd, tOr, tNot, tAndV, tOrV, tNotV, tIf, tChain, tCons, tNil, tCall, tCB, tLst, tTup, tSl, tNoPart, tPart, gName, tNext, tDrop, tAsg, tAsgC, tBM, tYes, tDNewK, rI, rI0, rU, rEq, rNe, rAbs, rIntT, CDiv, add_ii, add_ss, mul_ii, mul_si, ix_si, eq_ii, eq_ss, eq_bb, ne_ii, ne_ss, ne_ni, ne_in, in_s1, notin_s1, is_xn, is_bb, isnot_xn, isnot_bb, sl_s, len_s, find_ss, index_ss, List.append_nil, List.cons_append, List.nil_append, List.getElem?_cons_succ, List.getElem?_cons_zero, List.set_cons_succ, List.set_cons_zero, Option.some.injEq, V.int.injEq, V.bl.injEq, V.str.injEq, V.ref.injEq, V.ty.injEq, List.cons.injEq, and_true, true_and, exists_eq_left, exists_eq_left', exists_and_left, exists_eq', exists_const, exists_and_right, exists_eq_right, exists_eq_right', reduceCtorEq, false_and, and_false, exists_false, or_false, false_or, decide_eq_true_eq, Bool.not_eq_true', decide_eq_false_iff_not, Bool.false_eq_true, if_false, if_true, mk_app, mk_len, sg_mk, mk_one, decide_true, decide_false, Bool.not_true, Bool.not_false, ite_true, ite_false, not_true_eq_false, not_false_eq_true, cxK, cutTo1, cutFrom1, mk_iff, tyV_str, stComp, List.map_cons, List.map_nil, Option.join_some, Option.join_none, gt_iff_lt, ge_iff_le, tRaise, tTryR, tCallH, tDisp, tPairs, tFld, sFld, tMake, tMeth, tAug, ipI, tDead, tBM0, if_false_right, and_self]
      exact ⟨by decide, h⟩
    · rintro i σ H2 hi ⟨S2, ts, v3, el, lt, hts, rfl⟩
      simp only [tSeq, tIfS, tRet, tRetN, tC, tVar, tOp, tUn, tTest, tB, tAnd, tOr, tNot, tAndV, tOrV, tNotV, tIf, tChain, tCons, tNil, tCall, tCB, tLst, tTup, tSl, tNoPart, tPart, gName, tNext, tDrop, tAsg, tAsgC, tBM, tYes, tDNewK, rI, rI0, rU, rEq, rNe, rAbs, rIntT, CDiv, add_ii, add_ss, mul_ii, mul_si, ix_si, eq_ii, eq_ss, eq_bb, ne_ii, ne_ss, ne_ni, ne_in, in_s1, notin_s1, is_xn, is_bb, isnot_xn, isnot_bb, sl_s, len_s, find_ss, index_ss, List.append_nil, List.cons_append, List.nil_append, List.getElem?_cons_succ, List.getElem?_cons_zero, List.set_cons_succ, List.set_cons_zero, Option.some.injEq, V.int.injEq, V.bl.injEq, V.str.injEq, V.ref.injEq, V.ty.injEq, List.cons.injEq, and_true, true_and, exists_eq_left, exists_eq_left', exists_and_left, exists_eq', exists_const, exists_and_right, exists_eq_right, exists_eq_right', reduceCtorEq, false_and, and_false, exists_false, or_false, false_or, decide_eq_true_eq, Bool.not_eq_true', decide_eq_false_iff_not, Bool.false_eq_true, if_false, if_true, mk_app, mk_len, sg_mk, mk_one, decide_true, decide_false, Bool.not_true, Bool.not_false, ite_true, ite_false, not_true_eq_false, not_false_eq_true, cxK, cutTo1, cutFrom1, mk_iff, tyV_str, stComp, List.map_cons, List.map_nil, Option.join_some, Option.join_none, gt_iff_lt, ge_iff_le, tRaise, tTryR, tCallH, tDisp, tPairs, tFld, sFld, tMake, tMeth, tAug, ipI, tDead, tBM0, if_false_right, and_self]
      refine ⟨tyV_lst (SqL.of el), a, ns, 1, rfl, S2.seq hq, by decide, fun c1 => ⟨c1, i, rfl, nnI i, (lt4 hi).1, fun r r0 r1 => ⟨sl1000 (by simp), fun p np => ⟨c, i, rfl, nnI i, (lt4 hi).1, fun r' _ _ => ⟨_, rfl, by decide, ?_⟩⟩⟩⟩⟩
      have key : ∃ x : Int, ([V.int 3, V.int 30] : List V)[(r' % 2).toNat]? = some (V.int x) ∧ 0 < x ∧ x ≤ 30 := by
        have h2 := m2t r'
        generalize (r' % 2).toNat = j at h2
        match j, h2 with
        | 0, _ => exact ⟨_, rfl, by decide, by decide⟩
        | 1, _ => exact ⟨_, rfl, by decide, by decide⟩
        | j + 2, h => exact absurd h (by simp)
      obtain ⟨x, ex, x0, x1⟩ := key
      have S3 := Same.upd (Same.refl H2) np (o := .lst [V.int 3, V.int 30])
      have ltl : ts.length = i := by rw [← ksT_len, ← List.length_map (f := (·.1)) (as := ksT ts), lt]; simp
      exact ixL (SqL.of upd_same) (atIn (m2n r') ex) ⟨_, rfl, _, rfl, x0, sl1000 (by simp), fun p2 np2 => sec_push2 (S2.trans S3) n1 (S3 _ _ el) (hts.same S3) (.inl rfl) (sz1 x0 x1).1 (sz1 x0 x1).2 (le100 ltl (lt4 hi).2) np2 fun H' S' el' hts' => ⟨S', _, el', kd_snoc lt, hts'⟩⟩
    rintro σ H2 ⟨S2, ts, v3, el, lt, hts, rfl⟩
    simp only [tSeq, tIfS, tRet, tRetN, tC, tVar, tOp, tUn, tTest, tB, tAnd, tOr, tNot, tAndV, tOrV, tNotV, tIf, tChain, tCons, tNil, tCall, tCB, tLst, tTup, tSl, tNoPart, tPart, gName, tNext, tDrop, tAsg, tAsgC, tBM, tYes, tDNewK, rI, rI0, rU, rEq, rNe, rAbs, rIntT, CDiv, add_ii, add_ss, mul_ii, mul_si, ix_si, eq_ii, eq_ss, eq_bb, ne_ii, ne_ss, ne_ni, ne_in, in_s1, notin_s1, is_xn, is_bb, isnot_xn, isnot_bb, sl_s, len_s, find_ss, index_ss, List.append_nil, List.cons_append, List.nil_append, List.getElem?_cons_succ, List.getElem?_cons_zero, List.set_cons_succ, List.set_cons_zero, Option.some.injEq, V.int.injEq, V.bl.injEq, V.str.injEq, V.ref.injEq, V.ty.injEq, List.cons.injEq, and_true, true_and, exists_eq_left, exists_eq_left', exists_and_left, exists_eq', exists_const, exists_and_right, exists_eq_right, exists_eq_right', reduceCtorEq, false_and, and_false, exists_false, or_false, false_or, decide_eq_true_eq, Bool.not_eq_true', decide_eq_false_iff_not, Bool.false_eq_true, if_false, if_true, mk_app, mk_len, sg_mk, mk_one, decide_true, decide_false, Bool.not_true, Bool.not_false, ite_true, ite_false, not_true_eq_false, not_false_eq_true, cxK, cutTo1, cutFrom1, mk_iff, tyV_str, stComp, List.map_cons, List.map_nil, Option.join_some, Option.join_none, gt_iff_lt, ge_iff_le, tRaise, tTryR, tCallH, tDisp, tPairs, tFld, sFld, tMake, tMeth, tAug, ipI, tDead, tBM0, if_false_right, and_self]
    refine tfor_rng (c / 4 % 3) (r3 c).1 (r3 c).2 (fun R h => ?_) (fun i σ H' => Same H H' ∧ ∃ ts v3, H' l1 = some (.lst (refsT ts)) ∧ (ksT ts).map (·.1) = List.replicate (1 + c % 4).toNat codeS ++ List.replicate i dataS ∧ SecOk l1 ts H' ∧ σ = [some (V.ref a), some (V.ref l1), some (V.int c), v3, none, none, none, none, none, none, none]) ⟨S2, ts, v3, el, by rw [lt]; simp, hts, rfl⟩ ?_ ?_
    · simp only [tSeq, tIfS, tRet, tRetN, tC, tVar, tOp, tUn, tTest, tB, tAnd, tOr, tNot, tAndV, tOrV, tNotV, tIf, tChain, tCons, tNil, tCall, tCB, tLst, tTup, tSl, tNoPart, tPart, gName, tNext, tDrop, tAsg, tAsgC, tBM, tYes, tDNewK, rI, rI0, rU, rEq, rNe, rAbs, rIntT, CDiv, add_ii, add_ss, mul_ii, mul_si, ix_si, eq_ii, eq_ss, eq_bb, ne_ii, ne_ss, ne_ni, ne_in, in_s1, notin_s1, is_xn, is_bb, isnot_xn, isnot_bb, sl_s, len_s, find_ss, index_ss, List.append_nil, List.cons_append, List.nil_append, List.getElem?_cons_succ, List.getElem?_cons_zero, List.set_cons_succ, List.set_cons_zero, Option.some.injEq, V.int.injEq, V.bl.injEq, V.str.injEq, V.ref.injEq, V.ty.injEq, List.cons.injEq, and_true, true_and, exists_eq_left, exists_eq_left', exists_and_left, exists_eq', exists_const, exists_and_right, exists_eq_right, exists_eq_right', reduceCtorEq, false_and, and_false, exists_false, or_false, false_or, decide_eq_true_eq, Bool.not_eq_true', decide_eq_false_iff_not, Bool.false_eq_true, if_false, if_true, mk_app, mk_len, sg_mk, mk_one, decide_true, decide_false, Bool.not_true, Bool.not_false, ite_true, ite_false, not_true_eq_false, not_false_eq_true, cxK, cutTo1, cutFrom1, mk_iff, tyV_str, stComp, List.map_cons, List.map_nil, Option.join_some, Option.join_none, gt_iff_lt, ge_iff_le, tRaise, tTryR, tCallH, tDisp, tPairs, tFld, sFld, tMake, tMeth, tAug, ipI, tDead, tBM0, if_false_right, and_self]
      exact ⟨⟨by decide, by decide⟩, by decide, h⟩
    · clear hts el lt S2
      rintro i σ H2 hi ⟨S2, ts, v3, el, lt, hts, rfl⟩
      have ltl : ts.length = (1 + c % 4).toNat + i := by rw [← ksT_len, ← List.length_map (f := (·.1)) (as := ksT ts), lt]; simp
      simp only [tSeq, tIfS, tRet, tRetN, tC, tVar, tOp, tUn, tTest, tB, tAnd, tOr, tNot, tAndV, tOrV, tNotV, tIf, tChain, tCons, tNil, tCall, tCB, tLst, tTup, tSl, tNoPart, tPart, gName, tNext, tDrop, tAsg, tAsgC, tBM, tYes, tDNewK, rI, rI0, rU, rEq, rNe, rAbs, rIntT, CDiv, add_ii, add_ss, mul_ii, mul_si, ix_si, eq_ii, eq_ss, eq_bb, ne_ii, ne_ss, ne_ni, ne_in, in_s1, notin_s1, is_xn, is_bb, isnot_xn, isnot_bb, sl_s, len_s, find_ss, index_ss, List.append_nil, List.cons_append, List.nil_append, List.getElem?_cons_succ, List.getElem?_cons_zero, List.set_cons_succ, List.set_cons_zero, Option.some.injEq, V.int.injEq, V.bl.injEq, V.str.injEq, V.ref.injEq, V.ty.injEq, List.cons.injEq, and_true, true_and, exists_eq_left, exists_eq_left', exists_and_left, exists_eq', exists_const, exists_and_right, exists_eq_right, exists_eq_right', reduceCtorEq, false_and, and_false, exists_false, or_false, false_or, decide_eq_true_eq, Bool.not_eq_true', decide_eq_false_iff_not, Bool.false_eq_true, if_false, if_true, mk_app, mk_len, sg_mk, mk_one, decide_true, decide_false, Bool.not_true, Bool.not_false, ite_true, ite_false, not_true_eq_false, not_false_eq_true, cxK, cutTo1, cutFrom1, mk_iff, tyV_str, stComp, List.map_cons, List.map_nil, Option.join_some, Option.join_none, gt_iff_lt, ge_iff_le, tRaise, tTryR, tCallH, tDisp, tPairs, tFld, sFld, tMake, tMeth, tAug, ipI, tDead, tBM0, if_false_right, and_self]
      refine ⟨tyV_lst (SqL.of el), a, ns, 2, rfl, S2.seq hq, by decide, fun c1 => ⟨c1, i, rfl, nnI i, (lt3 hi).1, fun r r0 r1 => ⟨_, rfl, by decide, .inl ⟨by decide, by decide⟩, sl1000 (by simp), fun p2 np2 => sec_push2 S2 n1 el hts (.inr rfl) (sz2 r).1 (sz2 r).2 (le100' ltl (lt3 hi).2) np2 fun H' S' el' hts' => ⟨S', _, el', kd_snoc lt, hts'⟩⟩⟩⟩
    clear hts el lt S2
    rintro σ H2 ⟨S2, ts, v3, el, lt, hts, rfl⟩
    have ltl : ts.length = (1 + c % 4).toNat + (c / 4 % 3).toNat := by rw [← ksT_len, ← List.length_map (f := (·.1)) (as := ksT ts), lt]; simp
    have lt6 : 1 ≤ ts.length ∧ ts.length ≤ 6 := by omega
    have hcod0 : (cszs ts).sum = sumK ((ksT ts).take (1 + c % 4).toNat) := by unfold cszs; rw [(codes_take lt).1, szs_k, ksT_take]
    have hwho0 := szs_k ts
    have hsz : ∀ e ∈ ksT ts, 1 ≤ e.2 ∧ e.2 ≤ 40 := fun e he => by
      obtain ⟨e', he', rfl⟩ := List.mem_map.mp he
      exact (hts e' he').2.2.2
    have n4 : (1 + c % 4).toNat ≤ 4 ∧ (c / 4 % 3).toNat ≤ 2 := by omega
    clear ltl
    have b1 := szs_b hts
    have b2 := cszs_b hts
    have lr : (refsT ts).length = ts.length := by simp [refsT]
    dsimp only
    refine tSeq_gen fun B hB => ?_
    simp only [tSeq, tIfS, tRet, tRetN, tC, tVar, tOp, tUn, tTest, tB, tAnd, tOr, tNot, tAndV, tOrV, tNotV, tIf, tChain, tCons, tNil, tCall, tCB, tLst, tTup, tSl, tNoPart, tPart, gName, tNext, tDrop, tAsg, tAsgC, tBM, tYes, tDNewK, rI, rI0, rU, rEq, rNe, rAbs, rIntT, CDiv, add_ii, add_ss, mul_ii, mul_si, ix_si, eq_ii, eq_ss, eq_bb, ne_ii, ne_ss, ne_ni, ne_in, in_s1, notin_s1, is_xn, is_bb, isnot_xn, isnot_bb, sl_s, len_s, find_ss, index_ss, List.append_nil, List.cons_append, List.nil_append, List.getElem?_cons_succ, List.getElem?_cons_zero, List.set_cons_succ, List.set_cons_zero, Option.some.injEq, V.int.injEq, V.bl.injEq, V.str.injEq, V.ref.injEq, V.ty.injEq, List.cons.injEq, and_true, true_and, exists_eq_left, exists_eq_left', exists_and_left, exists_eq', exists_const, exists_and_right, exists_eq_right, exists_eq_right', reduceCtorEq, false_and, and_false, exists_false, or_false, false_or, decide_eq_true_eq, Bool.not_eq_true', decide_eq_false_iff_not, Bool.false_eq_true, if_false, if_true, mk_app, mk_len, sg_mk, mk_one, decide_true, decide_false, Bool.not_true, Bool.not_false, ite_true, ite_false, not_true_eq_false, not_false_eq_true, cxK, cutTo1, cutFrom1, mk_iff, tyV_str, stComp, List.map_cons, List.map_nil, Option.join_some, Option.join_none, gt_iff_lt, ge_iff_le, tRaise, tTryR, tCallH, tDisp, tPairs, tFld, sFld, tMake, tMeth, tAug, ipI, tDead, tBM0, if_false_right, and_self]
    refine tcomp_listM (xs := refsT ts) (fun a' H0 => a' = l1 ∧ H0 = H2) (fun R h => ⟨_, rfl, h _ _ ⟨rfl, rfl⟩⟩) (fun a' i ys H' => a' = l1 ∧ H' = H2 ∧ ys = (cszs (ts.take i)).map V.int) (fun a' H0 h => ⟨h.1, h.2, by simp [cszs, szs]⟩) (fun a' i ys H' h => by rw [h.1, h.2.1]; exact SqL.of el) (sl1000 (by omega)) ?_ ?_
    · rintro a' i x ys H' Cy Cn hx ⟨rfl, rfl, rfl⟩ cy cn
      obtain ⟨e, ee, rfl⟩ := refsT_get hx
      obtain ⟨_, e1, e2, _⟩ := hts e (List.mem_of_getElem? ee)
      refine tupT e1 ⟨KeepSt.two, ?_⟩
      simp only [tSeq, tIfS, tRet, tRetN, tC, tVar, tOp, tUn, tTest, tB, tAnd, tOr, tNot, tAndV, tOrV, tNotV, tIf, tChain, tCons, tNil, tCall, tCB, tLst, tTup, tSl, tNoPart, tPart, gName, tNext, tDrop, tAsg, tAsgC, tBM, tYes, tDNewK, rI, rI0, rU, rEq, rNe, rAbs, rIntT, CDiv, add_ii, add_ss, mul_ii, mul_si, ix_si, eq_ii, eq_ss, eq_bb, ne_ii, ne_ss, ne_ni, ne_in, in_s1, notin_s1, is_xn, is_bb, isnot_xn, isnot_bb, sl_s, len_s, find_ss, index_ss, List.append_nil, List.cons_append, List.nil_append, List.getElem?_cons_succ, List.getElem?_cons_zero, List.set_cons_succ, List.set_cons_zero, Option.some.injEq, V.int.injEq, V.bl.injEq, V.str.injEq, V.ref.injEq, V.ty.injEq, List.cons.injEq, and_true, true_and, exists_eq_left, exists_eq_left', exists_and_left, exists_eq', exists_const, exists_and_right, exists_eq_right, exists_eq_right', reduceCtorEq, false_and, and_false, exists_false, or_false, false_or, decide_eq_true_eq, Bool.not_eq_true', decide_eq_false_iff_not, Bool.false_eq_true, if_false, if_true, mk_app, mk_len, sg_mk, mk_one, decide_true, decide_false, Bool.not_true, Bool.not_false, ite_true, ite_false, not_true_eq_false, not_false_eq_true, cxK, cutTo1, cutFrom1, mk_iff, tyV_str, stComp, List.map_cons, List.map_nil, Option.join_some, Option.join_none, gt_iff_lt, ge_iff_le, tRaise, tTryR, tCallH, tDisp, tPairs, tFld, sFld, tMake, tMeth, tAug, ipI, tDead, tBM0, if_false_right, and_self]
      by_cases hc : e.2.1 = codeS
      · rw [if_pos hc]
        exact cy _ _ ⟨rfl, rfl, by rw [take_snocT ee, cszs_snoc, if_pos hc]; simp⟩
      · rw [if_neg hc]
        exact cn _ ⟨rfl, rfl, by rw [take_snocT ee, cszs_snoc, if_neg hc]⟩
    rintro a' ys H' l4 ⟨rfl, rfl, rfl⟩ n4
    rw [lr, List.take_length]
    refine ⟨l4, cszs ts, rfl, SqL.of upd_same, b2.1, ?_, ?_⟩
    · have : (cszs ts).length ≤ ts.length := by unfold cszs szs; rw [List.length_map]; exact List.length_filter_le _ _
      omega
    generalize hcod : (cszs ts).sum = cod at b2 hcod0
    have S3 := Same.upd (Same.refl H') n4 (o := .lst ((cszs ts).map V.int))
    generalize upd H' l4 (.lst ((cszs ts).map V.int)) = H3 at S3 ⊢
    have el := S3 _ _ el
    have hts := hts.same S3
    have S2 := S2.trans S3
    clear S3 n4
    subst hB
    refine tSeq_gen fun B hB => ?_
    simp only [tSeq, tIfS, tRet, tRetN, tC, tVar, tOp, tUn, tTest, tB, tAnd, tOr, tNot, tAndV, tOrV, tNotV, tIf, tChain, tCons, tNil, tCall, tCB, tLst, tTup, tSl, tNoPart, tPart, gName, tNext, tDrop, tAsg, tAsgC, tBM, tYes, tDNewK, rI, rI0, rU, rEq, rNe, rAbs, rIntT, CDiv, add_ii, add_ss, mul_ii, mul_si, ix_si, eq_ii, eq_ss, eq_bb, ne_ii, ne_ss, ne_ni, ne_in, in_s1, notin_s1, is_xn, is_bb, isnot_xn, isnot_bb, sl_s, len_s, find_ss, index_ss, List.append_nil, List.cons_append, List.nil_append, List.getElem?_cons_succ, List.getElem?_cons_zero, List.set_cons_succ, List.set_cons_zero, Option.some.injEq, V.int.injEq, V.bl.injEq, V.str.injEq, V.ref.injEq, V.ty.injEq, List.cons.injEq, and_true, true_and, exists_eq_left, exists_eq_left', exists_and_left, exists_eq', exists_const, exists_and_right, exists_eq_right, exists_eq_right', reduceCtorEq, false_and, and_false, exists_false, or_false, false_or, decide_eq_true_eq, Bool.not_eq_true', decide_eq_false_iff_not, Bool.false_eq_true, if_false, if_true, mk_app, mk_len, sg_mk, mk_one, decide_true, decide_false, Bool.not_true, Bool.not_false, ite_true, ite_false, not_true_eq_false, not_false_eq_true, cxK, cutTo1, cutFrom1, mk_iff, tyV_str, stComp, List.map_cons, List.map_nil, Option.join_some, Option.join_none, gt_iff_lt, ge_iff_le, tRaise, tTryR, tCallH, tDisp, tPairs, tFld, sFld, tMake, tMeth, tAug, ipI, tDead, tBM0, if_false_right, and_self]
    refine tcomp_listM (xs := refsT ts) (fun a'' H0 => a'' = a' ∧ H0 = H3) (fun R h => ⟨_, rfl, h _ _ ⟨rfl, rfl⟩⟩) (fun a'' i ys H' => a'' = a' ∧ H' = H3 ∧ ys = (szs (ts.take i)).map V.int) (fun a'' H0 h => ⟨h.1, h.2, by simp [szs]⟩) (fun a'' i ys H' h => by rw [h.1, h.2.1]; exact SqL.of el) (sl1000 (by omega)) ?_ ?_
    · rintro a'' i x ys H' Cy Cn hx ⟨rfl, rfl, rfl⟩ cy cn
      obtain ⟨e, ee, rfl⟩ := refsT_get hx
      obtain ⟨_, e1, e2, _⟩ := hts e (List.mem_of_getElem? ee)
      refine tupT e1 ⟨KeepSt.two, ?_⟩
      simp only [tSeq, tIfS, tRet, tRetN, tC, tVar, tOp, tUn, tTest, tB, tAnd, tOr, tNot, tAndV, tOrV, tNotV, tIf, tChain, tCons, tNil, tCall, tCB, tLst, tTup, tSl, tNoPart, tPart, gName, tNext, tDrop, tAsg, tAsgC, tBM, tYes, tDNewK, rI, rI0, rU, rEq, rNe, rAbs, rIntT, CDiv, add_ii, add_ss, mul_ii, mul_si, ix_si, eq_ii, eq_ss, eq_bb, ne_ii, ne_ss, ne_ni, ne_in, in_s1, notin_s1, is_xn, is_bb, isnot_xn, isnot_bb, sl_s, len_s, find_ss, index_ss, List.append_nil, List.cons_append, List.nil_append, List.getElem?_cons_succ, List.getElem?_cons_zero, List.set_cons_succ, List.set_cons_zero, Option.some.injEq, V.int.injEq, V.bl.injEq, V.str.injEq, V.ref.injEq, V.ty.injEq, List.cons.injEq, and_true, true_and, exists_eq_left, exists_eq_left', exists_and_left, exists_eq', exists_const, exists_and_right, exists_eq_right, exists_eq_right', reduceCtorEq, false_and, and_false, exists_false, or_false, false_or, decide_eq_true_eq, Bool.not_eq_true', decide_eq_false_iff_not, Bool.false_eq_true, if_false, if_true, mk_app, mk_len, sg_mk, mk_one, decide_true, decide_false, Bool.not_true, Bool.not_false, ite_true, ite_false, not_true_eq_false, not_false_eq_true, cxK, cutTo1, cutFrom1, mk_iff, tyV_str, stComp, List.map_cons, List.map_nil, Option.join_some, Option.join_none, gt_iff_lt, ge_iff_le, tRaise, tTryR, tCallH, tDisp, tPairs, tFld, sFld, tMake, tMeth, tAug, ipI, tDead, tBM0, if_false_right, and_self]
      exact cy _ _ ⟨rfl, rfl, by rw [take_snocT ee, szs_snoc]; simp⟩
    rintro a'' ys H' l5 ⟨rfl, rfl, rfl⟩ n5
    rw [lr, List.take_length]
    refine ⟨l5, szs ts, rfl, SqL.of upd_same, b1.1, by simp [szs]; omega, ?_⟩
    generalize hwho : (szs ts).sum = who at b1 b2 hwho0
    have hw : 1 ≤ who ∧ who ≤ 240 ∧ 0 ≤ cod ∧ cod ≤ who := by omega
    clear b1 b2 hwho hcod
    have S3 := Same.upd (Same.refl H') n5 (o := .lst ((szs ts).map V.int))
    generalize upd H' l5 (.lst ((szs ts).map V.int)) = H4 at S3 ⊢
    have el := S3 _ _ el
    have hts := hts.same S3
    have S2 := S2.trans S3
    clear S3 n5
    subst hB
    refine tSeq_gen fun B hB => ?_
    simp only [tSeq, tIfS, tRet, tRetN, tC, tVar, tOp, tUn, tTest, tB, tAnd, tOr, tNot, tAndV, tOrV, tNotV, tIf, tChain, tCons, tNil, tCall, tCB, tLst, tTup, tSl, tNoPart, tPart, gName, tNext, tDrop, tAsg, tAsgC, tBM, tYes, tDNewK, rI, rI0, rU, rEq, rNe, rAbs, rIntT, CDiv, add_ii, add_ss, mul_ii, mul_si, ix_si, eq_ii, eq_ss, eq_bb, ne_ii, ne_ss, ne_ni, ne_in, in_s1, notin_s1, is_xn, is_bb, isnot_xn, isnot_bb, sl_s, len_s, find_ss, index_ss, List.append_nil, List.cons_append, List.nil_append, List.getElem?_cons_succ, List.getElem?_cons_zero, List.set_cons_succ, List.set_cons_zero, Option.some.injEq, V.int.injEq, V.bl.injEq, V.str.injEq, V.ref.injEq, V.ty.injEq, List.cons.injEq, and_true, true_and, exists_eq_left, exists_eq_left', exists_and_left, exists_eq', exists_const, exists_and_right, exists_eq_right, exists_eq_right', reduceCtorEq, false_and, and_false, exists_false, or_false, false_or, decide_eq_true_eq, Bool.not_eq_true', decide_eq_false_iff_not, Bool.false_eq_true, if_false, if_true, mk_app, mk_len, sg_mk, mk_one, decide_true, decide_false, Bool.not_true, Bool.not_false, ite_true, ite_false, not_true_eq_false, not_false_eq_true, cxK, cutTo1, cutFrom1, mk_iff, tyV_str, stComp, List.map_cons, List.map_nil, Option.join_some, Option.join_none, gt_iff_lt, ge_iff_le, tRaise, tTryR, tCallH, tDisp, tPairs, tFld, sFld, tMake, tMeth, tAug, ipI, tDead, tBM0, if_false_right, and_self]
    refine tcomp_rngP who (by omega) (by omega) (fun R h => ⟨_, rfl, h⟩) (fun i ys H' => H' = H4 ∧ ∃ bs : List Int, ys = bs.map V.int ∧ bs.length = i ∧ IsB bs) rfl ⟨rfl, [], rfl, rfl, fun n hn => nomatch hn⟩ ?_ ?_
    · rintro i ys H' Cy Cn hi ⟨rfl, bs, rfl, lb, bb⟩ cy cn
      simp only [tSeq, tIfS, tRet, tRetN, tC, tVar, tOp, tUn, tTest, tB, tAnd, tOr, tNot, tAndV, tOrV, tNotV, tIf, tChain, tCons, tNil, tCall, tCB, tLst, tTup, tSl, tNoPart, tPart, gName, tNext, tDrop, tAsg, tAsgC, tBM, tYes, tDNewK, rI, rI0, rU, rEq, rNe, rAbs, rIntT, CDiv, add_ii, add_ss, mul_ii, mul_si, ix_si, eq_ii, eq_ss, eq_bb, ne_ii, ne_ss, ne_ni, ne_in, in_s1, notin_s1, is_xn, is_bb, isnot_xn, isnot_bb, sl_s, len_s, find_ss, index_ss, List.append_nil, List.cons_append, List.nil_append, List.getElem?_cons_succ, List.getElem?_cons_zero, List.set_cons_succ, List.set_cons_zero, Option.some.injEq, V.int.injEq, V.bl.injEq, V.str.injEq, V.ref.injEq, V.ty.injEq, List.cons.injEq, and_true, true_and, exists_eq_left, exists_eq_left', exists_and_left, exists_eq', exists_const, exists_and_right, exists_eq_right, exists_eq_right', reduceCtorEq, false_and, and_false, exists_false, or_false, false_or, decide_eq_true_eq, Bool.not_eq_true', decide_eq_false_iff_not, Bool.false_eq_true, if_false, if_true, mk_app, mk_len, sg_mk, mk_one, decide_true, decide_false, Bool.not_true, Bool.not_false, ite_true, ite_false, not_true_eq_false, not_false_eq_true, cxK, cutTo1, cutFrom1, mk_iff, tyV_str, stComp, List.map_cons, List.map_nil, Option.join_some, Option.join_none, gt_iff_lt, ge_iff_le, tRaise, tTryR, tCallH, tDisp, tPairs, tFld, sFld, tMake, tMeth, tAug, ipI, tDead, tBM0, if_false_right, and_self]
      refine ⟨a, ns, 3, rfl, S2.seq hq, by decide, fun c1 => ⟨c1, i, rfl, nnI i, kb hi hw.2.1, fun r r0 r1 => ⟨_, rfl, by decide, cy _ _ ⟨rfl, bs ++ [r % 256], by simp, by simp [lb], IsB.snoc bb⟩⟩⟩⟩
    rintro ys H' l6 ⟨rfl, bs, rfl, lb, bb⟩ n6
    have e6 : upd H' l6 (.lst (bs.map V.int)) l6 = some (.lst (bs.map V.int)) := upd_same
    have S3 := Same.upd (Same.refl H') n6 (o := .lst (bs.map V.int))
    have n6l : l6 ≠ a'' := fun e => by rw [e, el] at n6; cases n6
    have n6H := S2.no n6
    generalize upd H' l6 (.lst (bs.map V.int)) = H5 at S3 e6 ⊢
    have el := S3 _ _ el
    have hts := hts.same S3
    have S2 := S2.trans S3
    clear S3
    subst hB
    refine tSeq_gen fun B hB => ?_
    simp only [tSeq, tIfS, tRet, tRetN, tC, tVar, tOp, tUn, tTest, tB, tAnd, tOr, tNot, tAndV, tOrV, tNotV, tIf, tChain, tCons, tNil, tCall, tCB, tLst, tTup, tSl, tNoPart, tPart, gName, tNext, tDrop, tAsg, tAsgC, tBM, tYes, tDNewK, rI, rI0, rU, rEq, rNe, rAbs, rIntT, CDiv, add_ii, add_ss, mul_ii, mul_si, ix_si, eq_ii, eq_ss, eq_bb, ne_ii, ne_ss, ne_ni, ne_in, in_s1, notin_s1, is_xn, is_bb, isnot_xn, isnot_bb, sl_s, len_s, find_ss, index_ss, List.append_nil, List.cons_append, List.nil_append, List.getElem?_cons_succ, List.getElem?_cons_zero, List.set_cons_succ, List.set_cons_zero, Option.some.injEq, V.int.injEq, V.bl.injEq, V.str.injEq, V.ref.injEq, V.ty.injEq, List.cons.injEq, and_true, true_and, exists_eq_left, exists_eq_left', exists_and_left, exists_eq', exists_const, exists_and_right, exists_eq_right, exists_eq_right', reduceCtorEq, false_and, and_false, exists_false, or_false, false_or, decide_eq_true_eq, Bool.not_eq_true', decide_eq_false_iff_not, Bool.false_eq_true, if_false, if_true, mk_app, mk_len, sg_mk, mk_one, decide_true, decide_false, Bool.not_true, Bool.not_false, ite_true, ite_false, not_true_eq_false, not_false_eq_true, cxK, cutTo1, cutFrom1, mk_iff, tyV_str, stComp, List.map_cons, List.map_nil, Option.join_some, Option.join_none, gt_iff_lt, ge_iff_le, tRaise, tTryR, tCallH, tDisp, tPairs, tFld, sFld, tMake, tMeth, tAug, ipI, tDead, tBM0, if_false_right, and_self]
    refine ⟨sl1000 (by simp), fun l7 n7 => ?_⟩
    have e7 : upd H5 l7 (.lst []) l7 = some (.lst []) := upd_same
    have S3 := Same.upd (Same.refl H5) n7 (o := .lst [])
    have n7l : l7 ≠ a'' := fun e => by rw [e, el] at n7; cases n7
    have n76 : l7 ≠ l6 := fun e => by rw [e, e6] at n7; cases n7
    have n7H := S2.no n7
    generalize upd H5 l7 (.lst []) = H6 at S3 e7 ⊢
    have el := S3 _ _ el
    have e6 := S3 _ _ e6
    have hts := hts.same S3
    have S2 := S2.trans S3
    clear S3
    subst hB
    refine tSeq_gen fun B hB => ?_
    simp only [tSeq, tIfS, tRet, tRetN, tC, tVar, tOp, tUn, tTest, tB, tAnd, tOr, tNot, tAndV, tOrV, tNotV, tIf, tChain, tCons, tNil, tCall, tCB, tLst, tTup, tSl, tNoPart, tPart, gName, tNext, tDrop, tAsg, tAsgC, tBM, tYes, tDNewK, rI, rI0, rU, rEq, rNe, rAbs, rIntT, CDiv, add_ii, add_ss, mul_ii, mul_si, ix_si, eq_ii, eq_ss, eq_bb, ne_ii, ne_ss, ne_ni, ne_in, in_s1, notin_s1, is_xn, is_bb, isnot_xn, isnot_bb, sl_s, len_s, find_ss, index_ss, List.append_nil, List.cons_append, List.nil_append, List.getElem?_cons_succ, List.getElem?_cons_zero, List.set_cons_succ, List.set_cons_zero, Option.some.injEq, V.int.injEq, V.bl.injEq, V.str.injEq, V.ref.injEq, V.ty.injEq, List.cons.injEq, and_true, true_and, exists_eq_left, exists_eq_left', exists_and_left, exists_eq', exists_const, exists_and_right, exists_eq_right, exists_eq_right', reduceCtorEq, false_and, and_false, exists_false, or_false, false_or, decide_eq_true_eq, Bool.not_eq_true', decide_eq_false_iff_not, Bool.false_eq_true, if_false, if_true, mk_app, mk_len, sg_mk, mk_one, decide_true, decide_false, Bool.not_true, Bool.not_false, ite_true, ite_false, not_true_eq_false, not_false_eq_true, cxK, cutTo1, cutFrom1, mk_iff, tyV_str, stComp, List.map_cons, List.map_nil, Option.join_some, Option.join_none, gt_iff_lt, ge_iff_le, tRaise, tTryR, tCallH, tDisp, tPairs, tFld, sFld, tMake, tMeth, tAug, ipI, tDead, tBM0, if_false_right, and_self]
    refine ⟨c, 9, rfl, by decide, by decide, fun r r0 r1 => ⟨_, rfl, by decide, ?_⟩⟩
    subst hB
    simp only [tSeq, tIfS, tRet, tRetN, tC, tVar, tOp, tUn, tTest, tB, tAnd, tOr, tNot, tAndV, tOrV, tNotV, tIf, tChain, tCons, tNil, tCall, tCB, tLst, tTup, tSl, tNoPart, tPart, gName, tNext, tDrop, tAsg, tAsgC, tBM, tYes, tDNewK, rI, rI0, rU, rEq, rNe, rAbs, rIntT, CDiv, add_ii, add_ss, mul_ii, mul_si, ix_si, eq_ii, eq_ss, eq_bb, ne_ii, ne_ss, ne_ni, ne_in, in_s1, notin_s1, is_xn, is_bb, isnot_xn, isnot_bb, sl_s, len_s, find_ss, index_ss, List.append_nil, List.cons_append, List.nil_append, List.getElem?_cons_succ, List.getElem?_cons_zero, List.set_cons_succ, List.set_cons_zero, Option.some.injEq, V.int.injEq, V.bl.injEq, V.str.injEq, V.ref.injEq, V.ty.injEq, List.cons.injEq, and_true, true_and, exists_eq_left, exists_eq_left', exists_and_left, exists_eq', exists_const, exists_and_right, exists_eq_right, exists_eq_right', reduceCtorEq, false_and, and_false, exists_false, or_false, false_or, decide_eq_true_eq, Bool.not_eq_true', decide_eq_false_iff_not, Bool.false_eq_true, if_false, if_true, mk_app, mk_len, sg_mk, mk_one, decide_true, decide_false, Bool.not_true, Bool.not_false, ite_true, ite_false, not_true_eq_false, not_false_eq_true, cxK, cutTo1, cutFrom1, mk_iff, tyV_str, stComp, List.map_cons, List.map_nil, Option.join_some, Option.join_none, gt_iff_lt, ge_iff_le, tRaise, tTryR, tCallH, tDisp, tPairs, tFld, sFld, tMake, tMeth, tAug, ipI, tDead, tBM0, if_false_right, and_self]
    have pr : 0 ≤ r % 7 ∧ r % 7 ≤ 6 := by omega
    generalize r % 7 = rp at pr ⊢
    clear r0 r1
    refine while_cps (fun σ H' => ∃ (pl : Int) (fs : List Int), σ = [some (V.ref a), some (V.ref a''), some (V.int c), v3, some (V.int cod), some (V.int who), some (V.ref l6), some (V.ref l7), some (V.int pl), none, none] ∧ 0 ≤ pl ∧ pl ≤ 300 ∧ Same H H' ∧ H' a'' = some (.lst (refsT ts)) ∧ H' l6 = some (.lst (bs.map V.int)) ∧ H' l7 = some (.lst (fs.map V.int)) ∧ SecOk a'' ts H' ∧ (∀ p ∈ fs, 0 ≤ p ∧ p + 2 ≤ cod) ∧ (fs.length : Int) ≤ pl ∧ fs.Pairwise (fun p q => p + 2 ≤ q) ∧ ∀ p ∈ fs, p + 2 ≤ pl) (fun σ _ => muP σ) ⟨rp, [], rfl, pr.1, Int.le_trans pr.2 (by decide), S2, el, e6, e7, hts, (fun p hp => nomatch hp), pr.1, .nil, (fun p hp => nomatch hp)⟩ ?_
    clear pr
    rintro σ H7 C ⟨pl, fs, rfl, p0, p1, S7, el7, e67, e77, hts7, hfs, lfs, hpw, hpl⟩ ht hf
    simp only [tSeq, tIfS, tRet, tRetN, tC, tVar, tOp, tUn, tTest, tB, tAnd, tOr, tNot, tAndV, tOrV, tNotV, tIf, tChain, tCons, tNil, tCall, tCB, tLst, tTup, tSl, tNoPart, tPart, gName, tNext, tDrop, tAsg, tAsgC, tBM, tYes, tDNewK, rI, rI0, rU, rEq, rNe, rAbs, rIntT, CDiv, add_ii, add_ss, mul_ii, mul_si, ix_si, eq_ii, eq_ss, eq_bb, ne_ii, ne_ss, ne_ni, ne_in, in_s1, notin_s1, is_xn, is_bb, isnot_xn, isnot_bb, sl_s, len_s, find_ss, index_ss, List.append_nil, List.cons_append, List.nil_append, List.getElem?_cons_succ, List.getElem?_cons_zero, List.set_cons_succ, List.set_cons_zero, Option.some.injEq, V.int.injEq, V.bl.injEq, V.str.injEq, V.ref.injEq, V.ty.injEq, List.cons.injEq, and_true, true_and, exists_eq_left, exists_eq_left', exists_and_left, exists_eq', exists_const, exists_and_right, exists_eq_right, exists_eq_right', reduceCtorEq, false_and, and_false, exists_false, or_false, false_or, decide_eq_true_eq, Bool.not_eq_true', decide_eq_false_iff_not, Bool.false_eq_true, if_false, if_true, mk_app, mk_len, sg_mk, mk_one, decide_true, decide_false, Bool.not_true, Bool.not_false, ite_true, ite_false, not_true_eq_false, not_false_eq_true, cxK, cutTo1, cutFrom1, mk_iff, tyV_str, stComp, List.map_cons, List.map_nil, Option.join_some, Option.join_none, gt_iff_lt, ge_iff_le, tRaise, tTryR, tCallH, tDisp, tPairs, tFld, sFld, tMake, tMeth, tAug, ipI, tDead, tBM0, if_false_right, and_self]
    by_cases hpc : pl + 2 ≤ cod
    · rw [decide_eq_true hpc]
      refine ht _ ?_
      clear ht hf
      simp only [tSeq, tIfS, tRet, tRetN, tC, tVar, tOp, tUn, tTest, tB, tAnd, tOr, tNot, tAndV, tOrV, tNotV, tIf, tChain, tCons, tNil, tCall, tCB, tLst, tTup, tSl, tNoPart, tPart, gName, tNext, tDrop, tAsg, tAsgC, tBM, tYes, tDNewK, rI, rI0, rU, rEq, rNe, rAbs, rIntT, CDiv, add_ii, add_ss, mul_ii, mul_si, ix_si, eq_ii, eq_ss, eq_bb, ne_ii, ne_ss, ne_ni, ne_in, in_s1, notin_s1, is_xn, is_bb, isnot_xn, isnot_bb, sl_s, len_s, find_ss, index_ss, List.append_nil, List.cons_append, List.nil_append, List.getElem?_cons_succ, List.getElem?_cons_zero, List.set_cons_succ, List.set_cons_zero, Option.some.injEq, V.int.injEq, V.bl.injEq, V.str.injEq, V.ref.injEq, V.ty.injEq, List.cons.injEq, and_true, true_and, exists_eq_left, exists_eq_left', exists_and_left, exists_eq', exists_const, exists_and_right, exists_eq_right, exists_eq_right', reduceCtorEq, false_and, and_false, exists_false, or_false, false_or, decide_eq_true_eq, Bool.not_eq_true', decide_eq_false_iff_not, Bool.false_eq_true, if_false, if_true, mk_app, mk_len, sg_mk, mk_one, decide_true, decide_false, Bool.not_true, Bool.not_false, ite_true, ite_false, not_true_eq_false, not_false_eq_true, cxK, cutTo1, cutFrom1, mk_iff, tyV_str, stComp, List.map_cons, List.map_nil, Option.join_some, Option.join_none, gt_iff_lt, ge_iff_le, tRaise, tTryR, tCallH, tDisp, tPairs, tFld, sFld, tMake, tMeth, tAug, ipI, tDead, tBM0, if_false_right, and_self]
      have S8 := Same.set S7 n7H (o := .lst (fs.map V.int ++ [V.int pl]))
      refine ⟨tyV_lst (SqL.of e77), appL e77 (Nat.lt_of_lt_of_le (show _ < 100000 by rw [List.length_map]; exact (fs_len lfs p1).1) (sl1000 (Nat.le_refl _))) ⟨a, ns, 4, rfl, S8.seq hq, by decide, fun c1 => ⟨c1, pl, rfl, p0, pl_le p1, fun r' r0' r1' => ⟨_, rfl, by decide, ?_⟩⟩⟩⟩
      refine ⟨⟨(pl_nx p0 hpc hw.2.2.2 hw.2.1).1, (pl_nx p0 hpc hw.2.2.2 hw.2.1).2, S8, by rw [upd_ne n7l.symm]; exact el7, by rw [upd_ne n76.symm]; exact e67, fs ++ [pl], by rw [upd_same]; simp, hts7.updL e77, fun p hp => ?_, by rw [List.length_append]; exact fl_nx lfs, pw_snoc hpw hpl, fun p hp => ?_⟩, ?_⟩
      · rcases List.mem_append.mp hp with hp | hp
        · exact hfs p hp
        · rw [List.mem_singleton.mp hp]
          exact ⟨p0, hpc⟩
      · have h9 : 0 ≤ r' % 9 := Int.emod_nonneg _ (by decide)
        rcases List.mem_append.mp hp with hp | hp
        · have := hpl p hp
          omega
        · rw [List.mem_singleton.mp hp]
          omega
      · exact mu_nx p1
    rw [decide_eq_false hpc]
    refine hf _ ?_
    clear ht hf
    simp only [tSeq, tIfS, tRet, tRetN, tC, tVar, tOp, tUn, tTest, tB, tAnd, tOr, tNot, tAndV, tOrV, tNotV, tIf, tChain, tCons, tNil, tCall, tCB, tLst, tTup, tSl, tNoPart, tPart, gName, tNext, tDrop, tAsg, tAsgC, tBM, tYes, tDNewK, rI, rI0, rU, rEq, rNe, rAbs, rIntT, CDiv, add_ii, add_ss, mul_ii, mul_si, ix_si, eq_ii, eq_ss, eq_bb, ne_ii, ne_ss, ne_ni, ne_in, in_s1, notin_s1, is_xn, is_bb, isnot_xn, isnot_bb, sl_s, len_s, find_ss, index_ss, List.append_nil, List.cons_append, List.nil_append, List.getElem?_cons_succ, List.getElem?_cons_zero, List.set_cons_succ, List.set_cons_zero, Option.some.injEq, V.int.injEq, V.bl.injEq, V.str.injEq, V.ref.injEq, V.ty.injEq, List.cons.injEq, and_true, true_and, exists_eq_left, exists_eq_left', exists_and_left, exists_eq', exists_const, exists_and_right, exists_eq_right, exists_eq_right', reduceCtorEq, false_and, and_false, exists_false, or_false, false_or, decide_eq_true_eq, Bool.not_eq_true', decide_eq_false_iff_not, Bool.false_eq_true, if_false, if_true, mk_app, mk_len, sg_mk, mk_one, decide_true, decide_false, Bool.not_true, Bool.not_false, ite_true, ite_false, not_true_eq_false, not_false_eq_true, cxK, cutTo1, cutFrom1, mk_iff, tyV_str, stComp, List.map_cons, List.map_nil, Option.join_some, Option.join_none, gt_iff_lt, ge_iff_le, tRaise, tTryR, tCallH, tDisp, tPairs, tFld, sFld, tMake, tMeth, tAug, ipI, tDead, tBM0, if_false_right, and_self]
    refine tfor_list (a := l7) (xs := fs.map V.int) (fun R h => ⟨_, rfl, h⟩) (SqL.of e77) (fun i σ H' => Same H H' ∧ H' a'' = some (.lst (refsT ts)) ∧ H' l7 = some (.lst (fs.map V.int)) ∧ SecOk a'' ts H' ∧ ∃ (bs : List Int) (v9 : Option V), H' l6 = some (.lst (bs.map V.int)) ∧ bs.length = who.toNat ∧ IsB bs ∧ σ = [some (V.ref a), some (V.ref a''), some (V.int c), v3, some (V.int cod), some (V.int who), some (V.ref l6), some (V.ref l7), some (V.int pl), v9, none]) ⟨S7, el7, e77, hts7, bs, none, e67, lb, bb, rfl⟩ (fun i σ H' h => SqL.of h.2.2.1) ?_ ?_
    · rintro i x σ H8 hx ⟨S8, el8, e78, hts8, bs8, v9, e68, lb8, bb8, rfl⟩
      rw [List.getElem?_map] at hx
      cases e : fs[i]? with
      | none => rw [e] at hx; cases hx
      | some p =>
        rw [e] at hx
        cases hx
        obtain ⟨pp0, pp1⟩ := hfs p (List.mem_of_getElem? e)
        simp only [tSeq, tIfS, tRet, tRetN, tC, tVar, tOp, tUn, tTest, tB, tAnd, tOr, tNot, tAndV, tOrV, tNotV, tIf, tChain, tCons, tNil, tCall, tCB, tLst, tTup, tSl, tNoPart, tPart, gName, tNext, tDrop, tAsg, tAsgC, tBM, tYes, tDNewK, rI, rI0, rU, rEq, rNe, rAbs, rIntT, CDiv, add_ii, add_ss, mul_ii, mul_si, ix_si, eq_ii, eq_ss, eq_bb, ne_ii, ne_ss, ne_ni, ne_in, in_s1, notin_s1, is_xn, is_bb, isnot_xn, isnot_bb, sl_s, len_s, find_ss, index_ss, List.append_nil, List.cons_append, List.nil_append, List.getElem?_cons_succ, List.getElem?_cons_zero, List.set_cons_succ, List.set_cons_zero, Option.some.injEq, V.int.injEq, V.bl.injEq, V.str.injEq, V.ref.injEq, V.ty.injEq, List.cons.injEq, and_true, true_and, exists_eq_left, exists_eq_left', exists_and_left, exists_eq', exists_const, exists_and_right, exists_eq_right, exists_eq_right', reduceCtorEq, false_and, and_false, exists_false, or_false, false_or, decide_eq_true_eq, Bool.not_eq_true', decide_eq_false_iff_not, Bool.false_eq_true, if_false, if_true, mk_app, mk_len, sg_mk, mk_one, decide_true, decide_false, Bool.not_true, Bool.not_false, ite_true, ite_false, not_true_eq_false, not_false_eq_true, cxK, cutTo1, cutFrom1, mk_iff, tyV_str, stComp, List.map_cons, List.map_nil, Option.join_some, Option.join_none, gt_iff_lt, ge_iff_le, tRaise, tTryR, tCallH, tDisp, tPairs, tFld, sFld, tMake, tMeth, tAug, ipI, tDead, tBM0, if_false_right, and_self]
        refine ⟨_, rfl, _, rfl, l6, _, p, p.toNat, rfl, rfl, e68, by rw [List.length_map]; exact ix_at pp0 (ix1 lb8 pp1 hw.2.2.2).1, ?_⟩
        have S9 := Same.set S8 n6H (o := .lst ((bs8.map V.int).set p.toNat (V.int 0)))
        have el9 : upd H8 l6 (.lst ((bs8.map V.int).set p.toNat (V.int 0))) a'' = some (.lst (refsT ts)) := by rw [upd_ne n6l.symm]; exact el8
        have e79 : upd H8 l6 (.lst ((bs8.map V.int).set p.toNat (V.int 0))) l7 = some (.lst (fs.map V.int)) := by rw [upd_ne n76]; exact e78
        have hts9 := hts8.updL e68 (ys := (bs8.map V.int).set p.toNat (V.int 0))
        have e69 : upd H8 l6 (.lst ((bs8.map V.int).set p.toNat (V.int 0))) l6 = some (.lst ((bs8.set p.toNat 0).map V.int)) := by rw [upd_same, List.map_set]
        have lb9 : (bs8.set p.toNat 0).length = who.toNat := by rw [List.length_set]; exact lb8
        have bb9 : IsB (bs8.set p.toNat 0) := IsB.put bb8 (by decide) (by decide)
        generalize bs8.set p.toNat 0 = bs9 at e69 lb9 bb9
        generalize upd H8 l6 (.lst ((bs8.map V.int).set p.toNat (V.int 0))) = H9 at S9 el9 e79 hts9 e69 ⊢
        simp only [tSeq, tIfS, tRet, tRetN, tC, tVar, tOp, tUn, tTest, tB, tAnd, tOr, tNot, tAndV, tOrV, tNotV, tIf, tChain, tCons, tNil, tCall, tCB, tLst, tTup, tSl, tNoPart, tPart, gName, tNext, tDrop, tAsg, tAsgC, tBM, tYes, tDNewK, rI, rI0, rU, rEq, rNe, rAbs, rIntT, CDiv, add_ii, add_ss, mul_ii, mul_si, ix_si, eq_ii, eq_ss, eq_bb, ne_ii, ne_ss, ne_ni, ne_in, in_s1, notin_s1, is_xn, is_bb, isnot_xn, isnot_bb, sl_s, len_s, find_ss, index_ss, List.append_nil, List.cons_append, List.nil_append, List.getElem?_cons_succ, List.getElem?_cons_zero, List.set_cons_succ, List.set_cons_zero, Option.some.injEq, V.int.injEq, V.bl.injEq, V.str.injEq, V.ref.injEq, V.ty.injEq, List.cons.injEq, and_true, true_and, exists_eq_left, exists_eq_left', exists_and_left, exists_eq', exists_const, exists_and_right, exists_eq_right, exists_eq_right', reduceCtorEq, false_and, and_false, exists_false, or_false, false_or, decide_eq_true_eq, Bool.not_eq_true', decide_eq_false_iff_not, Bool.false_eq_true, if_false, if_true, mk_app, mk_len, sg_mk, mk_one, decide_true, decide_false, Bool.not_true, Bool.not_false, ite_true, ite_false, not_true_eq_false, not_false_eq_true, cxK, cutTo1, cutFrom1, mk_iff, tyV_str, stComp, List.map_cons, List.map_nil, Option.join_some, Option.join_none, gt_iff_lt, ge_iff_le, tRaise, tTryR, tCallH, tDisp, tPairs, tFld, sFld, tMake, tMeth, tAug, ipI, tDead, tBM0, if_false_right, and_self]
        refine ⟨a, ns, 5, rfl, S9.seq hq, by decide, fun c1 => ⟨c1, p, rfl, pp0, p_le pp1 hw.2.2.2 hw.2.1, fun r' r0' r1' => ⟨_, rfl, Int.lt_of_lt_of_le (by decide) hw.1, by decide, ?_⟩⟩⟩
        refine ⟨_, rfl, _, rfl, add_ii.mpr ⟨l6, _, p + 1, (p + 1).toNat, rfl, rfl, e69, by rw [List.length_map]; exact ix_at (s0 pp0) (ix1 lb9 pp1 hw.2.2.2).2, ?_⟩⟩
        exact ⟨Same.set S9 n6H, by rw [upd_ne n6l.symm]; exact el9, by rw [upd_ne n76]; exact e79, hts9.updL e69, bs9.set (p + 1).toNat (r' % who % 256), by rw [upd_same, List.map_set], by rw [List.length_set]; exact lb9, IsB.put bb9 (Int.emod_nonneg _ (by decide)) (Int.emod_lt_of_pos _ (by decide)), _, rfl⟩
    rintro σ H8 ⟨S8, el8, e78, hts8, bs8, v9, e68, lb8, bb8, rfl⟩
    dsimp only
    refine tSeq_gen fun B hB => ?_
    simp only [tSeq, tIfS, tRet, tRetN, tC, tVar, tOp, tUn, tTest, tB, tAnd, tOr, tNot, tAndV, tOrV, tNotV, tIf, tChain, tCons, tNil, tCall, tCB, tLst, tTup, tSl, tNoPart, tPart, gName, tNext, tDrop, tAsg, tAsgC, tBM, tYes, tDNewK, rI, rI0, rU, rEq, rNe, rAbs, rIntT, CDiv, add_ii, add_ss, mul_ii, mul_si, ix_si, eq_ii, eq_ss, eq_bb, ne_ii, ne_ss, ne_ni, ne_in, in_s1, notin_s1, is_xn, is_bb, isnot_xn, isnot_bb, sl_s, len_s, find_ss, index_ss, List.append_nil, List.cons_append, List.nil_append, List.getElem?_cons_succ, List.getElem?_cons_zero, List.set_cons_succ, List.set_cons_zero, Option.some.injEq, V.int.injEq, V.bl.injEq, V.str.injEq, V.ref.injEq, V.ty.injEq, List.cons.injEq, and_true, true_and, exists_eq_left, exists_eq_left', exists_and_left, exists_eq', exists_const, exists_and_right, exists_eq_right, exists_eq_right', reduceCtorEq, false_and, and_false, exists_false, or_false, false_or, decide_eq_true_eq, Bool.not_eq_true', decide_eq_false_iff_not, Bool.false_eq_true, if_false, if_true, mk_app, mk_len, sg_mk, mk_one, decide_true, decide_false, Bool.not_true, Bool.not_false, ite_true, ite_false, not_true_eq_false, not_false_eq_true, cxK, cutTo1, cutFrom1, mk_iff, tyV_str, stComp, List.map_cons, List.map_nil, Option.join_some, Option.join_none, gt_iff_lt, ge_iff_le, tRaise, tTryR, tCallH, tDisp, tPairs, tFld, sFld, tMake, tMeth, tAug, ipI, tDead, tBM0, if_false_right, and_self]
    refine tcomp_rngP (1 + c % 4) (r4 c).1 (by omega) (fun R h => ?_) (fun i ys H' => Same H8 H' ∧ ys = ((List.range i).map fun j => sumK ((ksT ts).take j)).map V.int) rfl ⟨Same.refl H8, rfl⟩ ?_ ?_
    · simp only [tSeq, tIfS, tRet, tRetN, tC, tVar, tOp, tUn, tTest, tB, tAnd, tOr, tNot, tAndV, tOrV, tNotV, tIf, tChain, tCons, tNil, tCall, tCB, tLst, tTup, tSl, tNoPart, tPart, gName, tNext, tDrop, tAsg, tAsgC, tBM, tYes, tDNewK, rI, rI0, rU, rEq, rNe, rAbs, rIntT, CDiv, add_ii, add_ss, mul_ii, mul_si, ix_si, eq_ii, eq_ss, eq_bb, ne_ii, ne_ss, ne_ni, ne_in, in_s1, notin_s1, is_xn, is_bb, isnot_xn, isnot_bb, sl_s, len_s, find_ss, index_ss, List.append_nil, List.cons_append, List.nil_append, List.getElem?_cons_succ, List.getElem?_cons_zero, List.set_cons_succ, List.set_cons_zero, Option.some.injEq, V.int.injEq, V.bl.injEq, V.str.injEq, V.ref.injEq, V.ty.injEq, List.cons.injEq, and_true, true_and, exists_eq_left, exists_eq_left', exists_and_left, exists_eq', exists_const, exists_and_right, exists_eq_right, exists_eq_right', reduceCtorEq, false_and, and_false, exists_false, or_false, false_or, decide_eq_true_eq, Bool.not_eq_true', decide_eq_false_iff_not, Bool.false_eq_true, if_false, if_true, mk_app, mk_len, sg_mk, mk_one, decide_true, decide_false, Bool.not_true, Bool.not_false, ite_true, ite_false, not_true_eq_false, not_false_eq_true, cxK, cutTo1, cutFrom1, mk_iff, tyV_str, stComp, List.map_cons, List.map_nil, Option.join_some, Option.join_none, gt_iff_lt, ge_iff_le, tRaise, tTryR, tCallH, tDisp, tPairs, tFld, sFld, tMake, tMeth, tAug, ipI, tDead, tBM0, if_false_right, and_self]
      exact ⟨by decide, h⟩
    · rintro i ys H9 Cy Cn hi ⟨S9, rfl⟩ cy cn
      simp only [tSeq, tIfS, tRet, tRetN, tC, tVar, tOp, tUn, tTest, tB, tAnd, tOr, tNot, tAndV, tOrV, tNotV, tIf, tChain, tCons, tNil, tCall, tCB, tLst, tTup, tSl, tNoPart, tPart, gName, tNext, tDrop, tAsg, tAsgC, tBM, tYes, tDNewK, rI, rI0, rU, rEq, rNe, rAbs, rIntT, CDiv, add_ii, add_ss, mul_ii, mul_si, ix_si, eq_ii, eq_ss, eq_bb, ne_ii, ne_ss, ne_ni, ne_in, in_s1, notin_s1, is_xn, is_bb, isnot_xn, isnot_bb, sl_s, len_s, find_ss, index_ss, List.append_nil, List.cons_append, List.nil_append, List.getElem?_cons_succ, List.getElem?_cons_zero, List.set_cons_succ, List.set_cons_zero, Option.some.injEq, V.int.injEq, V.bl.injEq, V.str.injEq, V.ref.injEq, V.ty.injEq, List.cons.injEq, and_true, true_and, exists_eq_left, exists_eq_left', exists_and_left, exists_eq', exists_const, exists_and_right, exists_eq_right, exists_eq_right', reduceCtorEq, false_and, and_false, exists_false, or_false, false_or, decide_eq_true_eq, Bool.not_eq_true', decide_eq_false_iff_not, Bool.false_eq_true, if_false, if_true, mk_app, mk_len, sg_mk, mk_one, decide_true, decide_false, Bool.not_true, Bool.not_false, ite_true, ite_false, not_true_eq_false, not_false_eq_true, cxK, cutTo1, cutFrom1, mk_iff, tyV_str, stComp, List.map_cons, List.map_nil, Option.join_some, Option.join_none, gt_iff_lt, ge_iff_le, tRaise, tTryR, tCallH, tDisp, tPairs, tFld, sFld, tMake, tMeth, tAug, ipI, tDead, tBM0, if_false_right, and_self]
      have hti : SecOk a'' (ts.take i) H8 := fun e he => hts8 e (List.mem_of_mem_take he)
      have lti : (refsT (ts.take i)).length = (ts.take i).length := by simp [refsT]
      have lti6 : (ts.take i).length ≤ 6 := by rw [List.length_take]; omega
      refine tcomp_listM (xs := refsT (ts.take i)) (fun a' H0 => Same H8 H0 ∧ H0 a' = some (.lst (refsT (ts.take i)))) (fun R h => ⟨_, rfl, _, rfl, i, rfl, slL (SqL.of (S9 _ _ el8)) fun p np => h p _ ⟨Same.upd S9 np, ?_⟩⟩) (fun a' k ys H' => Same H8 H' ∧ H' a' = some (.lst (refsT (ts.take i))) ∧ ys = (szs ((ts.take i).take k)).map V.int) (fun a' H0 h => ⟨h.1, h.2, by simp [szs]⟩) (fun a' k ys H' h => SqL.of h.2.1) (sl1000 (by omega)) ?_ ?_
      · rw [upd_same, cutTo]
        simp [refsT, List.map_take]
      · rintro a' k x ys H' Cy Cn hx ⟨S10, ea', rfl⟩ cy cn
        obtain ⟨e, ee, rfl⟩ := refsT_get hx
        obtain ⟨_, e1, e2, _⟩ := hti e (List.mem_of_getElem? ee)
        refine tupT (S10 _ _ e1) ⟨KeepSt.two, ?_⟩
        simp only [tSeq, tIfS, tRet, tRetN, tC, tVar, tOp, tUn, tTest, tB, tAnd, tOr, tNot, tAndV, tOrV, tNotV, tIf, tChain, tCons, tNil, tCall, tCB, tLst, tTup, tSl, tNoPart, tPart, gName, tNext, tDrop, tAsg, tAsgC, tBM, tYes, tDNewK, rI, rI0, rU, rEq, rNe, rAbs, rIntT, CDiv, add_ii, add_ss, mul_ii, mul_si, ix_si, eq_ii, eq_ss, eq_bb, ne_ii, ne_ss, ne_ni, ne_in, in_s1, notin_s1, is_xn, is_bb, isnot_xn, isnot_bb, sl_s, len_s, find_ss, index_ss, List.append_nil, List.cons_append, List.nil_append, List.getElem?_cons_succ, List.getElem?_cons_zero, List.set_cons_succ, List.set_cons_zero, Option.some.injEq, V.int.injEq, V.bl.injEq, V.str.injEq, V.ref.injEq, V.ty.injEq, List.cons.injEq, and_true, true_and, exists_eq_left, exists_eq_left', exists_and_left, exists_eq', exists_const, exists_and_right, exists_eq_right, exists_eq_right', reduceCtorEq, false_and, and_false, exists_false, or_false, false_or, decide_eq_true_eq, Bool.not_eq_true', decide_eq_false_iff_not, Bool.false_eq_true, if_false, if_true, mk_app, mk_len, sg_mk, mk_one, decide_true, decide_false, Bool.not_true, Bool.not_false, ite_true, ite_false, not_true_eq_false, not_false_eq_true, cxK, cutTo1, cutFrom1, mk_iff, tyV_str, stComp, List.map_cons, List.map_nil, Option.join_some, Option.join_none, gt_iff_lt, ge_iff_le, tRaise, tTryR, tCallH, tDisp, tPairs, tFld, sFld, tMake, tMeth, tAug, ipI, tDead, tBM0, if_false_right, and_self]
        exact cy _ _ ⟨S10, ea', by rw [take_snocT ee, szs_snoc]; simp⟩
      · rintro a' ys H' l10 ⟨S10, ea', rfl⟩ n10
        rw [lti, List.take_length]
        exact ⟨l10, szs (ts.take i), rfl, SqL.of upd_same, (szs_b hti).1, by simp [szs]; omega, cy _ _ ⟨Same.upd S10 n10, by rw [szs_k, ksT_take, List.range_succ]; simp⟩⟩
    rintro ys H9 l9 ⟨S9, rfl⟩ n9
    obtain ⟨ms, hms⟩ : ∃ ms, ms = (List.range (1 + c % 4).toNat).map fun j => sumK ((ksT ts).take j) := ⟨_, rfl⟩
    rw [← hms]
    have lm : ms.length = (1 + c % 4).toNat := by rw [hms]; simp
    have e9 : upd H9 l9 (.lst (ms.map V.int)) l9 = some (.lst (ms.map V.int)) := upd_same
    have S10 := Same.upd S9 n9 (o := .lst (ms.map V.int))
    generalize upd H9 l9 (.lst (ms.map V.int)) = H10 at S10 e9 ⊢
    subst hB
    simp only [tSeq, tIfS, tRet, tRetN, tC, tVar, tOp, tUn, tTest, tB, tAnd, tOr, tNot, tAndV, tOrV, tNotV, tIf, tChain, tCons, tNil, tCall, tCB, tLst, tTup, tSl, tNoPart, tPart, gName, tNext, tDrop, tAsg, tAsgC, tBM, tYes, tDNewK, rI, rI0, rU, rEq, rNe, rAbs, rIntT, CDiv, add_ii, add_ss, mul_ii, mul_si, ix_si, eq_ii, eq_ss, eq_bb, ne_ii, ne_ss, ne_ni, ne_in, in_s1, notin_s1, is_xn, is_bb, isnot_xn, isnot_bb, sl_s, len_s, find_ss, index_ss, List.append_nil, List.cons_append, List.nil_append, List.getElem?_cons_succ, List.getElem?_cons_zero, List.set_cons_succ, List.set_cons_zero, Option.some.injEq, V.int.injEq, V.bl.injEq, V.str.injEq, V.ref.injEq, V.ty.injEq, List.cons.injEq, and_true, true_and, exists_eq_left, exists_eq_left', exists_and_left, exists_eq', exists_const, exists_and_right, exists_eq_right, exists_eq_right', reduceCtorEq, false_and, and_false, exists_false, or_false, false_or, decide_eq_true_eq, Bool.not_eq_true', decide_eq_false_iff_not, Bool.false_eq_true, if_false, if_true, mk_app, mk_len, sg_mk, mk_one, decide_true, decide_false, Bool.not_true, Bool.not_false, ite_true, ite_false, not_true_eq_false, not_false_eq_true, cxK, cutTo1, cutFrom1, mk_iff, tyV_str, stComp, List.map_cons, List.map_nil, Option.join_some, Option.join_none, gt_iff_lt, ge_iff_le, tRaise, tTryR, tCallH, tDisp, tPairs, tFld, sFld, tMake, tMeth, tAug, ipI, tDead, tBM0, if_false_right, and_self]
    refine ⟨c, 8, rfl, by decide, by decide, fun r' r0' r1' => lenL (SqL.of e9) ⟨_, rfl, _, rfl, by rw [List.length_map]; exact ms0 lm, ?_⟩⟩
    rw [List.length_map]
    have lm0 := ms0 lm
    have m1 := Int.emod_nonneg r' (Int.ne_of_gt lm0)
    have m2 := Int.emod_lt_of_pos r' lm0
    refine ixL (SqL.of e9) (getI m1 m2) ⟨sl1000 (by simp), fun t nt => ?_⟩
    have S11 := (S8.trans S10)
    have S12 := Same.upd S10 nt (o := .tup [V.int (ms.getD (r' % (ms.length : Int)).toNat 0), V.ref a'', V.ref l6, V.ref l7])
    have hj : (r' % (ms.length : Int)).toNat < (1 + c % 4).toNat := by omega
    have em : ms.getD (r' % (ms.length : Int)).toNat 0 = sumK ((ksT ts).take (r' % (ms.length : Int)).toNat) := by
      generalize (r' % (ms.length : Int)).toNat = j at hj
      rw [hms]
      simp [List.getD, hj]
    refine q t _ (ksT ts) bs8 fs _ _ _ (S8.trans S12) ⟨a'', l6, l7, ts, upd_same, S12 _ _ el8, fun e he => S12 _ _ (hts8 e he).2.1, rfl, S12 _ _ e68, S12 _ _ e78⟩ ⟨lt, n4, hsz, by rw [lb8, ← hwho0]; omega, bb8, hpw, fun p hp => ⟨(hfs p hp).1, by rw [← hcod0]; exact (hfs p hp).2⟩, by omega, _, hj, em⟩
noncomputable def sp__law_two_of : Sp := fun vs H Q E => ∃ n, vs = [.int n] ∧ ∀ l, H l = none → Q (.ref l) (upd H l (.lst ((two n).map V.int)))
theorem sc__law_two_of : FnScope ["_law_number"] ["_law_number"] (defScope s__law_two_of) := ⟨rfl, rfl, rfl, by decide +kernel, rfl, by decide +kernel, by decide +kernel⟩
theorem ok__law_two_of (T : Txt K mg) : FnOk P w K mg base CX0 1 T.d__law_two_of.f T.d__law_two_of.fd ["_law_number"] (sp__law_two_of) := by
  have nd := sc__law_two_of.nd
  refine T.d__law_two_of.F.ok sc__law_two_of (fun vs H Q E h => ?_) (fun cdv A outer s H vs Q E hr h => ?_)
  · obtain ⟨n, rfl, q⟩ := h
    rfl
  · obtain ⟨n, rfl, q⟩ := h
    have hu := hr.units0
    refine ⟨_, (pss_one (ps_ret (pe_lst (pa1 (pe_op op_fdiv (pv 0) pe_int) (pa1 (pe_op op_mod (pv 0) pe_int) pa_nil))))), ?_⟩
    rw [show start ["_law_number"] [V.int n] = [some (V.int n)] from rfl]
    simp only [tSeq, tIfS, tRet, tRetN, tC, tVar, tOp, tUn, tTest, tB, tAnd, tOr, tNot, tAndV, tOrV, tNotV, tIf, tChain, tCons, tNil, tCall, tCB, tLst, tTup, tSl, tNoPart, tPart, gName, tNext, tDrop, tAsg, tAsgC, tBM, tYes, tDNewK, rI, rI0, rU, rEq, rNe, rAbs, rIntT, CDiv, add_ii, add_ss, mul_ii, mul_si, ix_si, eq_ii, eq_ss, eq_bb, ne_ii, ne_ss, ne_ni, ne_in, in_s1, notin_s1, is_xn, is_bb, isnot_xn, isnot_bb, sl_s, len_s, find_ss, index_ss, List.append_nil, List.cons_append, List.nil_append, List.getElem?_cons_succ, List.getElem?_cons_zero, List.set_cons_succ, List.set_cons_zero, Option.some.injEq, V.int.injEq, V.bl.injEq, V.str.injEq, V.ref.injEq, V.ty.injEq, List.cons.injEq, and_true, true_and, exists_eq_left, exists_eq_left', exists_and_left, exists_eq', exists_const, exists_and_right, exists_eq_right, exists_eq_right', reduceCtorEq, false_and, and_false, exists_false, or_false, false_or, decide_eq_true_eq, Bool.not_eq_true', decide_eq_false_iff_not, Bool.false_eq_true, if_false, if_true, mk_app, mk_len, sg_mk, mk_one, decide_true, decide_false, Bool.not_true, Bool.not_false, ite_true, ite_false, not_true_eq_false, not_false_eq_true, cxK, cutTo1, cutFrom1, mk_iff, tyV_str, stComp, List.map_cons, List.map_nil, Option.join_some, Option.join_none, gt_iff_lt, ge_iff_le, tRaise, tTryR, tCallH, tDisp, tPairs, tFld, sFld, tMake, tMeth, tAug, ipI, tDead, tBM0, if_false_right, and_self]
    exact ⟨⟨by decide, by decide⟩, by decide, sl1000 (by simp), q⟩
noncomputable def sp__law_due (K : PySem.W.Frag) : Sp := fun vs H Q E => ∃ (t : Addr) (m : Int) (ks : List (Str × Int)) (bs fs : List Int) (n k : Nat), vs = [.ref t] ∧ TupAt t m ks bs fs H ∧ GI n k m ks bs fs ∧ ∀ l H', H l = none → Same H H' → H' l = some (.lst ((dueF m ks bs fs).map V.int)) → Q (.ref l) H'
theorem sc__law_due : FnScope ["_law_parts", "_law_main", "_law_sections", "_law_body", "_law_far", "_law_row", "_law_kind", "_law_size", "_law_place"] ["_law_parts"] (defScope s__law_due) := ⟨rfl, rfl, rfl, by decide +kernel, rfl, by decide +kernel, by decide +kernel⟩
theorem ok__law_due (T : Txt K mg) : FnOk P w K mg base CX0 3 T.d__law_due.f T.d__law_due.fd ["_law_parts"] (sp__law_due K) := by
  have nd := sc__law_due.nd
  refine T.d__law_due.F.ok sc__law_due (fun vs H Q E h => ?_) (fun cdv A outer s H vs Q E hr h => ?_)
  · obtain ⟨t, m, ks, bs, fs, n, k, rfl, ⟨s, b, f, ts, ht, hs, hts, rfl, hb, hf⟩, gi, q⟩ := h
    rfl
  · obtain ⟨t, m, ks, bs, fs, n, k, rfl, ⟨s, b, f, ts, ht, hs, hts, rfl, hb, hf⟩, gi, q⟩ := h
    have hu := hr.units0
    refine ⟨_, (pss_cons (ps_asg (pv 0) (pg_tupK (K := K) (n := 4) rfl (pgs_cons (pg_name (i := 1) nd rfl (Or.inl rfl)) (pgs_cons (pg_name (i := 2) nd rfl (Or.inl rfl)) (pgs_cons (pg_name (i := 3) nd rfl (Or.inl rfl)) (pgs_cons (pg_name (i := 4) nd rfl (Or.inl rfl)) pgs_nil))))))
      (pss_cons (ps_set (i := 5) nd rfl (Or.inl rfl) (pe_op o_add (pe_op o_add (pe_lst (pa1 pe_int (pa1 pe_int pa_nil))) (pc1 T.d__law_two_of (ok__law_two_of T) (hr.mono (by decide)) (pa1 (pv 1) pa_nil))) (pc1 T.d__law_two_of (ok__law_two_of T) (hr.mono (by decide)) (pa1 (pcB (o_len (K := K)) rfl T.n_len (by kernel_rfl) (pa1 (pv 2) pa_nil)) pa_nil))))
      (pss_cons (ps_for PassesOwn.never rfl (pi_listK (K := K) (pv 2)) (pg_tupK (K := K) (n := 2) rfl (pgs_cons (pg_name (i := 6) nd rfl (Or.inl rfl)) (pgs_cons (pg_name (i := 7) nd rfl (Or.inl rfl)) pgs_nil)))
        (pss_one (ps_set (i := 5) nd rfl (Or.inl rfl) (pe_op o_add (pe_op o_add (pv 5) (pe_lst (pa1 (pcT call_int rfl T.n_int (by kernel_rfl) (pa1 (pe_cmpR (o_eq (K := K) hu) (pv 6) pe_str (nomark _)) pa_nil)) pa_nil))) (pc1 T.d__law_two_of (ok__law_two_of T) (hr.mono (by decide)) (pa1 (pv 7) pa_nil))))))
      (pss_cons (ps_set (i := 5) nd rfl (Or.inl rfl) (pe_op o_add (pe_op o_add (pv 5) (pv 3)) (pc1 T.d__law_two_of (ok__law_two_of T) (hr.mono (by decide)) (pa1 (pcB (o_len (K := K)) rfl T.n_len (by kernel_rfl) (pa1 (pv 4) pa_nil)) pa_nil))))
      (pss_cons (ps_for PassesOwn.never rfl (pi_listK (K := K) (pv 4)) (pg_name (i := 8) nd rfl (Or.inl rfl))
        (pss_one (ps_set (i := 5) nd rfl (Or.inl rfl) (pe_op o_add (pv 5) (pc1 T.d__law_two_of (ok__law_two_of T) (hr.mono (by decide)) (pa1 (pv 8) pa_nil))))))
      (pss_one (ps_ret (pc1 T.d__law_sealed (ok__law_sealed T) (hr.mono (by decide)) (pa1 (pv 5) pa_nil))))))))), ?_⟩
    rw [show start ["_law_parts", "_law_main", "_law_sections", "_law_body", "_law_far", "_law_row", "_law_kind", "_law_size", "_law_place"] [V.ref t] = [some (V.ref t), none, none, none, none, none, none, none, none] from rfl]
    have l6 := gi.len6
    have lbs := gi.bl
    have lfs := gi.fl
    have lr : (refsT ts).length = (ksT ts).length := by simp [refsT, ksT]
    have S := Same.refl H
    refine tSeq_gen fun B hB => ?_
    simp only [tSeq, tIfS, tRet, tRetN, tC, tVar, tOp, tUn, tTest, tB, tAnd, tOr, tNot, tAndV, tOrV, tNotV, tIf, tChain, tCons, tNil, tCall, tCB, tLst, tTup, tSl, tNoPart, tPart, gName, tNext, tDrop, tAsg, tAsgC, tBM, tYes, tDNewK, rI, rI0, rU, rEq, rNe, rAbs, rIntT, CDiv, add_ii, add_ss, mul_ii, mul_si, ix_si, eq_ii, eq_ss, eq_bb, ne_ii, ne_ss, ne_ni, ne_in, in_s1, notin_s1, is_xn, is_bb, isnot_xn, isnot_bb, sl_s, len_s, find_ss, index_ss, List.append_nil, List.cons_append, List.nil_append, List.getElem?_cons_succ, List.getElem?_cons_zero, List.set_cons_succ, List.set_cons_zero, Option.some.injEq, V.int.injEq, V.bl.injEq, V.str.injEq, V.ref.injEq, V.ty.injEq, List.cons.injEq, and_true, true_and, exists_eq_left, exists_eq_left', exists_and_left, exists_eq', exists_const, exists_and_right, exists_eq_right, exists_eq_right', reduceCtorEq, false_and, and_false, exists_false, or_false, false_or, decide_eq_true_eq, Bool.not_eq_true', decide_eq_false_iff_not, Bool.false_eq_true, if_false, if_true, mk_app, mk_len, sg_mk, mk_one, decide_true, decide_false, Bool.not_true, Bool.not_false, ite_true, ite_false, not_true_eq_false, not_false_eq_true, cxK, cutTo1, cutFrom1, mk_iff, tyV_str, stComp, List.map_cons, List.map_nil, Option.join_some, Option.join_none, gt_iff_lt, ge_iff_le, tRaise, tTryR, tCallH, tDisp, tPairs, tFld, sFld, tMake, tMeth, tAug, ipI, tDead, tBM0, if_false_right, and_self]
    refine tup4 ht ?_
    subst hB
    refine tSeq_gen fun B hB => ?_
    simp only [tSeq, tIfS, tRet, tRetN, tC, tVar, tOp, tUn, tTest, tB, tAnd, tOr, tNot, tAndV, tOrV, tNotV, tIf, tChain, tCons, tNil, tCall, tCB, tLst, tTup, tSl, tNoPart, tPart, gName, tNext, tDrop, tAsg, tAsgC, tBM, tYes, tDNewK, rI, rI0, rU, rEq, rNe, rAbs, rIntT, CDiv, add_ii, add_ss, mul_ii, mul_si, ix_si, eq_ii, eq_ss, eq_bb, ne_ii, ne_ss, ne_ni, ne_in, in_s1, notin_s1, is_xn, is_bb, isnot_xn, isnot_bb, sl_s, len_s, find_ss, index_ss, List.append_nil, List.cons_append, List.nil_append, List.getElem?_cons_succ, List.getElem?_cons_zero, List.set_cons_succ, List.set_cons_zero, Option.some.injEq, V.int.injEq, V.bl.injEq, V.str.injEq, V.ref.injEq, V.ty.injEq, List.cons.injEq, and_true, true_and, exists_eq_left, exists_eq_left', exists_and_left, exists_eq', exists_const, exists_and_right, exists_eq_right, exists_eq_right', reduceCtorEq, false_and, and_false, exists_false, or_false, false_or, decide_eq_true_eq, Bool.not_eq_true', decide_eq_false_iff_not, Bool.false_eq_true, if_false, if_true, mk_app, mk_len, sg_mk, mk_one, decide_true, decide_false, Bool.not_true, Bool.not_false, ite_true, ite_false, not_true_eq_false, not_false_eq_true, cxK, cutTo1, cutFrom1, mk_iff, tyV_str, stComp, List.map_cons, List.map_nil, Option.join_some, Option.join_none, gt_iff_lt, ge_iff_le, tRaise, tTryR, tCallH, tDisp, tPairs, tFld, sFld, tMake, tMeth, tAug, ipI, tDead, tBM0, if_false_right, and_self]
    refine ⟨sl1000 (by simp), fun l1 n1 => ?_⟩
    have t0 := Same.upd (Same.refl H) n1 (o := .lst [V.int 105, V.int 1])
    have e1 : upd H l1 (.lst [V.int 105, V.int 1]) l1 = some (.lst [V.int 105, V.int 1]) := upd_same
    generalize upd H l1 (.lst [V.int 105, V.int 1]) = H1 at t0 e1 ⊢
    have S := S.trans t0
    clear t0
    refine ⟨_, rfl, fun l2 n2 => ?_⟩
    have t0 := Same.upd (Same.refl H1) n2 (o := .lst ((two m).map V.int))
    have e2 : upd H1 l2 (.lst ((two m).map V.int)) l2 = some (.lst ((two m).map V.int)) := upd_same
    generalize upd H1 l2 (.lst ((two m).map V.int)) = H2 at t0 e2 ⊢
    have e1 := t0 _ _ e1
    have S := S.trans t0
    clear t0
    refine catL e1 e2 (sl1000 (by simp [two])) fun l3 n3 => ?_
    have t0 := Same.upd (Same.refl H2) n3 (o := .lst ([V.int 105, V.int 1] ++ (two m).map V.int))
    have e3 : upd H2 l3 (.lst ([V.int 105, V.int 1] ++ (two m).map V.int)) l3 = some (.lst ([V.int 105, V.int 1] ++ (two m).map V.int)) := upd_same
    generalize upd H2 l3 (.lst ([V.int 105, V.int 1] ++ (two m).map V.int)) = H3 at t0 e3 ⊢
    have S := S.trans t0
    clear t0
    refine lenL (SqL.of (S _ _ hs)) ⟨_, rfl, fun l4 n4 => ?_⟩
    rw [lr]
    have t0 := Same.upd (Same.refl H3) n4 (o := .lst ((two ((ksT ts).length : Int)).map V.int))
    have e4 : upd H3 l4 (.lst ((two ((ksT ts).length : Int)).map V.int)) l4 = some (.lst ((two ((ksT ts).length : Int)).map V.int)) := upd_same
    generalize upd H3 l4 (.lst ((two ((ksT ts).length : Int)).map V.int)) = H4 at t0 e4 ⊢
    have e3 := t0 _ _ e3
    have S := S.trans t0
    clear t0
    refine catL e3 e4 (sl1000 (by simp [two])) fun l5 n5 => ?_
    have t0 := Same.upd (Same.refl H4) n5 (o := .lst (([V.int 105, V.int 1] ++ (two m).map V.int) ++ (two ((ksT ts).length : Int)).map V.int))
    have e5 : upd H4 l5 (.lst (([V.int 105, V.int 1] ++ (two m).map V.int) ++ (two ((ksT ts).length : Int)).map V.int)) l5 = some (.lst (([V.int 105, V.int 1] ++ (two m).map V.int) ++ (two ((ksT ts).length : Int)).map V.int)) := upd_same
    generalize upd H4 l5 (.lst (([V.int 105, V.int 1] ++ (two m).map V.int) ++ (two ((ksT ts).length : Int)).map V.int)) = H5 at t0 e5 ⊢
    have S := S.trans t0
    clear t0
    have e5 : H5 l5 = some (.lst ((hdr m (ksT ts).length).map V.int)) := e5
    clear e1 e2 e3 e4 n1 n2 n3 n4 n5
    subst hB
    refine tSeq_gen fun B hB => ?_
    refine tfor_listG (a := s) (xs := refsT ts) (fun R r => ⟨_, rfl, r⟩) (SqL.of (S _ _ hs)) (fun i σ H' => Same H H' ∧ ∃ r v6 v7, H' r = some (.lst ((hdr m (ksT ts).length ++ secB ((ksT ts).take i)).map V.int)) ∧ σ = [some (V.ref t), some (V.int m), some (V.ref s), some (V.ref b), some (V.ref f), some (V.ref r), v6, v7, none]) ⟨S, l5, none, none, by simpa [secB] using e5, rfl⟩ (fun i σ H' h => SqL.of (h.1 _ _ hs)) ?_ ?_
    · clear e5 S hB
      rintro i x σ H6 hx ⟨S, r, v6, v7, el, rfl⟩
      obtain ⟨e, ee, rfl⟩ := refsT_get hx
      have hm := hts e (List.mem_of_getElem? ee)
      have ee2 : (ksT ts)[i]? = some e.2 := by simp [ksT, ee]
      have ek := gi.kd e.2 (List.mem_of_getElem? ee2)
      have li : (hdr m (ksT ts).length ++ secB ((ksT ts).take i)).length ≤ 100 := by
        rw [List.length_append, hdr_len, secB_len, List.length_take]
        omega
      refine tupT (S _ _ hm) ?_
      simp only [tSeq, tIfS, tRet, tRetN, tC, tVar, tOp, tUn, tTest, tB, tAnd, tOr, tNot, tAndV, tOrV, tNotV, tIf, tChain, tCons, tNil, tCall, tCB, tLst, tTup, tSl, tNoPart, tPart, gName, tNext, tDrop, tAsg, tAsgC, tBM, tYes, tDNewK, rI, rI0, rU, rEq, rNe, rAbs, rIntT, CDiv, add_ii, add_ss, mul_ii, mul_si, ix_si, eq_ii, eq_ss, eq_bb, ne_ii, ne_ss, ne_ni, ne_in, in_s1, notin_s1, is_xn, is_bb, isnot_xn, isnot_bb, sl_s, len_s, find_ss, index_ss, List.append_nil, List.cons_append, List.nil_append, List.getElem?_cons_succ, List.getElem?_cons_zero, List.set_cons_succ, List.set_cons_zero, Option.some.injEq, V.int.injEq, V.bl.injEq, V.str.injEq, V.ref.injEq, V.ty.injEq, List.cons.injEq, and_true, true_and, exists_eq_left, exists_eq_left', exists_and_left, exists_eq', exists_const, exists_and_right, exists_eq_right, exists_eq_right', reduceCtorEq, false_and, and_false, exists_false, or_false, false_or, decide_eq_true_eq, Bool.not_eq_true', decide_eq_false_iff_not, Bool.false_eq_true, if_false, if_true, mk_app, mk_len, sg_mk, mk_one, decide_true, decide_false, Bool.not_true, Bool.not_false, ite_true, ite_false, not_true_eq_false, not_false_eq_true, cxK, cutTo1, cutFrom1, mk_iff, tyV_str, stComp, List.map_cons, List.map_nil, Option.join_some, Option.join_none, gt_iff_lt, ge_iff_le, tRaise, tTryR, tCallH, tDisp, tPairs, tFld, sFld, tMake, tMeth, tAug, ipI, tDead, tBM0, if_false_right, and_self]
      refine ⟨sl1000 (by simp), fun l6 n6 => ?_⟩
      rw [kd_d ek]
      have t0 := Same.upd (Same.refl H6) n6 (o := .lst [V.int (kindN e.2.1)])
      refine catL (t0 _ _ el) upd_same (szx (xs := hdr m (ksT ts).length ++ secB ((ksT ts).take i)) (ys := [kindN e.2.1]) (by show _ + 1 ≤ 2000; omega)) fun l7 n7 => ?_
      have t1 := Same.upd t0 n7 (o := .lst ((hdr m (ksT ts).length ++ secB ((ksT ts).take i)).map V.int ++ [V.int (kindN e.2.1)]))
      have e7 : upd (upd H6 l6 (.lst [V.int (kindN e.2.1)])) l7 (.lst ((hdr m (ksT ts).length ++ secB ((ksT ts).take i)).map V.int ++ [V.int (kindN e.2.1)])) l7 = some (.lst ((hdr m (ksT ts).length ++ secB ((ksT ts).take i)).map V.int ++ [V.int (kindN e.2.1)])) := upd_same
      generalize upd (upd H6 l6 (.lst [V.int (kindN e.2.1)])) l7 (.lst ((hdr m (ksT ts).length ++ secB ((ksT ts).take i)).map V.int ++ [V.int (kindN e.2.1)])) = H7 at t1 e7 ⊢
      refine ⟨_, rfl, fun l8 n8 => ?_⟩
      have t2 := Same.upd (Same.refl H7) n8 (o := .lst ((two e.2.2).map V.int))
      rw [List.length_append] at li
      refine catL (t2 _ _ e7) upd_same (sl1000 (by simp [two]; omega)) fun l9 n9 => ?_
      refine ⟨Same.upd ((S.trans t1).trans t2) n9, l9, ?_, rfl⟩
      rw [upd_same, take_snocT ee2, secB_snoc]
      simp
    clear S
    rintro σ H6 ⟨S, r, v6, v7, el, rfl⟩
    rw [lr, List.take_length] at el
    subst hB
    dsimp only
    refine tSeq_gen fun B hB => ?_
    simp only [tSeq, tIfS, tRet, tRetN, tC, tVar, tOp, tUn, tTest, tB, tAnd, tOr, tNot, tAndV, tOrV, tNotV, tIf, tChain, tCons, tNil, tCall, tCB, tLst, tTup, tSl, tNoPart, tPart, gName, tNext, tDrop, tAsg, tAsgC, tBM, tYes, tDNewK, rI, rI0, rU, rEq, rNe, rAbs, rIntT, CDiv, add_ii, add_ss, mul_ii, mul_si, ix_si, eq_ii, eq_ss, eq_bb, ne_ii, ne_ss, ne_ni, ne_in, in_s1, notin_s1, is_xn, is_bb, isnot_xn, isnot_bb, sl_s, len_s, find_ss, index_ss, List.append_nil, List.cons_append, List.nil_append, List.getElem?_cons_succ, List.getElem?_cons_zero, List.set_cons_succ, List.set_cons_zero, Option.some.injEq, V.int.injEq, V.bl.injEq, V.str.injEq, V.ref.injEq, V.ty.injEq, List.cons.injEq, and_true, true_and, exists_eq_left, exists_eq_left', exists_and_left, exists_eq', exists_const, exists_and_right, exists_eq_right, exists_eq_right', reduceCtorEq, false_and, and_false, exists_false, or_false, false_or, decide_eq_true_eq, Bool.not_eq_true', decide_eq_false_iff_not, Bool.false_eq_true, if_false, if_true, mk_app, mk_len, sg_mk, mk_one, decide_true, decide_false, Bool.not_true, Bool.not_false, ite_true, ite_false, not_true_eq_false, not_false_eq_true, cxK, cutTo1, cutFrom1, mk_iff, tyV_str, stComp, List.map_cons, List.map_nil, Option.join_some, Option.join_none, gt_iff_lt, ge_iff_le, tRaise, tTryR, tCallH, tDisp, tPairs, tFld, sFld, tMake, tMeth, tAug, ipI, tDead, tBM0, if_false_right, and_self]
    have lh : (hdr m (ksT ts).length ++ secB (ksT ts)).length ≤ 100 := by
      rw [List.length_append, hdr_len, secB_len]
      omega
    refine catL el (S _ _ hb) (szx (by omega)) fun l6 n6 => ?_
    rw [← List.map_append]
    have t0 := Same.upd (Same.refl H6) n6 (o := .lst (((hdr m (ksT ts).length ++ secB (ksT ts)) ++ bs).map V.int))
    have e7 : upd H6 l6 (.lst (((hdr m (ksT ts).length ++ secB (ksT ts)) ++ bs).map V.int)) l6 = some (.lst (((hdr m (ksT ts).length ++ secB (ksT ts)) ++ bs).map V.int)) := upd_same
    generalize upd H6 l6 (.lst (((hdr m (ksT ts).length ++ secB (ksT ts)) ++ bs).map V.int)) = H7 at t0 e7 ⊢
    have S := S.trans t0
    clear t0
    have lh : ((hdr m (ksT ts).length ++ secB (ksT ts)) ++ bs).length ≤ 400 := by
      rw [List.length_append]
      omega
    refine lenL (SqL.of (S _ _ hf)) ⟨_, rfl, fun l7 n7 => ?_⟩
    rw [List.length_map]
    have t0 := Same.upd (Same.refl H7) n7 (o := .lst ((two (fs.length : Int)).map V.int))
    have e8 : upd H7 l7 (.lst ((two (fs.length : Int)).map V.int)) l7 = some (.lst ((two (fs.length : Int)).map V.int)) := upd_same
    generalize upd H7 l7 (.lst ((two (fs.length : Int)).map V.int)) = H8 at t0 e8 ⊢
    have e7 := t0 _ _ e7
    have S := S.trans t0
    clear t0
    refine catL e7 e8 (szx (by show _ + 2 ≤ 2000; omega)) fun l8 n8 => ?_
    rw [← List.map_append]
    have t0 := Same.upd (Same.refl H8) n8 (o := .lst ((((hdr m (ksT ts).length ++ secB (ksT ts)) ++ bs) ++ two (fs.length : Int)).map V.int))
    have e9 : upd H8 l8 (.lst ((((hdr m (ksT ts).length ++ secB (ksT ts)) ++ bs) ++ two (fs.length : Int)).map V.int)) l8 = some (.lst ((((hdr m (ksT ts).length ++ secB (ksT ts)) ++ bs) ++ two (fs.length : Int)).map V.int)) := upd_same
    generalize upd H8 l8 (.lst ((((hdr m (ksT ts).length ++ secB (ksT ts)) ++ bs) ++ two (fs.length : Int)).map V.int)) = H9 at t0 e9 ⊢
    have S := S.trans t0
    clear t0
    have lh : (((hdr m (ksT ts).length ++ secB (ksT ts)) ++ bs) ++ two (fs.length : Int)).length ≤ 402 := by
      rw [List.length_append]
      show _ + 2 ≤ 402
      omega
    have rq := row_eq m (ksT ts) bs fs
    generalize ((hdr m (ksT ts).length ++ secB (ksT ts)) ++ bs) ++ two (fs.length : Int) = rw0 at e9 lh rq ⊢
    clear e7 e8 n6 n7 n8 e5
    subst hB
    refine tSeq_gen fun B hB => ?_
    refine tfor_list (a := f) (xs := fs.map V.int) (fun R r => ⟨_, rfl, r⟩) (SqL.of (S _ _ hf)) (fun i σ H' => Same H H' ∧ ∃ r v8, H' r = some (.lst ((rw0 ++ farB (fs.take i)).map V.int)) ∧ σ = [some (V.ref t), some (V.int m), some (V.ref s), some (V.ref b), some (V.ref f), some (V.ref r), v6, v7, v8]) ⟨S, l8, none, by simpa [farB] using e9, rfl⟩ (fun i σ H' h => SqL.of (h.1 _ _ hf)) ?_ ?_
    · clear e9 S hB
      rintro i x σ H6 hx ⟨S, r, v8, el, rfl⟩
      rw [List.getElem?_map] at hx
      cases ee : fs[i]? with
      | none => rw [ee] at hx; cases hx
      | some pl =>
        rw [ee] at hx
        cases hx
        have li : (rw0 ++ farB (fs.take i)).length ≤ 1100 := by
          rw [List.length_append, farB_len, List.length_take]
          omega
        simp only [tSeq, tIfS, tRet, tRetN, tC, tVar, tOp, tUn, tTest, tB, tAnd, tOr, tNot, tAndV, tOrV, tNotV, tIf, tChain, tCons, tNil, tCall, tCB, tLst, tTup, tSl, tNoPart, tPart, gName, tNext, tDrop, tAsg, tAsgC, tBM, tYes, tDNewK, rI, rI0, rU, rEq, rNe, rAbs, rIntT, CDiv, add_ii, add_ss, mul_ii, mul_si, ix_si, eq_ii, eq_ss, eq_bb, ne_ii, ne_ss, ne_ni, ne_in, in_s1, notin_s1, is_xn, is_bb, isnot_xn, isnot_bb, sl_s, len_s, find_ss, index_ss, List.append_nil, List.cons_append, List.nil_append, List.getElem?_cons_succ, List.getElem?_cons_zero, List.set_cons_succ, List.set_cons_zero, Option.some.injEq, V.int.injEq, V.bl.injEq, V.str.injEq, V.ref.injEq, V.ty.injEq, List.cons.injEq, and_true, true_and, exists_eq_left, exists_eq_left', exists_and_left, exists_eq', exists_const, exists_and_right, exists_eq_right, exists_eq_right', reduceCtorEq, false_and, and_false, exists_false, or_false, false_or, decide_eq_true_eq, Bool.not_eq_true', decide_eq_false_iff_not, Bool.false_eq_true, if_false, if_true, mk_app, mk_len, sg_mk, mk_one, decide_true, decide_false, Bool.not_true, Bool.not_false, ite_true, ite_false, not_true_eq_false, not_false_eq_true, cxK, cutTo1, cutFrom1, mk_iff, tyV_str, stComp, List.map_cons, List.map_nil, Option.join_some, Option.join_none, gt_iff_lt, ge_iff_le, tRaise, tTryR, tCallH, tDisp, tPairs, tFld, sFld, tMake, tMeth, tAug, ipI, tDead, tBM0, if_false_right, and_self]
        refine ⟨_, rfl, fun l6 n6 => ?_⟩
        have t0 := Same.upd (Same.refl H6) n6 (o := .lst ((two pl).map V.int))
        refine catL (t0 _ _ el) upd_same (szx (xs := rw0 ++ farB (fs.take i)) (ys := two pl) (by show _ + 2 ≤ 2000; omega)) fun l7 n7 => ?_
        refine ⟨Same.upd (S.trans t0) n7, l7, ?_, rfl⟩
        rw [upd_same, take_snoc ee, farB_snoc]
        simp [two]
    rintro σ H10 ⟨S, r, v8, el, rfl⟩
    rw [List.length_map, List.take_length, ← rq] at el
    subst hB
    simp only [tSeq, tIfS, tRet, tRetN, tC, tVar, tOp, tUn, tTest, tB, tAnd, tOr, tNot, tAndV, tOrV, tNotV, tIf, tChain, tCons, tNil, tCall, tCB, tLst, tTup, tSl, tNoPart, tPart, gName, tNext, tDrop, tAsg, tAsgC, tBM, tYes, tDNewK, rI, rI0, rU, rEq, rNe, rAbs, rIntT, CDiv, add_ii, add_ss, mul_ii, mul_si, ix_si, eq_ii, eq_ss, eq_bb, ne_ii, ne_ss, ne_ni, ne_in, in_s1, notin_s1, is_xn, is_bb, isnot_xn, isnot_bb, sl_s, len_s, find_ss, index_ss, List.append_nil, List.cons_append, List.nil_append, List.getElem?_cons_succ, List.getElem?_cons_zero, List.set_cons_succ, List.set_cons_zero, Option.some.injEq, V.int.injEq, V.bl.injEq, V.str.injEq, V.ref.injEq, V.ty.injEq, List.cons.injEq, and_true, true_and, exists_eq_left, exists_eq_left', exists_and_left, exists_eq', exists_const, exists_and_right, exists_eq_right, exists_eq_right', reduceCtorEq, false_and, and_false, exists_false, or_false, false_or, decide_eq_true_eq, Bool.not_eq_true', decide_eq_false_iff_not, Bool.false_eq_true, if_false, if_true, mk_app, mk_len, sg_mk, mk_one, decide_true, decide_false, Bool.not_true, Bool.not_false, ite_true, ite_false, not_true_eq_false, not_false_eq_true, cxK, cutTo1, cutFrom1, mk_iff, tyV_str, stComp, List.map_cons, List.map_nil, Option.join_some, Option.join_none, gt_iff_lt, ge_iff_le, tRaise, tTryR, tCallH, tDisp, tPairs, tFld, sFld, tMake, tMeth, tAug, ipI, tDead, tBM0, if_false_right, and_self]
    exact ⟨r, _, rfl, el, gi.rb, gi.rl, fun l H' nl S' el' => q l H' (S.no nl) (S.trans S') el'⟩
noncomputable def sp__law_alike (T : Txt K mg) : Sp := fun vs H Q E => ∃ (p t : Addr) (m : Int) (ks : List (Str × Int)) (bs fs : List Int), vs = [.ref p, .ref t] ∧ ImgAt T.x_Image p m ks bs fs H ∧ TupAt t m ks bs fs H ∧ (∀ e ∈ ks, e.1 = codeS ∨ e.1 = dataS) ∧ ks.length ≤ 6 ∧ ∀ H', Same H H' → Q (.bl true) H'
theorem sc__law_alike : FnScope ["_law_image_here", "_law_parts", "_law_main", "_law_sections", "_law_body", "_law_far"] ["_law_image_here", "_law_parts"] (defScope s__law_alike) := ⟨rfl, rfl, rfl, by decide +kernel, rfl, by decide +kernel, by decide +kernel⟩
theorem ok__law_alike (T : Txt K mg) : FnOk P w K mg base CX0 1 T.d__law_alike.f T.d__law_alike.fd ["_law_image_here", "_law_parts"] (sp__law_alike T) := by
  have nd := sc__law_alike.nd
  refine T.d__law_alike.F.ok sc__law_alike (fun vs H Q E h => ?_) (fun cdv A outer s H vs Q E hr h => ?_)
  · obtain ⟨p, t, m, ks, bs, fs, rfl, ⟨dx, s, b, f, ts, hp, hs, hts, rfl, hb, hf⟩, ⟨s2, b2, f2, ts2, ht, hs2, hts2, ek, hb2, hf2⟩, hk, l6, q⟩ := h
    rfl
  · obtain ⟨p, t, m, ks, bs, fs, rfl, ⟨dx, s, b, f, ts, hp, hs, hts, rfl, hb, hf⟩, ⟨s2, b2, f2, ts2, ht, hs2, hts2, ek, hb2, hf2⟩, hk, l6, q⟩ := h
    have hu := hr.units0
    refine ⟨_, (pss_cons (ps_asg (pv 1) (pg_tupK (K := K) (n := 4) rfl (pgs_cons (pg_name (i := 2) nd rfl (Or.inl rfl)) (pgs_cons (pg_name (i := 3) nd rfl (Or.inl rfl)) (pgs_cons (pg_name (i := 4) nd rfl (Or.inl rfl)) (pgs_cons (pg_name (i := 5) nd rfl (Or.inl rfl)) pgs_nil))))))
      (pss_cons (ps_if (PW.pt (pw_or (pt_not (pt_val (pcB (o_isinstance (K := K)) rfl T.n_isinstance (by kernel_rfl) (pa1 (pe_fldK (K := K) (pv 0)) (pa1 (pe_bltn (v := .ty "list") rfl T.n_list (by kernel_rfl) rfl) pa_nil))))) (pw_or (pt_not (pt_val (pcB (o_isinstance (K := K)) rfl T.n_isinstance (by kernel_rfl) (pa1 (pe_fldK (K := K) (pv 0)) (pa1 (pe_bltn (v := .ty "list") rfl T.n_list (by kernel_rfl) rfl) pa_nil))))) (pw_or1 (pt_not (pt_val (pcB (o_isinstance (K := K)) rfl T.n_isinstance (by kernel_rfl) (pa1 (pe_fldK (K := K) (pv 0)) (pa1 (pe_bltn (v := .ty "list") rfl T.n_list (by kernel_rfl) rfl) pa_nil))))))))) (pss_one (ps_ret pe_bl)) pss_nil)
      (pss_cons (ps_if (PW.pt (pw_or (pt_not (pt_val (pcB (o_all (K := K)) rfl T.n_all (by kernel_rfl) (pa1 (pe_lcomp (N' := ["_law_one"]) (src := [none]) rfl (CompScope.of (by kernel_rfl)) (pi_listK (K := K) (pe_fldK (K := K) (pv 0))) (fun _ _ _ _ _ _ => (pg_name (i := 0) (show (["_law_one"] : List Str).Nodup by decide +kernel) rfl (Or.inl rfl))) (fun _ _ _ _ _ _ => pif_nil) (fun _ _ _ _ _ _ => (pcB (o_isinstance (K := K)) rfl T.n_isinstance (by kernel_rfl) (pa1 (pv 0) (pa1 (pe_bltn (v := .ty "tuple") rfl T.n_tuple (by kernel_rfl) rfl) pa_nil))))) pa_nil)))) (pw_or1 (pt_val (pcB (o_isinstance (K := K)) rfl T.n_isinstance (by kernel_rfl) (pa1 (pe_fldK (K := K) (pv 0)) (pa1 (pe_bltn (v := .ty "bool") rfl T.n_bool (by kernel_rfl) rfl) pa_nil))))))) (pss_one (ps_ret pe_bl)) pss_nil)
      (pss_one (ps_ret (pe_cmpR (o_eqD (K := K) hr.units) (pe_tup (pa1 (pe_fldK (K := K) (pv 0)) (pa1 (pe_fldK (K := K) (pv 0)) (pa1 (pe_fldK (K := K) (pv 0)) (pa1 (pe_fldK (K := K) (pv 0)) pa_nil))))) (pe_tup (pa1 (pv 2) (pa1 (pv 3) (pa1 (pv 4) (pa1 (pv 5) pa_nil))))) (nomark _))))))), ?_⟩
    rw [show start ["_law_image_here", "_law_parts", "_law_main", "_law_sections", "_law_body", "_law_far"] [V.ref p, V.ref t] = [some (V.ref p), some (V.ref t), none, none, none, none] from rfl]
    have NM : NoAttr K T.x_Image "main" := T.nf_Image_main
    have NX : NoAttr K T.x_Image "sections" := T.nf_Image_sections
    have NB : NoAttr K T.x_Image "body" := T.nf_Image_body
    have NF : NoAttr K T.x_Image "far" := T.nf_Image_far
    have cI := T.oc_Image
    
    have lr : (refsT ts).length ≤ 6 := by rw [ksT_len] at l6; simpa [refsT] using l6
    refine tSeq_gen fun B hB => ?_
    simp only [tSeq, tIfS, tRet, tRetN, tC, tVar, tOp, tUn, tTest, tB, tAnd, tOr, tNot, tAndV, tOrV, tNotV, tIf, tChain, tCons, tNil, tCall, tCB, tLst, tTup, tSl, tNoPart, tPart, gName, tNext, tDrop, tAsg, tAsgC, tBM, tYes, tDNewK, rI, rI0, rU, rEq, rNe, rAbs, rIntT, CDiv, add_ii, add_ss, mul_ii, mul_si, ix_si, eq_ii, eq_ss, eq_bb, ne_ii, ne_ss, ne_ni, ne_in, in_s1, notin_s1, is_xn, is_bb, isnot_xn, isnot_bb, sl_s, len_s, find_ss, index_ss, List.append_nil, List.cons_append, List.nil_append, List.getElem?_cons_succ, List.getElem?_cons_zero, List.set_cons_succ, List.set_cons_zero, Option.some.injEq, V.int.injEq, V.bl.injEq, V.str.injEq, V.ref.injEq, V.ty.injEq, List.cons.injEq, and_true, true_and, exists_eq_left, exists_eq_left', exists_and_left, exists_eq', exists_const, exists_and_right, exists_eq_right, exists_eq_right', reduceCtorEq, false_and, and_false, exists_false, or_false, false_or, decide_eq_true_eq, Bool.not_eq_true', decide_eq_false_iff_not, Bool.false_eq_true, if_false, if_true, mk_app, mk_len, sg_mk, mk_one, decide_true, decide_false, Bool.not_true, Bool.not_false, ite_true, ite_false, not_true_eq_false, not_false_eq_true, cxK, cutTo1, cutFrom1, mk_iff, tyV_str, stComp, List.map_cons, List.map_nil, Option.join_some, Option.join_none, gt_iff_lt, ge_iff_le, tRaise, tTryR, tCallH, tDisp, tPairs, tFld, sFld, tMake, tMeth, tAug, ipI, tDead, tBM0, if_false_right, and_self]
    refine tup4 ht ?_
    subst hB
    refine tSeq_gen fun B hB => ?_
    simp only [tSeq, tIfS, tRet, tRetN, tC, tVar, tOp, tUn, tTest, tB, tAnd, tOr, tNot, tAndV, tOrV, tNotV, tIf, tChain, tCons, tNil, tCall, tCB, tLst, tTup, tSl, tNoPart, tPart, gName, tNext, tDrop, tAsg, tAsgC, tBM, tYes, tDNewK, rI, rI0, rU, rEq, rNe, rAbs, rIntT, CDiv, add_ii, add_ss, mul_ii, mul_si, ix_si, eq_ii, eq_ss, eq_bb, ne_ii, ne_ss, ne_ni, ne_in, in_s1, notin_s1, is_xn, is_bb, isnot_xn, isnot_bb, sl_s, len_s, find_ss, index_ss, List.append_nil, List.cons_append, List.nil_append, List.getElem?_cons_succ, List.getElem?_cons_zero, List.set_cons_succ, List.set_cons_zero, Option.some.injEq, V.int.injEq, V.bl.injEq, V.str.injEq, V.ref.injEq, V.ty.injEq, List.cons.injEq, and_true, true_and, exists_eq_left, exists_eq_left', exists_and_left, exists_eq', exists_const, exists_and_right, exists_eq_right, exists_eq_right', reduceCtorEq, false_and, and_false, exists_false, or_false, false_or, decide_eq_true_eq, Bool.not_eq_true', decide_eq_false_iff_not, Bool.false_eq_true, if_false, if_true, mk_app, mk_len, sg_mk, mk_one, decide_true, decide_false, Bool.not_true, Bool.not_false, ite_true, ite_false, not_true_eq_false, not_false_eq_true, cxK, cutTo1, cutFrom1, mk_iff, tyV_str, stComp, List.map_cons, List.map_nil, Option.join_some, Option.join_none, gt_iff_lt, ge_iff_le, tRaise, tTryR, tCallH, tDisp, tPairs, tFld, sFld, tMake, tMeth, tAug, ipI, tDead, tBM0, if_false_right, and_self]
    refine ⟨_, dx, _, hp, cI, NX, _, fI_sections _ _ _ _, isi_l hs ?_⟩
    simp only [tSeq, tIfS, tRet, tRetN, tC, tVar, tOp, tUn, tTest, tB, tAnd, tOr, tNot, tAndV, tOrV, tNotV, tIf, tChain, tCons, tNil, tCall, tCB, tLst, tTup, tSl, tNoPart, tPart, gName, tNext, tDrop, tAsg, tAsgC, tBM, tYes, tDNewK, rI, rI0, rU, rEq, rNe, rAbs, rIntT, CDiv, add_ii, add_ss, mul_ii, mul_si, ix_si, eq_ii, eq_ss, eq_bb, ne_ii, ne_ss, ne_ni, ne_in, in_s1, notin_s1, is_xn, is_bb, isnot_xn, isnot_bb, sl_s, len_s, find_ss, index_ss, List.append_nil, List.cons_append, List.nil_append, List.getElem?_cons_succ, List.getElem?_cons_zero, List.set_cons_succ, List.set_cons_zero, Option.some.injEq, V.int.injEq, V.bl.injEq, V.str.injEq, V.ref.injEq, V.ty.injEq, List.cons.injEq, and_true, true_and, exists_eq_left, exists_eq_left', exists_and_left, exists_eq', exists_const, exists_and_right, exists_eq_right, exists_eq_right', reduceCtorEq, false_and, and_false, exists_false, or_false, false_or, decide_eq_true_eq, Bool.not_eq_true', decide_eq_false_iff_not, Bool.false_eq_true, if_false, if_true, mk_app, mk_len, sg_mk, mk_one, decide_true, decide_false, Bool.not_true, Bool.not_false, ite_true, ite_false, not_true_eq_false, not_false_eq_true, cxK, cutTo1, cutFrom1, mk_iff, tyV_str, stComp, List.map_cons, List.map_nil, Option.join_some, Option.join_none, gt_iff_lt, ge_iff_le, tRaise, tTryR, tCallH, tDisp, tPairs, tFld, sFld, tMake, tMeth, tAug, ipI, tDead, tBM0, if_false_right, and_self]
    refine ⟨_, dx, _, hp, cI, NB, _, fI_body _ _ _ _, isi_l hb ?_⟩
    simp only [tSeq, tIfS, tRet, tRetN, tC, tVar, tOp, tUn, tTest, tB, tAnd, tOr, tNot, tAndV, tOrV, tNotV, tIf, tChain, tCons, tNil, tCall, tCB, tLst, tTup, tSl, tNoPart, tPart, gName, tNext, tDrop, tAsg, tAsgC, tBM, tYes, tDNewK, rI, rI0, rU, rEq, rNe, rAbs, rIntT, CDiv, add_ii, add_ss, mul_ii, mul_si, ix_si, eq_ii, eq_ss, eq_bb, ne_ii, ne_ss, ne_ni, ne_in, in_s1, notin_s1, is_xn, is_bb, isnot_xn, isnot_bb, sl_s, len_s, find_ss, index_ss, List.append_nil, List.cons_append, List.nil_append, List.getElem?_cons_succ, List.getElem?_cons_zero, List.set_cons_succ, List.set_cons_zero, Option.some.injEq, V.int.injEq, V.bl.injEq, V.str.injEq, V.ref.injEq, V.ty.injEq, List.cons.injEq, and_true, true_and, exists_eq_left, exists_eq_left', exists_and_left, exists_eq', exists_const, exists_and_right, exists_eq_right, exists_eq_right', reduceCtorEq, false_and, and_false, exists_false, or_false, false_or, decide_eq_true_eq, Bool.not_eq_true', decide_eq_false_iff_not, Bool.false_eq_true, if_false, if_true, mk_app, mk_len, sg_mk, mk_one, decide_true, decide_false, Bool.not_true, Bool.not_false, ite_true, ite_false, not_true_eq_false, not_false_eq_true, cxK, cutTo1, cutFrom1, mk_iff, tyV_str, stComp, List.map_cons, List.map_nil, Option.join_some, Option.join_none, gt_iff_lt, ge_iff_le, tRaise, tTryR, tCallH, tDisp, tPairs, tFld, sFld, tMake, tMeth, tAug, ipI, tDead, tBM0, if_false_right, and_self]
    refine ⟨_, dx, _, hp, cI, NF, _, fI_far _ _ _ _, isi_l hf ?_⟩
    simp only [tSeq, tIfS, tRet, tRetN, tC, tVar, tOp, tUn, tTest, tB, tAnd, tOr, tNot, tAndV, tOrV, tNotV, tIf, tChain, tCons, tNil, tCall, tCB, tLst, tTup, tSl, tNoPart, tPart, gName, tNext, tDrop, tAsg, tAsgC, tBM, tYes, tDNewK, rI, rI0, rU, rEq, rNe, rAbs, rIntT, CDiv, add_ii, add_ss, mul_ii, mul_si, ix_si, eq_ii, eq_ss, eq_bb, ne_ii, ne_ss, ne_ni, ne_in, in_s1, notin_s1, is_xn, is_bb, isnot_xn, isnot_bb, sl_s, len_s, find_ss, index_ss, List.append_nil, List.cons_append, List.nil_append, List.getElem?_cons_succ, List.getElem?_cons_zero, List.set_cons_succ, List.set_cons_zero, Option.some.injEq, V.int.injEq, V.bl.injEq, V.str.injEq, V.ref.injEq, V.ty.injEq, List.cons.injEq, and_true, true_and, exists_eq_left, exists_eq_left', exists_and_left, exists_eq', exists_const, exists_and_right, exists_eq_right, exists_eq_right', reduceCtorEq, false_and, and_false, exists_false, or_false, false_or, decide_eq_true_eq, Bool.not_eq_true', decide_eq_false_iff_not, Bool.false_eq_true, if_false, if_true, mk_app, mk_len, sg_mk, mk_one, decide_true, decide_false, Bool.not_true, Bool.not_false, ite_true, ite_false, not_true_eq_false, not_false_eq_true, cxK, cutTo1, cutFrom1, mk_iff, tyV_str, stComp, List.map_cons, List.map_nil, Option.join_some, Option.join_none, gt_iff_lt, ge_iff_le, tRaise, tTryR, tCallH, tDisp, tPairs, tFld, sFld, tMake, tMeth, tAug, ipI, tDead, tBM0, if_false_right, and_self]
    subst hB
    refine tSeq_gen fun B hB => ?_
    simp only [tSeq, tIfS, tRet, tRetN, tC, tVar, tOp, tUn, tTest, tB, tAnd, tOr, tNot, tAndV, tOrV, tNotV, tIf, tChain, tCons, tNil, tCall, tCB, tLst, tTup, tSl, tNoPart, tPart, gName, tNext, tDrop, tAsg, tAsgC, tBM, tYes, tDNewK, rI, rI0, rU, rEq, rNe, rAbs, rIntT, CDiv, add_ii, add_ss, mul_ii, mul_si, ix_si, eq_ii, eq_ss, eq_bb, ne_ii, ne_ss, ne_ni, ne_in, in_s1, notin_s1, is_xn, is_bb, isnot_xn, isnot_bb, sl_s, len_s, find_ss, index_ss, List.append_nil, List.cons_append, List.nil_append, List.getElem?_cons_succ, List.getElem?_cons_zero, List.set_cons_succ, List.set_cons_zero, Option.some.injEq, V.int.injEq, V.bl.injEq, V.str.injEq, V.ref.injEq, V.ty.injEq, List.cons.injEq, and_true, true_and, exists_eq_left, exists_eq_left', exists_and_left, exists_eq', exists_const, exists_and_right, exists_eq_right, exists_eq_right', reduceCtorEq, false_and, and_false, exists_false, or_false, false_or, decide_eq_true_eq, Bool.not_eq_true', decide_eq_false_iff_not, Bool.false_eq_true, if_false, if_true, mk_app, mk_len, sg_mk, mk_one, decide_true, decide_false, Bool.not_true, Bool.not_false, ite_true, ite_false, not_true_eq_false, not_false_eq_true, cxK, cutTo1, cutFrom1, mk_iff, tyV_str, stComp, List.map_cons, List.map_nil, Option.join_some, Option.join_none, gt_iff_lt, ge_iff_le, tRaise, tTryR, tCallH, tDisp, tPairs, tFld, sFld, tMake, tMeth, tAug, ipI, tDead, tBM0, if_false_right, and_self]
    refine tcomp_list (a := s) (xs := refsT ts) H (fun R r => ⟨_, rfl, _, _, _, _, _, rfl, hp, cI, NX, fI_sections _ _ _ _, r⟩) (SqL.of hs) (fun v => [V.bl true]) (· = H) rfl rfl (fun H' e => by rw [e]; exact SqL.of hs) (sl1000 (by omega)) (fun i x H' Cy Cn hx e cy cn => ?_) (fun H' r e hr => ?_)
    · subst H'
      obtain ⟨e, ee, rfl⟩ := refsT_get hx
      simp only [tSeq, tIfS, tRet, tRetN, tC, tVar, tOp, tUn, tTest, tB, tAnd, tOr, tNot, tAndV, tOrV, tNotV, tIf, tChain, tCons, tNil, tCall, tCB, tLst, tTup, tSl, tNoPart, tPart, gName, tNext, tDrop, tAsg, tAsgC, tBM, tYes, tDNewK, rI, rI0, rU, rEq, rNe, rAbs, rIntT, CDiv, add_ii, add_ss, mul_ii, mul_si, ix_si, eq_ii, eq_ss, eq_bb, ne_ii, ne_ss, ne_ni, ne_in, in_s1, notin_s1, is_xn, is_bb, isnot_xn, isnot_bb, sl_s, len_s, find_ss, index_ss, List.append_nil, List.cons_append, List.nil_append, List.getElem?_cons_succ, List.getElem?_cons_zero, List.set_cons_succ, List.set_cons_zero, Option.some.injEq, V.int.injEq, V.bl.injEq, V.str.injEq, V.ref.injEq, V.ty.injEq, List.cons.injEq, and_true, true_and, exists_eq_left, exists_eq_left', exists_and_left, exists_eq', exists_const, exists_and_right, exists_eq_right, exists_eq_right', reduceCtorEq, false_and, and_false, exists_false, or_false, false_or, decide_eq_true_eq, Bool.not_eq_true', decide_eq_false_iff_not, Bool.false_eq_true, if_false, if_true, mk_app, mk_len, sg_mk, mk_one, decide_true, decide_false, Bool.not_true, Bool.not_false, ite_true, ite_false, not_true_eq_false, not_false_eq_true, cxK, cutTo1, cutFrom1, mk_iff, tyV_str, stComp, List.map_cons, List.map_nil, Option.join_some, Option.join_none, gt_iff_lt, ge_iff_le, tRaise, tTryR, tCallH, tDisp, tPairs, tFld, sFld, tMake, tMeth, tAug, ipI, tDead, tBM0, if_false_right, and_self]
      exact isi_t (.tup (hts e (List.mem_of_getElem? ee))) (cy _ _ rfl rfl)
    subst H'
    have ea : (refsT ts).flatMap (fun v => [V.bl true]) = ((refsT ts).map fun _ => true).map V.bl := by rw [fm_one, List.map_map]; rfl
    rw [ea]
    have S := Same.refl H
    have t0 := Same.upd (Same.refl H) hr (o := .lst (((refsT ts).map fun _ => true).map V.bl))
    have e1 : upd H r (.lst (((refsT ts).map fun _ => true).map V.bl)) r = some (.lst (((refsT ts).map fun _ => true).map V.bl)) := upd_same
    generalize upd H r (.lst (((refsT ts).map fun _ => true).map V.bl)) = H1 at t0 e1 ⊢
    have S := S.trans t0
    clear t0
    refine allL (bs := (refsT ts).map fun _ => true) (SqL.of e1) ?_
    rw [List.all_map, show (refsT ts).all (id ∘ fun _ => true) = true by simp]
    simp only [tSeq, tIfS, tRet, tRetN, tC, tVar, tOp, tUn, tTest, tB, tAnd, tOr, tNot, tAndV, tOrV, tNotV, tIf, tChain, tCons, tNil, tCall, tCB, tLst, tTup, tSl, tNoPart, tPart, gName, tNext, tDrop, tAsg, tAsgC, tBM, tYes, tDNewK, rI, rI0, rU, rEq, rNe, rAbs, rIntT, CDiv, add_ii, add_ss, mul_ii, mul_si, ix_si, eq_ii, eq_ss, eq_bb, ne_ii, ne_ss, ne_ni, ne_in, in_s1, notin_s1, is_xn, is_bb, isnot_xn, isnot_bb, sl_s, len_s, find_ss, index_ss, List.append_nil, List.cons_append, List.nil_append, List.getElem?_cons_succ, List.getElem?_cons_zero, List.set_cons_succ, List.set_cons_zero, Option.some.injEq, V.int.injEq, V.bl.injEq, V.str.injEq, V.ref.injEq, V.ty.injEq, List.cons.injEq, and_true, true_and, exists_eq_left, exists_eq_left', exists_and_left, exists_eq', exists_const, exists_and_right, exists_eq_right, exists_eq_right', reduceCtorEq, false_and, and_false, exists_false, or_false, false_or, decide_eq_true_eq, Bool.not_eq_true', decide_eq_false_iff_not, Bool.false_eq_true, if_false, if_true, mk_app, mk_len, sg_mk, mk_one, decide_true, decide_false, Bool.not_true, Bool.not_false, ite_true, ite_false, not_true_eq_false, not_false_eq_true, cxK, cutTo1, cutFrom1, mk_iff, tyV_str, stComp, List.map_cons, List.map_nil, Option.join_some, Option.join_none, gt_iff_lt, ge_iff_le, tRaise, tTryR, tCallH, tDisp, tPairs, tFld, sFld, tMake, tMeth, tAug, ipI, tDead, tBM0, if_false_right, and_self]
    refine ⟨_, dx, _, S _ _ hp, cI, NM, _, fI_main _ _ _ _, isi_f (.int m) ?_⟩
    simp only [tSeq, tIfS, tRet, tRetN, tC, tVar, tOp, tUn, tTest, tB, tAnd, tOr, tNot, tAndV, tOrV, tNotV, tIf, tChain, tCons, tNil, tCall, tCB, tLst, tTup, tSl, tNoPart, tPart, gName, tNext, tDrop, tAsg, tAsgC, tBM, tYes, tDNewK, rI, rI0, rU, rEq, rNe, rAbs, rIntT, CDiv, add_ii, add_ss, mul_ii, mul_si, ix_si, eq_ii, eq_ss, eq_bb, ne_ii, ne_ss, ne_ni, ne_in, in_s1, notin_s1, is_xn, is_bb, isnot_xn, isnot_bb, sl_s, len_s, find_ss, index_ss, List.append_nil, List.cons_append, List.nil_append, List.getElem?_cons_succ, List.getElem?_cons_zero, List.set_cons_succ, List.set_cons_zero, Option.some.injEq, V.int.injEq, V.bl.injEq, V.str.injEq, V.ref.injEq, V.ty.injEq, List.cons.injEq, and_true, true_and, exists_eq_left, exists_eq_left', exists_and_left, exists_eq', exists_const, exists_and_right, exists_eq_right, exists_eq_right', reduceCtorEq, false_and, and_false, exists_false, or_false, false_or, decide_eq_true_eq, Bool.not_eq_true', decide_eq_false_iff_not, Bool.false_eq_true, if_false, if_true, mk_app, mk_len, sg_mk, mk_one, decide_true, decide_false, Bool.not_true, Bool.not_false, ite_true, ite_false, not_true_eq_false, not_false_eq_true, cxK, cutTo1, cutFrom1, mk_iff, tyV_str, stComp, List.map_cons, List.map_nil, Option.join_some, Option.join_none, gt_iff_lt, ge_iff_le, tRaise, tTryR, tCallH, tDisp, tPairs, tFld, sFld, tMake, tMeth, tAug, ipI, tDead, tBM0, if_false_right, and_self]
    subst hB
    simp only [tSeq, tIfS, tRet, tRetN, tC, tVar, tOp, tUn, tTest, tB, tAnd, tOr, tNot, tAndV, tOrV, tNotV, tIf, tChain, tCons, tNil, tCall, tCB, tLst, tTup, tSl, tNoPart, tPart, gName, tNext, tDrop, tAsg, tAsgC, tBM, tYes, tDNewK, rI, rI0, rU, rEq, rNe, rAbs, rIntT, CDiv, add_ii, add_ss, mul_ii, mul_si, ix_si, eq_ii, eq_ss, eq_bb, ne_ii, ne_ss, ne_ni, ne_in, in_s1, notin_s1, is_xn, is_bb, isnot_xn, isnot_bb, sl_s, len_s, find_ss, index_ss, List.append_nil, List.cons_append, List.nil_append, List.getElem?_cons_succ, List.getElem?_cons_zero, List.set_cons_succ, List.set_cons_zero, Option.some.injEq, V.int.injEq, V.bl.injEq, V.str.injEq, V.ref.injEq, V.ty.injEq, List.cons.injEq, and_true, true_and, exists_eq_left, exists_eq_left', exists_and_left, exists_eq', exists_const, exists_and_right, exists_eq_right, exists_eq_right', reduceCtorEq, false_and, and_false, exists_false, or_false, false_or, decide_eq_true_eq, Bool.not_eq_true', decide_eq_false_iff_not, Bool.false_eq_true, if_false, if_true, mk_app, mk_len, sg_mk, mk_one, decide_true, decide_false, Bool.not_true, Bool.not_false, ite_true, ite_false, not_true_eq_false, not_false_eq_true, cxK, cutTo1, cutFrom1, mk_iff, tyV_str, stComp, List.map_cons, List.map_nil, Option.join_some, Option.join_none, gt_iff_lt, ge_iff_le, tRaise, tTryR, tCallH, tDisp, tPairs, tFld, sFld, tMake, tMeth, tAug, ipI, tDead, tBM0, if_false_right, and_self]
    refine ⟨_, dx, _, S _ _ hp, cI, NM, _, fI_main _ _ _ _, _, dx, _, S _ _ hp, cI, NX, _, fI_sections _ _ _ _, _, dx, _, S _ _ hp, cI, NB, _, fI_body _ _ _ _, _, dx, _, S _ _ hp, cI, NF, _, fI_far _ _ _ _, sl1000 (by simp), fun z nz => ?_⟩
    have t0 := Same.upd (Same.refl H1) nz (o := .tup [V.int m, V.ref s, V.ref b, V.ref f])
    have ez : upd H1 z (.tup [V.int m, V.ref s, V.ref b, V.ref f]) z = some (.tup [V.int m, V.ref s, V.ref b, V.ref f]) := upd_same
    generalize upd H1 z (.tup [V.int m, V.ref s, V.ref b, V.ref f]) = H2 at t0 ez ⊢
    have S := S.trans t0
    clear t0
    refine ⟨sl1000 (by simp), fun z2 nz2 => ?_⟩
    have t0 := Same.upd (Same.refl H2) nz2 (o := .tup [V.int m, V.ref s2, V.ref b2, V.ref f2])
    have ez2 : upd H2 z2 (.tup [V.int m, V.ref s2, V.ref b2, V.ref f2]) z2 = some (.tup [V.int m, V.ref s2, V.ref b2, V.ref f2]) := upd_same
    generalize upd H2 z2 (.tup [V.int m, V.ref s2, V.ref b2, V.ref f2]) = H3 at t0 ez2 ⊢
    have ez := t0 _ _ ez
    have S := S.trans t0
    clear t0
    obtain ⟨r1, y1, d1⟩ := rd_secK (K := K) (hts.same S) hk
    obtain ⟨r2, _, _⟩ := rd_secK (K := K) (hts2.same S) (by rw [ek]; exact hk)
    rw [ek] at r2
    exact eqD_same (.tuple [.int m, .list (secK (ksT ts)), .list (bs.map .int), .list (fs.map .int)]) (rd4 ez (S _ _ hs) r1 (S _ _ hb) (S _ _ hf)) (rd4 ez2 (S _ _ hs2) r2 (S _ _ hb2) (S _ _ hf2)) (lay4 y1) (dep4 d1) (q _ S)
noncomputable def sp_law (K : PySem.W.Frag) : Sp := fun vs H Q E => ∃ (a : Addr) (ns : List Int), vs = [.ref a] ∧ SqL K H a (ns.map V.int) ∧ ns.length ≤ 63 ∧ ∀ H', Q (.bl true) H'
theorem sc_law : FnScope ["_law_script", "_law_parts", "_law_handed", "_law_image_here", "_law_row", "_law_due_here", "_law_told", "_law_found", "_law_other"] ["_law_script"] (defScope s_law) := ⟨rfl, rfl, rfl, by decide +kernel, rfl, by decide +kernel, by decide +kernel⟩
theorem ok_law (T : Txt K mg) : FnOk P w K mg base CX0 6 T.d_law.f T.d_law.fd ["_law_script"] (sp_law K) := by
  have nd := sc_law.nd
  refine T.d_law.F.ok sc_law (fun vs H Q E h => ?_) (fun cdv A outer s H vs Q E hr h => ?_)
  · obtain ⟨a, ns, rfl, hq, hl, q⟩ := h
    rfl
  · obtain ⟨a, ns, rfl, hq, hl, q⟩ := h
    have hu := hr.units0
    refine ⟨_, (pss_cons (ps_set (i := 1) nd rfl (Or.inl rfl) (pc1 T.d__law_image (ok__law_image T) (hr.mono (by decide)) (pa1 (pv 0) pa_nil)))
      (pss_cons (ps_set (i := 2) nd rfl (Or.inl rfl) (pe_lst (pa1 (pcT (call_listK (K := K)) rfl T.n_list (by kernel_rfl) (pa1 (pe_ix (o_ix (K := K)) (pv 1) pe_int (fun _ _ => rfl)) pa_nil)) (pa1 (pcT (call_listK (K := K)) rfl T.n_list (by kernel_rfl) (pa1 (pe_ix (o_ix (K := K)) (pv 1) pe_int (fun _ _ => rfl)) pa_nil)) (pa1 (pcT (call_listK (K := K)) rfl T.n_list (by kernel_rfl) (pa1 (pe_ix (o_ix (K := K)) (pv 1) pe_int (fun _ _ => rfl)) pa_nil)) pa_nil)))))
      (pss_cons (ps_set (i := 3) nd rfl (Or.inl rfl) (pmk T.mk_Image T.kp_Image T.m_Image T.d_Image___init__ (ok_Image___init__ T) (hr.mono (by decide)) (pa1 (pe_ix (o_ix (K := K)) (pv 1) pe_int (fun _ _ => rfl)) (pa1 (pe_ix (o_ix (K := K)) (pv 2) pe_int (fun _ _ => rfl)) (pa1 (pe_ix (o_ix (K := K)) (pv 2) pe_int (fun _ _ => rfl)) (pa1 (pe_ix (o_ix (K := K)) (pv 2) pe_int (fun _ _ => rfl)) pa_nil))))))
      (pss_cons (ps_for PassesOwn.never rfl (pi_listK (K := K) (pv 2)) (pg_name (i := 4) nd rfl (Or.inl rfl))
        (pss_one (ps_expr (pm1 (K := K) PySem.F.plainAttrs_list PySem.F.slot_list_append PySem.F.type_list_append o_append (pv 4) (pa1 pe_int pa_nil)))))
      (pss_cons (ps_set (i := 5) nd rfl (Or.inl rfl) (pc1 T.d__law_due (ok__law_due T) (hr.mono (by decide)) (pa1 (pv 1) pa_nil)))
      (pss_cons (ps_set (i := 4) nd rfl (Or.inl rfl) (pc1 T.d_image_bytes (ok_image_bytes T) (hr.mono (by decide)) (pa1 (pv 3) pa_nil)))
      (pss_cons (ps_if (PW.pt (pw_or (pt_not (pt_val (pcB (o_isinstance (K := K)) rfl T.n_isinstance (by kernel_rfl) (pa1 (pv 4) (pa1 (pe_bltn (v := .ty "list") rfl T.n_list (by kernel_rfl) rfl) pa_nil))))) (pw_or (pt_cmpR (o_ne (K := K) hu) (pv 4) (pv 5) (nomark _)) (pw_or1 (pt_not (pt_val (pc1 T.d__law_alike (ok__law_alike T) (hr.mono (by decide)) (pa1 (pv 3) (pa1 (pv 1) pa_nil))))))))) (pss_one (ps_ret pe_bl)) pss_nil)
      (pss_cons (ps_expr (pm1 (K := K) PySem.F.plainAttrs_list PySem.F.slot_list_append PySem.F.type_list_append o_append (pv 4) (pa1 pe_int pa_nil)))
      (pss_cons (ps_set (i := 6) nd rfl (Or.inl rfl) (pcT (call_listK (K := K)) rfl T.n_list (by kernel_rfl) (pa1 (pv 5) pa_nil)))
      (pss_cons (ps_set (i := 7) nd rfl (Or.inl rfl) (pc1 T.d_image_in (ok_image_in T) (hr.mono (by decide)) (pa1 (pv 6) pa_nil)))
      (pss_cons (ps_if (PW.pt (pw_or (pt_cmpR (o_ne (K := K) hu) (pv 6) (pv 5) (nomark _)) (pw_or1 (pt_not (pt_val (pc1 T.d__law_alike (ok__law_alike T) (hr.mono (by decide)) (pa1 (pv 7) (pa1 (pv 1) pa_nil)))))))) (pss_one (ps_ret pe_bl)) pss_nil)
      (pss_cons (ps_expr (pm0 (K := K) PySem.F.plainAttrs_list PySem.F.slot_list_clear PySem.F.type_list_clear o_clear (pv 6)))
      (pss_cons (ps_set (i := 8) nd rfl (Or.inl rfl) (pc1 T.d_image_in (ok_image_in T) (hr.mono (by decide)) (pa1 (pcT (call_listK (K := K)) rfl T.n_list (by kernel_rfl) (pa1 (pv 5) pa_nil)) pa_nil)))
      (pss_cons (ps_expr (pm1 (K := K) PySem.F.plainAttrs_list PySem.F.slot_list_append PySem.F.type_list_append o_append (pe_fldK (K := K) (pv 8)) (pa1 pe_int pa_nil)))
      (pss_cons (ps_expr (pm0 (K := K) PySem.F.plainAttrs_list PySem.F.slot_list_clear PySem.F.type_list_clear o_clear (pe_fldK (K := K) (pv 8))))
      (pss_one (ps_ret (pe_and (pe_cmpR (o_eq (K := K) hu) (pc1 T.d_image_bytes (ok_image_bytes T) (hr.mono (by decide)) (pa1 (pv 7) pa_nil)) (pv 5) (nomark _)) (pe_and (pe_cmpR (o_eq (K := K) hu) (pc1 T.d_image_bytes (ok_image_bytes T) (hr.mono (by decide)) (pa1 (pv 3) pa_nil)) (pv 5) (nomark _)) (pe_one (pc1 T.d__law_alike (ok__law_alike T) (hr.mono (by decide)) (pa1 (pv 7) (pa1 (pv 1) pa_nil))))))))))))))))))))))), ?_⟩
    rw [show start ["_law_script", "_law_parts", "_law_handed", "_law_image_here", "_law_row", "_law_due_here", "_law_told", "_law_found", "_law_other"] [V.ref a] = [some (V.ref a), none, none, none, none, none, none, none, none] from rfl]
    have NM : NoAttr K T.x_Image "main" := T.nf_Image_main
    have NX : NoAttr K T.x_Image "sections" := T.nf_Image_sections
    have NB : NoAttr K T.x_Image "body" := T.nf_Image_body
    have NF : NoAttr K T.x_Image "far" := T.nf_Image_far
    have cI := T.oc_Image
    
    refine tSeq_gen fun B hB => ?_
    simp only [tSeq, tIfS, tRet, tRetN, tC, tVar, tOp, tUn, tTest, tB, tAnd, tOr, tNot, tAndV, tOrV, tNotV, tIf, tChain, tCons, tNil, tCall, tCB, tLst, tTup, tSl, tNoPart, tPart, gName, tNext, tDrop, tAsg, tAsgC, tBM, tYes, tDNewK, rI, rI0, rU, rEq, rNe, rAbs, rIntT, CDiv, add_ii, add_ss, mul_ii, mul_si, ix_si, eq_ii, eq_ss, eq_bb, ne_ii, ne_ss, ne_ni, ne_in, in_s1, notin_s1, is_xn, is_bb, isnot_xn, isnot_bb, sl_s, len_s, find_ss, index_ss, List.append_nil, List.cons_append, List.nil_append, List.getElem?_cons_succ, List.getElem?_cons_zero, List.set_cons_succ, List.set_cons_zero, Option.some.injEq, V.int.injEq, V.bl.injEq, V.str.injEq, V.ref.injEq, V.ty.injEq, List.cons.injEq, and_true, true_and, exists_eq_left, exists_eq_left', exists_and_left, exists_eq', exists_const, exists_and_right, exists_eq_right, exists_eq_right', reduceCtorEq, false_and, and_false, exists_false, or_false, false_or, decide_eq_true_eq, Bool.not_eq_true', decide_eq_false_iff_not, Bool.false_eq_true, if_false, if_true, mk_app, mk_len, sg_mk, mk_one, decide_true, decide_false, Bool.not_true, Bool.not_false, ite_true, ite_false, not_true_eq_false, not_false_eq_true, cxK, cutTo1, cutFrom1, mk_iff, tyV_str, stComp, List.map_cons, List.map_nil, Option.join_some, Option.join_none, gt_iff_lt, ge_iff_le, tRaise, tTryR, tCallH, tDisp, tPairs, tFld, sFld, tMake, tMeth, tAug, ipI, tDead, tBM0, if_false_right, and_self]
    refine ⟨a, ns, rfl, hq, fun t m ks bs fs n k H1 S1 TA gi => ?_⟩
    obtain ⟨s, b, f, ts, et, es, hts, ek, eb, ef⟩ := TA
    have l6 := gi.len6
    have hdl := gi.dl
    clear S1
    have S := Same.refl H1
    subst hB
    refine tSeq_gen fun B hB => ?_
    simp only [tSeq, tIfS, tRet, tRetN, tC, tVar, tOp, tUn, tTest, tB, tAnd, tOr, tNot, tAndV, tOrV, tNotV, tIf, tChain, tCons, tNil, tCall, tCB, tLst, tTup, tSl, tNoPart, tPart, gName, tNext, tDrop, tAsg, tAsgC, tBM, tYes, tDNewK, rI, rI0, rU, rEq, rNe, rAbs, rIntT, CDiv, add_ii, add_ss, mul_ii, mul_si, ix_si, eq_ii, eq_ss, eq_bb, ne_ii, ne_ss, ne_ni, ne_in, in_s1, notin_s1, is_xn, is_bb, isnot_xn, isnot_bb, sl_s, len_s, find_ss, index_ss, List.append_nil, List.cons_append, List.nil_append, List.getElem?_cons_succ, List.getElem?_cons_zero, List.set_cons_succ, List.set_cons_zero, Option.some.injEq, V.int.injEq, V.bl.injEq, V.str.injEq, V.ref.injEq, V.ty.injEq, List.cons.injEq, and_true, true_and, exists_eq_left, exists_eq_left', exists_and_left, exists_eq', exists_const, exists_and_right, exists_eq_right, exists_eq_right', reduceCtorEq, false_and, and_false, exists_false, or_false, false_or, decide_eq_true_eq, Bool.not_eq_true', decide_eq_false_iff_not, Bool.false_eq_true, if_false, if_true, mk_app, mk_len, sg_mk, mk_one, decide_true, decide_false, Bool.not_true, Bool.not_false, ite_true, ite_false, not_true_eq_false, not_false_eq_true, cxK, cutTo1, cutFrom1, mk_iff, tyV_str, stComp, List.map_cons, List.map_nil, Option.join_some, Option.join_none, gt_iff_lt, ge_iff_le, tRaise, tTryR, tCallH, tDisp, tPairs, tFld, sFld, tMake, tMeth, tAug, ipI, tDead, tBM0, if_false_right, and_self]
    refine ixT (SqT.of et) (atIn (by decide) rfl) (listL (SqL.of es) fun h1 n1 => ?_)
    have t0 := Same.upd (Same.refl H1) n1 (o := .lst (refsT ts))
    have f1 : upd H1 h1 (.lst (refsT ts)) h1 = some (.lst (refsT ts)) := upd_same
    generalize upd H1 h1 (.lst (refsT ts)) = H2 at t0 f1 ⊢
    have S := S.trans t0
    clear t0
    refine ixT (SqT.of (S _ _ et)) (atIn (by decide) rfl) (listL (SqL.of (S _ _ eb)) fun h2 n2 => ?_)
    have m2 := S.no n2
    have t0 := Same.upd (Same.refl H2) n2 (o := .lst (bs.map V.int))
    have f2 : upd H2 h2 (.lst (bs.map V.int)) h2 = some (.lst (bs.map V.int)) := upd_same
    generalize upd H2 h2 (.lst (bs.map V.int)) = H3 at t0 f2 ⊢
    have f1 := t0 _ _ f1
    have S := S.trans t0
    clear t0
    refine ixT (SqT.of (S _ _ et)) (atIn (by decide) rfl) (listL (SqL.of (S _ _ ef)) fun h3 n3 => ?_)
    have m3 := S.no n3
    have t0 := Same.upd (Same.refl H3) n3 (o := .lst (fs.map V.int))
    have f3 : upd H3 h3 (.lst (fs.map V.int)) h3 = some (.lst (fs.map V.int)) := upd_same
    generalize upd H3 h3 (.lst (fs.map V.int)) = H4 at t0 f3 ⊢
    have f1 := t0 _ _ f1
    have f2 := t0 _ _ f2
    have S := S.trans t0
    clear t0
    refine ⟨sl1000 (by simp), fun hd nhd => ?_⟩
    have hdn := nin3 nhd f1 f2 f3
    have t0 := Same.upd (Same.refl H4) nhd (o := .lst [V.ref h1, V.ref h2, V.ref h3])
    have f4 : upd H4 hd (.lst [V.ref h1, V.ref h2, V.ref h3]) hd = some (.lst [V.ref h1, V.ref h2, V.ref h3]) := upd_same
    generalize upd H4 hd (.lst [V.ref h1, V.ref h2, V.ref h3]) = H5 at t0 f4 ⊢
    have f1 := t0 _ _ f1
    have f2 := t0 _ _ f2
    have f3 := t0 _ _ f3
    have S := S.trans t0
    clear t0
    clear n2 n3 nhd
    subst hB
    refine tSeq_gen fun B hB => ?_
    simp only [tSeq, tIfS, tRet, tRetN, tC, tVar, tOp, tUn, tTest, tB, tAnd, tOr, tNot, tAndV, tOrV, tNotV, tIf, tChain, tCons, tNil, tCall, tCB, tLst, tTup, tSl, tNoPart, tPart, gName, tNext, tDrop, tAsg, tAsgC, tBM, tYes, tDNewK, rI, rI0, rU, rEq, rNe, rAbs, rIntT, CDiv, add_ii, add_ss, mul_ii, mul_si, ix_si, eq_ii, eq_ss, eq_bb, ne_ii, ne_ss, ne_ni, ne_in, in_s1, notin_s1, is_xn, is_bb, isnot_xn, isnot_bb, sl_s, len_s, find_ss, index_ss, List.append_nil, List.cons_append, List.nil_append, List.getElem?_cons_succ, List.getElem?_cons_zero, List.set_cons_succ, List.set_cons_zero, Option.some.injEq, V.int.injEq, V.bl.injEq, V.str.injEq, V.ref.injEq, V.ty.injEq, List.cons.injEq, and_true, true_and, exists_eq_left, exists_eq_left', exists_and_left, exists_eq', exists_const, exists_and_right, exists_eq_right, exists_eq_right', reduceCtorEq, false_and, and_false, exists_false, or_false, false_or, decide_eq_true_eq, Bool.not_eq_true', decide_eq_false_iff_not, Bool.false_eq_true, if_false, if_true, mk_app, mk_len, sg_mk, mk_one, decide_true, decide_false, Bool.not_true, Bool.not_false, ite_true, ite_false, not_true_eq_false, not_false_eq_true, cxK, cutTo1, cutFrom1, mk_iff, tyV_str, stComp, List.map_cons, List.map_nil, Option.join_some, Option.join_none, gt_iff_lt, ge_iff_le, tRaise, tTryR, tCallH, tDisp, tPairs, tFld, sFld, tMake, tMeth, tAug, ipI, tDead, tBM0, if_false_right, and_self]
    refine ixT (SqT.of (S _ _ et)) (atIn (by decide) rfl) (ixL (SqL.of f4) (atIn (by decide) rfl) (ixL (SqL.of f4) (atIn (by decide) rfl) (ixL (SqL.of f4) (atIn (by decide) rfl) fun x dx nx ndx nxd => ?_)))
    have K0 : Same H5 (upd (upd H5 dx (.own x)) x (.ins T.x_Image dx [])) := fun c o e => by
      rw [upd_ne (ne_of_none e nx), upd_ne (ne_of_none e ndx)]
      exact e
    refine ⟨x, dx, m, h1, h2, h3, refsT ts, bs.map V.int, fs.map V.int, rfl, upd_same, K0 _ _ f1, K0 _ _ f2, K0 _ _ f3, fun s' b' f' G ns' nb' nf' ex es' eb' ef' kp => ⟨rfl, ?_⟩⟩
    have SG : Same H5 G := fun c o e => kp c o (K0 c o e) (ne_of_none e nx)
    have dx' := nin3 nx f1 f2 f3
    have ds' := nin3 (K0.no ns') f1 f2 f3
    have db' := nin3 (K0.no nb') f1 f2 f3
    have df' := nin3 (K0.no nf') f1 f2 f3
    have S := S.trans SG
    have f1 := SG _ _ f1
    have f2 := SG _ _ f2
    have f3 := SG _ _ f3
    have f4 := SG _ _ f4
    clear SG kp ns' nb' nf' K0 nx ndx nxd
    have dd : ∀ c o, H1 c = some o → c ∉ [h1, h2, h3] := fun c o e => nin3' e n1 m2 m3
    clear n1 m2 m3
    subst hB
    refine tSeq_gen fun B hB => ?_
    refine tfor_list (a := hd) (xs := [V.ref h1, V.ref h2, V.ref h3]) (fun R r => ⟨_, rfl, r⟩) (SqL.of f4) (fun i σ H' => (∀ c o, G c = some o → c ∉ [h1, h2, h3] → H' c = some o) ∧ (∀ h ∈ [h1, h2, h3], ∃ xs : List V, H' h = some (.lst xs) ∧ xs.length ≤ 1000 + i) ∧ ∃ v4, σ = [some (V.ref a), some (V.ref t), some (V.ref hd), some (V.ref x), v4, none, none, none, none]) ⟨fun c o e _ => e, ?_, none, rfl⟩ (fun i σ H' h => SqL.of (h.1 _ _ f4 hdn)) ?_ ?_
    · have b1 : (refsT ts).length ≤ 1000 := by
        have : (refsT ts).length = ks.length := by rw [← ek]; simp [refsT, ksT]
        omega
      have b2 : (bs.map V.int).length ≤ 1000 := by have := gi.bl; rw [List.length_map]; omega
      have b3 : (fs.map V.int).length ≤ 1000 := by have := gi.fl; rw [List.length_map]; omega
      intro h hm
      rcases List.mem_cons.mp hm with z | hm
      · exact ⟨_, z ▸ f1, b1⟩
      rcases List.mem_cons.mp hm with z | hm
      · exact ⟨_, z ▸ f2, b2⟩
      · exact ⟨_, List.mem_singleton.mp hm ▸ f3, b3⟩
    · clear hB
      rintro i y σ H7 hy ⟨k1, k2, v4, rfl⟩
      have hi : i < 3 := (List.getElem?_eq_some_iff.mp hy).1
      obtain ⟨h, rfl, hm⟩ : ∃ h, y = V.ref h ∧ h ∈ [h1, h2, h3] := by
        match i, hy with
        | 0, hy => cases hy; exact ⟨_, rfl, by simp⟩
        | 1, hy => cases hy; exact ⟨_, rfl, by simp⟩
        | 2, hy => cases hy; exact ⟨_, rfl, by simp⟩
        | i + 3, hy => cases hy
      obtain ⟨xs, exs, lxs⟩ := k2 h hm
      simp only [tSeq, tIfS, tRet, tRetN, tC, tVar, tOp, tUn, tTest, tB, tAnd, tOr, tNot, tAndV, tOrV, tNotV, tIf, tChain, tCons, tNil, tCall, tCB, tLst, tTup, tSl, tNoPart, tPart, gName, tNext, tDrop, tAsg, tAsgC, tBM, tYes, tDNewK, rI, rI0, rU, rEq, rNe, rAbs, rIntT, CDiv, add_ii, add_ss, mul_ii, mul_si, ix_si, eq_ii, eq_ss, eq_bb, ne_ii, ne_ss, ne_ni, ne_in, in_s1, notin_s1, is_xn, is_bb, isnot_xn, isnot_bb, sl_s, len_s, find_ss, index_ss, List.append_nil, List.cons_append, List.nil_append, List.getElem?_cons_succ, List.getElem?_cons_zero, List.set_cons_succ, List.set_cons_zero, Option.some.injEq, V.int.injEq, V.bl.injEq, V.str.injEq, V.ref.injEq, V.ty.injEq, List.cons.injEq, and_true, true_and, exists_eq_left, exists_eq_left', exists_and_left, exists_eq', exists_const, exists_and_right, exists_eq_right, exists_eq_right', reduceCtorEq, false_and, and_false, exists_false, or_false, false_or, decide_eq_true_eq, Bool.not_eq_true', decide_eq_false_iff_not, Bool.false_eq_true, if_false, if_true, mk_app, mk_len, sg_mk, mk_one, decide_true, decide_false, Bool.not_true, Bool.not_false, ite_true, ite_false, not_true_eq_false, not_false_eq_true, cxK, cutTo1, cutFrom1, mk_iff, tyV_str, stComp, List.map_cons, List.map_nil, Option.join_some, Option.join_none, gt_iff_lt, ge_iff_le, tRaise, tTryR, tCallH, tDisp, tPairs, tFld, sFld, tMake, tMeth, tAug, ipI, tDead, tBM0, if_false_right, and_self]
      refine ⟨tyV_lst (SqL.of exs), appL exs (Nat.lt_of_lt_of_le (show _ < 100000 by omega) (sl1000 (Nat.le_refl _))) ⟨fun c o e nc => ?_, fun h' hm' => ?_⟩⟩
      · rw [upd_ne (fun z => nc (by rw [z]; exact hm))]
        exact k1 c o e nc
      · by_cases z : h' = h
        · rw [z, upd_same]
          exact ⟨_, rfl, by simp; omega⟩
        · rw [upd_ne z]
          obtain ⟨ys, ey, ly⟩ := k2 h' hm'
          exact ⟨ys, ey, by omega⟩
    rintro σ H7 ⟨k1, _, v4, rfl⟩
    dsimp only
    have k2 : Same H1 H7 := fun c o e => k1 c o (S c o e) (dd c o e)
    have TT : TupAt t m ks bs fs H7 := ⟨s, b, f, ts, k2 _ _ et, k2 _ _ es, hts.same k2, ek, k2 _ _ eb, k2 _ _ ef⟩
    have II : ImgAt T.x_Image x m ks bs fs H7 := ⟨dx, s', b', f', ts, k1 _ _ ex dx', k1 _ _ es' ds', hts.same k2, ek, k1 _ _ eb' db', k1 _ _ ef' df'⟩
    clear k1 k2 dd S f1 f2 f3 f4 ex es' eb' ef' dx' ds' db' df' et es eb ef hts ek hdn
    subst hB
    refine tSeq_gen fun B hB => ?_
    simp only [tSeq, tIfS, tRet, tRetN, tC, tVar, tOp, tUn, tTest, tB, tAnd, tOr, tNot, tAndV, tOrV, tNotV, tIf, tChain, tCons, tNil, tCall, tCB, tLst, tTup, tSl, tNoPart, tPart, gName, tNext, tDrop, tAsg, tAsgC, tBM, tYes, tDNewK, rI, rI0, rU, rEq, rNe, rAbs, rIntT, CDiv, add_ii, add_ss, mul_ii, mul_si, ix_si, eq_ii, eq_ss, eq_bb, ne_ii, ne_ss, ne_ni, ne_in, in_s1, notin_s1, is_xn, is_bb, isnot_xn, isnot_bb, sl_s, len_s, find_ss, index_ss, List.append_nil, List.cons_append, List.nil_append, List.getElem?_cons_succ, List.getElem?_cons_zero, List.set_cons_succ, List.set_cons_zero, Option.some.injEq, V.int.injEq, V.bl.injEq, V.str.injEq, V.ref.injEq, V.ty.injEq, List.cons.injEq, and_true, true_and, exists_eq_left, exists_eq_left', exists_and_left, exists_eq', exists_const, exists_and_right, exists_eq_right, exists_eq_right', reduceCtorEq, false_and, and_false, exists_false, or_false, false_or, decide_eq_true_eq, Bool.not_eq_true', decide_eq_false_iff_not, Bool.false_eq_true, if_false, if_true, mk_app, mk_len, sg_mk, mk_one, decide_true, decide_false, Bool.not_true, Bool.not_false, ite_true, ite_false, not_true_eq_false, not_false_eq_true, cxK, cutTo1, cutFrom1, mk_iff, tyV_str, stComp, List.map_cons, List.map_nil, Option.join_some, Option.join_none, gt_iff_lt, ge_iff_le, tRaise, tTryR, tCallH, tDisp, tPairs, tFld, sFld, tMake, tMeth, tAug, ipI, tDead, tBM0, if_false_right, and_self]
    refine ⟨t, m, ks, bs, fs, n, k, rfl, TT, gi, fun du H8 nd S8 ed => ?_⟩
    have TT := TT.same S8
    have II := II.same S8
    clear S8 nd
    subst hB
    refine tSeq_gen fun B hB => ?_
    simp only [tSeq, tIfS, tRet, tRetN, tC, tVar, tOp, tUn, tTest, tB, tAnd, tOr, tNot, tAndV, tOrV, tNotV, tIf, tChain, tCons, tNil, tCall, tCB, tLst, tTup, tSl, tNoPart, tPart, gName, tNext, tDrop, tAsg, tAsgC, tBM, tYes, tDNewK, rI, rI0, rU, rEq, rNe, rAbs, rIntT, CDiv, add_ii, add_ss, mul_ii, mul_si, ix_si, eq_ii, eq_ss, eq_bb, ne_ii, ne_ss, ne_ni, ne_in, in_s1, notin_s1, is_xn, is_bb, isnot_xn, isnot_bb, sl_s, len_s, find_ss, index_ss, List.append_nil, List.cons_append, List.nil_append, List.getElem?_cons_succ, List.getElem?_cons_zero, List.set_cons_succ, List.set_cons_zero, Option.some.injEq, V.int.injEq, V.bl.injEq, V.str.injEq, V.ref.injEq, V.ty.injEq, List.cons.injEq, and_true, true_and, exists_eq_left, exists_eq_left', exists_and_left, exists_eq', exists_const, exists_and_right, exists_eq_right, exists_eq_right', reduceCtorEq, false_and, and_false, exists_false, or_false, false_or, decide_eq_true_eq, Bool.not_eq_true', decide_eq_false_iff_not, Bool.false_eq_true, if_false, if_true, mk_app, mk_len, sg_mk, mk_one, decide_true, decide_false, Bool.not_true, Bool.not_false, ite_true, ite_false, not_true_eq_false, not_false_eq_true, cxK, cutTo1, cutFrom1, mk_iff, tyV_str, stComp, List.map_cons, List.map_nil, Option.join_some, Option.join_none, gt_iff_lt, ge_iff_le, tRaise, tTryR, tCallH, tDisp, tPairs, tFld, sFld, tMake, tMeth, tAug, ipI, tDead, tBM0, if_false_right, and_self]
    refine ⟨x, m, ks, bs, fs, n, k, rfl, II, gi, fun rr H9 nr S er => ?_⟩
    subst hB
    refine tSeq_gen fun B hB => ?_
    simp only [tSeq, tIfS, tRet, tRetN, tC, tVar, tOp, tUn, tTest, tB, tAnd, tOr, tNot, tAndV, tOrV, tNotV, tIf, tChain, tCons, tNil, tCall, tCB, tLst, tTup, tSl, tNoPart, tPart, gName, tNext, tDrop, tAsg, tAsgC, tBM, tYes, tDNewK, rI, rI0, rU, rEq, rNe, rAbs, rIntT, CDiv, add_ii, add_ss, mul_ii, mul_si, ix_si, eq_ii, eq_ss, eq_bb, ne_ii, ne_ss, ne_ni, ne_in, in_s1, notin_s1, is_xn, is_bb, isnot_xn, isnot_bb, sl_s, len_s, find_ss, index_ss, List.append_nil, List.cons_append, List.nil_append, List.getElem?_cons_succ, List.getElem?_cons_zero, List.set_cons_succ, List.set_cons_zero, Option.some.injEq, V.int.injEq, V.bl.injEq, V.str.injEq, V.ref.injEq, V.ty.injEq, List.cons.injEq, and_true, true_and, exists_eq_left, exists_eq_left', exists_and_left, exists_eq', exists_const, exists_and_right, exists_eq_right, exists_eq_right', reduceCtorEq, false_and, and_false, exists_false, or_false, false_or, decide_eq_true_eq, Bool.not_eq_true', decide_eq_false_iff_not, Bool.false_eq_true, if_false, if_true, mk_app, mk_len, sg_mk, mk_one, decide_true, decide_false, Bool.not_true, Bool.not_false, ite_true, ite_false, not_true_eq_false, not_false_eq_true, cxK, cutTo1, cutFrom1, mk_iff, tyV_str, stComp, List.map_cons, List.map_nil, Option.join_some, Option.join_none, gt_iff_lt, ge_iff_le, tRaise, tTryR, tCallH, tDisp, tPairs, tFld, sFld, tMake, tMeth, tAug, ipI, tDead, tBM0, if_false_right, and_self]
    refine isi_l er ?_
    simp only [tSeq, tIfS, tRet, tRetN, tC, tVar, tOp, tUn, tTest, tB, tAnd, tOr, tNot, tAndV, tOrV, tNotV, tIf, tChain, tCons, tNil, tCall, tCB, tLst, tTup, tSl, tNoPart, tPart, gName, tNext, tDrop, tAsg, tAsgC, tBM, tYes, tDNewK, rI, rI0, rU, rEq, rNe, rAbs, rIntT, CDiv, add_ii, add_ss, mul_ii, mul_si, ix_si, eq_ii, eq_ss, eq_bb, ne_ii, ne_ss, ne_ni, ne_in, in_s1, notin_s1, is_xn, is_bb, isnot_xn, isnot_bb, sl_s, len_s, find_ss, index_ss, List.append_nil, List.cons_append, List.nil_append, List.getElem?_cons_succ, List.getElem?_cons_zero, List.set_cons_succ, List.set_cons_zero, Option.some.injEq, V.int.injEq, V.bl.injEq, V.str.injEq, V.ref.injEq, V.ty.injEq, List.cons.injEq, and_true, true_and, exists_eq_left, exists_eq_left', exists_and_left, exists_eq', exists_const, exists_and_right, exists_eq_right, exists_eq_right', reduceCtorEq, false_and, and_false, exists_false, or_false, false_or, decide_eq_true_eq, Bool.not_eq_true', decide_eq_false_iff_not, Bool.false_eq_true, if_false, if_true, mk_app, mk_len, sg_mk, mk_one, decide_true, decide_false, Bool.not_true, Bool.not_false, ite_true, ite_false, not_true_eq_false, not_false_eq_true, cxK, cutTo1, cutFrom1, mk_iff, tyV_str, stComp, List.map_cons, List.map_nil, Option.join_some, Option.join_none, gt_iff_lt, ge_iff_le, tRaise, tTryR, tCallH, tDisp, tPairs, tFld, sFld, tMake, tMeth, tAug, ipI, tDead, tBM0, if_false_right, and_self]
    refine neLL_same er (S _ _ ed) (flat_ints _) ?_
    simp only [tSeq, tIfS, tRet, tRetN, tC, tVar, tOp, tUn, tTest, tB, tAnd, tOr, tNot, tAndV, tOrV, tNotV, tIf, tChain, tCons, tNil, tCall, tCB, tLst, tTup, tSl, tNoPart, tPart, gName, tNext, tDrop, tAsg, tAsgC, tBM, tYes, tDNewK, rI, rI0, rU, rEq, rNe, rAbs, rIntT, CDiv, add_ii, add_ss, mul_ii, mul_si, ix_si, eq_ii, eq_ss, eq_bb, ne_ii, ne_ss, ne_ni, ne_in, in_s1, notin_s1, is_xn, is_bb, isnot_xn, isnot_bb, sl_s, len_s, find_ss, index_ss, List.append_nil, List.cons_append, List.nil_append, List.getElem?_cons_succ, List.getElem?_cons_zero, List.set_cons_succ, List.set_cons_zero, Option.some.injEq, V.int.injEq, V.bl.injEq, V.str.injEq, V.ref.injEq, V.ty.injEq, List.cons.injEq, and_true, true_and, exists_eq_left, exists_eq_left', exists_and_left, exists_eq', exists_const, exists_and_right, exists_eq_right, exists_eq_right', reduceCtorEq, false_and, and_false, exists_false, or_false, false_or, decide_eq_true_eq, Bool.not_eq_true', decide_eq_false_iff_not, Bool.false_eq_true, if_false, if_true, mk_app, mk_len, sg_mk, mk_one, decide_true, decide_false, Bool.not_true, Bool.not_false, ite_true, ite_false, not_true_eq_false, not_false_eq_true, cxK, cutTo1, cutFrom1, mk_iff, tyV_str, stComp, List.map_cons, List.map_nil, Option.join_some, Option.join_none, gt_iff_lt, ge_iff_le, tRaise, tTryR, tCallH, tDisp, tPairs, tFld, sFld, tMake, tMeth, tAug, ipI, tDead, tBM0, if_false_right, and_self]
    refine ⟨x, t, m, ks, bs, fs, rfl, II.same S, TT.same S, gi.kd, l6, fun H10 S' => ?_⟩
    simp only [tSeq, tIfS, tRet, tRetN, tC, tVar, tOp, tUn, tTest, tB, tAnd, tOr, tNot, tAndV, tOrV, tNotV, tIf, tChain, tCons, tNil, tCall, tCB, tLst, tTup, tSl, tNoPart, tPart, gName, tNext, tDrop, tAsg, tAsgC, tBM, tYes, tDNewK, rI, rI0, rU, rEq, rNe, rAbs, rIntT, CDiv, add_ii, add_ss, mul_ii, mul_si, ix_si, eq_ii, eq_ss, eq_bb, ne_ii, ne_ss, ne_ni, ne_in, in_s1, notin_s1, is_xn, is_bb, isnot_xn, isnot_bb, sl_s, len_s, find_ss, index_ss, List.append_nil, List.cons_append, List.nil_append, List.getElem?_cons_succ, List.getElem?_cons_zero, List.set_cons_succ, List.set_cons_zero, Option.some.injEq, V.int.injEq, V.bl.injEq, V.str.injEq, V.ref.injEq, V.ty.injEq, List.cons.injEq, and_true, true_and, exists_eq_left, exists_eq_left', exists_and_left, exists_eq', exists_const, exists_and_right, exists_eq_right, exists_eq_right', reduceCtorEq, false_and, and_false, exists_false, or_false, false_or, decide_eq_true_eq, Bool.not_eq_true', decide_eq_false_iff_not, Bool.false_eq_true, if_false, if_true, mk_app, mk_len, sg_mk, mk_one, decide_true, decide_false, Bool.not_true, Bool.not_false, ite_true, ite_false, not_true_eq_false, not_false_eq_true, cxK, cutTo1, cutFrom1, mk_iff, tyV_str, stComp, List.map_cons, List.map_nil, Option.join_some, Option.join_none, gt_iff_lt, ge_iff_le, tRaise, tTryR, tCallH, tDisp, tPairs, tFld, sFld, tMake, tMeth, tAug, ipI, tDead, tBM0, if_false_right, and_self]
    have er := S' _ _ er
    have S := S.trans S'
    clear S'
    subst hB
    refine tSeq_gen fun B hB => ?_
    simp only [tSeq, tIfS, tRet, tRetN, tC, tVar, tOp, tUn, tTest, tB, tAnd, tOr, tNot, tAndV, tOrV, tNotV, tIf, tChain, tCons, tNil, tCall, tCB, tLst, tTup, tSl, tNoPart, tPart, gName, tNext, tDrop, tAsg, tAsgC, tBM, tYes, tDNewK, rI, rI0, rU, rEq, rNe, rAbs, rIntT, CDiv, add_ii, add_ss, mul_ii, mul_si, ix_si, eq_ii, eq_ss, eq_bb, ne_ii, ne_ss, ne_ni, ne_in, in_s1, notin_s1, is_xn, is_bb, isnot_xn, isnot_bb, sl_s, len_s, find_ss, index_ss, List.append_nil, List.cons_append, List.nil_append, List.getElem?_cons_succ, List.getElem?_cons_zero, List.set_cons_succ, List.set_cons_zero, Option.some.injEq, V.int.injEq, V.bl.injEq, V.str.injEq, V.ref.injEq, V.ty.injEq, List.cons.injEq, and_true, true_and, exists_eq_left, exists_eq_left', exists_and_left, exists_eq', exists_const, exists_and_right, exists_eq_right, exists_eq_right', reduceCtorEq, false_and, and_false, exists_false, or_false, false_or, decide_eq_true_eq, Bool.not_eq_true', decide_eq_false_iff_not, Bool.false_eq_true, if_false, if_true, mk_app, mk_len, sg_mk, mk_one, decide_true, decide_false, Bool.not_true, Bool.not_false, ite_true, ite_false, not_true_eq_false, not_false_eq_true, cxK, cutTo1, cutFrom1, mk_iff, tyV_str, stComp, List.map_cons, List.map_nil, Option.join_some, Option.join_none, gt_iff_lt, ge_iff_le, tRaise, tTryR, tCallH, tDisp, tPairs, tFld, sFld, tMake, tMeth, tAug, ipI, tDead, tBM0, if_false_right, and_self]
    refine ⟨tyV_lst (SqL.of er), appL er (szl (by omega)) ?_⟩
    have S := Same.set S nr (o := .lst ((dueF m ks bs fs).map V.int ++ [V.int 0]))
    generalize upd H10 rr (.lst ((dueF m ks bs fs).map V.int ++ [V.int 0])) = H11 at S ⊢
    clear er nr
    subst hB
    refine tSeq_gen fun B hB => ?_
    simp only [tSeq, tIfS, tRet, tRetN, tC, tVar, tOp, tUn, tTest, tB, tAnd, tOr, tNot, tAndV, tOrV, tNotV, tIf, tChain, tCons, tNil, tCall, tCB, tLst, tTup, tSl, tNoPart, tPart, gName, tNext, tDrop, tAsg, tAsgC, tBM, tYes, tDNewK, rI, rI0, rU, rEq, rNe, rAbs, rIntT, CDiv, add_ii, add_ss, mul_ii, mul_si, ix_si, eq_ii, eq_ss, eq_bb, ne_ii, ne_ss, ne_ni, ne_in, in_s1, notin_s1, is_xn, is_bb, isnot_xn, isnot_bb, sl_s, len_s, find_ss, index_ss, List.append_nil, List.cons_append, List.nil_append, List.getElem?_cons_succ, List.getElem?_cons_zero, List.set_cons_succ, List.set_cons_zero, Option.some.injEq, V.int.injEq, V.bl.injEq, V.str.injEq, V.ref.injEq, V.ty.injEq, List.cons.injEq, and_true, true_and, exists_eq_left, exists_eq_left', exists_and_left, exists_eq', exists_const, exists_and_right, exists_eq_right, exists_eq_right', reduceCtorEq, false_and, and_false, exists_false, or_false, false_or, decide_eq_true_eq, Bool.not_eq_true', decide_eq_false_iff_not, Bool.false_eq_true, if_false, if_true, mk_app, mk_len, sg_mk, mk_one, decide_true, decide_false, Bool.not_true, Bool.not_false, ite_true, ite_false, not_true_eq_false, not_false_eq_true, cxK, cutTo1, cutFrom1, mk_iff, tyV_str, stComp, List.map_cons, List.map_nil, Option.join_some, Option.join_none, gt_iff_lt, ge_iff_le, tRaise, tTryR, tCallH, tDisp, tPairs, tFld, sFld, tMake, tMeth, tAug, ipI, tDead, tBM0, if_false_right, and_self]
    refine listL (SqL.of (S _ _ ed)) fun tl ntl => ?_
    have ntl8 := S.no ntl
    have t0 := Same.upd (Same.refl H11) ntl (o := .lst ((dueF m ks bs fs).map V.int))
    have etl : upd H11 tl (.lst ((dueF m ks bs fs).map V.int)) tl = some (.lst ((dueF m ks bs fs).map V.int)) := upd_same
    generalize upd H11 tl (.lst ((dueF m ks bs fs).map V.int)) = H12 at t0 etl ⊢
    have S := S.trans t0
    clear t0
    subst hB
    refine tSeq_gen fun B hB => ?_
    simp only [tSeq, tIfS, tRet, tRetN, tC, tVar, tOp, tUn, tTest, tB, tAnd, tOr, tNot, tAndV, tOrV, tNotV, tIf, tChain, tCons, tNil, tCall, tCB, tLst, tTup, tSl, tNoPart, tPart, gName, tNext, tDrop, tAsg, tAsgC, tBM, tYes, tDNewK, rI, rI0, rU, rEq, rNe, rAbs, rIntT, CDiv, add_ii, add_ss, mul_ii, mul_si, ix_si, eq_ii, eq_ss, eq_bb, ne_ii, ne_ss, ne_ni, ne_in, in_s1, notin_s1, is_xn, is_bb, isnot_xn, isnot_bb, sl_s, len_s, find_ss, index_ss, List.append_nil, List.cons_append, List.nil_append, List.getElem?_cons_succ, List.getElem?_cons_zero, List.set_cons_succ, List.set_cons_zero, Option.some.injEq, V.int.injEq, V.bl.injEq, V.str.injEq, V.ref.injEq, V.ty.injEq, List.cons.injEq, and_true, true_and, exists_eq_left, exists_eq_left', exists_and_left, exists_eq', exists_const, exists_and_right, exists_eq_right, exists_eq_right', reduceCtorEq, false_and, and_false, exists_false, or_false, false_or, decide_eq_true_eq, Bool.not_eq_true', decide_eq_false_iff_not, Bool.false_eq_true, if_false, if_true, mk_app, mk_len, sg_mk, mk_one, decide_true, decide_false, Bool.not_true, Bool.not_false, ite_true, ite_false, not_true_eq_false, not_false_eq_true, cxK, cutTo1, cutFrom1, mk_iff, tyV_str, stComp, List.map_cons, List.map_nil, Option.join_some, Option.join_none, gt_iff_lt, ge_iff_le, tRaise, tTryR, tCallH, tDisp, tPairs, tFld, sFld, tMake, tMeth, tAug, ipI, tDead, tBM0, if_false_right, and_self]
    refine ⟨tl, m, ks, bs, fs, n, k, rfl, etl, gi, fun p dx2 s2 b2 f2 ts2 H13 np ns2 nb2 nf2 S' ep es2 hts2 ek2 eb2 ef2 => ?_⟩
    have ptl : p ≠ tl := fun z => by rw [z, etl] at np; cases np
    have stl : s2 ≠ tl := fun z => by rw [z, etl] at ns2; cases ns2
    have btl : b2 ≠ tl := fun z => by rw [z, etl] at nb2; cases nb2
    have ftl : f2 ≠ tl := fun z => by rw [z, etl] at nf2; cases nf2
    have etl := S' _ _ etl
    have S := S.trans S'
    clear S' np ns2 nb2 nf2
    subst hB
    refine tSeq_gen fun B hB => ?_
    simp only [tSeq, tIfS, tRet, tRetN, tC, tVar, tOp, tUn, tTest, tB, tAnd, tOr, tNot, tAndV, tOrV, tNotV, tIf, tChain, tCons, tNil, tCall, tCB, tLst, tTup, tSl, tNoPart, tPart, gName, tNext, tDrop, tAsg, tAsgC, tBM, tYes, tDNewK, rI, rI0, rU, rEq, rNe, rAbs, rIntT, CDiv, add_ii, add_ss, mul_ii, mul_si, ix_si, eq_ii, eq_ss, eq_bb, ne_ii, ne_ss, ne_ni, ne_in, in_s1, notin_s1, is_xn, is_bb, isnot_xn, isnot_bb, sl_s, len_s, find_ss, index_ss, List.append_nil, List.cons_append, List.nil_append, List.getElem?_cons_succ, List.getElem?_cons_zero, List.set_cons_succ, List.set_cons_zero, Option.some.injEq, V.int.injEq, V.bl.injEq, V.str.injEq, V.ref.injEq, V.ty.injEq, List.cons.injEq, and_true, true_and, exists_eq_left, exists_eq_left', exists_and_left, exists_eq', exists_const, exists_and_right, exists_eq_right, exists_eq_right', reduceCtorEq, false_and, and_false, exists_false, or_false, false_or, decide_eq_true_eq, Bool.not_eq_true', decide_eq_false_iff_not, Bool.false_eq_true, if_false, if_true, mk_app, mk_len, sg_mk, mk_one, decide_true, decide_false, Bool.not_true, Bool.not_false, ite_true, ite_false, not_true_eq_false, not_false_eq_true, cxK, cutTo1, cutFrom1, mk_iff, tyV_str, stComp, List.map_cons, List.map_nil, Option.join_some, Option.join_none, gt_iff_lt, ge_iff_le, tRaise, tTryR, tCallH, tDisp, tPairs, tFld, sFld, tMake, tMeth, tAug, ipI, tDead, tBM0, if_false_right, and_self]
    refine neLL_same etl (S _ _ ed) (flat_ints _) ?_
    simp only [tSeq, tIfS, tRet, tRetN, tC, tVar, tOp, tUn, tTest, tB, tAnd, tOr, tNot, tAndV, tOrV, tNotV, tIf, tChain, tCons, tNil, tCall, tCB, tLst, tTup, tSl, tNoPart, tPart, gName, tNext, tDrop, tAsg, tAsgC, tBM, tYes, tDNewK, rI, rI0, rU, rEq, rNe, rAbs, rIntT, CDiv, add_ii, add_ss, mul_ii, mul_si, ix_si, eq_ii, eq_ss, eq_bb, ne_ii, ne_ss, ne_ni, ne_in, in_s1, notin_s1, is_xn, is_bb, isnot_xn, isnot_bb, sl_s, len_s, find_ss, index_ss, List.append_nil, List.cons_append, List.nil_append, List.getElem?_cons_succ, List.getElem?_cons_zero, List.set_cons_succ, List.set_cons_zero, Option.some.injEq, V.int.injEq, V.bl.injEq, V.str.injEq, V.ref.injEq, V.ty.injEq, List.cons.injEq, and_true, true_and, exists_eq_left, exists_eq_left', exists_and_left, exists_eq', exists_const, exists_and_right, exists_eq_right, exists_eq_right', reduceCtorEq, false_and, and_false, exists_false, or_false, false_or, decide_eq_true_eq, Bool.not_eq_true', decide_eq_false_iff_not, Bool.false_eq_true, if_false, if_true, mk_app, mk_len, sg_mk, mk_one, decide_true, decide_false, Bool.not_true, Bool.not_false, ite_true, ite_false, not_true_eq_false, not_false_eq_true, cxK, cutTo1, cutFrom1, mk_iff, tyV_str, stComp, List.map_cons, List.map_nil, Option.join_some, Option.join_none, gt_iff_lt, ge_iff_le, tRaise, tTryR, tCallH, tDisp, tPairs, tFld, sFld, tMake, tMeth, tAug, ipI, tDead, tBM0, if_false_right, and_self]
    refine ⟨p, t, m, ks, bs, fs, rfl, ⟨dx2, s2, b2, f2, ts2, ep, es2, hts2, ek2, eb2, ef2⟩, TT.same S, gi.kd, l6, fun H14 S' => ?_⟩
    simp only [tSeq, tIfS, tRet, tRetN, tC, tVar, tOp, tUn, tTest, tB, tAnd, tOr, tNot, tAndV, tOrV, tNotV, tIf, tChain, tCons, tNil, tCall, tCB, tLst, tTup, tSl, tNoPart, tPart, gName, tNext, tDrop, tAsg, tAsgC, tBM, tYes, tDNewK, rI, rI0, rU, rEq, rNe, rAbs, rIntT, CDiv, add_ii, add_ss, mul_ii, mul_si, ix_si, eq_ii, eq_ss, eq_bb, ne_ii, ne_ss, ne_ni, ne_in, in_s1, notin_s1, is_xn, is_bb, isnot_xn, isnot_bb, sl_s, len_s, find_ss, index_ss, List.append_nil, List.cons_append, List.nil_append, List.getElem?_cons_succ, List.getElem?_cons_zero, List.set_cons_succ, List.set_cons_zero, Option.some.injEq, V.int.injEq, V.bl.injEq, V.str.injEq, V.ref.injEq, V.ty.injEq, List.cons.injEq, and_true, true_and, exists_eq_left, exists_eq_left', exists_and_left, exists_eq', exists_const, exists_and_right, exists_eq_right, exists_eq_right', reduceCtorEq, false_and, and_false, exists_false, or_false, false_or, decide_eq_true_eq, Bool.not_eq_true', decide_eq_false_iff_not, Bool.false_eq_true, if_false, if_true, mk_app, mk_len, sg_mk, mk_one, decide_true, decide_false, Bool.not_true, Bool.not_false, ite_true, ite_false, not_true_eq_false, not_false_eq_true, cxK, cutTo1, cutFrom1, mk_iff, tyV_str, stComp, List.map_cons, List.map_nil, Option.join_some, Option.join_none, gt_iff_lt, ge_iff_le, tRaise, tTryR, tCallH, tDisp, tPairs, tFld, sFld, tMake, tMeth, tAug, ipI, tDead, tBM0, if_false_right, and_self]
    have etl := S' _ _ etl
    have S := S.trans S'
    have FF : ImgAt T.x_Image p m ks bs fs (upd H14 tl (.lst [])) := ⟨dx2, s2, b2, f2, ts2, keepU (S' _ _ ep) ptl, keepU (S' _ _ es2) stl, fun e he => keepU (S' _ _ (hts2 e he)) (ne_of (S' _ _ (hts2 e he)) etl (by intro z; cases z)), ek2, keepU (S' _ _ eb2) btl, keepU (S' _ _ ef2) ftl⟩
    clear S' ep es2 hts2 ek2 eb2 ef2 ptl stl btl ftl
    subst hB
    refine tSeq_gen fun B hB => ?_
    simp only [tSeq, tIfS, tRet, tRetN, tC, tVar, tOp, tUn, tTest, tB, tAnd, tOr, tNot, tAndV, tOrV, tNotV, tIf, tChain, tCons, tNil, tCall, tCB, tLst, tTup, tSl, tNoPart, tPart, gName, tNext, tDrop, tAsg, tAsgC, tBM, tYes, tDNewK, rI, rI0, rU, rEq, rNe, rAbs, rIntT, CDiv, add_ii, add_ss, mul_ii, mul_si, ix_si, eq_ii, eq_ss, eq_bb, ne_ii, ne_ss, ne_ni, ne_in, in_s1, notin_s1, is_xn, is_bb, isnot_xn, isnot_bb, sl_s, len_s, find_ss, index_ss, List.append_nil, List.cons_append, List.nil_append, List.getElem?_cons_succ, List.getElem?_cons_zero, List.set_cons_succ, List.set_cons_zero, Option.some.injEq, V.int.injEq, V.bl.injEq, V.str.injEq, V.ref.injEq, V.ty.injEq, List.cons.injEq, and_true, true_and, exists_eq_left, exists_eq_left', exists_and_left, exists_eq', exists_const, exists_and_right, exists_eq_right, exists_eq_right', reduceCtorEq, false_and, and_false, exists_false, or_false, false_or, decide_eq_true_eq, Bool.not_eq_true', decide_eq_false_iff_not, Bool.false_eq_true, if_false, if_true, mk_app, mk_len, sg_mk, mk_one, decide_true, decide_false, Bool.not_true, Bool.not_false, ite_true, ite_false, not_true_eq_false, not_false_eq_true, cxK, cutTo1, cutFrom1, mk_iff, tyV_str, stComp, List.map_cons, List.map_nil, Option.join_some, Option.join_none, gt_iff_lt, ge_iff_le, tRaise, tTryR, tCallH, tDisp, tPairs, tFld, sFld, tMake, tMeth, tAug, ipI, tDead, tBM0, if_false_right, and_self]
    refine ⟨tyV_lst (SqL.of etl), tl, _, rfl, rfl, etl, ?_⟩
    have S := Same.set S ntl8 (o := .lst [])
    generalize upd H14 tl (.lst []) = H15 at S FF ⊢
    clear etl ntl8
    have ed := S _ _ ed
    have TT := TT.same S
    have II := II.same S
    clear S
    subst hB
    refine tSeq_gen fun B hB => ?_
    simp only [tSeq, tIfS, tRet, tRetN, tC, tVar, tOp, tUn, tTest, tB, tAnd, tOr, tNot, tAndV, tOrV, tNotV, tIf, tChain, tCons, tNil, tCall, tCB, tLst, tTup, tSl, tNoPart, tPart, gName, tNext, tDrop, tAsg, tAsgC, tBM, tYes, tDNewK, rI, rI0, rU, rEq, rNe, rAbs, rIntT, CDiv, add_ii, add_ss, mul_ii, mul_si, ix_si, eq_ii, eq_ss, eq_bb, ne_ii, ne_ss, ne_ni, ne_in, in_s1, notin_s1, is_xn, is_bb, isnot_xn, isnot_bb, sl_s, len_s, find_ss, index_ss, List.append_nil, List.cons_append, List.nil_append, List.getElem?_cons_succ, List.getElem?_cons_zero, List.set_cons_succ, List.set_cons_zero, Option.some.injEq, V.int.injEq, V.bl.injEq, V.str.injEq, V.ref.injEq, V.ty.injEq, List.cons.injEq, and_true, true_and, exists_eq_left, exists_eq_left', exists_and_left, exists_eq', exists_const, exists_and_right, exists_eq_right, exists_eq_right', reduceCtorEq, false_and, and_false, exists_false, or_false, false_or, decide_eq_true_eq, Bool.not_eq_true', decide_eq_false_iff_not, Bool.false_eq_true, if_false, if_true, mk_app, mk_len, sg_mk, mk_one, decide_true, decide_false, Bool.not_true, Bool.not_false, ite_true, ite_false, not_true_eq_false, not_false_eq_true, cxK, cutTo1, cutFrom1, mk_iff, tyV_str, stComp, List.map_cons, List.map_nil, Option.join_some, Option.join_none, gt_iff_lt, ge_iff_le, tRaise, tTryR, tCallH, tDisp, tPairs, tFld, sFld, tMake, tMeth, tAug, ipI, tDead, tBM0, if_false_right, and_self]
    refine listL (SqL.of ed) fun l2 nl2 => ?_
    have S := Same.refl H15
    have t0 := Same.upd (Same.refl H15) nl2 (o := .lst ((dueF m ks bs fs).map V.int))
    have el2 : upd H15 l2 (.lst ((dueF m ks bs fs).map V.int)) l2 = some (.lst ((dueF m ks bs fs).map V.int)) := upd_same
    generalize upd H15 l2 (.lst ((dueF m ks bs fs).map V.int)) = H16 at t0 el2 ⊢
    have S := S.trans t0
    clear t0
    refine ⟨l2, m, ks, bs, fs, n, k, rfl, el2, gi, fun p3 dx3 s3 b3 f3 ts3 H17 np3 ns3 nb3 nf3 S' ep3 es3 hts3 ek3 eb3 ef3 => ?_⟩
    have bp : b3 ≠ p3 := ne_ins ep3 eb3 (by intro _ _ _ z; cases z)
    have nb3 := S.no nb3
    have ns3 := S.no ns3
    have S := S.trans S'
    clear S' hts3 ek3 ef3 np3 nf3 el2
    subst hB
    refine tSeq_gen fun B hB => ?_
    simp only [tSeq, tIfS, tRet, tRetN, tC, tVar, tOp, tUn, tTest, tB, tAnd, tOr, tNot, tAndV, tOrV, tNotV, tIf, tChain, tCons, tNil, tCall, tCB, tLst, tTup, tSl, tNoPart, tPart, gName, tNext, tDrop, tAsg, tAsgC, tBM, tYes, tDNewK, rI, rI0, rU, rEq, rNe, rAbs, rIntT, CDiv, add_ii, add_ss, mul_ii, mul_si, ix_si, eq_ii, eq_ss, eq_bb, ne_ii, ne_ss, ne_ni, ne_in, in_s1, notin_s1, is_xn, is_bb, isnot_xn, isnot_bb, sl_s, len_s, find_ss, index_ss, List.append_nil, List.cons_append, List.nil_append, List.getElem?_cons_succ, List.getElem?_cons_zero, List.set_cons_succ, List.set_cons_zero, Option.some.injEq, V.int.injEq, V.bl.injEq, V.str.injEq, V.ref.injEq, V.ty.injEq, List.cons.injEq, and_true, true_and, exists_eq_left, exists_eq_left', exists_and_left, exists_eq', exists_const, exists_and_right, exists_eq_right, exists_eq_right', reduceCtorEq, false_and, and_false, exists_false, or_false, false_or, decide_eq_true_eq, Bool.not_eq_true', decide_eq_false_iff_not, Bool.false_eq_true, if_false, if_true, mk_app, mk_len, sg_mk, mk_one, decide_true, decide_false, Bool.not_true, Bool.not_false, ite_true, ite_false, not_true_eq_false, not_false_eq_true, cxK, cutTo1, cutFrom1, mk_iff, tyV_str, stComp, List.map_cons, List.map_nil, Option.join_some, Option.join_none, gt_iff_lt, ge_iff_le, tRaise, tTryR, tCallH, tDisp, tPairs, tFld, sFld, tMake, tMeth, tAug, ipI, tDead, tBM0, if_false_right, and_self]
    refine ⟨_, dx3, _, ep3, cI, NB, _, fI_body _ _ _ _, tyV_lst (SqL.of eb3), appL eb3 (szl (by have := gi.bl; omega)) ?_⟩
    have S := Same.set S nb3 (o := .lst (bs.map V.int ++ [V.int 1]))
    have ep3 := keepU ep3 bp.symm (o := .lst (bs.map V.int ++ [V.int 1]))
    obtain ⟨ys, es3⟩ : ∃ ys, upd H17 b3 (.lst (bs.map V.int ++ [V.int 1])) s3 = some (.lst ys) := by
      by_cases z : s3 = b3
      · rw [z, upd_same]; exact ⟨_, rfl⟩
      · rw [upd_ne z]; exact ⟨_, es3⟩
    generalize upd H17 b3 (.lst (bs.map V.int ++ [V.int 1])) = H18 at S ep3 es3 ⊢
    clear eb3 bp nb3
    subst hB
    refine tSeq_gen fun B hB => ?_
    simp only [tSeq, tIfS, tRet, tRetN, tC, tVar, tOp, tUn, tTest, tB, tAnd, tOr, tNot, tAndV, tOrV, tNotV, tIf, tChain, tCons, tNil, tCall, tCB, tLst, tTup, tSl, tNoPart, tPart, gName, tNext, tDrop, tAsg, tAsgC, tBM, tYes, tDNewK, rI, rI0, rU, rEq, rNe, rAbs, rIntT, CDiv, add_ii, add_ss, mul_ii, mul_si, ix_si, eq_ii, eq_ss, eq_bb, ne_ii, ne_ss, ne_ni, ne_in, in_s1, notin_s1, is_xn, is_bb, isnot_xn, isnot_bb, sl_s, len_s, find_ss, index_ss, List.append_nil, List.cons_append, List.nil_append, List.getElem?_cons_succ, List.getElem?_cons_zero, List.set_cons_succ, List.set_cons_zero, Option.some.injEq, V.int.injEq, V.bl.injEq, V.str.injEq, V.ref.injEq, V.ty.injEq, List.cons.injEq, and_true, true_and, exists_eq_left, exists_eq_left', exists_and_left, exists_eq', exists_const, exists_and_right, exists_eq_right, exists_eq_right', reduceCtorEq, false_and, and_false, exists_false, or_false, false_or, decide_eq_true_eq, Bool.not_eq_true', decide_eq_false_iff_not, Bool.false_eq_true, if_false, if_true, mk_app, mk_len, sg_mk, mk_one, decide_true, decide_false, Bool.not_true, Bool.not_false, ite_true, ite_false, not_true_eq_false, not_false_eq_true, cxK, cutTo1, cutFrom1, mk_iff, tyV_str, stComp, List.map_cons, List.map_nil, Option.join_some, Option.join_none, gt_iff_lt, ge_iff_le, tRaise, tTryR, tCallH, tDisp, tPairs, tFld, sFld, tMake, tMeth, tAug, ipI, tDead, tBM0, if_false_right, and_self]
    refine ⟨_, dx3, _, ep3, cI, NX, _, fI_sections _ _ _ _, tyV_lst (SqL.of es3), s3, _, rfl, rfl, es3, ?_⟩
    have S := Same.set S ns3 (o := .lst [])
    generalize upd H18 s3 (.lst []) = H19 at S ⊢
    have ed := S _ _ ed
    have TT := TT.same S
    have II := II.same S
    have FF := FF.same S
    clear S ep3 es3 ns3
    subst hB
    simp only [tSeq, tIfS, tRet, tRetN, tC, tVar, tOp, tUn, tTest, tB, tAnd, tOr, tNot, tAndV, tOrV, tNotV, tIf, tChain, tCons, tNil, tCall, tCB, tLst, tTup, tSl, tNoPart, tPart, gName, tNext, tDrop, tAsg, tAsgC, tBM, tYes, tDNewK, rI, rI0, rU, rEq, rNe, rAbs, rIntT, CDiv, add_ii, add_ss, mul_ii, mul_si, ix_si, eq_ii, eq_ss, eq_bb, ne_ii, ne_ss, ne_ni, ne_in, in_s1, notin_s1, is_xn, is_bb, isnot_xn, isnot_bb, sl_s, len_s, find_ss, index_ss, List.append_nil, List.cons_append, List.nil_append, List.getElem?_cons_succ, List.getElem?_cons_zero, List.set_cons_succ, List.set_cons_zero, Option.some.injEq, V.int.injEq, V.bl.injEq, V.str.injEq, V.ref.injEq, V.ty.injEq, List.cons.injEq, and_true, true_and, exists_eq_left, exists_eq_left', exists_and_left, exists_eq', exists_const, exists_and_right, exists_eq_right, exists_eq_right', reduceCtorEq, false_and, and_false, exists_false, or_false, false_or, decide_eq_true_eq, Bool.not_eq_true', decide_eq_false_iff_not, Bool.false_eq_true, if_false, if_true, mk_app, mk_len, sg_mk, mk_one, decide_true, decide_false, Bool.not_true, Bool.not_false, ite_true, ite_false, not_true_eq_false, not_false_eq_true, cxK, cutTo1, cutFrom1, mk_iff, tyV_str, stComp, List.map_cons, List.map_nil, Option.join_some, Option.join_none, gt_iff_lt, ge_iff_le, tRaise, tTryR, tCallH, tDisp, tPairs, tFld, sFld, tMake, tMeth, tAug, ipI, tDead, tBM0, if_false_right, and_self]
    refine ⟨p, m, ks, bs, fs, n, k, rfl, FF, gi, fun l4 H20 nl4 S el4 => eqLL_same el4 (S _ _ ed) (flat_ints _) ?_⟩
    simp only [tSeq, tIfS, tRet, tRetN, tC, tVar, tOp, tUn, tTest, tB, tAnd, tOr, tNot, tAndV, tOrV, tNotV, tIf, tChain, tCons, tNil, tCall, tCB, tLst, tTup, tSl, tNoPart, tPart, gName, tNext, tDrop, tAsg, tAsgC, tBM, tYes, tDNewK, rI, rI0, rU, rEq, rNe, rAbs, rIntT, CDiv, add_ii, add_ss, mul_ii, mul_si, ix_si, eq_ii, eq_ss, eq_bb, ne_ii, ne_ss, ne_ni, ne_in, in_s1, notin_s1, is_xn, is_bb, isnot_xn, isnot_bb, sl_s, len_s, find_ss, index_ss, List.append_nil, List.cons_append, List.nil_append, List.getElem?_cons_succ, List.getElem?_cons_zero, List.set_cons_succ, List.set_cons_zero, Option.some.injEq, V.int.injEq, V.bl.injEq, V.str.injEq, V.ref.injEq, V.ty.injEq, List.cons.injEq, and_true, true_and, exists_eq_left, exists_eq_left', exists_and_left, exists_eq', exists_const, exists_and_right, exists_eq_right, exists_eq_right', reduceCtorEq, false_and, and_false, exists_false, or_false, false_or, decide_eq_true_eq, Bool.not_eq_true', decide_eq_false_iff_not, Bool.false_eq_true, if_false, if_true, mk_app, mk_len, sg_mk, mk_one, decide_true, decide_false, Bool.not_true, Bool.not_false, ite_true, ite_false, not_true_eq_false, not_false_eq_true, cxK, cutTo1, cutFrom1, mk_iff, tyV_str, stComp, List.map_cons, List.map_nil, Option.join_some, Option.join_none, gt_iff_lt, ge_iff_le, tRaise, tTryR, tCallH, tDisp, tPairs, tFld, sFld, tMake, tMeth, tAug, ipI, tDead, tBM0, if_false_right, and_self]
    refine ⟨x, m, ks, bs, fs, n, k, rfl, II.same S, gi, fun l5 H21 nl5 S' el5 => eqLL_same el5 ((S.trans S') _ _ ed) (flat_ints _) ?_⟩
    simp only [tSeq, tIfS, tRet, tRetN, tC, tVar, tOp, tUn, tTest, tB, tAnd, tOr, tNot, tAndV, tOrV, tNotV, tIf, tChain, tCons, tNil, tCall, tCB, tLst, tTup, tSl, tNoPart, tPart, gName, tNext, tDrop, tAsg, tAsgC, tBM, tYes, tDNewK, rI, rI0, rU, rEq, rNe, rAbs, rIntT, CDiv, add_ii, add_ss, mul_ii, mul_si, ix_si, eq_ii, eq_ss, eq_bb, ne_ii, ne_ss, ne_ni, ne_in, in_s1, notin_s1, is_xn, is_bb, isnot_xn, isnot_bb, sl_s, len_s, find_ss, index_ss, List.append_nil, List.cons_append, List.nil_append, List.getElem?_cons_succ, List.getElem?_cons_zero, List.set_cons_succ, List.set_cons_zero, Option.some.injEq, V.int.injEq, V.bl.injEq, V.str.injEq, V.ref.injEq, V.ty.injEq, List.cons.injEq, and_true, true_and, exists_eq_left, exists_eq_left', exists_and_left, exists_eq', exists_const, exists_and_right, exists_eq_right, exists_eq_right', reduceCtorEq, false_and, and_false, exists_false, or_false, false_or, decide_eq_true_eq, Bool.not_eq_true', decide_eq_false_iff_not, Bool.false_eq_true, if_false, if_true, mk_app, mk_len, sg_mk, mk_one, decide_true, decide_false, Bool.not_true, Bool.not_false, ite_true, ite_false, not_true_eq_false, not_false_eq_true, cxK, cutTo1, cutFrom1, mk_iff, tyV_str, stComp, List.map_cons, List.map_nil, Option.join_some, Option.join_none, gt_iff_lt, ge_iff_le, tRaise, tTryR, tCallH, tDisp, tPairs, tFld, sFld, tMake, tMeth, tAug, ipI, tDead, tBM0, if_false_right, and_self]
    exact ⟨p, t, m, ks, bs, fs, rfl, FF.same (S.trans S'), TT.same (S.trans S'), gi.kd, l6, fun H' _ => q H'⟩
end
theorem len_s {us : List Value} {n : Nat} (h : us.length = n + 1) : ∃ a r, us = a :: r ∧ r.length = n := by
  cases us with
  | nil => cases h
  | cons a r => exact ⟨a, r, rfl, Nat.succ.inj h⟩
theorem len_z {us : List Value} (h : us.length = 0) : us = [] := by
  cases us with
  | nil => rfl
  | cons a r => cases h
theorem len_is1 {us : List Value} (h : us.length = 1) : ∃ a0, us = [a0] := by
  obtain ⟨a0, u0, rfl, h0⟩ := len_s h
  obtain rfl := len_z h0
  exact ⟨a0, rfl⟩
theorem len_is2 {us : List Value} (h : us.length = 2) : ∃ a0 a1, us = [a0, a1] := by
  obtain ⟨a0, u0, rfl, h0⟩ := len_s h
  obtain ⟨a1, u1, rfl, h1⟩ := len_s h0
  obtain rfl := len_z h1
  exact ⟨a0, a1, rfl⟩
theorem len_is5 {us : List Value} (h : us.length = 5) : ∃ a0 a1 a2 a3 a4, us = [a0, a1, a2, a3, a4] := by
  obtain ⟨a0, u0, rfl, h0⟩ := len_s h
  obtain ⟨a1, u1, rfl, h1⟩ := len_s h0
  obtain ⟨a2, u2, rfl, h2⟩ := len_s h1
  obtain ⟨a3, u3, rfl, h3⟩ := len_s h2
  obtain ⟨a4, u4, rfl, h4⟩ := len_s h3
  obtain rfl := len_z h4
  exact ⟨a0, a1, a2, a3, a4, rfl⟩
theorem all_mk {l : PySem.W.OpenLaw} {w : World} {K : PySem.W.Frag} {h : Heap} {mg : Str → Option Value} {fa : Addr} (X : K.In h) (G : h.Ns mainGlobals mg) (hfa : mg "law" = some (.ref fa))
    {f0 : Addr} {od0 an0 : Option Addr} {sl0 : Array (Option Value)} {oc0 kV0 dc0 pm0 cd0 ct0 : Value}
    {f1 : Addr} {od1 an1 : Option Addr} {sl1 : Array (Option Value)} {oc1 kV1 dc1 pm1 cd1 ct1 : Value}
    {f2 : Addr} {od2 an2 : Option Addr} {sl2 : Array (Option Value)} {oc2 kV2 dc2 pm2 cd2 ct2 : Value}
    {f3 : Addr} {od3 an3 : Option Addr} {sl3 : Array (Option Value)} {oc3 kV3 dc3 pm3 cd3 ct3 : Value}
    {f4 : Addr} {od4 an4 : Option Addr} {sl4 : Array (Option Value)} {oc4 kV4 dc4 pm4 cd4 ct4 : Value}
    {t4 : Addr} {to4 : Value} {td4 : Option Addr} {tn4 : Nat} {ts4 : Array (Option Value)} {k4_0 : Tok}
    {f5 : Addr} {od5 an5 : Option Addr} {sl5 : Array (Option Value)} {oc5 kV5 dc5 pm5 cd5 ct5 : Value}
    {f6 : Addr} {od6 an6 : Option Addr} {sl6 : Array (Option Value)} {oc6 kV6 dc6 pm6 cd6 ct6 : Value}
    {f7 : Addr} {od7 an7 : Option Addr} {sl7 : Array (Option Value)} {oc7 kV7 dc7 pm7 cd7 ct7 : Value}
    {f8 : Addr} {od8 an8 : Option Addr} {sl8 : Array (Option Value)} {oc8 kV8 dc8 pm8 cd8 ct8 : Value}
    {f9 : Addr} {od9 an9 : Option Addr} {sl9 : Array (Option Value)} {oc9 kV9 dc9 pm9 cd9 ct9 : Value}
    {f10 : Addr} {od10 an10 : Option Addr} {sl10 : Array (Option Value)} {oc10 kV10 dc10 pm10 cd10 ct10 : Value}
    {f11 : Addr} {od11 an11 : Option Addr} {sl11 : Array (Option Value)} {oc11 kV11 dc11 pm11 cd11 ct11 : Value}
    {f12 : Addr} {od12 an12 : Option Addr} {sl12 : Array (Option Value)} {oc12 kV12 dc12 pm12 cd12 ct12 : Value}
    {f13 : Addr} {od13 an13 : Option Addr} {sl13 : Array (Option Value)} {oc13 kV13 dc13 pm13 cd13 ct13 : Value}
    {f14 : Addr} {od14 an14 : Option Addr} {sl14 : Array (Option Value)} {oc14 kV14 dc14 pm14 cd14 ct14 : Value}
    {f15 : Addr} {od15 an15 : Option Addr} {sl15 : Array (Option Value)} {oc15 kV15 dc15 pm15 cd15 ct15 : Value}
    {f16 : Addr} {od16 an16 : Option Addr} {sl16 : Array (Option Value)} {oc16 kV16 dc16 pm16 cd16 ct16 : Value}
    {f17 : Addr} {od17 an17 : Option Addr} {sl17 : Array (Option Value)} {oc17 kV17 dc17 pm17 cd17 ct17 : Value}
    {f18 : Addr} {od18 an18 : Option Addr} {sl18 : Array (Option Value)} {oc18 kV18 dc18 pm18 cd18 ct18 : Value}
    {f19 : Addr} {od19 an19 : Option Addr} {sl19 : Array (Option Value)} {oc19 kV19 dc19 pm19 cd19 ct19 : Value}
    {f20 : Addr} {od20 an20 : Option Addr} {sl20 : Array (Option Value)} {oc20 kV20 dc20 pm20 cd20 ct20 : Value}
    {f21 : Addr} {od21 an21 : Option Addr} {sl21 : Array (Option Value)} {oc21 kV21 dc21 pm21 cd21 ct21 : Value}
    {f22 : Addr} {od22 an22 : Option Addr} {sl22 : Array (Option Value)} {oc22 kV22 dc22 pm22 cd22 ct22 : Value}
    {f23 : Addr} {od23 an23 : Option Addr} {sl23 : Array (Option Value)} {oc23 kV23 dc23 pm23 cd23 ct23 : Value}
    {f24 : Addr} {od24 an24 : Option Addr} {sl24 : Array (Option Value)} {oc24 kV24 dc24 pm24 cd24 ct24 : Value}
    {f25 : Addr} {od25 an25 : Option Addr} {sl25 : Array (Option Value)} {oc25 kV25 dc25 pm25 cd25 ct25 : Value}
    {f26 : Addr} {od26 an26 : Option Addr} {sl26 : Array (Option Value)} {oc26 kV26 dc26 pm26 cd26 ct26 : Value}
    {f27 : Addr} {od27 an27 : Option Addr} {sl27 : Array (Option Value)} {oc27 kV27 dc27 pm27 cd27 ct27 : Value}
    {f28 : Addr} {od28 an28 : Option Addr} {sl28 : Array (Option Value)} {oc28 kV28 dc28 pm28 cd28 ct28 : Value}
    {f29 : Addr} {od29 an29 : Option Addr} {sl29 : Array (Option Value)} {oc29 kV29 dc29 pm29 cd29 ct29 : Value}
    {f30 : Addr} {od30 an30 : Option Addr} {sl30 : Array (Option Value)} {oc30 kV30 dc30 pm30 cd30 ct30 : Value}
    {f31 : Addr} {od31 an31 : Option Addr} {sl31 : Array (Option Value)} {oc31 kV31 dc31 pm31 cd31 ct31 : Value}
    {f32 : Addr} {od32 an32 : Option Addr} {sl32 : Array (Option Value)} {oc32 kV32 dc32 pm32 cd32 ct32 : Value}
    {f33 : Addr} {od33 an33 : Option Addr} {sl33 : Array (Option Value)} {oc33 kV33 dc33 pm33 cd33 ct33 : Value}
    {u_MOST_BYTE : Value}
    {u_FIRST_CHECK : Value}
    {u_LAID_OVER : Value}
    {u_MOST_BYTES : Value}
    {x_KINDS : Addr} {ti_KINDS : Array Value} {tn_KINDS : Nat} {ts_KINDS : Array (Option Value)}
    {x_MARK : Addr} {ti_MARK : Array Value} {tn_MARK : Nat} {ts_MARK : Array (Option Value)}
    {x_Image : Addr}
    {x_Reader : Addr}
    (a0 : PySem.W.nsIn K mainGlobals "is_number_up_to" = some (some (.ref f0)))
    (l0 : K.lookup f0 = some ⟨oc0, od0, .func (PySem.W.fnOf "is_number_up_to" "is_number_up_to" (defArgs s_is_number_up_to) (defBody s_is_number_up_to) (defScope s_is_number_up_to) .none kV0 dc0 pm0 an0 cd0 ct0), sl0⟩)
    (c0 : PySem.W.codeIn K cd0 "is_number_up_to" = true) (k0 : PySem.W.keepIn K (.ref f0) = true)
    (a1 : PySem.W.nsIn K mainGlobals "is_byte" = some (some (.ref f1)))
    (l1 : K.lookup f1 = some ⟨oc1, od1, .func (PySem.W.fnOf "is_byte" "is_byte" (defArgs s_is_byte) (defBody s_is_byte) (defScope s_is_byte) .none kV1 dc1 pm1 an1 cd1 ct1), sl1⟩)
    (c1 : PySem.W.codeIn K cd1 "is_byte" = true) (k1 : PySem.W.keepIn K (.ref f1) = true)
    (a2 : PySem.W.nsIn K mainGlobals "need_bytes" = some (some (.ref f2)))
    (l2 : K.lookup f2 = some ⟨oc2, od2, .func (PySem.W.fnOf "need_bytes" "need_bytes" (defArgs s_need_bytes) (defBody s_need_bytes) (defScope s_need_bytes) .none kV2 dc2 pm2 an2 cd2 ct2), sl2⟩)
    (c2 : PySem.W.codeIn K cd2 "need_bytes" = true) (k2 : PySem.W.keepIn K (.ref f2) = true)
    (a3 : PySem.W.nsIn K mainGlobals "two_of" = some (some (.ref f3)))
    (l3 : K.lookup f3 = some ⟨oc3, od3, .func (PySem.W.fnOf "two_of" "two_of" (defArgs s_two_of) (defBody s_two_of) (defScope s_two_of) .none kV3 dc3 pm3 an3 cd3 ct3), sl3⟩)
    (c3 : PySem.W.codeIn K cd3 "two_of" = true) (k3 : PySem.W.keepIn K (.ref f3) = true)
    (a4 : PySem.W.nsIn K mainGlobals "word_in" = some (some (.ref f4)))
    (l4 : K.lookup f4 = some ⟨oc4, od4, .func (PySem.W.fnOf "word_in" "word_in" (defArgs s_word_in) (defBody s_word_in) (defScope s_word_in) (.ref t4) kV4 dc4 pm4 an4 cd4 ct4), sl4⟩)
    (c4 : PySem.W.codeIn K cd4 "word_in" = true) (k4 : PySem.W.keepIn K (.ref f4) = true)
    (t4_is : K.lookup t4 = some ⟨to4, td4, .seq #[.int 0 k4_0] tn4, ts4⟩)
    (a5 : PySem.W.nsIn K mainGlobals "one_bit_left" = some (some (.ref f5)))
    (l5 : K.lookup f5 = some ⟨oc5, od5, .func (PySem.W.fnOf "one_bit_left" "one_bit_left" (defArgs s_one_bit_left) (defBody s_one_bit_left) (defScope s_one_bit_left) .none kV5 dc5 pm5 an5 cd5 ct5), sl5⟩)
    (c5 : PySem.W.codeIn K cd5 "one_bit_left" = true) (k5 : PySem.W.keepIn K (.ref f5) = true)
    (a6 : PySem.W.nsIn K mainGlobals "check_of" = some (some (.ref f6)))
    (l6 : K.lookup f6 = some ⟨oc6, od6, .func (PySem.W.fnOf "check_of" "check_of" (defArgs s_check_of) (defBody s_check_of) (defScope s_check_of) .none kV6 dc6 pm6 an6 cd6 ct6), sl6⟩)
    (c6 : PySem.W.codeIn K cd6 "check_of" = true) (k6 : PySem.W.keepIn K (.ref f6) = true)
    (a7 : PySem.W.nsIn K mainGlobals "sealed" = some (some (.ref f7)))
    (l7 : K.lookup f7 = some ⟨oc7, od7, .func (PySem.W.fnOf "sealed" "sealed" (defArgs s_sealed) (defBody s_sealed) (defScope s_sealed) .none kV7 dc7 pm7 an7 cd7 ct7), sl7⟩)
    (c7 : PySem.W.codeIn K cd7 "sealed" = true) (k7 : PySem.W.keepIn K (.ref f7) = true)
    (a8 : PySem.W.nsIn K mainGlobals "opened" = some (some (.ref f8)))
    (l8 : K.lookup f8 = some ⟨oc8, od8, .func (PySem.W.fnOf "opened" "opened" (defArgs s_opened) (defBody s_opened) (defScope s_opened) .none kV8 dc8 pm8 an8 cd8 ct8), sl8⟩)
    (c8 : PySem.W.codeIn K cd8 "opened" = true) (k8 : PySem.W.keepIn K (.ref f8) = true)
    (a9 : PySem.W.findIn K (.ref x_Image) "__init__" = some (some (.ref f9))) (i9 : PySem.W.isFn K (.ref f9) = true)
    (l9 : K.lookup f9 = some ⟨oc9, od9, .func (PySem.W.fnOf "__init__" "Image.__init__" (defArgs s_Image___init__) (defBody s_Image___init__) (defScope s_Image___init__) .none kV9 dc9 pm9 an9 cd9 ct9), sl9⟩)
    (c9 : PySem.W.codeIn K cd9 "Image.__init__" = true) (k9 : PySem.W.keepIn K (.ref f9) = true)
    (a10 : PySem.W.nsIn K mainGlobals "need" = some (some (.ref f10)))
    (l10 : K.lookup f10 = some ⟨oc10, od10, .func (PySem.W.fnOf "need" "need" (defArgs s_need) (defBody s_need) (defScope s_need) .none kV10 dc10 pm10 an10 cd10 ct10), sl10⟩)
    (c10 : PySem.W.codeIn K cd10 "need" = true) (k10 : PySem.W.keepIn K (.ref f10) = true)
    (a11 : PySem.W.findIn K (.ref x_Reader) "__init__" = some (some (.ref f11))) (i11 : PySem.W.isFn K (.ref f11) = true)
    (l11 : K.lookup f11 = some ⟨oc11, od11, .func (PySem.W.fnOf "__init__" "Reader.__init__" (defArgs s_Reader___init__) (defBody s_Reader___init__) (defScope s_Reader___init__) .none kV11 dc11 pm11 an11 cd11 ct11), sl11⟩)
    (c11 : PySem.W.codeIn K cd11 "Reader.__init__" = true) (k11 : PySem.W.keepIn K (.ref f11) = true)
    (a12 : PySem.W.findIn K (.ref x_Reader) "several" = some (some (.ref f12))) (i12 : PySem.W.isFn K (.ref f12) = true)
    (l12 : K.lookup f12 = some ⟨oc12, od12, .func (PySem.W.fnOf "several" "Reader.several" (defArgs s_Reader_several) (defBody s_Reader_several) (defScope s_Reader_several) .none kV12 dc12 pm12 an12 cd12 ct12), sl12⟩)
    (c12 : PySem.W.codeIn K cd12 "Reader.several" = true) (k12 : PySem.W.keepIn K (.ref f12) = true)
    (a13 : PySem.W.findIn K (.ref x_Reader) "byte" = some (some (.ref f13))) (i13 : PySem.W.isFn K (.ref f13) = true)
    (l13 : K.lookup f13 = some ⟨oc13, od13, .func (PySem.W.fnOf "byte" "Reader.byte" (defArgs s_Reader_byte) (defBody s_Reader_byte) (defScope s_Reader_byte) .none kV13 dc13 pm13 an13 cd13 ct13), sl13⟩)
    (c13 : PySem.W.codeIn K cd13 "Reader.byte" = true) (k13 : PySem.W.keepIn K (.ref f13) = true)
    (a14 : PySem.W.findIn K (.ref x_Reader) "two" = some (some (.ref f14))) (i14 : PySem.W.isFn K (.ref f14) = true)
    (l14 : K.lookup f14 = some ⟨oc14, od14, .func (PySem.W.fnOf "two" "Reader.two" (defArgs s_Reader_two) (defBody s_Reader_two) (defScope s_Reader_two) .none kV14 dc14 pm14 an14 cd14 ct14), sl14⟩)
    (c14 : PySem.W.codeIn K cd14 "Reader.two" = true) (k14 : PySem.W.keepIn K (.ref f14) = true)
    (a15 : PySem.W.findIn K (.ref x_Reader) "need_mark" = some (some (.ref f15))) (i15 : PySem.W.isFn K (.ref f15) = true)
    (l15 : K.lookup f15 = some ⟨oc15, od15, .func (PySem.W.fnOf "need_mark" "Reader.need_mark" (defArgs s_Reader_need_mark) (defBody s_Reader_need_mark) (defScope s_Reader_need_mark) .none kV15 dc15 pm15 an15 cd15 ct15), sl15⟩)
    (c15 : PySem.W.codeIn K cd15 "Reader.need_mark" = true) (k15 : PySem.W.keepIn K (.ref f15) = true)
    (a16 : PySem.W.findIn K (.ref x_Reader) "need_end" = some (some (.ref f16))) (i16 : PySem.W.isFn K (.ref f16) = true)
    (l16 : K.lookup f16 = some ⟨oc16, od16, .func (PySem.W.fnOf "need_end" "Reader.need_end" (defArgs s_Reader_need_end) (defBody s_Reader_need_end) (defScope s_Reader_need_end) .none kV16 dc16 pm16 an16 cd16 ct16), sl16⟩)
    (c16 : PySem.W.codeIn K cd16 "Reader.need_end" = true) (k16 : PySem.W.keepIn K (.ref f16) = true)
    (a17 : PySem.W.nsIn K mainGlobals "image_bytes" = some (some (.ref f17)))
    (l17 : K.lookup f17 = some ⟨oc17, od17, .func (PySem.W.fnOf "image_bytes" "image_bytes" (defArgs s_image_bytes) (defBody s_image_bytes) (defScope s_image_bytes) .none kV17 dc17 pm17 an17 cd17 ct17), sl17⟩)
    (c17 : PySem.W.codeIn K cd17 "image_bytes" = true) (k17 : PySem.W.keepIn K (.ref f17) = true)
    (a18 : PySem.W.nsIn K mainGlobals "section_read" = some (some (.ref f18)))
    (l18 : K.lookup f18 = some ⟨oc18, od18, .func (PySem.W.fnOf "section_read" "section_read" (defArgs s_section_read) (defBody s_section_read) (defScope s_section_read) .none kV18 dc18 pm18 an18 cd18 ct18), sl18⟩)
    (c18 : PySem.W.codeIn K cd18 "section_read" = true) (k18 : PySem.W.keepIn K (.ref f18) = true)
    (a19 : PySem.W.nsIn K mainGlobals "need_codes_ahead" = some (some (.ref f19)))
    (l19 : K.lookup f19 = some ⟨oc19, od19, .func (PySem.W.fnOf "need_codes_ahead" "need_codes_ahead" (defArgs s_need_codes_ahead) (defBody s_need_codes_ahead) (defScope s_need_codes_ahead) .none kV19 dc19 pm19 an19 cd19 ct19), sl19⟩)
    (c19 : PySem.W.codeIn K cd19 "need_codes_ahead" = true) (k19 : PySem.W.keepIn K (.ref f19) = true)
    (a20 : PySem.W.nsIn K mainGlobals "size_of" = some (some (.ref f20)))
    (l20 : K.lookup f20 = some ⟨oc20, od20, .func (PySem.W.fnOf "size_of" "size_of" (defArgs s_size_of) (defBody s_size_of) (defScope s_size_of) .none kV20 dc20 pm20 an20 cd20 ct20), sl20⟩)
    (c20 : PySem.W.codeIn K cd20 "size_of" = true) (k20 : PySem.W.keepIn K (.ref f20) = true)
    (a21 : PySem.W.nsIn K mainGlobals "codes_of" = some (some (.ref f21)))
    (l21 : K.lookup f21 = some ⟨oc21, od21, .func (PySem.W.fnOf "codes_of" "codes_of" (defArgs s_codes_of) (defBody s_codes_of) (defScope s_codes_of) .none kV21 dc21 pm21 an21 cd21 ct21), sl21⟩)
    (c21 : PySem.W.codeIn K cd21 "codes_of" = true) (k21 : PySem.W.keepIn K (.ref f21) = true)
    (a22 : PySem.W.nsIn K mainGlobals "beginnings_of" = some (some (.ref f22)))
    (l22 : K.lookup f22 = some ⟨oc22, od22, .func (PySem.W.fnOf "beginnings_of" "beginnings_of" (defArgs s_beginnings_of) (defBody s_beginnings_of) (defScope s_beginnings_of) .none kV22 dc22 pm22 an22 cd22 ct22), sl22⟩)
    (c22 : PySem.W.codeIn K cd22 "beginnings_of" = true) (k22 : PySem.W.keepIn K (.ref f22) = true)
    (a23 : PySem.W.nsIn K mainGlobals "need_far_within" = some (some (.ref f23)))
    (l23 : K.lookup f23 = some ⟨oc23, od23, .func (PySem.W.fnOf "need_far_within" "need_far_within" (defArgs s_need_far_within) (defBody s_need_far_within) (defScope s_need_far_within) .none kV23 dc23 pm23 an23 cd23 ct23), sl23⟩)
    (c23 : PySem.W.codeIn K cd23 "need_far_within" = true) (k23 : PySem.W.keepIn K (.ref f23) = true)
    (a24 : PySem.W.nsIn K mainGlobals "image_in" = some (some (.ref f24)))
    (l24 : K.lookup f24 = some ⟨oc24, od24, .func (PySem.W.fnOf "image_in" "image_in" (defArgs s_image_in) (defBody s_image_in) (defScope s_image_in) .none kV24 dc24 pm24 an24 cd24 ct24), sl24⟩)
    (c24 : PySem.W.codeIn K cd24 "image_in" = true) (k24 : PySem.W.keepIn K (.ref f24) = true)
    (a25 : PySem.W.nsIn K mainGlobals "_law_cell_at" = some (some (.ref f25)))
    (l25 : K.lookup f25 = some ⟨oc25, od25, .func (PySem.W.fnOf "_law_cell_at" "_law_cell_at" (defArgs s__law_cell_at) (defBody s__law_cell_at) (defScope s__law_cell_at) .none kV25 dc25 pm25 an25 cd25 ct25), sl25⟩)
    (c25 : PySem.W.codeIn K cd25 "_law_cell_at" = true) (k25 : PySem.W.keepIn K (.ref f25) = true)
    (a26 : PySem.W.nsIn K mainGlobals "_law_mixed" = some (some (.ref f26)))
    (l26 : K.lookup f26 = some ⟨oc26, od26, .func (PySem.W.fnOf "_law_mixed" "_law_mixed" (defArgs s__law_mixed) (defBody s__law_mixed) (defScope s__law_mixed) .none kV26 dc26 pm26 an26 cd26 ct26), sl26⟩)
    (c26 : PySem.W.codeIn K cd26 "_law_mixed" = true) (k26 : PySem.W.keepIn K (.ref f26) = true)
    (a27 : PySem.W.nsIn K mainGlobals "_law_check" = some (some (.ref f27)))
    (l27 : K.lookup f27 = some ⟨oc27, od27, .func (PySem.W.fnOf "_law_check" "_law_check" (defArgs s__law_check) (defBody s__law_check) (defScope s__law_check) .none kV27 dc27 pm27 an27 cd27 ct27), sl27⟩)
    (c27 : PySem.W.codeIn K cd27 "_law_check" = true) (k27 : PySem.W.keepIn K (.ref f27) = true)
    (a28 : PySem.W.nsIn K mainGlobals "_law_sealed" = some (some (.ref f28)))
    (l28 : K.lookup f28 = some ⟨oc28, od28, .func (PySem.W.fnOf "_law_sealed" "_law_sealed" (defArgs s__law_sealed) (defBody s__law_sealed) (defScope s__law_sealed) .none kV28 dc28 pm28 an28 cd28 ct28), sl28⟩)
    (c28 : PySem.W.codeIn K cd28 "_law_sealed" = true) (k28 : PySem.W.keepIn K (.ref f28) = true)
    (a29 : PySem.W.nsIn K mainGlobals "_law_image" = some (some (.ref f29)))
    (l29 : K.lookup f29 = some ⟨oc29, od29, .func (PySem.W.fnOf "_law_image" "_law_image" (defArgs s__law_image) (defBody s__law_image) (defScope s__law_image) .none kV29 dc29 pm29 an29 cd29 ct29), sl29⟩)
    (c29 : PySem.W.codeIn K cd29 "_law_image" = true) (k29 : PySem.W.keepIn K (.ref f29) = true)
    (a30 : PySem.W.nsIn K mainGlobals "_law_two_of" = some (some (.ref f30)))
    (l30 : K.lookup f30 = some ⟨oc30, od30, .func (PySem.W.fnOf "_law_two_of" "_law_two_of" (defArgs s__law_two_of) (defBody s__law_two_of) (defScope s__law_two_of) .none kV30 dc30 pm30 an30 cd30 ct30), sl30⟩)
    (c30 : PySem.W.codeIn K cd30 "_law_two_of" = true) (k30 : PySem.W.keepIn K (.ref f30) = true)
    (a31 : PySem.W.nsIn K mainGlobals "_law_due" = some (some (.ref f31)))
    (l31 : K.lookup f31 = some ⟨oc31, od31, .func (PySem.W.fnOf "_law_due" "_law_due" (defArgs s__law_due) (defBody s__law_due) (defScope s__law_due) .none kV31 dc31 pm31 an31 cd31 ct31), sl31⟩)
    (c31 : PySem.W.codeIn K cd31 "_law_due" = true) (k31 : PySem.W.keepIn K (.ref f31) = true)
    (a32 : PySem.W.nsIn K mainGlobals "_law_alike" = some (some (.ref f32)))
    (l32 : K.lookup f32 = some ⟨oc32, od32, .func (PySem.W.fnOf "_law_alike" "_law_alike" (defArgs s__law_alike) (defBody s__law_alike) (defScope s__law_alike) .none kV32 dc32 pm32 an32 cd32 ct32), sl32⟩)
    (c32 : PySem.W.codeIn K cd32 "_law_alike" = true) (k32 : PySem.W.keepIn K (.ref f32) = true)
    (a33 : PySem.W.nsIn K mainGlobals "law" = some (some (.ref f33)))
    (l33 : K.lookup f33 = some ⟨oc33, od33, .func (PySem.W.fnOf "law" "law" (defArgs s_law) (defBody s_law) (defScope s_law) .none kV33 dc33 pm33 an33 cd33 ct33), sl33⟩)
    (c33 : PySem.W.codeIn K cd33 "law" = true) (k33 : PySem.W.keepIn K (.ref f33) = true)
    (g_MOST_BYTE : PySem.W.nsIn K mainGlobals "MOST_BYTE" = some (some u_MOST_BYTE)) (r_MOST_BYTE : RelV (.int 255) u_MOST_BYTE)
    (g_FIRST_CHECK : PySem.W.nsIn K mainGlobals "FIRST_CHECK" = some (some u_FIRST_CHECK)) (r_FIRST_CHECK : RelV (.int 65535) u_FIRST_CHECK)
    (g_LAID_OVER : PySem.W.nsIn K mainGlobals "LAID_OVER" = some (some u_LAID_OVER)) (r_LAID_OVER : RelV (.int 4129) u_LAID_OVER)
    (g_MOST_BYTES : PySem.W.nsIn K mainGlobals "MOST_BYTES" = some (some u_MOST_BYTES)) (r_MOST_BYTES : RelV (.int 8000) u_MOST_BYTES)
    (g_KINDS : PySem.W.nsIn K mainGlobals "KINDS" = some (some (.ref x_KINDS))) (l_KINDS : K.lookup x_KINDS = some ⟨.type "tuple", none, .seq ti_KINDS tn_KINDS, ts_KINDS⟩) (v_KINDS : ti_KINDS.size ≤ 100000 ∧ Vals [V.str (Str.ofString "code"), V.str (Str.ofString "data")] ti_KINDS.toList)
    (g_MARK : PySem.W.nsIn K mainGlobals "MARK" = some (some (.ref x_MARK))) (l_MARK : K.lookup x_MARK = some ⟨.type "tuple", none, .seq ti_MARK tn_MARK, ts_MARK⟩) (v_MARK : ti_MARK.size ≤ 100000 ∧ Vals [V.int 105, V.int 1] ti_MARK.toList)
    (n_all : PySem.W.nsIn K mainGlobals "all" = some none)
    (n_bool : PySem.W.nsIn K mainGlobals "bool" = some none)
    (n_int : PySem.W.nsIn K mainGlobals "int" = some none)
    (n_isinstance : PySem.W.nsIn K mainGlobals "isinstance" = some none)
    (n_len : PySem.W.nsIn K mainGlobals "len" = some none)
    (n_list : PySem.W.nsIn K mainGlobals "list" = some none)
    (n_range : PySem.W.nsIn K mainGlobals "range" = some none)
    (n_sorted : PySem.W.nsIn K mainGlobals "sorted" = some none)
    (n_sum : PySem.W.nsIn K mainGlobals "sum" = some none)
    (n_tuple : PySem.W.nsIn K mainGlobals "tuple" = some none)
    (m_Image : PySem.W.nsIn K mainGlobals "Image" = some (some (.ref x_Image)))
    (m_Reader : PySem.W.nsIn K mainGlobals "Reader" = some (some (.ref x_Reader)))
    (ocg_Image : PySem.W.plainGet K x_Image Str.empty = true)
    (och_Image : PySem.W.hasDictIn K x_Image = true)
    (oco_Image : PySem.W.plainOver K x_Image = true)
    (ocs_Image : PySem.W.findIn K (.ref x_Image) "__setattr__" = some (some (.builtin "object.__setattr__")))
    (mk_Image : PySem.W.makesIn K x_Image = true)
    (kp_Image : PySem.W.keepIn K (.ref x_Image) = true)
    (nf_Image_main : PySem.W.findIn K (.ref x_Image) "main" = some none)
    (nf_Image_sections : PySem.W.findIn K (.ref x_Image) "sections" = some none)
    (nf_Image_body : PySem.W.findIn K (.ref x_Image) "body" = some none)
    (nf_Image_far : PySem.W.findIn K (.ref x_Image) "far" = some none)
    (ocg_Reader : PySem.W.plainGet K x_Reader Str.empty = true)
    (och_Reader : PySem.W.hasDictIn K x_Reader = true)
    (oco_Reader : PySem.W.plainOver K x_Reader = true)
    (ocs_Reader : PySem.W.findIn K (.ref x_Reader) "__setattr__" = some (some (.builtin "object.__setattr__")))
    (mk_Reader : PySem.W.makesIn K x_Reader = true)
    (kp_Reader : PySem.W.keepIn K (.ref x_Reader) = true)
    (nf_Reader_content : PySem.W.findIn K (.ref x_Reader) "content" = some none)
    (nf_Reader_spot : PySem.W.findIn K (.ref x_Reader) "spot" = some none) :
    ∃ fd : FuncData, (∀ (s : Shared) (v : Value), BindsTo s fd ⟨[v], []⟩ [("_law_script", v)]) ∧ ∀ base : Heap, K.In base → base.Ns mainGlobals mg → FnOk l.prog w K mg base CX0 6 fa fd ["_law_script"] (sp_law K) := by
  have e := hfa.symm.trans (PySem.W.mg_of X G a33)
  cases e
  have F0 := fn_mk (st := s_is_number_up_to) l0 c0 k0
  have b0 : Binds K _ ["thing", "most"] [] := .all (fd := PySem.W.fnOf "is_number_up_to" "is_number_up_to" (defArgs s_is_number_up_to) (defBody s_is_number_up_to) (defScope s_is_number_up_to) .none kV0 dc0 pm0 an0 cd0 ct0) fun us hl => by obtain ⟨_u0, _u1, rfl⟩ := len_is2 hl; rfl
  have F1 := fn_mk (st := s_is_byte) l1 c1 k1
  have b1 : Binds K _ ["thing"] [] := .all (fd := PySem.W.fnOf "is_byte" "is_byte" (defArgs s_is_byte) (defBody s_is_byte) (defScope s_is_byte) .none kV1 dc1 pm1 an1 cd1 ct1) fun us hl => by obtain ⟨_u0, rfl⟩ := len_is1 hl; rfl
  have F2 := fn_mk (st := s_need_bytes) l2 c2 k2
  have b2 : Binds K _ ["thing"] [] := .all (fd := PySem.W.fnOf "need_bytes" "need_bytes" (defArgs s_need_bytes) (defBody s_need_bytes) (defScope s_need_bytes) .none kV2 dc2 pm2 an2 cd2 ct2) fun us hl => by obtain ⟨_u0, rfl⟩ := len_is1 hl; rfl
  have F3 := fn_mk (st := s_two_of) l3 c3 k3
  have b3 : Binds K _ ["number"] [] := .all (fd := PySem.W.fnOf "two_of" "two_of" (defArgs s_two_of) (defBody s_two_of) (defScope s_two_of) .none kV3 dc3 pm3 an3 cd3 ct3) fun us hl => by obtain ⟨_u0, rfl⟩ := len_is1 hl; rfl
  have F4 := fn_mk (st := s_word_in) l4 c4 k4
  have b4 : Binds K (PySem.W.fnOf "word_in" "word_in" (defArgs s_word_in) (defBody s_word_in) (defScope s_word_in) (.ref t4) kV4 dc4 pm4 an4 cd4 ct4) ["row", "place"] [] := fun s us X hl => match us, hl with | [_, _], _ => PySem.W.binds_K X rfl t4_is rfl rfl rfl
  have bd4 : Binds K (PySem.W.fnOf "word_in" "word_in" (defArgs s_word_in) (defBody s_word_in) (defScope s_word_in) (.ref t4) kV4 dc4 pm4 an4 cd4 ct4) ["row", "place"] [.int 0 k4_0] := fun s us X hl => match us, hl with | [_], _ => PySem.W.binds_K X rfl t4_is rfl rfl rfl | [], h => absurd h (by simp) | _ :: _ :: _, h => absurd h (by simp)
  have F5 := fn_mk (st := s_one_bit_left) l5 c5 k5
  have b5 : Binds K _ ["check"] [] := .all (fd := PySem.W.fnOf "one_bit_left" "one_bit_left" (defArgs s_one_bit_left) (defBody s_one_bit_left) (defScope s_one_bit_left) .none kV5 dc5 pm5 an5 cd5 ct5) fun us hl => by obtain ⟨_u0, rfl⟩ := len_is1 hl; rfl
  have F6 := fn_mk (st := s_check_of) l6 c6 k6
  have b6 : Binds K _ ["row"] [] := .all (fd := PySem.W.fnOf "check_of" "check_of" (defArgs s_check_of) (defBody s_check_of) (defScope s_check_of) .none kV6 dc6 pm6 an6 cd6 ct6) fun us hl => by obtain ⟨_u0, rfl⟩ := len_is1 hl; rfl
  have F7 := fn_mk (st := s_sealed) l7 c7 k7
  have b7 : Binds K _ ["row"] [] := .all (fd := PySem.W.fnOf "sealed" "sealed" (defArgs s_sealed) (defBody s_sealed) (defScope s_sealed) .none kV7 dc7 pm7 an7 cd7 ct7) fun us hl => by obtain ⟨_u0, rfl⟩ := len_is1 hl; rfl
  have F8 := fn_mk (st := s_opened) l8 c8 k8
  have b8 : Binds K _ ["row"] [] := .all (fd := PySem.W.fnOf "opened" "opened" (defArgs s_opened) (defBody s_opened) (defScope s_opened) .none kV8 dc8 pm8 an8 cd8 ct8) fun us hl => by obtain ⟨_u0, rfl⟩ := len_is1 hl; rfl
  have F9 := fn_mk (st := s_Image___init__) l9 c9 k9
  have b9 : Binds K _ ["self", "main", "sections", "body", "far"] [] := .all (fd := PySem.W.fnOf "__init__" "Image.__init__" (defArgs s_Image___init__) (defBody s_Image___init__) (defScope s_Image___init__) .none kV9 dc9 pm9 an9 cd9 ct9) fun us hl => by obtain ⟨_u0, _u1, _u2, _u3, _u4, rfl⟩ := len_is5 hl; rfl
  have F10 := fn_mk (st := s_need) l10 c10 k10
  have b10 : Binds K _ ["good", "words"] [] := .all (fd := PySem.W.fnOf "need" "need" (defArgs s_need) (defBody s_need) (defScope s_need) .none kV10 dc10 pm10 an10 cd10 ct10) fun us hl => by obtain ⟨_u0, _u1, rfl⟩ := len_is2 hl; rfl
  have F11 := fn_mk (st := s_Reader___init__) l11 c11 k11
  have b11 : Binds K _ ["self", "row"] [] := .all (fd := PySem.W.fnOf "__init__" "Reader.__init__" (defArgs s_Reader___init__) (defBody s_Reader___init__) (defScope s_Reader___init__) .none kV11 dc11 pm11 an11 cd11 ct11) fun us hl => by obtain ⟨_u0, _u1, rfl⟩ := len_is2 hl; rfl
  have F12 := fn_mk (st := s_Reader_several) l12 c12 k12
  have b12 : Binds K _ ["self", "size"] [] := .all (fd := PySem.W.fnOf "several" "Reader.several" (defArgs s_Reader_several) (defBody s_Reader_several) (defScope s_Reader_several) .none kV12 dc12 pm12 an12 cd12 ct12) fun us hl => by obtain ⟨_u0, _u1, rfl⟩ := len_is2 hl; rfl
  have F13 := fn_mk (st := s_Reader_byte) l13 c13 k13
  have b13 : Binds K _ ["self"] [] := .all (fd := PySem.W.fnOf "byte" "Reader.byte" (defArgs s_Reader_byte) (defBody s_Reader_byte) (defScope s_Reader_byte) .none kV13 dc13 pm13 an13 cd13 ct13) fun us hl => by obtain ⟨_u0, rfl⟩ := len_is1 hl; rfl
  have F14 := fn_mk (st := s_Reader_two) l14 c14 k14
  have b14 : Binds K _ ["self"] [] := .all (fd := PySem.W.fnOf "two" "Reader.two" (defArgs s_Reader_two) (defBody s_Reader_two) (defScope s_Reader_two) .none kV14 dc14 pm14 an14 cd14 ct14) fun us hl => by obtain ⟨_u0, rfl⟩ := len_is1 hl; rfl
  have F15 := fn_mk (st := s_Reader_need_mark) l15 c15 k15
  have b15 : Binds K _ ["self", "mark"] [] := .all (fd := PySem.W.fnOf "need_mark" "Reader.need_mark" (defArgs s_Reader_need_mark) (defBody s_Reader_need_mark) (defScope s_Reader_need_mark) .none kV15 dc15 pm15 an15 cd15 ct15) fun us hl => by obtain ⟨_u0, _u1, rfl⟩ := len_is2 hl; rfl
  have F16 := fn_mk (st := s_Reader_need_end) l16 c16 k16
  have b16 : Binds K _ ["self"] [] := .all (fd := PySem.W.fnOf "need_end" "Reader.need_end" (defArgs s_Reader_need_end) (defBody s_Reader_need_end) (defScope s_Reader_need_end) .none kV16 dc16 pm16 an16 cd16 ct16) fun us hl => by obtain ⟨_u0, rfl⟩ := len_is1 hl; rfl
  have F17 := fn_mk (st := s_image_bytes) l17 c17 k17
  have b17 : Binds K _ ["image"] [] := .all (fd := PySem.W.fnOf "image_bytes" "image_bytes" (defArgs s_image_bytes) (defBody s_image_bytes) (defScope s_image_bytes) .none kV17 dc17 pm17 an17 cd17 ct17) fun us hl => by obtain ⟨_u0, rfl⟩ := len_is1 hl; rfl
  have F18 := fn_mk (st := s_section_read) l18 c18 k18
  have b18 : Binds K _ ["reader"] [] := .all (fd := PySem.W.fnOf "section_read" "section_read" (defArgs s_section_read) (defBody s_section_read) (defScope s_section_read) .none kV18 dc18 pm18 an18 cd18 ct18) fun us hl => by obtain ⟨_u0, rfl⟩ := len_is1 hl; rfl
  have F19 := fn_mk (st := s_need_codes_ahead) l19 c19 k19
  have b19 : Binds K _ ["sections"] [] := .all (fd := PySem.W.fnOf "need_codes_ahead" "need_codes_ahead" (defArgs s_need_codes_ahead) (defBody s_need_codes_ahead) (defScope s_need_codes_ahead) .none kV19 dc19 pm19 an19 cd19 ct19) fun us hl => by obtain ⟨_u0, rfl⟩ := len_is1 hl; rfl
  have F20 := fn_mk (st := s_size_of) l20 c20 k20
  have b20 : Binds K _ ["sections"] [] := .all (fd := PySem.W.fnOf "size_of" "size_of" (defArgs s_size_of) (defBody s_size_of) (defScope s_size_of) .none kV20 dc20 pm20 an20 cd20 ct20) fun us hl => by obtain ⟨_u0, rfl⟩ := len_is1 hl; rfl
  have F21 := fn_mk (st := s_codes_of) l21 c21 k21
  have b21 : Binds K _ ["sections"] [] := .all (fd := PySem.W.fnOf "codes_of" "codes_of" (defArgs s_codes_of) (defBody s_codes_of) (defScope s_codes_of) .none kV21 dc21 pm21 an21 cd21 ct21) fun us hl => by obtain ⟨_u0, rfl⟩ := len_is1 hl; rfl
  have F22 := fn_mk (st := s_beginnings_of) l22 c22 k22
  have b22 : Binds K _ ["sections"] [] := .all (fd := PySem.W.fnOf "beginnings_of" "beginnings_of" (defArgs s_beginnings_of) (defBody s_beginnings_of) (defScope s_beginnings_of) .none kV22 dc22 pm22 an22 cd22 ct22) fun us hl => by obtain ⟨_u0, rfl⟩ := len_is1 hl; rfl
  have F23 := fn_mk (st := s_need_far_within) l23 c23 k23
  have b23 : Binds K _ ["far", "size"] [] := .all (fd := PySem.W.fnOf "need_far_within" "need_far_within" (defArgs s_need_far_within) (defBody s_need_far_within) (defScope s_need_far_within) .none kV23 dc23 pm23 an23 cd23 ct23) fun us hl => by obtain ⟨_u0, _u1, rfl⟩ := len_is2 hl; rfl
  have F24 := fn_mk (st := s_image_in) l24 c24 k24
  have b24 : Binds K _ ["row"] [] := .all (fd := PySem.W.fnOf "image_in" "image_in" (defArgs s_image_in) (defBody s_image_in) (defScope s_image_in) .none kV24 dc24 pm24 an24 cd24 ct24) fun us hl => by obtain ⟨_u0, rfl⟩ := len_is1 hl; rfl
  have F25 := fn_mk (st := s__law_cell_at) l25 c25 k25
  have b25 : Binds K _ ["_law_script", "_law_k"] [] := .all (fd := PySem.W.fnOf "_law_cell_at" "_law_cell_at" (defArgs s__law_cell_at) (defBody s__law_cell_at) (defScope s__law_cell_at) .none kV25 dc25 pm25 an25 cd25 ct25) fun us hl => by obtain ⟨_u0, _u1, rfl⟩ := len_is2 hl; rfl
  have F26 := fn_mk (st := s__law_mixed) l26 c26 k26
  have b26 : Binds K _ ["_law_cell", "_law_k"] [] := .all (fd := PySem.W.fnOf "_law_mixed" "_law_mixed" (defArgs s__law_mixed) (defBody s__law_mixed) (defScope s__law_mixed) .none kV26 dc26 pm26 an26 cd26 ct26) fun us hl => by obtain ⟨_u0, _u1, rfl⟩ := len_is2 hl; rfl
  have F27 := fn_mk (st := s__law_check) l27 c27 k27
  have b27 : Binds K _ ["_law_row"] [] := .all (fd := PySem.W.fnOf "_law_check" "_law_check" (defArgs s__law_check) (defBody s__law_check) (defScope s__law_check) .none kV27 dc27 pm27 an27 cd27 ct27) fun us hl => by obtain ⟨_u0, rfl⟩ := len_is1 hl; rfl
  have F28 := fn_mk (st := s__law_sealed) l28 c28 k28
  have b28 : Binds K _ ["_law_row"] [] := .all (fd := PySem.W.fnOf "_law_sealed" "_law_sealed" (defArgs s__law_sealed) (defBody s__law_sealed) (defScope s__law_sealed) .none kV28 dc28 pm28 an28 cd28 ct28) fun us hl => by obtain ⟨_u0, rfl⟩ := len_is1 hl; rfl
  have F29 := fn_mk (st := s__law_image) l29 c29 k29
  have b29 : Binds K _ ["_law_script"] [] := .all (fd := PySem.W.fnOf "_law_image" "_law_image" (defArgs s__law_image) (defBody s__law_image) (defScope s__law_image) .none kV29 dc29 pm29 an29 cd29 ct29) fun us hl => by obtain ⟨_u0, rfl⟩ := len_is1 hl; rfl
  have F30 := fn_mk (st := s__law_two_of) l30 c30 k30
  have b30 : Binds K _ ["_law_number"] [] := .all (fd := PySem.W.fnOf "_law_two_of" "_law_two_of" (defArgs s__law_two_of) (defBody s__law_two_of) (defScope s__law_two_of) .none kV30 dc30 pm30 an30 cd30 ct30) fun us hl => by obtain ⟨_u0, rfl⟩ := len_is1 hl; rfl
  have F31 := fn_mk (st := s__law_due) l31 c31 k31
  have b31 : Binds K _ ["_law_parts"] [] := .all (fd := PySem.W.fnOf "_law_due" "_law_due" (defArgs s__law_due) (defBody s__law_due) (defScope s__law_due) .none kV31 dc31 pm31 an31 cd31 ct31) fun us hl => by obtain ⟨_u0, rfl⟩ := len_is1 hl; rfl
  have F32 := fn_mk (st := s__law_alike) l32 c32 k32
  have b32 : Binds K _ ["_law_image_here", "_law_parts"] [] := .all (fd := PySem.W.fnOf "_law_alike" "_law_alike" (defArgs s__law_alike) (defBody s__law_alike) (defScope s__law_alike) .none kV32 dc32 pm32 an32 cd32 ct32) fun us hl => by obtain ⟨_u0, _u1, rfl⟩ := len_is2 hl; rfl
  have F33 := fn_mk (st := s_law) l33 c33 k33
  have b33 : Binds K _ ["_law_script"] [] := .all (fd := PySem.W.fnOf "law" "law" (defArgs s_law) (defBody s_law) (defScope s_law) .none kV33 dc33 pm33 an33 cd33 ct33) fun us hl => by obtain ⟨_u0, rfl⟩ := len_is1 hl; rfl
  obtain ⟨T, hf, hfd⟩ : ∃ T : Txt K mg, T.d_law.f = fa ∧ T.d_law.fd = PySem.W.fnOf "law" "law" (defArgs s_law) (defBody s_law) (defScope s_law) .none kV33 dc33 pm33 an33 cd33 ct33 := ⟨{
    d_is_number_up_to := ⟨_, _, F0, b0, PySem.W.mg_of X G a0⟩
    d_is_byte := ⟨_, _, F1, b1, PySem.W.mg_of X G a1⟩
    d_need_bytes := ⟨_, _, F2, b2, PySem.W.mg_of X G a2⟩
    d_two_of := ⟨_, _, F3, b3, PySem.W.mg_of X G a3⟩
    d_word_in := ⟨_, _, F4, b4, PySem.W.mg_of X G a4⟩
    d_one_bit_left := ⟨_, _, F5, b5, PySem.W.mg_of X G a5⟩
    d_check_of := ⟨_, _, F6, b6, PySem.W.mg_of X G a6⟩
    d_sealed := ⟨_, _, F7, b7, PySem.W.mg_of X G a7⟩
    d_opened := ⟨_, _, F8, b8, PySem.W.mg_of X G a8⟩
    d_Image___init__ := ⟨_, _, F9, b9, a9, i9⟩
    d_need := ⟨_, _, F10, b10, PySem.W.mg_of X G a10⟩
    d_Reader___init__ := ⟨_, _, F11, b11, a11, i11⟩
    d_Reader_several := ⟨_, _, F12, b12, a12, i12⟩
    d_Reader_byte := ⟨_, _, F13, b13, a13, i13⟩
    d_Reader_two := ⟨_, _, F14, b14, a14, i14⟩
    d_Reader_need_mark := ⟨_, _, F15, b15, a15, i15⟩
    d_Reader_need_end := ⟨_, _, F16, b16, a16, i16⟩
    d_image_bytes := ⟨_, _, F17, b17, PySem.W.mg_of X G a17⟩
    d_section_read := ⟨_, _, F18, b18, PySem.W.mg_of X G a18⟩
    d_need_codes_ahead := ⟨_, _, F19, b19, PySem.W.mg_of X G a19⟩
    d_size_of := ⟨_, _, F20, b20, PySem.W.mg_of X G a20⟩
    d_codes_of := ⟨_, _, F21, b21, PySem.W.mg_of X G a21⟩
    d_beginnings_of := ⟨_, _, F22, b22, PySem.W.mg_of X G a22⟩
    d_need_far_within := ⟨_, _, F23, b23, PySem.W.mg_of X G a23⟩
    d_image_in := ⟨_, _, F24, b24, PySem.W.mg_of X G a24⟩
    d__law_cell_at := ⟨_, _, F25, b25, PySem.W.mg_of X G a25⟩
    d__law_mixed := ⟨_, _, F26, b26, PySem.W.mg_of X G a26⟩
    d__law_check := ⟨_, _, F27, b27, PySem.W.mg_of X G a27⟩
    d__law_sealed := ⟨_, _, F28, b28, PySem.W.mg_of X G a28⟩
    d__law_image := ⟨_, _, F29, b29, PySem.W.mg_of X G a29⟩
    d__law_two_of := ⟨_, _, F30, b30, PySem.W.mg_of X G a30⟩
    d__law_due := ⟨_, _, F31, b31, PySem.W.mg_of X G a31⟩
    d__law_alike := ⟨_, _, F32, b32, PySem.W.mg_of X G a32⟩
    d_law := ⟨_, _, F33, b33, PySem.W.mg_of X G a33⟩
    c_MOST_BYTE := ⟨_, PySem.W.mg_of X G g_MOST_BYTE, r_MOST_BYTE⟩
    c_FIRST_CHECK := ⟨_, PySem.W.mg_of X G g_FIRST_CHECK, r_FIRST_CHECK⟩
    c_LAID_OVER := ⟨_, PySem.W.mg_of X G g_LAID_OVER, r_LAID_OVER⟩
    c_MOST_BYTES := ⟨_, PySem.W.mg_of X G g_MOST_BYTES, r_MOST_BYTES⟩
    x_KINDS := x_KINDS
    c_KINDS := ⟨_, PySem.W.mg_of X G g_KINDS, rfl⟩
    sq_KINDS := ⟨_, _, _, l_KINDS, rfl, rfl, rfl, sl1000 v_KINDS.1, v_KINDS.2⟩
    x_MARK := x_MARK
    c_MARK := ⟨_, PySem.W.mg_of X G g_MARK, rfl⟩
    sq_MARK := ⟨_, _, _, l_MARK, rfl, rfl, rfl, sl1000 v_MARK.1, v_MARK.2⟩
    n_all := PySem.W.mg_none_of X G n_all
    n_bool := PySem.W.mg_none_of X G n_bool
    n_int := PySem.W.mg_none_of X G n_int
    n_isinstance := PySem.W.mg_none_of X G n_isinstance
    n_len := PySem.W.mg_none_of X G n_len
    n_list := PySem.W.mg_none_of X G n_list
    n_range := PySem.W.mg_none_of X G n_range
    n_sorted := PySem.W.mg_none_of X G n_sorted
    n_sum := PySem.W.mg_none_of X G n_sum
    n_tuple := PySem.W.mg_none_of X G n_tuple
    dd_word_in := ⟨_, bd4, .cons ⟨_, rfl⟩ (.nil)⟩
    x_Image := x_Image
    x_Reader := x_Reader
    m_Image := PySem.W.mg_of X G m_Image
    m_Reader := PySem.W.mg_of X G m_Reader
    ocg_Image := ocg_Image
    och_Image := och_Image
    oco_Image := oco_Image
    ocs_Image := ocs_Image
    mk_Image := mk_Image
    kp_Image := kp_Image
    nf_Image_main := nf_Image_main
    nf_Image_sections := nf_Image_sections
    nf_Image_body := nf_Image_body
    nf_Image_far := nf_Image_far
    ocg_Reader := ocg_Reader
    och_Reader := och_Reader
    oco_Reader := oco_Reader
    ocs_Reader := ocs_Reader
    mk_Reader := mk_Reader
    kp_Reader := kp_Reader
    nf_Reader_content := nf_Reader_content
    nf_Reader_spot := nf_Reader_spot
  }, rfl, rfl⟩
  refine ⟨PySem.W.fnOf "law" "law" (defArgs s_law) (defBody s_law) (defScope s_law) .none kV33 dc33 pm33 an33 cd33 ct33, fun s v => .of_eq rfl, fun base _ _ => ?_⟩
  have G := ok_law (P := l.prog) (w := w) (base := base) T
  rw [hf, hfd] at G
  exact G
theorem walk {l : PySem.W.OpenLaw} {q : Program} {loose : List Str} {XP : (Str → Option Value) → Heap → Prop} {YP : World → Heap → Prop} {d : DefRec} {K : Params → PySem.W.Frag} (hn : l.most = some 63) (hdf : d.params.defaults = [])
    (hY : ∀ (w : World) (h : Heap), YP w h → (K w.params).In h)
    (F : ∀ (w : World) (mg : Str → Option Value) (fa : Addr) (h : Heap), (K w.params).In h → h.Ns mainGlobals mg → mg d.name = some (.ref fa) →
      ∃ fd : FuncData, (∀ (s : Shared) (u : Value), BindsTo s fd ⟨[u], []⟩ [("_law_script", u)]) ∧ ∀ base : Heap, (K w.params).In base → base.Ns mainGlobals mg → FnOk l.prog w (K w.params) mg base CX0 6 fa fd ["_law_script"] (sp_law (K w.params))) :
    PySem.W.WalkO q loose XP YP l.row.toRowW d [] (fun f vs => PySem.call f vs) :=
  L2.walk_of (n := 63) (k := 6) (x := "_law_script") (CX := fun _ => CX0) (sp := fun w => sp_law (K w.params)) hn (by decide) hdf ⟨rfl, by decide, by decide⟩ hY F (fun _ _ a ns hl _ hS => ⟨a, ns, rfl, hS, hl, fun _ => rfl⟩) fun _ _ _ _ _ z => z
end K25
open PySem PySem.W PyProof.Rows
set_option maxRecDepth 100000 in
set_option maxHeartbeats 0 in
theorem PySem.Challenge.cw_linkyard_k25_images_written_holds : PySem.Challenge.rw_linkyard_k25_images_written.Holds := by
  w_on; o_law; k_head; (case hw => w_witness2)
  k_fill
  refine K25.walk (l := PySem.Challenge.rw_linkyard_k25_images_written) rfl rfl (fun w h Y => PySem.W.kIn_of Y) ?F
  case F =>
    intro w mg fa h KX G hmg
    refine' K25.all_mk KX G hmg ?a0 ?l0 ?c0 ?k0 ?a1 ?l1 ?c1 ?k1 ?a2 ?l2 ?c2 ?k2 ?a3 ?l3 ?c3 ?k3 ?a4 ?l4 ?c4 ?k4 ?t4_is ?a5 ?l5 ?c5 ?k5 ?a6 ?l6 ?c6 ?k6 ?a7 ?l7 ?c7 ?k7 ?a8 ?l8 ?c8 ?k8 ?a9 ?i9 ?l9 ?c9 ?k9 ?a10 ?l10 ?c10 ?k10 ?a11 ?i11 ?l11 ?c11 ?k11 ?a12 ?i12 ?l12 ?c12 ?k12 ?a13 ?i13 ?l13 ?c13 ?k13 ?a14 ?i14 ?l14 ?c14 ?k14 ?a15 ?i15 ?l15 ?c15 ?k15 ?a16 ?i16 ?l16 ?c16 ?k16 ?a17 ?l17 ?c17 ?k17 ?a18 ?l18 ?c18 ?k18 ?a19 ?l19 ?c19 ?k19 ?a20 ?l20 ?c20 ?k20 ?a21 ?l21 ?c21 ?k21 ?a22 ?l22 ?c22 ?k22 ?a23 ?l23 ?c23 ?k23 ?a24 ?l24 ?c24 ?k24 ?a25 ?l25 ?c25 ?k25 ?a26 ?l26 ?c26 ?k26 ?a27 ?l27 ?c27 ?k27 ?a28 ?l28 ?c28 ?k28 ?a29 ?l29 ?c29 ?k29 ?a30 ?l30 ?c30 ?k30 ?a31 ?l31 ?c31 ?k31 ?a32 ?l32 ?c32 ?k32 ?a33 ?l33 ?c33 ?k33 ?g_MOST_BYTE ?r_MOST_BYTE ?g_FIRST_CHECK ?r_FIRST_CHECK ?g_LAID_OVER ?r_LAID_OVER ?g_MOST_BYTES ?r_MOST_BYTES ?g_KINDS ?l_KINDS ?v_KINDS ?g_MARK ?l_MARK ?v_MARK ?n_all ?n_bool ?n_int ?n_isinstance ?n_len ?n_list ?n_range ?n_sorted ?n_sum ?n_tuple ?m_Image ?m_Reader ?ocg_Image ?och_Image ?oco_Image ?ocs_Image ?mk_Image ?kp_Image ?nf_Image_main ?nf_Image_sections ?nf_Image_body ?nf_Image_far ?ocg_Reader ?och_Reader ?oco_Reader ?ocs_Reader ?mk_Reader ?kp_Reader ?nf_Reader_content ?nf_Reader_spot
    (case m_Image => k_is)
    (case m_Reader => k_is)
    (case a0 => k_is)
    (case l0 => k_is)
    (case c0 => k_is)
    (case k0 => k_is)
    (case a1 => k_is)
    (case l1 => k_is)
    (case c1 => k_is)
    (case k1 => k_is)
    (case a2 => k_is)
    (case l2 => k_is)
    (case c2 => k_is)
    (case k2 => k_is)
    (case a3 => k_is)
    (case l3 => k_is)
    (case c3 => k_is)
    (case k3 => k_is)
    (case a4 => k_is)
    (case l4 => k_is)
    (case c4 => k_is)
    (case k4 => k_is)
    (case t4_is => k_is)
    (case a5 => k_is)
    (case l5 => k_is)
    (case c5 => k_is)
    (case k5 => k_is)
    (case a6 => k_is)
    (case l6 => k_is)
    (case c6 => k_is)
    (case k6 => k_is)
    (case a7 => k_is)
    (case l7 => k_is)
    (case c7 => k_is)
    (case k7 => k_is)
    (case a8 => k_is)
    (case l8 => k_is)
    (case c8 => k_is)
    (case k8 => k_is)
    (case a9 => k_is)
    (case i9 => k_is)
    (case l9 => k_is)
    (case c9 => k_is)
    (case k9 => k_is)
    (case a10 => k_is)
    (case l10 => k_is)
    (case c10 => k_is)
    (case k10 => k_is)
    (case a11 => k_is)
    (case i11 => k_is)
    (case l11 => k_is)
    (case c11 => k_is)
    (case k11 => k_is)
    (case a12 => k_is)
    (case i12 => k_is)
    (case l12 => k_is)
    (case c12 => k_is)
    (case k12 => k_is)
    (case a13 => k_is)
    (case i13 => k_is)
    (case l13 => k_is)
    (case c13 => k_is)
    (case k13 => k_is)
    (case a14 => k_is)
    (case i14 => k_is)
    (case l14 => k_is)
    (case c14 => k_is)
    (case k14 => k_is)
    (case a15 => k_is)
    (case i15 => k_is)
    (case l15 => k_is)
    (case c15 => k_is)
    (case k15 => k_is)
    (case a16 => k_is)
    (case i16 => k_is)
    (case l16 => k_is)
    (case c16 => k_is)
    (case k16 => k_is)
    (case a17 => k_is)
    (case l17 => k_is)
    (case c17 => k_is)
    (case k17 => k_is)
    (case a18 => k_is)
    (case l18 => k_is)
    (case c18 => k_is)
    (case k18 => k_is)
    (case a19 => k_is)
    (case l19 => k_is)
    (case c19 => k_is)
    (case k19 => k_is)
    (case a20 => k_is)
    (case l20 => k_is)
    (case c20 => k_is)
    (case k20 => k_is)
    (case a21 => k_is)
    (case l21 => k_is)
    (case c21 => k_is)
    (case k21 => k_is)
    (case a22 => k_is)
    (case l22 => k_is)
    (case c22 => k_is)
    (case k22 => k_is)
    (case a23 => k_is)
    (case l23 => k_is)
    (case c23 => k_is)
    (case k23 => k_is)
    (case a24 => k_is)
    (case l24 => k_is)
    (case c24 => k_is)
    (case k24 => k_is)
    (case a25 => k_is)
    (case l25 => k_is)
    (case c25 => k_is)
    (case k25 => k_is)
    (case a26 => k_is)
    (case l26 => k_is)
    (case c26 => k_is)
    (case k26 => k_is)
    (case a27 => k_is)
    (case l27 => k_is)
    (case c27 => k_is)
    (case k27 => k_is)
    (case a28 => k_is)
    (case l28 => k_is)
    (case c28 => k_is)
    (case k28 => k_is)
    (case a29 => k_is)
    (case l29 => k_is)
    (case c29 => k_is)
    (case k29 => k_is)
    (case a30 => k_is)
    (case l30 => k_is)
    (case c30 => k_is)
    (case k30 => k_is)
    (case a31 => k_is)
    (case l31 => k_is)
    (case c31 => k_is)
    (case k31 => k_is)
    (case a32 => k_is)
    (case l32 => k_is)
    (case c32 => k_is)
    (case k32 => k_is)
    (case a33 => k_is)
    (case l33 => k_is)
    (case c33 => k_is)
    (case k33 => k_is)
    (case g_MOST_BYTE => k_is)
    (case r_MOST_BYTE => first | exact rfl | exact ⟨_, rfl⟩)
    (case g_FIRST_CHECK => k_is)
    (case r_FIRST_CHECK => first | exact rfl | exact ⟨_, rfl⟩)
    (case g_LAID_OVER => k_is)
    (case r_LAID_OVER => first | exact rfl | exact ⟨_, rfl⟩)
    (case g_MOST_BYTES => k_is)
    (case r_MOST_BYTES => first | exact rfl | exact ⟨_, rfl⟩)
    (case g_KINDS => k_is)
    (case l_KINDS => k_is)
    (case v_KINDS => exact ⟨by decide, .cons ⟨_, rfl⟩ (.cons ⟨_, rfl⟩ (.nil))⟩)
    (case g_MARK => k_is)
    (case l_MARK => k_is)
    (case v_MARK => exact ⟨by decide, .cons ⟨_, rfl⟩ (.cons ⟨_, rfl⟩ (.nil))⟩)
    (case n_all => k_is)
    (case n_bool => k_is)
    (case n_int => k_is)
    (case n_isinstance => k_is)
    (case n_len => k_is)
    (case n_list => k_is)
    (case n_range => k_is)
    (case n_sorted => k_is)
    (case n_sum => k_is)
    (case n_tuple => k_is)
    (case ocg_Image => k_is)
    (case och_Image => k_is)
    (case oco_Image => k_is)
    (case ocs_Image => k_is)
    (case mk_Image => k_is)
    (case kp_Image => k_is)
    (case nf_Image_main => k_is)
    (case nf_Image_sections => k_is)
    (case nf_Image_body => k_is)
    (case nf_Image_far => k_is)
    (case ocg_Reader => k_is)
    (case och_Reader => k_is)
    (case oco_Reader => k_is)
    (case ocs_Reader => k_is)
    (case mk_Reader => k_is)
    (case kp_Reader => k_is)
    (case nf_Reader_content => k_is)
    (case nf_Reader_spot => k_is)
