import PyProof.Rows.All
import Wide.All
import OpenK.AllK
import Wide.FinOn
import Lean
import PyProof.EqAt
import PyProof.EqKinds
import PyProof.TupleCall
import KE.RegKIsAll
import KE.RegKTryMore
import PyProof.StationsW
import PyProof.RulesAs
import PyProof.ExcClass3
import PyProof.ListRange
import KE.KRevSl
import PyProof.DictWalks
import PySem.Challenge.RW_linkyard_k07_whole_bytes_walked
set_option Elab.async false
set_option genInjectivity false
set_option genSizeOf false
set_option genSizeOfSpec false
set_option bootstrap.genMatcherCode false
set_option linter.all false
set_option maxRecDepth 100000
set_option maxHeartbeats 4000000
namespace L2
open PySem PySem.Spec PyProof.Rows

noncomputable abbrev Key := Sum Int Str
noncomputable def keyIs : Key → Value → Bool
  | .inl k, v => Value.isInt k v
  | .inr x, v => Value.isStrOf x v
noncomputable def keyH (w : World) : Key → Int
  | .inl k => hashInt k
  | .inr x => hashStr w x
theorem keyIs_shape : ∀ {k : Key} {v : Value}, keyIs k v = true → (∃ i t, k = Sum.inl i ∧ v = Value.int i t) ∨ (∃ x t, k = Sum.inr x ∧ v = Value.str x t)
  | .inl i, v, h => by
    obtain ⟨t, e⟩ := Value.isInt_shape (k := i) (v := v) h
    exact .inl ⟨i, t, rfl, e⟩
  | .inr x, v, h => by
    obtain ⟨t, e⟩ := Value.isStrOf_shape (x := x) (v := v) h
    exact .inr ⟨x, t, rfl, e⟩
theorem key_ll (a b : Int) : decide ((Sum.inl a : Key) = Sum.inl b) = (a == b) := by
  by_cases e : a = b
  · subst e; simp
  · have h : ¬ (Sum.inl a : Key) = Sum.inl b := fun q => e (Sum.inl.inj q)
    rw [decide_eq_false h]
    exact (beq_eq_false_iff_ne.mpr e).symm
theorem key_rr (a b : Str) : decide ((Sum.inr a : Key) = Sum.inr b) = decide (a = b) := by
  by_cases e : a = b
  · subst e; simp
  · have h : ¬ (Sum.inr a : Key) = Sum.inr b := fun q => e (Sum.inr.inj q)
    rw [decide_eq_false h, decide_eq_false e]
theorem key_lr (a : Int) (b : Str) : decide ((Sum.inl a : Key) = Sum.inr b) = false := decide_eq_false (fun q => nomatch q)
theorem key_rl (a : Str) (b : Int) : decide ((Sum.inr a : Key) = Sum.inl b) = false := decide_eq_false (fun q => nomatch q)

noncomputable def mixKind (prog : Program) (w : World) : PySem.KeyKind prog w Key where
  is := keyIs
  hash := keyH w
  inj := fun v a b ha hb => by
    rcases keyIs_shape ha with ⟨i, t, rfl, rfl⟩ | ⟨x, t, rfl, rfl⟩
    · rcases keyIs_shape hb with ⟨j, u, rfl, e⟩ | ⟨y, u, rfl, e⟩
      · injection e with e1 _; rw [e1]
      · exact nomatch e
    · rcases keyIs_shape hb with ⟨j, u, rfl, e⟩ | ⟨y, u, rfl, e⟩
      · exact nomatch e
      · injection e with e1 _; rw [e1]
  byValue := fun k v h => by
    rcases keyIs_shape h with ⟨i, t, rfl, rfl⟩ | ⟨x, t, rfl, rfl⟩ <;> rfl
  pyHash := fun hv h => by
    rcases keyIs_shape hv with ⟨i, t, rfl, rfl⟩ | ⟨x, t, rfl, rfl⟩
    · exact wpAny_pyHash_int h
    · exact wpAny_pyHash_str h
  eqBool := fun hu hv h => by
    rcases keyIs_shape hu with ⟨i, t, rfl, rfl⟩ | ⟨x, t, rfl, rfl⟩
    · rcases keyIs_shape hv with ⟨j, u, rfl, rfl⟩ | ⟨y, u, rfl, rfl⟩
      · rw [key_ll] at h; exact wpAny_eqBool_int h
      · rw [key_lr] at h; exact SeqAt.EqAt.int_str i t y u _ _ _ _ h
    · rcases keyIs_shape hv with ⟨j, u, rfl, rfl⟩ | ⟨y, u, rfl, rfl⟩
      · rw [key_rl] at h; exact SeqAt.EqAt.str_int x t j u _ _ _ _ h
      · rw [key_rr] at h; exact wpAny_eqBool_str h
  «strs» := fun k x t v h => by
    rcases keyIs_shape h with ⟨i, u, rfl, e⟩ | ⟨y, u, rfl, e⟩
    · exact nomatch e
    · injection e with e1 _
      subst e1
      cases v <;> rfl

end L2

namespace L2
open PySem PySem.Spec PyProof.Rows

set_option genInjectivity true in
inductive V where
  | non | bl (b : Bool) | int (i : Int) | str (x : Str) | byt (b : Array UInt8) | flt (b : UInt64) | ref (a : Addr) | ty (n : String)
  deriving DecidableEq

noncomputable def RelV : V → Value → Prop
  | .non, u => u = Value.none
  | .bl b, u => u = Value.bool b
  | .int i, u => ∃ t, u = Value.int i t
  | .str x, u => ∃ t, u = Value.str x t
  | .byt b, u => ∃ t, u = Value.bytes b t
  | .flt b, u => ∃ t, u = Value.float b t
  | .ref a, u => u = Value.ref a
  | .ty n, u => u = Value.type n

noncomputable abbrev Vals : List V → List Value → Prop := Paired RelV
theorem Vals.length {xs : List V} {us : List Value} (r : Vals xs us) : xs.length = us.length := Paired.length r
theorem Vals.get : ∀ {xs : List V} {us : List Value} {i : Nat} {x : V}, Vals xs us → xs[i]? = some x → ∃ u, us[i]? = some u ∧ RelV x u
  | _, _, _, _, .nil, e => by simp at e
  | _, _, 0, _, .cons r _, e => by simp at e; subst e; exact ⟨_, rfl, r⟩
  | _, _, i + 1, x, .cons _ t, e => by
    obtain ⟨u, h1, h2⟩ := Vals.get (i := i) (x := x) t (by simpa using e)
    exact ⟨u, by simpa using h1, h2⟩
theorem Vals.set {x : V} {u : Value} (r : RelV x u) : ∀ {xs : List V} {us : List Value} (i : Nat), Vals xs us → Vals (xs.set i x) (us.set i u)
  | _, _, _, .nil => .nil
  | _, _, 0, .cons _ t => .cons r t
  | _, _, i + 1, .cons q t => .cons q (Vals.set r i t)
theorem Vals.append : ∀ {xs ys : List V} {us ws : List Value}, Vals xs us → Vals ys ws → Vals (xs ++ ys) (us ++ ws)
  | _, _, _, _, .nil, s => s
  | _, _, _, _, .cons r t, s => .cons r (Vals.append t s)
theorem Vals.take : ∀ {xs : List V} {us : List Value} (n : Nat), Vals xs us → Vals (xs.take n) (us.take n)
  | _, _, 0, _ => .nil
  | _, _, _ + 1, .nil => .nil
  | _, _, n + 1, .cons r t => .cons r (Vals.take n t)
theorem Vals.drop : ∀ {xs : List V} {us : List Value} (n : Nat), Vals xs us → Vals (xs.drop n) (us.drop n)
  | _, _, 0, r => r
  | _, _, _ + 1, .nil => .nil
  | _, _, n + 1, .cons _ t => Vals.drop n t
theorem Vals.none_of : ∀ {xs : List V} {us : List Value} {i : Nat}, Vals xs us → xs[i]? = none → us[i]? = none := fun {xs us i} r e => by
  have h1 := r.length
  have h2 : xs.length ≤ i := List.getElem?_eq_none_iff.mp e
  exact List.getElem?_eq_none_iff.mpr (by omega)

noncomputable def RelO : Option V → Option Value → Prop
  | some v, some u => RelV v u
  | none, none => True
  | _, _ => False
noncomputable def KV {κ : Type} : List (κ × V) → List (κ × Value) → Prop := Paired fun (p : κ × V) (q : κ × Value) => p.1 = q.1 ∧ RelV p.2 q.2

noncomputable def kV : Key → V
  | .inl i => .int i
  | .inr x => .str x

set_option genInjectivity true in
inductive HO where
  /-- a list -/
  | lst (xs : List V)
  /-- a tuple (never changes) -/
  | tup (xs : List V)
  /-- a dict whose keys are ints and texts; one whose keys are tuples of ints and texts (the empty one is both) -/
  | dK (kvs : List (Key × V)) | dT (kvs : List (List Key × V))
  /-- a set of ints: its members, its size -/
  | set (S : Int → Bool) (n : Nat)
  /-- an instance of the class at C, its dict at dx, its attributes -/
  | ins (C dx : Addr) (fs : List (Str × V))
  /-- the dict of the instance at x -/
  | own (x : Addr)
  /-- the dict of an exception -/
  | xd (fs : List (Str × V))
  /-- a bound method, f of x -/
  | met (f x : Addr)
  /-- a range object lo, lo + 1, .. below hi -/
  | rng (lo hi : Int)
  /-- a thing that is known to the object (the script; a dict while a loop walks it): read, never written while it is so -/
  | frz (o : Obj) (u : HO)
  /-- a code object's table -/
  | tbl (ps : Array Value)
  /-- any other thing, by what is true of its one object (a def of one's own: SetO a S n := HO.ext fun h => ..) -/
  | ext (φ : Heap → Prop)

noncomputable abbrev Hp := Addr → Option HO
noncomputable def upd (H : Hp) (a : Addr) (o : HO) : Hp := fun b => if b = a then some o else H b
theorem upd_same {H : Hp} {a : Addr} {o : HO} : upd H a o a = some o := by unfold upd; rw [if_pos rfl]
theorem upd_ne {H : Hp} {a b : Addr} {o : HO} (h : b ≠ a) : upd H a o b = H b := by unfold upd; rw [if_neg h]
theorem ne_of_none {H : Hp} {a b : Addr} {o : HO} (h : H a = some o) (h' : H b = none) : a ≠ b := by
  intro e; subst e; rw [h] at h'; cases h'

section
variable (P : Program) (w : World)
noncomputable def ObjOk (H : Hp) (h : Heap) (a : Addr) : HO → Prop
  | .lst xs => xs.length ≤ sizeLine ∧ ∃ (its : List Value) (n : Nat), Vals xs its ∧ h.get? a = some { cls := .type "list", data := .seq its.toArray n }
  | .tup xs => xs.length ≤ sizeLine ∧ ∃ its : List Value, Vals xs its ∧ IsTup h a its.toArray
  | .dK kvs => kvs.length ≤ sizeLine ∧ (a == sysModules) = false ∧ ∃ vs, KV kvs vs ∧ h.DictOf (mixKind P w) a vs
  | .dT kvs => kvs.length ≤ sizeLine ∧ (a == sysModules) = false ∧ ∃ xs : List (List Key × Addr × Value),
      Paired (fun (p : List Key × V) (q : List Key × Addr × Value) => p.1 = q.1 ∧ H q.2.1 = some (.tup (p.1.map kV)) ∧ RelV p.2 q.2.2) kvs xs ∧
      ∃ o es ep, h.get? a = some o ∧ o.ExactDict ∧ o.data = .dict es ep ∧ es.toList = xs.map (entryOfKey (tupleKind (mixKind P w))) ∧ (xs.map (·.1)).Nodup
  | .set S n => h.SetOf (intKind P w) a S n
  | .ins C dx fs => H dx = some (.own a) ∧ fs.length ≤ 1000 ∧ dx ≠ a ∧ h.get? a = some (PySem.W.instObj C dx) ∧
      ∃ mA, h.Ns1 dx mA ∧ (∀ f, RelO (fs.lookup f) (mA f)) ∧ PySem.Within mA (fs.map (·.1))
  | .own _ => ∃ o, h.get? a = some o
  | .xd fs => ∃ mA, h.Ns1 a mA ∧ ∀ f, RelO (fs.lookup f) (mA f)
  | .rng lo hi => ∃ t u v, h.get? a = some { cls := .type "range", data := .fields #[.int lo t, .int hi u, .int 1 v] }
  | .frz o u => h.get? a = some o ∧ ObjOk H h a u
  | .tbl ps => h.get? a = some { cls := .none, data := .fields ps }
  | .met f x => h.get? a = some (PySem.W.methodObj (.ref f) (.ref x))
  | .ext φ => φ h ∧ (∃ o, h.get? a = some o) ∧ ∀ h1 h2 : Heap, φ h1 → (∀ o, h1.get? a = some o → h2.get? a = some o) → φ h2
noncomputable def HOk (H : Hp) (h : Heap) : Prop := ∀ a o, H a = some o → ObjOk P w H h a o
end

section
variable {P : Program} {w : World} {H H' : Hp} {h h' : Heap} {a : Addr} {o : HO}
theorem ObjOk.lt (x : ObjOk P w H h a o) : a < h.objs.size := by
  cases o with
  | lst xs => obtain ⟨_, _, _, _, e⟩ := x; exact Heap.lt_size e
  | tup xs => obtain ⟨_, _, _, p⟩ := x; exact p.lt
  | dK kvs => obtain ⟨_, _, _, _, o, _, _, e, _⟩ := x; exact Heap.lt_size e
  | dT kvs => obtain ⟨_, _, _, _, o, _, _, e, _⟩ := x; exact Heap.lt_size e
  | set S n => obtain ⟨o, _, _, _, e, _⟩ := x; exact Heap.lt_size e
  | ins C dx fs => obtain ⟨_, _, _, e, _⟩ := x; exact Heap.lt_size e
  | own y => obtain ⟨_, e⟩ := x; exact Heap.lt_size e
  | xd fs => obtain ⟨_, ⟨_, _, _, e, _⟩, _⟩ := x; exact Heap.lt_size e
  | rng lo hi => obtain ⟨_, _, _, e⟩ := x; exact Heap.lt_size e
  | frz ob u => obtain ⟨e, _⟩ := x; exact Heap.lt_size e
  | tbl ps => exact Heap.lt_size (show h.get? a = some _ from x)
  | met f y => exact Heap.lt_size (show h.get? a = some _ from x)
  | ext φ => obtain ⟨_, ⟨_, e⟩, _⟩ := x; exact Heap.lt_size e
theorem Paired.mapP {α β : Type} {F G : α → β → Prop} : ∀ {l₁ : List α} {l₂ : List β}, Paired F l₁ l₂ → (∀ a b, F a b → G a b) → Paired G l₁ l₂
  | _, _, .nil, _ => .nil
  | _, _, .cons r t, f => .cons (f _ _ r) (Paired.mapP t f)
theorem ObjOk.stay (x : ObjOk P w H h a o) (k : ∀ b u, (b = a ∨ H b = some (.own a)) → h.get? b = some u → h'.get? b = some u)
    (ho : ∀ b, H b = some (.own a) → H' b = some (.own a)) (ht : ∀ b xs, H b = some (.tup xs) → H' b = some (.tup xs)) : ObjOk P w H' h' a o := by
  induction o with
  | lst xs => obtain ⟨z, its, n, r, e⟩ := x; exact ⟨z, its, n, r, k _ _ (.inl rfl) e⟩
  | tup xs => obtain ⟨z, its, r, ob, e, c⟩ := x; exact ⟨z, its, r, ob, k _ _ (.inl rfl) e, c⟩
  | dK kvs => obtain ⟨z, y, vs, r, ob, es, ep, e, c⟩ := x; exact ⟨z, y, vs, r, ob, es, ep, k _ _ (.inl rfl) e, c⟩
  | dT kvs =>
    obtain ⟨z, y, xs, r, ob, es, ep, e, c⟩ := x
    exact ⟨z, y, xs, Paired.mapP r fun p q z => ⟨z.1, ht _ _ z.2.1, z.2.2⟩, ob, es, ep, k _ _ (.inl rfl) e, c⟩
  | set S n => obtain ⟨ob, es, ep, t, e, c⟩ := x; exact ⟨ob, es, ep, t, k _ _ (.inl rfl) e, c⟩
  | ins C dx fs =>
    obtain ⟨d, z, ne, e, mA, ⟨od, es, ep, e2, c⟩, r⟩ := x
    exact ⟨ho _ d, z, ne, k _ _ (.inl rfl) e, mA, ⟨od, es, ep, k _ _ (.inr d) e2, c⟩, r⟩
  | own y => obtain ⟨ob, e⟩ := x; exact ⟨ob, k _ _ (.inl rfl) e⟩
  | xd fs => obtain ⟨mA, ⟨od, es, ep, e, c⟩, r⟩ := x; exact ⟨mA, ⟨od, es, ep, k _ _ (.inl rfl) e, c⟩, r⟩
  | rng lo hi => obtain ⟨t, u, v, e⟩ := x; exact ⟨t, u, v, k _ _ (.inl rfl) e⟩
  | frz ob u ih => obtain ⟨e, q⟩ := x; exact ⟨k _ _ (.inl rfl) e, ih q⟩
  | tbl ps =>
    have e : h.get? a = some { cls := .none, data := .fields ps } := x
    show h'.get? a = some { cls := .none, data := .fields ps }
    exact k a _ (.inl rfl) e
  | met f y =>
    have e : h.get? a = some (PySem.W.methodObj (.ref f) (.ref y)) := x
    show h'.get? a = some (PySem.W.methodObj (.ref f) (.ref y))
    exact k a _ (.inl rfl) e
  | ext φ => obtain ⟨p, ⟨o, e⟩, st⟩ := x; exact ⟨st _ _ p fun o q => k _ _ (.inl rfl) q, ⟨o, k _ _ (.inl rfl) e⟩, st⟩
theorem HOk.lt (x : HOk P w H h) (e : H a = some o) : a < h.objs.size := (x a o e).lt
theorem HOk.fresh (x : HOk P w H h) (e : h.objs.size ≤ a) : H a = none := by
  cases q : H a with
  | none => rfl
  | some u => exact absurd (Nat.lt_of_lt_of_le (x.lt q) e) (Nat.lt_irrefl _)
theorem HOk.kept (x : HOk P w H h) (k : ∀ b u, h.get? b = some u → h'.get? b = some u) : HOk P w H h' := fun a o e =>
  (x a o e).stay (fun b u _ q => k b u q) (fun _ q => q) fun _ _ q => q
theorem HOk.laid (x : HOk P w H h) (k : ∀ b u, h.get? b = some u → h'.get? b = some u) (hp : h.objs.size ≤ a) (new : ObjOk P w (upd H a o) h' a o) : HOk P w (upd H a o) h' := fun b u e => by
  have hn := x.fresh hp
  by_cases hb : b = a
  · subst hb; rw [upd_same] at e; cases e; exact new
  · rw [upd_ne hb] at e
    exact (x b u e).stay (fun c v _ q => k c v q) (fun c q => by rw [upd_ne (ne_of_none q hn)]; exact q) fun c xs q => by rw [upd_ne (ne_of_none q hn)]; exact q
end

noncomputable def Rd (H : Hp) (a : Addr) (u : HO) : Prop := H a = some u ∨ ∃ o, H a = some (.frz o u)
theorem Rd.of {H : Hp} {a : Addr} {u : HO} (h : H a = some u) : Rd H a u := .inl h
theorem Rd.ok {P : Program} {w : World} {H : Hp} {h : Heap} {a : Addr} {u : HO} (r : Rd H a u) (x : HOk P w H h) : ObjOk P w H h a u := by
  rcases r with r | ⟨o, r⟩
  · exact x a u r
  · obtain ⟨_, q⟩ := x a _ r
    exact q
noncomputable def Mut : Option HO → Prop
  | some (.lst _) => True
  | some (.dK _) => True
  | some (.dT _) => True
  | some (.set _ _) => True
  | some (.ins _ _ _) => True
  | some (.ext _) => True
  | _ => False
section
variable {P : Program} {w : World} {H : Hp} {h h' : Heap} {x e : Addr} {o' : HO}
theorem HOk.write (ok : HOk P w H h) (mu : Mut (H x)) (he : e = x ∨ H e = some (.own x)) (k : ∀ b u, b ≠ e → h.get? b = some u → h'.get? b = some u) (heo : ∃ u, h'.get? e = some u)
    (new : ObjOk P w (upd H x o') h' x o') : HOk P w (upd H x o') h' := fun b u q => by
  have nown : ∀ c y, H c = some (.own y) → c ≠ x := fun c y r z => by subst z; rw [r] at mu; exact mu
  have ntup : ∀ c xs, H c = some (.tup xs) → c ≠ x := fun c xs r z => by subst z; rw [r] at mu; exact mu
  by_cases hb : b = x
  · subst hb; rw [upd_same] at q; cases q; exact new
  · rw [upd_ne hb] at q
    by_cases hbe : b = e
    · have q' : H b = some (.own x) := by
        rcases he with z | z
        · exact absurd (hbe.trans z) hb
        · rw [hbe]; exact z
      rw [q] at q'; cases q'
      obtain ⟨v, hv⟩ := heo
      exact ⟨v, by rw [hbe]; exact hv⟩
    · refine (ok b u q).stay (fun c v hc r => k c v ?_ r) (fun c r => by rw [upd_ne (nown c b r)]; exact r) fun c xs r => by rw [upd_ne (ntup c xs r)]; exact r
      rcases hc with rfl | hc
      · exact hbe
      · rintro rfl
        rcases he with z | z
        · exact nown c b hc z
        · rw [hc] at z; cases z; exact hb rfl
end

structure Un (fs ex : List Addr) (H H' : Hp) (h h' : Heap) : Prop where
  keep : ∀ b o, h.get? b = some o → H b = none → b ∉ fs → b ∉ ex → h'.get? b = some o
  slot : ∀ b o, h.get? b = some o → H b = none → b ∈ fs → b ∉ ex → ∃ sl, h'.get? b = some { o with slots := sl }
  free : ∀ b o, h.get? b = some o → H b = none → b ∉ ex → H' b = none
  there : ∀ b o, h.get? b = some o → b ∉ ex → ∃ o', h'.get? b = some o'
  tups : ∀ b xs, H b = some (.tup xs) → H' b = some (.tup xs)
  frzs : ∀ b o u, H b = some (.frz o u) → H' b = some (.frz o u)
  tbls : ∀ b ps, H b = some (.tbl ps) → ∃ more, H' b = some (.tbl (ps ++ more))
section
variable {fs fs' ex ex' : List Addr} {H H1 H2 : Hp} {h h1 h2 h' : Heap} {a x e : Addr} {o : HO}
theorem Un.any (u : Un fs ex H H1 h h1) {b : Addr} {ob : Obj} (q : h.get? b = some ob) (n : H b = none) (hx : b ∉ ex) : ∃ sl, h1.get? b = some { ob with slots := sl } := by
  by_cases hb : b ∈ fs
  · exact u.slot b ob q n hb hx
  · exact ⟨ob.slots, u.keep b ob q n hb hx⟩
theorem Un.trans (a : Un fs ex H H1 h h1) (b : Un fs ex H1 H2 h1 h2) : Un fs ex H H2 h h2 where
  keep := fun c ob q n hc hx => b.keep c ob (a.keep c ob q n hc hx) (a.free c ob q n hx) hc hx
  slot := fun c ob q n hc hx => by
    obtain ⟨sl, e1⟩ := a.slot c ob q n hc hx
    obtain ⟨sl', e2⟩ := b.slot c _ e1 (a.free c ob q n hx) hc hx
    exact ⟨sl', e2⟩
  free := fun c ob q n hx => by
    obtain ⟨o', e1⟩ := a.there c ob q hx
    exact b.free c o' e1 (a.free c ob q n hx) hx
  there := fun c ob q hx => by
    obtain ⟨o', e1⟩ := a.there c ob q hx
    exact b.there c o' e1 hx
  tups := fun c xs q => b.tups c xs (a.tups c xs q)
  frzs := fun c ob xs q => b.frzs c ob xs (a.frzs c ob xs q)
  tbls := fun c ps q => by
    obtain ⟨m1, e1⟩ := a.tbls c ps q
    obtain ⟨m2, e2⟩ := b.tbls c _ e1
    exact ⟨m1 ++ m2, by rw [e2, Array.append_assoc]⟩
theorem Un.kept (k : ∀ b u, h.get? b = some u → h'.get? b = some u) : Un fs ex H H h h' :=
  ⟨fun b ob q _ _ _ => k b ob q, fun b ob q _ _ _ => ⟨ob.slots, k b ob q⟩, fun _ _ _ n _ => n, fun b ob q _ => ⟨ob, k b ob q⟩, fun _ _ q => q, fun _ _ _ q => q, fun _ ps q => ⟨#[], by rw [q]; simp⟩⟩
theorem Un.refl : Un fs ex H H h h := Un.kept fun _ _ q => q
theorem Un.laid (k : ∀ b u, h.get? b = some u → h'.get? b = some u) (hp : h.objs.size ≤ a) (hn : H a = none) : Un fs ex H (upd H a o) h h' where
  keep := fun b u q _ _ _ => k b u q
  slot := fun b u q _ _ _ => ⟨u.slots, k b u q⟩
  free := fun b u q n _ => by rw [upd_ne (Nat.ne_of_lt (Nat.lt_of_lt_of_le (Heap.lt_size q) hp))]; exact n
  there := fun b u q _ => ⟨u, k b u q⟩
  tups := fun b xs q => by rw [upd_ne (ne_of_none q hn)]; exact q
  frzs := fun b u xs q => by rw [upd_ne (ne_of_none q hn)]; exact q
  tbls := fun b ps q => ⟨#[], by rw [upd_ne (ne_of_none q hn), q]; simp⟩
theorem Un.write (mu : Mut (H x)) (he : e = x ∨ H e = some (.own x)) (k : ∀ b u, b ≠ e → h.get? b = some u → h'.get? b = some u) (heo : ∃ u, h'.get? e = some u) : Un fs ex H (upd H x o) h h' := by
  have hx : ∀ b, H b = none → b ≠ x := fun b n z => by subst z; rw [n] at mu; exact mu
  have hb : ∀ b, H b = none → b ≠ e := fun b n z => by
    subst z
    rcases he with r | r
    · exact hx b n r
    · rw [n] at r; cases r
  have hm : ∀ b u, H b = some u → ¬ Mut (some u) → b ≠ x := fun b u q nm z => by subst z; rw [q] at mu; exact nm mu
  refine ⟨fun b u q n _ _ => k b u (hb b n) q, fun b u q n _ _ => ⟨u.slots, k b u (hb b n) q⟩, fun b u q n _ => by rw [upd_ne (hx b n)]; exact n, fun b u q _ => ?_,
    fun b xs q => by rw [upd_ne (hm b _ q fun z => z)]; exact q, fun b u xs q => by rw [upd_ne (hm b _ q fun z => z)]; exact q, fun b ps q => ⟨#[], by rw [upd_ne (hm b _ q fun z => z), q]; simp⟩⟩
  by_cases hbe : b = e
  · subst hbe; exact heo
  · exact ⟨u, k b u hbe q⟩
theorem Un.mono (u : Un fs ex H H1 h h1) (hs : ∀ b ∈ fs, b ∈ fs') (hx : ∀ b ∈ ex, b ∈ ex') : Un fs' ex' H H1 h h1 :=
  ⟨fun b ob q n hb he => u.keep b ob q n (fun z => hb (hs b z)) fun z => he (hx b z), fun _ _ q n _ he => u.any q n fun z => he (hx _ z), fun b ob q n he => u.free b ob q n fun z => he (hx b z), fun b ob q he => u.there b ob q fun z => he (hx b z), u.tups, u.frzs, u.tbls⟩
end

noncomputable def trk (h : Heap) (H : Hp) : List Addr := (List.range h.objs.size).filter fun a => (H a).isSome
noncomputable def hidT (h : Heap) (H : Hp) : Heap := PySem.W.hideAll h (trk h H)
theorem hidT_size (h : Heap) (H : Hp) : (hidT h H).objs.size = h.objs.size := PySem.W.hideAll_size _ _
theorem hidT_get {h : Heap} {H : Hp} {b : Addr} {o : Obj} (e : h.get? b = some o) (n : H b = none) : (hidT h H).get? b = some o :=
  PySem.W.hideAll_get _ e fun hm => by
    have q : (H b).isSome = true := (List.mem_filter.mp hm).2
    rw [n] at q; simp at q
theorem of_hidT {h : Heap} {H : Hp} {b : Addr} {o : Obj} (e : (hidT h H).get? b = some o) : h.get? b = some o ∧ H b = none := by
  have e' : h.get? b = some o := PySem.W.of_hideAll (trk h H) e
  refine ⟨e', ?_⟩
  cases q : H b with
  | none => rfl
  | some x =>
    have hm : b ∈ trk h H := List.mem_filter.mpr ⟨List.mem_range.mpr (Heap.lt_size e'), by simp [q]⟩
    have z : (hidT h H).get? b = none := PySem.W.hideAll_none (trk h H) hm
    rw [z] at e; cases e

noncomputable def allNews (g h : Heap) (L : Addr) : List (Addr × Obj) := (List.range h.objs.size).filterMap fun a => if a = L ∨ (g.get? a).isSome = true then none else (h.get? a).map fun o => (a, o)
noncomputable def rest (g h : Heap) (L d : Addr) : List (Addr × Obj) := (allNews g h L).filter fun p => decide (p.1 ≠ d)
end L2

namespace L2
open PySem PySem.Spec PyProof.Rows

structure Mod (K : PySem.W.Frag) (mg : Str → Option Value) (base : Heap) : Prop where
  kin : K.In base
  glob : base.Ns mainGlobals mg
  blt : ∃ mb, base.Ns builtinsNs mb ∧ ∀ x : Str, x ≠ "__name__" → mb x = bootBuiltins x
  nolimit : base.NoLimit

structure Cx where
  prog : Program
  w : World
  K : PySem.W.Frag
  mg : Str → Option Value
  base : Heap
  A : Around
  N : List Str
  s₀ : Shared
  H₀ : Hp
  env : Env
  outer : List Env
  stack : List Env
  ex : List Addr
  fn : Str → Bool
  calm : Bool
  pn : List (Addr × Obj)
  xe : Value → Shared → Prop
noncomputable def frs (l : List Env) : List Addr := l.filterMap (·.frame)
noncomputable abbrev Cx.fs (X : Cx) : List Addr := frs X.outer

noncomputable def Vis (sc : Scope) (x : Str) : Prop := sc.names.lookup x = some .local ∨ sc.names.lookup x = some .cell ∨ sc.names.lookup x = some .free
noncomputable def Loc (sc : Scope) (x : Str) : Prop := sc.names.lookup x = some .local ∨ sc.names.lookup x = some .cell
noncomputable def Look (env : Env) (h : Heap) (m : Str → Option Value) (x : Str) (u : Value) : Prop :=
  (env.kindOf x = some .local ∧ m x = some u) ∨ ((env.kindOf x = some .cell ∨ env.kindOf x = some .free) ∧ ∃ c, env.cells.lookup x = some c ∧ h.IsCell c (some u))

structure Cx.Ok (X : Cx) : Prop where
  mod : Mod X.K X.mg X.base
  kind : X.env.scope.kind = .function
  glob : X.env.globals = mainGlobals
  blt : X.env.builtins = builtinsNs
  above : X.s₀.heap.objs.size ≤ X.env.locals
  inj : ∀ x y c, X.env.cells.lookup x = some c → X.env.cells.lookup y = some c → x = y
  has : ∀ x, (X.env.kindOf x = some .cell ∨ X.env.kindOf x = some .free) → ∃ c, X.env.cells.lookup x = some c
  cab : ∀ x c, X.fn x = true → X.env.cells.lookup x = some c → X.s₀.heap.objs.size ≤ c
  hd : X.calm = true → X.A.handled = none
  frames : X.A.frames = some X.stack
  stk : X.stack = X.outer ∨ (X.stack = X.env :: X.outer ∧ X.env.frame = some X.env.locals)
  exf : ∀ b ∈ X.ex, b ≠ X.env.locals ∧ ∀ x c, X.env.cells.lookup x = some c → c ≠ b
  bs : ∀ b o, X.base.get? b = some o → X.s₀.heap.get? b = some o ∧ X.H₀ b = none
  bsz : X.base.objs.size ≤ X.s₀.heap.objs.size
  noex : ∀ b o, X.base.get? b = some o → b ∉ X.ex
  exfs : ∀ b ∈ X.ex, b ∉ X.fs
  funs : X.s₀.heap.FunFrames X.base X.outer
  frf : ∀ b ∈ X.fs, X.H₀ b = none

structure Inv (X : Cx) (pins : List (Addr × Obj)) (σ : List (Option V)) (H : Hp) (s : Shared) : Prop where
  ok : X.Ok
  os : s.os = X.s₀.os
  bare : AllBare s.gens
  base : Un X.fs X.ex X.H₀ H X.s₀.heap s.heap
  loc : ∃ m, s.heap.Ns X.env.locals m ∧ ∀ (i : Nat) (x : Str) (v : V), X.N[i]? = some x → σ[i]? = some (some v) → Vis X.env.scope x → ∃ u, RelV v u ∧ Look X.env s.heap m x u
  cell : ∀ x c, X.env.cells.lookup x = some c → ∃ v, s.heap.IsCell c v
  free : H X.env.locals = none
  freeC : ∀ x c, X.env.cells.lookup x = some c → H c = none
  pin : ∀ p ∈ X.pn ++ pins, s.heap.get? p.1 = some p.2 ∧ H p.1 = none ∧ p.1 ≠ X.env.locals ∧ p.1 ∉ X.fs ∧ ∀ v, p.2.data ≠ .cell v
  hok : HOk X.prog X.w H s.heap
  len : σ.length = X.N.length

section
variable {X : Cx} {pins : List (Addr × Obj)} {σ : List (Option V)} {H H' : Hp} {s : Shared} {h' : Heap}

theorem Cx.Ok.nofr (ok : X.Ok) {b : Addr} {o : Obj} (e : X.base.get? b = some o) : b ∉ X.fs := fun hb => by
  have := (ok.funs.mem hb).1
  rw [e] at this; cases this
theorem Inv.bs (I : Inv X pins σ H s) : ∀ b o, X.base.get? b = some o → s.heap.get? b = some o ∧ H b = none := fun b o e =>
  ⟨I.base.keep b o (I.ok.bs b o e).1 (I.ok.bs b o e).2 (I.ok.nofr e) (I.ok.noex b o e), I.base.free b o (I.ok.bs b o e).1 (I.ok.bs b o e).2 (I.ok.noex b o e)⟩
theorem Inv.bk (I : Inv X pins σ H s) : ∀ b o, X.base.get? b = some o → s.heap.get? b = some o := fun b o e => (I.bs b o e).1
theorem Inv.mod (I : Inv X pins σ H s) : Mod X.K X.mg X.base := I.ok.mod
theorem Inv.kIn (I : Inv X pins σ H s) : X.K.In s.heap := I.ok.mod.kin.keeps I.bk
theorem Inv.nolimit (I : Inv X pins σ H s) : s.heap.NoLimit := I.ok.mod.nolimit.keeps I.bk
theorem Inv.lt (I : Inv X pins σ H s) : X.env.locals < s.heap.objs.size := let ⟨_, hn, _⟩ := I.loc; hn.lt
theorem Inv.sz (I : Inv X pins σ H s) : X.s₀.heap.objs.size ≤ s.heap.objs.size := Nat.le_trans I.ok.above (Nat.le_of_lt I.lt)
theorem Inv.nofs (I : Inv X pins σ H s) {a : Addr} (h : s.heap.objs.size ≤ a) : a ∉ X.fs := fun hb => by
  obtain ⟨_, o, ho, _⟩ := I.ok.funs.mem hb
  exact absurd (Nat.lt_of_lt_of_le (Heap.lt_size ho) (Nat.le_trans I.sz h)) (Nat.lt_irrefl _)
theorem Inv.cne (I : Inv X pins σ H s) : ∀ x c, X.env.cells.lookup x = some c → c ≠ X.env.locals := fun x c e z => by
  obtain ⟨v, o, ho, hd⟩ := I.cell x c e
  obtain ⟨m, ⟨o', es, ep, ho', hd', _⟩, _⟩ := I.loc
  rw [z, ho'] at ho; cases ho; rw [hd'] at hd; cases hd
theorem Inv.funs (I : Inv X pins σ H s) : s.heap.FunFrames X.base X.outer := by
  have all : ∀ (l : List Env), (∀ b ∈ frs l, b ∈ X.fs) → X.s₀.heap.FunFrames X.base l → s.heap.FunFrames X.base l := by
    intro l
    induction l with
    | nil => intro _ _; trivial
    | cons env r ih =>
      intro hs hl
      obtain ⟨hk, ⟨L, o, hf, hn, ho, hd⟩, hr⟩ := hl
      have hL : L ∈ X.fs := hs L (by unfold frs; rw [List.filterMap_cons, hf]; exact List.mem_cons_self)
      obtain ⟨sl, e⟩ := I.base.slot L o ho (I.ok.frf L hL) hL fun z => I.ok.exfs L z hL
      exact ⟨hk, ⟨L, _, hf, hn, e, hd⟩, ih (fun b hb => hs b (by unfold frs; rw [List.filterMap_cons, hf]; exact List.mem_cons_of_mem _ hb)) hr⟩
  exact all X.outer (fun _ hb => hb) I.ok.funs

theorem Inv.stack (I : Inv X pins σ H s) : s.heap.FunFrames X.base X.stack := by
  rcases I.ok.stk with e | ⟨e, hf⟩
  · rw [e]; exact I.funs
  · rw [e]
    obtain ⟨m, hn, _⟩ := I.loc
    refine .cons (by rw [I.ok.kind]; decide) hf hn ?_ I.funs
    exact Heap.get?_none_of_le (Nat.le_trans I.ok.bsz I.ok.above)
theorem Inv.stkSub (I : Inv X pins σ H s) : ∀ b ∈ frs X.stack, b ∈ X.env.locals :: X.fs := fun b hb => by
  rcases I.ok.stk with e | ⟨e, hf⟩
  · rw [e] at hb; exact List.mem_cons_of_mem _ hb
  · rw [e] at hb
    unfold frs at hb
    rw [List.filterMap_cons, hf] at hb
    exact hb
theorem Inv.stkFree (I : Inv X pins σ H s) : ∀ b ∈ frs X.stack, H b = none := fun b hb => by
  rcases List.mem_cons.mp (I.stkSub b hb) with e | hb
  · rw [e]; exact I.free
  · obtain ⟨_, o, ho, _⟩ := I.ok.funs.mem hb
    exact I.base.free b o ho (I.ok.frf b hb) fun z => I.ok.exfs b z hb

theorem Inv.step {g' : Array GenState} {t' : Nat} {d' : Drawn} {ch : List Addr} (I : Inv X pins σ H s)
    (hch : ∀ b ∈ ch, (b ∈ X.ex ∨ X.s₀.heap.objs.size ≤ b) ∧ b ≠ X.env.locals ∧ (∀ x c, X.env.cells.lookup x = some c → c ≠ b) ∧ ∀ p ∈ X.pn ++ pins, p.1 ≠ b)
    (keep : ∀ b o, b ≠ X.env.locals → b ∉ X.fs → b ∉ ch → s.heap.get? b = some o → H b = none → h'.get? b = some o)
    (slot : ∀ b o, b ≠ X.env.locals → b ∈ X.fs → b ∉ ch → s.heap.get? b = some o → H b = none → ∃ sl, h'.get? b = some { o with slots := sl }) (free : ∀ b o, b ∉ ch → s.heap.get? b = some o → H b = none → H' b = none)
    (there : ∀ b o, b ∉ ch → s.heap.get? b = some o → ∃ o', h'.get? b = some o')
    (tups : ∀ b xs, H b = some (.tup xs) → H' b = some (.tup xs)) (frzs : ∀ b o u, H b = some (.frz o u) → H' b = some (.frz o u)) (tbls : ∀ b ps, H b = some (.tbl ps) → ∃ more, H' b = some (.tbl (ps ++ more)))
    (ns : ∀ m, s.heap.Ns X.env.locals m → h'.Ns X.env.locals m) (hok : HOk X.prog X.w H' h') (hg : AllBare g') :
    Inv X pins σ H' { s with heap := h', gens := g', drawn := d', toks := t' } := by
  have neL : ∀ b o, X.s₀.heap.get? b = some o → b ≠ X.env.locals := fun b o e => Nat.ne_of_lt (Nat.lt_of_lt_of_le (Heap.lt_size e) I.ok.above)
  have neC : ∀ b o, X.s₀.heap.get? b = some o → b ∉ X.ex → b ∉ ch := fun b o e hx hb => by
    rcases (hch b hb).1 with z | z
    · exact hx z
    · exact absurd (Nat.lt_of_lt_of_le (Heap.lt_size e) z) (Nat.lt_irrefl _)
  have cellK : ∀ x c, X.env.cells.lookup x = some c → ∀ v, s.heap.IsCell c v → h'.IsCell c v := fun x c e v ⟨o, ho, hd⟩ => by
    have nch : c ∉ ch := fun z => (hch c z).2.2.1 x c e rfl
    by_cases hc : c ∈ X.fs
    · obtain ⟨sl, q⟩ := slot c o (I.cne x c e) hc nch ho (I.freeC x c e)
      exact ⟨_, q, hd⟩
    · exact ⟨o, keep c o (I.cne x c e) hc nch ho (I.freeC x c e), hd⟩
  refine ⟨I.ok, I.os, hg, ⟨fun b o e n hb hx => ?_, fun b o e n hb hx => ?_, fun b o e n hx => ?_, fun b o e hx => ?_, fun b xs e => tups b xs (I.base.tups b xs e), fun b o xs e => frzs b o xs (I.base.frzs b o xs e), fun b ps e => ?_⟩, ?_, fun x c e => ?_, ?_, fun x c e => ?_, fun p hp => ?_, hok, I.len⟩
  · exact keep b o (neL b o e) hb (neC b o e hx) (I.base.keep b o e n hb hx) (I.base.free b o e n hx)
  · obtain ⟨sl, e1⟩ := I.base.slot b o e n hb hx
    obtain ⟨sl', e2⟩ := slot b _ (neL b o e) hb (neC b o e hx) e1 (I.base.free b o e n hx)
    exact ⟨sl', e2⟩
  · obtain ⟨o', e1⟩ := I.base.there b o e hx
    exact free b o' (neC b o e hx) e1 (I.base.free b o e n hx)
  · obtain ⟨o', e1⟩ := I.base.there b o e hx
    exact there b o' (neC b o e hx) e1
  · obtain ⟨m1, e1⟩ := I.base.tbls b ps e
    obtain ⟨m2, e2⟩ := tbls b _ e1
    exact ⟨m1 ++ m2, by rw [e2, Array.append_assoc]⟩
  · obtain ⟨m, hn, hl⟩ := I.loc
    refine ⟨m, ns m hn, fun i x v e1 e2 e3 => ?_⟩
    obtain ⟨u, r, l⟩ := hl i x v e1 e2 e3
    refine ⟨u, r, ?_⟩
    rcases l with l | ⟨k, c, e, z⟩
    · exact .inl l
    · exact .inr ⟨k, c, e, cellK x c e _ z⟩
  · obtain ⟨v, z⟩ := I.cell x c e
    exact ⟨v, cellK x c e v z⟩
  · obtain ⟨m, ⟨o, _, _, ho, _⟩, _⟩ := I.loc
    exact free _ o (fun z => (hch _ z).2.1 rfl) ho I.free
  · obtain ⟨v, o, ho, hd⟩ := I.cell x c e
    exact free c o (fun z => (hch c z).2.2.1 x c e rfl) ho (I.freeC x c e)
  · obtain ⟨e, n, ne, nf, d⟩ := I.pin p hp
    have nch : p.1 ∉ ch := fun z => (hch p.1 z).2.2.2 p hp rfl
    exact ⟨keep p.1 p.2 ne nf nch e n, free p.1 p.2 nch e n, ne, nf, d⟩
theorem Inv.un {t' : Nat} (I : Inv X pins σ H s) (u : Un X.fs [] H H' s.heap h') (hok : HOk X.prog X.w H' h') : Inv X pins σ H' { s with heap := h', toks := t' } := by
  obtain ⟨m, ⟨o, es, ep, ho, r⟩, _⟩ := id I.loc
  obtain ⟨sl, hL⟩ := u.any ho I.free (by simp)
  exact I.step (g' := s.gens) (d' := s.drawn) (ch := []) (fun _ z => nomatch z) (fun b o _ hb _ e n => u.keep b o e n hb (by simp)) (fun b o _ hb _ e n => u.slot b o e n hb (by simp)) (fun b o _ e n => u.free b o e n (by simp)) (fun b o _ e => u.there b o e (by simp)) u.tups u.frzs u.tbls (fun m' hm => by
    obtain ⟨o', es', ep', ho', r'⟩ := hm
    rw [ho] at ho'; cases ho'
    exact ⟨_, es', ep', hL, r'⟩) hok I.bare
theorem Inv.call {g' : Array GenState} {t' : Nat} {d' : Drawn} {ch : List Addr} (I : Inv X pins σ H s) (u : Un (frs X.stack) ch H H' s.heap h') (hok : HOk X.prog X.w H' h') (hg : AllBare g')
    (hch : ∀ b ∈ ch, (b ∈ X.ex ∨ X.s₀.heap.objs.size ≤ b) ∧ b ≠ X.env.locals ∧ (∀ x c, X.env.cells.lookup x = some c → c ≠ b) ∧ ∀ p ∈ X.pn ++ pins, p.1 ≠ b) :
    Inv X pins σ H' { s with heap := h', gens := g', drawn := d', toks := t' } := by
  obtain ⟨m, ⟨o, es, ep, ho, r⟩, _⟩ := id I.loc
  obtain ⟨sl, hL⟩ := u.any ho I.free fun z => (hch _ z).2.1 rfl
  exact I.step (ch := ch) hch (fun b o hL hb hc e n => u.keep b o e n (fun z => (List.mem_cons.mp (I.stkSub b z)).elim hL hb) hc) (fun b o _ _ hc e n => u.any e n hc) (fun b o hc e n => u.free b o e n hc) (fun b o hc e => u.there b o e hc) u.tups u.frzs u.tbls (fun m' hm => by
    obtain ⟨o', es', ep', ho', r'⟩ := hm
    rw [ho] at ho'; cases ho'
    exact ⟨_, es', ep', hL, r'⟩) hok hg
theorem Inv.turned {t' : Nat} {it : Addr} (I : Inv X pins σ H s) (k : ∀ b o, b ≠ it → s.heap.get? b = some o → h'.get? b = some o) (hn : H it = none) (hL : it ≠ X.env.locals)
    (h1 : it ∈ X.ex ∨ X.s₀.heap.objs.size ≤ it) (h2 : ∀ x c, X.env.cells.lookup x = some c → c ≠ it) (h3 : ∀ p ∈ X.pn ++ pins, p.1 ≠ it) : Inv X pins σ H { s with heap := h', toks := t' } := by
  have nit : ∀ b u, H b = some u → b ≠ it := fun b u e z => by rw [z, hn] at e; cases e
  refine I.step (g' := s.gens) (d' := s.drawn) (ch := [it]) (fun b hb => ?_) (fun b o _ _ hc e _ => k b o (fun z => hc (by simp [z])) e) (fun b o _ _ hc e _ => ⟨o.slots, k b o (fun z => hc (by simp [z])) e⟩) (fun _ _ _ _ n => n)
    (fun b o hc e => ⟨o, k b o (fun z => hc (by simp [z])) e⟩) (fun _ _ e => e) (fun _ _ _ e => e) (fun b ps e => ⟨#[], by rw [e]; simp⟩) (fun m hm => ?_) (fun b u e => ?_) I.bare
  · have e : b = it := by simpa using hb
    subst e
    exact ⟨h1, hL, h2, h3⟩
  · obtain ⟨o, es, ep, ho, r⟩ := hm
    exact ⟨o, es, ep, k _ o (Ne.symm hL) ho, r⟩
  · refine (I.hok b u e).stay (fun c v hc q => k c v ?_ q) (fun _ q => q) fun _ _ q => q
    rcases hc with z | z
    · rw [z]; exact nit b u e
    · exact nit c _ z
theorem Inv.tok (I : Inv X pins σ H s) (t : Nat) : Inv X pins σ H { s with toks := t } := I.un (h' := s.heap) (t' := t) Un.refl I.hok
theorem Inv.kept {t' : Nat} (I : Inv X pins σ H s) (k : ∀ b u, s.heap.get? b = some u → h'.get? b = some u) : Inv X pins σ H { s with heap := h', toks := t' } := I.un (Un.kept k) (I.hok.kept k)
theorem Inv.laid {a : Addr} {o : HO} {t' : Nat} (I : Inv X pins σ H s) (k : ∀ b u, s.heap.get? b = some u → h'.get? b = some u) (hp : s.heap.objs.size ≤ a) (new : ObjOk X.prog X.w (upd H a o) h' a o) :
    Inv X pins σ (upd H a o) { s with heap := h', toks := t' } := I.un (Un.laid k hp (I.hok.fresh hp)) (I.hok.laid k hp new)
theorem Inv.write {x e : Addr} {o : HO} {t' : Nat} (I : Inv X pins σ H s) (mu : Mut (H x)) (he : e = x ∨ H e = some (.own x)) (k : ∀ b u, b ≠ e → s.heap.get? b = some u → h'.get? b = some u) (heo : ∃ u, h'.get? e = some u)
    (new : ObjOk X.prog X.w (upd H x o) h' x o) : Inv X pins σ (upd H x o) { s with heap := h', toks := t' } := I.un (Un.write mu he k heo) (I.hok.write mu he k heo new)
theorem Inv.weak {σ' : List (Option V)} (I : Inv X pins σ H s) (hl : σ'.length = σ.length) (w : ∀ (i : Nat) v, σ'[i]? = some (some v) → σ[i]? = some (some v)) : Inv X pins σ' H s :=
  ⟨I.ok, I.os, I.bare, I.base, let ⟨m, hn, hl'⟩ := I.loc; ⟨m, hn, fun i x v e1 e2 e3 => hl' i x v e1 (w i v e2) e3⟩, I.cell, I.free, I.freeC, I.pin, I.hok, hl.trans I.len⟩
theorem Inv.pins_of {pins' : List (Addr × Obj)} (I : Inv X pins σ H s) (h : ∀ p ∈ pins', s.heap.get? p.1 = some p.2 ∧ H p.1 = none ∧ p.1 ≠ X.env.locals ∧ p.1 ∉ X.fs ∧ ∀ v, p.2.data ≠ .cell v) : Inv X pins' σ H s :=
  ⟨I.ok, I.os, I.bare, I.base, I.loc, I.cell, I.free, I.freeC, fun p hp => (List.mem_append.mp hp).elim (fun z => I.pin p (List.mem_append_left _ z)) (h p), I.hok, I.len⟩

theorem nodup_ix {N : List Str} (hN : N.Nodup) {i j : Nat} {x : Str} (a : N[i]? = some x) (b : N[j]? = some x) : i = j := by
  obtain ⟨h1, e1⟩ := List.getElem?_eq_some_iff.mp a
  obtain ⟨h2, e2⟩ := List.getElem?_eq_some_iff.mp b
  exact (List.getElem_inj hN).mp (e1.trans e2.symm)

theorem store_ok2 {M : Model} {A : Around} {E : Value → Shared → Prop} {i : Nat} {x : Str} {v : V} {u : Value} {Q : Unit → Shared → Prop} (I : Inv X pins σ H s) (hN : X.N.Nodup) (hi : X.N[i]? = some x) (hx : Loc X.env.scope x) (r : RelV v u)
    (h : ∀ s', Inv X pins (σ.set i (some v)) H s' → (∃ a, Heap.SameBut a s.heap s'.heap ∧ (a = X.env.locals ∨ X.env.cells.lookup x = some a)) → Q () s') (hf : X.fn x = true ∨ X.env.scope.names.lookup x = some .local := by first | exact .inl rfl | exact .inr rfl | assumption) : wpAny M A (storeName X.env x u) Q E s := by
  obtain ⟨m, hn, hl⟩ := id I.loc
  have hcls : (X.env.scope.kind == .class || (X.env.scope.kind == .module && X.env.locals != X.env.globals)) = false := by rw [I.ok.kind]; rfl
  have hiσ : i < σ.length := by rw [I.len]; exact (List.getElem?_eq_some_iff.mp hi).1
  have cne := I.cne
  have tracked : ∀ {a : Addr} {h' : Heap}, (∃ o, s.heap.get? a = some o ∧ H a = none) → Heap.SameBut a s.heap h' → HOk X.prog X.w H h' := fun {a h'} ha hs b ob e => by
    obtain ⟨_, _, hfree⟩ := ha
    refine (I.hok b ob e).stay (fun c w' hc q => (hs.2 c ?_).trans q) (fun _ q => q) fun _ _ q => q
    rintro rfl
    rcases hc with rfl | hc
    · rw [hfree] at e; cases e
    · rw [hfree] at hc; cases hc
  rcases hx with hk | hk
  · refine wpAny_storeName_local hk hn (fun h' hn' hs => ?_) hcls
    obtain ⟨oL, _, _, hoL, _⟩ := id hn
    refine h _ ⟨I.ok, I.os, I.bare, ⟨fun b o e n hb hx => ?_, fun b o e n hb hx => ?_, I.base.free, fun b o e hx => ?_, I.base.tups, I.base.frzs, I.base.tbls⟩, ⟨_, hn', fun j y v' e1 e2 e3 => ?_⟩, fun y c e => ?_, I.free, I.freeC, fun p hp => ?_, tracked ⟨oL, hoL, I.free⟩ hs, by simpa using I.len⟩ ⟨_, hs, .inl rfl⟩
    · exact (hs.2 b (Nat.ne_of_lt (Nat.lt_of_lt_of_le (Heap.lt_size e) I.ok.above))).trans (I.base.keep b o e n hb hx)
    · obtain ⟨sl, e1⟩ := I.base.slot b o e n hb hx
      exact ⟨sl, (hs.2 b (Nat.ne_of_lt (Nat.lt_of_lt_of_le (Heap.lt_size e) I.ok.above))).trans e1⟩
    · obtain ⟨o', e1⟩ := I.base.there b o e hx
      exact ⟨o', (hs.2 b (Nat.ne_of_lt (Nat.lt_of_lt_of_le (Heap.lt_size e) I.ok.above))).trans e1⟩
    · by_cases hj : j = i
      · subst hj
        rw [hi] at e1; cases e1
        rw [List.getElem?_set_self hiσ] at e2
        cases e2
        exact ⟨u, r, .inl ⟨hk, by simp⟩⟩
      · rw [List.getElem?_set_ne (Ne.symm hj)] at e2
        obtain ⟨u', r', q⟩ := hl j y v' e1 e2 e3
        refine ⟨u', r', ?_⟩
        rcases q with ⟨k, e⟩ | ⟨k, c, e, z⟩
        · refine .inl ⟨k, ?_⟩
          have : y ≠ x := fun e => hj (nodup_ix hN e1 (e ▸ hi))
          simp [this, e]
        · exact .inr ⟨k, c, e, z.sameBut hs (cne y c e)⟩
    · obtain ⟨w', z⟩ := I.cell y c e
      exact ⟨w', z.sameBut hs (cne y c e)⟩
    · obtain ⟨e, n, ne, nf, d⟩ := I.pin p hp
      exact ⟨(hs.2 p.1 ne).trans e, n, ne, nf, d⟩
  · have hfn : X.fn x = true := by
      rcases hf with z | z
      · exact z
      · rw [z] at hk; cases hk
    obtain ⟨c, hc⟩ := I.ok.has x (.inl hk)
    obtain ⟨w', z⟩ := I.cell x c hc
    refine wpAny_storeName_cell I.ok.kind hk hc z (fun h' hc' hs => ?_)
    obtain ⟨oc, hoc, hocd⟩ := id z
    refine h { s with heap := h' } ⟨I.ok, I.os, I.bare, ⟨fun b o e n hb hx => ?_, fun b o e n hb hx => ?_, I.base.free, fun b o e hx => ?_, I.base.tups, I.base.frzs, I.base.tbls⟩, ⟨m, hn.sameBut hs (Ne.symm (cne x c hc)), fun j y v' e1 e2 e3 => ?_⟩, fun y c' e => ?_, I.free, I.freeC, fun p hp => ?_, tracked ⟨oc, hoc, I.freeC x c hc⟩ hs, by simpa using I.len⟩ ⟨c, hs, .inr hc⟩
    · exact (hs.2 b (Nat.ne_of_lt (Nat.lt_of_lt_of_le (Heap.lt_size e) (I.ok.cab x c hfn hc)))).trans (I.base.keep b o e n hb hx)
    · obtain ⟨sl, e1⟩ := I.base.slot b o e n hb hx
      exact ⟨sl, (hs.2 b (Nat.ne_of_lt (Nat.lt_of_lt_of_le (Heap.lt_size e) (I.ok.cab x c hfn hc)))).trans e1⟩
    · obtain ⟨o', e1⟩ := I.base.there b o e hx
      exact ⟨o', (hs.2 b (Nat.ne_of_lt (Nat.lt_of_lt_of_le (Heap.lt_size e) (I.ok.cab x c hfn hc)))).trans e1⟩
    · by_cases hj : j = i
      · subst hj
        rw [hi] at e1; cases e1
        rw [List.getElem?_set_self hiσ] at e2
        cases e2
        exact ⟨u, r, .inr ⟨.inl hk, c, hc, hc'⟩⟩
      · rw [List.getElem?_set_ne (Ne.symm hj)] at e2
        obtain ⟨u', r', q⟩ := hl j y v' e1 e2 e3
        refine ⟨u', r', ?_⟩
        rcases q with q | ⟨k, c', e, z'⟩
        · exact .inl q
        · refine .inr ⟨k, c', e, z'.sameBut hs ?_⟩
          rintro rfl
          exact hj (nodup_ix hN e1 (I.ok.inj _ _ _ e hc ▸ hi))
    · by_cases hcc : c' = c
      · subst hcc; exact ⟨_, hc'⟩
      · obtain ⟨w2, z2⟩ := I.cell y c' e
        exact ⟨w2, z2.sameBut hs hcc⟩
    · obtain ⟨e, n, ne, nf, d⟩ := I.pin p hp
      refine ⟨(hs.2 p.1 ?_).trans e, n, ne, nf, d⟩
      intro q
      rw [q, hoc] at e
      have q' : oc = p.2 := Option.some.inj e
      exact d w' (by rw [← q']; exact hocd)
theorem store_ok {M : Model} {A : Around} {E : Value → Shared → Prop} {i : Nat} {x : Str} {v : V} {u : Value} {Q : Unit → Shared → Prop} (I : Inv X pins σ H s) (hN : X.N.Nodup) (hi : X.N[i]? = some x) (hx : Loc X.env.scope x) (r : RelV v u)
    (h : ∀ s', Inv X pins (σ.set i (some v)) H s' → Q () s') (hf : X.fn x = true ∨ X.env.scope.names.lookup x = some .local := by first | exact .inl rfl | exact .inr rfl | assumption) : wpAny M A (storeName X.env x u) Q E s :=
  store_ok2 I hN hi hx r (fun s' I' _ => h s' I') hf
theorem Inv.call' {s' : Shared} {ch : List Addr} (I : Inv X pins σ H s) (ho : s'.os = s.os) (u : Un (frs X.stack) ch H H' s.heap s'.heap) (hok : HOk X.prog X.w H' s'.heap) (hg : AllBare s'.gens)
    (hch : ∀ b ∈ ch, (b ∈ X.ex ∨ X.s₀.heap.objs.size ≤ b) ∧ b ≠ X.env.locals ∧ (∀ x c, X.env.cells.lookup x = some c → c ≠ b) ∧ ∀ p ∈ X.pn ++ pins, p.1 ≠ b) : Inv X pins σ H' s' := by
  obtain ⟨h', g', d', t', o'⟩ := s'
  have e : o' = s.os := ho
  subst e
  exact I.call (g' := g') (t' := t') (d' := d') u hok hg hch
end

noncomputable abbrev XK := Value → Option Addr → Hp → Prop
noncomputable abbrev St := List (Option V)
noncomputable abbrev VK := V → Hp → Prop
noncomputable abbrev TE := St → Hp → VK → Prop
noncomputable abbrev TT := St → Hp → (Bool → Hp → Prop) → Prop
noncomputable abbrev TA := St → Hp → (List V → Hp → Prop) → Prop
structure Ends where
  nx : St → Hp → Prop
  rt : VK
  bk : St → Hp → Prop := fun _ _ => False
  ct : St → Hp → Prop := fun _ _ => False
noncomputable abbrev TS := Ends → St → Hp → Prop

noncomputable def EP (X : Cx) (pins : List (Addr × Obj)) (σ : St) (Q : VK) (u : Value) (s' : Shared) : Prop := ∃ v H', Inv X pins σ H' s' ∧ RelV v u ∧ Q v H'
noncomputable def TP (X : Cx) (pins : List (Addr × Obj)) (σ : St) (Q : Bool → Hp → Prop) (b : Bool) (s' : Shared) : Prop := ∃ H', Inv X pins σ H' s' ∧ Q b H'
noncomputable def AP (X : Cx) (pins : List (Addr × Obj)) (σ : St) (Q : List V → Hp → Prop) (us : List Value) (s' : Shared) : Prop := ∃ vs H', Inv X pins σ H' s' ∧ Vals vs us ∧ Q vs H'
noncomputable def SP (X : Cx) (pins : List (Addr × Obj)) (D : Ends) (f : Flow) (s' : Shared) : Prop :=
  match f with
  | .next => ∃ σ' H', Inv X pins σ' H' s' ∧ D.nx σ' H'
  | .brk => ∃ σ' H', Inv X pins σ' H' s' ∧ D.bk σ' H'
  | .cont => ∃ σ' H', Inv X pins σ' H' s' ∧ D.ct σ' H'
  | .ret u => ∃ v σ' H', Inv X pins σ' H' s' ∧ RelV v u ∧ D.rt v H'

noncomputable def PE (X : Cx) (e : Expr) (t : TE) : Prop :=
  ∀ (pins : List (Addr × Obj)) (s : Shared) (σ : St) (H : Hp) (Q : VK), Inv X pins σ H s → t σ H Q → wpAny (model X.prog X.w) X.A (eval e X.env) (EP X pins σ Q) X.xe s
noncomputable def PT (X : Cx) (e : Expr) (t : TT) : Prop :=
  ∀ (pins : List (Addr × Obj)) (s : Shared) (σ : St) (H : Hp) (Q : Bool → Hp → Prop), Inv X pins σ H s → t σ H Q → wpAny (model X.prog X.w) X.A (isTrue e X.env (eval e X.env)) (TP X pins σ Q) X.xe s
noncomputable def PW (X : Cx) (e : Expr) (t : TT) : Prop :=
  ∀ (whole : Sem Value) (pins : List (Addr × Obj)) (s : Shared) (σ : St) (H : Hp) (Q : Bool → Hp → Prop), Inv X pins σ H s → t σ H Q → wpAny (model X.prog X.w) X.A (isTrue e X.env whole) (TP X pins σ Q) X.xe s
theorem PW.pt {X : Cx} {e : Expr} {t : TT} (h : PW X e t) : PT X e t := h _
noncomputable def PA (X : Cx) (es : List Expr) (t : TA) : Prop :=
  ∀ (pos : Pos) (pins : List (Addr × Obj)) (s : Shared) (σ : St) (H : Hp) (Q : List V → Hp → Prop), Inv X pins σ H s → t σ H Q → wpAny (model X.prog X.w) X.A (spliced (backTo pos (starEach es X.env))) (AP X pins σ Q) X.xe s
noncomputable def PS (X : Cx) (st : Stmt) (t : TS) : Prop :=
  ∀ (pins : List (Addr × Obj)) (s : Shared) (σ : St) (H : Hp) (D : Ends), Inv X pins σ H s → t D σ H → wpAny (model X.prog X.w) X.A (exec st X.env) (SP X pins D) X.xe s
noncomputable def PSs (X : Cx) (st : List Stmt) (t : TS) : Prop :=
  ∀ (pins : List (Addr × Obj)) (s : Shared) (σ : St) (H : Hp) (D : Ends), Inv X pins σ H s → t D σ H → wpAny (model X.prog X.w) X.A (execs st X.env) (SP X pins D) X.xe s
theorem thn {α : Type} {t : Sem α} {Q Q' : α → Shared → Prop} {M : Model} {A : Around} {E : Value → Shared → Prop} {s : Shared} (h : wpAny M A t Q E s) (hQ : ∀ a s, Q a s → Q' a s) : wpAny M A t Q' E s := wpAny_mono h hQ fun _ _ x => x
end L2

namespace L2
open PySem PySem.Spec PyProof.Rows
section
variable {X : Cx}

noncomputable def tVar (i : Nat) : TE := fun σ H Q => ∃ v, σ[i]? = some (some v) ∧ Q v H
noncomputable def tC (v : V) : TE := fun _ H Q => Q v H
theorem pe_var {i : Nat} {x : Str} {pos : Pos} (hN : X.N[i]? = some x) (hv : Vis X.env.scope x) (hd : (x == ("__debug__" : Str)) = false := by decide) (hcd : (x == ("__classdict__" : Str)) = false := by decide) : PE X (.Name x pos) (tVar i) := by
  intro pins s σ H Q I h
  obtain ⟨v, e, h⟩ := h
  obtain ⟨m, hn, hl⟩ := I.loc
  obtain ⟨u, r, l⟩ := hl i x v hN e hv
  have fin : EP X pins σ Q u s := ⟨v, H, I, r, h⟩
  rcases l with ⟨hk, hm⟩ | ⟨hk, c, hc, hcell⟩
  · exact wpAny_Name (wpAny_loadName_local I.ok.kind hk hn hm fin) hd
  · rcases hk with hk | hk
    · exact wpAny_Name (wpAny_loadName_cell I.ok.kind hk hc hcell fin) hd
    · exact wpAny_Name (wpAny_loadName_free I.ok.kind hk hc hcell fin hcd) hd
theorem pe_int {i j pos} : PE X (.Constant (.int i) j pos) (tC (.int i)) := fun _ _ _ H _ I h => wpAny_Constant_int ⟨.int i, H, I.tok _, ⟨_, rfl⟩, h⟩
theorem pe_bl {b j pos} : PE X (.Constant (.bool b) j pos) (tC (.bl b)) := fun _ _ _ H _ I h => Constant_bool ⟨.bl b, H, I, rfl, h⟩
theorem pe_non {j pos} : PE X (.Constant .none j pos) (tC .non) := fun _ _ _ H _ I h => Constant_none ⟨.non, H, I, rfl, h⟩
theorem pe_str {x j pos} : PE X (.Constant (.str x) j pos) (tC (.str x)) := fun _ _ _ H _ I h => Calls.Constant_str ⟨.str x, H, I.tok _, ⟨_, rfl⟩, h⟩

noncomputable def Gl (X : Cx) (x : Str) : Prop := X.env.kindOf x = some .globalImplicit
theorem ld_glob {E : Value → Shared → Prop} {pins : List (Addr × Obj)} {s : Shared} {σ : St} {H : Hp} {x : Str} {u : Value} {pos : Pos} {Q : Value → Shared → Prop} (I : Inv X pins σ H s) (hg : Gl X x) (hm : X.mg x = some u) (h : Q u s)
    (hd : (x == ("__debug__" : Str)) = false := by decide) : wpAny (model X.prog X.w) X.A (eval (.Name x pos) X.env) Q E s :=
  Calls.Name_function_global I.ok.kind hg (Calls.loadGlobal_global (by rw [I.ok.glob]; exact I.mod.glob.keeps I.bk) hm h) hd
theorem ld_blt {E : Value → Shared → Prop} {pins : List (Addr × Obj)} {s : Shared} {σ : St} {H : Hp} {x : Str} {u : Value} {pos : Pos} {Q : Value → Shared → Prop} (I : Inv X pins σ H s) (hg : Gl X x) (hm : X.mg x = none) (hv : bootBuiltins x = some u) (h : Q u s)
    (hn : x ≠ "__name__" := by decide) (hd : (x == ("__debug__" : Str)) = false := by decide) : wpAny (model X.prog X.w) X.A (eval (.Name x pos) X.env) Q E s := by
  obtain ⟨mb, h1, h2⟩ := I.mod.blt
  exact Calls.Name_function_global I.ok.kind hg (Calls.loadGlobal_builtin (by rw [I.ok.glob]; exact I.mod.glob.keeps I.bk) hm (by rw [I.ok.blt]; exact h1.keeps I.bk) ((h2 x hn).trans hv) h) hd
theorem pe_glob {x : Str} {v : V} {u : Value} {pos : Pos} (hg : Gl X x) (hm : X.mg x = some u) (r : RelV v u) (hd : (x == ("__debug__" : Str)) = false := by decide) : PE X (.Name x pos) (tC v) :=
  fun _ _ _ H _ I h => ld_glob I hg hm ⟨v, H, I, r, h⟩ hd
theorem pe_bltn {x : Str} {v : V} {u : Value} {pos : Pos} (hg : Gl X x) (hm : X.mg x = none) (hv : bootBuiltins x = some u) (r : RelV v u) (hn : x ≠ "__name__" := by decide) (hd : (x == ("__debug__" : Str)) = false := by decide) : PE X (.Name x pos) (tC v) :=
  fun _ _ _ H _ I h => ld_blt I hg hm hv ⟨v, H, I, r, h⟩ hn hd

variable {a b : Expr} {ta tb : TE} {pos : Pos}
noncomputable def tB (t : TE) : TT := fun σ H Q => t σ H fun x H1 => ∃ c, x = .bl c ∧ Q c H1
theorem pt_val {e : Expr} {t : TE} (h : PE X e t) (he : ∀ whole, isTrue e X.env whole = (do let v ← whole; standAt e.pos; holding [v] (truthy v)) := by intro _; rfl) : PT X e (tB t) := by
  intro pins s σ H Q I hw
  refine isTrue_plain (thn (h pins s σ H _ I hw) fun v s1 ⟨x, H1, I1, r1, q1⟩ => ?_) (he _)
  obtain ⟨d, rfl, q⟩ := q1
  cases r1
  exact wpAny_truthy_bool ⟨H1, I1, q⟩

variable {tA tB' : TT} {rest : List Expr}
noncomputable def tAnd (t u : TT) : TT := fun σ H Q => t σ H fun c H1 => if c = true then u σ H1 Q else Q false H1
noncomputable def tOr (t u : TT) : TT := fun σ H Q => t σ H fun c H1 => if c = true then Q true H1 else u σ H1 Q
noncomputable def tNot (t : TT) : TT := fun σ H Q => t σ H fun c H1 => Q (!c) H1
theorem pw_and1 (ha : PT X a tA) : PW X (.BoolOp .And [a] pos) tA := by
  intro wh pins s σ H Q I h
  refine isTrue_and (thn (ha pins s σ H Q I h) fun c s1 e => ?_)
  cases c with
  | true => exact isTrue_and_nil e
  | false => exact e
theorem pw_or1 (ha : PT X a tA) : PW X (.BoolOp .Or [a] pos) tA := by
  intro wh pins s σ H Q I h
  refine isTrue_or (thn (ha pins s σ H Q I h) fun c s1 e => ?_)
  cases c with
  | false => exact isTrue_or_nil e
  | true => exact e
theorem pw_and (ha : PT X a tA) (hb : PW X (.BoolOp .And (b :: rest) pos) tB') : PW X (.BoolOp .And (a :: b :: rest) pos) (tAnd tA tB') := by
  intro wh pins s σ H Q I h
  refine isTrue_and (thn (ha pins s σ H _ I h) fun c s1 ⟨H1, I1, q1⟩ => ?_)
  cases c with
  | true => exact hb wh pins s1 σ H1 Q I1 q1
  | false => exact ⟨H1, I1, q1⟩
theorem pw_or (ha : PT X a tA) (hb : PW X (.BoolOp .Or (b :: rest) pos) tB') : PW X (.BoolOp .Or (a :: b :: rest) pos) (tOr tA tB') := by
  intro wh pins s σ H Q I h
  refine isTrue_or (thn (ha pins s σ H _ I h) fun c s1 ⟨H1, I1, q1⟩ => ?_)
  cases c with
  | true => exact ⟨H1, I1, q1⟩
  | false => exact hb wh pins s1 σ H1 Q I1 q1
theorem pt_not (ha : PT X a tA) : PT X (.UnaryOp .Not a pos) (tNot tA) := by
  intro pins s σ H Q I h
  exact isTrue_not (ha pins s σ H (fun c H1 => Q (!c) H1) I h)
noncomputable def tAndV (ta tb : TE) : TE := fun σ H Q => ta σ H fun x H1 => ∃ c, x = .bl c ∧ if c = true then tb σ H1 Q else Q (.bl false) H1
noncomputable def tOrV (ta tb : TE) : TE := fun σ H Q => ta σ H fun x H1 => ∃ c, x = .bl c ∧ if c = true then Q (.bl true) H1 else tb σ H1 Q
noncomputable def tNotV (ta : TE) : TE := fun σ H Q => ta σ H fun x H1 => ∃ c, x = .bl c ∧ Q (.bl (!c)) H1
theorem pe_one {op} {t : TE} (h : PE X a t) : PE X (.BoolOp op [a] pos) t := fun pins s σ H Q I hw => BoolOp_one (h pins s σ H Q I hw)
theorem pe_and (ha : PE X a ta) (hb : PE X (.BoolOp .And (b :: rest) pos) tb) : PE X (.BoolOp .And (a :: b :: rest) pos) (tAndV ta tb) := by
  intro pins s σ H Q I h
  refine BoolOp_and (thn (ha pins s σ H _ I h) fun v s1 ⟨x, H1, I1, r1, q1⟩ => ?_)
  obtain ⟨c, rfl, q1⟩ := q1
  cases r1
  refine wpAny_truthy_bool ?_
  cases c with
  | true => exact hb pins s1 σ H1 Q I1 q1
  | false => exact ⟨.bl false, H1, I1, rfl, q1⟩
theorem pe_not (ha : PE X a ta) : PE X (.UnaryOp .Not a pos) (tNotV ta) := by
  intro pins s σ H Q I h
  refine UnaryOp_ (thn (ha pins s σ H _ I h) fun v s1 ⟨x, H1, I1, r1, q1⟩ => ?_)
  obtain ⟨c, rfl, q1⟩ := q1
  cases r1
  exact not_of (wpAny_truthy_bool ⟨.bl (!c), H1, I1, rfl, q1⟩)
noncomputable def tIf (t : TT) (ta tb : TE) : TE := fun σ H Q => t σ H fun c H1 => if c = true then ta σ H1 Q else tb σ H1 Q
theorem pe_ifExp {c : Expr} (hc : PT X c tA) (ha : PE X a ta) (hb : PE X b tb) : PE X (.IfExp c a b pos) (tIf tA ta tb) := by
  intro pins s σ H Q I h
  refine wpAny_IfExp (thn (hc pins s σ H _ I h) fun d s1 ⟨H1, I1, q1⟩ => ?_)
  cases d with
  | true => exact ha pins s1 σ H1 Q I1 q1
  | false => exact hb pins s1 σ H1 Q I1 q1
end
end L2

namespace L2
open PySem PySem.Spec PyProof.Rows

noncomputable def SqL (K : PySem.W.Frag) (H : Hp) (a : Addr) (xs : List V) : Prop :=
  Rd H a (.lst xs) ∨
    ∃ (o : Obj) (its : Array Value) (n : Nat), K.lookup a = some o ∧ o.cls = .type "list" ∧ o.dict = none ∧ o.data = .seq its n ∧ its.size ≤ sizeLine ∧ Vals xs its.toList
noncomputable def SqT (K : PySem.W.Frag) (H : Hp) (a : Addr) (xs : List V) : Prop :=
  Rd H a (.tup xs) ∨
    ∃ (o : Obj) (its : Array Value) (n : Nat), K.lookup a = some o ∧ o.cls = .type "tuple" ∧ o.data = .seq its n ∧ its.size ≤ sizeLine ∧ Vals xs its.toList
noncomputable def absV : Value → Option V
  | .none => some .non
  | .bool b => some (.bl b)
  | .int i _ => some (.int i)
  | .str x _ => some (.str x)
  | .bytes b _ => some (.byt b)
  | .float b _ => some (.flt b)
  | .ref a => some (.ref a)
  | .type n => some (.ty n)
  | _ => none
theorem RelV.abs {x : V} {u : Value} (r : RelV x u) : absV u = some x := by
  cases x with
  | non => cases r; rfl
  | bl _ => cases r; rfl
  | int _ => obtain ⟨t, rfl⟩ := r; rfl
  | str _ => obtain ⟨t, rfl⟩ := r; rfl
  | byt _ => obtain ⟨t, rfl⟩ := r; rfl
  | flt _ => obtain ⟨t, rfl⟩ := r; rfl
  | ref _ => cases r; rfl
  | ty _ => cases r; rfl
theorem RelV.inj {x y : V} {u : Value} (r : RelV x u) (q : RelV y u) : x = y := Option.some.inj (r.abs.symm.trans q.abs)
theorem Vals.inj : ∀ {xs ys : List V} {us : List Value}, Vals xs us → Vals ys us → xs = ys
  | _, _, _, .nil, .nil => rfl
  | _, _, _, .cons r t, .cons r' t' => by rw [r.inj r', Vals.inj t t']
section
variable {X : Cx} {pins : List (Addr × Obj)} {σ : St} {H : Hp} {s : Shared} {a : Addr} {xs ys : List V}
theorem SqL.of {K : PySem.W.Frag} (h : H a = some (.lst xs)) : SqL K H a xs := .inl (.inl h)
theorem SqT.of {K : PySem.W.Frag} (h : H a = some (.tup xs)) : SqT K H a xs := .inl (.inl h)
theorem Inv.list (I : Inv X pins σ H s) (h : SqL X.K H a xs) : ∃ its : List Value, Vals xs its ∧ PlainL s.heap a its.toArray ∧ xs.length ≤ sizeLine := by
  rcases h with h | ⟨o, its, n, hk, hc, hd, hs, hz, r⟩
  · obtain ⟨z, its, n, r, e⟩ := h.ok I.hok
    exact ⟨its, r, ⟨_, n, e, rfl, rfl, rfl⟩, z⟩
  · refine ⟨its.toList, r, ⟨o, n, I.kIn a o hk, hc, hd, by simpa using hs⟩, ?_⟩
    have e := r.length
    simp only [Array.length_toList] at e
    omega
theorem Inv.tuple (I : Inv X pins σ H s) (h : SqT X.K H a xs) : ∃ its : List Value, Vals xs its ∧ IsTup s.heap a its.toArray ∧ xs.length ≤ sizeLine := by
  rcases h with h | ⟨o, its, n, hk, hc, hs, hz, r⟩
  · obtain ⟨z, its, r, p⟩ := h.ok I.hok
    exact ⟨its, r, p, z⟩
  · refine ⟨its.toList, r, ⟨o, I.kIn a o hk, hc, n, by simpa using hs⟩, ?_⟩
    have e := r.length
    simp only [Array.length_toList] at e
    omega
theorem Inv.list_inj (I : Inv X pins σ H s) (h : SqL X.K H a xs) (h' : SqL X.K H a ys) : xs = ys := by
  obtain ⟨its, r, ⟨o, n, e, _, _, d⟩, _⟩ := I.list h
  obtain ⟨its', r', ⟨o', n', e', _, _, d'⟩, _⟩ := I.list h'
  rw [e] at e'; cases e'
  rw [d] at d'
  injection d' with d1 _
  have : its = its' := by simpa using congrArg Array.toList d1
  subst this
  exact r.inj r'
end

noncomputable abbrev Cx.wish (X : Cx) (E : Value → Shared → Prop) : Cx := { X with xe := E }
noncomputable abbrev Cx.nox (X : Cx) : Cx := X.wish fun _ _ => False
theorem Cx.Ok.wish {X : Cx} (ok : X.Ok) (E : Value → Shared → Prop) : (X.wish E).Ok :=
  ⟨ok.mod, ok.kind, ok.glob, ok.blt, ok.above, ok.inj, ok.has, ok.cab, ok.hd, ok.frames, ok.stk, ok.exf, ok.bs, ok.bsz, ok.noex, ok.exfs, ok.funs, ok.frf⟩
theorem Cx.Ok.unwish {X : Cx} {E : Value → Shared → Prop} (ok : (X.wish E).Ok) : X.Ok :=
  ⟨ok.mod, ok.kind, ok.glob, ok.blt, ok.above, ok.inj, ok.has, ok.cab, ok.hd, ok.frames, ok.stk, ok.exf, ok.bs, ok.bsz, ok.noex, ok.exfs, ok.funs, ok.frf⟩
section
variable {X : Cx} {pins : List (Addr × Obj)} {σ : St} {H : Hp} {s : Shared} {E : Value → Shared → Prop}
theorem Inv.wish (I : Inv X pins σ H s) (E : Value → Shared → Prop) : Inv (X.wish E) pins σ H s := ⟨I.ok.wish E, I.os, I.bare, I.base, I.loc, I.cell, I.free, I.freeC, I.pin, I.hok, I.len⟩
theorem Inv.unwish (I : Inv (X.wish E) pins σ H s) : Inv X pins σ H s := ⟨I.ok.unwish, I.os, I.bare, I.base, I.loc, I.cell, I.free, I.freeC, I.pin, I.hok, I.len⟩
theorem SP.unwish {D : Ends} {f : Flow} {s' : Shared} (h : SP (X.wish E) pins D f s') : SP X pins D f s' := by
  cases f with
  | next => obtain ⟨σ', H', I, q⟩ := h; exact ⟨σ', H', I.unwish, q⟩
  | brk => obtain ⟨σ', H', I, q⟩ := h; exact ⟨σ', H', I.unwish, q⟩
  | cont => obtain ⟨σ', H', I, q⟩ := h; exact ⟨σ', H', I.unwish, q⟩
  | ret u => obtain ⟨v, σ', H', I, r, q⟩ := h; exact ⟨v, σ', H', I.unwish, r, q⟩
theorem PE.nox {e : Expr} {t : TE} (h : PE X.nox e t) : PE X e t := fun pins s σ H Q I hw =>
  wpAny_mono (h pins s σ H Q (I.wish _) hw) (fun _ _ ⟨v, H', I', r, q⟩ => ⟨v, H', I'.unwish, r, q⟩) fun _ _ z => False.elim z
theorem PT.nox {e : Expr} {t : TT} (h : PT X.nox e t) : PT X e t := fun pins s σ H Q I hw =>
  wpAny_mono (h pins s σ H Q (I.wish _) hw) (fun _ _ ⟨H', I', q⟩ => ⟨H', I'.unwish, q⟩) fun _ _ z => False.elim z
theorem PSs.nox {st : List Stmt} {t : TS} (h : PSs X.nox st t) : PSs X st t := fun pins s σ H D I hw =>
  wpAny_mono (h pins s σ H D (I.wish _) hw) (fun _ _ q => q.unwish) fun _ _ z => False.elim z
end

section
variable {X : Cx} {st : Stmt} {rest : List Stmt} {t u : TS} {e : Expr} {te : TE} {pos : Pos}
noncomputable def tNext : TS := fun D σ H => D.nx σ H
noncomputable def tSeq (t u : TS) : TS := fun D σ H => t { D with nx := u D } σ H
theorem pss_nil : PSs X [] tNext := fun _ _ σ H _ I h => wpAny_execs_nil ⟨σ, H, I, h⟩
theorem pss_cons (h1 : PS X st t) (h2 : PSs X rest u) : PSs X (st :: rest) (tSeq t u) := by
  intro pins s σ H D I h
  refine wpAny_execs_cons (thn (h1 pins s σ H { D with nx := u D } I h) fun f s1 q => ?_)
  cases f with
  | next =>
    obtain ⟨σ', H', I', q⟩ := q
    exact h2 pins s1 σ' H' D I' q
  | ret v => exact q
  | brk => exact q
  | cont => exact q
theorem pss_one (h1 : PS X st t) : PSs X [st] t := by
  intro pins s σ H D I h
  refine wpAny_execs_cons (thn (h1 pins s σ H D I h) fun f s1 q => ?_)
  cases f with
  | next => exact wpAny_execs_nil q
  | ret v => exact q
  | brk => exact q
  | cont => exact q
theorem Inv.quiet {pins : List (Addr × Obj)} {σ : St} {H : Hp} {s : Shared} (I : Inv X pins σ H s) : interactive X.env = false := by simp [interactive, I.ok.kind]
noncomputable def tDrop (te : TE) : TS := fun D σ H => te σ H fun _ H1 => D.nx σ H1
theorem ps_expr (he : PE X e te) (hs : swapsWith e none pos.line X.env = pure false := by rfl) : PS X (.Expr e pos) (tDrop te) := by
  intro pins s σ H D I h
  exact wpAny_Expr_any (thn (he pins s σ H _ I h) fun v s1 ⟨x, H1, I1, r1, q1⟩ => ⟨σ, H1, I1, q1⟩) I.quiet hs
noncomputable def tRet (te : TE) : TS := fun D σ H => te σ H D.rt
theorem ps_ret (he : PE X e te) : PS X (.Return (some e) pos) (tRet te) := by
  intro pins s σ H D I h
  exact wpAny_Return_some (thn (he pins s σ H _ I h) fun v s1 ⟨x, H1, I1, r1, q1⟩ => ⟨x, σ, H1, I1, r1, q1⟩)
noncomputable def tRetN : TS := fun D _ H => D.rt .non H
noncomputable def tIfS (c : TT) (t u : TS) : TS := fun D σ H => c σ H fun b H1 => if b = true then t D σ H1 else u D σ H1
theorem ps_if {c : Expr} {a b : List Stmt} {tc : TT} (hc : PT X c tc) (ha : PSs X a t) (hb : PSs X b u) : PS X (.If c a b pos) (tIfS tc t u) := by
  intro pins s σ H D I h
  refine wpAny_If (thn (hc pins s σ H _ I h) fun d s1 ⟨H1, I1, q1⟩ => ?_)
  cases d with
  | true => exact ha pins s1 σ H1 D I1 q1
  | false => exact hb pins s1 σ H1 D I1 q1
end

noncomputable abbrev TG := V → St → Hp → (St → Hp → Prop) → Prop
noncomputable abbrev TGs := List V → St → Hp → (St → Hp → Prop) → Prop
noncomputable def PG (X : Cx) (target : Expr) (t : TG) : Prop :=
  ∀ (pins : List (Addr × Obj)) (s : Shared) (σ : St) (H : Hp) (v : V) (u : Value) (Q : St → Hp → Prop), Inv X pins σ H s → RelV v u → t v σ H Q →
    wpAny (model X.prog X.w) X.A (assign target X.env u) (fun _ s' => ∃ σ' H', Inv X pins σ' H' s' ∧ Q σ' H') X.xe s
noncomputable def PGs (X : Cx) (ts : List Expr) (t : TGs) : Prop :=
  ∀ (pins : List (Addr × Obj)) (s : Shared) (σ : St) (H : Hp) (vs : List V) (us : List Value) (Q : St → Hp → Prop), Inv X pins σ H s → Vals vs us → t vs σ H Q →
    wpAny (model X.prog X.w) X.A (assignInOrder ((assignEach ts X.env).map (·.2)) us) (fun _ s' => ∃ σ' H', Inv X pins σ' H' s' ∧ Q σ' H') X.xe s
noncomputable abbrev TSet := V → V → V → Hp → (Hp → Prop) → Prop
noncomputable def PSet (X : Cx) (t : TSet) : Prop :=
  ∀ (pins : List (Addr × Obj)) (s : Shared) (σ : St) (H : Hp) (o i v : V) (ov iv u : Value) (Q : Hp → Prop), Inv X pins σ H s → RelV o ov → RelV i iv → RelV v u → t o i v H Q →
    wpAny (model X.prog X.w) X.A (setItem ov iv u) (fun _ s' => ∃ H', Inv X pins σ H' s' ∧ Q H') X.xe s
section
variable {X : Cx} {pos : Pos}
noncomputable def gName (i : Nat) : TG := fun v σ H Q => Q (σ.set i (some v)) H
theorem pg_name {i : Nat} {x : Str} (hN : X.N.Nodup) (hi : X.N[i]? = some x) (hx : Loc X.env.scope x) (hf : X.fn x = true ∨ X.env.scope.names.lookup x = some .local := by first | exact .inl rfl | exact .inr rfl | assumption) : PG X (.Name x pos) (gName i) := by
  intro pins s σ H v u Q I r h
  exact wpAny_assign_Name (store_ok I hN hi hx r (fun s' I' => ⟨_, H, I', h⟩) hf)
noncomputable def gNil : TGs := fun vs σ H Q => vs = [] ∧ Q σ H
noncomputable def gCons (t : TG) (u : TGs) : TGs := fun vs σ H Q => ∃ v r, vs = v :: r ∧ t v σ H fun σ' H' => u r σ' H' Q
theorem pgs_nil : PGs X [] gNil := by
  intro pins s σ H vs us Q I r h
  obtain ⟨e, h⟩ := h
  subst e
  cases r
  exact assignInOrder_nil ⟨σ, H, I, h⟩
theorem pgs_cons {e : Expr} {es : List Expr} {t : TG} {u : TGs} (h1 : PG X e t) (h2 : PGs X es u)
    (hs : (assignEach (e :: es) X.env).map (·.2) = assign e X.env :: (assignEach es X.env).map (·.2) := by rfl) : PGs X (e :: es) (gCons t u) := by
  intro pins s σ H vs us Q I r h
  obtain ⟨v, vr, e1, h⟩ := h
  subst e1
  cases r with
  | cons r rr =>
    rw [hs]
    refine assignInOrder_cons (thn (h1 pins s σ H _ _ _ I r h) fun _ s1 ⟨σ1, H1, I1, q1⟩ => ?_)
    exact h2 pins s1 σ1 H1 _ _ Q I1 rr q1
noncomputable def gTup (K : PySem.W.Frag) (n : Nat) (t : TGs) : TG := fun v σ H Q => ∃ a xs, v = .ref a ∧ SqT K H a xs ∧ xs.length = n ∧ t xs σ H Q
theorem pg_tup {es : List Expr} {k : Nat} {t : TGs} {n : Nat} (hc : X.calm = true) (h : PGs X es t)
    (hn : (assignEach es X.env).length = n := by rfl) (hst : (assignEach es X.env).findIdx? (·.1) = none := by rfl) : PG X (.Tuple es k pos) (gTup X.K n t) := by
  intro pins s σ H v u Q I r hw
  obtain ⟨a, xs, e1, hq, hl, hw⟩ := hw
  subst e1
  cases r
  obtain ⟨its, rv, ht, hz⟩ := I.tuple hq
  refine assign_Tuple_tuple (I.ok.hd hc) ht (by simp [hn, ← hl, rv.length]) hst fun h' hx => ?_
  have I1 : Inv X pins σ H { s with heap := h' } := I.kept (t' := s.toks) fun b o e => hx b o (Nat.ne_of_lt (Heap.lt_size e)) e
  exact h pins _ σ H xs _ Q I1 (by simpa using rv) hw
noncomputable def tAsg (te : TE) (g : TG) : TS := fun D σ H => te σ H fun x H1 => g x σ H1 D.nx
theorem ps_asg {tg e : Expr} {te : TE} {g : TG} (he : PE X e te) (hg : PG X tg g) (hs : swapsWithSole [tg] e pos.line X.env = pure false := by rfl) (hw : swappedStores [tg] e X.env = pure none := by rfl)
    (h1 : (assignEach [tg] X.env).map (·.2) = [assign tg X.env] := by rfl) : PS X (.Assign [tg] e pos) (tAsg te g) := by
  intro pins s σ H D I h
  refine wpAny_Assign_stores (thn (he pins s σ H _ I h) fun v s1 ⟨x, H1, I1, r1, q1⟩ => ?_) hs hw
  rw [h1]
  exact thn (hg pins s1 σ H1 x v _ I1 r1 q1) fun _ s2 q => q
theorem ps_set {i : Nat} {x : Str} {e : Expr} {te : TE} {pos' : Pos} (hN : X.N.Nodup) (hi : X.N[i]? = some x) (hx : Loc X.env.scope x) (he : PE X e te) (hs : swapsWith e (some (.Name x pos')) pos.line X.env = pure false := by rfl) (hf : X.fn x = true ∨ X.env.scope.names.lookup x = some .local := by first | exact .inl rfl | exact .inr rfl | assumption) :
    PS X (.Assign [.Name x pos'] e pos) (tAsg te (gName i)) := by
  intro pins s σ H D I h
  refine wpAny_Assign_Name (thn (he pins s σ H _ I h) fun v s1 ⟨y, H1, I1, r1, q1⟩ => ?_) hs
  exact store_ok I1 hN hi hx r1 (fun s2 I2 => ⟨_, H1, I2, q1⟩) hf
end

section
variable {X : Cx} {pos : Pos}
noncomputable def tWhile (c : TT) (tb : TS) : TS := fun D σ H => ∃ W : Nat → St → Hp → Prop, (∃ m, W m σ H) ∧ ∀ m σ H, W m σ H →
  c σ H fun b H1 => if b = true then ∃ N : St → Hp → Prop, (∀ σ' H', N σ' H' → ∃ m', m' < m ∧ W m' σ' H') ∧ tb { D with nx := N, ct := N, bk := D.nx } σ H1 else D.nx σ H1
theorem ps_while {c : Expr} {body : List Stmt} {tc : TT} {tb : TS} (hp : PassesOwn (model X.prog X.w) X.A X.env X.xe) (hc : PT X c tc) (hb : PSs X body tb) : PS X (.While c body [] pos) (tWhile tc tb) := by
  intro pins s σ H D I h
  obtain ⟨W, ⟨m0, w0⟩, turn⟩ := h
  refine wpAny_While (codeAny_whileLoop (fun n s' => ∃ σ' H', Inv X pins σ' H' s' ∧ W n σ' H') ?_ m0 ⟨σ, H, I, w0⟩)
  rintro n s1 ⟨σ1, H1, I1, w1⟩
  refine wpAny_passesOwn hp (thn (hc pins s1 σ1 H1 _ I1 (turn n σ1 H1 w1)) fun b s2 ⟨H2, I2, q2⟩ => ?_)
  cases b with
  | true =>
    obtain ⟨N, hN, q2⟩ := q2
    rw [if_pos rfl]
    refine wpAny_passesOwn hp (thn (hb pins s2 σ1 H2 _ I2 q2) fun f s3 q3 => ?_)
    cases f with
    | next =>
      obtain ⟨σ3, H3, I3, n3⟩ := q3
      obtain ⟨m', hm, w3⟩ := hN σ3 H3 n3
      exact ⟨m', hm, σ3, H3, I3, w3⟩
    | cont =>
      obtain ⟨σ3, H3, I3, n3⟩ := q3
      obtain ⟨m', hm, w3⟩ := hN σ3 H3 n3
      exact ⟨m', hm, σ3, H3, I3, w3⟩
    | brk => exact q3
    | ret v => exact q3
  | false =>
    rw [if_neg Bool.false_ne_true]
    exact wpAny_execs_nil ⟨σ1, H2, I2, q2⟩
end

structure It where
  go : Nat → Hp → Prop
  yld : Nat → Hp → V → Hp → Prop
  stop : Nat → Hp → Prop
noncomputable def FpOk (X : Cx) (pins : List (Addr × Obj)) (H : Hp) (b : Addr) : Prop :=
  H b = none ∧ b ≠ X.env.locals ∧ b ∉ X.fs ∧ (b ∈ X.ex ∨ X.s₀.heap.objs.size ≤ b) ∧ (∀ x c, X.env.cells.lookup x = some c → c ≠ b) ∧ ∀ p ∈ X.pn ++ pins, p.1 ≠ b
theorem Inv.fpOk {X : Cx} {pins : List (Addr × Obj)} {σ : St} {H H' : Hp} {s : Shared} {b : Addr} (I : Inv X pins σ H s) (hb : s.heap.objs.size ≤ b) (hn : H' b = none) : FpOk X pins H' b := by
  refine ⟨hn, Nat.ne_of_gt (Nat.lt_of_lt_of_le I.lt hb), I.nofs hb, .inr (Nat.le_trans I.sz hb), fun x c e z => ?_, fun p hp z => ?_⟩
  · obtain ⟨v, q⟩ := I.cell x c e
    exact absurd (Nat.lt_of_lt_of_le q.lt (by rw [z]; exact hb)) (Nat.lt_irrefl _)
  · exact absurd (Nat.lt_of_lt_of_le (Heap.lt_size (I.pin p hp).1) (by rw [z]; exact hb)) (Nat.lt_irrefl _)
structure Turn (P : Program) (w : World) (K : PySem.W.Frag) (tg : Expr) (J : It) (fp : List Addr) (it : Addr) (tn : Nat → Heap → Prop) : Prop where
  mem : it ∈ fp
  obj : ∀ i h, tn i h → ∀ b ∈ fp, ∃ o, h.get? b = some o ∧ ∀ v, o.data ≠ .cell v
  keep : ∀ i h h', tn i h → (∀ b ∈ fp, ∀ o, h.get? b = some o → h'.get? b = some o) → tn i h'
  item : ∀ (X : Cx), X.prog = P → X.w = w → X.K = K → X.calm = true → ∀ (i : Nat) (pins : List (Addr × Obj)) (s : Shared) (σ : St) (H : Hp) (E : Value → Shared → Prop), Inv X pins σ H s → (∀ b ∈ fp, FpOk X pins H b) → tn i s.heap → J.go i H →
    wpAny (model P w) X.A (pyNext (.ref it)) (fun r s1 => ∃ u, r = some u ∧
      wpAny (model P w) X.A (letOwnedTupleGo tg (.ref it) u) (fun _ s2 => ∃ x H', Inv X pins σ H' s2 ∧ RelV x u ∧ J.yld i H x H' ∧ tn (i + 1) s2.heap ∧ ∀ b ∈ fp, H' b = none) E s1) E s
  done : ∀ (X : Cx), X.prog = P → X.w = w → X.K = K → X.calm = true → ∀ (i : Nat) (pins : List (Addr × Obj)) (s : Shared) (σ : St) (H : Hp) (E : Value → Shared → Prop), Inv X pins σ H s → (∀ b ∈ fp, FpOk X pins H b) → tn i s.heap → J.stop i H →
    wpAny (model P w) X.A (pyNext (.ref it)) (fun r s1 => r = none ∧ Inv X pins σ H s1) E s
  self : ∀ (A : Around) (i : Nat) (s : Shared) (Q : Value → Shared → Prop) (E : Value → Shared → Prop), tn i s.heap → Q (.ref it) s → wpAny (model P w) A (pyIter (.ref it)) Q E s
noncomputable abbrev TI := St → Hp → (It → Hp → Prop) → Prop
noncomputable def PIE (X : Cx) (pins : List (Addr × Obj)) (σ : St) (tg : Expr) (R : It → Hp → Prop) (itv : Value) (s2 : Shared) : Prop :=
  ∃ (it : Addr) (fp : List Addr) (tn : Nat → Heap → Prop) (J : It) (H' : Hp), itv = .ref it ∧ Inv X pins σ H' s2 ∧ Turn X.prog X.w X.K tg J fp it tn ∧ tn 0 s2.heap ∧ (∀ b ∈ fp, FpOk X pins H' b) ∧ R J H'
noncomputable def PI (X : Cx) (tg iter : Expr) (wi : TI) : Prop :=
  ∀ (pins : List (Addr × Obj)) (s : Shared) (σ : St) (H : Hp) (R : It → Hp → Prop), Inv X pins σ H s → wi σ H R →
    wpAny (model X.prog X.w) X.A (eval iter X.env) (fun v s1 => wpAny (model X.prog X.w) X.A (pyIter v) (PIE X pins σ tg R) X.xe s1) X.xe s

theorem go_of {M : Model} {A : Around} {E : Value → Shared → Prop} {s : Shared} {tg : Expr} {it : Addr} {u : Value} {o : Obj} {n : String} {vs : Array Value} {Q : Unit → Shared → Prop} (ho : s.heap.get? it = some o) (hc : o.cls = .type n) (hd : o.data = .fields vs)
    (hn : ["enumerate", "zip", "dict_itemiterator", "dict_reverseitemiterator", "odict_iterator", "itertools.zip_longest", "itertools.pairwise"].contains n = false) (hQ : Q () s) : wpAny M A (letOwnedTupleGo tg (.ref it) u) Q E s := by
  unfold letOwnedTupleGo
  cases tg <;> first
    | exact wpAny_pure hQ
    | (cases u <;> first
        | exact wpAny_pure hQ
        | (refine wpAny_bind (wpAny_load ho ?_)
           rw [hc, hd]
           show wpAny M A (if (["enumerate", "zip", "dict_itemiterator", "dict_reverseitemiterator", "odict_iterator", "itertools.zip_longest", "itertools.pairwise"].contains n && vs[0]? == some (rawInt _)) = true then _ else _) Q E s
           rw [if_neg (by intro h; rw [hn, Bool.false_and] at h; cases h)]
           exact wpAny_pure hQ))

noncomputable def Itl (K : PySem.W.Frag) (a : Addr) : It :=
  ⟨fun i H => ∃ xs x, SqL K H a xs ∧ xs[i]? = some x, fun i H x H' => H' = H ∧ ∀ xs, SqL K H a xs → xs[i]? = some x, fun i H => ∃ xs, SqL K H a xs ∧ xs.length ≤ i⟩
noncomputable def Itr (lo : Int) (n : Nat) : It := ⟨fun i _ => i < n, fun i H x H' => H' = H ∧ x = .int (lo + i), fun i _ => n ≤ i⟩
theorem turn_list {P : Program} {w : World} {K : PySem.W.Frag} {tg : Expr} (a it : Addr) : Turn P w K tg (Itl K a) [it] it (fun i h => h.IsListIter it a i) where
  mem := by simp
  obj := fun i h st b hb => by
    have e : b = it := by simpa using hb
    subst e
    obtain ⟨o, e, c, d⟩ := st
    exact ⟨o, e, fun v z => by rw [d] at z; cases z⟩
  keep := fun i h h' st k => st.at fun o e => k it (by simp) o e
  item := by
    intro X hP hw hK hc i pins s σ H E I hf st hg
    subst hP hw hK
    obtain ⟨xs, x, hq, hx⟩ := hg
    obtain ⟨its, rv, p, hz⟩ := I.list hq
    obtain ⟨u, hu, ru⟩ := rv.get hx
    obtain ⟨f0, f1, f2, f3, f4, f5⟩ := hf it (by simp)
    refine wpAny_pyNext_list_item st p.isList (x := u) (by simpa using hu) fun h' st' sb => ?_
    have I1 : Inv X pins σ H { s with heap := h' } := I.turned (t' := s.toks) (fun b o hb e => (sb.2 b hb).trans e) f0 f1 f3 f4 f5
    obtain ⟨o, e, c, d⟩ := id st'
    exact ⟨u, rfl, go_of (s := { s with heap := h' }) e c d (by decide) ⟨x, H, I1, ru, ⟨rfl, fun ys hy => by rw [I.list_inj hy hq]; exact hx⟩, st', fun b hb => (hf b hb).1⟩⟩
  done := by
    intro X hP hw hK hc i pins s σ H E I hf st hg
    subst hP hw hK
    obtain ⟨xs, hq, hx⟩ := hg
    obtain ⟨its, rv, p, hz⟩ := I.list hq
    obtain ⟨f0, f1, f2, f3, f4, f5⟩ := hf it (by simp)
    have hl := rv.length
    exact wpAny_pyNext_list_end (I.ok.hd hc) st p.isList (by simp; omega) fun h' eb => ⟨rfl, I.turned (t' := s.toks) (fun b o hb e => eb b o hb e) f0 f1 f3 f4 f5⟩
  self := fun _ _ _ _ _ st h => wpAny_pyIter_listiter st h
theorem turn_range {P : Program} {w : World} {K : PySem.W.Frag} {tg : Expr} (it : Addr) (lo : Int) (n : Nat) : Turn P w K tg (Itr lo n) [it] it (fun i h => IsRangeIter h it (lo + (i : Nat) * 1) ((n : Int) - (i : Nat)) 1) where
  mem := by simp
  obj := fun i h st b hb => by
    have e : b = it := by simpa using hb
    subst e
    exact ⟨_, st, fun v z => by
      have z' : Data.fields _ = Data.cell v := z
      cases z'⟩
  keep := fun i h h' st k => k it (by simp) _ st
  item := by
    intro X hP hw hK hc i pins s σ H E I hf st hg
    subst hP hw hK
    obtain ⟨f0, f1, f2, f3, f4, f5⟩ := hf it (by simp)
    have W := Walks.range (prog := X.prog) (w := X.w) (I.ok.hd hc) it lo 1 n
    refine W.item i s _ _ hg st fun v h' tk hv st' kk => ?_
    obtain ⟨t, rfl⟩ := hv
    have I1 : Inv X pins σ H { s with heap := h', toks := tk } := I.turned (fun b o hb e => kk b o (by simpa using hb) e) f0 f1 f3 f4 f5
    refine ⟨_, rfl, go_of (s := { s with heap := h', toks := tk }) (n := "range_iterator") st' rfl rfl (by decide) ⟨.int (lo + i), H, I1, ⟨t, ?_⟩, ⟨rfl, rfl⟩, st', fun b hb => (hf b hb).1⟩⟩
    rw [Int.mul_one]
  done := by
    intro X hP hw hK hc i pins s σ H E I hf st hg
    subst hP hw hK
    obtain ⟨f0, f1, f2, f3, f4, f5⟩ := hf it (by simp)
    exact wpAny_pyNext_range_end (I.ok.hd hc) st (by have : n ≤ i := hg; omega) fun h' eb => ⟨rfl, I.turned (t' := s.toks) (fun b o hb e => eb b o hb e) f0 f1 f3 f4 f5⟩
  self := fun _ _ _ _ _ st h => wpAny_pyIter_rangeiter st h
end L2

namespace L2
open PySem PySem.Spec PyProof.Rows
section
variable {X : Cx} {tg : Expr}
noncomputable def iList (K : PySem.W.Frag) (tl : TE) : TI := fun σ H R => tl σ H fun x H1 => ∃ a, x = .ref a ∧ (∃ xs, SqL K H1 a xs) ∧ R (Itl K a) H1
theorem pi_list {l : Expr} {tl : TE} (hl : PE X l tl) : PI X tg l (iList X.K tl) := by
  intro pins s σ H R I h
  refine thn (hl pins s σ H _ I h) fun v s1 ⟨x, H1, I1, r1, q1⟩ => ?_
  obtain ⟨a, e, ⟨xs, hq⟩, q⟩ := q1
  subst e
  cases r1
  obtain ⟨its, rv, p, hz⟩ := I1.list hq
  refine wpAny_pyIter_list p.isList ?_
  refine ⟨s1.heap.objs.size, [s1.heap.objs.size], _, _, H1, rfl, I1.kept (t' := s1.toks) fun b o e => Heap.get?_push_of_some _ e, turn_list a _, ⟨_, Heap.get?_push_size _ rfl, rfl, rfl⟩, fun b hb => ?_, q⟩
  have e : b = s1.heap.objs.size := by simpa using hb
  subst e
  exact I1.fpOk (Nat.le_refl _) (I1.hok.fresh (Nat.le_refl _))
theorem range_it {pins : List (Addr × Obj)} {σ : St} {H : Hp} {s : Shared} {R : It → Hp → Prop} {E : Value → Shared → Prop} {lo hi : Int} {t u v : Tok} {tk : Nat} (I : Inv X pins σ H s) (h1 : -(2 ^ 62) ≤ lo) (h2 : lo < 2 ^ 62) (h3 : -(2 ^ 62) ≤ hi) (h4 : hi < 2 ^ 62)
    (q : R (Itr lo (hi - lo).toNat) H) : wpAny (model X.prog X.w) X.A (pyIter (.ref s.heap.objs.size)) (PIE X pins σ tg R) E { s with heap := s.heap.push { cls := .type "range", data := .fields #[.int lo t, .int hi u, .int 1 v] }, toks := tk } := by
  refine wpAny_pyIter_range (IsRange.new ..) (small_one h1 h2 h3 h4) ?_
  have I1 : Inv X pins σ H { s with heap := s.heap.push { cls := .type "range", data := .fields #[.int lo t, .int hi u, .int 1 v] }, toks := tk } := I.kept fun b o e => Heap.get?_push_of_some _ e
  refine ⟨(s.heap.push { cls := .type "range", data := .fields #[.int lo t, .int hi u, .int 1 v] }).objs.size, [(s.heap.push { cls := .type "range", data := .fields #[.int lo t, .int hi u, .int 1 v] }).objs.size], _, _, H, rfl,
    I1.kept (t' := tk) fun b o e => Heap.get?_push_of_some _ e, turn_range _ lo (hi - lo).toNat, ?_, fun b hb => ?_, q⟩
  · have e1 : lo + ((0 : Nat) : Int) * 1 = lo := by simp
    have e2 : (((hi - lo).toNat : Nat) : Int) - ((0 : Nat) : Int) = Builtin.Range.rangeSize lo hi 1 := by rw [rangeSize_one]; split <;> omega
    show IsRangeIter _ _ (lo + ((0 : Nat) : Int) * 1) ((((hi - lo).toNat : Nat) : Int) - ((0 : Nat) : Int)) 1
    rw [e1, e2]
    exact Heap.get?_push_size _ rfl
  · have e : b = (s.heap.push { cls := .type "range", data := .fields #[.int lo t, .int hi u, .int 1 v] }).objs.size := by simpa using hb
    subst e
    exact I1.fpOk (Nat.le_refl _) (I1.hok.fresh (Nat.le_refl _))
noncomputable def iRng1 (ta : TA) : TI := fun σ H R => ta σ H fun vs H1 => ∃ j : Int, vs = [.int j] ∧ -(2 ^ 62) ≤ j ∧ j < 2 ^ 62 ∧ R (Itr 0 j.toNat) H1
theorem pi_range1 {a : Expr} {ta : TA} {p pos : Pos} (hg : Gl X "range") (hm : X.mg "range" = none) (ha : PA X [a] ta) (hs : starEach [a] X.env = [(false, eval a X.env)] := by rfl) : PI X tg (.Call (.Name "range" p) [a] [] pos) (iRng1 ta) := by
  intro pins s σ H R I h
  refine Call_ (ld_blt I hg hm boot_range (PyProof.Rows.callWith_type1 (thn (ha pos pins s σ H _ I h) fun us s1 ⟨vs, H1, I1, r1, q1⟩ => ?_) hs rfl))
  obtain ⟨j, e, q1, q2, q⟩ := q1
  subst e
  cases r1 with
  | cons r rr =>
    cases rr
    obtain ⟨t, rfl⟩ := r
    exact call_range_1 (range_it I1 (by omega) (by omega) q1 q2 (by simpa using q))
noncomputable def tFor (wi : TI) (g : TG) (tb : TS) : TS := fun D σ H => wi σ H fun J H1 => ∃ W : Nat → Nat → St → Hp → Prop, (∃ m, W 0 m σ H1) ∧ ∀ i m σ H, W i m σ H →
  (J.stop i H ∧ D.nx σ H) ∨ (J.go i H ∧ ∃ N : St → Hp → Prop, (∀ σ' H', N σ' H' → ∃ m', m' < m ∧ W (i + 1) m' σ' H') ∧ ∀ x H', J.yld i H x H' → g x σ H' fun σ2 H2 => tb { D with nx := N, ct := N, bk := D.nx } σ2 H2)
noncomputable def pinsAt (fp : List Addr) (h : Heap) : List (Addr × Obj) := fp.filterMap fun b => (h.get? b).map fun o => (b, o)
theorem mem_pinsAt {fp : List Addr} {h : Heap} {b : Addr} {o : Obj} (hb : b ∈ fp) (e : h.get? b = some o) : (b, o) ∈ pinsAt fp h := List.mem_filterMap.mpr ⟨b, hb, by rw [e]; rfl⟩
theorem of_pinsAt {fp : List Addr} {h : Heap} {p : Addr × Obj} (hp : p ∈ pinsAt fp h) : p.1 ∈ fp ∧ h.get? p.1 = some p.2 := by
  obtain ⟨b, hb, e⟩ := List.mem_filterMap.mp hp
  cases q : h.get? b with
  | none => rw [q] at e; cases e
  | some o =>
    rw [q] at e
    have e' : (b, o) = p := Option.some.inj e
    subst e'
    exact ⟨hb, q⟩
theorem Inv.pinned {pins : List (Addr × Obj)} {σ : St} {H : Hp} {s : Shared} {fp : List Addr} (I : Inv X pins σ H s) (hf : ∀ b ∈ fp, FpOk X pins H b) (ho : ∀ b ∈ fp, ∃ o, s.heap.get? b = some o ∧ ∀ v, o.data ≠ .cell v) : Inv X (pins ++ pinsAt fp s.heap) σ H s :=
  I.pins_of fun p hp => (List.mem_append.mp hp).elim (fun z => I.pin p (List.mem_append_right _ z)) fun z => by
    obtain ⟨hb, e⟩ := of_pinsAt z
    obtain ⟨f0, f1, f2, _⟩ := hf p.1 hb
    obtain ⟨o, e', d⟩ := ho p.1 hb
    rw [e] at e'; cases e'
    exact ⟨e, f0, f1, f2, d⟩
theorem Inv.unpinned {pins pl : List (Addr × Obj)} {σ : St} {H : Hp} {s : Shared} (I : Inv X (pins ++ pl) σ H s) : Inv X pins σ H s := I.pins_of fun p hp => I.pin p (List.mem_append_right _ (List.mem_append_left _ hp))
theorem ps_for {iter : Expr} {body : List Stmt} {wi : TI} {g : TG} {tb : TS} {pos : Pos} (hp : PassesOwn (model X.prog X.w) X.A X.env X.xe) (hc : X.calm = true) (hi : PI X tg iter wi) (hg : PG X tg g) (hb : PSs X body tb)
    (hs : ∀ x, foldedSetIterable iter X.env x = pure x := by intro _; rfl) : PS X (.For tg iter body [] pos) (tFor wi g tb) := by
  intro pins s σ H D I h
  refine wpAny_For (thn (hi pins s σ H _ I h) fun v s1 h1 => thn h1 fun itv s2 h2 => ?_) hs
  obtain ⟨it, fp, tn, J, H2, e, I2, T, st2, f2, W, ⟨m0, w0⟩, turn⟩ := h2
  subst e
  -- what stays true of the iterator's objects through the loop
  have stat : ∀ {H' : Hp}, (∀ b ∈ fp, H' b = none) → ∀ b ∈ fp, FpOk X pins H' b := fun hn b hb => ⟨hn b hb, (f2 b hb).2⟩
  refine codeAny_forLoop_any (fun n s' => ∃ i σ' H', Inv X pins σ' H' s' ∧ tn i s'.heap ∧ (∀ b ∈ fp, H' b = none) ∧ W i n σ' H') ?_ m0 ⟨0, σ, H2, I2, st2, fun b hb => (f2 b hb).1, w0⟩
  rintro n s3 ⟨i, σ3, H3, I3, st3, fr3, w3⟩
  rcases turn i n σ3 H3 w3 with ⟨stop, qn⟩ | ⟨go, N, hN, step⟩
  · refine wpAny_passesOwn hp (thn (T.done X rfl rfl rfl hc i pins s3 σ3 H3 X.xe I3 (stat fr3) st3 stop) fun r s4 ⟨hr, I4⟩ => ?_)
    subst hr
    exact wpAny_execs_nil ⟨σ3, H3, I4, qn⟩
  · refine wpAny_passesOwn hp (thn (T.item X rfl rfl rfl hc i pins s3 σ3 H3 X.xe I3 (stat fr3) st3 go) fun r s4 ⟨u, hr, h4⟩ => ?_)
    subst hr
    refine wpAny_passesOwn hp (thn h4 fun _ s5 ⟨x, H5, I5, r5, y5, st5, fr5⟩ => ?_)
    have I5' := I5.pinned (stat fr5) (T.obj _ _ st5)
    refine wpAny_passesOwn hp (thn (hg _ s5 σ3 H5 x u _ I5' r5 (step x H5 y5)) fun _ s6 ⟨σ6, H6, I6, q6⟩ => ?_)
    refine wpAny_passesOwn hp (thn (hb _ s6 σ6 H6 _ I6 q6) fun f s7 q7 => ?_)
    have again : ∀ {σ7 : St} {H7 : Hp}, Inv X (pins ++ pinsAt fp s5.heap) σ7 H7 s7 → N σ7 H7 → ∃ m, m < n ∧ ∃ i σ' H', Inv X pins σ' H' s7 ∧ tn i s7.heap ∧ (∀ b ∈ fp, H' b = none) ∧ W i m σ' H' := fun {σ7 H7} I7 n7 => by
      obtain ⟨m', hm, w7⟩ := hN σ7 H7 n7
      refine ⟨m', hm, i + 1, σ7, H7, I7.unpinned, T.keep _ _ _ st5 fun b hb o e => (I7.pin (b, o) (List.mem_append_right _ (List.mem_append_right _ (mem_pinsAt hb e)))).1, fun b hb => ?_, w7⟩
      obtain ⟨o, e, d⟩ := T.obj _ _ st5 b hb
      exact (I7.pin (b, o) (List.mem_append_right _ (List.mem_append_right _ (mem_pinsAt hb e)))).2.1
    cases f with
    | next => obtain ⟨σ7, H7, I7, n7⟩ := q7; exact again I7 n7
    | cont => obtain ⟨σ7, H7, I7, n7⟩ := q7; exact again I7 n7
    | brk => obtain ⟨σ7, H7, I7, q7⟩ := q7; exact ⟨σ7, H7, I7.unpinned, q7⟩
    | ret v => obtain ⟨x7, σ7, H7, I7, r7, q7⟩ := q7; exact ⟨x7, σ7, H7, I7.unpinned, r7, q7⟩
end

theorem for_range {lo : Int} {n : Nat} {g : TG} {tb : TS} {D : Ends} {σ : St} {H : Hp} (Pv : Nat → St → Hp → Prop) (h0 : Pv 0 σ H)
    (hs : ∀ i σ H, i < n → Pv i σ H → g (.int (lo + i)) σ H fun σ2 H2 => tb { D with nx := Pv (i + 1), ct := Pv (i + 1), bk := D.nx } σ2 H2) (hd : ∀ σ H, Pv n σ H → D.nx σ H) :
    ∃ W : Nat → Nat → St → Hp → Prop, (∃ m, W 0 m σ H) ∧ ∀ i m σ H, W i m σ H →
      ((Itr lo n).stop i H ∧ D.nx σ H) ∨ ((Itr lo n).go i H ∧ ∃ N : St → Hp → Prop, (∀ σ' H', N σ' H' → ∃ m', m' < m ∧ W (i + 1) m' σ' H') ∧ ∀ x H', (Itr lo n).yld i H x H' → g x σ H' fun σ2 H2 => tb { D with nx := N, ct := N, bk := D.nx } σ2 H2) := by
  refine ⟨fun i m σ H => m = n - i ∧ i ≤ n ∧ Pv i σ H, ⟨n, by simp, Nat.zero_le _, h0⟩, ?_⟩
  rintro i m σ H ⟨rfl, hi, p⟩
  by_cases hlt : i < n
  · refine .inr ⟨hlt, Pv (i + 1), fun σ' H' p' => ⟨n - (i + 1), by omega, rfl, hlt, p'⟩, fun x H' y => ?_⟩
    obtain ⟨e, y⟩ := y
    subst e y
    exact hs i σ _ hlt p
  · have e : i = n := by omega
    subst e
    exact .inl ⟨Nat.le_refl _, hd σ H p⟩
end L2

namespace L2
open PySem PySem.Spec PyProof.Rows

noncomputable abbrev R2 := V → V → Hp → VK → Prop
noncomputable def OpR (X : Cx) (f : Value → Value → Sem Value) (r : R2) : Prop :=
  ∀ (pins : List (Addr × Obj)) (s : Shared) (σ : St) (H : Hp) (x y : V) (v u : Value) (Q : VK), Inv X pins σ H s → RelV x v → RelV y u → r x y H Q →
    wpAny (model X.prog X.w) X.A (f v u) (EP X pins σ Q) X.xe s
noncomputable def UnR (X : Cx) (f : Value → Sem Value) (r : V → Hp → VK → Prop) : Prop :=
  ∀ (pins : List (Addr × Obj)) (s : Shared) (σ : St) (H : Hp) (x : V) (v : Value) (Q : VK), Inv X pins σ H s → RelV x v → r x H Q →
    wpAny (model X.prog X.w) X.A (f v) (EP X pins σ Q) X.xe s
noncomputable def CallR (X : Cx) (f : Value) (r : List V → Hp → VK → Prop) : Prop :=
  ∀ (pins : List (Addr × Obj)) (s : Shared) (σ : St) (H : Hp) (xs : List V) (us : List Value) (Q : VK), Inv X pins σ H s → Vals xs us → r xs H Q →
    wpAny (model X.prog X.w) X.A (call f us) (EP X pins σ Q) X.xe s
noncomputable def tOp (r : R2) (ta tb : TE) : TE := fun σ H Q => ta σ H fun x H1 => tb σ H1 fun y H2 => r x y H2 Q
noncomputable def tUn (r : V → Hp → VK → Prop) (ta : TE) : TE := fun σ H Q => ta σ H fun x H1 => r x H1 Q
noncomputable def rI (C : Int → Int → Prop) (g : Int → Int → V) : R2 := fun x y H Q => ∃ i j, x = .int i ∧ y = .int j ∧ C i j ∧ Q (g i j) H
noncomputable def rI0 (g : Int → Int → V) : R2 := fun x y H Q => ∃ i j, x = .int i ∧ y = .int j ∧ Q (g i j) H
noncomputable def rU (g : Int → V) : V → Hp → VK → Prop := fun x H Q => ∃ i, x = .int i ∧ Q (g i) H

section
variable {X : Cx} {a b c : Expr} {ta tb tc : TE} {pos : Pos}

theorem binT (ha : PE X a ta) (hb : PE X b tb) {pins : List (Addr × Obj)} {s : Shared} {σ : St} {H : Hp} {R : V → V → Hp → Prop} (I : Inv X pins σ H s)
    (h : ta σ H fun x H1 => tb σ H1 fun y H2 => R x y H2) {Q : Value → Shared → Prop} {f : Value → Value → Sem Value}
    (hf : ∀ v u s2 x y H2, Inv X pins σ H2 s2 → RelV x v → RelV y u → R x y H2 → wpAny (model X.prog X.w) X.A (f v u) Q X.xe s2) :
    wpAny (model X.prog X.w) X.A (eval a X.env) (fun v s₁ => wpAny (model X.prog X.w) X.A (eval b X.env) (fun u s₂ => wpAny (model X.prog X.w) X.A (f v u) Q X.xe s₂) X.xe s₁) X.xe s := by
  refine thn (ha pins s σ H _ I h) fun v s1 ⟨x, H1, I1, r1, q1⟩ => ?_
  refine thn (hb pins s1 σ H1 _ I1 q1) fun u s2 ⟨y, H2, I2, r2, q2⟩ => ?_
  exact hf v u s2 x y H2 I2 r1 r2 q2

theorem pe_op {op : Operator} {r : R2} (ho : OpR X (binaryOp op) r) (ha : PE X a ta) (hb : PE X b tb) : PE X (.BinOp a op b pos) (tOp r ta tb) := by
  intro pins s σ H Q I h
  exact wpAny_BinOp (binT ha hb I h fun v u s2 x y H2 I2 rx ry q => ho pins s2 σ H2 x y v u Q I2 rx ry q)
theorem pe_un {op : UnaryOp} {r : V → Hp → VK → Prop} (ho : UnR X (unaryOp op) r) (ha : PE X a ta) : PE X (.UnaryOp op a pos) (tUn r ta) := by
  intro pins s σ H Q I h
  exact UnaryOp_ (thn (ha pins s σ H _ I h) fun v s1 ⟨x, H1, I1, r1, q1⟩ => ho pins s1 σ H1 x v Q I1 r1 q1)
theorem opI {f : Value → Value → Sem Value} {C : Int → Int → Prop} {g : Int → Int → Int}
    (rule : ∀ (i j : Int) (t u : Tok) (s : Shared) (Q : Value → Shared → Prop) (E : Value → Shared → Prop), C i j → Q (.int (g i j) s.toks) { s with toks := s.toks + 1 } → wpAny (model X.prog X.w) X.A (f (.int i t) (.int j u)) Q E s) :
    OpR X f (rI C fun i j => .int (g i j)) := by
  intro pins s σ H x y v u Q I rx ry h
  obtain ⟨i, j, rfl, rfl, hc, q⟩ := h
  obtain ⟨t, rfl⟩ := rx
  obtain ⟨t', rfl⟩ := ry
  exact rule i j t t' s _ _ hc ⟨.int (g i j), H, I.tok _, ⟨_, rfl⟩, q⟩
theorem opI0 {f : Value → Value → Sem Value} {g : Int → Int → Int}
    (rule : ∀ (i j : Int) (t u : Tok) (s : Shared) (Q : Value → Shared → Prop) (E : Value → Shared → Prop), Q (.int (g i j) s.toks) { s with toks := s.toks + 1 } → wpAny (model X.prog X.w) X.A (f (.int i t) (.int j u)) Q E s) :
    OpR X f (rI0 fun i j => .int (g i j)) := by
  intro pins s σ H x y v u Q I rx ry h
  obtain ⟨i, j, rfl, rfl, q⟩ := h
  obtain ⟨t, rfl⟩ := rx
  obtain ⟨t', rfl⟩ := ry
  exact rule i j t t' s _ _ ⟨.int (g i j), H, I.tok _, ⟨_, rfl⟩, q⟩
theorem opB0 {f : Value → Value → Sem Value} {g : Int → Int → Bool}
    (rule : ∀ (i j : Int) (t u : Tok) (s : Shared) (Q : Value → Shared → Prop) (E : Value → Shared → Prop), Q (.bool (g i j)) s → wpAny (model X.prog X.w) X.A (f (.int i t) (.int j u)) Q E s) :
    OpR X f (rI0 fun i j => .bl (g i j)) := by
  intro pins s σ H x y v u Q I rx ry h
  obtain ⟨i, j, rfl, rfl, q⟩ := h
  obtain ⟨t, rfl⟩ := rx
  obtain ⟨t', rfl⟩ := ry
  exact rule i j t t' s _ _ ⟨.bl (g i j), H, I, rfl, q⟩

noncomputable def CDiv (i j : Int) : Prop := 0 < j ∧ j < 1073741824
noncomputable def CMul (i j : Int) : Prop := (-(2 ^ 64) < i ∧ i < 2 ^ 64) ∨ (-(2 ^ 64) < j ∧ j < 2 ^ 64)
theorem CMul.ok {i j : Int} (h : CMul i j) : IntMulOk i j := by
  rcases h with ⟨h1, h2⟩ | ⟨h1, h2⟩
  · exact .of_left (intBits_le_64 h1 h2)
  · exact .of_right (intBits_le_64 h1 h2)
theorem op_add : OpR X (binaryOp .Add) (rI0 fun i j => .int (i + j)) := opI0 fun _ _ _ _ _ _ _ q => add_int q
theorem op_sub : OpR X (binaryOp .Sub) (rI0 fun i j => .int (i - j)) := opI0 fun _ _ _ _ _ _ _ q => sub_int q
theorem op_mul : OpR X (binaryOp .Mult) (rI CMul fun i j => .int (i * j)) := opI fun _ _ _ _ _ _ _ hc q => mul_int q hc.ok
theorem op_fdiv : OpR X (binaryOp .FloorDiv) (rI CDiv fun i j => .int (i / j)) := opI fun i j _ _ _ _ _ hc q => by
  have h1 : (0 : Int) < j := hc.1
  have h2 : j < 1073741824 := hc.2
  exact floordiv_int (by omega) (by rw [Int.fdiv_eq_ediv_of_nonneg i (by omega)]; exact q) (.inl (PyProof.noPylong_small (by omega)))
theorem op_mod : OpR X (binaryOp .Mod) (rI (fun _ j => 0 < j) fun i j => .int (i % j)) := opI fun i j _ _ _ _ _ hc q => by
  have h1 : (0 : Int) < j := hc
  exact mod_int' (by omega) (by rw [Int.fmod_eq_emod_of_nonneg i (by omega)]; exact q)
theorem unI {f : Value → Sem Value} {g : Int → Int}
    (rule : ∀ (i : Int) (t : Tok) (s : Shared) (Q : Value → Shared → Prop) (E : Value → Shared → Prop), Q (.int (g i) s.toks) { s with toks := s.toks + 1 } → wpAny (model X.prog X.w) X.A (f (.int i t)) Q E s) :
    UnR X f (rU fun i => .int (g i)) := by
  intro pins s σ H x v Q I rx h
  obtain ⟨i, rfl, q⟩ := h
  obtain ⟨t, rfl⟩ := rx
  exact rule i t s _ _ ⟨.int (g i), H, I.tok _, ⟨_, rfl⟩, q⟩
theorem un_neg : UnR X (unaryOp .USub) (rU fun i => .int (-i)) := unI fun _ _ _ _ _ q => neg_int q
end

noncomputable def scal : V → V → Bool
  | .non, .non => true | .non, .int _ => true | .int _, .non => true | .non, .bl _ => true | .bl _, .non => true | .non, .str _ => true | .str _, .non => true
  | .int _, .int _ => true | .bl _, .bl _ => true | .str _, .str _ => true | .byt _, .byt _ => true
  | .int _, .str _ => true | .str _, .int _ => true | .bl _, .str _ => true | .str _, .bl _ => true
  | _, _ => false
noncomputable def rEq : R2 := fun x y H Q => scal x y = true ∧ Q (.bl (decide (x = y))) H
noncomputable def rNe : R2 := fun x y H Q => scal x y = true ∧ Q (.bl (!decide (x = y))) H

theorem dec_int {i j : Int} : decide (V.int i = V.int j) = (i == j) := by
  rw [Bool.eq_iff_iff]
  simp
theorem dec_bl {i j : Bool} : decide (V.bl i = V.bl j) = (i == j) := by
  rw [Bool.eq_iff_iff]
  simp
theorem dec_str {i j : Str} : decide (V.str i = V.str j) = (i == j) := by
  rw [Bool.eq_iff_iff]
  simp
theorem dec_byt {i j : Array UInt8} : decide (V.byt i = V.byt j) = (i.toList == j.toList) := by
  rw [Bool.eq_iff_iff]
  cases i
  cases j
  simp

section
variable {X : Cx} {a b c : Expr} {ta tb tc : TE} {pos : Pos}
theorem fin_bl {pins : List (Addr × Obj)} {σ : St} {H : Hp} {s : Shared} {Q : VK} {k k' : Bool} (I : Inv X pins σ H s) (q : Q (.bl k) H) (e : k = k') : EP X pins σ Q (.bool k') s := by
  subst e
  exact ⟨.bl k, H, I, rfl, q⟩
theorem op_eq : OpR X (compareOp .Eq) rEq := by
  intro pins s σ H x y v u Q I rx ry h
  obtain ⟨hs, q⟩ := h
  cases x with
  | non =>
    cases rx
    cases y with
    | non => cases ry; exact PySem.EqNone.eq_none_none (fin_bl I q (by simp))
    | bl j => cases ry; exact PySem.EqNone.eq_none_bool (fin_bl I q (by simp))
    | int j => obtain ⟨t', rfl⟩ := ry; exact PySem.EqNone.eq_none_int (fin_bl I q (by simp))
    | str j => obtain ⟨t', rfl⟩ := ry; exact PySem.EqNone.eq_none_str (fin_bl I q (by simp))
    | _ => exact absurd (show false = true from hs) Bool.false_ne_true
  | bl i =>
    cases rx
    cases y with
    | non => cases ry; exact PySem.EqNone.eq_bool_none (fin_bl I q (by simp))
    | bl j => cases ry; exact eq_bool (fin_bl I q dec_bl)
    | str j => obtain ⟨t', rfl⟩ := ry; exact PySem.EqMixed.eq_bool_str (fin_bl I q (by simp))
    | _ => exact absurd (show false = true from hs) Bool.false_ne_true
  | int i =>
    obtain ⟨t, rfl⟩ := rx
    cases y with
    | non => cases ry; exact PySem.EqNone.eq_int_none (fin_bl I q (by simp))
    | int j => obtain ⟨t', rfl⟩ := ry; exact eq_int (fin_bl I q dec_int)
    | str j => obtain ⟨t', rfl⟩ := ry; exact PySem.EqMixed.eq_int_str (fin_bl I q (by simp))
    | _ => exact absurd (show false = true from hs) Bool.false_ne_true
  | str i =>
    obtain ⟨t, rfl⟩ := rx
    cases y with
    | non => cases ry; exact PySem.EqNone.eq_str_none (fin_bl I q (by simp))
    | bl j => cases ry; exact PySem.EqMixed.eq_str_bool (fin_bl I q (by simp))
    | int j => obtain ⟨t', rfl⟩ := ry; exact PySem.EqMixed.eq_str_int (fin_bl I q (by simp))
    | str j => obtain ⟨t', rfl⟩ := ry; exact eq_str (fin_bl I q dec_str)
    | _ => exact absurd (show false = true from hs) Bool.false_ne_true
  | byt i =>
    obtain ⟨t, rfl⟩ := rx
    cases y with
    | byt j => obtain ⟨t', rfl⟩ := ry; exact PySem.W.eq_bytes (fin_bl I q dec_byt)
    | _ => exact absurd (show false = true from hs) Bool.false_ne_true
  | _ => cases y <;> exact absurd (show false = true from hs) Bool.false_ne_true
theorem op_ne : OpR X (compareOp .NotEq) rNe := by
  intro pins s σ H x y v u Q I rx ry h
  obtain ⟨hs, q⟩ := h
  cases x with
  | non =>
    cases rx
    cases y with
    | non => cases ry; exact PySem.EqNone.ne_none_none (fin_bl I q (by simp))
    | bl j => cases ry; exact PySem.EqNone.ne_none_bool (fin_bl I q (by simp))
    | int j => obtain ⟨t', rfl⟩ := ry; exact PySem.EqNone.ne_none_int (fin_bl I q (by simp))
    | str j => obtain ⟨t', rfl⟩ := ry; exact PySem.EqNone.ne_none_str (fin_bl I q (by simp))
    | _ => exact absurd (show false = true from hs) Bool.false_ne_true
  | bl i =>
    cases rx
    cases y with
    | non => cases ry; exact PySem.EqNone.ne_bool_none (fin_bl I q (by simp))
    | bl j => cases ry; exact ne_bool (fin_bl I q (congrArg not dec_bl))
    | str j => obtain ⟨t', rfl⟩ := ry; exact PySem.EqMixed.ne_bool_str (fin_bl I q (by simp))
    | _ => exact absurd (show false = true from hs) Bool.false_ne_true
  | int i =>
    obtain ⟨t, rfl⟩ := rx
    cases y with
    | non => cases ry; exact PySem.EqNone.ne_int_none (fin_bl I q (by simp))
    | int j => obtain ⟨t', rfl⟩ := ry; exact ne_int (fin_bl I q (congrArg not dec_int))
    | str j => obtain ⟨t', rfl⟩ := ry; exact PySem.EqMixed.ne_int_str (fin_bl I q (by simp))
    | _ => exact absurd (show false = true from hs) Bool.false_ne_true
  | str i =>
    obtain ⟨t, rfl⟩ := rx
    cases y with
    | non => cases ry; exact PySem.EqNone.ne_str_none (fin_bl I q (by simp))
    | bl j => cases ry; exact PySem.EqMixed.ne_str_bool (fin_bl I q (by simp))
    | int j => obtain ⟨t', rfl⟩ := ry; exact PySem.EqMixed.ne_str_int (fin_bl I q (by simp))
    | str j => obtain ⟨t', rfl⟩ := ry; exact ne_str (fin_bl I q (congrArg not dec_str))
    | _ => exact absurd (show false = true from hs) Bool.false_ne_true
  | byt i =>
    obtain ⟨t, rfl⟩ := rx
    cases y with
    | byt j => obtain ⟨t', rfl⟩ := ry; exact PySem.W.ne_bytes (fin_bl I q (congrArg not dec_byt))
    | _ => exact absurd (show false = true from hs) Bool.false_ne_true
  | _ => cases y <;> exact absurd (show false = true from hs) Bool.false_ne_true

theorem op_lt : OpR X (compareOp .Lt) (rI0 fun i j => .bl (decide (i < j))) := opB0 fun _ _ _ _ _ _ _ q => lt_int q
theorem op_le : OpR X (compareOp .LtE) (rI0 fun i j => .bl (decide (i ≤ j))) := opB0 fun _ _ _ _ _ _ _ q => le_int q
theorem op_gt : OpR X (compareOp .Gt) (rI0 fun i j => .bl (decide (j < i))) := opB0 fun _ _ _ _ _ _ _ q => gt_int q
theorem op_ge : OpR X (compareOp .GtE) (rI0 fun i j => .bl (decide (j ≤ i))) := opB0 fun _ _ _ _ _ _ _ q => ge_int q
theorem op_in_str : OpR X (compareOp .In) (fun x y H Q => ∃ i j, x = .str i ∧ y = .str j ∧ Q (.bl (!(Builtin.Str.occurrences j i 0 j.length 1).isEmpty)) H) := by
  intro pins s σ H x y v u Q I rx ry h
  obtain ⟨i, j, rfl, rfl, q⟩ := h
  obtain ⟨t, rfl⟩ := rx
  obtain ⟨t', rfl⟩ := ry
  exact in_str (fin_bl I q rfl)

theorem op_isN : OpR X (compareOp .Is) (fun x y H Q => y = .non ∧ Q (.bl (decide (x = .non))) H) := by
  intro pins s σ H x y v u Q I rx ry h
  obtain ⟨rfl, q⟩ := h
  cases ry
  refine is_none_gen (fin_bl I q ?_)
  cases x <;> first
    | (cases rx; rfl)
    | (obtain ⟨t, rfl⟩ := rx; rfl)
theorem op_notN : OpR X (compareOp .IsNot) (fun x y H Q => y = .non ∧ Q (.bl (!decide (x = .non))) H) := by
  intro pins s σ H x y v u Q I rx ry h
  obtain ⟨rfl, q⟩ := h
  cases ry
  refine isnot_none_gen (fin_bl I q ?_)
  cases x <;> first
    | (cases rx; rfl)
    | (obtain ⟨t, rfl⟩ := rx; rfl)

theorem OpR.or {f : Value → Value → Sem Value} {r r' : R2} (h : OpR X f r) (h' : OpR X f r') : OpR X f (fun x y H Q => r x y H Q ∨ r' x y H Q) := by
  intro pins s σ H x y v u Q I rx ry q
  rcases q with q | q
  · exact h pins s σ H x y v u Q I rx ry q
  · exact h' pins s σ H x y v u Q I rx ry q

theorem nomark (b : Expr) {op : CmpOp} (h : op ≠ .In := by decide) (h2 : op ≠ .NotIn := by decide) : behindInMarks op b = false := by
  have e1 : (op == CmpOp.In) = false := by cases op <;> first | rfl | exact absurd rfl h
  have e2 : (op == CmpOp.NotIn) = false := by cases op <;> first | rfl | exact absurd rfl h2
  cases b <;> simp [behindInMarks, e1, e2]
theorem pe_cmpR {op : CmpOp} {r : R2} (ho : OpR X (compareOp op) r) (ha : PE X a ta) (hb : PE X b tb) (hm : behindInMarks op b = false) : PE X (.Compare a [op] [b] pos) (tOp r ta tb) := by
  intro pins s σ H Q I h
  exact wpAny_Compare1 (binT ha hb I h fun v u s2 x y H2 I2 rx ry q => ho pins s2 σ H2 x y v u Q I2 rx ry q) hm
noncomputable def tTest (t : TE) : TT := fun σ H Q => t σ H fun x H' => ∃ k, x = .bl k ∧ Q k H'
theorem pt_cmpR {op : CmpOp} {r : R2} (ho : OpR X (compareOp op) r) (ha : PE X a ta) (hb : PE X b tb) (hm : behindInMarks op b = false) : PT X (.Compare a [op] [b] pos) (tTest (tOp r ta tb)) := by
  intro pins s σ H Q I h
  refine wpAny_isTrue_Compare1 (thn (ha pins s σ H _ I h) fun v s1 ⟨x, H1, I1, r1, q1⟩ => thn (hb pins s1 σ H1 _ I1 q1) fun u s2 ⟨y, H2, I2, r2, q2⟩ =>
    thn (ho pins s2 σ H2 x y v u _ I2 r1 r2 q2) fun c s3 ⟨z, H3, I3, r3, k, e, q3⟩ => ?_) hm
  subst e
  cases r3
  exact wpAny_truthy_bool ⟨H3, I3, q3⟩
noncomputable def tChain (r r' : R2) (ta tb tc : TE) : TE := fun σ H Q => ta σ H fun x H1 => tb σ H1 fun y H2 => r x y H2 fun z H3 => ∃ k, z = .bl k ∧
  (if k = true then tc σ H3 fun w' H4 => r' y w' H4 Q else Q (.bl false) H3)
theorem pt_chain {op op' : CmpOp} {r r' : R2} (ho : OpR X (compareOp op) r) (ho' : OpR X (compareOp op') r') (ha : PE X a ta) (hb : PE X b tb) (hc : PE X c tc)
    (hm : lastMarks [op, op'] [b, c] = false := by with_unfolding_all rfl) : PT X (.Compare a [op, op'] [b, c] pos) (tTest (tChain r r' ta tb tc)) := by
  intro pins s σ H Q I h
  refine isTrue_chain (thn (ha pins s σ H _ I h) fun v s1 ⟨x, H1, I1, r1, q1⟩ => test_link (thn (hb pins s1 σ H1 _ I1 q1) fun u s2 ⟨y, H2, I2, r2, q2⟩ =>
    thn (ho pins s2 σ H2 x y v u _ I2 r1 r2 q2) fun d s3 ⟨z, H3, I3, r3, k, e, q3⟩ => ?_)) hm
  subst e
  cases r3
  refine wpAny_truthy_bool ?_
  cases k with
  | false =>
    obtain ⟨k', e', q'⟩ := q3
    cases e'
    exact ite_ff ⟨H3, I3, q'⟩
  | true =>
    refine ite_tt (test_last (thn (hc pins s3 σ H3 _ I3 q3) fun w' s4 ⟨z', H4, I4, r4, q4⟩ => thn (ho' pins s4 σ H4 y z' u w' _ I4 r2 r4 q4) fun d' s5 ⟨z2, H5, I5, r5, k2, e2, q5⟩ => ?_))
    subst e2
    cases r5
    exact wpAny_truthy_bool ⟨H5, I5, q5⟩

theorem line63 : (sizeLine : Nat) < 2 ^ 63 := by rw [sizeLine_eq]; decide
theorem op_add_str : OpR X (binaryOp .Add) (fun x y H Q => ∃ i j, x = .str i ∧ y = .str j ∧ i.length + j.length ≤ sizeLine ∧ Q (.str (i ++ j)) H) := by
  intro pins s σ H x y v u Q I rx ry h
  obtain ⟨i, j, rfl, rfl, hz, q⟩ := h
  obtain ⟨t, rfl⟩ := rx
  obtain ⟨t', rfl⟩ := ry
  exact add_str (fun t' tk => ⟨.str (i ++ j), H, I.tok _, ⟨_, rfl⟩, q⟩) hz
theorem vals1 {x : V} {us : List Value} (r : Vals [x] us) : ∃ u, us = [u] ∧ RelV x u := by
  cases r with
  | cons r1 r2 => cases r2; exact ⟨_, rfl, r1⟩
theorem vals2 {x y : V} {us : List Value} (r : Vals [x, y] us) : ∃ u w', us = [u, w'] ∧ RelV x u ∧ RelV y w' := by
  cases r with
  | cons r1 r2 =>
    cases r2 with
    | cons r3 r4 => cases r4; exact ⟨_, _, rfl, r1, r3⟩
theorem call_str_int : CallR X (.type "str") (fun xs H Q => ∃ i, xs = [.int i] ∧ i.natAbs.log2 < 1920 ∧ Q (.str (toString i)) H) := by
  intro pins s σ H xs us Q I r h
  obtain ⟨i, rfl, hz, q⟩ := h
  obtain ⟨u, rfl, t, rfl⟩ := vals1 r
  exact PySem.P.str_of_int hz ⟨.str _, H, I.tok _, ⟨_, rfl⟩, q⟩
end
end L2

namespace L2
open PySem PySem.Spec PyProof.Rows

structure ObjM (h : Heap) (x dx C : Addr) (mA : Str → Option Value) : Prop where
  obj : h.get? x = some (PySem.W.instObj C dx)
  ns : h.Ns1 dx mA
  ne : dx ≠ x

theorem lookIn_ns {h : Heap} {dx : Addr} {mA : Str → Option Value} (n : h.Ns1 dx mA) : ∃ od, h.get? dx = some od ∧ ∀ name, PySem.W.lookIn name od = some (mA name) := by
  obtain ⟨o, es, ep, ho, hd, hk, _, hm⟩ := n
  refine ⟨o, ho, fun name => ?_⟩
  have e := hm name
  unfold nsFind findBy at e
  rw [← Array.find?_toList] at e
  unfold PySem.W.lookIn
  rw [hd]
  dsimp only
  split
  · rename_i y q
    rw [q] at e
    exact congrArg some e
  · rename_i q
    rw [q] at e
    have a : es.toList.any (·.refKey) = false := by
      rw [List.any_eq_false]
      intro y hy
      obtain ⟨z, t, hkey⟩ := hk y (Array.mem_toList_iff.mp hy)
      simp [DictEntry.refKey, hkey]
    have a' : ¬ es.toList.any (·.refKey) = true := by rw [a]; exact Bool.false_ne_true
    rw [if_neg a']
    exact congrArg some e

theorem ObjM.look {h : Heap} {x dx C : Addr} {mA : Str → Option Value} (I : ObjM h x dx C mA) : ∃ od, PySem.W.InstAt h x (PySem.W.instObj C dx) C (some od) ∧ ∀ name, PySem.W.lookIn name od = some (mA name) :=
  let ⟨od, ho, hl⟩ := lookIn_ns I.ns
  ⟨od, ⟨I.obj, rfl, rfl, ho⟩, hl⟩

section
variable {prog : Program} {w : World} {A : Around} {E : Value → Shared → Prop} {s : Shared} {K : PySem.W.Frag} {x dx C f : Addr} {mA : Str → Option Value} {name : Str} {v : Value}

theorem get_map {expr : Bool} {Q : Value → Shared → Prop} (X : K.In s.heap) (I : ObjM s.heap x dx C mA) (hg : PySem.W.plainGet K C name = true) (hh : PySem.W.hasDictIn K C = true)
    (ha : PySem.W.findIn K (.ref C) name = some none) (hv : mA name = some v) (hv' : PySem.W.handedIn v = true) (h : Q v { s with toks := s.toks + 1 }) :
    wpAny (model prog w) A (getAttr (.ref x) name expr) Q E s := by
  obtain ⟨od, J, hl⟩ := I.look
  exact PySem.W.get_value X J (PySem.W.plainGet_of hg).1 (PySem.W.findObj_own hh ha rfl (by rw [hl, hv])) hv' h

theorem get_meth {pl : Sem Bool} {Q : Value × List Value → Shared → Prop} (X : K.In s.heap) (I : ObjM s.heap x dx C mA) (hg : PySem.W.plainGet K C name = true)
    (hf : PySem.W.findIn K (.ref C) name = some (some (.ref f))) (ht : PySem.W.isFn K (.ref f) = true) (hv : mA name = none) (h : Q (.ref f, [.ref x]) s) :
    wpAny (model prog w) A (getMethod (.ref x) name pl) Q E s := by
  obtain ⟨od, J, hl⟩ := I.look
  exact PySem.W.method_fn X J (PySem.W.plainGet_of hg).1 (PySem.W.plainGet_of hg).2 hf (beq_iff_eq.mp ht) (by show (PySem.W.lookIn name od).map (·.isSome) = some false; rw [hl, hv]; rfl) h

theorem set_map {ns : List Str} {Q : Unit → Shared → Prop} (X : K.In s.heap) (I : ObjM s.heap x dx C mA)
    (hs : PySem.W.findIn K (.ref C) "__setattr__" = some (some (.builtin "object.__setattr__"))) (hp : PySem.W.plainOver K C = true) (ht : PySem.W.takerIn K C name = some none) (hh : PySem.W.hasDictIn K C = true)
    (hw : PySem.Within mA ns) (hsz : ns.length ≤ sizeLine)
    (h : ∀ h', ObjM h' x dx C (fun y => if y = name then some v else mA y) → Heap.SameBut dx s.heap h' → Q () { s with heap := h', toks := s.toks + 2 }) :
    wpAny (model prog w) A (setAttr (.ref x) name v) Q E s := by
  obtain ⟨od, J, hl⟩ := I.look
  refine PySem.W.set_plain X J hs (PySem.W.osa_open (s := { s with toks := s.toks + 1 }) (r := none) X J hp ht fun b => ?_)
  obtain ⟨cd, hc, hd'⟩ := PySem.W.any_some hh
  have hx : s.heap.get? x = some ⟨.ref C, some dx, .plain, #[]⟩ := I.obj
  refine wpAny_bind (wpAny_pure (wpAny_bind (wpAny_bind (wpAny_loadPart hx (wpAny_bind (PySem.W.Looks.here (s := { s with toks := s.toks + 1 }) (PySem.W.looks_clsIn X hc) ?_))))))
  rw [hd']
  refine wpAny_pure (a := some dx) (wpAny_bind (wpAny_pure (wpAny_bind ?_)))
  refine wpAny_nsSet1 (s := { s with toks := s.toks + 1 }) I.ns fun h' hn2 hs2 => ?_
  obtain ⟨oD, esD, epD, hoD, hdD, hcD⟩ := hn2.count (PySem.Within.cons name v hw)
  refine wpAny_bind (wpAny_lookBehind hoD (by rw [hdD]; exact pastItsLine_dict (Nat.le_trans hcD (by rw [List.length_cons]; omega))) ?_)
  exact wpAny_pure (h _ ⟨(hs2.2 _ (Ne.symm I.ne)).trans I.obj, hn2, I.ne⟩ hs2)

theorem make_map {R : Result → Shared → Prop} {vs : List Value} {kw : List (Str × Value)} (X : K.In s.heap) (hm : PySem.W.makesIn K C = true)
    (hi : PySem.W.findIn K (.ref C) "__init__" = some (some (.ref f))) (hf : PySem.W.typeIn K (.ref f) = some (.type "function"))
    (h : codeAny (model prog w) (A.under (.builtin "type.__call__" ⟨.ref C :: vs, kw⟩)) (.call (.ref f) ⟨.ref (s.heap.objs.size + 1) :: vs, kw⟩) (PySem.W.InitBack (s.heap.objs.size + 1) R)
      { s with heap := (s.heap.push PySem.W.emptyDict).push (PySem.W.instObj C s.heap.objs.size) }) :
    codeAny (model prog w) A (.call (.ref C) ⟨vs, kw⟩) R s := by
  obtain ⟨hh, g, d, t, os⟩ := s
  exact PySem.W.make_core (PySem.W.makes_of X hm) (PySem.W.looks_findIn X hi) (fun self => PySem.W.bind_fn X self hf) (.inl rfl) h
end

noncomputable def putF (f : Str) (v : V) : List (Str × V) → List (Str × V)
  | [] => [(f, v)]
  | (g, x) :: r => if g = f then (g, v) :: r else (g, x) :: putF f v r
theorem lookup_putF (f g : Str) (v : V) : ∀ fs : List (Str × V), (putF f v fs).lookup g = if g = f then some v else fs.lookup g
  | [] => by
    show List.lookup g [(f, v)] = _
    by_cases h : g = f
    · have hb : (g == f) = true := beq_iff_eq.mpr h
      simp only [List.lookup, hb, if_pos h]
    · have hb : (g == f) = false := beq_eq_false_iff_ne.mpr h
      simp only [List.lookup, hb, if_neg h]
  | (k, x) :: r => by
    have ih := lookup_putF f g v r
    rw [show putF f v ((k, x) :: r) = (if k = f then (k, v) :: r else (k, x) :: putF f v r) from rfl]
    by_cases hk : k = f
    · rw [if_pos hk]
      by_cases h : g = k
      · have hb : (g == k) = true := beq_iff_eq.mpr h
        simp only [List.lookup, hb, if_pos (h.trans hk)]
      · have hb : (g == k) = false := beq_eq_false_iff_ne.mpr h
        simp only [List.lookup, hb, if_neg (fun e : g = f => h (e.trans hk.symm))]
    · rw [if_neg hk]
      by_cases h : g = k
      · have hb : (g == k) = true := beq_iff_eq.mpr h
        simp only [List.lookup, hb, if_neg (fun e : g = f => hk (h.symm.trans e))]
      · have hb : (g == k) = false := beq_eq_false_iff_ne.mpr h
        simp only [List.lookup, hb]
        exact ih
theorem keys_putF (f : Str) (v : V) : ∀ fs : List (Str × V), f ∈ (putF f v fs).map (·.1) ∧ ∀ g, g ∈ fs.map (·.1) → g ∈ (putF f v fs).map (·.1)
  | [] => ⟨by simp [putF], fun g h => by simp at h⟩
  | (k, x) :: r => by
    obtain ⟨i1, i2⟩ := keys_putF f v r
    rw [show putF f v ((k, x) :: r) = (if k = f then (k, v) :: r else (k, x) :: putF f v r) from rfl]
    by_cases hk : k = f
    · rw [if_pos hk]
      subst hk
      exact ⟨by simp, fun g h => by simpa using h⟩
    · rw [if_neg hk]
      refine ⟨?_, fun g h => ?_⟩
      · rw [List.map_cons]
        exact List.mem_cons_of_mem _ i1
      · rw [List.map_cons] at h ⊢
        rcases List.mem_cons.mp h with e | e
        · exact List.mem_cons.mpr (.inl e)
        · exact List.mem_cons_of_mem _ (i2 g e)
theorem length_putF (f : Str) (v : V) : ∀ fs : List (Str × V), (putF f v fs).length ≤ fs.length + 1
  | [] => by simp [putF]
  | (k, x) :: r => by
    have ih := length_putF f v r
    rw [show putF f v ((k, x) :: r) = (if k = f then (k, v) :: r else (k, x) :: putF f v r) from rfl]
    by_cases hk : k = f
    · rw [if_pos hk, List.length_cons, List.length_cons]; omega
    · rw [if_neg hk, List.length_cons, List.length_cons]; omega

theorem RelO.some_of {v : V} {o : Option Value} (r : RelO (some v) o) : ∃ u, o = some u ∧ RelV v u := by
  cases o with
  | none => exact (show False from r).elim
  | some u => exact ⟨u, rfl, r⟩
theorem RelO.none_of {o : Option Value} (r : RelO none o) : o = none := by
  cases o with
  | none => rfl
  | some u => exact (show False from r).elim
theorem handed_of {v : V} {u : Value} (r : RelV v u) : PySem.W.handedIn u = true := by
  cases v with
  | non => cases (show u = Value.none from r); rfl
  | bl b => cases (show u = Value.bool b from r); rfl
  | int i => obtain ⟨t, e⟩ := (show ∃ t, u = Value.int i t from r); cases e; rfl
  | str x => obtain ⟨t, e⟩ := (show ∃ t, u = Value.str x t from r); cases e; rfl
  | byt b => obtain ⟨t, e⟩ := (show ∃ t, u = Value.bytes b t from r); cases e; rfl
  | flt b => obtain ⟨t, e⟩ := (show ∃ t, u = Value.float b t from r); cases e; rfl
  | ref a => cases (show u = Value.ref a from r); rfl
  | ty n => cases (show u = Value.type n from r); rfl

section
variable {P : Program} {w : World} {H H' : Hp} {h h' : Heap} {a C dx : Addr} {fs fs' : List (Str × V)}
theorem ins_get (hok : HOk P w H h) (e : H a = some (.ins C dx fs)) : ∃ mA, ObjM h a dx C mA ∧ (∀ f, RelO (fs.lookup f) (mA f)) ∧ PySem.Within mA (fs.map (·.1)) ∧ fs.length ≤ 1000 ∧ H dx = some (.own a) := by
  obtain ⟨d, z, ne, ob, mA, n, r, q⟩ := (show ObjOk P w H h a (.ins C dx fs) from hok a _ e)
  exact ⟨mA, ⟨ob, n, ne⟩, r, q, z, d⟩
end

structure Cls (K : PySem.W.Frag) (C : Addr) : Prop where
  pg : PySem.W.plainGet K C Str.empty = true
  hd : PySem.W.hasDictIn K C = true
  po : PySem.W.plainOver K C = true
  sa : PySem.W.findIn K (.ref C) "__setattr__" = some (some (.builtin "object.__setattr__"))
theorem Cls.get {K : PySem.W.Frag} {C : Addr} (c : Cls K C) (f : Str) : PySem.W.plainGet K C f = true := c.pg
noncomputable def NoAttr (K : PySem.W.Frag) (C : Addr) (f : Str) : Prop := PySem.W.findIn K (.ref C) f = some none
theorem NoAttr.taker {K : PySem.W.Frag} {C : Addr} {f : Str} (n : NoAttr K C f) : PySem.W.takerIn K C f = some none := by
  unfold PySem.W.takerIn
  rw [show PySem.W.findIn K (.ref C) f = some none from n]
  rfl
structure Meth (K : PySem.W.Frag) (C : Addr) (m : Str) (f : Addr) : Prop where
  at_ : PySem.W.findIn K (.ref C) m = some (some (.ref f))
  fn : PySem.W.isFn K (.ref f) = true
  kp : PySem.W.keepIn K (.ref f) = true

section
variable {X : Cx} {pins : List (Addr × Obj)} {σ : St} {H : Hp} {s : Shared} {a C dx : Addr} {fs : List (Str × V)} {f : Str} {v : V} {A : Around} {E : Value → Shared → Prop}

theorem getattr_ok {b : Bool} {Q : Value → Shared → Prop} (I : Inv X pins σ H s) (e : H a = some (.ins C dx fs)) (c : Cls X.K C) (n : NoAttr X.K C f) (l : fs.lookup f = some v)
    (h : ∀ u s', Inv X pins σ H s' → RelV v u → Q u s') : wpAny (model X.prog X.w) A (getAttr (.ref a) f b) Q E s := by
  obtain ⟨mA, O, r, _, _, _⟩ := ins_get I.hok e
  obtain ⟨u, hu, ru⟩ := RelO.some_of (v := v) (o := mA f) (by rw [← l]; exact r f)
  exact get_map I.kIn O (c.get f) c.hd n hu (handed_of ru) (h u _ (I.tok _) ru)

theorem getmeth_ok {m : Str} {g : Addr} {pl : Sem Bool} {Q : Value × List Value → Shared → Prop} (I : Inv X pins σ H s) (e : H a = some (.ins C dx fs)) (c : Cls X.K C) (k : Meth X.K C m g) (l : fs.lookup m = none)
    (h : Q (.ref g, [.ref a]) s) : wpAny (model X.prog X.w) A (getMethod (.ref a) m pl) Q E s := by
  obtain ⟨mA, O, r, _, _, _⟩ := ins_get I.hok e
  have hn : mA m = none := RelO.none_of (by rw [← l]; exact r m)
  exact get_meth I.kIn O (c.get m) k.at_ k.fn hn h

theorem setattr_ok {y : V} {u : Value} {Q : Unit → Shared → Prop} (I : Inv X pins σ H s) (e : H a = some (.ins C dx fs)) (c : Cls X.K C) (n : NoAttr X.K C f) (hl : fs.length < 1000) (ry : RelV y u)
    (h : ∀ s', Inv X pins σ (upd H a (.ins C dx (putF f y fs))) s' → Q () s') : wpAny (model X.prog X.w) A (setAttr (.ref a) f u) Q E s := by
  obtain ⟨mA, O, r, wi, _, ho⟩ := ins_get I.hok e
  have hz : (fs.map (·.1)).length ≤ sizeLine := by rw [List.length_map, sizeLine_eq]; omega
  refine set_map I.kIn O c.sa c.po n.taker c.hd wi hz fun h' O' sb => h _ ?_
  have hd : ∃ o, h'.get? dx = some o := let ⟨o, _, _, e', _⟩ := O'.ns; ⟨o, e'⟩
  refine I.write (x := a) (e := dx) (by rw [e]; exact True.intro) (.inr ho) (fun b q hb z => (sb.2 b hb).trans z) hd ?_
  refine ⟨by rw [upd_ne O.ne]; exact ho, ?_, O.ne, O'.obj, _, O'.ns, fun g => ?_, fun g hg => ?_⟩
  · have := length_putF f y fs; omega
  · show RelO ((putF f y fs).lookup g) (if g = f then some u else mA g)
    rw [lookup_putF]
    by_cases q : g = f
    · rw [if_pos q, if_pos q]; exact ry
    · rw [if_neg q, if_neg q]; exact r g
  · by_cases q : g = f
    · rw [q]; exact (keys_putF f y fs).1
    · refine (keys_putF f y fs).2 g (wi g fun z => hg ?_)
      show (if g = f then some u else mA g) = none
      rw [if_neg q]; exact z

theorem Inv.made (I : Inv X pins σ H s) : Inv X pins σ (upd (upd H s.heap.objs.size (.own (s.heap.objs.size + 1))) (s.heap.objs.size + 1) (.ins C s.heap.objs.size []))
    { s with heap := (s.heap.push PySem.W.emptyDict).push (PySem.W.instObj C s.heap.objs.size) } := by
  have e1 : (s.heap.push PySem.W.emptyDict).get? s.heap.objs.size = some PySem.W.emptyDict := Heap.get?_push_size s.heap rfl
  have e2 : ((s.heap.push PySem.W.emptyDict).push (PySem.W.instObj C s.heap.objs.size)).get? (s.heap.objs.size + 1) = some (PySem.W.instObj C s.heap.objs.size) := by
    have := Heap.get?_push_size (s.heap.push PySem.W.emptyDict) (o := PySem.W.instObj C s.heap.objs.size) rfl
    rwa [Heap.size_push] at this
  have e3 : (s.heap.push PySem.W.emptyDict).Ns s.heap.objs.size (fun _ => none) := ⟨PySem.W.emptyDict, #[], _, e1, rfl, (fun e he => absurd he (by simp)), fun _ => rfl⟩
  have I1 := I.laid (a := s.heap.objs.size) (o := .own (s.heap.objs.size + 1)) (h' := s.heap.push PySem.W.emptyDict) (t' := s.toks) (fun b u q => Heap.get?_push_of_some _ q) (Nat.le_refl _) ⟨_, e1⟩
  refine I1.laid (a := s.heap.objs.size + 1) (o := .ins C s.heap.objs.size []) (t' := s.toks) (fun b u q => Heap.get?_push_of_some _ q) (Nat.le_of_eq (Heap.size_push _ _)) ?_
  have ne : s.heap.objs.size ≠ s.heap.objs.size + 1 := Nat.ne_of_lt (Nat.lt_succ_self _)
  refine ⟨by rw [upd_ne ne, upd_same], Nat.zero_le _, ne, e2, fun _ => none, (Heap.Ns1.of_empty e3).at fun o q => Heap.get?_push_of_some _ q, fun _ => True.intro, fun y hy => absurd rfl hy⟩

theorem attr_of {prog : Program} {w : World} {env : Env} {e : Expr} {f : Str} {pos : Pos} {s : Shared} {Q : Value → Shared → Prop} (hb : attributeBase e f env (eval e env) = eval e env)
    (h : wpAny (model prog w) A (eval e env) (fun o s₁ => wpAny (model prog w) A (getAttr o f true) Q E s₁) E s) : wpAny (model prog w) A (eval (.Attribute e f pos) env) Q E s :=
  Attribute_any_ h (by rw [arm_eval_Attribute, hb])
end

noncomputable def tFld (K : PySem.W.Frag) (ta : TE) (f : Str) : TE := fun σ H Q => ta σ H fun x H1 => ∃ a C dx fs v, x = .ref a ∧ H1 a = some (.ins C dx fs) ∧ Cls K C ∧ NoAttr K C f ∧ fs.lookup f = some v ∧ Q v H1
noncomputable def sFld (K : PySem.W.Frag) (ta tv : TE) (f : Str) : TS := fun D σ H => tv σ H fun y H1 => ta σ H1 fun x H2 => ∃ a C dx fs, x = .ref a ∧ H2 a = some (.ins C dx fs) ∧ Cls K C ∧ NoAttr K C f ∧ fs.length < 1000 ∧
  D.nx σ (upd H2 a (.ins C dx (putF f y fs)))
section
variable {X : Cx} {o e value : Expr} {f : Str} {pos pos' tpos : Pos} {ta tv : TE}
theorem pe_fld (he : PE X e ta) (hb : attributeBase e f X.env (eval e X.env) = eval e X.env) : PE X (.Attribute e f pos) (tFld X.K ta f) := by
  intro pins s σ H Q I h
  refine attr_of hb (thn (he pins s σ H _ I h) fun u s1 zz => ?_)
  obtain ⟨x, H1, I1, rx, a, C, dx, fs, v, ex, ea, c, n, l, q⟩ := zz
  subst ex
  obtain rfl : u = Value.ref a := rx
  exact getattr_ok I1 ea c n l fun u' s2 I2 ru => ⟨v, H1, I2, ru, q⟩
theorem ps_fld (ha : PE X o ta) (hv : PE X value tv) (hs : swapsWith value (some (.Attribute o f pos')) pos.line X.env = pure false) : PS X (.Assign [.Attribute o f pos'] value pos) (sFld X.K ta tv f) := by
  intro pins s σ H D I h
  refine plainObj_wpAny_Assign_Attribute (thn (hv pins s σ H _ I h) fun u s1 ⟨y, H1, I1, ry, q⟩ => thn (ha pins s1 σ H1 _ I1 q) fun ov s2 zz => ?_) hs
  obtain ⟨x, H2, I2, rx, a, C, dx, fs, ex, ea, c, n, l, q2⟩ := zz
  subst ex
  obtain rfl : ov = Value.ref a := rx
  exact setattr_ok I2 ea c n l ry fun s3 I3 => ⟨σ, _, I3, q2⟩
end

section
variable {X : Cx} {pins : List (Addr × Obj)} {σ : St} {H : Hp} {s : Shared} {A : Around} {E : Value → Shared → Prop} {Q : Value → Shared → Prop} {c : Value} {b : Bool}
inductive TyOf (K : PySem.W.Frag) (H : Hp) : V → Value → Prop where
  | non : TyOf K H .non (.type "NoneType")
  | bl (x : Bool) : TyOf K H (.bl x) (.type "bool")
  | int (i : Int) : TyOf K H (.int i) (.type "int")
  | str (x : Str) : TyOf K H (.str x) (.type "str")
  | flt (x : UInt64) : TyOf K H (.flt x) (.type "float")
  | lst {a : Addr} {xs : List V} (e : H a = some (.lst xs)) : TyOf K H (.ref a) (.type "list")
  | frz {a : Addr} {o : Obj} {xs : List V} (e : H a = some (.frz o (.lst xs))) : TyOf K H (.ref a) (.type "list")
  | tup {a : Addr} {xs : List V} (e : H a = some (.tup xs)) : TyOf K H (.ref a) (.type "tuple")
  | dK {a : Addr} {kvs : List (Key × V)} (e : H a = some (.dK kvs)) : TyOf K H (.ref a) (.type "dict")
  | dT {a : Addr} {kvs : List (List Key × V)} (e : H a = some (.dT kvs)) : TyOf K H (.ref a) (.type "dict")
  | ins {a C dx : Addr} {fs : List (Str × V)} (e : H a = some (.ins C dx fs)) (cl : Cls K C) (ha : PySem.W.findIn K (.ref C) "__class__" = some (some (.builtin "object.__class__")))
      (hn : PySem.W.specialIn K (.builtin "object.__class__") "__get__" = some (some (.builtin "getset_descriptor.__get__"))) (htk : PySem.W.takesIn K (.builtin "object.__class__") = some true)
      (hm : PySem.W.mroIn K C (.type "object") = some true) : TyOf K H (.ref a) (.ref C)
theorem isinst_ok {x : V} {u t : Value} (I : Inv X pins σ H s) (rx : RelV x u) (ty : TyOf X.K H x t) (e : PySem.W.kitOne X.K t c = some b) (h : ∀ tk, Q (.bool b) { s with toks := tk }) :
    wpAny (model X.prog X.w) A (call (.builtin "isinstance") [u, c]) Q E s := by
  cases ty with
  | non => cases (show u = Value.none from rx); exact PySem.W.kia_one PySem.W.kitx_none I.kIn True.intro e (fun z => nomatch z) h
  | bl y => cases (show u = Value.bool y from rx); exact PySem.W.kia_one PySem.W.kitx_bool I.kIn True.intro e (fun z => nomatch z) h
  | int i => obtain ⟨t, q⟩ := (show ∃ t, u = Value.int i t from rx); cases q; exact PySem.W.kia_one PySem.W.kitx_int I.kIn True.intro e (fun z => nomatch z) h
  | str y => obtain ⟨t, q⟩ := (show ∃ t, u = Value.str y t from rx); cases q; exact PySem.W.kia_one PySem.W.kitx_str I.kIn True.intro e (fun z => nomatch z) h
  | flt y => obtain ⟨t, q⟩ := (show ∃ t, u = Value.float y t from rx); cases q; exact PySem.W.kia_one PySem.W.kitx_float I.kIn True.intro e (fun z => nomatch z) h
  | @lst a xs ea =>
    cases (show u = Value.ref a from rx)
    obtain ⟨_, _, n, _, h1⟩ := (show ObjOk X.prog X.w H s.heap a (.lst xs) from I.hok a _ ea)
    exact PySem.W.kia_one PySem.W.kitx_list I.kIn ⟨_, h1, rfl⟩ e (fun z => nomatch z) h
  | @frz a ob xs ea =>
    cases (show u = Value.ref a from rx)
    obtain ⟨_, _, _, n, _, h1⟩ := (show ObjOk X.prog X.w H s.heap a (.frz ob (.lst xs)) from I.hok a _ ea)
    exact PySem.W.kia_one PySem.W.kitx_list I.kIn ⟨_, h1, rfl⟩ e (fun z => nomatch z) h
  | @tup a xs ea =>
    cases (show u = Value.ref a from rx)
    obtain ⟨_, _, _, p⟩ := (show ObjOk X.prog X.w H s.heap a (.tup xs) from I.hok a _ ea)
    obtain ⟨o, h1, h2, _⟩ := p
    exact PySem.W.kia_one PySem.W.kitx_tuple I.kIn ⟨o, h1, h2⟩ e (fun z => nomatch z) h
  | @dK a kvs ea =>
    cases (show u = Value.ref a from rx)
    obtain ⟨_, _, vs, _, p⟩ := (show ObjOk X.prog X.w H s.heap a (.dK kvs) from I.hok a _ ea)
    obtain ⟨o, es, ep, h1, h2, _⟩ := p
    exact PySem.W.kia_one PySem.W.kitx_dict I.kIn ⟨o, h1, h2.1⟩ e (fun z => nomatch z) h
  | @dT a kvs ea =>
    cases (show u = Value.ref a from rx)
    obtain ⟨_, _, xs, _, o, es, ep, h1, h2, _⟩ := (show ObjOk X.prog X.w H s.heap a (.dT kvs) from I.hok a _ ea)
    exact PySem.W.kia_one PySem.W.kitx_dict I.kIn ⟨o, h1, h2.1⟩ e (fun z => nomatch z) h
  | @ins a C dx fs ea cl ha hn htk hm =>
    cases (show u = Value.ref a from rx)
    obtain ⟨mA, O, _⟩ := ins_get I.hok ea
    obtain ⟨od, J, _⟩ := O.look
    exact PySem.W.kia_one (PySem.W.kitx_own (cl.get _) cl.hd ha hn htk hm) I.kIn J e (fun z => nomatch z) h
end
end L2

namespace L2
open PySem PySem.Spec PyProof.Rows

structure Room (k : Nat) (A : Around) : Prop where
  hd : A.handled = none
  dp : A.depth + 3 * k + 5 < recursionLimit
  un : A.units + 16 * k + 200 < cLine
theorem Room.mono {j k : Nat} {A : Around} (r : Room k A) (h : j ≤ k) : Room j A := ⟨r.hd, by have := r.dp; omega, by have := r.un; omega⟩
theorem Room.deeper {k : Nat} {A : Around} (r : Room (k + 1) A) (env : Env) : Room k (A.deeper env) :=
  ⟨r.hd, by have := r.dp; show A.depth + 1 + 3 * k + 5 < _; omega, by have := r.un; show A.units + 3 + 16 * k + 200 < _; omega⟩
theorem Room.in1 {k : Nat} {A : Around} (r : Room (k + 1) A) : Room k A.in1 :=
  ⟨r.hd, by have := r.dp; show A.depth + 3 * k + 5 < _; omega, by have := r.un; show A.units + 1 + 16 * k + 200 < _; omega⟩
theorem make_depth {A : Around} {C : Addr} {us : List Value} {kw : List (Str × Value)} : (A.under (.builtin "type.__call__" ⟨.ref C :: us, kw⟩)).depth = A.depth + 1 := by
  first | rfl | simp [Around.under, Code.weight, Code.isCreation, Code.isGuard, Code.isCaller, Code.frames, Code.isFrame, guardIds]
theorem make_units {A : Around} {C : Addr} {us : List Value} {kw : List (Str × Value)} : (A.under (.builtin "type.__call__" ⟨.ref C :: us, kw⟩)).units = A.units + 1 := by
  first | rfl | simp [Around.under, Code.cUnits, Code.frames, Code.isFrame]
theorem Room.make {k : Nat} {A : Around} (r : Room (k + 1) A) (C : Addr) (us : List Value) (kw : List (Str × Value)) : Room k (A.under (.builtin "type.__call__" ⟨.ref C :: us, kw⟩)) :=
  ⟨r.hd, by have := r.dp; rw [make_depth]; omega, by have := r.un; rw [make_units]; omega⟩
theorem Room.depth {k : Nat} {A : Around} (r : Room k A) : A.depth < recursionLimit := by have := r.dp; omega
theorem Room.units {k : Nat} {A : Around} (r : Room k A) : A.units + 64 < cLine := by have := r.un; omega
theorem Room.units0 {k : Nat} {A : Around} (r : Room k A) : A.units < cLine := by have := r.un; omega

noncomputable def tNil : TA := fun _ H Q => Q [] H
noncomputable def tCons (ta : TE) (tr : TA) : TA := fun σ H Q => ta σ H fun x H1 => tr σ H1 fun xs H2 => Q (x :: xs) H2
section
variable {X : Cx} {e : Expr} {es : List Expr} {te : TE} {t : TA} {pos : Pos}
theorem pa_nil : PA X [] tNil := fun _ _ _ _ H Q I h => Calls.spliced_nil ⟨[], H, I, .nil, h⟩
theorem pa_cons (ha : PE X e te) (hr : PA X es t) (hs : starEach (e :: es) X.env = (false, eval e X.env) :: starEach es X.env := by rfl) : PA X (e :: es) (tCons te t) := by
  intro pos pins s σ H Q I h
  rw [hs]
  show wpAny _ _ (spliced ((false, eval e X.env) :: backTo pos (starEach es X.env))) _ _ s
  refine Calls.spliced_cons (thn (ha pins s σ H _ I h) fun u s1 ⟨x, H1, I1, r1, q1⟩ => ?_)
  exact thn (hr pos pins s1 σ H1 _ I1 q1) fun us s2 ⟨xs, H2, I2, r2, q2⟩ => ⟨x :: xs, H2, I2, .cons r1 r2, q2⟩

noncomputable def tTup (t : TA) : TE := fun σ H Q => t σ H fun xs H1 => xs.length ≤ sizeLine ∧ ∀ p, H1 p = none → Q (.ref p) (upd H1 p (.tup xs))
noncomputable def tLst (t : TA) : TE := fun σ H Q => t σ H fun xs H1 => xs.length ≤ sizeLine ∧ ∀ p, H1 p = none → Q (.ref p) (upd H1 p (.lst xs))
theorem pe_tup {x1} (h : PA X es t) : PE X (.Tuple es x1 pos) (tTup t) := by
  intro pins s σ H Q I hq
  refine wpAny_Tuple_spliced (thn (h pos pins s σ H _ I hq) fun us s1 ⟨xs, H1, I1, r, z, q⟩ => ⟨by rw [← r.length]; exact z, ?_⟩)
  have hf : H1 s1.heap.objs.size = none := I1.hok.fresh (Nat.le_refl _)
  refine ⟨.ref s1.heap.objs.size, upd H1 s1.heap.objs.size (.tup xs), I1.laid (t' := s1.toks) (fun b u e => Heap.get?_push_of_some _ e) (Nat.le_refl _) ?_, rfl, q _ hf⟩
  exact ⟨z, us, r, ⟨_, Heap.get?_push_size _ rfl, rfl, _, rfl⟩⟩
theorem pe_lst (h : PA X es t) : PE X (.List es pos) (tLst t) := by
  intro pins s σ H Q I hq
  refine wpAny_List_spliced (thn (h pos pins s σ H _ I hq) fun us s1 ⟨xs, H1, I1, r, z, q⟩ => ⟨by rw [← r.length]; exact z, ?_⟩)
  have hf : H1 s1.heap.objs.size = none := I1.hok.fresh (Nat.le_refl _)
  refine ⟨.ref s1.heap.objs.size, upd H1 s1.heap.objs.size (.lst xs), I1.laid (t' := s1.toks) (fun b u e => Heap.get?_push_of_some _ e) (Nat.le_refl _) ?_, rfl, q _ hf⟩
  exact ⟨z, us, 0, r, Heap.get?_push_size _ rfl⟩
end

noncomputable abbrev Sp := List V → Hp → VK → XK → Prop
noncomputable abbrev CXT := List Env → Hp → Shared → XK → Value → Shared → Prop

structure Env0 (P : Program) (w : World) (K : PySem.W.Frag) (mg : Str → Option Value) (base : Heap) (A : Around) (outer : List Env) (s : Shared) (H : Hp) : Prop where
  frames : A.frames = some outer
  mod : Mod K mg base
  bs : ∀ b o, base.get? b = some o → s.heap.get? b = some o ∧ H b = none
  bsz : base.objs.size ≤ s.heap.objs.size
  funs : s.heap.FunFrames base outer
  frf : ∀ b ∈ frs outer, H b = none
  hok : HOk P w H s.heap
  bare : AllBare s.gens
noncomputable def CE (outer : List Env) (P : Program) (w : World) (H : Hp) (s : Shared) (Q : VK) (u : Value) (s' : Shared) : Prop :=
  ∃ v H', s'.os = s.os ∧ AllBare s'.gens ∧ Un (frs outer) [] H H' s.heap s'.heap ∧ HOk P w H' s'.heap ∧ RelV v u ∧ Q v H'
noncomputable def CR (CX : CXT) (outer : List Env) (P : Program) (w : World) (H : Hp) (s : Shared) (Q : VK) (E : XK) (r : Result) (s' : Shared) : Prop :=
  match r with
  | .ok (.ret u) => CE outer P w H s Q u s'
  | .ok _ => False
  | .error e => CX outer H s E e s'
structure FnOk (P : Program) (w : World) (K : PySem.W.Frag) (mg : Str → Option Value) (base : Heap) (CX : CXT) (k : Nat) (f : Addr) (fd : FuncData) (ps : List Str) (sp : Sp) : Prop where
  len : ∀ vs H Q E, sp vs H Q E → vs.length = ps.length
  run : ∀ (A : Around) (outer : List Env) (s : Shared) (H : Hp) (args : Args) (us : List Value) (vs : List V) (Q : VK) (E : XK), Room k A → Env0 P w K mg base A outer s H → BindsTo s fd args (ps.zip us) → Vals vs us → sp vs H Q E →
    codeAny (model P w) A (.call (.ref f) args) (CR CX outer P w H s Q E) s
theorem FnOk.mono {P : Program} {w : World} {K : PySem.W.Frag} {mg : Str → Option Value} {base : Heap} {CX : CXT} {j k : Nat} {f : Addr} {fd : FuncData} {ps : List Str} {sp : Sp} (F : FnOk P w K mg base CX j f fd ps sp) (h : j ≤ k) :
    FnOk P w K mg base CX k f fd ps sp := ⟨F.len, fun A outer s H args us vs Q E hr => F.run A outer s H args us vs Q E (hr.mono h)⟩
theorem Env0.make {P : Program} {w : World} {K : PySem.W.Frag} {mg : Str → Option Value} {base : Heap} {A : Around} {outer : List Env} {s : Shared} {H : Hp} (e : Env0 P w K mg base A outer s H) (C : Addr) (us : List Value) (kw : List (Str × Value)) :
    Env0 P w K mg base (A.under (.builtin "type.__call__" ⟨.ref C :: us, kw⟩)) outer s H := ⟨by first | exact e.frames | (simpa [Around.under, Code.envs, Code.isFrame, pushEnvs] using e.frames), e.mod, e.bs, e.bsz, e.funs, e.frf, e.hok, e.bare⟩
theorem Env0.in1 {P : Program} {w : World} {K : PySem.W.Frag} {mg : Str → Option Value} {base : Heap} {A : Around} {outer : List Env} {s : Shared} {H : Hp} (e : Env0 P w K mg base A outer s H) :
    Env0 P w K mg base A.in1 outer s H := ⟨e.frames, e.mod, e.bs, e.bsz, e.funs, e.frf, e.hok, e.bare⟩

section
variable {X : Cx} {pins : List (Addr × Obj)} {σ : St} {H : Hp} {s s' : Shared}
theorem Inv.env0 (I : Inv X pins σ H s) : Env0 X.prog X.w X.K X.mg X.base X.A X.stack s H :=
  ⟨I.ok.frames, I.ok.mod, I.bs, Nat.le_trans I.ok.bsz I.sz, I.stack, I.stkFree, I.hok, I.bare⟩
theorem Inv.after {Q : VK} {u : Value} (I : Inv X pins σ H s) (h : CE X.stack X.prog X.w H s Q u s') : EP X pins σ Q u s' := by
  obtain ⟨v, H', os, bare, un, hok, r, q⟩ := h
  obtain ⟨hh, g, d, t, os'⟩ := s'
  obtain rfl : os' = s.os := os
  exact ⟨v, H', I.call (h' := hh) (g' := g) (d' := d) (t' := t) (ch := []) un hok bare (fun b z => absurd z (by simp)), r, q⟩
end

noncomputable def tCall (sp : Sp) (dvs : List V) (E : XK) (t : TA) : TE := fun σ H Q => t σ H fun vs H1 => sp (vs ++ dvs) H1 Q E
noncomputable def tMeth (C : Addr) (m : Str) (sp : Sp) (dvs : List V) (E : XK) (ta : TE) (t : TA) : TE := fun σ H Q => ta σ H fun x H1 => ∃ a dx fs, x = .ref a ∧ H1 a = some (.ins C dx fs) ∧ fs.lookup m = none ∧
  t σ H1 fun vs H2 => sp (x :: (vs ++ dvs)) H2 Q E
noncomputable def tMake (C : Addr) (sp : Sp) (dvs : List V) (E : XK) (t : TA) : TE := fun σ H Q => t σ H fun vs H1 => ∀ x dx, H1 x = none → H1 dx = none → dx ≠ x →
  sp (.ref x :: (vs ++ dvs)) (upd (upd H1 dx (.own x)) x (.ins C dx [])) (fun v H2 => v = .non ∧ Q (.ref x) H2) E

noncomputable def Binds (K : PySem.W.Frag) (fd : FuncData) (ps : List Str) (ds : List Value) : Prop :=
  ∀ (s : Shared) (us : List Value), K.In s.heap → (us ++ ds).length = ps.length → BindsTo s fd ⟨us, []⟩ (ps.zip (us ++ ds))
theorem Binds.all {K : PySem.W.Frag} {fd : FuncData} {ps : List Str} (h : ∀ us : List Value, us.length = ps.length → bindArgs fd ⟨us, []⟩ = pure (ps.zip us)) : Binds K fd ps [] := fun s us _ hl => by
  rw [List.append_nil] at hl ⊢
  exact .of_eq (h us hl)

noncomputable def Passes (CX : CXT) (X : Cx) (E : XK) : Prop := ∀ (pins : List (Addr × Obj)) (σ : St) (H : Hp) (s : Shared) (e : Value) (s' : Shared), Inv X pins σ H s → CX X.stack H s E e s' → X.xe e s'

section
variable {X : Cx} {CX : CXT} {k : Nat} {f C : Addr} {fd : FuncData} {ps : List Str} {sp : Sp} {dvs : List V} {ds : List Value} {E : XK} {x m : Str} {p pos apos : Pos} {e o : Expr} {es : List Expr} {ta : TE} {t : TA}

theorem run_fn {pins : List (Addr × Obj)} {σ : St} {H : Hp} {s : Shared} {Q : VK} {us : List Value} {vs : List V} (F : FnOk X.prog X.w X.K X.mg X.base CX k f fd ps sp) (hr : Room k X.A) (hb : Binds X.K fd ps ds) (hd : Vals dvs ds) (hx : Passes CX X E)
    (I : Inv X pins σ H s) (r : Vals vs us) (h : sp (vs ++ dvs) H Q E) : wpAny (model X.prog X.w) X.A (call (.ref f) us) (EP X pins σ Q) X.xe s := by
  have r2 : Vals (vs ++ dvs) (us ++ ds) := r.append hd
  have hl : (us ++ ds).length = ps.length := by rw [← r2.length]; exact F.len _ _ _ _ h
  refine wpAny_call (codeAny_mono (F.run X.A X.stack s H ⟨us, []⟩ (us ++ ds) (vs ++ dvs) Q E hr I.env0 (hb s us I.kIn hl) r2 h) fun r s' hq => ?_)
  cases r with
  | error e => exact hx pins σ H s e s' I hq
  | ok fl =>
    cases fl with
    | ret u => exact I.after hq
    | next => exact False.elim hq
    | brk => exact False.elim hq
    | cont => exact False.elim hq

theorem pe_call (F : FnOk X.prog X.w X.K X.mg X.base CX k f fd ps sp) (hr : Room k X.A) (hg : Gl X x) (hm : X.mg x = some (.ref f)) (hk : PySem.W.keepIn X.K (.ref f) = true) (hb : Binds X.K fd ps ds) (hd : Vals dvs ds) (hx : Passes CX X E)
    (ha : PA X (e :: es) t) (hdb : (x == ("__debug__" : Str)) = false := by decide) (he : starEach (e :: es) X.env = (false, eval e X.env) :: starEach es X.env := by rfl) (hpl : (backTo pos (starEach es X.env)).any (·.1) = false := by rfl) :
    PE X (.Call (.Name x p) (e :: es) [] pos) (tCall sp dvs E t) := by
  intro pins s σ H Q I h
  refine wpAny_Call_Name_kw (ld_glob I hg hm ?_ hdb)
  refine PySem.W.callWith_K (h₀ := X.base) I.ok.mod.kin hk (thn (ha pos pins s σ H _ I h) fun us s1 ⟨vs, H1, I1, r, q⟩ => ⟨I1.kIn, ?_⟩) he hpl
  exact run_fn F hr hb hd hx I1 r q
theorem pe_call0 (F : FnOk X.prog X.w X.K X.mg X.base CX k f fd ps sp) (hr : Room k X.A) (hg : Gl X x) (hm : X.mg x = some (.ref f)) (hk : PySem.W.keepIn X.K (.ref f) = true) (hb : Binds X.K fd ps ds) (hd : Vals dvs ds) (hx : Passes CX X E)
    (hdb : (x == ("__debug__" : Str)) = false := by decide) : PE X (.Call (.Name x p) [] [] pos) (tCall sp dvs E tNil) := by
  intro pins s σ H Q I h
  refine wpAny_Call_Name_kw (ld_glob I hg hm ?_ hdb)
  exact PySem.W.callWith_K0 I.kIn hk (run_fn (us := []) F hr hb hd hx I .nil h)

theorem pe_meth0 {pl : Sem Bool} (he : PE X o ta) (c : Cls X.K C) (hm : Meth X.K C m f) (F : FnOk X.prog X.w X.K X.mg X.base CX k f fd ps sp) (hr : Room k X.A) (hb : Binds X.K fd ps ds) (hd : Vals dvs ds) (hx : Passes CX X E)
    (ht : eval (.Call (.Attribute o m apos) [] [] pos) X.env = (do
      let ov ← eval o X.env
      standAt apos.atName
      let (f, first) ← holding [ov] (getMethod ov m pl)
      callWith pos f first (backTo pos (starEach [] X.env)) (backToKw pos (keywordEach [] X.env))) := by rfl) :
    PE X (.Call (.Attribute o m apos) [] [] pos) (tMeth C m sp dvs E ta tNil) := by
  intro pins s σ H Q I h
  refine PySem.W.methodCall_KW (pl := pl) (thn (he pins s σ H _ I h) fun u s1 ⟨x, H1, I1, rx, a, dx, fs, ex, ea, l, q⟩ => ?_) ht
  subst ex
  obtain rfl : u = Value.ref a := rx
  refine getmeth_ok I1 ea c hm l ?_
  exact PySem.W.callWith_K0 (first := [.ref a]) I1.kIn hm.kp (run_fn (us := [.ref a]) (vs := [.ref a]) F hr hb hd hx I1 (.cons rfl .nil) q)

structure Mk (K : PySem.W.Frag) (C f : Addr) : Prop where
  makes : PySem.W.makesIn K C = true
  init : PySem.W.findIn K (.ref C) "__init__" = some (some (.ref f))
  fn : PySem.W.isFn K (.ref f) = true
  kp : PySem.W.keepIn K (.ref C) = true

theorem run_make {pins : List (Addr × Obj)} {σ : St} {H : Hp} {s : Shared} {Q : VK} {us : List Value} {vs : List V} (M : Mk X.K C f) (F : FnOk X.prog X.w X.K X.mg X.base CX k f fd ps sp) (hr : Room (k + 1) X.A) (hb : Binds X.K fd ps ds) (hd : Vals dvs ds)
    (hx : Passes CX X E) (I : Inv X pins σ H s) (r : Vals vs us)
    (h : ∀ x dx, H x = none → H dx = none → dx ≠ x → sp (.ref x :: (vs ++ dvs)) (upd (upd H dx (.own x)) x (.ins C dx [])) (fun v H2 => v = .non ∧ Q (.ref x) H2) E) :
    wpAny (model X.prog X.w) X.A (call (.ref C) us) (EP X pins σ Q) X.xe s := by
  have hq := h (s.heap.objs.size + 1) s.heap.objs.size (I.hok.fresh (Nat.le_succ _)) (I.hok.fresh (Nat.le_refl _)) (Nat.ne_of_lt (Nat.lt_succ_self _))
  have I2 := Inv.made (C := C) I
  have r2 : Vals (V.ref (s.heap.objs.size + 1) :: (vs ++ dvs)) (Value.ref (s.heap.objs.size + 1) :: (us ++ ds)) := .cons rfl (r.append hd)
  have hl : (Value.ref (s.heap.objs.size + 1) :: us ++ ds).length = ps.length := by
    have e := r2.length
    rw [F.len _ _ _ _ hq] at e
    exact e.symm
  refine wpAny_call (make_map (f := f) I.kIn M.makes M.init (beq_iff_eq.mp M.fn) (codeAny_mono (F.run _ X.stack _ _ ⟨Value.ref (s.heap.objs.size + 1) :: us, []⟩ (Value.ref (s.heap.objs.size + 1) :: (us ++ ds)) _ _ E (hr.make C us [])
    (I2.env0.make C us []) (hb _ (Value.ref (s.heap.objs.size + 1) :: us) I2.kIn hl) r2 hq) fun r s' hq' => ?_))
  cases r with
  | error e => exact hx pins σ _ _ e s' I2 hq'
  | ok fl =>
    cases fl with
    | ret u =>
      obtain ⟨v, H', I3, rv, ev, q3⟩ := I2.after hq'
      subst ev
      exact ⟨rv, ⟨V.ref (s.heap.objs.size + 1), H', I3, rfl, q3⟩⟩
    | next => exact False.elim hq'
    | brk => exact False.elim hq'
    | cont => exact False.elim hq'
theorem pe_make (M : Mk X.K C f) (F : FnOk X.prog X.w X.K X.mg X.base CX k f fd ps sp) (hr : Room (k + 1) X.A) (hg : Gl X x) (hm : X.mg x = some (.ref C)) (hb : Binds X.K fd ps ds) (hd : Vals dvs ds) (hx : Passes CX X E)
    (ha : PA X (e :: es) t) (hdb : (x == ("__debug__" : Str)) = false := by decide) (he : starEach (e :: es) X.env = (false, eval e X.env) :: starEach es X.env := by rfl) (hpl : (backTo pos (starEach es X.env)).any (·.1) = false := by rfl) :
    PE X (.Call (.Name x p) (e :: es) [] pos) (tMake C sp dvs E t) := by
  intro pins s σ H Q I h
  refine wpAny_Call_Name_kw (ld_glob I hg hm ?_ hdb)
  refine PySem.W.callWith_K (h₀ := X.base) I.ok.mod.kin M.kp (thn (ha pos pins s σ H _ I h) fun us s1 ⟨vs, H1, I1, r, q⟩ => ⟨I1.kIn, ?_⟩) he hpl
  exact run_make M F hr hb hd hx I1 r q
end

section
variable {X : Cx} {CX : CXT} {k : Nat} {f C : Addr} {fd : FuncData} {ps ks : List Str} {sp : Sp} {E : XK} {x m : Str} {p pos apos kpos : Pos} {e o : Expr} {es : List Expr} {kws : List Keyword} {te ta : TE} {t tk : TA} {nm : Option Str}
variable {g : List Value → List Value → List Value} {gV : List V → List V → List V}
end

structure FnScope (N P : List Str) (sc : Scope) : Prop where
  kind : sc.kind = .function
  co : sc.isCoroutine = false
  gen : sc.isGenerator = false
  nd : N.Nodup
  pre : N.take P.length = P
  par : ∀ x ∈ P, sc.names.lookup x = some .local ∨ sc.names.lookup x = some .cell
  nofree : ∀ y ∈ sc.names, y.2 ≠ .free

theorem bindL_out {kindOf : Str → Option NameKind} {x : Str} : ∀ {binds : List (Str × Value)} {m : Str → Option Value}, (∀ v, (x, v) ∉ binds) → bindL kindOf binds m x = m x
  | [], _, _ => rfl
  | (n, v) :: r, m, h => by
    unfold bindL
    rw [bindL_out fun w hw => h w (List.mem_cons_of_mem _ hw)]
    split
    · have : x ≠ n := by rintro rfl; exact h v List.mem_cons_self
      simp [this]
    · rfl
theorem bindC_out {kindOf : Str → Option NameKind} {x : Str} : ∀ {binds : List (Str × Value)} {m : Str → Option Value}, (∀ v, (x, v) ∉ binds) → bindC kindOf binds m x = m x
  | [], _, _ => rfl
  | (n, v) :: r, m, h => by
    unfold bindC
    rw [bindC_out fun w hw => h w (List.mem_cons_of_mem _ hw)]
    split
    · rfl
    · have : x ≠ n := by rintro rfl; exact h v List.mem_cons_self
      simp [this]
theorem bindL_get {kindOf : Str → Option NameKind} {x : Str} {v : Value} : ∀ {P : List Str} {vs : List Value} {i : Nat} {m : Str → Option Value}, P.Nodup → P[i]? = some x → vs[i]? = some v → kindOf x = some .local →
    bindL kindOf (P.zip vs) m x = some v
  | [], _, _, _, _, h, _, _ => by simp at h
  | _ :: _, [], _, _, _, _, h, _ => by simp at h
  | p :: P, w :: vs, 0, m, nd, h1, h2, hk => by
    simp at h1 h2; subst h1; subst h2
    show bindL kindOf ((p, w) :: P.zip vs) m p = _
    unfold bindL
    rw [bindL_out fun v hv => (List.nodup_cons.mp nd).1 (List.of_mem_zip hv).1, if_pos hk]
    simp
  | p :: P, w :: vs, i + 1, m, nd, h1, h2, hk => by
    show bindL kindOf ((p, w) :: P.zip vs) m x = _
    unfold bindL
    exact bindL_get (i := i) (List.nodup_cons.mp nd).2 (by simpa using h1) (by simpa using h2) hk
theorem bindC_get {kindOf : Str → Option NameKind} {x : Str} {v : Value} : ∀ {P : List Str} {vs : List Value} {i : Nat} {m : Str → Option Value}, P.Nodup → P[i]? = some x → vs[i]? = some v → kindOf x ≠ some .local →
    bindC kindOf (P.zip vs) m x = some v
  | [], _, _, _, _, h, _, _ => by simp at h
  | _ :: _, [], _, _, _, _, h, _ => by simp at h
  | p :: P, w :: vs, 0, m, nd, h1, h2, hk => by
    simp at h1 h2; subst h1; subst h2
    show bindC kindOf ((p, w) :: P.zip vs) m p = _
    unfold bindC
    rw [bindC_out fun v hv => (List.nodup_cons.mp nd).1 (List.of_mem_zip hv).1, if_neg hk]
    simp
  | p :: P, w :: vs, i + 1, m, nd, h1, h2, hk => by
    show bindC kindOf ((p, w) :: P.zip vs) m x = _
    unfold bindC
    exact bindC_get (i := i) (List.nodup_cons.mp nd).2 (by simpa using h1) (by simpa using h2) hk

noncomputable def start (N : List Str) (vs : List V) : St := vs.map some ++ List.replicate (N.length - vs.length) none

noncomputable def cxOf (CX : CXT) (P : Program) (w : World) (K : PySem.W.Frag) (mg : Str → Option Value) (base : Heap) (N : List Str) (qual : Str) (scope : Scope) (f : Addr) (cd : Value) (A : Around) (outer : List Env) (s : Shared) (H : Hp) (E : XK) : Cx where
  prog := P
  w := w
  K := K
  mg := mg
  base := base
  A := A.deeper (envOfC qual scope s.heap.objs.size f cd)
  N := N
  s₀ := s
  H₀ := H
  env := envOfC qual scope s.heap.objs.size f cd
  outer := outer
  stack := envOfC qual scope s.heap.objs.size f cd :: outer
  ex := []
  calm := true
  fn := fun _ => true
  pn := []
  xe := fun e s' => wpAny (model P w) (A.deeper (envOfC qual scope s.heap.objs.size f cd)) (leaving (envOfC qual scope s.heap.objs.size f cd) e) (fun _ s'' => CX outer H s E e s'') (fun e' s'' => CX outer H s E e' s'') s'

theorem cell_has {sc : Scope} {n : Nat} {x : Str} (h : sc.names.lookup x = some .cell) : ∃ c, (cellsFrom n sc.names []).lookup x = some c := by
  have q := PySem.W.cellsFrom_some sc.names n [] (.inl h)
  exact Option.isSome_iff_exists.mp q

theorem inv_start {CX : CXT} {P : Program} {w : World} {K : PySem.W.Frag} {mg : Str → Option Value} {base : Heap} {N ps : List Str} {qual : Str} {scope : Scope} {f : Addr} {cd : Value} {A : Around} {outer : List Env} {s s1 : Shared} {H : Hp} {E : XK} {us : List Value} {vs : List V}
    (S : FnScope N ps scope) (hd : A.handled = none) (e0 : Env0 P w K mg base A outer s H) (hl : vs.length = ps.length) (r : Vals vs us)
    (x : InCallC s s.heap.objs.size (bindL (envOfC qual scope s.heap.objs.size f cd).kindOf (ps.zip us) fun _ => none) (cellsFrom (s.heap.objs.size + 1) scope.names []) (bindC (envOfC qual scope s.heap.objs.size f cd).kindOf (ps.zip us) fun _ => none) s1) :
    Inv (cxOf CX P w K mg base N qual scope f cd A outer s H E) [] (start N vs) H s1 := by
  have hpl : ps.length ≤ N.length := by have := congrArg List.length S.pre; rw [List.length_take] at this; omega
  obtain ⟨h1, tk, rfl, hk⟩ := x.done
  have noA : ∀ b : Addr, b ∉ (cxOf CX P w K mg base N qual scope f cd A outer s H E).ex := fun b z => absurd (show b ∈ ([] : List Addr) from z) (by simp)
  refine ⟨⟨e0.mod, S.kind, rfl, rfl, Nat.le_refl _, fun y z c h1 h2 => ?_, fun y hy => ?_, fun y c _ h => ?_, fun _ => hd, Around.frames_deeper e0.frames, .inr ⟨rfl, rfl⟩, fun b z => absurd z (noA b), e0.bs, e0.bsz, fun b _ _ => noA b, fun b z => absurd z (noA b), e0.funs, e0.frf⟩,
    rfl, e0.bare, Un.kept hk, ⟨_, x.toInCall.ns, fun i y v h1 h2 h3 => ?_⟩, fun y c h => ⟨_, x.cell y c h⟩, e0.hok.fresh (Nat.le_refl _), fun y c h => ?_, fun p hp => absurd (show p ∈ ([] : List (Addr × Obj)) from hp) (by simp), e0.hok.kept hk, ?_⟩
  · exact name_of_addr x.apart (PySem.mem_of_lookup h1) (PySem.mem_of_lookup h2)
  · have hy : scope.names.lookup y = some .cell ∨ scope.names.lookup y = some .free := hy
    rcases hy with hy | hy
    · exact cell_has hy
    · exact absurd rfl (S.nofree _ (PySem.mem_of_lookup hy))
  · exact Nat.le_of_lt (x.above y c (PySem.mem_of_lookup h))
  · have hi : i < vs.length := by
      unfold start at h2
      by_cases hi : i < vs.length
      · exact hi
      · rw [List.getElem?_append_right (by simpa using hi)] at h2
        rw [List.getElem?_replicate] at h2
        split at h2 <;> cases h2
    have ha : vs[i]? = some v := by
      unfold start at h2
      rw [List.getElem?_append_left (by simpa using hi), List.getElem?_map] at h2
      cases e : vs[i]? with
      | none => rw [e] at h2; cases h2
      | some a => rw [e] at h2; cases h2; rfl
    obtain ⟨u, hu, rv⟩ := r.get ha
    have hp : ps[i]? = some y := by
      rw [← S.pre, List.getElem?_take_of_lt (by omega)]; exact h1
    have ndP : ps.Nodup := by rw [← S.pre]; exact S.nd.sublist (List.take_sublist _ _)
    refine ⟨u, rv, ?_⟩
    rcases S.par y (List.mem_of_getElem? hp) with k | k
    · exact .inl ⟨k, bindL_get ndP hp hu k⟩
    · obtain ⟨c, e⟩ := cell_has (n := s.heap.objs.size + 1) k
      refine .inr ⟨.inl k, c, e, ?_⟩
      have q := x.cell y c e
      rw [bindC_get ndP hp hu (by show scope.names.lookup y ≠ _; rw [k]; decide)] at q
      exact q
  · exact e0.hok.fresh (Nat.le_of_lt (x.above y c (PySem.mem_of_lookup h)))
  · unfold start
    show _ = N.length
    rw [List.length_append, List.length_map, List.length_replicate]
    omega

theorem fn_of {CX : CXT} {P : Program} {w : World} {K : PySem.W.Frag} {mg : Str → Option Value} {base : Heap} {k : Nat} {f : Addr} {name qual : Str} {params : Arguments} {body : List Stmt} {scope : Scope} {dV kV doc pm cdv ct oc : Value} {an od : Option Addr}
    {osl : Array (Option Value)} {N ps : List Str} {sp : Sp} (lk : K.lookup f = some ⟨oc, od, .func (PySem.W.fnOf name qual params body scope dV kV doc pm an cdv ct), osl⟩) (hcd : PySem.W.codeIn K cdv qual = true) (S : FnScope N ps scope)
    (len : ∀ vs H Q E, sp vs H Q E → vs.length = ps.length)
    (hbody : ∀ (A : Around) (outer : List Env) (s : Shared) (H : Hp) (vs : List V) (Q : VK) (E : XK), Room k (A.deeper (envOfC qual scope s.heap.objs.size f cdv)) → sp vs H Q E →
      ∃ t, PSs (cxOf CX P w K mg base N qual scope f cdv A outer s H E) body t ∧ t { nx := fun _ H' => Q .non H', rt := Q } (start N vs) H) :
    FnOk P w K mg base CX (k + 1) f (PySem.W.fnOf name qual params body scope dV kV doc pm an cdv ct) ps sp := by
  refine ⟨len, fun A outer s H args us vs Q E hr e0 hb r hsp => ?_⟩
  have hl := len _ _ _ _ hsp
  have KX : K.In s.heap := e0.mod.kin.keeps fun b o e => (e0.bs b o e).1
  have lim : s.heap.NoLimit := e0.mod.nolimit.keeps fun b o e => (e0.bs b o e).1
  have hkind : ∀ y ∈ ps.zip us, scope.names.lookup y.1 = some .local ∨ (scope.names.lookup y.1 = some .cell ∧ ((cellsFrom (s.heap.objs.size + 1) scope.names []).lookup y.1).isSome = true) := fun ⟨n, v⟩ hy => by
    rcases S.par n (List.of_mem_zip hy).1 with q | q
    · exact .inl q
    · exact .inr ⟨q, PySem.W.cellsFrom_some _ _ _ (.inl q)⟩
  refine codeAny_call_function hr.depth (KX _ _ lk) rfl S.co S.gen rfl (PySem.W.codeRec_of KX hcd) (hb _ _ _ _ ?_)
  refine wpAny_newFunctionEnv_cells S.kind hkind fun env he s1 x => ?_
  subst he
  refine ⟨lim.keeps x.toInCall.keep, codeAny_func ?_⟩
  obtain ⟨t, ht, hq⟩ := hbody A outer s H vs Q E (hr.deeper _) hsp
  have I : Inv (cxOf CX P w K mg base N qual scope f cdv A outer s H E) [] (start N vs) H s1 := inv_start S hr.hd e0 hl r x
  refine wpAny_mono (ht [] s1 (start N vs) H _ I hq) (fun fl s' hs => ?_) fun e s' hs => hs
  have fin : ∀ {σ' : St} {H' : Hp} {v : V} {u : Value}, Inv (cxOf CX P w K mg base N qual scope f cdv A outer s H E) [] σ' H' s' → RelV v u → Q v H' → CE outer P w H s Q u s' :=
    fun {σ' H' v u} J rv q => ⟨v, H', J.os, J.bare, J.base, J.hok, rv, q⟩
  cases fl with
  | ret u =>
    obtain ⟨v, σ', H', J, rv, q⟩ := hs
    exact fin J rv q
  | next =>
    obtain ⟨σ', H', J, q⟩ := hs
    exact fin (v := V.non) (u := Value.none) J rfl q
  | brk =>
    obtain ⟨_, _, _, q⟩ := hs
    exact False.elim q
  | cont =>
    obtain ⟨_, _, _, q⟩ := hs
    exact False.elim q
end L2

namespace L2
open PySem PySem.Spec PyProof.Rows
section
variable {X : Cx} {x : Str} {p pos : Pos} {e : Expr} {es : List Expr} {t : TA} {id T : String} {r : List V → Hp → VK → Prop}

noncomputable def tCB (r : List V → Hp → VK → Prop) (t : TA) : TE := fun σ H Q => t σ H fun vs H1 => r vs H1 Q
theorem pe_callB (hc : CallR X (.builtin id) r) (hg : Gl X x) (hm : X.mg x = none) (hv : bootBuiltins x = some (.builtin id)) (ha : PA X (e :: es) t) (hn : x ≠ "__name__" := by decide) (hdb : (x == ("__debug__" : Str)) = false := by decide)
    (he : starEach (e :: es) X.env = (false, eval e X.env) :: starEach es X.env := by rfl) (hpl : (backTo pos (starEach es X.env)).any (·.1) = false := by rfl) : PE X (.Call (.Name x p) (e :: es) [] pos) (tCB r t) := by
  intro pins s σ H Q I h
  refine wpAny_Call_Name_kw (ld_blt I hg hm hv ?_ hn hdb)
  exact PyProof.Rows.callWith_builtin1 (thn (ha pos pins s σ H _ I h) fun us s1 ⟨vs, H1, I1, r1, q1⟩ => hc pins s1 σ H1 vs us Q I1 r1 q1) he hpl
theorem pe_callTy (hc : CallR X (.type T) r) (hg : Gl X x) (hm : X.mg x = none) (hv : bootBuiltins x = some (.type T)) (ha : PA X (e :: es) t) (hn : x ≠ "__name__" := by decide) (hdb : (x == ("__debug__" : Str)) = false := by decide)
    (he : starEach (e :: es) X.env = (false, eval e X.env) :: starEach es X.env := by rfl) (hpl : (backTo pos (starEach es X.env)).any (·.1) = false := by rfl) : PE X (.Call (.Name x p) (e :: es) [] pos) (tCB r t) := by
  intro pins s σ H Q I h
  refine wpAny_Call_Name_kw (ld_blt I hg hm hv ?_ hn hdb)
  exact PyProof.Rows.callWith_type1 (thn (ha pos pins s σ H _ I h) fun us s1 ⟨vs, H1, I1, r1, q1⟩ => hc pins s1 σ H1 vs us Q I1 r1 q1) he hpl
end
end L2

namespace HT
open PySem PyProof.Rows

section
open PySem.SeqAt
open PySem.AutoSeq1 (wpAny_loadPart')
open PySem.MeetsSeq PySem.MeetsSeq2 PySem.MeetsSeq3

end

section
variable {prog : Program} {w : World} {A : Around} {E : Value → Shared → Prop} {s : Shared}

noncomputable def sIx (n d : Nat) : Option Int → Nat
  | none => d
  | some v => if v < 0 then (v + (n : Int)).toNat else min v.toNat n
theorem sIx_none (n d : Nat) : sIx n d none = d := rfl
theorem sIx_nat (n d k : Nat) : sIx n d (some (k : Int)) = min k n := by
  show (if (k : Int) < 0 then ((k : Int) + (n : Int)).toNat else min (k : Int).toNat n) = min k n
  rw [if_neg (by omega), Int.toNat_natCast]
theorem sIx_le (n d : Nat) (hd : d ≤ n) (o : Option Int) : sIx n d o ≤ n := by
  cases o with
  | none => exact hd
  | some v =>
    show (if v < 0 then (v + (n : Int)).toNat else min v.toNat n) ≤ n
    by_cases hv : v < 0
    · rw [if_pos hv]; omega
    · rw [if_neg hv]; exact Nat.min_le_right _ _
end
end HT

namespace L2
open PySem PySem.Spec PyProof.Rows

noncomputable abbrev TO := St → Hp → (Option Int → Hp → Prop) → Prop
noncomputable def PO (X : Cx) (e : Option Expr) (t : TO) : Prop :=
  ∀ (pins : List (Addr × Obj)) (s : Shared) (σ : St) (H : Hp) (Q : Option Int → Hp → Prop), Inv X pins σ H s → t σ H Q →
    wpAny (model X.prog X.w) X.A (evalPart e X.env) (fun u s' => ∃ o H', Inv X pins σ H' s' ∧ IsPart u o ∧ Q o H') X.xe s
noncomputable def tNoPart : TO := fun _ H Q => Q none H
noncomputable def tPart (t : TE) : TO := fun σ H Q => t σ H fun x H1 => ∃ i, x = .int i ∧ Q (some i) H1

section
variable {X : Cx} {e : Expr} {te : TE} {lo hi : Option Expr} {tl th : TO} {pos p2 : Pos}

theorem po_none : PO X none tNoPart := by
  intro pins s σ H Q I h
  rw [evalPart_none]
  exact wpAny_pure ⟨none, H, I, .none, h⟩
theorem po_some (h : PE X e te) : PO X (some e) (tPart te) := by
  intro pins s σ H Q I hw
  rw [evalPart_some]
  refine thn (h pins s σ H _ I hw) fun u s1 ⟨x, H1, I1, r1, q1⟩ => ?_
  obtain ⟨i, rfl, q⟩ := q1
  obtain ⟨t, rfl⟩ := r1
  exact ⟨some i, H1, I1, .int i t, q⟩

noncomputable def SlR (X : Cx) (r : V → Option Int → Option Int → Hp → VK → Prop) : Prop :=
  ∀ (pins : List (Addr × Obj)) (s : Shared) (σ : St) (H : Hp) (x : V) (v vl vu : Value) (lo hi : Option Int) (sl : Addr) (Q : VK), Inv X pins σ H s → RelV x v → s.heap.IsSliceOf sl vl vu .none → IsPart vl lo → IsPart vu hi → r x lo hi H Q →
    ∃ T id, typeLookup (.type T) "__getitem__" = pure (some (.builtin id)) ∧ s.TypeIs v T ∧ wpAny (model X.prog X.w) X.A (getItem v (.ref sl)) (EP X pins σ Q) X.xe s
theorem SlR.or {r r' : V → Option Int → Option Int → Hp → VK → Prop} (h : SlR X r) (h' : SlR X r') : SlR X (fun x lo hi H Q => r x lo hi H Q ∨ r' x lo hi H Q) := by
  intro pins s σ H x v vl vu lo hi sl Q I rx hs pl pu q
  rcases q with q | q
  · exact h pins s σ H x v vl vu lo hi sl Q I rx hs pl pu q
  · exact h' pins s σ H x v vl vu lo hi sl Q I rx hs pl pu q
noncomputable def tSl (r : V → Option Int → Option Int → Hp → VK → Prop) (te : TE) (tl th : TO) : TE := fun σ H Q => te σ H fun x H1 => tl σ H1 fun l H2 => th σ H2 fun u H3 => r x l u H3 Q
theorem pe_slice {r : V → Option Int → Option Int → Hp → VK → Prop} (hr : SlR X r) (he : PE X e te) (hl : PO X lo tl) (hu : PO X hi th) : PE X (.Subscript e (.Slice lo hi none p2) pos) (tSl r te tl th) := by
  intro pins s σ H Q I h
  refine Subscript_ (thn (he pins s σ H _ I h) fun v s1 ⟨x, H1, I1, r1, q1⟩ => ?_)
  refine wpAny_Slice (thn (hl pins s1 σ H1 _ I1 q1) fun vl s2 ⟨l, H2, I2, pl, q2⟩ => thn (hu pins s2 σ H2 _ I2 q2) fun vu s3 ⟨u, H3, I3, pu, q3⟩ => ?_)
  rw [evalPart_none]
  refine wpAny_pure ?_
  have I4 : Inv X pins σ H3 { s3 with heap := s3.heap.push { cls := .type "slice", data := .fields #[vl, vu, .none] } } := I3.kept (t' := s3.toks) fun b ob q => Heap.get?_push_of_some _ q
  obtain ⟨T, id, hT, ht, hg⟩ := hr pins { s3 with heap := s3.heap.push { cls := .type "slice", data := .fields #[vl, vu, .none] } } σ H3 x v vl vu l u s3.heap.objs.size Q I4 r1 (Heap.IsSliceOf.new ..) pl pu q3
  show wpAny (model X.prog X.w) X.A (subscriptTail e (.Slice lo hi none p2) v (.ref s3.heap.objs.size)) (EP X pins σ Q) X.xe { s3 with heap := s3.heap.push { cls := .type "slice", data := .fields #[vl, vu, .none] } }
  exact tail_any (ops := [.ref s3.heap.objs.size, v]) ht hT hg (by with_unfolding_all rfl)

noncomputable def cutV (xs : List V) (lo hi : Option Int) : List V := (xs.drop (HT.sIx xs.length 0 lo)).take (HT.sIx xs.length xs.length hi - HT.sIx xs.length 0 lo)
theorem cutV_length (xs : List V) (lo hi : Option Int) : (cutV xs lo hi).length ≤ xs.length := by
  unfold cutV
  rw [List.length_take, List.length_drop]
  omega
end
end L2

namespace L2
open PySem PySem.Spec PyProof.Rows

noncomputable def ixN (n : Nat) (i : Int) : Option Nat := if 0 ≤ i then (if i < n then some i.toNat else none) else if -(n : Int) ≤ i then some (i + n).toNat else none
noncomputable def atI {α : Type} (xs : List α) (i : Int) : Option α := (ixN xs.length i).bind fun j => xs[j]?
theorem ixN_seq {n : Nat} {i : Int} {j : Nat} (h : ixN n i = some j) : seqIndex? i n = some j ∧ j < n ∧ -(n : Int) ≤ i ∧ i < n := by
  unfold ixN at h
  by_cases h0 : 0 ≤ i
  · rw [if_pos h0] at h
    by_cases h1 : i < n
    · rw [if_pos h1] at h
      have e : i.toNat = j := Option.some.inj h
      exact ⟨by rw [seqIndex_of h0 h1, e], by omega, by omega, h1⟩
    · rw [if_neg h1] at h; cases h
  · rw [if_neg h0] at h
    by_cases h1 : -(n : Int) ≤ i
    · rw [if_pos h1] at h
      have e : (i + n).toNat = j := Option.some.inj h
      exact ⟨by rw [seqIndex_neg (by omega) h1, e], by omega, h1, by omega⟩
    · rw [if_neg h1] at h; cases h
theorem atI_get {α : Type} {xs : List α} {i : Int} {v : α} (h : atI xs i = some v) : ∃ j, seqIndex? i xs.length = some j ∧ xs[j]? = some v ∧ j < xs.length ∧ -(xs.length : Int) ≤ i ∧ i < xs.length := by
  unfold atI at h
  cases e : ixN xs.length i with
  | none => rw [e] at h; cases h
  | some j =>
    rw [e] at h
    obtain ⟨h1, h2, h3, h4⟩ := ixN_seq e
    exact ⟨j, h1, h, h2, h3, h4⟩
theorem atI_nat {α : Type} {xs : List α} {j : Nat} {v : α} (h : xs[j]? = some v) : atI xs (j : Int) = some v := by
  have hj : j < xs.length := (List.getElem?_eq_some_iff.mp h).1
  have e : ixN xs.length (j : Int) = some j := by
    unfold ixN
    rw [if_pos (by omega), if_pos (by omega)]; simp
  unfold atI; rw [e]; exact h
noncomputable def PlainIx (b : Expr) : Prop := ∀ o i, subscripted b false o i = operate [o, i] (getItem o i)
noncomputable def IxR (X : Cx) (r : R2) : Prop :=
  ∀ (value slice : Expr) (pins : List (Addr × Obj)) (s : Shared) (σ : St) (H : Hp) (x y : V) (v u : Value) (Q : VK), Inv X pins σ H s → RelV x v → RelV y u → r x y H Q →
    subscripted slice false v u = operate [v, u] (getItem v u) → wpAny (model X.prog X.w) X.A (subscriptTail value slice v u) (EP X pins σ Q) X.xe s
noncomputable def MtR (X : Cx) (id : String) (r : V → List V → Hp → VK → Prop) : Prop :=
  ∀ (pins : List (Addr × Obj)) (s : Shared) (σ : St) (H : Hp) (x : V) (xs : List V) (v : Value) (us : List Value) (Q : VK), Inv X pins σ H s → RelV x v → Vals xs us → r x xs H Q →
    wpAny (model X.prog X.w) X.A (call (.builtin id) (v :: us)) (EP X pins σ Q) X.xe s
section
variable {X : Cx} {a b : Expr} {ta tb : TE} {pos : Pos}
theorem IxR.or {r r' : R2} (h : IxR X r) (h' : IxR X r') : IxR X (fun x y H Q => r x y H Q ∨ r' x y H Q) := by
  intro value slice pins s σ H x y v u Q I rx ry q hs
  rcases q with q | q
  · exact h value slice pins s σ H x y v u Q I rx ry q hs
  · exact h' value slice pins s σ H x y v u Q I rx ry q hs
theorem MtR.or {id : String} {r r' : V → List V → Hp → VK → Prop} (h : MtR X id r) (h' : MtR X id r') : MtR X id (fun x xs H Q => r x xs H Q ∨ r' x xs H Q) := by
  intro pins s σ H x xs v us Q I rx rs q
  rcases q with q | q
  · exact h pins s σ H x xs v us Q I rx rs q
  · exact h' pins s σ H x xs v us Q I rx rs q
theorem pe_ix {r : R2} (hr : IxR X r) (ha : PE X a ta) (hb : PE X b tb) (hs : PlainIx b) : PE X (.Subscript a b pos) (tOp r ta tb) := by
  intro pins s σ H Q I h
  exact Subscript_ (binT ha hb I h fun v u s2 x y H2 I2 rx ry q => hr a b pins s2 σ H2 x y v u Q I2 rx ry q (hs _ _))

noncomputable def rIxL (K : PySem.W.Frag) : R2 := fun x y H Q => ∃ p xs i v, x = .ref p ∧ y = .int i ∧ SqL K H p xs ∧ atI xs i = some v ∧ Q v H
noncomputable def rIxT (K : PySem.W.Frag) : R2 := fun x y H Q => ∃ p xs i v, x = .ref p ∧ y = .int i ∧ SqT K H p xs ∧ atI xs i = some v ∧ Q v H
noncomputable def rIxS : R2 := fun x y H Q => ∃ z i c, x = .str z ∧ y = .int i ∧ z.length ≤ sizeLine ∧ atI z.cps.toList i = some c ∧ Q (.str ⟨#[c]⟩) H
theorem ix_list : IxR X (rIxL X.K) := by
  intro value slice pins s σ H x y v u Q I rx ry h hs
  obtain ⟨p, xs, i, z, rfl, rfl, hq, he, q⟩ := h
  cases rx
  obtain ⟨t, rfl⟩ := ry
  obtain ⟨its, r, pl, hz⟩ := I.list hq
  obtain ⟨j, h1, h2, h3, h4, h5⟩ := atI_get he
  obtain ⟨w, ew, rw'⟩ := r.get h2
  have hl := r.length
  have hn := line63
  have fin : EP X pins σ Q w s := ⟨z, H, I, rw', q⟩
  by_cases h0 : 0 ≤ i
  · have hj : i.toNat = j := by
      rw [seqIndex_of h0 h5] at h1
      exact Option.some.inj h1
    exact item_listR pl.isList h0 (by omega) (by rw [hj]; simpa using ew) fin hs
  · have hj : (i + (its.toArray.size : Int)).toNat = j := by
      rw [seqIndex_neg (by omega) h4] at h1
      rw [List.size_toArray, ← hl]
      exact Option.some.inj h1
    exact subscriptTail_builtinR (x := w) pl.isList.typeIs slot_list_getitem.lookup
      (wpAny_getItem_list_neg (Q := fun r s' => r = w ∧ EP X pins σ Q r s') pl.isList (by omega) (by rw [List.size_toArray] <;> omega) (by omega) (by rw [hj]; simpa using ew) ⟨rfl, fin⟩) hs
theorem ix_tup : IxR X (rIxT X.K) := by
  intro value slice pins s σ H x y v u Q I rx ry h hs
  obtain ⟨p, xs, i, z, rfl, rfl, hq, he, q⟩ := h
  cases rx
  obtain ⟨t, rfl⟩ := ry
  obtain ⟨its, r, pl, hz⟩ := I.tuple hq
  obtain ⟨j, h1, h2, h3, h4, h5⟩ := atI_get he
  obtain ⟨w, ew, rw'⟩ := r.get h2
  have hl := r.length
  have hn := line63
  have fin : EP X pins σ Q w s := ⟨z, H, I, rw', q⟩
  exact subscriptTail_builtinR (x := w) pl.typeIs slot_tuple_getitem.lookup
    (getItem_tuple (j := j) (Q := fun r s' => r = w ∧ EP X pins σ Q r s') pl (by omega) (by omega) (by rw [List.size_toArray, ← hl]; exact h1) (by simpa using ew) ⟨rfl, fin⟩) hs
theorem ix_str : IxR X rIxS := by
  intro value slice pins s σ H x y v u Q I rx ry h hs
  obtain ⟨z, i, c, rfl, rfl, hz, he, q⟩ := h
  obtain ⟨t, rfl⟩ := rx
  obtain ⟨t', rfl⟩ := ry
  obtain ⟨j, h1, h2, h3, h4, h5⟩ := atI_get he
  have hl : z.cps.toList.length = z.length := by simp [Str.length]
  rw [hl] at h1 h4 h5
  have hn := line63
  exact tail_any (typeIs_str s z t) slot_str_getitem.lookup (getItem_str (c := c) (by
    have e1 : decide (i < -(2 ^ 63 : Int)) = false := decide_eq_false (by omega)
    have e2 : decide (i ≥ 2 ^ 63) = false := decide_eq_false (by omega)
    rw [e1, e2, Bool.or_false]) (by rw [h1]; simpa using h2) ⟨.str ⟨#[c]⟩, H, I.tok _, ⟨_, rfl⟩, q⟩) hs
noncomputable def rIx (K : PySem.W.Frag) : R2 := fun x y H Q => rIxL K x y H Q ∨ rIxT K x y H Q ∨ rIxS x y H Q
theorem ix_seq : IxR X (rIx X.K) := ix_list.or (ix_tup.or ix_str)

theorem Inv.lst {pins : List (Addr × Obj)} {σ : St} {H : Hp} {s : Shared} {p : Addr} {xs : List V} (I : Inv X pins σ H s) (h : H p = some (.lst xs)) :
    ∃ (its : List Value) (n : Nat), Vals xs its ∧ s.heap.get? p = some { cls := .type "list", data := .seq its.toArray n } ∧ xs.length ≤ sizeLine := by
  obtain ⟨z, its, n, r, e⟩ := I.hok p _ h
  exact ⟨its, n, r, e, z⟩
theorem slice_bounds (lo hi : Option Int) (n : Nat) : (sliceBounds lo hi none n).1 = ((HT.sIx n 0 lo : Nat) : Int) ∧ (sliceBounds lo hi none n).2.1 = ((HT.sIx n n hi : Nat) : Int) ∧ (sliceBounds lo hi none n).2.2 = 1 := by
  refine ⟨?_, ?_, rfl⟩
  · cases lo with
    | none => simp [sliceBounds, HT.sIx]
    | some i =>
      simp only [sliceBounds, HT.sIx, Option.getD_none, show (1 : Int) > 0 by decide, if_true]
      by_cases h : i < 0
      · simp only [h, if_true] <;> omega
      · simp only [h, if_false] <;> omega
  · cases hi with
    | none => simp [sliceBounds, HT.sIx]
    | some i =>
      simp only [sliceBounds, HT.sIx, Option.getD_none, show (1 : Int) > 0 by decide, if_true]
      by_cases h : i < 0
      · simp only [h, if_true] <;> omega
      · simp only [h, if_false] <;> omega
theorem slicePick_cut (its : List Value) (lo hi : Option Int) : slicePick its.toArray lo hi none = ((its.drop (HT.sIx its.length 0 lo)).take (HT.sIx its.length its.length hi - HT.sIx its.length 0 lo)).toArray := by
  obtain ⟨h1, h2, h3⟩ := slice_bounds lo hi its.toArray.size
  unfold slicePick
  rw [h1, h2, h3]
  simp only [sliceRange_one, pick_run, List.size_toArray] <;> rfl
noncomputable def rSlL (K : PySem.W.Frag) : V → Option Int → Option Int → Hp → VK → Prop := fun x lo hi H Q => ∃ a xs, x = .ref a ∧ SqL K H a xs ∧ ∀ p, H p = none → Q (.ref p) (upd H p (.lst (cutV xs lo hi)))
theorem sl_list : SlR X (rSlL X.K) := by
  intro pins s σ H x v vl vu lo hi sl Q I rx hs pl pu h
  obtain ⟨a, xs, rfl, hx, q⟩ := h
  cases rx
  obtain ⟨its, r, ht, hz⟩ := I.list hx
  have hlen := r.length
  refine ⟨"list", _, slot_list_getitem.lookup, ht.isList.typeIs, ?_⟩
  refine wpAny_getItem_list_slice ht.isList hs pl pu .none (by simp) ?_ (by rw [List.size_toArray] <;> omega)
  rw [slicePick_cut, ← hlen]
  refine ⟨.ref s.heap.objs.size, _, I.laid (t' := s.toks) (o := .lst (cutV xs lo hi)) (fun b ob q => Heap.get?_push_of_some _ q) (Nat.le_refl _) ?_, rfl, q _ (I.hok.fresh (Nat.le_refl _))⟩
  exact ⟨Nat.le_trans (cutV_length xs lo hi) hz, _, 0, (r.drop (HT.sIx xs.length 0 lo)).take (HT.sIx xs.length xs.length hi - HT.sIx xs.length 0 lo), Heap.get?_push_size _ rfl⟩

noncomputable def flatV : V → Bool
  | .non => true
  | .bl _ => true
  | .int _ => true
  | .str _ => true
  | _ => false
noncomputable def eqV : V → V → Bool
  | .non, .non => true
  | .bl a, .bl b => a == b
  | .bl a, .int b => (if a then 1 else 0) == b
  | .int a, .bl b => a == (if b then 1 else 0)
  | .int a, .int b => a == b
  | .str a, .str b => a == b
  | _, _ => false
theorem eqAt_V {A : Around} {s : Shared} {y x : V} {u v : Value} (ry : RelV y u) (rx : RelV x v) (fy : flatV y = true) (fx : flatV x = true) : SeqAt.EqAt A s u v (eqV y x) := by
  cases y with
  | non =>
    cases ry
    cases x with
    | non => cases rx; exact SeqAt.EqAt.same _
    | bl b => cases rx; exact SeqAt.EqAt.none_bool b
    | int b => obtain ⟨t, rfl⟩ := rx; exact SeqAt.EqAt.none_int b t
    | str b => obtain ⟨t, rfl⟩ := rx; exact SeqAt.EqAt.none_str b t
    | _ => exact absurd (show false = true from fx) Bool.false_ne_true
  | bl a =>
    cases ry
    cases x with
    | non => cases rx; exact SeqAt.EqAt.bool_none a
    | bl b => cases rx; exact SeqAt.EqAt.bool_bool a b
    | int b => obtain ⟨t, rfl⟩ := rx; exact SeqAt.EqAt.bool_int a b t
    | str b => obtain ⟨t, rfl⟩ := rx; exact SeqAt.EqAt.bool_str a b t
    | _ => exact absurd (show false = true from fx) Bool.false_ne_true
  | int a =>
    obtain ⟨t', rfl⟩ := ry
    cases x with
    | non => cases rx; exact SeqAt.EqAt.int_none a t'
    | bl b => cases rx; exact SeqAt.EqAt.int_bool a t' b
    | int b => obtain ⟨t, rfl⟩ := rx; exact SeqAt.EqAt.int_int a t' b t
    | str b => obtain ⟨t, rfl⟩ := rx; exact SeqAt.EqAt.int_str a t' b t
    | _ => exact absurd (show false = true from fx) Bool.false_ne_true
  | str a =>
    obtain ⟨t', rfl⟩ := ry
    cases x with
    | non => cases rx; exact SeqAt.EqAt.str_none a t'
    | bl b => cases rx; exact SeqAt.EqAt.str_bool a t' b
    | int b => obtain ⟨t, rfl⟩ := rx; exact SeqAt.EqAt.str_int a t' b t
    | str b => obtain ⟨t, rfl⟩ := rx; exact SeqAt.EqAt.str_str a t' b t
    | _ => exact absurd (show false = true from fx) Bool.false_ne_true
  | _ => exact absurd (show false = true from fy) Bool.false_ne_true
noncomputable def eqU (x : V) (u : Value) : Bool := match u with
  | .none => eqV .non x
  | .bool b => eqV (.bl b) x
  | .int i _ => eqV (.int i) x
  | .str z _ => eqV (.str z) x
  | _ => false
theorem eqU_of {x y : V} {u : Value} (r : RelV y u) (f : flatV y = true) : eqU x u = eqV y x := by
  cases y with
  | non => cases r; rfl
  | bl b => cases r; rfl
  | int i => obtain ⟨t, rfl⟩ := r; rfl
  | str z => obtain ⟨t, rfl⟩ := r; rfl
  | _ => exact absurd (show false = true from f) Bool.false_ne_true
theorem any_eqU {x : V} : ∀ {xs : List V} {us : List Value}, Vals xs us → xs.all flatV = true → us.any (eqU x) = xs.any fun y => eqV y x
  | _, _, .nil, _ => rfl
  | y :: xs, u :: us, .cons r t, f => by
    rw [List.all_cons, Bool.and_eq_true] at f
    rw [List.any_cons, List.any_cons, eqU_of r f.1, any_eqU t f.2]
theorem mem_eqAt {A : Around} {s : Shared} {x : V} {v : Value} (rx : RelV x v) (fx : flatV x = true) : ∀ {xs : List V} {us : List Value}, Vals xs us → xs.all flatV = true → ∀ u ∈ us, SeqAt.EqAt A s u v (eqU x u)
  | _, _, .nil, _ => fun u hu => by cases hu
  | y :: xs, u :: us, .cons r t, f => fun u' hu => by
    rw [List.all_cons, Bool.and_eq_true] at f
    rcases List.mem_cons.mp hu with rfl | hu
    · rw [eqU_of r f.1]; exact eqAt_V r rx f.1 fx
    · exact mem_eqAt rx fx t f.2 u' hu
noncomputable def inV (x : V) (xs : List V) : Bool := xs.any fun y => eqV y x
noncomputable def rIn (K : PySem.W.Frag) (neg : Bool) : R2 := fun x y H Q => ∃ p xs, y = .ref p ∧ (SqL K H p xs ∨ SqT K H p xs) ∧ flatV x = true ∧ xs.all flatV = true ∧ Q (.bl (if neg then !inV x xs else inV x xs)) H
theorem op_in_seq : OpR X (compareOp .In) (rIn X.K false) := by
  intro pins s σ H x y v u Q I rx ry h
  obtain ⟨p, xs, rfl, hq, fx, fs, q⟩ := h
  cases ry
  rcases hq with hq | hq
  · obtain ⟨its, r, pl, hz⟩ := I.list hq
    refine SeqAt.in_listAt (eqU x) pl.isList (fun w hw => mem_eqAt rx fx r fs w (by simpa using hw)) ⟨.bl _, H, I, rfl, ?_⟩
    rw [show its.toArray.any (eqU x) = its.any (eqU x) by simp, any_eqU r fs]
    exact q
  · obtain ⟨its, r, pl, hz⟩ := I.tuple hq
    refine SeqAt.in_tupleAt (eqU x) pl (fun w hw => mem_eqAt rx fx r fs w (by simpa using hw)) ⟨.bl _, H, I, rfl, ?_⟩
    rw [show its.toArray.any (eqU x) = its.any (eqU x) by simp, any_eqU r fs]
    exact q
theorem call_len_seq : CallR X (.builtin "len") (fun xs H Q => ∃ p ys, xs = [.ref p] ∧ (SqL X.K H p ys ∨ SqT X.K H p ys) ∧ Q (.int ys.length) H) := by
  intro pins s σ H xs us Q I r h
  obtain ⟨p, ys, rfl, hq, q⟩ := h
  obtain ⟨u, rfl, rx⟩ := vals1 r
  cases rx
  have hn := line63
  rcases hq with hq | hq
  · obtain ⟨its, r', pl, hz⟩ := I.list hq
    have hlen := r'.length
    exact Calls.call_len_list pl.isList (by simp only [List.size_toArray] <;> omega) ⟨.int ys.length, H, I.tok _, ⟨s.toks + 1, by rw [List.size_toArray, hlen]⟩, q⟩
  · obtain ⟨its, r', pl, hz⟩ := I.tuple hq
    have hlen := r'.length
    exact len_tuple pl (by simp only [List.size_toArray] <;> omega) ⟨.int ys.length, H, I.tok _, ⟨s.toks + 1, by rw [List.size_toArray, hlen]⟩, q⟩
theorem call_len_str : CallR X (.builtin "len") (fun xs H Q => ∃ z, xs = [.str z] ∧ z.length ≤ sizeLine ∧ Q (.int z.length) H) := by
  intro pins s σ H xs us Q I r h
  obtain ⟨z, rfl, hz, q⟩ := h
  obtain ⟨u, rfl, t, rfl⟩ := vals1 r
  have hn := line63
  exact len_str (by omega) ⟨.int z.length, H, I.tok _, ⟨_, rfl⟩, q⟩
theorem CallR.or {f : Value} {r r' : List V → Hp → VK → Prop} (h : CallR X f r) (h' : CallR X f r') : CallR X f (fun xs H Q => r xs H Q ∨ r' xs H Q) := by
  intro pins s σ H xs us Q I rs q
  rcases q with q | q
  · exact h pins s σ H xs us Q I rs q
  · exact h' pins s σ H xs us Q I rs q
theorem call_list_of : CallR X (.type "list") (fun xs H Q => ∃ p ys, xs = [.ref p] ∧ (SqL X.K H p ys ∨ SqT X.K H p ys) ∧ ∀ l, H l = none → Q (.ref l) (upd H l (.lst ys))) := by
  intro pins s σ H xs us Q I r h
  obtain ⟨p, ys, rfl, hq, q⟩ := h
  obtain ⟨u, rfl, rx⟩ := vals1 r
  cases rx
  have fin : ∀ (its : List Value), Vals ys its → ys.length ≤ sizeLine → ∀ (h' : Heap) (c' : Nat), (∀ b o', s.heap.get? b = some o' → h'.get? b = some o') →
      h'.get? s.heap.objs.size = some { cls := .type "list", dict := none, data := .seq its.toArray c', slots := #[] } → EP X pins σ Q (.ref s.heap.objs.size) { s with heap := h' } := fun its r' hz h' c' kp e =>
    ⟨.ref s.heap.objs.size, _, I.laid (t' := s.toks) kp (Nat.le_refl _) (show ObjOk X.prog X.w _ h' _ (.lst ys) from ⟨hz, its, c', r', e⟩), rfl, q _ (I.hok.fresh (Nat.le_refl _))⟩
  rcases hq with hq | hq
  · obtain ⟨its, r', pl, hz⟩ := I.list hq
    have hlen := r'.length
    obtain ⟨o, ho, hc, n, hd⟩ := pl.isList
    exact call_list_seq p (.inl rfl) ho hc hd (fun h' c' kp e => fin its r' hz h' c' kp e) (by simp only [List.size_toArray] <;> omega)
  · obtain ⟨its, r', pl, hz⟩ := I.tuple hq
    have hlen := r'.length
    obtain ⟨o, ho, hc, n, hd⟩ := pl
    exact call_list_seq p (.inr rfl) ho hc hd (fun h' c' kp e => fin its r' hz h' c' kp e) (by simp only [List.size_toArray] <;> omega)
noncomputable def tyV (K : PySem.W.Frag) (T : String) (x : V) (H : Hp) : Prop := match x with
  | .str _ => T = "str"
  | .int _ => T = "int"
  | .ref p => (T = "list" ∧ ∃ xs, SqL K H p xs) ∨ (T = "tuple" ∧ ∃ o, K.lookup p = some o ∧ o.cls = .type "tuple" ∧ o.dict = none) ∨
      (T = "dict" ∧ ((∃ kvs, H p = some (.dK kvs)) ∨ ∃ kvs, H p = some (.dT kvs))) ∨ (T = "set" ∧ ∃ S n, H p = some (.set S n))
  | _ => False
theorem tyV_is {pins : List (Addr × Obj)} {σ : St} {H : Hp} {s : Shared} {T : String} {x : V} {v : Value} (I : Inv X pins σ H s) (r : RelV x v) (ty : tyV X.K T x H) :
    s.TypeIs v T ∧ ∀ a, v = .ref a → ∃ ob, s.heap.get? a = some ob ∧ ob.dict = none := by
  cases x with
  | str z =>
    obtain ⟨t, rfl⟩ := r
    cases (show T = "str" from ty)
    exact ⟨typeIs_str s z t, fun _ e => nomatch e⟩
  | int i =>
    obtain ⟨t, rfl⟩ := r
    cases (show T = "int" from ty)
    exact ⟨typeIs_int s i t, fun _ e => nomatch e⟩
  | ref p =>
    cases r
    rcases ty with ⟨rfl, xs, hq⟩ | ⟨rfl, o, hk, hc, hd⟩ | ⟨rfl, hk⟩ | ⟨rfl, S, n, hk⟩
    · obtain ⟨its, _, pl, _⟩ := I.list hq
      refine ⟨pl.isList.typeIs, fun a e => ?_⟩
      cases e
      obtain ⟨o, n, e, c, hd, _⟩ := pl
      exact ⟨o, e, hd⟩
    · refine ⟨⟨o, I.kIn p o hk, hc⟩, fun a e => ?_⟩
      cases e
      exact ⟨o, I.kIn _ o hk, hd⟩
    · have z : ∃ o, s.heap.get? p = some o ∧ o.ExactDict := by
        rcases hk with ⟨kvs, hk⟩ | ⟨kvs, hk⟩
        · obtain ⟨_, _, _, _, o, _, _, e, ex, _⟩ := I.hok p _ hk
          exact ⟨o, e, ex⟩
        · obtain ⟨_, _, _, _, o, _, _, e, ex, _⟩ := I.hok p _ hk
          exact ⟨o, e, ex⟩
      obtain ⟨o, e, ex⟩ := z
      refine ⟨⟨o, e, ex.1⟩, fun a e2 => ?_⟩
      cases e2
      exact ⟨o, e, ex.2.1⟩
    · obtain ⟨o, _, _, _, e, ex, _⟩ := I.hok p _ hk
      refine ⟨⟨o, e, ex.1⟩, fun a e2 => ?_⟩
      cases e2
      exact ⟨o, e, ex.2.1⟩
  | _ => exact False.elim ty
noncomputable def tBM0 (K : PySem.W.Frag) (T : String) (r : V → List V → Hp → VK → Prop) (to : TE) : TE := fun σ H Q => to σ H fun x H1 => tyV K T x H1 ∧ r x [] H1 Q
noncomputable def tBM (K : PySem.W.Frag) (T : String) (r : V → List V → Hp → VK → Prop) (to : TE) (t : TA) : TE := fun σ H Q => to σ H fun x H1 => tyV K T x H1 ∧ t σ H1 fun xs H2 => r x xs H2 Q
variable {o e : Expr} {es : List Expr} {to : TE} {t : TA} {name : Str} {apos cpos : Pos} {T id : String} {r : V → List V → Hp → VK → Prop}
theorem pe_bm0 (pa : PlainAttrs T) (slot : Slot T name id) (hty : typeOf (.builtin id) = pure (.type "method_descriptor")) (hm : MtR X id r) (ho : PE X o to)
    (hbase : attributeBase o name X.env (eval o X.env) = eval o X.env := by rfl) (hline : (apos.endLine == cpos.line) = true := by rfl) : PE X (.Call (.Attribute o name apos) [] [] cpos) (tBM0 X.K T r to) := by
  intro pins s σ H Q I h
  refine wpAny_Call_method0_late hbase hline (thn (ho pins s σ H _ I h) fun v s1 ⟨x, H1, I1, r1, ty, q1⟩ => ?_)
  obtain ⟨h1, h2⟩ := tyV_is I1 r1 ty
  exact ⟨T, id, pa, slot, hty, h1, h2, Calls.callWith_builtin rfl (PySem.evalArgs_none (hm pins s1 σ H1 x [] v [] Q I1 r1 .nil q1))⟩
theorem pe_bm (pa : PlainAttrs T) (slot : Slot T name id) (hty : typeOf (.builtin id) = pure (.type "method_descriptor")) (hm : MtR X id r) (ho : PE X o to) (ha : PA X (e :: es) t)
    (hbase : attributeBase o name X.env (eval o X.env) = eval o X.env := by rfl)
    (hfew : ((backTo cpos (starEach (e :: es) X.env)).all (fun x => !x.1) && (backToKw cpos (keywordEach [] X.env)).all (fun x => x.1.isSome)
      && decide ((e :: es).length + ([] : List Keyword).length + (if ([] : List Keyword).isEmpty then 0 else 1) < 30)) = true := by rfl)
    (hline : (apos.endLine == cpos.line) = true := by rfl) (hs : starEach (e :: es) X.env = (false, eval e X.env) :: starEach es X.env := by rfl) (hplain : (backTo cpos (starEach es X.env)).any (·.1) = false := by rfl) :
    PE X (.Call (.Attribute o name apos) (e :: es) [] cpos) (tBM X.K T r to t) := by
  intro pins s σ H Q I h
  refine wpAny_Call_method_late hbase hfew hline rfl (thn (ho pins s σ H _ I h) fun v s1 ⟨x, H1, I1, r1, ty, q1⟩ => ?_)
  obtain ⟨h1, h2⟩ := tyV_is I1 r1 ty
  refine ⟨T, id, pa, slot, hty, h1, h2, ?_⟩
  have hA := ha cpos pins s1 σ H1 _ I1 q1
  rw [hs] at hA ⊢
  refine Calls.callWith_builtin (by show (false || (backTo cpos (starEach es X.env)).any (·.1)) = false; rw [hplain] <;> rfl) (Calls.evalArgs_plain ?_)
  exact thn hA fun us s2 ⟨vs, H2, I2, r2, q2⟩ => hm pins s2 σ H2 x vs v us Q I2 r1 r2 q2
end
end L2

namespace L2
open PySem PySem.Spec PyProof.Rows

noncomputable def MtM (X : Cx) (id : String) (r : V → List V → Hp → VK → Prop) : Prop :=
  ∀ (pins : List (Addr × Obj)) (s : Shared) (σ : St) (H : Hp) (x : V) (xs : List V) (v : Value) (us : List Value) (Q : VK), Inv X pins σ H s → RelV x v → Vals xs us → r x xs H Q →
    wpAny (model X.prog X.w) X.A (call (.builtin id) (v :: us)) (EP X pins σ Q) X.xe s

theorem Vals.one : ∀ {x : V} {us : List Value}, Vals [x] us → ∃ u, us = [u] ∧ RelV x u
  | _, _, .cons r .nil => ⟨_, rfl, r⟩
theorem Vals.zero : ∀ {us : List Value}, Vals [] us → us = []
  | _, .nil => rfl
theorem Vals.reverse {xs : List V} {us : List Value} (h : Vals xs us) : Vals xs.reverse us.reverse := by
  induction h with
  | nil => exact .nil
  | cons r t ih => rw [List.reverse_cons, List.reverse_cons]; exact Vals.append ih (.cons r .nil)
theorem Vals.rep {xs : List V} {us : List Value} (h : Vals xs us) : ∀ k : Nat, Vals (List.replicate k xs).flatten (List.replicate k us).flatten
  | 0 => .nil
  | k + 1 => by
    rw [List.replicate_succ, List.replicate_succ, List.flatten_cons, List.flatten_cons]
    exact Vals.append h (Vals.rep h k)
theorem foldl_rep (its : List Value) : ∀ (k : Nat) (acc : List Value),
    List.foldl (fun x1 x2 => x1 ++ x2) acc.toArray (List.replicate k its.toArray) = (acc ++ (List.replicate k its).flatten).toArray
  | 0, acc => by simp
  | k + 1, acc => by
    have e : acc.toArray ++ its.toArray = (acc ++ its).toArray := by simp
    have e2 : (acc ++ its) ++ (List.replicate k its).flatten = acc ++ (List.replicate (k + 1) its).flatten := by
      rw [List.replicate_succ, List.flatten_cons, List.append_assoc]
    rw [← e2, ← foldl_rep its k (acc ++ its), ← e, List.replicate_succ, List.foldl_cons]

section
variable {X : Cx} {pins : List (Addr × Obj)} {σ : St} {H : Hp} {s : Shared} {l b : Addr} {xs ys zs : List V}

theorem Inv.lset {its its' : List Value} {n : Nat} {f : Array Value → Array Value} {t' : Nat} (I : Inv X pins σ H s) (hH : H l = some (.lst xs))
    (e : s.heap.get? l = some { cls := .type "list", data := .seq its.toArray n }) (hf : f its.toArray = its'.toArray) (hv : Vals ys its') (hz : ys.length ≤ sizeLine) :
    Inv X pins σ (upd H l (.lst ys)) { s with heap := s.heap.update l (Obj.mapSeq f), toks := t' } := by
  have q := PySem.IsL.update e f
  rw [hf] at q
  refine I.write (x := l) (e := l) (by rw [hH]; exact trivial) (.inl rfl) (fun b' u hb hu => (Heap.get?_update_other s.heap (Obj.mapSeq f) (Ne.symm hb)).trans hu) ⟨_, q⟩ ?_
  exact ⟨hz, its', _, hv, q⟩
theorem Inv.lnew {its : List Value} {t' : Nat} (I : Inv X pins σ H s) (hv : Vals ys its) (hz : ys.length ≤ sizeLine) :
    Inv X pins σ (upd H s.heap.objs.size (.lst ys)) { s with heap := s.heap.push { cls := .type "list", data := .seq its.toArray }, toks := t' } :=
  I.laid (fun _ _ q => Heap.get?_push_of_some _ q) (Nat.le_refl _) ⟨hz, its, 0, hv, Heap.get?_push_size _ rfl⟩
theorem Inv.fresh (I : Inv X pins σ H s) : H s.heap.objs.size = none := I.hok.fresh (Nat.le_refl _)
theorem Inv.lstM (I : Inv X pins σ H s) (hH : H l = some (.lst xs)) : xs.length ≤ sizeLine ∧ ∃ (its : List Value) (n : Nat), Vals xs its ∧ xs.length = its.length ∧ s.heap.get? l = some { cls := .type "list", data := .seq its.toArray n } := by
  obtain ⟨z, its, n, r, e⟩ := I.hok l _ hH
  exact ⟨z, its, n, r, r.length, e⟩

theorem notLongL {n : Nat} (h : n ≤ sizeLine) : Builtin.List.listTooLong n = false := by
  unfold Builtin.List.listTooLong
  exact decide_eq_false (by omega)
end

section
variable {X : Cx}

noncomputable def rAppend : V → List V → Hp → VK → Prop := fun x vs H Q => ∃ l xs y, x = .ref l ∧ vs = [y] ∧ H l = some (.lst xs) ∧ xs.length < sizeLine ∧ Q .non (upd H l (.lst (xs ++ [y])))
theorem mt_append : MtM X "list.append" rAppend := by
  intro pins s σ H x vs v us Q I rx rv h
  obtain ⟨l, xs, y, rfl, rfl, hH, hz, q⟩ := h
  cases rx
  obtain ⟨u, rfl, ru⟩ := rv.one
  obtain ⟨z, its, n, r, hl, e⟩ := I.lstM hH
  refine call_meets F.slot_list_append ⟨_, e, rfl⟩ F.entry_list_append (F.args_list_append_2 _ _) (PySem.list_append l its.toArray n u (by rw [List.size_toArray]; omega)) ⟨e, ?_⟩
  refine ⟨.non, _, I.lset (its' := its ++ [u]) hH e (by simp) (r.append (.cons ru .nil)) ?_, rfl, q⟩
  rw [List.length_append, List.length_singleton]
  omega

noncomputable def rCat : R2 := fun x y H Q => ∃ l b xs zs, x = .ref l ∧ y = .ref b ∧ H l = some (.lst xs) ∧ H b = some (.lst zs) ∧ xs.length + zs.length ≤ sizeLine ∧ ∀ p, H p = none → Q (.ref p) (upd H p (.lst (xs ++ zs)))
theorem op_cat : OpR X (binaryOp .Add) rCat := by
  intro pins s σ H x y v u Q I rx ry h
  obtain ⟨l, b, xs, zs, rfl, rfl, hH, hB, hz, q⟩ := h
  cases rx
  cases ry
  obtain ⟨z, its, n, r, hl, e⟩ := I.lstM hH
  obtain ⟨z2, its2, n2, r2, hl2, e2⟩ := I.lstM hB
  refine PySem.P.add_list e e2 ?_ (by rw [List.size_toArray, List.size_toArray]; omega)
  have ea : its.toArray ++ its2.toArray = (its ++ its2).toArray := by simp
  rw [ea]
  exact ⟨.ref _, _, I.lnew (t' := s.toks) (r.append r2) (by rw [List.length_append]; omega), rfl, q _ I.fresh⟩
noncomputable def rRep : R2 := fun x y H Q => ∃ l k xs, x = .ref l ∧ y = .int k ∧ H l = some (.lst xs) ∧ -(2 ^ 63) ≤ k ∧ k < 2 ^ 63 ∧ xs.length * k.toNat ≤ sizeLine ∧
  ∀ p, H p = none → Q (.ref p) (upd H p (.lst (List.replicate k.toNat xs).flatten))
theorem len_rep {α : Type} (xs : List α) (k : Nat) : (List.replicate k xs).flatten.length = k * xs.length := by
  induction k with
  | zero => simp
  | succ k ih => rw [List.replicate_succ, List.flatten_cons, List.length_append, ih, Nat.succ_mul, Nat.add_comm]
theorem op_rep : OpR X (binaryOp .Mult) rRep := by
  intro pins s σ H x y v u Q I rx ry h
  obtain ⟨l, k, xs, rfl, rfl, hH, h1, h2, hz, q⟩ := h
  cases rx
  obtain ⟨t, rfl⟩ := ry
  obtain ⟨z, its, n, r, hl, e⟩ := I.lstM hH
  have hlen : its.toArray.size * k.toNat ≤ sizeLine := by rw [List.size_toArray, ← hl]; exact hz
  have hcap : ¬ its.toArray.size * k.toNat > (2 ^ 63 - 1) / 8 := by
    have : (sizeLine : Nat) ≤ (2 ^ 63 - 1) / 8 := by decide
    omega
  have hfit : ¬ (!Builtin.List.listFitsIndex k) = true := by
    rw [fitsIndex_both h1 h2]
    exact Bool.false_ne_true
  have hlong : ¬ Builtin.List.listTooLong (its.toArray.size * k.toNat) = true := by
    rw [notLongL hlen]
    exact Bool.false_ne_true
  have hnew : List.foldl (fun x1 x2 => x1 ++ x2) #[] (List.replicate (if its.toArray.isEmpty = true then 0 else k.toNat) its.toArray) = (List.replicate k.toNat its).flatten.toArray := by
    have f0 : ∀ m : Nat, List.foldl (fun x1 x2 => x1 ++ x2) #[] (List.replicate m its.toArray) = (List.replicate m its).flatten.toArray := fun m => by
      have := foldl_rep its m []
      rw [List.nil_append] at this
      exact this
    rw [f0]
    cases its with
    | nil => simp
    | cons a r' => rw [if_neg (by simp)]
  refine wpAny_binaryOp_repeat_ref (T := "list") (U := "int") (by decide) ⟨_, e, rfl⟩ (fun s' => typeIs_int s' k t) noFill_list_mul F.fills_int_mul F.slot_int_rmul repeat_list F.slot_int_index.lookup
    (call_meets F.slot_int_rmul (typeIs_int s k t) F.entry_int_rmul (F.args_int_rmul_2 _ _) (int___rmul___int_list k t l its.toArray n)
      ⟨e, rfl, ⟨_, e, rfl⟩, call_meets F.slot_list_mul ⟨_, e, rfl⟩ F.entry_list_mul (F.args_list_mul_2 _ _) (AutoListH.list___mul___list_int_3 l its.toArray n k t hfit hcap hlong) ⟨e, ?_⟩⟩)
  rw [hnew]
  exact ⟨.ref _, _, I.lnew (t' := s.toks) (r.rep k.toNat) (by rw [len_rep, Nat.mul_comm]; exact hz), rfl, q _ I.fresh⟩

end

section
variable {prog : Program} {w : World} {A : Around} {E : Value → Shared → Prop} {s : Shared}
end

section
variable {X : Cx}
end
end L2

namespace Att
open PySem PySem.W PySem.Calls PyProof.Rows

theorem ints_of_wellAll {P : Params} {h : Heap} : ∀ (ns : List Int) (vs : List Value), WellAll P h vs (ns.map WData.int) → IntsAre vs ns := by
  intro ns
  induction ns with
  | nil =>
    intro vs w
    rw [List.map_nil] at w
    cases w
    exact .nil
  | cons n ns ih =>
    intro vs w
    rw [List.map_cons] at w
    cases w with
    | cons a b =>
      cases a
      exact .cons _ _ (ih _ b)

theorem script_of {l : OpenLaw} {n : Nat} (hn : l.most = some n) {P : Params} {h : Heap} {args : List WData} {vals : List Value}
    (hpre : l.row.toRowW.claim.pre args = true) (hwl : WellAll P h vals args) :
    ∃ a vs ns, vals = [Value.ref a] ∧ args = [WData.list (ns.map WData.int)] ∧ h.get? a = some { cls := .type "list", data := .seq vs.toArray } ∧ IntsAre vs ns ∧ ns.length ≤ n := by
  have hsh : WShape.hasAll [] args [.list .int] = true := (pre_splitW hpre).1
  have hc : l.pre.holds [] { args := args } = true := (pre_splitW hpre).2
  obtain ⟨d, r, rfl, h1, h2⟩ := hasAllW_cons hsh
  obtain rfl := hasAllW_nil h2
  obtain ⟨xs, rfl, h3⟩ := hasW_list h1
  obtain ⟨ns, rfl⟩ := items_int h3
  have hlen : ns.length ≤ n := by
    unfold OpenLaw.pre at hc
    have h4 : (WTm.not (.lt (.lit (.int (n : Int))) (.len (.arg 0)))).holds [] { args := [.list (ns.map .int)] } = true := by
      have h4 := (holds_andW hc).1
      rw [hn] at h4
      exact h4
    have h5 := condW_of h4 (w_not (w_lt w_lit (w_len_list (w_arg rfl))))
    rw [List.length_map] at h5
    refine Nat.le_of_not_lt fun q => ?_
    have q' : (n : Int) < ((ns.length : Nat) : Int) := by omega
    first
      | (rw [decide_eq_true q'] at h5; exact absurd h5 (by decide))
      | (simp at h5; omega)
  cases hwl with
  | cons w1 w2 =>
    cases w2
    cases w1 with
    | list ho hall => exact ⟨_, _, ns, rfl, rfl, ho, ints_of_wellAll ns _ hall, hlen⟩

theorem post_true (l : OpenLaw) (args : List WData) : l.row.toRowW.claim.post args (.bool true) args = true :=
  postW_of (r := l.row.toRowW) (X := (true == true))
    (show WShape.has [] (.bool true) .bool = true by first | rfl | decide | simp [WShape.has, WShape.arms, WShape.armsAll])
    (show (WTm.eq .res (.lit (.bool true))).value [] { args := args, res := some (.bool true), after := args } = some (.bool (true == true)) from w_eq_bool (w_res rfl) w_lit) rfl

theorem attach_call {l : OpenLaw} {n : Nat} {q : Program} {loose : List Str} {XP : (Str → Option Value) → Heap → Prop} {YP : World → Heap → Prop} {d : DefRec}
    (hn : l.most = some n) (hdf : d.params.defaults = [])
    (call : ∀ (w : World) (s₀ s₁ : Shared) (mg mb : Str → Option Value) (fa : Addr) (o : Obj) (pm cd doc : Value) (a : Addr) (vs : List Value) (ns : List Int),
      Ground q loose [] XP w s₀ mg mb s₁.heap → YP w s₁.heap →
      s₁.heap.get? fa = some o → o.data = .func (docDef d.name d.params d.body d.scope pm cd doc) → s₁.heap.CodeRec cd d.name → mg d.name = some (.ref fa) →
      s₁.heap.get? a = some { cls := .type "list", data := .seq vs.toArray } → IntsAre vs ns → ns.length ≤ n → s₁.gens = #[] →
      codeAny (model l.prog w) callerA (.call (.ref fa) ⟨[.ref a], []⟩) (fun r s' => r = .ok (.ret (.bool true)) ∧ OldK s₁.heap s'.heap ∧ s'.os = s₁.os ∧ AllBare s'.gens) s₁) :
    WalkO q loose XP YP l.row.toRowW d [] (fun f vs => PySem.call f vs) := by
  intro w s₀ s₁ mg mb G Y fa o pm cd doc dV kV ho hd hcd hD hmg hg args vals as hpre hlay hrd hwl hlo
  obtain rfl : dV = .none := Dflts.none hD hdf
  obtain rfl : kV = .none := Dflts.noKw hD
  obtain ⟨a, vs, ns, rfl, rfl, hobj, hints, hlen⟩ := script_of hn hpre hwl
  refine enter_call (codeAny_mono (call w s₀ s₁ mg mb fa o pm cd doc a vs ns G Y ho (fd_plain hd) hcd hmg hobj hints hlen hg) fun r s' hq => ?_)
  obtain ⟨rfl, h2, h3, h4⟩ := hq
  exact ⟨.inl ⟨.bool true, .bool true, [], rfl, fun _ => rfl, .bool true, post_true l _, fun _ => ⟨List.Pairwise.nil, fun _ hm => (nomatch hm)⟩⟩, h2, h3, h4⟩

section
variable {prog : Program} {w : World} {A : Around} {E : Value → Shared → Prop} {s : Shared} {K : Frag}

end
end Att

namespace L2
open PySem PySem.Spec PyProof.Rows

theorem vals_ints : ∀ {vs : List Value} {ns : List Int}, IntsAre vs ns → Vals (ns.map V.int) vs
  | _, _, .nil => .nil
  | _, _, .cons n t h => .cons ⟨t, rfl⟩ (vals_ints h)

noncomputable def Only (H : Hp) : Prop := ∀ b, H b = none ∨ ∃ o xs, H b = some (.frz o (.lst xs))

theorem law_call {P : Program} {w : World} {K : PySem.W.Frag} {mg mb : Str → Option Value} {CX : CXT} {k : Nat} {fa a : Addr} {fd : FuncData} {x : Str} {sp : Sp} {s₁ : Shared} {vs : List Value} {ns : List Int}
    (KX : K.In s₁.heap) (hns : s₁.heap.Ns mainGlobals mg) (hb : s₁.heap.Ns builtinsNs mb) (hbb : ∀ x : Str, x ≠ "__name__" → mb x = bootBuiltins x) (hlim : s₁.heap.NoLimit) (hg : s₁.gens = #[])
    (ha : s₁.heap.get? a = some { cls := .type "list", data := .seq vs.toArray }) (hi : IntsAre vs ns) (hl : ns.length ≤ sizeLine) (hr : Room k callerA)
    (F : ∀ base : Heap, K.In base → base.Ns mainGlobals mg → FnOk P w K mg base CX k fa fd [x] sp) (hbind : ∀ (s : Shared) (u : Value), BindsTo s fd ⟨[u], []⟩ [(x, u)])
    (hsp : ∀ H : Hp, Only H → SqL K H a (ns.map V.int) → sp [.ref a] H (fun v _ => v = .bl true) fun _ _ _ => False)
    (hCX : ∀ H e s', CX [] H s₁ (fun _ _ _ => False) e s' → False) :
    codeAny (model P w) callerA (.call (.ref fa) ⟨[.ref a], []⟩) (fun r s' => r = .ok (.ret (.bool true)) ∧ OldK s₁.heap s'.heap ∧ s'.os = s₁.os ∧ AllBare s'.gens) s₁ := by
  have rv := vals_ints hi
  have lenV := hi.length
  -- from an abstract heap in which nothing but the script may be tracked
  have core : ∀ H : Hp, Only H → SqL K H a (ns.map V.int) → HOk P w H s₁.heap → (∀ b, H b ≠ none → b = a) → (H a ≠ none → K.lookup a = none) →
      codeAny (model P w) callerA (.call (.ref fa) ⟨[.ref a], []⟩) (fun r s' => r = .ok (.ret (.bool true)) ∧ OldK s₁.heap s'.heap ∧ s'.os = s₁.os ∧ AllBare s'.gens) s₁ := by
    intro H hO hS hok hA hK
    have base_of : ∀ {b : Addr} {o : Obj}, s₁.heap.get? b = some o → H b = none → (hidT s₁.heap H).get? b = some o := fun e n => hidT_get e n
    have noA : ∀ {b : Addr} {o : Obj} {es : Array DictEntry} {ep : Nat}, s₁.heap.get? b = some o → o.data = .dict es ep → H b = none := fun {b o es ep} e d => by
      cases q : H b with
      | none => rfl
      | some u =>
        have e' : b = a := hA b (by rw [q]; simp)
        subst e'
        rw [ha] at e; cases e
        have d' : Data.seq vs.toArray _ = Data.dict es ep := d
        cases d'
    have nsK : ∀ {b : Addr} {m : Str → Option Value}, s₁.heap.Ns b m → (hidT s₁.heap H).Ns b m := fun {b m} ⟨o, es, ep, e, d, r⟩ => ⟨o, es, ep, base_of e (noA e d), d, r⟩
    have hKb : K.In (hidT s₁.heap H) := fun b o e => base_of (KX b o e) (by
      cases q : H b with
      | none => rfl
      | some u =>
        have e' : b = a := hA b (by rw [q]; simp)
        subst e'
        rw [hK (by rw [q]; simp)] at e; cases e)
    have hM : Mod K mg (hidT s₁.heap H) := ⟨hKb, nsK hns, ⟨mb, nsK hb, hbb⟩, let ⟨mc, h1, h2⟩ := hlim; ⟨mc, nsK h1, h2⟩⟩
    have e0 : Env0 P w K mg (hidT s₁.heap H) callerA [] s₁ H := ⟨rfl, hM, fun b o e => of_hidT e, Nat.le_of_eq (hidT_size _ _), trivial, fun b hb => absurd (show b ∈ ([] : List Addr) from hb) (by simp), hok, .of_eq hg⟩
    refine codeAny_mono ((F _ hKb (nsK hns)).run callerA [] s₁ H ⟨[.ref a], []⟩ [.ref a] [.ref a] _ _ hr e0 (hbind s₁ (.ref a)) (.cons rfl .nil) (hsp H hO hS)) fun r s' h => ?_
    cases r with
    | error e => exact (hCX H e s' h).elim
    | ok fl =>
      cases fl with
      | next => exact False.elim h
      | brk => exact False.elim h
      | cont => exact False.elim h
      | ret u =>
        obtain ⟨v, H', os, bare, un, hok', r', q⟩ := h
        have q' : v = .bl true := q
        subst q'
        obtain rfl : u = Value.bool true := r'
        refine ⟨rfl, OldK.of_keep fun b o e => ?_, os, bare⟩
        cases q : H b with
        | none => exact un.keep b o e q (by intro z; exact absurd (show b ∈ ([] : List Addr) from z) (by simp)) (by simp)
        | some u =>
          rcases hO b with z | ⟨ob, xs, z⟩
          · rw [q] at z; cases z
          · have z2 := un.frzs b ob _ z
            obtain ⟨e1, _⟩ := hok b _ z
            obtain ⟨e2, _⟩ := hok' b _ z2
            rw [e] at e1; cases e1
            exact e2
  cases hk : K.lookup a with
  | some o =>
    -- the script is one of the module's own objects
    have e := KX a o hk
    rw [ha] at e
    cases e
    refine core (fun _ => none) (fun _ => .inl rfl) (.inr ⟨_, vs.toArray, _, hk, rfl, rfl, rfl, by rw [List.size_toArray, lenV]; exact hl, by simpa using rv⟩) (fun b u z => by have z' : (none : Option HO) = some u := z; cases z') (fun b z => absurd rfl z) fun z => absurd rfl z
  | none =>
    refine core (fun b => if b = a then some (.frz { cls := .type "list", data := .seq vs.toArray } (.lst (ns.map V.int))) else none) (fun b => ?_) (.inl (.inr ⟨{ cls := .type "list", data := .seq vs.toArray }, if_pos rfl⟩)) (fun b u z => ?_) (fun b z => ?_) fun _ => hk
    · by_cases hb : b = a
      · exact .inr ⟨_, _, if_pos hb⟩
      · exact .inl (if_neg hb)
    · by_cases hb : b = a
      · have z' := (if_pos hb).symm.trans z
        cases z'
        subst hb
        exact ⟨ha, by rw [List.length_map]; exact hl, vs, _, rv, ha⟩
      · have z' := (if_neg hb).symm.trans z
        cases z'
    · by_cases hb : b = a
      · exact hb
      · exact absurd (if_neg hb) z
end L2

namespace L2
open PySem PySem.Spec PyProof.Rows

theorem walk_of {l : PySem.W.OpenLaw} {n k : Nat} {q : Program} {loose : List Str} {XP : (Str → Option Value) → Heap → Prop} {YP : World → Heap → Prop} {d : DefRec} {K : Params → PySem.W.Frag} {CX : World → CXT} {sp : World → Sp} {x : Str}
    (hn : l.most = some n) (hn2 : n ≤ sizeLine) (hdf : d.params.defaults = []) (hr : Room k callerA)
    (hY : ∀ (w : World) (h : Heap), YP w h → (K w.params).In h)
    (F : ∀ (w : World) (mg : Str → Option Value) (fa : Addr) (h : Heap), (K w.params).In h → h.Ns mainGlobals mg → mg d.name = some (.ref fa) →
      ∃ fd : FuncData, (∀ (s : Shared) (u : Value), BindsTo s fd ⟨[u], []⟩ [(x, u)]) ∧
        ∀ base : Heap, (K w.params).In base → base.Ns mainGlobals mg → FnOk l.prog w (K w.params) mg base (CX w) k fa fd [x] (sp w))
    (hsp : ∀ (w : World) (H : Hp) (a : Addr) (ns : List Int), ns.length ≤ n → Only H → SqL (K w.params) H a (ns.map V.int) → sp w [.ref a] H (fun v _ => v = .bl true) fun _ _ _ => False)
    (hCX : ∀ (w : World) (H : Hp) (s : Shared) (e : Value) (s' : Shared), CX w [] H s (fun _ _ _ => False) e s' → False) :
    PySem.W.WalkO q loose XP YP l.row.toRowW d [] (fun f vs => PySem.call f vs) := by
  refine Att.attach_call hn hdf fun w s₀ s₁ mg mb fa o pm cd doc a vs ns G Y ho hd hcd hmg hobj hints hlen hg => ?_
  have KX := hY w _ Y
  obtain ⟨fd, hb, hF⟩ := F w mg fa _ KX G.T.g hmg
  exact law_call KX G.T.g G.T.b G.T.builtins G.T.nolimit hg hobj hints (Nat.le_trans hlen hn2) hr hF hb (fun H hO hS => hsp w H a ns hlen hO hS) fun H e s' => hCX w H s₁ e s'
end L2

namespace L2
open PySem PySem.Spec PyProof.Rows

noncomputable def inClass (s : Stmt) (j : Nat) : Stmt := match s with
  | .ClassDef _ _ _ body _ _ _ _ _ _ _ => body.getD j (.Pass ⟨0, 0, 0, 0⟩)
  | _ => .Pass ⟨0, 0, 0, 0⟩
noncomputable def defArgs (s : Stmt) : Arguments := match s with
  | .FunctionDef _ a _ _ _ _ _ _ _ _ => a
  | _ => { posonlyargs := [], args := [], vararg := none, kwonlyargs := [], kw_defaults := [], kwarg := none, defaults := [] }
noncomputable def defBody (s : Stmt) : List Stmt := match s with
  | .FunctionDef _ _ b _ _ _ _ _ _ _ => b
  | _ => []
noncomputable def defScope (s : Stmt) : Scope := match s with
  | .FunctionDef _ _ _ _ _ _ sc _ _ _ => sc
  | _ => { kind := .function, names := [], isGenerator := false, isCoroutine := false }

noncomputable abbrev CX0 : CXT := fun _ _ _ _ _ _ => False
noncomputable abbrev E0 : XK := fun _ _ _ => False
theorem pass0 {X : Cx} : Passes CX0 X E0 := fun _ _ _ _ _ _ _ h => h.elim

structure Fun (K : PySem.W.Frag) (x qual : Str) (st : Stmt) (f : Addr) (fd : FuncData) : Prop where
  ex : ∃ (oc : Value) (od : Option Addr) (kV doc pm : Value) (an : Option Addr) (cdv ct : Value) (osl : Array (Option Value)),
    fd = PySem.W.fnOf x qual (defArgs st) (defBody st) (defScope st) .none kV doc pm an cdv ct ∧ K.lookup f = some ⟨oc, od, .func fd, osl⟩ ∧ PySem.W.codeIn K cdv qual = true
  kp : PySem.W.keepIn K (.ref f) = true
section
variable {P : Program} {w : World} {K : PySem.W.Frag} {mg : Str → Option Value} {base : Heap}
theorem Fun.ok {x qual : Str} {st : Stmt} {f : Addr} {fd : FuncData} {N ps : List Str} {k : Nat} {sp : Sp} (F : Fun K x qual st f fd) (S : FnScope N ps (defScope st)) (len : ∀ vs H Q E, sp vs H Q E → vs.length = ps.length)
    (hbody : ∀ (cdv : Value) (A : Around) (outer : List Env) (s : Shared) (H : Hp) (vs : List V) (Q : VK) (E : XK), Room k (A.deeper (envOfC qual (defScope st) s.heap.objs.size f cdv)) → sp vs H Q E →
      ∃ t, PSs (cxOf CX0 P w K mg base N qual (defScope st) f cdv A outer s H E).nox (defBody st) t ∧ t { nx := fun _ H' => Q .non H', rt := Q } (start N vs) H) : FnOk P w K mg base CX0 (k + 1) f fd ps sp := by
  obtain ⟨oc, od, kV, doc, pm, an, cdv, ct, osl, rfl, lk, hcd⟩ := F.ex
  refine fn_of lk hcd S len fun A outer s H vs Q E hr hsp => ?_
  obtain ⟨t, h, q⟩ := hbody cdv A outer s H vs Q E hr hsp
  exact ⟨t, h.nox, q⟩
theorem Fun.binds {x qual : Str} {st : Stmt} {f : Addr} {fd : FuncData} {ps : List Str} (F : Fun K x qual st f fd)
    (h : ∀ (kV doc pm : Value) (an : Option Addr) (cdv ct : Value) (us : List Value), us.length = ps.length → bindArgs (PySem.W.fnOf x qual (defArgs st) (defBody st) (defScope st) .none kV doc pm an cdv ct) ⟨us, []⟩ = pure (ps.zip us)) : Binds K fd ps [] := by
  obtain ⟨oc, od, kV, doc, pm, an, cdv, ct, osl, rfl, lk, hcd⟩ := F.ex
  exact .all (h kV doc pm an cdv ct)
end
section
variable {X : Cx}
theorem pv (i : Nat) {x : Str} {pos : Pos} (hN : X.N[i]? = some x := by rfl) (hv : Vis X.env.scope x := by first | exact Or.inl rfl | exact Or.inr (Or.inl rfl) | exact Or.inr (Or.inr rfl)) (hd : (x == ("__debug__" : Str)) = false := by decide)
    (hcd : (x == ("__classdict__" : Str)) = false := by decide) : PE X (.Name x pos) (tVar i) := pe_var hN hv hd hcd
end

theorem ite2 {c A B : Prop} [Decidable c] (h1 : c → A) (h2 : ¬ c → B) : if c then A else B := by
  by_cases h : c
  · rw [if_pos h]
    exact h1 h
  · rw [if_neg h]
    exact h2 h
noncomputable def Same (H H' : Hp) : Prop := ∀ b o, H b = some o → H' b = some o
theorem Same.refl (H : Hp) : Same H H := fun _ _ h => h
theorem Same.trans {H H1 H2 : Hp} (a : Same H H1) (b : Same H1 H2) : Same H H2 := fun c o h => b c o (a c o h)
theorem Same.free {H H' : Hp} (e : Same H H') {l : Addr} (h : H' l = Option.none) : H l = Option.none := by
  cases q : H l with
  | none => rfl
  | some o =>
    rw [e l o q] at h
    cases h
theorem Same.seq {K : PySem.W.Frag} {H H' : Hp} {a : Addr} {xs : List V} (e : Same H H') (h : SqL K H a xs) : SqL K H' a xs := by
  rcases h with (h | ⟨o, h⟩) | h
  · exact .inl (.inl (e _ _ h))
  · exact .inl (.inr ⟨o, e _ _ h⟩)
  · exact .inr h

end L2

namespace L2
open PySem PySem.Spec PyProof.Rows

end L2

namespace L2
open PySem PySem.Spec PyProof.Rows

section
variable (P : Program) (w : World)
end

section
variable {P : Program} {w : World} {H H' : Hp} {h h' : Heap} {a : Addr} {o : HO}
end

section
variable {P : Program} {w : World} {H : Hp} {h h' : Heap} {x e : Addr} {o' : HO}
end

section
variable {fs fs' ex ex' : List Addr} {H H1 H2 : Hp} {h h1 h2 h' : Heap} {a x e : Addr} {o : HO}
end

end L2

namespace L2
open PySem PySem.Spec PyProof.Rows

section
variable {X : Cx} {pins : List (Addr × Obj)} {σ : List (Option V)} {H H' : Hp} {s : Shared} {h' : Heap}

end

end L2

namespace L2
open PySem PySem.Spec PyProof.Rows
section
variable {X : Cx}

variable {a b : Expr} {ta tb : TE} {pos : Pos}
variable {tA tB' : TT} {rest : List Expr}
end
end L2

namespace L2
open PySem PySem.Spec PyProof.Rows

section
variable {X : Cx} {pins : List (Addr × Obj)} {σ : St} {H : Hp} {s : Shared} {a : Addr} {xs ys : List V}
end

section
variable {X : Cx} {pins : List (Addr × Obj)} {σ : St} {H : Hp} {s : Shared} {E : Value → Shared → Prop}
end

section
variable {X : Cx} {st : Stmt} {rest : List Stmt} {t u : TS} {e : Expr} {te : TE} {pos : Pos}
end

section
variable {X : Cx} {pos : Pos}
end

section
variable {X : Cx} {pos : Pos}
end

end L2

namespace L2
open PySem PySem.Spec PyProof.Rows
section
variable {X : Cx} {tg : Expr}
end

end L2

namespace L2
open PySem PySem.Spec PyProof.Rows

section
variable {X : Cx} {a b c : Expr} {ta tb tc : TE} {pos : Pos}

end

section
variable {X : Cx} {a b c : Expr} {ta tb tc : TE} {pos : Pos}
end
end L2

namespace L2
open PySem PySem.Spec PyProof.Rows

section
variable {prog : Program} {w : World} {A : Around} {E : Value → Shared → Prop} {s : Shared} {K : PySem.W.Frag} {x dx C f : Addr} {mA : Str → Option Value} {name : Str} {v : Value}

end

section
variable {P : Program} {w : World} {H H' : Hp} {h h' : Heap} {a C dx : Addr} {fs fs' : List (Str × V)}
end

section
variable {X : Cx} {pins : List (Addr × Obj)} {σ : St} {H : Hp} {s : Shared} {a C dx : Addr} {fs : List (Str × V)} {f : Str} {v : V} {A : Around} {E : Value → Shared → Prop}

end

section
variable {X : Cx} {o e value : Expr} {f : Str} {pos pos' tpos : Pos} {ta tv : TE}
end

section
variable {X : Cx} {pins : List (Addr × Obj)} {σ : St} {H : Hp} {s : Shared} {A : Around} {E : Value → Shared → Prop} {Q : Value → Shared → Prop} {c : Value} {b : Bool}
end
end L2

namespace L2
open PySem PySem.Spec PyProof.Rows

section
variable {X : Cx} {e : Expr} {es : List Expr} {te : TE} {t : TA} {pos : Pos}
end

section
variable {X : Cx} {pins : List (Addr × Obj)} {σ : St} {H : Hp} {s s' : Shared}
end

section
variable {X : Cx} {CX : CXT} {k : Nat} {f C : Addr} {fd : FuncData} {ps : List Str} {sp : Sp} {dvs : List V} {ds : List Value} {E : XK} {x m : Str} {p pos apos : Pos} {e o : Expr} {es : List Expr} {ta : TE} {t : TA}

end

section
variable {X : Cx} {CX : CXT} {k : Nat} {f C : Addr} {fd : FuncData} {ps ks : List Str} {sp : Sp} {E : XK} {x m : Str} {p pos apos kpos : Pos} {e o : Expr} {es : List Expr} {kws : List Keyword} {te ta : TE} {t tk : TA} {nm : Option Str}
variable {g : List Value → List Value → List Value} {gV : List V → List V → List V}
end

end L2

namespace L2
open PySem PySem.Spec PyProof.Rows
section
variable {X : Cx} {x : Str} {p pos : Pos} {e : Expr} {es : List Expr} {t : TA} {id T : String} {r : List V → Hp → VK → Prop}

end
end L2

namespace L2
open PySem PySem.Spec PyProof.Rows

section
variable {κ : Type} [DecidableEq κ]
noncomputable def valV (kvs : List (κ × V)) (k : κ) : Option V := (kvs.find? fun kv => decide (kv.1 = k)).map (·.2)
noncomputable def putK (kvs : List (κ × V)) (k : κ) (v : V) : List (κ × V) :=
  if (kvs.any fun kv => decide (kv.1 = k)) = true then kvs.map (fun kv => if kv.1 = k then (kv.1, v) else kv) else kvs ++ [(k, v)]
noncomputable def dropK (kvs : List (κ × V)) (k : κ) : List (κ × V) := kvs.filter fun kv => decide (kv.1 ≠ k)

theorem valV_pos {p : κ × V} {r : List (κ × V)} {k : κ} (e : p.1 = k) : valV (p :: r) k = some p.2 := by simp [valV, List.find?_cons, e]
theorem valV_neg {p : κ × V} {r : List (κ × V)} {k : κ} (e : ¬ p.1 = k) : valV (p :: r) k = valV r k := by simp [valV, List.find?_cons, e]
theorem valV_any (k : κ) : ∀ kvs : List (κ × V), (kvs.any fun kv => decide (kv.1 = k)) = (valV kvs k).isSome
  | [] => rfl
  | p :: r => by
    rw [List.any_cons]
    by_cases e : p.1 = k
    · simp only [valV_pos e, decide_eq_true e, Bool.true_or, Option.isSome_some]
    · rw [valV_neg e, decide_eq_false e, Bool.false_or]; exact valV_any k r
theorem RelO.isSome_eq {o : Option V} {u : Option Value} (r : RelO o u) : o.isSome = u.isSome := by
  cases o with
  | none => cases u with
    | none => rfl
    | some _ => exact (show False from r).elim
  | some _ => cases u with
    | none => exact (show False from r).elim
    | some _ => rfl
theorem RelO.getD {o : Option V} {u : Option Value} {d : V} {d' : Value} (r : RelO o u) (rd : RelV d d') : RelV (o.getD d) (u.getD d') := by
  cases o with
  | none => cases u with
    | none => exact rd
    | some _ => exact (show False from r).elim
  | some _ => cases u with
    | none => exact (show False from r).elim
    | some _ => exact r

theorem KV.val {kvs : List (κ × V)} {vs : List (κ × Value)} (r : KV kvs vs) (k : κ) : RelO (valV kvs k) (valueAt vs k) := by
  unfold KV at r
  induction r with
  | nil => exact True.intro
  | @cons p q ps qs h t ih =>
    obtain ⟨h1, h2⟩ := h
    by_cases e : p.1 = k
    · have e' : q.1 = k := h1.symm.trans e
      have b : valueAt (q :: qs) k = some q.2 := by simp [valueAt, List.find?_cons, e']
      rw [valV_pos e, b]; exact h2
    · have e' : ¬ q.1 = k := fun z => e (h1.trans z)
      have b : valueAt (q :: qs) k = valueAt qs k := by simp [valueAt, List.find?_cons, e']
      rw [valV_neg e, b]; exact ih
theorem KV.any {kvs : List (κ × V)} {vs : List (κ × Value)} (r : KV kvs vs) (k : κ) : (kvs.any fun kv => decide (kv.1 = k)) = vs.any fun kv => decide (kv.1 = k) := by
  unfold KV at r
  induction r with
  | nil => rfl
  | cons h t ih => rw [List.any_cons, List.any_cons, ih, h.1]
theorem KV.repl {kvs : List (κ × V)} {vs : List (κ × Value)} (r : KV kvs vs) (k : κ) {y : V} {u : Value} (ry : RelV y u) :
    KV (kvs.map fun kv => if kv.1 = k then (kv.1, y) else kv) (vs.map fun kv => if kv.1 = k then (kv.1, u) else kv) := by
  unfold KV at r ⊢
  induction r with
  | nil => exact .nil
  | @cons p q ps qs h t ih =>
    rw [List.map_cons, List.map_cons]
    refine .cons ?_ ih
    obtain ⟨h1, h2⟩ := h
    by_cases e : p.1 = k
    · rw [if_pos e, if_pos (h1.symm.trans e)]; exact ⟨h1, ry⟩
    · rw [if_neg e, if_neg (fun z => e (h1.trans z))]; exact ⟨h1, h2⟩
theorem KV.put {kvs : List (κ × V)} {vs : List (κ × Value)} (r : KV kvs vs) (k : κ) {y : V} {u : Value} (ry : RelV y u) : KV (putK kvs k y) (stored vs k u) := by
  unfold putK stored
  rw [r.any k]
  by_cases e : (vs.any fun kv => decide (kv.1 = k)) = true
  · rw [if_pos e, if_pos e]; exact r.repl k ry
  · rw [if_neg e, if_neg e]; exact Paired.snoc r ⟨rfl, ry⟩
theorem KV.drop {kvs : List (κ × V)} {vs : List (κ × Value)} (r : KV kvs vs) (k : κ) : KV (dropK kvs k) (without vs k) := by
  unfold KV at r ⊢
  unfold dropK without
  induction r with
  | nil => exact .nil
  | @cons p q ps qs h t ih =>
    obtain ⟨h1, h2⟩ := h
    rw [List.filter_cons, List.filter_cons]
    by_cases e : p.1 = k
    · have a : ¬ decide (p.1 ≠ k) = true := by simp [e]
      have b : ¬ decide (q.1 ≠ k) = true := by simp [h1.symm.trans e]
      rw [if_neg a, if_neg b]; exact ih
    · have e' : ¬ q.1 = k := fun z => e (h1.trans z)
      have a : decide (p.1 ≠ k) = true := by simp [e]
      have b : decide (q.1 ≠ k) = true := by simp [e']
      rw [if_pos a, if_pos b]; exact .cons ⟨h1, h2⟩ ih
theorem KV.keys {kvs : List (κ × V)} {vs : List (κ × Value)} (r : KV kvs vs) : kvs.map (·.1) = vs.map (·.1) := by
  unfold KV at r
  induction r with
  | nil => rfl
  | cons h t ih => rw [List.map_cons, List.map_cons, ih, h.1]
theorem KV.length {kvs : List (κ × V)} {vs : List (κ × Value)} (r : KV kvs vs) : kvs.length = vs.length := Paired.length r
end


noncomputable abbrev KT (H : Hp) : List (List Key × V) → List (List Key × Addr × Value) → Prop := Paired fun p q => p.1 = q.1 ∧ H q.2.1 = some (.tup (p.1.map kV)) ∧ RelV p.2 q.2.2
theorem KT.val {H : Hp} {kvs : List (List Key × V)} {xs : List (List Key × Addr × Value)} (r : KT H kvs xs) (k : List Key) : RelO (valV kvs k) ((atKey xs k).map (·.2)) := by
  induction r with
  | nil => exact True.intro
  | @cons p q ps qs h t ih =>
    obtain ⟨h1, _, h2⟩ := h
    by_cases e : p.1 = k
    · have e' : q.1 = k := h1.symm.trans e
      have b : atKey (q :: qs) k = some q.2 := by simp [atKey, List.find?_cons, e']
      rw [valV_pos e, b]; exact h2
    · have e' : ¬ q.1 = k := fun z => e (h1.trans z)
      have b : atKey (q :: qs) k = atKey qs k := by simp [atKey, List.find?_cons, e']
      rw [valV_neg e, b]; exact ih
theorem KT.repl {H : Hp} {kvs : List (List Key × V)} {xs : List (List Key × Addr × Value)} (r : KT H kvs xs) (k : List Key) {y : V} {u : Value} (ry : RelV y u) :
    KT H (kvs.map fun kv => if kv.1 = k then (kv.1, y) else kv) (xs.map (putAt k u)) := by
  induction r with
  | nil => exact .nil
  | @cons p q ps qs h t ih =>
    rw [List.map_cons, List.map_cons]
    refine .cons ?_ ih
    obtain ⟨h1, h2, h3⟩ := h
    unfold putAt
    by_cases e : p.1 = k
    · rw [if_pos e, if_pos (h1.symm.trans e)]; exact ⟨h1, h2, ry⟩
    · rw [if_neg e, if_neg (fun z => e (h1.trans z))]; exact ⟨h1, h2, h3⟩
theorem KT.put {H : Hp} {kvs : List (List Key × V)} {xs : List (List Key × Addr × Value)} (r : KT H kvs xs) (k : List Key) {b : Addr} {y : V} {u : Value} (hb : H b = some (.tup (k.map kV))) (ry : RelV y u) :
    KT H (putK kvs k y) (storedH xs k b u) := by
  have e : (kvs.any fun kv => decide (kv.1 = k)) = (atKey xs k).isSome := by
    rw [valV_any, (r.val k).isSome_eq, Option.isSome_map]
  unfold putK storedH
  rw [e]
  by_cases q : (atKey xs k).isSome = true
  · rw [if_pos q, if_pos q]; exact r.repl k ry
  · rw [if_neg q, if_neg q]; exact Paired.snoc r ⟨rfl, hb, ry⟩
theorem KT.keeps {H H' : Hp} {kvs : List (List Key × V)} {xs : List (List Key × Addr × Value)} (r : KT H kvs xs) (ht : ∀ b ys, H b = some (.tup ys) → H' b = some (.tup ys)) : KT H' kvs xs :=
  Paired.mapP r fun _ _ z => ⟨z.1, ht _ _ z.2.1, z.2.2⟩

section
variable {P : Program} {w : World} {H : Hp} {h : Heap} {a : Addr}
end

noncomputable def DGet (H : Hp) (a : Addr) (y : V) (r : Option V) : Prop :=
  (∃ kvs k, Rd H a (.dK kvs) ∧ y = kV k ∧ r = valV kvs k) ∨ ∃ kvs k b, Rd H a (.dT kvs) ∧ y = .ref b ∧ H b = some (.tup (k.map kV)) ∧ r = valV kvs k
noncomputable def DPut (H : Hp) (a : Addr) (y v : V) (H' : Hp) : Prop :=
  (∃ kvs k, H a = some (.dK kvs) ∧ y = kV k ∧ kvs.length < sizeLine ∧ H' = upd H a (.dK (putK kvs k v))) ∨
  ∃ kvs k b, H a = some (.dT kvs) ∧ y = .ref b ∧ H b = some (.tup (k.map kV)) ∧ kvs.length < sizeLine ∧ H' = upd H a (.dT (putK kvs k v))
theorem DGet.k {H : Hp} {a : Addr} {kvs : List (Key × V)} {k : Key} (e : H a = some (.dK kvs)) : DGet H a (kV k) (valV kvs k) := .inl ⟨kvs, k, .inl e, rfl, rfl⟩
theorem DGet.t {H : Hp} {a b : Addr} {kvs : List (List Key × V)} {k : List Key} (e : H a = some (.dT kvs)) (eb : H b = some (.tup (k.map kV))) : DGet H a (.ref b) (valV kvs k) := .inr ⟨kvs, k, b, .inl e, rfl, eb, rfl⟩
theorem DPut.k {H : Hp} {a : Addr} {kvs : List (Key × V)} {k : Key} {v : V} (e : H a = some (.dK kvs)) (hl : kvs.length < sizeLine) : DPut H a (kV k) v (upd H a (.dK (putK kvs k v))) := .inl ⟨kvs, k, e, rfl, hl, rfl⟩
theorem DPut.t {H : Hp} {a b : Addr} {kvs : List (List Key × V)} {k : List Key} {v : V} (e : H a = some (.dT kvs)) (eb : H b = some (.tup (k.map kV))) (hl : kvs.length < sizeLine) :
    DPut H a (.ref b) v (upd H a (.dT (putK kvs k v))) := .inr ⟨kvs, k, b, e, rfl, eb, hl, rfl⟩


section
variable {X : Cx} {pins : List (Addr × Obj)} {σ : St} {H : Hp} {s : Shared} {a : Addr} {y v : V} {u r : Value} {o : Option V} {A : Around} {E : Value → Shared → Prop}

end

section
variable {X : Cx} {pins : List (Addr × Obj)} {σ : St} {H : Hp} {s : Shared} {a : Addr} {kvs : List (Key × V)} {k : Key} {u : Value} {A : Around} {E : Value → Shared → Prop}
end


section
variable {X : Cx} {o i e value : Expr} {pos pos' tpos : Pos} {td ty tv : TE}
end


noncomputable def tDNewK : TE := fun _ H Q => ∀ p, H p = none → Q (.ref p) (upd H p (.dK []))
section
variable {X : Cx} {pos : Pos}
end

noncomputable def tPairs : List (TE × TE) → St → Hp → (List (V × V) → Hp → Prop) → Prop
  | [], _, H, Q => Q [] H
  | (tk, tv) :: r, σ, H, Q => tk σ H fun x H1 => tv σ H1 fun y H2 => tPairs r σ H2 fun ps H3 => Q ((x, y) :: ps) H3
noncomputable abbrev VV : List (V × V) → List (Value × Value) → Prop := Paired fun p q => RelV p.1 q.1 ∧ RelV p.2 q.2
noncomputable def PPs (X : Cx) (pos : Pos) (keys : List (Option Expr)) (values : List Expr) (trs : List (TE × TE)) : Prop :=
  ∀ (pins : List (Addr × Obj)) (s : Shared) (σ : St) (H : Hp) (Q : List (V × V) → Hp → Prop), Inv X pins σ H s → tPairs trs σ H Q →
    wpAny (model X.prog X.w) X.A (evalPairs (pairTrees keys values X.env pos)) (fun vs s' => ∃ ps H', Inv X pins σ H' s' ∧ VV ps vs ∧ Q ps H') X.xe s
noncomputable def mergeK (kvs more : List (Key × V)) : List (Key × V) := more.foldl (fun acc kv => putK acc kv.1 kv.2) kvs
noncomputable def tDisp (trs : List (TE × TE)) : TE := fun σ H Q => ∀ p, H p = none → tPairs trs σ (upd H p (.dK [])) fun ps H2 => H2 p = some (.dK []) ∧ ∃ kvs : List (Key × V), ps = kvs.map (fun kv => (kV kv.1, kv.2)) ∧ kvs.length ≤ 15 ∧ Q (.ref p) (upd H2 p (.dK (mergeK [] kvs)))
section
variable {X : Cx} {pins : List (Addr × Obj)} {σ : St} {H : Hp} {s : Shared} {a : Addr} {y d : V} {u r : Value} {o : Option V} {A : Around} {E : Value → Shared → Prop}
end

section
variable {X : Cx} {o e f : Expr} {apos cpos : Pos} {td ty tx : TE}
end

section
variable {X : Cx} {pins : List (Addr × Obj)} {σ : St} {H : Hp} {s : Shared} {a : Addr} {kvs : List (Key × V)} {A : Around} {E : Value → Shared → Prop}
end


section
variable {X : Cx} {pins : List (Addr × Obj)} {σ : St} {H : Hp} {s : Shared} {a : Addr} {y : V} {u : Value} {A : Around} {E : Value → Shared → Prop}
end
end L2

namespace Att
open PySem PySem.W PySem.Calls PyProof.Rows

section
variable {prog : Program} {w : World} {A : Around} {E : Value → Shared → Prop} {s : Shared} {K : Frag}

end
end Att

namespace L2
open PySem PySem.Spec PyProof.Rows

end L2

namespace L2
open PySem PySem.Spec PyProof.Rows

end L2

namespace L2
open PySem PySem.Spec PyProof.Rows

section
variable {P : Program} {w : World} {K : PySem.W.Frag} {mg : Str → Option Value} {base : Heap}
end
section
variable {X : Cx}
end

section
variable {κ : Type} [DecidableEq κ]
end
end L2


namespace L2
open PySem PySem.Spec PyProof.Rows

theorem clo_forIn {env : Env} {f : Str × NameKind → List (Str × Addr) → Sem (ForInStep (List (Str × Addr)))}
    (f1 : ∀ n k cs, k ≠ NameKind.free → f (n, k) cs = pure (.yield cs)) (f2 : ∀ n cs c, env.cells.lookup n = some c → f (n, .free) cs = pure (.yield ((n, c) :: cs))) :
    ∀ (names : List (Str × NameKind)) (acc : List (Str × Addr)), (∀ x ∈ names, x.2 = .free → ∃ c, env.cells.lookup x.1 = some c) → (∀ p ∈ acc, env.cells.lookup p.1 = some p.2) →
      ∃ cl, forIn names acc f = pure cl ∧ (∀ p ∈ cl, env.cells.lookup p.1 = some p.2) ∧ (∀ p ∈ acc, p ∈ cl) ∧ ∀ x ∈ names, x.2 = .free → ∃ c, (x.1, c) ∈ cl
  | [], acc, _, ha => ⟨acc, rfl, ha, fun _ h => h, fun x hx => nomatch hx⟩
  | (n, k) :: r, acc, hn, ha => by
    by_cases hk : k = .free
    · subst hk
      obtain ⟨c, hc⟩ := hn (n, .free) List.mem_cons_self rfl
      obtain ⟨cl, e, h1, h2, h3⟩ := clo_forIn f1 f2 r ((n, c) :: acc) (fun x hx => hn x (List.mem_cons_of_mem _ hx)) (fun p hp => by
        rcases List.mem_cons.mp hp with z | z
        · subst z; exact hc
        · exact ha p z)
      refine ⟨cl, ?_, h1, fun p hp => h2 p (List.mem_cons_of_mem _ hp), fun x hx hf => ?_⟩
      · rw [List.forIn_cons, f2 n acc c hc, pure_bind]
        exact e
      · rcases List.mem_cons.mp hx with z | z
        · subst z; exact ⟨c, h2 _ List.mem_cons_self⟩
        · exact h3 x z hf
    · obtain ⟨cl, e, h1, h2, h3⟩ := clo_forIn f1 f2 r acc (fun x hx => hn x (List.mem_cons_of_mem _ hx)) ha
      refine ⟨cl, ?_, h1, h2, fun x hx hf => ?_⟩
      · rw [List.forIn_cons, f1 n k acc hk, pure_bind]
        exact e
      · rcases List.mem_cons.mp hx with z | z
        · subst z; exact absurd hf hk
        · exact h3 x z hf
theorem closure_ok {scope : Scope} {env : Env} (h : ∀ x ∈ scope.names, x.2 = .free → ∃ c, env.cells.lookup x.1 = some c) :
    ∃ cl, closureFor scope env = pure cl ∧ (∀ p ∈ cl, env.cells.lookup p.1 = some p.2) ∧ ∀ x ∈ scope.names, x.2 = .free → ∃ c, (x.1, c) ∈ cl := by
  obtain ⟨cl, e, h1, _, h3⟩ := clo_forIn (env := env) (f := fun (x : Str × NameKind) (cs : List (Str × Addr)) => if (x.2 == NameKind.free) = true then (do let a ← cellOf env x.1; pure (ForInStep.yield ((x.1, a) :: cs))) else pure (ForInStep.yield cs)) (fun n k cs hk => by
    have hk' : (k == NameKind.free) = false := by simpa using hk
    simp only [hk', Bool.false_eq_true, if_false]) (fun n cs c hc => by
    simp only [beq_self_eq_true, if_true, cellOf, hc, pure_bind]) scope.names [] h (fun p hp => nomatch hp)
  refine ⟨cl, ?_, h1, h3⟩
  rw [← e]
  simp only [closureFor]
  simp
theorem lookup_has {cl : List (Str × Addr)} {n : Str} {c : Addr} (h : (n, c) ∈ cl) : ∃ d, cl.lookup n = some d := by
  induction cl with
  | nil => exact nomatch h
  | cons p r ih =>
    obtain ⟨m, d⟩ := p
    rw [List.lookup_cons]
    cases e : n == m with
    | true => exact ⟨d, rfl⟩
    | false =>
      rcases List.mem_cons.mp h with z | z
      · cases z; simp at e
      · exact ih z

noncomputable def relS (scope sc : Scope) : List (Str × NameKind) := scope.names.map fun (n, k) => if (k == .free && sc.kind == .function && sc.names.lookup n == some .cell) then (n, .cell) else (n, k)
noncomputable def compChk (sc scope : Scope) (NX N' : List Str) (src : List (Option Nat)) : Bool :=
  decide (scope.kind = .function) && scope.names.all (fun y => decide (y.2 ≠ .cell)) && scope.names.all (fun y => decide (y.2 ≠ .local) || decide (scope.names.lookup y.1 = some .local)) &&
  scope.names.all (fun y => decide (y.2 ≠ .free) || decide (sc.names.lookup y.1 = some .cell) || decide (sc.names.lookup y.1 = some .free)) && decide (src.length = N'.length) &&
  (N'.zip src).all (fun p => match p.2 with
    | none => true
    | some j => decide (NX[j]? = some p.1) && (decide (sc.names.lookup p.1 = some .cell) || decide (sc.names.lookup p.1 = some .free)) && (decide ((relS scope sc).lookup p.1 = some .cell) || decide ((relS scope sc).lookup p.1 = some .free)))
structure CompScope (sc scope : Scope) (NX N' : List Str) (src : List (Option Nat)) : Prop where
  kind : scope.kind = .function
  nocell : ∀ y ∈ scope.names, y.2 ≠ .cell
  names : ∀ y ∈ scope.names, y.2 = .local → scope.names.lookup y.1 = some .local
  free : ∀ y ∈ scope.names, y.2 = .free → sc.names.lookup y.1 = some .cell ∨ sc.names.lookup y.1 = some .free
  len : src.length = N'.length
  at_ : ∀ (i j : Nat) (x : Str), src[i]? = some (some j) → N'[i]? = some x → NX[j]? = some x ∧ (sc.names.lookup x = some .cell ∨ sc.names.lookup x = some .free) ∧ ((relS scope sc).lookup x = some .cell ∨ (relS scope sc).lookup x = some .free)
theorem CompScope.of {sc scope : Scope} {NX N' : List Str} {src : List (Option Nat)} (h : compChk sc scope NX N' src = true) : CompScope sc scope NX N' src := by
  unfold compChk at h
  simp only [Bool.and_eq_true, List.all_eq_true, decide_eq_true_eq, Bool.or_eq_true] at h
  obtain ⟨⟨⟨⟨⟨h1, h2⟩, h3⟩, h4⟩, h5⟩, h6⟩ := h
  refine ⟨h1, h2, fun y hy e => ?_, fun y hy e => ?_, h5, fun i j x e1 e2 => ?_⟩
  · rcases h3 y hy with z | z
    · exact absurd e z
    · exact z
  · rcases h4 y hy with (z | z) | z
    · exact absurd e z
    · exact .inl z
    · exact .inr z
  · have hm : (x, some j) ∈ N'.zip src := by
      refine List.mem_of_getElem? (i := i) ?_
      rw [List.getElem?_zip_eq_some]
      exact ⟨e2, e1⟩
    have q := h6 _ hm
    simp only [Bool.and_eq_true, Bool.or_eq_true, decide_eq_true_eq] at q
    exact ⟨q.1.1, q.1.2, q.2⟩

noncomputable def cxComp (X : Cx) (N' : List Str) (scope : Scope) (cl : List (Str × Addr)) (C : Addr) (fp : List Addr) (pn : List (Addr × Obj)) (s₂ : Shared) (H₂ : Hp) : Cx where
  prog := X.prog
  w := X.w
  K := X.K
  mg := X.mg
  base := X.base
  A := X.A
  N := N'
  s₀ := s₂
  H₀ := H₂
  env := compEnvC scope cl C X.env
  outer := X.stack
  stack := X.stack
  ex := fp
  fn := fun _ => false
  calm := X.calm
  pn := pn
  xe := fun _ _ => False
noncomputable def stComp (src : List (Option Nat)) (σ : St) : St := src.map fun o => match o with
  | none => none
  | some j => (σ[j]?).join
theorem stComp_get {src : List (Option Nat)} {σ : St} {i : Nat} {v : V} (h : (stComp src σ)[i]? = some (some v)) : ∃ j, src[i]? = some (some j) ∧ σ[j]? = some (some v) := by
  unfold stComp at h
  rw [List.getElem?_map] at h
  cases e : src[i]? with
  | none => rw [e] at h; cases h
  | some o =>
    rw [e] at h
    cases o with
    | none => cases h
    | some j =>
      refine ⟨j, rfl, ?_⟩
      have h' : (σ[j]?).join = some v := Option.some.inj h
      cases q : σ[j]? with
      | none => rw [q] at h'; cases h'
      | some z => rw [q] at h'; rw [show z = some v from h']

noncomputable def PIf (X : Cx) (ifs : List Expr) (t : TT) : Prop :=
  ∀ (pins : List (Addr × Obj)) (s : Shared) (σ : St) (H : Hp) (Q : Bool → Hp → Prop), Inv X pins σ H s → t σ H Q →
    wpAny (model X.prog X.w) X.A (forIn ifs true fun c r => if r = true then do let ok ← isTrue c X.env (eval c X.env); pure (ForInStep.yield ok) else pure (ForInStep.yield r)) (TP X pins σ Q) X.xe s
noncomputable def tYes : TT := fun _ H Q => Q true H
theorem pif_nil {X : Cx} : PIf X [] tYes := fun pins s σ H Q I h => wpAny_tests_nil ⟨H, I, h⟩
noncomputable def KeepSt (σ σ' : St) : Prop := σ'.length = σ.length ∧ ∀ (i : Nat) v, σ[i]? = some (some v) → σ'[i]? = some (some v)
theorem KeepSt.set {src : List (Option Nat)} {σ : St} {i : Nat} {x : V} (h : src[i]? = some none) : KeepSt (stComp src σ) ((stComp src σ).set i (some x)) := by
  refine ⟨List.length_set, fun j v e => ?_⟩
  have ne : i ≠ j := by
    rintro rfl
    obtain ⟨k, e1, _⟩ := stComp_get e
    rw [h] at e1; cases e1
  rw [List.getElem?_set_ne ne]
  exact e
noncomputable def tComp (src : List (Option Nat)) (wi : TI) (g : TG) (tc : TT) (te : TE) : TE := fun σ H Q => wi σ H fun J H1 => ∃ W : Nat → Nat → List V → Hp → Prop, (∃ m, W 0 m [] H1) ∧ ∀ i m ys H, W i m ys H →
  (J.stop i H ∧ ∀ l, H l = none → Q (.ref l) (upd H l (.lst ys))) ∨
  (J.go i H ∧ ys.length < sizeLine ∧ ∀ x H', J.yld i H x H' → g x (stComp src σ) H' fun σ2 H2 => KeepSt (stComp src σ) σ2 ∧ tc σ2 H2 fun b H3 => if b = true then te σ2 H3 fun y H4 => ∃ m', m' < m ∧ W (i + 1) m' (ys ++ [y]) H4 else ∃ m', m' < m ∧ W (i + 1) m' ys H3)

section
variable {prog : Program} {w : World} {A : Around} {R : Result → Shared → Prop} {s : Shared}
theorem compLoop_go {elt target iter : Expr} {ifs : List Expr} {scope : Scope} {pos : Pos} {it acc : Value} {env : Env} (I : Nat → Shared → Prop)
    (turn : ∀ n s, I n s → wpAny (model prog w) A (pyNext it) (fun r s₁ => match r with
      | none => R (.ok .next) s₁
      | some v => wpAny (model prog w) A (letOwnedTupleGo target it v) (fun _ s₀ => wpAny (model prog w) A (assign target env v) (fun _ s₂ =>
          wpAny (model prog w) A (forIn ifs true fun c r => if r = true then do let ok ← isTrue c env (eval c env); pure (ForInStep.yield ok) else pure (ForInStep.yield r)) (fun ok s₃ =>
            if ok = true then wpAny (model prog w) A (eval elt env) (fun x s₄ =>
              wpAny (model prog w) A (call (.builtin "list.append") [acc, x]) (fun _ s₅ => ∃ m, m < n ∧ I m s₅) (fun _ _ => False) s₄) (fun _ _ => False) s₃
            else ∃ m, m < n ∧ I m s₃) (fun _ _ => False) s₂) (fun _ _ => False) s₀) (fun _ _ => False) s₁) (fun _ _ => False) s)
    (n : Nat) (h : I n s) : codeAny (model prog w) A (.compLoop (.ListComp elt [⟨target, iter, ifs, 0⟩] scope pos) 0 it acc env) R s := by
  refine codeAny_loop rfl I (fun n s hI => ?_) n h
  show wpAny _ A ((compTurn (.ListComp elt [⟨target, iter, ifs, 0⟩] scope pos) 0 it acc env).onRaise (fun x => do noteFrame x env; theTreesLotGoes x)) _ _ s
  refine wpAny_noted ?_
  rw [compTurn_list]
  refine wpAny_bind (wpAny_standAt (wpAny_bind (wpAny_mono (turn n s hI) (fun r s₁ h₁ => ?_) fun _ _ h' => h'.elim)))
  cases r with
  | none => exact wpAny_pure h₁
  | some v =>
    refine wpAny_bind (wpAny_mono h₁ (fun _ s₀ h₀ => ?_) fun _ _ h' => h'.elim)
    refine wpAny_bind (wpAny_mono h₀ (fun _ s₂ h₂ => wpAny_bind (wpAny_mono h₂ (fun ok s₃ h₃ => ?_) fun _ _ h' => h'.elim)) fun _ _ h' => h'.elim)
    cases ok with
    | false => exact wpAny_pure ⟨rfl, h₃⟩
    | true =>
      exact wpAny_bind (wpAny_bind (wpAny_mono h₃ (fun x s₄ h₄ => wpAny_bind (wpAny_mono h₄ (fun _ s₅ h₅ => wpAny_pure (wpAny_pure ⟨rfl, h₅⟩)) fun _ _ h' => h'.elim)) fun _ _ h' => h'.elim))
end

section
variable {X : Cx}
theorem rel_free {scope : Scope} {env : Env} (hn : ∀ y ∈ scope.names, y.2 ≠ .cell) {x : Str} (h : (relabel scope env).names.lookup x = some .cell ∨ (relabel scope env).names.lookup x = some .free) : (x, NameKind.free) ∈ scope.names := by
  have key : ∀ k, (k = NameKind.cell ∨ k = .free) → (relabel scope env).names.lookup x = some k → (x, NameKind.free) ∈ scope.names := fun k hk e => by
    have hm := mem_of_lookup_some e
    obtain ⟨⟨n, k0⟩, h1, h2⟩ := List.mem_map.mp hm
    dsimp only at h2
    split at h2
    · rename_i hc
      simp only [Bool.and_eq_true, beq_iff_eq] at hc
      cases h2
      rw [hc.1.1] at h1
      exact h1
    · cases h2
      rcases hk with z | z
      · subst z; exact absurd rfl (hn _ h1)
      · subst z; exact h1
  rcases h with h | h
  · exact key _ (.inl rfl) h
  · exact key _ (.inr rfl) h
theorem Inv.compOk {pins : List (Addr × Obj)} {σ : St} {H₂ : Hp} {s₂ : Shared} {scope : Scope} {N' : List Str} {src : List (Option Nat)} {cl : List (Str × Addr)} {C : Addr} {fp : List Addr} (I : Inv X pins σ H₂ s₂) (S : CompScope X.env.scope scope X.N N' src)
    (hcl1 : ∀ p ∈ cl, X.env.cells.lookup p.1 = some p.2) (hcl2 : ∀ x ∈ scope.names, x.2 = .free → ∃ c, (x.1, c) ∈ cl) (hC : s₂.heap.objs.size ≤ C) (f2 : ∀ b ∈ fp, FpOk X pins H₂ b) (fo : ∀ b ∈ fp, ∃ o, s₂.heap.get? b = some o) :
    (cxComp X N' scope cl C fp (X.pn ++ pins) s₂ H₂).Ok := by
  have cells : ∀ x c, cl.lookup x = some c → X.env.cells.lookup x = some c := fun x c e => hcl1 (x, c) (mem_of_lookup_some e)
  refine ⟨I.ok.mod, S.kind, I.ok.glob, I.ok.blt, hC, fun x y c h1 h2 => I.ok.inj x y c (cells x c h1) (cells y c h2), fun x hx => ?_, (fun _ _ h _ => nomatch h), I.ok.hd, I.ok.frames, .inl rfl, fun b hb => ⟨?_, fun x c e => ?_⟩, I.bs, ?_, fun b o e hb => ?_, fun b hb z => ?_, I.stack, I.stkFree⟩
  · obtain ⟨c, hc⟩ := hcl2 _ (rel_free S.nocell hx) rfl
    exact lookup_has hc
  · obtain ⟨o, e⟩ := fo b hb
    exact Nat.ne_of_lt (Nat.lt_of_lt_of_le (Heap.lt_size e) hC)
  · exact (f2 b hb).2.2.2.2.1 x c (cells x c e)
  · exact Nat.le_trans I.ok.bsz I.sz
  · rcases (f2 b hb).2.2.2.1 with z | z
    · exact I.ok.noex b o e z
    · exact absurd (Nat.lt_of_lt_of_le (Heap.lt_size e) (Nat.le_trans I.ok.bsz z)) (Nat.lt_irrefl _)
  · rcases List.mem_cons.mp (I.stkSub b z) with z | z
    · exact (f2 b hb).2.1 z
    · exact (f2 b hb).2.2.1 z

structure TurnC (cal : Cx → Prop) (P : Program) (w : World) (K : PySem.W.Frag) (tg : Expr) (J : It) (fp : List Addr) (it : Addr) (tn : Nat → Heap → Prop) : Prop where
  mem : it ∈ fp
  obj : ∀ i h, tn i h → ∀ b ∈ fp, ∃ o, h.get? b = some o ∧ ∀ v, o.data ≠ .cell v
  keep : ∀ i h h', tn i h → (∀ b ∈ fp, ∀ o, h.get? b = some o → h'.get? b = some o) → tn i h'
  item : ∀ (X : Cx), X.prog = P → X.w = w → X.K = K → cal X → ∀ (i : Nat) (pins : List (Addr × Obj)) (s : Shared) (σ : St) (H : Hp) (E : Value → Shared → Prop), Inv X pins σ H s → (∀ b ∈ fp, FpOk X pins H b) → tn i s.heap → J.go i H →
    wpAny (model P w) X.A (pyNext (.ref it)) (fun r s1 => ∃ u, r = some u ∧
      wpAny (model P w) X.A (letOwnedTupleGo tg (.ref it) u) (fun _ s2 => ∃ x H', Inv X pins σ H' s2 ∧ RelV x u ∧ J.yld i H x H' ∧ tn (i + 1) s2.heap ∧ ∀ b ∈ fp, H' b = none) E s1) E s
  done : ∀ (X : Cx), X.prog = P → X.w = w → X.K = K → cal X → ∀ (i : Nat) (pins : List (Addr × Obj)) (s : Shared) (σ : St) (H : Hp) (E : Value → Shared → Prop), Inv X pins σ H s → (∀ b ∈ fp, FpOk X pins H b) → tn i s.heap → J.stop i H →
    wpAny (model P w) X.A (pyNext (.ref it)) (fun r s1 => r = none ∧ Inv X pins σ H s1) E s
  self : ∀ (A : Around) (i : Nat) (s : Shared) (Q : Value → Shared → Prop) (E : Value → Shared → Prop), tn i s.heap → Q (.ref it) s → wpAny (model P w) A (pyIter (.ref it)) Q E s
theorem Turn.c {P : Program} {w : World} {K : PySem.W.Frag} {tg : Expr} {J : It} {fp : List Addr} {it : Addr} {tn : Nat → Heap → Prop} (T : Turn P w K tg J fp it tn) : TurnC (fun X => X.calm = true) P w K tg J fp it tn := ⟨T.mem, T.obj, T.keep, T.item, T.done, T.self⟩
noncomputable def PIEC (cal : Cx → Prop) (X : Cx) (pins : List (Addr × Obj)) (σ : St) (tg : Expr) (R : It → Hp → Prop) (itv : Value) (s2 : Shared) : Prop :=
  ∃ (it : Addr) (fp : List Addr) (tn : Nat → Heap → Prop) (J : It) (H' : Hp), itv = .ref it ∧ Inv X pins σ H' s2 ∧ TurnC cal X.prog X.w X.K tg J fp it tn ∧ tn 0 s2.heap ∧ (∀ b ∈ fp, FpOk X pins H' b) ∧ R J H'
noncomputable def PIC (cal : Cx → Prop) (X : Cx) (tg iter : Expr) (wi : TI) : Prop :=
  ∀ (pins : List (Addr × Obj)) (s : Shared) (σ : St) (H : Hp) (R : It → Hp → Prop), Inv X pins σ H s → wi σ H R →
    wpAny (model X.prog X.w) X.A (eval iter X.env) (fun v s1 => wpAny (model X.prog X.w) X.A (pyIter v) (PIEC cal X pins σ tg R) X.xe s1) X.xe s
theorem PI.c {X : Cx} {tg iter : Expr} {wi : TI} (h : PI X tg iter wi) : PIC (fun X => X.calm = true) X tg iter wi := fun pins s σ H R I q =>
  thn (h pins s σ H R I q) fun v s1 q1 => thn q1 fun u s2 ⟨it, fp, tn, J, H', e, I', T, t0, f, r⟩ => ⟨it, fp, tn, J, H', e, I', T.c, t0, f, r⟩
theorem lcomp_core {elt tg iter : Expr} {ifs : List Expr} {scope : Scope} {pos : Pos} {wi : TI} {g : TG} {tc : TT} {te : TE} {N' : List Str} {src : List (Option Nat)} {cal : Cx → Prop} (hc : ∀ {pins : List (Addr × Obj)} {σ : St} {H₂ : Hp} {s₂ : Shared} (cl : List (Str × Addr)) (C : Addr) (fp : List Addr) (pn : List (Addr × Obj)), Inv X pins σ H₂ s₂ → cal (cxComp X N' scope cl C fp pn s₂ H₂)) (S : CompScope X.env.scope scope X.N N' src)
    (hi : PIC cal X tg iter wi) (hg : ∀ cl C fp pn s₂ H₂, cal (cxComp X N' scope cl C fp pn s₂ H₂) → PG (cxComp X N' scope cl C fp pn s₂ H₂) tg g) (ht : ∀ cl C fp pn s₂ H₂, cal (cxComp X N' scope cl C fp pn s₂ H₂) → PIf (cxComp X N' scope cl C fp pn s₂ H₂) ifs tc) (he : ∀ cl C fp pn s₂ H₂, cal (cxComp X N' scope cl C fp pn s₂ H₂) → PE (cxComp X N' scope cl C fp pn s₂ H₂) elt te)
    (hs : ∀ x, foldedSetIterable iter X.env x = pure x) {use : Option (Value → Sem Unit)} {Qc : Value → Shared → Prop} {pins : List (Addr × Obj)} {s : Shared} {σ : St} {H : Hp} {Q : VK} {cpos : Pos} (I : Inv X pins σ H s) (hq : tComp src wi g tc te σ H Q)
    (hfin : ∀ (D C : Addr) (oC : Obj) (ys : List V) (H' : Hp) (s4 : Shared), Inv X (pins ++ [(C, oC)]) σ (upd H' D (.lst ys)) s4 → (∃ m, s4.heap.Ns C m) → FpOk X pins (upd H' D (.lst ys)) C → Q (.ref D) (upd H' D (.lst ys)) →
      compPost (model X.prog X.w) X.A X.xe use Qc (.ref D) C (.ok .next) s4) :
    wpAny (model X.prog X.w) X.A (comprehension (.ListComp elt [⟨tg, iter, ifs, 0⟩] scope pos) scope X.env cpos (newList []) false (eval iter X.env) use) Qc X.xe s := by
  obtain ⟨cl, hcl, hcl1, hcl2⟩ := closure_ok (scope := scope) (env := X.env) fun x hx hf => I.ok.has x.1 (S.free x hx hf)
  refine wpAny_comprehension_free (use := use) rfl hs hcl S.kind S.names (thn (hi pins s σ H _ I hq) fun v s1 h1 => thn h1 fun itv s2 h2 => ?_)
  obtain ⟨it, fp, tn, J, H2, e, I2, T, st2, f2, W, ⟨m0, w0⟩, turn⟩ := h2
  subst e
  refine wpAny_newObj_type (wpAny_newFunctionEnv S.nocell (by intro y hy; simp at hy) (fun h₁ hns₁ hsb₁ => ?_) S.kind)
  dsimp only at hns₁ hsb₁ ⊢
  generalize hP : s2.heap.push { cls := .type "list", dict := none, data := .seq ([] : List Value).toArray } = P2 at hns₁ hsb₁ ⊢
  have hC : P2.objs.size = s2.heap.objs.size + 1 := by rw [← hP, Heap.size_push]
  have hCle : s2.heap.objs.size ≤ P2.objs.size := by rw [hC]; exact Nat.le_succ _
  have hDC : s2.heap.objs.size ≠ P2.objs.size := by rw [hC]; exact Nat.ne_of_lt (Nat.lt_succ_self _)
  have old : ∀ b o, s2.heap.get? b = some o → h₁.get? b = some o := fun b o e =>
    hsb₁.extBut b o (Nat.ne_of_lt (Nat.lt_of_lt_of_le (Heap.lt_size e) hCle)) (Heap.get?_push_of_some _ (hP ▸ Heap.get?_push_of_some _ e))
  have oldD : h₁.get? s2.heap.objs.size = some { cls := .type "list", data := .seq ([] : List Value).toArray } := hsb₁.extBut _ _ hDC (Heap.get?_push_of_some _ (hP ▸ Heap.get?_push_size _ rfl))
  have fo : ∀ b ∈ fp, ∃ o, s2.heap.get? b = some o := fun b hb => let ⟨o, e, _⟩ := T.obj _ _ st2 b hb; ⟨o, e⟩
  have fpD : ∀ b ∈ fp, s2.heap.objs.size ≠ b := fun b hb z => by
    obtain ⟨o, e⟩ := fo b hb
    exact absurd (Heap.lt_size e) (by rw [← z]; exact Nat.lt_irrefl _)
  have fpC : ∀ b ∈ fp, b ≠ P2.objs.size := fun b hb => by
    obtain ⟨o, e⟩ := fo b hb
    exact Nat.ne_of_lt (Nat.lt_of_lt_of_le (Heap.lt_size e) hCle)
  have ok' := I2.compOk (C := P2.objs.size) S hcl1 hcl2 hCle f2 fo
  have cells : ∀ x c, cl.lookup x = some c → X.env.cells.lookup x = some c := fun x c e => hcl1 (x, c) (mem_of_lookup_some e)
  have stkne : ∀ p ∈ X.pn ++ pins, p.1 ∉ frs X.stack := fun p hp z => by
    obtain ⟨_, _, n1, n2, _⟩ := I2.pin p hp
    rcases List.mem_cons.mp (I2.stkSub _ z) with z | z
    · exact n1 z
    · exact n2 z
  have stkD : ∀ b, s2.heap.objs.size ≤ b → b ∉ frs X.stack := fun b hb z => by
    rcases List.mem_cons.mp (I2.stkSub _ z) with z | z
    · exact absurd I2.lt (by rw [← z]; exact Nat.not_lt.mpr hb)
    · exact I2.nofs hb z
  -- the state at the block's beginning
  have I4 : Inv (cxComp X N' scope cl P2.objs.size fp (X.pn ++ pins) s2 H2) [(s2.heap.objs.size, { cls := .type "list", data := .seq ([] : List Value).toArray })] (stComp src σ) H2 { s2 with heap := h₁, toks := s2.toks + ([] : List (Str × Value)).length } := by
    refine ⟨ok', rfl, I2.bare, Un.kept old, ⟨_, hns₁, fun i x v e1 e2 e3 => ?_⟩, fun x c e => ?_, I2.hok.fresh hCle, fun x c e => I2.freeC x c (cells x c e), fun p hp => ?_, I2.hok.kept old, ?_⟩
    · obtain ⟨j, q1, q2⟩ := stComp_get e2
      obtain ⟨a1, a2, a3⟩ := S.at_ i j x q1 e1
      obtain ⟨m, hm, hl⟩ := I2.loc
      have vis : Vis X.env.scope x := a2.elim (fun z => .inr (.inl z)) fun z => .inr (.inr z)
      obtain ⟨u, r, l⟩ := hl j x v a1 q2 vis
      refine ⟨u, r, ?_⟩
      rcases l with ⟨k, _⟩ | ⟨_, c, hcx, z⟩
      · have k' : X.env.scope.names.lookup x = some .local := k
        rcases a2 with a2 | a2 <;> (rw [a2] at k'; cases k')
      · have hfree := rel_free (env := X.env) S.nocell a3
        obtain ⟨c', hc'⟩ := hcl2 _ hfree rfl
        obtain ⟨d, hd⟩ := lookup_has hc'
        have ed : d = c := by
          have := cells x d hd
          rw [hcx] at this; exact (Option.some.inj this).symm
        subst ed
        refine .inr ⟨a3, d, hd, ?_⟩
        obtain ⟨o, ho, hod⟩ := z
        exact ⟨o, old _ _ ho, hod⟩
    · obtain ⟨v, o, ho, hod⟩ := I2.cell x c (cells x c e)
      exact ⟨v, o, old _ _ ho, hod⟩
    · rcases List.mem_append.mp hp with hp | hp
      · obtain ⟨a1, a2, a3, a4, a5⟩ := I2.pin p hp
        exact ⟨old _ _ a1, a2, Nat.ne_of_lt (Nat.lt_of_lt_of_le (Heap.lt_size a1) hCle), stkne p hp, a5⟩
      · obtain rfl := List.mem_singleton.mp hp
        exact ⟨oldD, I2.hok.fresh (Nat.le_refl _), hDC, stkD _ (Nat.le_refl _), fun v z => by cases z⟩
    · show (stComp src σ).length = N'.length
      unfold stComp
      rw [List.length_map]; exact S.len
  have pinD : ∀ {o : Obj} {H' : Hp} {σ' : St} {s' : Shared} {pl : List (Addr × Obj)}, Inv (cxComp X N' scope cl P2.objs.size fp (X.pn ++ pins) s2 H2) pl σ' H' s' → (s2.heap.objs.size, o) ∈ pl → s'.heap.get? s2.heap.objs.size = some o ∧ H' s2.heap.objs.size = none :=
    fun {o H' σ' s' pl} J hm => let q := J.pin _ (List.mem_append_right _ hm); ⟨q.1, q.2.1⟩
  have stat : ∀ {H' : Hp} {o : Obj}, (∀ b ∈ fp, H' b = none) → ∀ b ∈ fp, FpOk (cxComp X N' scope cl P2.objs.size fp (X.pn ++ pins) s2 H2) [(s2.heap.objs.size, o)] H' b := fun {H' o} hn b hb => by
    refine ⟨hn b hb, fpC b hb, fun z => ?_, .inl hb, fun x c e => (f2 b hb).2.2.2.2.1 x c (cells x c e), fun p hp => ?_⟩
    · rcases List.mem_cons.mp (I2.stkSub b z) with z | z
      · exact (f2 b hb).2.1 z
      · exact (f2 b hb).2.2.1 z
    · rcases List.mem_append.mp hp with hp | hp
      · exact (f2 b hb).2.2.2.2.2 p hp
      · obtain rfl := List.mem_singleton.mp hp
        exact fpD b hb
  -- the loop
  have loop : ∀ s₃ : Shared, s₃ = { s2 with heap := h₁, toks := s2.toks + ([] : List (Str × Value)).length } →
      codeAny (model X.prog X.w) X.A (.compLoop (.ListComp elt [⟨tg, iter, ifs, 0⟩] scope pos) 0 (.ref it) (.ref s2.heap.objs.size) (compEnvC scope cl P2.objs.size X.env)) (compPost (model X.prog X.w) X.A X.xe use Qc (.ref s2.heap.objs.size) P2.objs.size) s₃ := by
    rintro s₃ rfl
    refine compLoop_go (fun n s' => ∃ i ys H' its k, Inv (cxComp X N' scope cl P2.objs.size fp (X.pn ++ pins) s2 H2) [(s2.heap.objs.size, { cls := .type "list", data := .seq (its : List Value).toArray k })] (stComp src σ) H' s' ∧ tn i s'.heap ∧ (∀ b ∈ fp, H' b = none) ∧ Vals ys its ∧ ys.length ≤ sizeLine ∧ W i n ys H') ?_ m0
      ⟨0, [], H2, [], _, I4, T.keep _ _ _ st2 fun b hb o e => old b o e, fun b hb => (f2 b hb).1, .nil, Nat.zero_le _, w0⟩
    rintro n s3 ⟨i, ys, H3, its, k, I3, st3, fr3, rv, hz, w3⟩
    rcases turn i n ys H3 w3 with ⟨stop, qn⟩ | ⟨go, hlt, step⟩
    · refine thn (T.done (cxComp X N' scope cl P2.objs.size fp (X.pn ++ pins) s2 H2) rfl rfl rfl (hc _ _ _ _ I2) i _ s3 _ H3 _ I3 (stat fr3) st3 stop) fun r s4 ⟨hr, I4'⟩ => ?_
      subst hr
      obtain ⟨gD, nD⟩ := pinD I4' List.mem_cons_self
      obtain ⟨m, hm, _⟩ := id I4'.loc
      obtain ⟨oC, es, ep, hoC, hdC, hrC⟩ := id hm
      have ltC : ∀ b o, s2.heap.get? b = some o → b ≠ P2.objs.size := fun b o e => Nat.ne_of_lt (Nat.lt_of_lt_of_le (Heap.lt_size e) hCle)
      have ltD : ∀ b o, s2.heap.get? b = some o → b ≠ s2.heap.objs.size := fun b o e => Nat.ne_of_lt (Heap.lt_size e)
      have hC' : H3 P2.objs.size = none := I4'.free
      have hC'' : upd H3 s2.heap.objs.size (.lst ys) P2.objs.size = none := by rw [upd_ne (Ne.symm hDC)]; exact hC'
      have J : Inv X pins σ (upd H3 s2.heap.objs.size (.lst ys)) s4 := by
        refine I2.call' (ch := fp) I4'.os ⟨fun b o e n hb hx => I4'.base.keep b o e n hb hx, fun b o e n hb hx => I4'.base.slot b o e n hb hx, fun b o e n hx => ?_, fun b o e hx => I4'.base.there b o e hx, fun b xs e => ?_, fun b o xs e => ?_, fun b ps e => ?_⟩ (fun b u e => ?_) I4'.bare fun b hb => ?_
        · rw [upd_ne (ltD b o e)]
          exact I4'.base.free b o e n hx
        · have q := I4'.base.tups b xs e
          rw [upd_ne (ne_of_none q nD)]; exact q
        · have q := I4'.base.frzs b o xs e
          rw [upd_ne (ne_of_none q nD)]; exact q
        · obtain ⟨more, q⟩ := I4'.base.tbls b ps e
          exact ⟨more, by rw [upd_ne (ne_of_none q nD)]; exact q⟩
        · by_cases hb : b = s2.heap.objs.size
          · subst hb
            rw [upd_same] at e
            cases e
            exact ⟨hz, its, k, rv, gD⟩
          · rw [upd_ne hb] at e
            exact (I4'.hok b u e).stay (fun c v _ q => q) (fun c q => by rw [upd_ne (ne_of_none q nD)]; exact q) fun c xs q => by rw [upd_ne (ne_of_none q nD)]; exact q
        · exact ⟨(f2 b hb).2.2.2.1, (f2 b hb).2.1, (f2 b hb).2.2.2.2.1, (f2 b hb).2.2.2.2.2⟩
      have fC : FpOk X pins (upd H3 s2.heap.objs.size (.lst ys)) P2.objs.size := I2.fpOk hCle hC''
      have J' : Inv X (pins ++ [(P2.objs.size, oC)]) σ (upd H3 s2.heap.objs.size (.lst ys)) s4 := J.pins_of fun p hp => by
        rcases List.mem_append.mp hp with hp | hp
        · exact J.pin p (List.mem_append_right _ hp)
        · obtain rfl := List.mem_singleton.mp hp
          exact ⟨hoC, hC'', fC.2.1, fC.2.2.1, fun v z => by rw [hdC] at z; cases z⟩
      exact hfin _ _ oC ys H3 s4 J' ⟨m, hm⟩ fC (qn _ nD)
    · refine thn (T.item (cxComp X N' scope cl P2.objs.size fp (X.pn ++ pins) s2 H2) rfl rfl rfl (hc _ _ _ _ I2) i _ s3 _ H3 _ I3 (stat fr3) st3 go) fun r s4 ⟨u, hr, h4⟩ => ?_
      subst hr
      refine thn h4 fun _ s5 ⟨x, H5, I5, r5, y5, st5, fr5⟩ => ?_
      have I5' := I5.pinned (stat fr5) (T.obj _ _ st5)
      refine thn (hg cl P2.objs.size fp (X.pn ++ pins) s2 H2 (hc _ _ _ _ I2) _ s5 _ H5 x u _ I5' r5 (step x H5 y5)) fun _ s6 ⟨σ6, H6, I6, ks6, q6⟩ => ?_
      refine thn (ht cl P2.objs.size fp (X.pn ++ pins) s2 H2 (hc _ _ _ _ I2) _ s6 σ6 H6 _ I6 q6) fun okb s7 ⟨H7, I7, q7⟩ => ?_
      have again : ∀ {s8 : Shared} {H8 : Hp}, Inv (cxComp X N' scope cl P2.objs.size fp (X.pn ++ pins) s2 H2) ([(s2.heap.objs.size, ({ cls := .type "list", data := .seq (its : List Value).toArray k } : Obj))] ++ pinsAt fp s5.heap) σ6 H8 s8 → tn (i + 1) s8.heap ∧ (∀ b ∈ fp, H8 b = none) := fun {s8 H8} I8 => by
        refine ⟨T.keep _ _ _ st5 fun b hb o e => (I8.pin (b, o) (List.mem_append_right _ (List.mem_append_right _ (mem_pinsAt hb e)))).1, fun b hb => ?_⟩
        obtain ⟨o, e, d⟩ := T.obj _ _ st5 b hb
        exact (I8.pin (b, o) (List.mem_append_right _ (List.mem_append_right _ (mem_pinsAt hb e)))).2.1
      cases okb with
      | false =>
        simp only [Bool.false_eq_true, if_false] at q7 ⊢
        obtain ⟨m', hm', w7⟩ := q7
        obtain ⟨t7, n7⟩ := again I7
        exact ⟨m', hm', i + 1, ys, H7, its, k, (I7.unpinned).weak ks6.1.symm ks6.2, t7, n7, rv, hz, w7⟩
      | true =>
        simp only [if_true] at q7 ⊢
        refine thn (he cl P2.objs.size fp (X.pn ++ pins) s2 H2 (hc _ _ _ _ I2) _ s7 σ6 H7 _ I7 q7) fun yv s8 ⟨y, H8, I8, r8, m', hm', w8⟩ => ?_
        obtain ⟨t8, n8⟩ := again I8
        obtain ⟨gD, nD⟩ := pinD I8 (List.mem_append_left _ List.mem_cons_self)
        have hsz : its.toArray.size ≤ sizeLine := by
          have := rv.length
          rw [List.size_toArray]
          omega
        refine wpAny_list_append_plain (hsz := hsz) ⟨_, gD⟩ fun h9 hl9 hs9 => ?_
        obtain ⟨k9, g9⟩ := hl9
        have I8n : Inv (cxComp X N' scope cl P2.objs.size fp (X.pn ++ pins) s2 H2) [] σ6 H8 s8 := I8.pins_of fun p hp => nomatch hp
        have fo' : ∀ p ∈ (cxComp X N' scope cl P2.objs.size fp (X.pn ++ pins) s2 H2).pn ++ ([] : List (Addr × Obj)), p.1 ≠ s2.heap.objs.size := fun p hp => by
          rw [List.append_nil] at hp
          exact Nat.ne_of_lt (Heap.lt_size (I2.pin p hp).1)
        have I9 : Inv (cxComp X N' scope cl P2.objs.size fp (X.pn ++ pins) s2 H2) [] σ6 H8 { s8 with heap := h9 } := I8n.turned (t' := s8.toks) (it := s2.heap.objs.size) (fun b o hb e => (hs9.2 b hb).trans e) nD hDC (.inr (Nat.le_refl _))
          (fun x c e z => by
            obtain ⟨v, q⟩ := I2.cell x c (cells x c e)
            exact absurd q.lt (by rw [z]; exact Nat.lt_irrefl _)) fo'
        have I9' : Inv (cxComp X N' scope cl P2.objs.size fp (X.pn ++ pins) s2 H2) [(s2.heap.objs.size, ({ cls := .type "list", data := .seq (its ++ [yv]).toArray k9 } : Obj))] σ6 H8 { s8 with heap := h9 } := I9.pins_of fun p hp => by
          obtain rfl := List.mem_singleton.mp hp
          refine ⟨?_, nD, hDC, stkD _ (Nat.le_refl _), fun v z => by cases z⟩
          show h9.get? s2.heap.objs.size = _
          rw [g9]
          simp
        refine ⟨m', hm', i + 1, ys ++ [y], H8, its ++ [yv], k9, I9'.weak ks6.1.symm ks6.2, T.keep _ _ _ t8 fun b hb o e => (hs9.2 b (Ne.symm (fpD b hb))).trans e, n8, rv.append (.cons r8 .nil), ?_, w8⟩
        rw [List.length_append, List.length_singleton]
        exact hlt
  have st1 : tn 0 h₁ := T.keep _ _ _ st2 fun b hb o e => old b o e
  exact codeAny_compStart_list (loop _ rfl) (T.self X.A 0 _ _ _ st1 (loop _ rfl))

theorem pe_lcomp {elt tg iter : Expr} {ifs : List Expr} {scope : Scope} {pos : Pos} {wi : TI} {g : TG} {tc : TT} {te : TE} {N' : List Str} {src : List (Option Nat)} (hc : X.calm = true) (S : CompScope X.env.scope scope X.N N' src)
    (hi : PI X tg iter wi) (hg : ∀ cl C fp pn s₂ H₂, PG (cxComp X N' scope cl C fp pn s₂ H₂) tg g) (ht : ∀ cl C fp pn s₂ H₂, PIf (cxComp X N' scope cl C fp pn s₂ H₂) ifs tc) (he : ∀ cl C fp pn s₂ H₂, PE (cxComp X N' scope cl C fp pn s₂ H₂) elt te)
    (hs : ∀ x, foldedSetIterable iter X.env x = pure x := by intro _; rfl) : PE X (.ListComp elt [⟨tg, iter, ifs, 0⟩] scope pos) (tComp src wi g tc te) := by
  intro pins s σ H Q I hq
  rw [eval_ListComp]
  refine lcomp_core (use := none) (cal := fun Y => Y.calm = true) (fun _ _ _ _ _ => hc) S hi.c (fun cl C fp pn s₂ H₂ _ => hg cl C fp pn s₂ H₂) (fun cl C fp pn s₂ H₂ _ => ht cl C fp pn s₂ H₂) (fun cl C fp pn s₂ H₂ _ => he cl C fp pn s₂ H₂) hs I hq fun D C oC ys H' s4 J hm fC q => ?_
  obtain ⟨m, hm⟩ := hm
  refine ⟨m, hm, fun h' hs' => ⟨.ref D, _, (J.unpinned).turned (t' := s4.toks) (it := C) (fun b o hb e => (hs'.2 b hb).trans e) fC.1 fC.2.1 fC.2.2.2.1 fC.2.2.2.2.1 fC.2.2.2.2.2, rfl, q⟩⟩
noncomputable def tAsgC (i : Nat) (t : TE) : TS := fun D σ H => t σ H fun v H1 => D.nx (σ.set i (some v)) H1
end

noncomputable def Wk (J : It) (xs : List V) (Pv : Hp → Prop) : Prop := ∀ i H, Pv H → (i < xs.length → J.go i H) ∧ (xs.length ≤ i → J.stop i H) ∧ (i < xs.length → ∀ x H', J.yld i H x H' → H' = H ∧ xs[i]? = some x)
theorem wk_list {K : PySem.W.Frag} {a : Addr} {xs : List V} {Pv : Hp → Prop} (hl : ∀ H, Pv H → SqL K H a xs) : Wk (Itl K a) xs Pv := fun i H p =>
  ⟨fun h => ⟨xs, xs[i], hl H p, by simp [h]⟩, fun h => ⟨xs, hl H p, h⟩, fun _ _ _ y => ⟨y.1, y.2 xs (hl H p)⟩⟩
noncomputable def rngV (lo : Int) (n : Nat) : List V := (List.range n).map fun i : Nat => V.int (lo + (i : Int))
theorem rngV_length (lo : Int) (n : Nat) : (rngV lo n).length = n := by simp [rngV]
theorem rngV_get {lo : Int} {n i : Nat} (h : i < n) : (rngV lo n)[i]? = some (V.int (lo + (i : Int))) := by simp [rngV, h]
theorem wk_range {lo : Int} {n : Nat} {Pv : Hp → Prop} : Wk (Itr lo n) (rngV lo n) Pv := fun i H p =>
  ⟨fun h => by rw [rngV_length] at h; exact h, fun h => by rw [rngV_length] at h; exact h, fun h x H' y => ⟨y.1, by rw [rngV_length] at h; rw [rngV_get h, y.2]⟩⟩
theorem comp_walk {J : It} {xs : List V} {src : List (Option Nat)} {tc : TT} {te : TE} {σ : St} {H : Hp} {Q : VK} {k : Nat} (F : V → List V) (Pv : Hp → Prop) (hsrc : src[k]? = some none) (h0 : Pv H) (hw : Wk J xs Pv) (hz : xs.length ≤ sizeLine)
    (hs : ∀ (i : Nat) (x : V) (H' : Hp) (Cy : VK) (Cn : Hp → Prop), xs[i]? = some x → Pv H' → (∀ y H4, F x = [y] → Pv H4 → Cy y H4) → (∀ H3, F x = [] → Pv H3 → Cn H3) →
      tc ((stComp src σ).set k (some x)) H' fun b H3 => if b = true then te ((stComp src σ).set k (some x)) H3 Cy else Cn H3)
    (hd : ∀ H' l, Pv H' → H' l = none → Q (.ref l) (upd H' l (.lst (xs.flatMap F)))) :
    ∃ W : Nat → Nat → List V → Hp → Prop, (∃ m, W 0 m [] H) ∧ ∀ i m ys H, W i m ys H →
      (J.stop i H ∧ ∀ l, H l = none → Q (.ref l) (upd H l (.lst ys))) ∨
      (J.go i H ∧ ys.length < sizeLine ∧ ∀ x H', J.yld i H x H' → gName k x (stComp src σ) H' fun σ2 H2 => KeepSt (stComp src σ) σ2 ∧ tc σ2 H2 fun b H3 => if b = true then te σ2 H3 fun y H4 => ∃ m', m' < m ∧ W (i + 1) m' (ys ++ [y]) H4 else ∃ m', m' < m ∧ W (i + 1) m' ys H3) := by
  have flen : ∀ (l : List V) (i : Nat), (∀ j x, l[j]? = some x → j < i → (F x).length ≤ 1) → ((l.take i).flatMap F).length ≤ min i l.length := by
    intro l
    induction l with
    | nil => intro i _; simp
    | cons y r ih =>
      intro i hF
      cases i with
      | zero => simp
      | succ i =>
        have a1 := hF 0 y rfl (Nat.succ_pos _)
        have a2 := ih i fun j x e hj => hF (j + 1) x (by simpa using e) (by omega)
        simp only [List.take_succ_cons, List.flatMap_cons, List.length_append, List.length_cons]
        omega
  refine ⟨fun i m ys H => m = xs.length - i ∧ i ≤ xs.length ∧ ys = (xs.take i).flatMap F ∧ (∀ j x, xs[j]? = some x → j < i → (F x).length ≤ 1) ∧ Pv H, ⟨xs.length, rfl, Nat.zero_le _, by simp, fun j x _ h => absurd h (Nat.not_lt_zero _), h0⟩, ?_⟩
  rintro i m ys H1 ⟨rfl, hi, rfl, hF, p⟩
  obtain ⟨g1, g2, g3⟩ := hw i H1 p
  by_cases hlt : i < xs.length
  · have hL := flen xs i hF
    refine .inr ⟨g1 hlt, by omega, fun x H' y => ?_⟩
    obtain ⟨e, hx⟩ := g3 hlt x H' y
    subst e
    have tk : ∀ z, F x = z → z.length ≤ 1 → (xs.take i).flatMap F ++ z = (xs.take (i + 1)).flatMap F ∧ ∀ j x', xs[j]? = some x' → j < i + 1 → (F x').length ≤ 1 := fun z ez hz => by
      constructor
      · rw [List.take_add_one, hx, List.flatMap_append]
        simp [ez]
      · intro j x' e hj
        by_cases hji : j = i
        · subst hji
          rw [hx] at e; cases e
          rw [ez]; exact hz
        · exact hF j x' e (by omega)
    refine ⟨KeepSt.set hsrc, hs i x H' _ _ hx p (fun y' H4 h4 p4 => ?_) (fun H3 h3 p3 => ?_)⟩
    · obtain ⟨t1, t2⟩ := tk [y'] h4 (Nat.le_refl _)
      exact ⟨xs.length - (i + 1), by omega, rfl, hlt, t1, t2, p4⟩
    · obtain ⟨t1, t2⟩ := tk [] h3 (Nat.zero_le _)
      exact ⟨xs.length - (i + 1), by omega, rfl, hlt, by rw [← t1, List.append_nil], t2, p3⟩
  · have e : i = xs.length := by omega
    subst e
    refine .inl ⟨g2 (Nat.le_refl _), fun l hn => ?_⟩
    have := hd H1 l p hn
    rw [List.take_length]
    exact this
end L2

namespace L2
open PySem PySem.Spec PyProof.Rows

noncomputable abbrev sg (x : Str) : List Nat := x.cps.toList
noncomputable def mkS (l : List Nat) : Str := ⟨l.toArray⟩
theorem sg_mk (l : List Nat) : sg (mkS l) = l := by simp [mkS]
theorem mk_sg (x : Str) : mkS (sg x) = x := by
  cases x
  simp [mkS]
theorem sg_len (x : Str) : (sg x).length = x.length := by simp [Str.length]
theorem mk_len (l : List Nat) : (mkS l).length = l.length := by simp [mkS, Str.length]
theorem sg_inj {x y : Str} (h : sg x = sg y) : x = y := by rw [← mk_sg x, ← mk_sg y, h]
theorem sg_app (x y : Str) : sg (x ++ y) = sg x ++ sg y := PySem.W.KT.app_list x y
theorem mk_app (a b : List Nat) : mkS a ++ mkS b = mkS (a ++ b) := sg_inj (by rw [sg_app, sg_mk, sg_mk, sg_mk])
theorem mk_one (c : Nat) : (⟨#[c]⟩ : Str) = mkS [c] := rfl
theorem mk_inj {a b : List Nat} (h : mkS a = mkS b) : a = b := by rw [← sg_mk a, ← sg_mk b, h]
noncomputable def cutL {α : Type} (xs : List α) (lo hi : Option Int) : List α := (xs.drop (HT.sIx xs.length 0 lo)).take (HT.sIx xs.length xs.length hi - HT.sIx xs.length 0 lo)
theorem cutL_le {α : Type} (xs : List α) (lo hi : Option Int) : (cutL xs lo hi).length ≤ xs.length := by
  unfold cutL
  rw [List.length_take, List.length_drop]
  omega
theorem pickN (l : List Nat) (a : Nat) : ∀ k : Nat, ((List.range k).map (a + ·)).filterMap (l.toArray[·]?) = (l.drop a).take k
  | 0 => by simp
  | k + 1 => by
    rw [List.range_succ, List.map_append, List.filterMap_append, pickN l a k, List.take_add_one, List.getElem?_drop]
    cases h : l[a + k]? with
    | none => simp [h]
    | some v => simp [h]
theorem slice_idx (lo hi : Option Int) (n : Nat) : Builtin.Str.strSliceIndices lo hi 1 n = (List.range (HT.sIx n n hi - HT.sIx n 0 lo)).map (HT.sIx n 0 lo + ·) := by
  obtain ⟨h1, h2, h3⟩ := slice_bounds lo hi n
  have e : Builtin.Str.strSliceIndices lo hi 1 n = sliceRange (sliceBounds lo hi none n).1 (sliceBounds lo hi none n).2.1 1 := by
    cases lo <;> cases hi <;> rfl
  rw [e, h1, h2, sliceRange_one]
theorem slice_cut (x : Str) (lo hi : Option Int) : Txt.slice x lo hi = mkS (cutL (sg x) lo hi) := by
  have hl := sg_len x
  unfold Txt.slice
  rw [slice_idx]
  split
  · rename_i hc
    simp only [beq_self_eq_true, Bool.true_and, List.length_map, List.length_range, beq_iff_eq] at hc
    have b1 := HT.sIx_le x.length 0 (Nat.zero_le _) lo
    have b2 := HT.sIx_le x.length x.length (Nat.le_refl _) hi
    have a0 : HT.sIx x.length 0 lo = 0 := by omega
    have a1 : HT.sIx x.length x.length hi = x.length := by omega
    unfold cutL
    rw [hl, a0, a1, List.drop_zero, Nat.sub_zero, List.take_of_length_le (by rw [hl]; exact Nat.le_refl _), mk_sg]
  · unfold cutL mkS
    rw [hl]
    have := pickN (sg x) (HT.sIx x.length 0 lo) (HT.sIx x.length x.length hi - HT.sIx x.length 0 lo)
    rw [← this]
section
variable {X : Cx}
noncomputable def rSlS : V → Option Int → Option Int → Hp → VK → Prop := fun x lo hi H Q => ∃ z, x = .str z ∧ z.length ≤ sizeLine ∧ Q (.str (mkS (cutL (sg z) lo hi))) H
theorem sl_str : SlR X rSlS := by
  intro pins s σ H x v vl vu lo hi sl Q I rx hs pl pu h
  obtain ⟨z, rfl, hz, q⟩ := h
  obtain ⟨t, rfl⟩ := rx
  refine ⟨"str", _, F.slot_str_getitem.lookup, typeIs_str _ _ _, ?_⟩
  have fin : ∀ (lo hi : Option Int), Q (.str (mkS (cutL (sg z) lo hi))) H → (Txt.slice z lo hi).length ≤ sizeLine ∧ ∀ t' k, EP X pins σ Q (.str (Txt.slice z lo hi) t') { s with toks := k } := fun lo hi q =>
    ⟨Nat.le_trans (Txt.slice_le z _ _) hz, fun t' k => ⟨.str (Txt.slice z lo hi), H, I.tok k, ⟨t', rfl⟩, by rw [slice_cut]; exact q⟩⟩
  cases pl with
  | none =>
    cases pu with
    | none => exact wpAny_getItem_str_slice (l := none) (u := none) (st := none) hs rfl (post_val_or_str (fin none none q))
    | int j uj => exact wpAny_getItem_str_slice (l := none) (u := some (j, uj)) (st := none) hs rfl (post_val_or_str (fin none (some j) q))
  | int i ui =>
    cases pu with
    | none => exact wpAny_getItem_str_slice (l := some (i, ui)) (u := none) (st := none) hs rfl (post_val_or_str (fin (some i) none q))
    | int j uj => exact wpAny_getItem_str_slice (l := some (i, ui)) (u := some (j, uj)) (st := none) hs rfl (post_val_or_str (fin (some i) (some j) q))

theorem op_mul_str : OpR X (binaryOp .Mult) (fun x y H Q => ∃ a n, x = .str a ∧ y = .int n ∧ MulOk a n ∧ Q (.str (Txt.mul a n)) H) := by
  intro pins s σ H x y v u Q I rx ry h
  obtain ⟨a, n, rfl, rfl, hm, q⟩ := h
  obtain ⟨t, rfl⟩ := rx
  obtain ⟨t', rfl⟩ := ry
  exact SB.mul hm fun t'' k => ⟨.str (Txt.mul a n), H, I.tok k, ⟨t'', rfl⟩, q⟩

noncomputable def hasS (fig : List Nat) (c : Nat) : Bool := decide (c ∈ fig)
theorem op_in_one : OpR X (compareOp .In) (fun x y H Q => ∃ c l, x = .str (mkS [c]) ∧ y = .str (mkS l) ∧ Q (.bl (hasS l c)) H) := by
  intro pins s σ H x y v u Q I rx ry h
  obtain ⟨c, l, rfl, rfl, q⟩ := h
  refine op_in_str pins s σ H _ _ v u Q I rx ry ⟨_, _, rfl, rfl, ?_⟩
  have e := StrLaws.found_one (mkS l) c
  rw [show (mkS l).cps.toList = l from sg_mk l] at e
  show Q (V.bl (!(Builtin.Str.occurrences (mkS l) (mkS [c]) 0 (mkS l).length 1).isEmpty)) H
  rw [show mkS [c] = (⟨#[c]⟩ : Str) from rfl, e]
  exact q
theorem for_walk {J : It} {xs : List V} {g : TG} {tb : TS} {D : Ends} {σ : St} {H : Hp} (Pv : Nat → St → Hp → Prop) (h0 : Pv 0 σ H) (hw : Wk J xs fun H => ∃ i σ, Pv i σ H)
    (hs : ∀ i x σ H, xs[i]? = some x → Pv i σ H → g x σ H fun σ2 H2 => tb { D with nx := Pv (i + 1), ct := Pv (i + 1), bk := D.nx } σ2 H2) (hd : ∀ σ H, Pv xs.length σ H → D.nx σ H) :
    ∃ W : Nat → Nat → St → Hp → Prop, (∃ m, W 0 m σ H) ∧ ∀ i m σ H, W i m σ H →
      (J.stop i H ∧ D.nx σ H) ∨ (J.go i H ∧ ∃ N : St → Hp → Prop, (∀ σ' H', N σ' H' → ∃ m', m' < m ∧ W (i + 1) m' σ' H') ∧ ∀ x H', J.yld i H x H' → g x σ H' fun σ2 H2 => tb { D with nx := N, ct := N, bk := D.nx } σ2 H2) := by
  refine ⟨fun i m σ H => m = xs.length - i ∧ i ≤ xs.length ∧ Pv i σ H, ⟨xs.length, rfl, Nat.zero_le _, h0⟩, ?_⟩
  rintro i m σ H ⟨rfl, hi, p⟩
  obtain ⟨g1, g2, g3⟩ := hw i H ⟨i, σ, p⟩
  by_cases hlt : i < xs.length
  · refine .inr ⟨g1 hlt, Pv (i + 1), fun σ' H' p' => ⟨xs.length - (i + 1), by omega, rfl, hlt, p'⟩, fun x H' y => ?_⟩
    obtain ⟨e, hx⟩ := g3 hlt x H' y
    subst e
    exact hs i x σ _ hx p
  · have e : i = xs.length := by omega
    subst e
    exact .inl ⟨g2 (Nat.le_refl _), hd σ H p⟩

noncomputable def kitB (T T' : String) : Option Bool := if (Value.type T == Value.type T') = true then some true else if PySem.W.kitMeta T' = true then (fastBuiltinMro T).map (·.contains (Value.type T')) else none
theorem kitOne_b (K : PySem.W.Frag) (T T' : String) : PySem.W.kitOne K (.type T) (.type T') = kitB T T' := rfl
theorem call_isiC : CallR X (.builtin "isinstance") (fun xs H Q => ∃ x C t b, xs = [x, .ref C] ∧ TyOf X.K H x t ∧ PySem.W.kitOne X.K t (.ref C) = some b ∧ Q (.bl b) H) := by
  intro pins s σ H xs us Q I r h
  obtain ⟨x, C, t, b, rfl, ty, e, q⟩ := h
  obtain ⟨u1, u2, rfl, r1, r2⟩ := vals2 r
  cases r2
  exact isinst_ok I r1 ty e fun tk => ⟨.bl b, H, I.tok tk, rfl, q⟩
theorem call_isiB : CallR X (.builtin "isinstance") (fun xs H Q => ∃ x T T' b, xs = [x, .ty T'] ∧ TyOf X.K H x (.type T) ∧ kitB T T' = some b ∧ Q (.bl b) H) := by
  intro pins s σ H xs us Q I r h
  obtain ⟨x, T, T', b, rfl, ty, e, q⟩ := h
  obtain ⟨u1, u2, rfl, r1, r2⟩ := vals2 r
  cases r2
  exact isinst_ok I r1 ty (by rw [kitOne_b]; exact e) fun tk => ⟨.bl b, H, I.tok tk, rfl, q⟩

theorem op_is_bl : OpR X (compareOp .Is) (fun x y H Q => ∃ a b, x = .bl a ∧ y = .bl b ∧ Q (.bl (a == b)) H) := by
  intro pins s σ H x y v u Q I rx ry h
  obtain ⟨a, b, rfl, rfl, q⟩ := h
  cases rx
  cases ry
  exact is_bool ⟨.bl _, H, I, rfl, q⟩
theorem op_isnot_bl : OpR X (compareOp .IsNot) (fun x y H Q => ∃ a b, x = .bl a ∧ y = .bl b ∧ Q (.bl (a != b)) H) := by
  intro pins s σ H x y v u Q I rx ry h
  obtain ⟨a, b, rfl, rfl, q⟩ := h
  cases rx
  cases ry
  exact isnot_bool ⟨.bl _, H, I, rfl, q⟩
noncomputable def eqL : List V → List V → Bool
  | [], [] => true
  | x :: xs, y :: ys => eqV x y && eqL xs ys
  | _, _ => false
theorem eqL_len : ∀ {xs ys : List V}, xs.length ≠ ys.length → eqL xs ys = false
  | [], [], h => absurd rfl h
  | [], _ :: _, _ => rfl
  | _ :: _, [], _ => rfl
  | x :: xs, y :: ys, h => by
    unfold eqL
    rw [eqL_len (by simpa using h), Bool.and_false]
theorem eqL_range : ∀ {xs ys : List V}, xs.length = ys.length → eqL xs ys = (List.range xs.length).all fun j => eqV (xs.getD j .non) (ys.getD j .non)
  | [], [], _ => rfl
  | [], _ :: _, h => by cases h
  | _ :: _, [], h => by cases h
  | x :: xs, y :: ys, h => by
    unfold eqL
    rw [eqL_range (by simpa using h), List.length_cons, List.range_succ_eq_map, List.all_cons, List.all_map]
    rfl
theorem eqV_self : ∀ x : V, flatV x = true → eqV x x = true := fun x h => by
  cases x <;> simp [eqV, flatV] at h ⊢
theorem eqL_self : ∀ xs : List V, xs.all flatV = true → eqL xs xs = true
  | [], _ => rfl
  | x :: xs, h => by
    rw [List.all_cons, Bool.and_eq_true] at h
    unfold eqL
    rw [eqV_self x h.1, eqL_self xs h.2]
    rfl
theorem eqs_of {A : Around} {s : Shared} {xs ys : List V} {us ws : List Value} (r1 : Vals xs us) (r2 : Vals ys ws) (f1 : xs.all flatV = true) (f2 : ys.all flatV = true) (j : Nat) (h1 : j < us.toArray.size) (h2 : j < ws.toArray.size) :
    SeqAt.EqAt A s us.toArray[j] ws.toArray[j] (eqV (xs.getD j .non) (ys.getD j .non)) := by
  have l1 := r1.length
  have l2 := r2.length
  rw [List.size_toArray] at h1 h2
  have g1 : xs[j]? = some xs[j] := by simp [l1, h1]
  have g2 : ys[j]? = some ys[j] := by simp [l2, h2]
  obtain ⟨u, e1, q1⟩ := r1.get g1
  obtain ⟨w, e2, q2⟩ := r2.get g2
  have e1' : us.toArray[j] = u := by
    have := List.getElem?_eq_some_iff.mp e1
    obtain ⟨_, z⟩ := this
    simpa using z
  have e2' : ws.toArray[j] = w := by
    have := List.getElem?_eq_some_iff.mp e2
    obtain ⟨_, z⟩ := this
    simpa using z
  rw [e1', e2', show xs.getD j .non = xs[j] by simp [List.getD, g1], show ys.getD j .non = ys[j] by simp [List.getD, g2]]
  exact eqAt_V q1 q2 (List.all_eq_true.mp f1 _ (List.getElem_mem _)) (List.all_eq_true.mp f2 _ (List.getElem_mem _))
noncomputable def rEqL (K : PySem.W.Frag) (neg : Bool) : R2 := fun x y H Q => ∃ a b xs ys, x = .ref a ∧ y = .ref b ∧ SqL K H a xs ∧ SqL K H b ys ∧ xs.all flatV = true ∧ ys.all flatV = true ∧ Q (.bl (if neg then !eqL xs ys else eqL xs ys)) H
theorem op_eqL (hu : X.A.units < cLine) : OpR X (compareOp .Eq) (rEqL X.K false) := by
  intro pins s σ H x y v u Q I rx ry h
  obtain ⟨a, b, xs, ys, rfl, rfl, ha, hb, f1, f2, q⟩ := h
  cases rx
  cases ry
  obtain ⟨us, r1, p1, _⟩ := I.list ha
  obtain ⟨ws, r2, p2, _⟩ := I.list hb
  have l1 := r1.length
  have l2 := r2.length
  by_cases hl : xs.length = ys.length
  · have hsz : us.toArray.size = ws.toArray.size := by simp only [List.size_toArray]; omega
    refine SeqAt.eq_listAt p1.isList p2.isList hsz hu (fun j h1 h2 => eqs_of r1 r2 f1 f2 j h1 h2) ⟨.bl _, H, I, rfl, ?_⟩
    rw [List.size_toArray, ← l1, ← eqL_range hl]
    exact q
  · have hsz : (us.toArray.size != ws.toArray.size) = true := by simp only [List.size_toArray, bne_iff_ne]; omega
    refine SeqAt.eq_list_lengthsAt p1.isList p2.isList hsz hu ⟨.bl _, H, I, rfl, ?_⟩
    have e := eqL_len hl
    simp only [Bool.false_eq_true, if_false, e] at q
    exact q
theorem op_neL (hu : X.A.units < cLine) : OpR X (compareOp .NotEq) (rEqL X.K true) := by
  intro pins s σ H x y v u Q I rx ry h
  obtain ⟨a, b, xs, ys, rfl, rfl, ha, hb, f1, f2, q⟩ := h
  cases rx
  cases ry
  obtain ⟨us, r1, p1, _⟩ := I.list ha
  obtain ⟨ws, r2, p2, _⟩ := I.list hb
  have l1 := r1.length
  have l2 := r2.length
  by_cases hl : xs.length = ys.length
  · have hsz : us.toArray.size = ws.toArray.size := by simp only [List.size_toArray]; omega
    refine SeqAt.RcNeAt.lists p1.isList p2.isList hsz hu (fun j h1 h2 => eqs_of r1 r2 f1 f2 j h1 h2) _ _ _ _ ⟨.bl _, H, I, rfl, ?_⟩
    rw [List.size_toArray, ← l1, ← eqL_range hl]
    exact q
  · have hsz : (us.toArray.size != ws.toArray.size) = true := by simp only [List.size_toArray, bne_iff_ne]; omega
    refine SeqAt.RcNeAt.lists_lengths p1.isList p2.isList hsz hu _ _ _ _ ⟨.bl _, H, I, rfl, ?_⟩
    have e := eqL_len hl
    simp only [if_true, e] at q
    exact q

theorem call_all (hh : X.calm = true) : CallR X (.builtin "all") (fun xs H Q => ∃ (p : Addr) (bs : List Bool), xs = [.ref p] ∧ SqL X.K H p (bs.map V.bl) ∧ Q (.bl (bs.all id)) H) := by
  intro pins s σ H xs us Q I r h
  obtain ⟨p, bs, rfl, hq, q⟩ := h
  obtain ⟨u, rfl, rp⟩ := vals1 r
  cases rp
  obtain ⟨its, rv, pl, hz⟩ := I.list hq
  have hlen := rv.length
  rw [List.length_map] at hlen
  have hA : X.A.in1.handled = none := I.ok.hd hh
  obtain ⟨ob, ho, hoc, hn⟩ := id pl.isList
  have hne : p ≠ s.heap.objs.size := Nat.ne_of_lt (Heap.lt_size ho)
  refine call_all_walk (wpAny_pyIter_list pl.isList ?_)
  refine ⟨s.heap.objs.size, _, _, _, _, _, fun i => bs.getD i true, rfl, Walks.list hA s.heap.objs.size p hne its.toArray, ⟨⟨_, Heap.get?_push_size _ rfl, rfl, rfl⟩, ⟨ob, Heap.get?_push_of_some _ ho, hoc, hn⟩⟩, fun i v s' Q' E' hP hQ => ?_, fun h' tk kk => ?_⟩
  · have hP' : its[i]? = some v := by simpa using hP
    have hi : i < bs.length := by
      have := (List.getElem?_eq_some_iff.mp hP').1
      omega
    have g : (bs.map V.bl)[i]? = some (V.bl bs[i]) := by simp [hi]
    obtain ⟨u, e1, q1⟩ := rv.get g
    rw [hP'] at e1
    cases e1
    cases q1
    have e : bs.getD i true = bs[i] := by simp [List.getD, hi]
    dsimp only at hQ
    rw [e] at hQ
    exact wpAny_truthy_bool hQ
  · have I1 : Inv X pins σ H { s with heap := h', toks := tk } := I.kept fun b o e => kk b o (by
      simp only [List.mem_singleton]
      exact Nat.ne_of_lt (Heap.lt_size e)) (Heap.get?_push_of_some _ e)
    refine ⟨.bl (bs.all id), H, I1, ?_, q⟩
    have e : (List.range its.toArray.size).all (fun i => bs.getD i true) = bs.all id := by
      rw [List.size_toArray, ← hlen]
      clear hlen rv pl hz ho hn I1 q hq I
      induction bs with
      | nil => rfl
      | cons b bs ih =>
        rw [List.length_cons, List.range_succ_eq_map, List.all_cons, List.all_map, List.all_cons]
        show (b && _) = (b && _)
        rw [← ih]
        rfl
    rw [e]
    rfl
end
end L2

namespace L2
open PySem PySem.Spec PyProof.Rows
section
variable {X : Cx}
noncomputable def rAddA : R2 := fun x y H Q => rI0 (fun i j => .int (i + j)) x y H Q ∨ (∃ i j, x = .str i ∧ y = .str j ∧ i.length + j.length ≤ sizeLine ∧ Q (.str (i ++ j)) H) ∨ rCat x y H Q
theorem o_add : OpR X (binaryOp .Add) rAddA := op_add.or (op_add_str.or op_cat)
noncomputable def rMulA : R2 := fun x y H Q => rI CMul (fun i j => .int (i * j)) x y H Q ∨ (∃ a n, x = .str a ∧ y = .int n ∧ MulOk a n ∧ Q (.str (Txt.mul a n)) H) ∨ rRep x y H Q
theorem o_mul : OpR X (binaryOp .Mult) rMulA := op_mul.or (op_mul_str.or op_rep)
noncomputable def rEqA (K : PySem.W.Frag) : R2 := fun x y H Q => rEq x y H Q ∨ rEqL K false x y H Q
theorem o_eq {K : PySem.W.Frag} (hu : X.A.units < cLine) (hK : X.K = K := by rfl) : OpR X (compareOp .Eq) (rEqA K) := by subst hK; exact op_eq.or (op_eqL hu)
noncomputable def rNeA (K : PySem.W.Frag) : R2 := fun x y H Q => rNe x y H Q ∨ rEqL K true x y H Q
theorem o_ne {K : PySem.W.Frag} (hu : X.A.units < cLine) (hK : X.K = K := by rfl) : OpR X (compareOp .NotEq) (rNeA K) := by subst hK; exact op_ne.or (op_neL hu)
noncomputable def rInA (K : PySem.W.Frag) : R2 := fun x y H Q => (∃ c l, x = .str (mkS [c]) ∧ y = .str (mkS l) ∧ Q (.bl (hasS l c)) H) ∨ rIn K false x y H Q
theorem o_in {K : PySem.W.Frag} (hK : X.K = K := by rfl) : OpR X (compareOp .In) (rInA K) := by subst hK; exact op_in_one.or op_in_seq
noncomputable def rNotInA (K : PySem.W.Frag) : R2 := fun x y H Q => (∃ c l, x = .str (mkS [c]) ∧ y = .str (mkS l) ∧ Q (.bl (!hasS l c)) H) ∨ rIn K true x y H Q
noncomputable def rIsA : R2 := fun x y H Q => (y = .non ∧ Q (.bl (decide (x = .non))) H) ∨ ∃ a b, x = .bl a ∧ y = .bl b ∧ Q (.bl (a == b)) H
theorem o_is : OpR X (compareOp .Is) rIsA := op_isN.or op_is_bl
noncomputable def rIsNotA : R2 := fun x y H Q => (y = .non ∧ Q (.bl (!decide (x = .non))) H) ∨ ∃ a b, x = .bl a ∧ y = .bl b ∧ Q (.bl (a != b)) H
theorem o_isnot : OpR X (compareOp .IsNot) rIsNotA := op_notN.or op_isnot_bl
noncomputable def rSlA (K : PySem.W.Frag) : V → Option Int → Option Int → Hp → VK → Prop := fun x lo hi H Q => rSlL K x lo hi H Q ∨ rSlS x lo hi H Q
theorem o_sl {K : PySem.W.Frag} (hK : X.K = K := by rfl) : SlR X (rSlA K) := by subst hK; exact sl_list.or sl_str
theorem o_ix {K : PySem.W.Frag} (hK : X.K = K := by rfl) : IxR X (rIx K) := by subst hK; exact ix_seq
noncomputable def rLenA (K : PySem.W.Frag) : List V → Hp → VK → Prop := fun xs H Q => (∃ p ys, xs = [.ref p] ∧ (SqL K H p ys ∨ SqT K H p ys) ∧ Q (.int ys.length) H) ∨ ∃ z, xs = [.str z] ∧ z.length ≤ sizeLine ∧ Q (.int z.length) H
theorem o_len {K : PySem.W.Frag} (hK : X.K = K := by rfl) : CallR X (.builtin "len") (rLenA K) := by subst hK; exact call_len_seq.or call_len_str
noncomputable def rIsi (K : PySem.W.Frag) : List V → Hp → VK → Prop := fun xs H Q => ∃ x T T' b, xs = [x, .ty T'] ∧ TyOf K H x (.type T) ∧ kitB T T' = some b ∧ Q (.bl b) H
theorem o_isinstance {K : PySem.W.Frag} (hK : X.K = K := by rfl) : CallR X (.builtin "isinstance") (rIsi K) := by subst hK; exact call_isiB
noncomputable def rAll (K : PySem.W.Frag) : List V → Hp → VK → Prop := fun xs H Q => ∃ (p : Addr) (bs : List Bool), xs = [.ref p] ∧ SqL K H p (bs.map V.bl) ∧ Q (.bl (bs.all id)) H
theorem o_all {K : PySem.W.Frag} (hh : X.calm = true := by rfl) (hK : X.K = K := by rfl) : CallR X (.builtin "all") (rAll K) := by subst hK; exact call_all hh
noncomputable def rAbs : List V → Hp → VK → Prop := fun xs H Q => ∃ i, xs = [.int i] ∧ Q (.int (if i < 0 then -i else i)) H
noncomputable def rIntT : List V → Hp → VK → Prop := fun xs H Q => (∃ i, xs = [.int i] ∧ Q (.int i) H) ∨ ∃ k, xs = [.bl k] ∧ Q (.int (if k then 1 else 0)) H
noncomputable def rFind : V → List V → Hp → VK → Prop := fun x xs H Q => ∃ a b, x = .str a ∧ xs = [.str b] ∧ Q (.int (Txt.find a b)) H
noncomputable def rIndex : V → List V → Hp → VK → Prop := fun x xs H Q => ∃ a b, x = .str a ∧ xs = [.str b] ∧ 0 ≤ Txt.find a b ∧ Q (.int (Txt.find a b)) H
theorem o_append : MtR X "list.append" rAppend := mt_append
theorem pe_bmK {K : PySem.W.Frag} {o e : Expr} {es : List Expr} {to : TE} {t : TA} {name : Str} {apos cpos : Pos} {T id : String} {r : V → List V → Hp → VK → Prop} (pa : PlainAttrs T) (slot : Slot T name id) (hty : typeOf (.builtin id) = pure (.type "method_descriptor")) (hm : MtR X id r) (ho : PE X o to) (ha : PA X (e :: es) t) (hK : X.K = K := by rfl)
    (hbase : attributeBase o name X.env (eval o X.env) = eval o X.env := by rfl)
    (hfew : ((backTo cpos (starEach (e :: es) X.env)).all (fun x => !x.1) && (backToKw cpos (keywordEach [] X.env)).all (fun x => x.1.isSome)
      && decide ((e :: es).length + ([] : List Keyword).length + (if ([] : List Keyword).isEmpty then 0 else 1) < 30)) = true := by rfl)
    (hline : (apos.endLine == cpos.line) = true := by rfl) (hs : starEach (e :: es) X.env = (false, eval e X.env) :: starEach es X.env := by rfl) (hplain : (backTo cpos (starEach es X.env)).any (·.1) = false := by rfl) :
    PE X (.Call (.Attribute o name apos) (e :: es) [] cpos) (tBM K T r to t) := by
  subst hK
  exact pe_bm pa slot hty hm ho ha hbase hfew hline hs hplain
theorem pi_listK {K : PySem.W.Frag} {tg l : Expr} {tl : TE} (hl : PE X l tl) (hK : X.K = K := by rfl) : PI X tg l (iList K tl) := by subst hK; exact pi_list hl
theorem pg_tupK {K : PySem.W.Frag} {es : List Expr} {k : Nat} {t : TGs} {n : Nat} {pos : Pos} (hc : X.calm = true) (h : PGs X es t) (hK : X.K = K := by rfl)
    (hn : (assignEach es X.env).length = n := by rfl) (hst : (assignEach es X.env).findIdx? (·.1) = none := by rfl) : PG X (.Tuple es k pos) (gTup K n t) := by subst hK; exact pg_tup hc h hn hst
theorem pe_gl {x : Str} {v : V} {pos : Pos} (hg : Gl X x) (h : ∃ u, X.mg x = some u ∧ RelV v u) (hd : (x == ("__debug__" : Str)) = false := by decide) : PE X (.Name x pos) (tC v) := by
  obtain ⟨u, hm, r⟩ := h
  exact pe_glob hg hm r hd
end

structure Fn (K : PySem.W.Frag) (x qual : Str) (st : Stmt) (f : Addr) (fd : FuncData) : Prop where
  ex : ∃ (oc : Value) (od : Option Addr) (dV kV doc pm : Value) (an : Option Addr) (cdv ct : Value) (osl : Array (Option Value)),
    fd = PySem.W.fnOf x qual (defArgs st) (defBody st) (defScope st) dV kV doc pm an cdv ct ∧ K.lookup f = some ⟨oc, od, .func fd, osl⟩ ∧ PySem.W.codeIn K cdv qual = true
  kp : PySem.W.keepIn K (.ref f) = true
section
variable {P : Program} {w : World} {K : PySem.W.Frag} {mg : Str → Option Value} {base : Heap}
theorem Fn.ok {x qual : Str} {st : Stmt} {f : Addr} {fd : FuncData} {N ps : List Str} {k : Nat} {sp : Sp} (F : Fn K x qual st f fd) (S : FnScope N ps (defScope st)) (len : ∀ vs H Q E, sp vs H Q E → vs.length = ps.length)
    (hbody : ∀ (cdv : Value) (A : Around) (outer : List Env) (s : Shared) (H : Hp) (vs : List V) (Q : VK) (E : XK), Room k (A.deeper (envOfC qual (defScope st) s.heap.objs.size f cdv)) → sp vs H Q E →
      ∃ t, PSs (cxOf CX0 P w K mg base N qual (defScope st) f cdv A outer s H E).nox (defBody st) t ∧ t { nx := fun _ H' => Q .non H', rt := Q } (start N vs) H) : FnOk P w K mg base CX0 (k + 1) f fd ps sp := by
  obtain ⟨oc, od, dV, kV, doc, pm, an, cdv, ct, osl, rfl, lk, hcd⟩ := F.ex
  refine fn_of lk hcd S len fun A outer s H vs Q E hr hsp => ?_
  obtain ⟨t, h, q⟩ := hbody cdv A outer s H vs Q E hr hsp
  exact ⟨t, h.nox, q⟩
theorem fn_mk {x qual : Str} {st : Stmt} {f : Addr} {oc : Value} {od an : Option Addr} {osl : Array (Option Value)} {dV kV doc pm cdv ct : Value} (l : K.lookup f = some ⟨oc, od, .func (PySem.W.fnOf x qual (defArgs st) (defBody st) (defScope st) dV kV doc pm an cdv ct), osl⟩)
    (c : PySem.W.codeIn K cdv qual = true) (k : PySem.W.keepIn K (.ref f) = true) : Fn K x qual st f (PySem.W.fnOf x qual (defArgs st) (defBody st) (defScope st) dV kV doc pm an cdv ct) := ⟨⟨oc, od, dV, kV, doc, pm, an, cdv, ct, osl, rfl, l, c⟩, k⟩
end
structure DefAt (K : PySem.W.Frag) (mg : Str → Option Value) (x : Str) (st : Stmt) (ps : List Str) where
  f : Addr
  fd : FuncData
  F : Fn K x x st f fd
  b : Binds K fd ps []
  m : mg x = some (.ref f)
section
variable {X : Cx} {k : Nat} {ps : List Str} {sp : Sp} {x : Str} {st : Stmt} {p pos : Pos} {e : Expr} {es : List Expr} {t : TA}
theorem pc (D : DefAt X.K X.mg x st ps) (G : FnOk X.prog X.w X.K X.mg X.base CX0 k D.f D.fd ps sp) (hr : Room k X.A) (ha : PA X (e :: es) t) (hg : Gl X x := by rfl) (hdb : (x == ("__debug__" : Str)) = false := by decide)
    (he : starEach (e :: es) X.env = (false, eval e X.env) :: starEach es X.env := by rfl) (hpl : (backTo pos (starEach es X.env)).any (·.1) = false := by rfl) : PE X (.Call (.Name x p) (e :: es) [] pos) (tCall sp [] E0 t) :=
  pe_call G hr hg D.m D.F.kp D.b .nil pass0 ha hdb he hpl
end
noncomputable def Knw (K : PySem.W.Frag) (H : Hp) (x : V) : Prop := ∃ T, TyOf K H x (.type T)
theorem Same.upd {H H' : Hp} {l : Addr} {o : HO} (e : Same H H') (h : H' l = none) : Same H (upd H' l o) := fun b u q => by
  rw [upd_ne (ne_of_none (e b u q) h)]
  exact e b u q
theorem Knw.same {K : PySem.W.Frag} {H H' : Hp} {x : V} (e : Same H H') (k : Knw K H x) : Knw K H' x := by
  obtain ⟨T, k⟩ := k
  cases k with
  | non => exact ⟨_, .non⟩
  | bl b => exact ⟨_, .bl b⟩
  | int i => exact ⟨_, .int i⟩
  | str z => exact ⟨_, .str z⟩
  | flt z => exact ⟨_, .flt z⟩
  | lst h => exact ⟨_, .lst (e _ _ h)⟩
  | frz h => exact ⟨_, .frz (e _ _ h)⟩
  | tup h => exact ⟨_, .tup (e _ _ h)⟩
  | dK h => exact ⟨_, .dK (e _ _ h)⟩
  | dT h => exact ⟨_, .dT (e _ _ h)⟩
end L2

namespace L2
open PySem PySem.Spec PyProof.Rows
theorem mk_iff (a b : List Nat) : mkS a = mkS b ↔ a = b := ⟨mk_inj, fun h => by rw [h]⟩
theorem tyV_str {K : PySem.W.Frag} {z : Str} {H : Hp} : tyV K "str" (.str z) H ↔ True := by simp [tyV]
theorem tyV_lst {K : PySem.W.Frag} {p : Addr} {xs : List V} {H : Hp} (h : SqL K H p xs) : tyV K "list" (.ref p) H := Or.inl ⟨rfl, xs, h⟩
theorem fm_one {α β : Type} (f : α → β) : ∀ l : List α, l.flatMap (fun c => [f c]) = l.map f
  | [] => rfl
  | a :: l => by rw [List.flatMap_cons, fm_one f l]; rfl
section
variable {tb : TS} {D : Ends} {σ : St} {H : Hp} {k : Nat}
theorem tfor_list {K : PySem.W.Frag} {a : Addr} {xs : List V} {te : TE} (hte : ∀ R : VK, R (.ref a) H → te σ H R) (hq : SqL K H a xs) (Pv : Nat → St → Hp → Prop) (h0 : Pv 0 σ H) (hl : ∀ i σ H, Pv i σ H → SqL K H a xs)
    (hs : ∀ (i : Nat) (x : V) (σ : St) (H : Hp), xs[i]? = some x → Pv i σ H → tb { D with nx := Pv (i + 1), ct := Pv (i + 1), bk := D.nx } (σ.set k (some x)) H) (hd : ∀ σ H, Pv xs.length σ H → D.nx σ H) :
    tFor (iList K te) (gName k) tb D σ H :=
  hte _ ⟨a, rfl, ⟨xs, hq⟩, for_walk (xs := xs) Pv h0 (wk_list fun H ⟨i, σ, p⟩ => hl i σ H p) (fun i x σ H hx p => hs i x σ H hx p) hd⟩
end
section
variable {tc : TT} {te : TE} {src : List (Option Nat)} {σ : St} {H : Hp} {Q : VK} {k : Nat}
theorem tcomp_list {K : PySem.W.Frag} {a : Addr} {xs : List V} {tl : TE} (H0 : Hp) (hte : ∀ R : VK, R (.ref a) H0 → tl σ H R) (hq : SqL K H0 a xs) (F : V → List V) (Pv : Hp → Prop) (hsrc : src[k]? = some none) (h0 : Pv H0) (hl : ∀ H, Pv H → SqL K H a xs) (hz : xs.length ≤ sizeLine)
    (hs : ∀ (i : Nat) (x : V) (H' : Hp) (Cy : VK) (Cn : Hp → Prop), xs[i]? = some x → Pv H' → (∀ y H4, F x = [y] → Pv H4 → Cy y H4) → (∀ H3, F x = [] → Pv H3 → Cn H3) →
      tc ((stComp src σ).set k (some x)) H' fun b H3 => if b = true then te ((stComp src σ).set k (some x)) H3 Cy else Cn H3)
    (hd : ∀ H' l, Pv H' → H' l = none → Q (.ref l) (upd H' l (.lst (xs.flatMap F)))) : tComp src (iList K tl) (gName k) tc te σ H Q :=
  hte _ ⟨a, rfl, ⟨xs, hq⟩, comp_walk F Pv hsrc h0 (wk_list hl) hz hs hd⟩
end
end L2

namespace L2
open PySem PySem.Spec PyProof.Rows
section
variable {K : PySem.W.Frag} {H : Hp} {Q : VK} {a b : Int} {x y : Str} {p q : Bool} {l : List Nat} {c : Nat} {v : V}
theorem add_ii : rAddA (.int a) (.int b) H Q ↔ Q (.int (a + b)) H := by simp [rAddA, rI0, rCat]
theorem add_ss : rAddA (.str x) (.str y) H Q ↔ x.length + y.length ≤ sizeLine ∧ Q (.str (x ++ y)) H := by simp [rAddA, rI0, rCat]
theorem mul_ii : rMulA (.int a) (.int b) H Q ↔ CMul a b ∧ Q (.int (a * b)) H := by simp [rMulA, rI, rRep]
theorem mul_si : rMulA (.str x) (.int b) H Q ↔ MulOk x b ∧ Q (.str (Txt.mul x b)) H := by simp [rMulA, rI, rRep]
theorem ix_si : rIx K (.str x) (.int a) H Q ↔ x.length ≤ sizeLine ∧ ∃ c, atI x.cps.toList a = some c ∧ Q (.str (mkS [c])) H := by
  simp [rIx, rIxL, rIxT, rIxS, mk_one]
theorem eq_ii : rEqA K (.int a) (.int b) H Q ↔ Q (.bl (decide (a = b))) H := by
  have s : scal (V.int a) (V.int b) = true := rfl
  simp [rEqA, rEq, rEqL, s]
theorem eq_ss : rEqA K (.str x) (.str y) H Q ↔ Q (.bl (decide (x = y))) H := by
  have s : scal (V.str x) (V.str y) = true := rfl
  simp [rEqA, rEq, rEqL, s]
theorem eq_bb : rEqA K (.bl p) (.bl q) H Q ↔ Q (.bl (decide (p = q))) H := by
  have s : scal (V.bl p) (V.bl q) = true := rfl
  simp [rEqA, rEq, rEqL, s]
theorem ne_ii : rNeA K (.int a) (.int b) H Q ↔ Q (.bl (!decide (a = b))) H := by
  have s : scal (V.int a) (V.int b) = true := rfl
  simp [rNeA, rNe, rEqL, s]
theorem ne_ss : rNeA K (.str x) (.str y) H Q ↔ Q (.bl (!decide (x = y))) H := by
  have s : scal (V.str x) (V.str y) = true := rfl
  simp [rNeA, rNe, rEqL, s]
theorem ne_ni : rNeA K .non (.int a) H Q ↔ Q (.bl true) H := by
  have s : scal (V.non) (V.int a) = true := rfl
  simp [rNeA, rNe, rEqL, s]
theorem ne_in : rNeA K (.int a) .non H Q ↔ Q (.bl true) H := by
  have s : scal (V.int a) (V.non) = true := rfl
  simp [rNeA, rNe, rEqL, s]
theorem in_s1 : rInA K (.str (mkS [c])) (.str (mkS l)) H Q ↔ Q (.bl (hasS l c)) H := by
  simp only [rInA, rIn, V.str.injEq, mk_iff, List.cons.injEq, and_true, reduceCtorEq, false_and, exists_false, or_false]
  exact ⟨fun ⟨_, _, e1, e2, z⟩ => by subst e1 e2; exact z, fun z => ⟨_, _, rfl, rfl, z⟩⟩
theorem notin_s1 : rNotInA K (.str (mkS [c])) (.str (mkS l)) H Q ↔ Q (.bl (!hasS l c)) H := by
  simp only [rNotInA, rIn, V.str.injEq, mk_iff, List.cons.injEq, and_true, reduceCtorEq, false_and, exists_false, or_false]
  exact ⟨fun ⟨_, _, e1, e2, z⟩ => by subst e1 e2; exact z, fun z => ⟨_, _, rfl, rfl, z⟩⟩
theorem is_xn : rIsA v .non H Q ↔ Q (.bl (decide (v = .non))) H := by simp [rIsA]
theorem is_bb : rIsA (.bl p) (.bl q) H Q ↔ Q (.bl (p == q)) H := by simp [rIsA]
theorem isnot_xn : rIsNotA v .non H Q ↔ Q (.bl (!decide (v = .non))) H := by simp [rIsNotA]
theorem isnot_bb : rIsNotA (.bl p) (.bl q) H Q ↔ Q (.bl (p != q)) H := by simp [rIsNotA]
theorem sl_s {lo hi : Option Int} : rSlA K (.str x) lo hi H Q ↔ x.length ≤ sizeLine ∧ Q (.str (mkS (cutL (sg x) lo hi))) H := by simp [rSlA, rSlL, rSlS]
theorem len_s : rLenA K [.str x] H Q ↔ x.length ≤ sizeLine ∧ Q (.int x.length) H := by simp [rLenA]
theorem find_ss : rFind (.str x) [.str y] H Q ↔ Q (.int (Txt.find x y)) H := by simp [rFind]
theorem index_ss : rIndex (.str x) [.str y] H Q ↔ 0 ≤ Txt.find x y ∧ Q (.int (Txt.find x y)) H := by simp [rIndex]
variable {r s t : Addr} {xs ys : List V}
theorem ixL (h : SqL K H r xs) (e : atI xs a = some v) (z : Q v H) : rIx K (.ref r) (.int a) H Q := .inl ⟨r, xs, a, v, rfl, rfl, h, e, z⟩
theorem ixT (h : SqT K H r xs) (e : atI xs a = some v) (z : Q v H) : rIx K (.ref r) (.int a) H Q := .inr (.inl ⟨r, xs, a, v, rfl, rfl, h, e, z⟩)
theorem eqLL (h1 : SqL K H r xs) (h2 : SqL K H s ys) (f1 : xs.all flatV = true) (f2 : ys.all flatV = true) (z : Q (.bl (eqL xs ys)) H) : rEqA K (.ref r) (.ref s) H Q := .inr ⟨r, s, xs, ys, rfl, rfl, h1, h2, f1, f2, z⟩
theorem neLL (h1 : SqL K H r xs) (h2 : SqL K H s ys) (f1 : xs.all flatV = true) (f2 : ys.all flatV = true) (z : Q (.bl (!eqL xs ys)) H) : rNeA K (.ref r) (.ref s) H Q := .inr ⟨r, s, xs, ys, rfl, rfl, h1, h2, f1, f2, z⟩
theorem lenL (h : SqL K H r xs) (z : Q (.int xs.length) H) : rLenA K [.ref r] H Q := .inl ⟨r, xs, rfl, .inl h, z⟩
theorem catL (h1 : H r = some (.lst xs)) (h2 : H s = some (.lst ys)) (hz : xs.length + ys.length ≤ sizeLine) (z : ∀ p, H p = none → Q (.ref p) (upd H p (.lst (xs ++ ys)))) : rAddA (.ref r) (.ref s) H Q := .inr (.inr ⟨r, s, xs, ys, rfl, rfl, h1, h2, hz, z⟩)
theorem slL {lo hi : Option Int} (h : SqL K H r xs) (z : ∀ p, H p = none → Q (.ref p) (upd H p (.lst (cutL xs lo hi)))) : rSlA K (.ref r) lo hi H Q := .inl ⟨r, xs, rfl, h, z⟩
theorem appL (h : H r = some (.lst xs)) (hz : xs.length < sizeLine) (z : Q .non (upd H r (.lst (xs ++ [v])))) : rAppend (.ref r) [v] H Q := ⟨r, xs, v, rfl, rfl, h, hz, z⟩
theorem allL {bs : List Bool} (h : SqL K H r (bs.map V.bl)) (z : Q (.bl (bs.all id)) H) : rAll K [.ref r] H Q := ⟨r, bs, rfl, h, z⟩
theorem isi_t {v : V} {T0 T' : String} (k : TyOf K H v (.type T0)) (q : Q (.bl true) H) (e : kitB T0 T' = some true := by decide +kernel) : rIsi K [v, .ty T'] H Q := ⟨v, T0, T', true, rfl, k, e, q⟩
theorem isi_f {v : V} {T0 T' : String} (k : TyOf K H v (.type T0)) (q : Q (.bl false) H) (e : kitB T0 T' = some false := by decide +kernel) : rIsi K [v, .ty T'] H Q := ⟨v, T0, T', false, rfl, k, e, q⟩
theorem atIn {α : Type} {xs : List α} {i : Int} {c : α} (h0 : 0 ≤ i) (h : xs[i.toNat]? = some c) : atI xs i = some c := by
  have := atI_nat (j := i.toNat) h
  rw [Int.toNat_of_nonneg h0] at this
  exact this
theorem catOk {xs ys : List V} (h1 : xs.length ≤ 10000) (h2 : ys.length ≤ 10000) : xs.length + ys.length ≤ sizeLine := by rw [sizeLine_eq]; omega
end
end L2

namespace L2
open PySem PySem.Spec PyProof.Rows
section
variable {tb : TS} {D : Ends} {σ : St} {H : Hp} {k : Nat}
theorem while_cps {c : TT} (Pv : St → Hp → Prop) (μ : St → Hp → Nat) (h0 : Pv σ H)
    (hs : ∀ (σ : St) (H : Hp) (C : Bool → Hp → Prop), Pv σ H → (∀ H1, tb { D with nx := fun σ' H' => Pv σ' H' ∧ μ σ' H' < μ σ H, ct := fun σ' H' => Pv σ' H' ∧ μ σ' H' < μ σ H, bk := D.nx } σ H1 → C true H1) → (∀ H1, D.nx σ H1 → C false H1) → c σ H C) : tWhile c tb D σ H := by
  refine ⟨fun m σ H => m = μ σ H ∧ Pv σ H, ⟨_, rfl, h0⟩, ?_⟩
  rintro m σ H ⟨rfl, p⟩
  refine hs σ H _ p (fun H1 q => ?_) fun H1 q => ?_
  · exact ⟨_, fun σ' H' ⟨p', l⟩ => ⟨_, l, rfl, p'⟩, q⟩
  · exact q
end
end L2

namespace L2
open PySem PySem.Spec PyProof.Rows
end L2

namespace L2
open PySem PySem.Spec PyProof.Rows
noncomputable def plE : Expr → Bool
  | .Starred .. => false
  | _ => true
theorem star_cons {e : Expr} {es : List Expr} {env : Env} (h : plE e = true) : starEach (e :: es) env = (false, eval e env) :: starEach es env := by
  cases e <;> first
    | rfl
    | cases h
theorem star_any {pos : Pos} {env : Env} : ∀ {es : List Expr}, es.all plE = true → (backTo pos (starEach es env)).any (·.1) = false
  | [], _ => rfl
  | e :: es, h => by
    rw [List.all_cons, Bool.and_eq_true] at h
    rw [star_cons h.1]
    show (false || (backTo pos (starEach es env)).any (·.1)) = false
    rw [star_any h.2]
    rfl
theorem star_all {pos : Pos} {env : Env} : ∀ {es : List Expr}, es.all plE = true → (backTo pos (starEach es env)).all (fun x => !x.1) = true
  | [], _ => rfl
  | e :: es, h => by
    rw [List.all_cons, Bool.and_eq_true] at h
    rw [star_cons h.1]
    show (true && (backTo pos (starEach es env)).all (fun x => !x.1)) = true
    rw [star_all h.2]
    rfl
section
variable {X : Cx} {k : Nat} {ps : List Str} {sp : Sp} {x : Str} {st : Stmt} {p pos : Pos} {e : Expr} {es : List Expr} {t : TA} {te : TE} {id T : String} {r : List V → Hp → VK → Prop}
theorem pa1 (ha : PE X e te) (hr : PA X es t) (h : plE e = true := by rfl) : PA X (e :: es) (tCons te t) := pa_cons ha hr (star_cons h)
theorem pcB (hc : CallR X (.builtin id) r) (hg : Gl X x) (hm : X.mg x = none) (hv : bootBuiltins x = some (.builtin id)) (ha : PA X (e :: es) t) (h : plE e = true := by rfl) (h2 : es.all plE = true := by rfl) (hn : x ≠ "__name__" := by decide) (hdb : (x == ("__debug__" : Str)) = false := by decide) : PE X (.Call (.Name x p) (e :: es) [] pos) (tCB r t) :=
  pe_callB hc hg hm hv ha hn hdb (star_cons h) (star_any h2)
theorem pcT (hc : CallR X (.type T) r) (hg : Gl X x) (hm : X.mg x = none) (hv : bootBuiltins x = some (.type T)) (ha : PA X (e :: es) t) (h : plE e = true := by rfl) (h2 : es.all plE = true := by rfl) (hn : x ≠ "__name__" := by decide) (hdb : (x == ("__debug__" : Str)) = false := by decide) : PE X (.Call (.Name x p) (e :: es) [] pos) (tCB r t) :=
  pe_callTy hc hg hm hv ha hn hdb (star_cons h) (star_any h2)
theorem pc1 (D : DefAt X.K X.mg x st ps) (G : FnOk X.prog X.w X.K X.mg X.base CX0 k D.f D.fd ps sp) (hr : Room k X.A) (ha : PA X (e :: es) t) (h : plE e = true := by rfl) (h2 : es.all plE = true := by rfl) (hg : Gl X x := by rfl) (hdb : (x == ("__debug__" : Str)) = false := by decide) : PE X (.Call (.Name x p) (e :: es) [] pos) (tCall sp [] E0 t) :=
  pc D G hr ha hg hdb (star_cons h) (star_any h2)
theorem pm1 {K : PySem.W.Frag} {o : Expr} {to : TE} {name : Str} {apos cpos : Pos} {r : V → List V → Hp → VK → Prop} (pa : PlainAttrs T) (slot : Slot T name id) (hty : typeOf (.builtin id) = pure (.type "method_descriptor")) (hm : MtR X id r) (ho : PE X o to) (ha : PA X (e :: es) t) (h : plE e = true := by rfl) (h2 : es.all plE = true := by rfl) (h3 : es.length < 20 := by decide) (hK : X.K = K := by rfl)
    (hbase : attributeBase o name X.env (eval o X.env) = eval o X.env := by rfl) (hline : (apos.endLine == cpos.line) = true := by rfl) : PE X (.Call (.Attribute o name apos) (e :: es) [] cpos) (tBM K T r to t) :=
  pe_bmK pa slot hty hm ho ha hK hbase (by
    rw [star_all (by rw [List.all_cons, h, h2]; rfl)]
    have : decide ((e :: es).length + ([] : List Keyword).length + (if ([] : List Keyword).isEmpty then 0 else 1) < 30) = true := decide_eq_true (by
      show es.length + 1 + 0 + 0 < 30
      omega)
    rw [this]
    rfl) hline (star_cons h) (star_any h2)
end
end L2

namespace L2
open PySem
noncomputable def ExAt (h : Heap) (x : Addr) (cls a0 : Value) (T : Addr) (fl : Value) : Prop :=
  ∃ ox vs oT ts, h.get? x = some ox ∧ (ox.cls = cls ∧ ox.dict = none) ∧ ox.data = .fields vs ∧ vs[0]? = some a0 ∧ vs[1]? = some (.ref T) ∧ vs[2]? = some .none ∧ T ≠ x ∧ h.get? T = some oT ∧ oT.data = .fields ts ∧ ts[3]? = some fl
structure KeepBut (l fs : List Addr) (h h' : Heap) : Prop where
  keep : ∀ b o, b ∉ l → b ∉ fs → h.get? b = some o → h'.get? b = some o
  slot : ∀ b o, b ∉ l → h.get? b = some o → ∃ sl, h'.get? b = some { o with slots := sl }
  there : ∀ b o, h.get? b = some o → ∃ o', h'.get? b = some o'
theorem KeepBut.trans {l fs : List Addr} {h h1 h2 : Heap} (a : KeepBut l fs h h1) (b : KeepBut l fs h1 h2) : KeepBut l fs h h2 where
  keep := fun c o n m e => b.keep c o n m (a.keep c o n m e)
  slot := fun c o n e => by
    obtain ⟨_, e1⟩ := a.slot c o n e
    obtain ⟨sl, e2⟩ := b.slot c _ n e1
    exact ⟨sl, e2⟩
  there := fun c o e => by
    obtain ⟨o1, e1⟩ := a.there c o e
    exact b.there c o1 e1
theorem KeepBut.mono {l l' fs fs' : List Addr} {h h' : Heap} (a : KeepBut l fs h h') (m : ∀ b ∈ l, b ∈ l') (n : ∀ b ∈ fs, b ∈ fs') : KeepBut l' fs' h h' :=
  ⟨fun b o x y => a.keep b o (fun z => x (m b z)) (fun z => y (n b z)), fun b o x => a.slot b o fun z => x (m b z), a.there⟩
theorem KeepBut.upd {h : Heap} {x : Addr} {fs : List Addr} {f : Obj → Obj} {o : Obj} (e : h.get? x = some o) (nf : (f o).isFreed = false) : KeepBut [x] fs h (h.update x f) where
  keep := fun b u n _ q => by
    rw [Heap.get?_update_other _ _ (fun z => n (by simp [z]))]
    exact q
  slot := fun b u n q => ⟨u.slots, by
    rw [Heap.get?_update_other _ _ (fun z => n (by simp [z]))]
    exact q⟩
  there := fun b u q => by
    by_cases z : x = b
    · subst z
      exact ⟨_, Heap.get?_update_self f e nf⟩
    · exact ⟨u, by rw [Heap.get?_update_other _ _ z]; exact q⟩
theorem KeepBut.push {h : Heap} {l fs : List Addr} (o : Obj) : KeepBut l fs h (h.push o) :=
  ⟨fun _ _ _ _ q => Heap.get?_push_of_some _ q, fun _ u _ q => ⟨u.slots, Heap.get?_push_of_some _ q⟩, fun _ u q => ⟨u, Heap.get?_push_of_some _ q⟩⟩
theorem KeepBut.slots {h h' : Heap} {l fs : List Addr} (k : Heap.SlotsOnly fs h h') : KeepBut l fs h h' :=
  ⟨fun b o _ n q => (k.2.1 b n).trans q, fun b o _ q => k.2.2 b o q, fun b o q => let ⟨_, e⟩ := k.2.2 b o q; ⟨_, e⟩⟩
section
variable {M : Model} {A : Around} {E : Value → Shared → Prop} {s : Shared}
end
end L2

namespace L2
open PySem PyProof.Rows
section
variable {prog : Program} {w : World} {A : Around} {E : Value → Shared → Prop} {s : Shared}
end
end L2

namespace L2
open PySem PySem.W PyProof.Rows
section
variable {K : Frag} {prog : Program} {w : World} {A : Around} {E : Value → Shared → Prop} {s : Shared} {x D : Addr} {ox : Obj} {odo : Option Obj}
end
end L2

namespace L2
open PySem PySem.Spec PyProof.Rows
theorem ObjOk.has {P : Program} {w : World} {H : Hp} {h : Heap} {a : Addr} : ∀ {o : HO}, ObjOk P w H h a o → ∃ ob, h.get? a = some ob
  | .lst _, x => by obtain ⟨_, _, _, _, e⟩ := x; exact ⟨_, e⟩
  | .tup _, x => by obtain ⟨_, _, _, o, e, _⟩ := x; exact ⟨o, e⟩
  | .dK _, x => by obtain ⟨_, _, _, _, o, _, _, e, _⟩ := x; exact ⟨o, e⟩
  | .dT _, x => by obtain ⟨_, _, _, _, o, _, _, e, _⟩ := x; exact ⟨o, e⟩
  | .set _ _, x => by
    obtain ⟨o, e⟩ : ∃ o, h.get? a = some o := by
      have z : h.SetOf (intKind P w) a _ _ := x
      obtain ⟨o, _, _, _, e, _⟩ := z
      exact ⟨o, e⟩
    exact ⟨o, e⟩
  | .ins _ _ _, x => by obtain ⟨_, _, _, e, _⟩ := x; exact ⟨_, e⟩
  | .own _, x => x
  | .xd _, x => by obtain ⟨_, ⟨o, _, _, e, _⟩, _⟩ := x; exact ⟨o, e⟩
  | .met _ _, e => ⟨_, e⟩
  | .rng _ _, ⟨_, _, _, e⟩ => ⟨_, e⟩
  | .frz o _, ⟨e, _⟩ => ⟨o, e⟩
  | .tbl _, e => ⟨_, e⟩
  | .ext _, ⟨_, e, _⟩ => e
theorem HOk.no {P : Program} {w : World} {H : Hp} {h : Heap} (ok : HOk P w H h) {a : Addr} (n : h.get? a = none) : H a = none := by
  cases e : H a with
  | none => rfl
  | some o =>
    obtain ⟨ob, z⟩ := (ok a o e).has
    rw [n] at z
    cases z
section
variable {P : Program} {w : World} {H H' : Hp} {h h1 h2 : Heap} {l fs : List Addr}
theorem hok_but (ok : HOk P w H h1) (kb : KeepBut l fs h1 h2) (hl : ∀ b ∈ l, H b = none) (hf : ∀ b ∈ fs, H b = none) : HOk P w H h2 := fun b u e => by
  have key : ∀ c v, H c ≠ none → h1.get? c = some v → h2.get? c = some v := fun c v n q => kb.keep c v (fun z => n (hl c z)) (fun z => n (hf c z)) q
  refine (ok b u e).stay (fun c v hc q => key c v ?_ q) (fun _ q => q) fun _ _ q => q
  rcases hc with z | z
  · rw [z, e]; exact fun q => nomatch q
  · rw [z]; exact fun q => nomatch q
end
section
variable {X : Cx} {pins : List (Addr × Obj)} {σ : St} {H H' : Hp} {s s' : Shared}
theorem Inv.outer (I : Inv X pins σ H s) (hx : X.ex = []) (hs : X.stack = X.env :: X.outer) (hf : X.env.frame = some X.env.locals) (u : Un (frs X.stack) [] H H' s.heap s'.heap) : Un (frs X.outer) [] X.H₀ H' X.s₀.heap s'.heap := by
  have hsub : ∀ b, b ∈ frs X.stack ↔ b = X.env.locals ∨ b ∈ frs X.outer := fun b => by
    rw [hs]
    unfold frs
    rw [List.filterMap_cons, hf]
    simp
  have B := I.base
  rw [hx] at B
  have neL : ∀ b o, X.s₀.heap.get? b = some o → b ≠ X.env.locals := fun b o e => Nat.ne_of_lt (Nat.lt_of_lt_of_le (Heap.lt_size e) I.ok.above)
  refine ⟨fun b o e n hb hx' => ?_, fun b o e n hb hx' => ?_, fun b o e n hx' => ?_, fun b o e hx' => ?_, fun b xs e => u.tups b xs (B.tups b xs e), fun b o v e => u.frzs b o v (B.frzs b o v e), fun b ps e => ?_⟩
  · exact u.keep b o (B.keep b o e n hb hx') (B.free b o e n hx') (fun z => ((hsub b).mp z).elim (neL b o e) hb) (by simp)
  · obtain ⟨sl, e1⟩ := B.slot b o e n hb hx'
    obtain ⟨sl2, e2⟩ := u.any e1 (B.free b o e n hx') (by simp)
    exact ⟨sl2, e2⟩
  · obtain ⟨o1, e1⟩ := B.there b o e hx'
    exact u.free b o1 e1 (B.free b o e n hx') (by simp)
  · obtain ⟨o1, e1⟩ := B.there b o e hx'
    exact u.there b o1 e1 (by simp)
  · obtain ⟨m1, e1⟩ := B.tbls b ps e
    obtain ⟨m2, e2⟩ := u.tbls b _ e1
    exact ⟨m1 ++ m2, by rw [e2, Array.append_assoc]⟩
end
section
variable {P : Program} {w : World} {K : PySem.W.Frag} {mg : Str → Option Value} {base : Heap} {N : List Str} {qual : Str} {scope : Scope} {f : Addr} {cd : Value} {A : Around} {outer : List Env} {s₀ : Shared} {H₀ : Hp} {E : XK}
end
end L2

namespace L2
open PySem PySem.Spec PyProof.Rows
noncomputable def tRaise (C : Addr) (E : XK) (t : TA) : TS := fun _ σ H => t σ H fun vs H1 => vs.length ≤ sizeLine ∧ E (.ref C) none H1
section
variable {X : Cx} {E : XK} {x : Str} {C : Addr} {np cpos pos : Pos} {e : Expr} {es : List Expr} {t : TA}
end
end L2

namespace L2
open PySem PySem.Spec PyProof.Rows
section
variable {P : Program} {w : World} {K : PySem.W.Frag} {mg : Str → Option Value} {base : Heap}
end
section
variable {X : Cx} {k : Nat} {ps : List Str} {sp : Sp} {x : Str} {st : Stmt} {p pos : Pos} {e : Expr} {es : List Expr} {t : TA} {E : XK}
end
noncomputable def XP (X : Cx) (pins : List (Addr × Obj)) (σ : St) (Ex : XK) (e : Value) (s' : Shared) : Prop := ∃ (x C T : Addr) (a0 : Value) (H' : Hp), e = .ref x ∧ Inv X pins σ H' s' ∧ ExAt s'.heap x (.ref C) a0 T .none ∧ X.s₀.heap.get? x = none ∧ X.s₀.heap.get? T = none ∧
  (∀ p ∈ X.pn ++ pins, p.1 ≠ x ∧ p.1 ≠ T) ∧ H' x = none ∧ H' T = none ∧ Ex (.ref C) none H'
noncomputable def PEX (X : Cx) (e : Expr) (tx : XK → TE) : Prop := ∀ (pins : List (Addr × Obj)) (s : Shared) (σ : St) (H : Hp) (Q : VK) (Ex : XK), Inv X pins σ H s → tx Ex σ H Q → wpAny (model X.prog X.w) X.A (eval e X.env) (EP X pins σ Q) (XP X pins σ Ex) s
section
variable {X : Cx} {pins : List (Addr × Obj)} {σ : St} {H H' : Hp} {s s' : Shared}
theorem Inv.but {h' : Heap} {l : List Addr} (I : Inv X pins σ H s) (hx : X.ex = []) (kb : KeepBut l (frs X.stack) s.heap h') (hl : ∀ b ∈ l, X.s₀.heap.get? b = none ∧ H b = none ∧ (∀ p ∈ X.pn ++ pins, p.1 ≠ b) ∧ ∃ vs, ∀ o, s.heap.get? b = some o → o.data = .fields vs) : Inv X pins σ H { s with heap := h' } := by
  have neL : X.env.locals ∉ l := fun z => by
    obtain ⟨m, ⟨o, es, ep, ho, hd, _⟩, _⟩ := I.loc
    obtain ⟨_, _, _, vs, hv⟩ := hl _ z
    have := hv o ho
    rw [hd] at this; cases this
  have neC : ∀ x c, X.env.cells.lookup x = some c → c ∉ l := fun x c e z => by
    obtain ⟨v, o, ho, hd⟩ := I.cell x c e
    obtain ⟨_, _, _, vs, hv⟩ := hl _ z
    have := hv o ho
    rw [hd] at this; cases this
  have nl : ∀ b o, X.s₀.heap.get? b = some o → b ∉ l := fun b o e z => by rw [(hl b z).1] at e; cases e
  have sub : ∀ b o, X.s₀.heap.get? b = some o → b ∈ frs X.stack → b ∈ X.fs := fun b o e z => by
    rcases List.mem_cons.mp (I.stkSub b z) with y | y
    · exact absurd y (Nat.ne_of_lt (Nat.lt_of_lt_of_le (Heap.lt_size e) I.ok.above))
    · exact y
  refine ⟨I.ok, I.os, I.bare, ⟨fun b o e n hb he => ?_, fun b o e n hb he => ?_, I.base.free, fun b o e he => ?_, I.base.tups, I.base.frzs, I.base.tbls⟩, ?_, fun x c e => ?_, I.free, I.freeC, fun p hp => ?_, hok_but I.hok kb (fun b hb => (hl b hb).2.1) I.stkFree, I.len⟩
  · exact kb.keep b o (nl b o e) (fun z => hb (sub b o e z)) (I.base.keep b o e n hb he)
  · obtain ⟨sl, e1⟩ := I.base.slot b o e n hb he
    obtain ⟨sl2, e2⟩ := kb.slot b _ (nl b o e) e1
    exact ⟨sl2, e2⟩
  · obtain ⟨o1, e1⟩ := I.base.there b o e he
    exact kb.there b o1 e1
  · obtain ⟨m, ⟨o, es, ep, ho, r⟩, hm⟩ := I.loc
    obtain ⟨sl, e⟩ := kb.slot _ o neL ho
    refine ⟨m, ⟨_, es, ep, e, r⟩, fun i x v e1 e2 e3 => ?_⟩
    obtain ⟨u, ru, lk⟩ := hm i x v e1 e2 e3
    refine ⟨u, ru, ?_⟩
    rcases lk with lk | ⟨kk, c, ec, oc, hoc, hdc⟩
    · exact .inl lk
    · obtain ⟨sl2, e'⟩ := kb.slot c oc (neC x c ec) hoc
      exact .inr ⟨kk, c, ec, _, e', hdc⟩
  · obtain ⟨v, o, ho, hd⟩ := I.cell x c e
    obtain ⟨sl, e'⟩ := kb.slot c o (neC x c e) ho
    exact ⟨v, _, e', hd⟩
  · obtain ⟨e, n, ne, nf, d⟩ := I.pin p hp
    refine ⟨kb.keep p.1 p.2 (fun z => (hl p.1 z).2.2.1 p hp rfl) (fun z => ?_) e, n, ne, nf, d⟩
    rcases List.mem_cons.mp (I.stkSub _ z) with y | y
    · exact ne y
    · exact nf y
end
end L2

namespace L2
open PySem PySem.Spec PyProof.Rows
noncomputable def HX (H : Hp) (x : Addr) (ox : Obj) : Prop := H x = some (.frz ox (.own x)) ∧ ∃ vs, ox.data = .fields vs ∧ vs[2]? = some .none
structure RoomH (k : Nat) (A : Around) (x : Addr) : Prop where
  hd : A.handled = some (.ref x)
  dp : A.depth + 3 * k + 5 < recursionLimit
  un : A.units + 16 * k + 200 < cLine
theorem RoomH.mono {j k : Nat} {A : Around} {x : Addr} (r : RoomH k A x) (h : j ≤ k) : RoomH j A x := ⟨r.hd, by have := r.dp; omega, by have := r.un; omega⟩
theorem RoomH.deeper {k : Nat} {A : Around} {x : Addr} (r : RoomH (k + 1) A x) (env : Env) : RoomH k (A.deeper env) x :=
  ⟨r.hd, by have := r.dp; show A.depth + 1 + 3 * k + 5 < _; omega, by have := r.un; show A.units + 3 + 16 * k + 200 < _; omega⟩
theorem RoomH.units0 {k : Nat} {A : Around} {x : Addr} (r : RoomH k A x) : A.units < cLine := by have := r.un; omega
section
variable {P : Program} {w : World} {K : PySem.W.Frag} {mg : Str → Option Value} {base : Heap}
end
noncomputable def tCallH (x : Addr) (sp : Sp) (t : TA) : TE := fun σ H Q => t σ H fun vs H1 => (∃ ox, HX H1 x ox) ∧ sp (vs ++ []) H1 Q E0
section
variable {X : Cx} {k : Nat} {ps : List Str} {sp : Sp} {x : Str} {st : Stmt} {p pos : Pos} {e : Expr} {es : List Expr} {t : TA} {y : Addr}
end
noncomputable def ExOb (ox : Obj) (D : Addr) : Prop := ox.cls = .ref D ∧ ox.dict = none ∧ ∃ vs, ox.data = .fields vs ∧ vs[2]? = some .none
end L2

namespace L2
open PySem PySem.Spec PyProof.Rows
section
variable {prog : Program} {w : World} {A : Around} {E : Value → Shared → Prop} {s : Shared} {env : Env}
end
noncomputable def tTryR (K : PySem.W.Frag) (C : Addr) (i : Nat) (tx : XK → TE) (ts : Addr → TS) : TS := fun D σ H => tx (fun cls _ H1 => ∃ C', cls = .ref C' ∧ PySem.W.exmOne K (.ref C') (.ref C) = some true ∧
  ∀ x ox, H1 x = none → ExOb ox C' → ts x { nx := fun _ _ => False, rt := D.rt } (σ.set i (some (.ref x))) (upd H1 x (.frz ox (.own x)))) σ H D.rt
section
variable {X : Cx} {K : PySem.W.Frag} {e : Expr} {tx : XK → TE} {cn n : Str} {C : Addr} {i : Nat} {b₀ : Stmt} {suite : List Stmt} {rpos np hpos pos : Pos} {ts : Addr → TS}
end
end L2

namespace L2
open PySem
noncomputable def isInt : V → Bool
  | .int _ => true
  | _ => false
theorem sl1000 {n : Nat} (h : n ≤ 100000) : n ≤ sizeLine := by rw [sizeLine_eq]; omega
theorem cxK {CX : CXT} {P : Program} {w : World} {K : PySem.W.Frag} {mg : Str → Option Value} {base : Heap} {N : List Str} {qual : Str} {scope : Scope} {f : Addr} {cd : Value} {A : Around} {outer : List Env} {s : Shared} {H : Hp} {E : XK} : (cxOf CX P w K mg base N qual scope f cd A outer s H E).K = K := rfl
theorem cutTo1 (l : List Nat) : cutL l none (some 1) = l.take 1 := by
  unfold cutL
  rw [HT.sIx_none, show (some (1 : Int)) = some ((1 : Nat) : Int) from rfl, HT.sIx_nat, List.drop_zero, Nat.sub_zero]
  rcases Nat.lt_or_ge l.length 1 with h | h
  · rw [Nat.min_eq_right (by omega), List.take_of_length_le (Nat.le_refl _), List.take_of_length_le (by omega)]
  · rw [Nat.min_eq_left h]
theorem cutFrom (l : List Nat) (k : Nat) : cutL l (some (k : Int)) none = l.drop k := by
  unfold cutL
  rw [HT.sIx_none, HT.sIx_nat, List.take_of_length_le (by rw [List.length_drop]; omega)]
  rcases Nat.lt_or_ge l.length k with h | h
  · rw [Nat.min_eq_right (by omega), List.drop_of_length_le (Nat.le_refl _), List.drop_of_length_le (by omega)]
  · rw [Nat.min_eq_left h]
theorem cutFrom1 (l : List Nat) : cutL l (some 1) none = l.drop 1 := cutFrom l 1
theorem Same.set {H H' : Hp} {l : Addr} {o : HO} (e : Same H H') (h : H l = none) : Same H (L2.upd H' l o) := fun b u q => by
  rw [upd_ne (ne_of_none q h)]
  exact e b u q
theorem Same.no {H H' : Hp} (e : Same H H') {l : Addr} (h : H' l = none) : H l = none := e.free h
noncomputable def NoL (K : PySem.W.Frag) (H : Hp) (x : V) : Prop := ∃ T0, TyOf K H x (.type T0) ∧ kitB T0 "list" = some false
theorem TyOf.same {K : PySem.W.Frag} {H H' : Hp} {x : V} {T : String} (e : Same H H') (k : TyOf K H x (.type T)) : TyOf K H' x (.type T) := by
  cases k with
  | non => exact .non
  | bl b => exact .bl b
  | int i => exact .int i
  | str z => exact .str z
  | flt z => exact .flt z
  | lst h => exact .lst (e _ _ h)
  | frz h => exact .frz (e _ _ h)
  | tup h => exact .tup (e _ _ h)
  | dK h => exact .dK (e _ _ h)
  | dT h => exact .dT (e _ _ h)
theorem NoL.same {K : PySem.W.Frag} {H H' : Hp} {x : V} (e : Same H H') (k : NoL K H x) : NoL K H' x := let ⟨T, a, b⟩ := k; ⟨T, a.same e, b⟩
theorem NoL.non {K : PySem.W.Frag} {H : Hp} : NoL K H .non := ⟨_, .non, by decide +kernel⟩
theorem NoL.bl {K : PySem.W.Frag} {H : Hp} {b : Bool} : NoL K H (.bl b) := ⟨_, .bl b, by decide +kernel⟩
theorem NoL.int {K : PySem.W.Frag} {H : Hp} {i : Int} : NoL K H (.int i) := ⟨_, .int i, by decide +kernel⟩
theorem NoL.str {K : PySem.W.Frag} {H : Hp} {z : Str} : NoL K H (.str z) := ⟨_, .str z, by decide +kernel⟩
theorem NoL.tup {K : PySem.W.Frag} {H : Hp} {a : Addr} {xs : List V} (e : H a = some (.tup xs)) : NoL K H (.ref a) := ⟨_, .tup e, by decide +kernel⟩
theorem NoL.dK {K : PySem.W.Frag} {H : Hp} {a : Addr} {xs : List (Key × V)} (e : H a = some (.dK xs)) : NoL K H (.ref a) := ⟨_, .dK e, by decide +kernel⟩
theorem isi_l {K : PySem.W.Frag} {H : Hp} {a : Addr} {xs : List V} {Q : VK} (k : H a = some (.lst xs)) (q : Q (.bl true) H) : rIsi K [.ref a, .ty "list"] H Q := isi_t (.lst k) q
end L2
namespace L2
open PySem
section
variable {X : Cx} {K : PySem.W.Frag}
noncomputable def rList (K : PySem.W.Frag) : List V → Hp → VK → Prop := fun xs H Q => ∃ p ys, xs = [.ref p] ∧ (SqL K H p ys ∨ SqT K H p ys) ∧ ∀ l, H l = none → Q (.ref l) (upd H l (.lst ys))
theorem call_listK (hK : X.K = K := by rfl) : CallR X (.type "list") (rList K) := by subst hK; exact call_list_of
end
theorem listL {K : PySem.W.Frag} {H : Hp} {Q : VK} {p : Addr} {ys : List V} (h : SqL K H p ys) (q : ∀ l, H l = none → Q (.ref l) (upd H l (.lst ys))) : rList K [.ref p] H Q := ⟨p, ys, rfl, .inl h, q⟩
end L2
namespace L2
open PySem
theorem KeepSt.refl (σ : St) : KeepSt σ σ := ⟨rfl, fun _ _ h => h⟩
end L2
namespace L2
open PySem
end L2
namespace L2
open PySem
theorem cutL_mem {α : Type} {xs : List α} {lo hi : Option Int} {v : α} (h : v ∈ cutL xs lo hi) : v ∈ xs := List.mem_of_mem_drop (List.mem_of_mem_take h)
end L2
namespace L2
open PySem
theorem flat_ints (l : List Int) : (l.map V.int).all flatV = true := by simp [List.all_map, flatV]
theorem neLL_same {K : PySem.W.Frag} {H : Hp} {Q : VK} {r s : Addr} {xs : List V} (h1 : H r = some (.lst xs)) (h2 : H s = some (.lst xs)) (f : xs.all flatV = true) (z : Q (.bl false) H) : rNeA K (.ref r) (.ref s) H Q :=
  neLL (SqL.of h1) (SqL.of h2) f f (by rw [eqL_self xs f]; exact z)
theorem eqLL_same {K : PySem.W.Frag} {H : Hp} {Q : VK} {r s : Addr} {xs : List V} (h1 : H r = some (.lst xs)) (h2 : H s = some (.lst xs)) (f : xs.all flatV = true) (z : Q (.bl true) H) : rEqA K (.ref r) (.ref s) H Q :=
  eqLL (SqL.of h1) (SqL.of h2) f f (by rw [eqL_self xs f]; exact z)
end L2

namespace L2
open PySem PySem.Spec PyProof.Rows
section
variable {X : Cx} {tg : Expr}
end
section
variable {X : Cx} {elts : List Expr} {x1 : Nat} {tpos : Pos}
end
end L2

namespace L2
open PySem PySem.Spec PyProof.Rows Builtin Builtin.Str
variable {X : Cx}
noncomputable def rSplit : V → List V → Hp → VK → Prop := fun x xs H Q => ∃ a b : Str, x = .str a ∧ xs = [.str b] ∧ (b.length == 0) = false ∧ a.length ≤ sizeLine ∧ (partsBetween a (occurrences a b 0 a.length (a.length + 1)) b.length).length ≤ sizeLine ∧ ∀ p, H p = none → Q (.ref p) (upd H p (.lst ((Txt.split a b).map V.str)))
theorem vals_strs : ∀ (k : Nat) (ys : List Str), Vals (ys.map V.str) (strsFrom k ys)
  | _, [] => .nil
  | k, y :: ys => .cons ⟨_, rfl⟩ (vals_strs (k + 1) ys)
theorem o_split : MtR X "str.split" rSplit := by
  intro pins s σ H x xs v us Q I rx rs h
  obtain ⟨a, b, rfl, rfl, hy, hsz, hsz2, q⟩ := h
  obtain ⟨t, rfl⟩ := rx
  cases rs with
  | cons r rr =>
    cases rr
    obtain ⟨u, rfl⟩ := r
    have one : Vals ([a].map V.str) [Value.str a t] := .cons ⟨_, rfl⟩ .nil
    have hs1 : (([a].map V.str).length) ≤ sizeLine := by rw [sizeLine_eq]; simp
    cases h1 : (decide (a.length < b.length) || decide (strKind a < strKind b))
    · cases hf : (occurrences a b 0 a.length (a.length + 1)).isEmpty
      · have e : Txt.split a b = partsBetween a (occurrences a b 0 a.length (a.length + 1)) b.length := (if_neg (ne_true_of_eq_false h1)).trans (if_neg (ne_true_of_eq_false hf))
        rw [e] at q
        exact call_meets F.slot_str_split (typeIs_str _ _ _) F.entry_str_split (F.args_str_split_2 _ _) (meets_str_split_sep a b t u h1 hy hf hsz hsz2) ⟨.ref s.heap.objs.size, _, I.lnew (vals_strs _ _) (by rw [List.length_map]; exact hsz2), rfl, q _ I.fresh⟩
      · have e : Txt.split a b = [a] := (if_neg (ne_true_of_eq_false h1)).trans (if_pos hf)
        rw [e] at q
        exact call_meets F.slot_str_split (typeIs_str _ _ _) F.entry_str_split (F.args_str_split_2 _ _) (meets_str_split_not_found a b t u h1 hy hf) ⟨.ref s.heap.objs.size, _, I.lnew (t' := s.toks) one hs1, rfl, q _ I.fresh⟩
    · have e : Txt.split a b = [a] := if_pos h1
      rw [e] at q
      exact call_meets F.slot_str_split (typeIs_str _ _ _) F.entry_str_split (F.args_str_split_2 _ _) (meets_str_split_cannot_occur a b t u h1) ⟨.ref s.heap.objs.size, _, I.lnew (t' := s.toks) one hs1, rfl, q _ I.fresh⟩
end L2

namespace L2
open PySem PySem.Spec PyProof.Rows
section
variable {X : Cx} {pins : List (Addr × Obj)} {σ : St} {H : Hp} {s : Shared}
end
end L2

namespace L2
open PySem
theorem comp_walkP {J : It} {xs : List V} {src : List (Option Nat)} {g : TG} {tc : TT} {te : TE} {σ : St} {H : Hp} {Q : VK} (Pv : Nat → List V → Hp → Prop) (h0 : Pv 0 [] H) (hw : Wk J xs fun H => ∃ i ys, Pv i ys H) (hz : xs.length ≤ sizeLine)
    (hs : ∀ (i : Nat) (x : V) (ys : List V) (H' : Hp) (Cy : VK) (Cn : Hp → Prop), xs[i]? = some x → Pv i ys H' → (∀ y H4, Pv (i + 1) (ys ++ [y]) H4 → Cy y H4) → (∀ H3, Pv (i + 1) ys H3 → Cn H3) →
      g x (stComp src σ) H' fun σ2 H2 => KeepSt (stComp src σ) σ2 ∧ tc σ2 H2 fun b H3 => if b = true then te σ2 H3 Cy else Cn H3)
    (hd : ∀ ys H' l, Pv xs.length ys H' → H' l = none → Q (.ref l) (upd H' l (.lst ys))) :
    ∃ W : Nat → Nat → List V → Hp → Prop, (∃ m, W 0 m [] H) ∧ ∀ i m ys H, W i m ys H →
      (J.stop i H ∧ ∀ l, H l = none → Q (.ref l) (upd H l (.lst ys))) ∨
      (J.go i H ∧ ys.length < sizeLine ∧ ∀ x H', J.yld i H x H' → g x (stComp src σ) H' fun σ2 H2 => KeepSt (stComp src σ) σ2 ∧ tc σ2 H2 fun b H3 => if b = true then te σ2 H3 fun y H4 => ∃ m', m' < m ∧ W (i + 1) m' (ys ++ [y]) H4 else ∃ m', m' < m ∧ W (i + 1) m' ys H3) := by
  refine ⟨fun i m ys H => m = xs.length - i ∧ i ≤ xs.length ∧ ys.length ≤ i ∧ Pv i ys H, ⟨xs.length, rfl, Nat.zero_le _, Nat.le_refl _, h0⟩, ?_⟩
  rintro i m ys H1 ⟨rfl, hi, hl, p⟩
  obtain ⟨g1, g2, g3⟩ := hw i H1 ⟨i, ys, p⟩
  by_cases hlt : i < xs.length
  · refine .inr ⟨g1 hlt, by omega, fun x H' y => ?_⟩
    obtain ⟨e, hx⟩ := g3 hlt x H' y
    subst e
    exact hs i x ys _ _ _ hx p (fun y' H4 p4 => ⟨xs.length - (i + 1), by omega, rfl, hlt, by rw [List.length_append]; simp; omega, p4⟩) fun H3 p3 => ⟨xs.length - (i + 1), by omega, rfl, hlt, by omega, p3⟩
  · have e : i = xs.length := by omega
    subst e
    exact .inl ⟨g2 (Nat.le_refl _), fun l hn => hd ys H1 l p hn⟩
section
variable {tc : TT} {te ta tb' td : TE} {src : List (Option Nat)} {σ : St} {H : Hp} {Q : VK} {k : Nat}
end
section
variable {tb : TS} {D : Ends} {σ : St} {H : Hp} {k : Nat}
end
end L2

namespace L2
open PySem PySem.Spec PyProof.Rows Builtin Builtin.Str
section
variable {X : Cx} {e a b o : Expr} {te ta tb to : TE} {lo hi : Option Expr} {tl th : TO} {pos p2 : Pos}
theorem nm_at {i : Nat} {x : Str} {v : V} {pos : Pos} {pins : List (Addr × Obj)} {s : Shared} {σ : St} {H : Hp} (I : Inv X pins σ H s) (hm : σ[i]? = some (some v)) (hN : X.N[i]? = some x) (hv : Vis X.env.scope x) (hd : (x == ("__debug__" : Str)) = false)
    (hcd : (x == ("__classdict__" : Str)) = false) : ∃ u, RelV v u ∧ ∀ (Q : Value → Shared → Prop) (E : Value → Shared → Prop), Q u s → wpAny (model X.prog X.w) X.A (eval (.Name x pos) X.env) Q E s := by
  obtain ⟨m, hn, hl⟩ := I.loc
  obtain ⟨u, r, l⟩ := hl i x v hN hm hv
  refine ⟨u, r, fun Q E fin => ?_⟩
  rcases l with ⟨hk, hm⟩ | ⟨hk, c, hc, hcell⟩
  · exact wpAny_Name (wpAny_loadName_local I.ok.kind hk hn hm fin) hd
  · rcases hk with hk | hk
    · exact wpAny_Name (wpAny_loadName_cell I.ok.kind hk hc hcell fin) hd
    · exact wpAny_Name (wpAny_loadName_free I.ok.kind hk hc hcell fin hcd) hd
end
end L2

namespace L2
open PySem PySem.Spec PyProof.Rows
mutual
def RdD (K : PySem.W.Frag) (H : Hp) : PyData → V → Prop
  | .none, x => x = .non
  | .bool b, x => x = .bl b
  | .int i, x => x = .int i
  | .str z, x => x = .str z
  | .list ds, x => ∃ a xs, x = .ref a ∧ SqL K H a xs ∧ RdDs K H ds xs
  | .tuple ds, x => ∃ a xs, x = .ref a ∧ SqT K H a xs ∧ RdDs K H ds xs
  | .dict _, _ => False
def RdDs (K : PySem.W.Frag) (H : Hp) : List PyData → List V → Prop
  | [], xs => xs = []
  | d :: ds, xs => ∃ y ys, xs = y :: ys ∧ RdD K H d y ∧ RdDs K H ds ys
end
section
variable {X : Cx} {pins : List (Addr × Obj)} {σ : St} {H : Hp} {s : Shared}
mutual
theorem RdD.reads (I : Inv X pins σ H s) : ∀ (d : PyData) (x : V) (u : Value), RdD X.K H d x → RelV x u → ∃ as, Reads s.heap u d as
  | .none, x, u, h, r => by
    rw [RdD] at h; subst h; cases r; exact ⟨_, .none⟩
  | .bool b, x, u, h, r => by
    rw [RdD] at h; subst h; cases r; exact ⟨_, .bool b⟩
  | .int i, x, u, h, r => by
    rw [RdD] at h; subst h; obtain ⟨t, rfl⟩ := r; exact ⟨_, .int i t⟩
  | .str z, x, u, h, r => by
    rw [RdD] at h; subst h; obtain ⟨t, rfl⟩ := r; exact ⟨_, .str z t⟩
  | .list ds, x, u, h, r => by
    rw [RdD] at h
    obtain ⟨a, xs, rfl, hq, hd⟩ := h
    cases r
    obtain ⟨its, rv, pl, hz⟩ := I.list hq
    obtain ⟨as, ra⟩ := RdDs.reads I ds xs its hd rv
    obtain ⟨o, h1, h2, n, h3⟩ := pl.isList
    exact ⟨_, .list h1 h2 h3 (by simpa using ra)⟩
  | .tuple ds, x, u, h, r => by
    rw [RdD] at h
    obtain ⟨a, xs, rfl, hq, hd⟩ := h
    cases r
    obtain ⟨its, rv, pl, hz⟩ := I.tuple hq
    obtain ⟨as, ra⟩ := RdDs.reads I ds xs its hd rv
    obtain ⟨o, h1, h2, n, h3⟩ := pl
    exact ⟨_, .tuple h1 h2 h3 (by simpa using ra)⟩
  | .dict _, x, u, h, r => by rw [RdD] at h; exact h.elim
theorem RdDs.reads (I : Inv X pins σ H s) : ∀ (ds : List PyData) (xs : List V) (us : List Value), RdDs X.K H ds xs → Vals xs us → ∃ as, ReadsAll s.heap us ds as
  | [], xs, us, h, r => by
    rw [RdDs] at h; subst h; cases r; exact ⟨_, .nil⟩
  | d :: ds, xs, us, h, r => by
    rw [RdDs] at h
    obtain ⟨y, ys, rfl, h1, h2⟩ := h
    cases r with
    | cons r1 r2 =>
      obtain ⟨as, a1⟩ := RdD.reads I d y _ h1 r1
      obtain ⟨bs, a2⟩ := RdDs.reads I ds ys _ h2 r2
      exact ⟨_, .cons a1 a2⟩
end
noncomputable def rEqD (K : PySem.W.Frag) (neg : Bool) : R2 := fun x y H Q => ∃ d e, RdD K H d x ∧ RdD K H e y ∧ d.canLay0 = true ∧ e.canLay0 = true ∧ d.depth ≤ 60 ∧ Q (.bl (if neg then !PyData.eqv d e else PyData.eqv d e)) H
theorem o_neD {K : PySem.W.Frag} (hu : X.A.units + 64 < cLine) (hK : X.K = K := by rfl) : OpR X (compareOp .NotEq) (rEqD K true) := by
  subst hK
  intro pins s σ H x y v u Q I rx ry h
  obtain ⟨d, e, h1, h2, l1, l2, hd, q⟩ := h
  obtain ⟨as, r1⟩ := RdD.reads I d x v h1 rx
  obtain ⟨bs, r2⟩ := RdD.reads I e y u h2 ry
  exact SeqAt.compareNe_reads r1 r2 l1 l2 (by omega) ⟨.bl _, H, I, rfl, q⟩
theorem neD_same {K : PySem.W.Frag} {x y : V} {Q : VK} (d : PyData) (h1 : RdD K H d x) (h2 : RdD K H d y) (l : d.canLay0 = true) (hd : d.depth ≤ 60) (q : Q (.bl false) H) : rEqD K true x y H Q :=
  ⟨d, d, h1, h2, l, l, hd, by rw [SeqAt.eqv_refl d l]; exact q⟩
end
section
variable {X : Cx} {K : PySem.W.Frag} {e : Expr} {tx : XK → TE} {cn n : Str} {C : Addr} {i : Nat} {b₀ : Stmt} {suite : List Stmt} {rpos np hpos pos : Pos} {ts : Addr → TS}
end
end L2

namespace L2
open PySem PySem.Spec PyProof.Rows
structure MethAt (K : PySem.W.Frag) (C : Addr) (m qual : Str) (st : Stmt) (ps : List Str) where
  f : Addr
  fd : FuncData
  F : Fn K m qual st f fd
  b : Binds K fd ps []
  at_ : PySem.W.findIn K (.ref C) m = some (some (.ref f))
  fn : PySem.W.isFn K (.ref f) = true
section
variable {X : Cx} {K : PySem.W.Frag} {k : Nat} {ps : List Str} {sp : Sp} {x m qual : Str} {st : Stmt} {p pos apos : Pos} {e o value : Expr} {es : List Expr} {t : TA} {ta tv : TE} {E : XK} {C : Addr} {f : Str} {pos' : Pos}
theorem pe_fldK (he : PE X e ta) (hb : attributeBase e f X.env (eval e X.env) = eval e X.env := by rfl) (hK : X.K = K := by rfl) : PE X (.Attribute e f pos) (tFld K ta f) := by
  subst hK
  exact pe_fld he hb
theorem ps_fldK (ha : PE X o ta) (hv : PE X value tv) (hs : swapsWith value (some (.Attribute o f pos')) pos.line X.env = pure false := by rfl) (hK : X.K = K := by rfl) : PS X (.Assign [.Attribute o f pos'] value pos) (sFld K ta tv f) := by
  subst hK
  exact ps_fld ha hv hs
theorem pmk (hk : PySem.W.makesIn X.K C = true) (hp : PySem.W.keepIn X.K (.ref C) = true) (hm : X.mg x = some (.ref C)) (D : MethAt X.K C "__init__" qual st ps) (G : FnOk X.prog X.w X.K X.mg X.base CX0 k D.f D.fd ps sp) (hr : Room (k + 1) X.A) (ha : PA X (e :: es) t)
    (h : plE e = true := by rfl) (h2 : es.all plE = true := by rfl) (hg : Gl X x := by rfl) (hdb : (x == ("__debug__" : Str)) = false := by decide) : PE X (.Call (.Name x p) (e :: es) [] pos) (tMake C sp [] E0 t) :=
  pe_make ⟨hk, D.at_, D.fn, hp⟩ G hr hg hm D.b .nil pass0 ha hdb (star_cons h) (star_any h2)
theorem pmt0 {pl : Sem Bool} (he : PE X o ta) (c : Cls X.K C) (D : MethAt X.K C m qual st ps) (G : FnOk X.prog X.w X.K X.mg X.base CX0 k D.f D.fd ps sp) (hr : Room k X.A)
    (ht : eval (.Call (.Attribute o m apos) [] [] pos) X.env = (do
      let ov ← eval o X.env
      standAt apos.atName
      let (f, first) ← holding [ov] (getMethod ov m pl)
      callWith pos f first (backTo pos (starEach [] X.env)) (backToKw pos (keywordEach [] X.env))) := by rfl) :
    PE X (.Call (.Attribute o m apos) [] [] pos) (tMeth C m sp [] E0 ta tNil) := pe_meth0 he c ⟨D.at_, D.fn, D.F.kp⟩ G hr D.b .nil pass0 ht
theorem PS.nox {st : Stmt} {t : TS} (h : PS X.nox st t) : PS X st t := fun pins s σ H D I hw =>
  wpAny_mono (h pins s σ H D (I.wish _) hw) (fun _ _ q => q.unwish) fun _ _ z => False.elim z
end
end L2

namespace L2
open PySem PySem.Spec PyProof.Rows
theorem Same.seqT {K : PySem.W.Frag} {H H' : Hp} {a : Addr} {xs : List V} (e : Same H H') (h : SqT K H a xs) : SqT K H' a xs := by
  rcases h with (h | ⟨o, h⟩) | h
  · exact .inl (.inl (e _ _ h))
  · exact .inl (.inr ⟨o, e _ _ h⟩)
  · exact .inr h
mutual
theorem RdD.same {K : PySem.W.Frag} {H H' : Hp} (e : Same H H') : ∀ (d : PyData) (x : V), RdD K H d x → RdD K H' d x
  | .none, x, h => by rw [RdD] at h ⊢; exact h
  | .bool b, x, h => by rw [RdD] at h ⊢; exact h
  | .int i, x, h => by rw [RdD] at h ⊢; exact h
  | .str z, x, h => by rw [RdD] at h ⊢; exact h
  | .list ds, x, h => by
    rw [RdD] at h ⊢
    obtain ⟨a, xs, rfl, hq, hd⟩ := h
    exact ⟨a, xs, rfl, e.seq hq, RdDs.same e ds xs hd⟩
  | .tuple ds, x, h => by
    rw [RdD] at h ⊢
    obtain ⟨a, xs, rfl, hq, hd⟩ := h
    exact ⟨a, xs, rfl, e.seqT hq, RdDs.same e ds xs hd⟩
  | .dict _, x, h => by rw [RdD] at h; exact h.elim
theorem RdDs.same {K : PySem.W.Frag} {H H' : Hp} (e : Same H H') : ∀ (ds : List PyData) (xs : List V), RdDs K H ds xs → RdDs K H' ds xs
  | [], xs, h => by rw [RdDs] at h ⊢; exact h
  | d :: ds, xs, h => by
    rw [RdDs] at h ⊢
    obtain ⟨y, ys, rfl, h1, h2⟩ := h
    exact ⟨y, ys, rfl, RdD.same e d y h1, RdDs.same e ds ys h2⟩
end
theorem rd_ints {K : PySem.W.Frag} {H : Hp} : ∀ ns : List Int, RdDs K H (ns.map PyData.int) (ns.map V.int)
  | [] => by rw [List.map_nil, RdDs]; rfl
  | n :: ns => by rw [List.map_cons, RdDs]; exact ⟨_, _, rfl, by rw [RdD], rd_ints ns⟩
theorem lay_ints : ∀ ns : List Int, PyData.canLayAll0 (ns.map PyData.int) = true
  | [] => rfl
  | n :: ns => by rw [List.map_cons, PyData.canLayAll0, lay_ints ns]; rfl
theorem dep_ints : ∀ ns : List Int, PyData.depthAll (ns.map PyData.int) = 0
  | [] => rfl
  | n :: ns => by rw [List.map_cons, PyData.depthAll, dep_ints ns]; rfl
section
variable {σ : St} {H : Hp} {D : Ends} {k : Nat} {tb : TS}
end
section
variable {tc : TT} {te : TE} {src : List (Option Nat)} {σ : St} {H : Hp} {Q : VK} {k : Nat}
theorem tcomp_rngP {tl : TE} (j : Int) (h1 : 0 ≤ j) (h2 : j ≤ 100000) (hte : ∀ R : VK, R (.int j) H → tl σ H R) (Pv : Nat → List V → Hp → Prop) (hsrc : src[k]? = some none) (h0 : Pv 0 [] H)
    (hs : ∀ (i : Nat) (ys : List V) (H' : Hp) (Cy : VK) (Cn : Hp → Prop), (i : Int) < j → Pv i ys H' → (∀ y H4, Pv (i + 1) (ys ++ [y]) H4 → Cy y H4) → (∀ H3, Pv (i + 1) ys H3 → Cn H3) →
      tc ((stComp src σ).set k (some (.int (i : Int)))) H' fun b H3 => if b = true then te ((stComp src σ).set k (some (.int (i : Int)))) H3 Cy else Cn H3)
    (hd : ∀ ys H' l, Pv j.toNat ys H' → H' l = none → Q (.ref l) (upd H' l (.lst ys))) : tComp src (iRng1 (tCons tl tNil)) (gName k) tc te σ H Q := by
  refine hte _ ⟨j, rfl, by omega, by omega, comp_walkP (xs := rngV 0 j.toNat) Pv h0 wk_range (by rw [rngV_length, sizeLine_eq]; omega) (fun i x ys H' Cy Cn hx p cy cn => ?_) (fun ys H' a p hn => hd ys H' a (by rw [rngV_length] at p; exact p) hn)⟩
  have hi : i < j.toNat := by
    have := (List.getElem?_eq_some_iff.mp hx).1
    rw [rngV_length] at this
    exact this
  rw [rngV_get hi] at hx
  have ex : x = V.int (i : Int) := by rw [← Option.some.inj hx, Int.zero_add]
  subst ex
  exact ⟨KeepSt.set hsrc, hs i ys H' Cy Cn (by omega) p cy cn⟩
end
theorem tSeq_gen {t u : TS} {D : Ends} {σ : St} {H : Hp} (h : ∀ B : TS, B = u → tSeq t B D σ H) : tSeq t u D σ H := h u rfl
end L2

namespace L2
open PySem PySem.Spec PyProof.Rows
section
variable {X : Cx}
noncomputable def rIsiC (K : PySem.W.Frag) : List V → Hp → VK → Prop := fun xs H Q => ∃ x C t b, xs = [x, .ref C] ∧ TyOf K H x t ∧ PySem.W.kitOne K t (.ref C) = some b ∧ Q (.bl b) H
theorem o_isiC {K : PySem.W.Frag} (hK : X.K = K := by rfl) : CallR X (.builtin "isinstance") (rIsiC K) := by subst hK; exact call_isiC
noncomputable def rLIndex (K : PySem.W.Frag) : V → List V → Hp → VK → Prop := fun x xs H Q => ∃ (p : Addr) (ss : List Str) (z : Str) (j : Nat), x = .ref p ∧ xs = [.str z] ∧ SqL K H p (ss.map V.str) ∧ ss[j]? = some z ∧ (∀ i, i < j → ss[i]? ≠ some z) ∧ ss.length ≤ 1000 ∧ Q (.int j) H
noncomputable def isTxt (z : Str) : Value → Bool
  | .str y _ => y.cps.toList == z.cps.toList
  | _ => false
theorem o_lindex {K : PySem.W.Frag} (hK : X.K = K := by rfl) : MtR X "list.index" (rLIndex K) := by
  subst hK
  intro pins s σ H x xs v us Q I rx rs h
  obtain ⟨p, ss, z, j, rfl, rfl, hq, hj, hno, hl, q⟩ := h
  cases rx
  obtain ⟨u, rfl, t, rfl⟩ := vals1 rs
  obtain ⟨its, rv, pl, hz⟩ := I.list hq
  have hlen := rv.length
  rw [List.length_map] at hlen
  have item : ∀ m (hm : m < its.toArray.size), ∃ t', its.toArray[m] = .str (ss.getD m z) t' := fun m hm => by
    rw [List.size_toArray] at hm
    have hm' : m < ss.length := by omega
    have g : (ss.map V.str)[m]? = some (V.str ss[m]) := by simp [hm']
    obtain ⟨w, e1, t', e2⟩ := rv.get g
    refine ⟨t', ?_⟩
    have := List.getElem?_eq_some_iff.mp e1
    obtain ⟨_, e3⟩ := this
    rw [show ss.getD m z = ss[m] by simp [List.getD, hm']]
    simpa [e2] using e3
  have hj' : j < ss.length := (List.getElem?_eq_some_iff.mp hj).1
  have hjs : j < its.toArray.size := by rw [List.size_toArray]; omega
  have ej : ss.getD j z = z := by simp [List.getD, hj]
  obtain ⟨ob, ho, hc, n, hd⟩ := id pl.isList
  obtain ⟨o, n', e, hcl, hdi, hda⟩ := id pl
  refine call_meets F.slot_list_index pl.isList.typeIs F.entry_list_index (F.args_list_index_2 _ _) (SeqAt.list_indexAt p its.toArray n' none o.slots (.str z t) (isTxt z) j hjs (by omega) ?_ ?_) ⟨?_, ?_, ?_⟩
  · obtain ⟨t', e'⟩ := item j hjs
    rw [e', ej]
    simp [isTxt]
  · intro m hm hmj
    obtain ⟨t', e'⟩ := item m hm
    have hm' : m < ss.length := by rw [List.size_toArray] at hm; omega
    have hne := hno m hmj
    rw [e']
    have : ss.getD m z ≠ z := fun e => hne (by
      have : ss[m]? = some ss[m] := by simp [hm']
      rw [this, ← show ss.getD m z = ss[m] by simp [List.getD, hm'], e])
    simp only [isTxt]
    cases hb : ((ss.getD m z).cps.toList == z.cps.toList) with
    | false => rfl
    | true =>
      exfalso
      apply this
      have h1 := eq_of_beq hb
      cases hx : ss.getD m z
      rw [hx] at h1
      cases z
      congr 1
      exact Array.toList_inj.mp h1
  · rw [e]
    congr 1
    cases o
    simp only at hcl hdi hda ⊢
    subst hcl
    subst hdi
    subst hda
    rfl
  · intro y hy
    obtain ⟨m, hm, rfl⟩ := Array.mem_iff_getElem.mp hy
    obtain ⟨t', e'⟩ := item m hm
    rw [e']
    exact (SeqRoads2.EqGives.str _ _ _ _).at _ _
  · exact ⟨.int j, H, I.tok _, ⟨_, rfl⟩, q⟩
end
end L2

namespace PySem.SeqAt
open AutoSeq1 (wpAny_loadPart')
open MeetsSeq MeetsSeq2 MeetsSeq3 SeqRoads2
end PySem.SeqAt
namespace L2
open PySem PySem.Spec PyProof.Rows
section
variable {X : Cx}
theorem pm0 {K : PySem.W.Frag} {T id : String} {o : Expr} {to : TE} {name : Str} {apos cpos : Pos} {r : V → List V → Hp → VK → Prop} (pa : PlainAttrs T) (slot : Slot T name id) (hty : typeOf (.builtin id) = pure (.type "method_descriptor")) (hm : MtR X id r) (ho : PE X o to) (hK : X.K = K := by rfl)
    (hbase : attributeBase o name X.env (eval o X.env) = eval o X.env := by rfl) (hline : (apos.endLine == cpos.line) = true := by rfl) : PE X (.Call (.Attribute o name apos) [] [] cpos) (tBM0 K T r to) := by
  subst hK
  exact pe_bm0 pa slot hty hm ho hbase hline
noncomputable def KTup (K : PySem.W.Frag) (a : Addr) (xs : List V) : Prop := ∃ (o : Obj) (its : Array Value) (n : Nat), K.lookup a = some o ∧ o.cls = .type "tuple" ∧ o.dict = none ∧ o.data = .seq its n ∧ its.size ≤ sizeLine ∧ Vals xs its.toList
theorem KTup.sq {K : PySem.W.Frag} {a : Addr} {xs : List V} (h : KTup K a xs) {H : Hp} : SqT K H a xs := let ⟨o, its, n, h1, h2, _, h4⟩ := h; .inr ⟨o, its, n, h1, h2, h4⟩
theorem KTup.ty {K : PySem.W.Frag} {a : Addr} {xs : List V} (h : KTup K a xs) {H : Hp} : tyV K "tuple" (.ref a) H := let ⟨o, _, _, h1, h2, h3, _⟩ := h; .inr (.inl ⟨rfl, o, h1, h2, h3⟩)
end
section
variable {tb : TS} {D : Ends} {σ : St} {H : Hp}
end
section
variable {tc : TT} {te : TE} {src : List (Option Nat)} {σ : St} {H : Hp} {Q : VK} {k : Nat}
end
noncomputable def Stp (p : Addr) (H H' : Hp) : Prop := (∀ a o, H a = some o → a ≠ p → H' a = some o) ∧ ∀ a, H' a = none → H a = none
theorem Stp.refl (p : Addr) (H : Hp) : Stp p H H := ⟨fun _ _ h _ => h, fun _ h => h⟩
theorem Stp.trans {p : Addr} {H H' H'' : Hp} (h : Stp p H H') (h' : Stp p H' H'') : Stp p H H'' := ⟨fun a o e n => h'.1 a o (h.1 a o e n) n, fun a e => h.2 a (h'.2 a e)⟩
theorem Stp.new {p l : Addr} {H H' : Hp} {o : HO} (h : Stp p H H') (n : H' l = none) : Stp p H (upd H' l o) := h.trans ⟨fun a u e _ => by
  rw [upd_ne (fun z => by rw [z, n] at e; cases e)]
  exact e, fun a e => by
  by_cases z : a = l
  · rw [z]; exact n
  · rw [upd_ne z] at e; exact e⟩
theorem Stp.own {p : Addr} {H H' : Hp} {o u : HO} (h : Stp p H H') (n : H' p = some u) : Stp p H (upd H' p o) := h.trans ⟨fun a u e z => by rw [upd_ne z]; exact e, fun a e => by
  by_cases z : a = p
  · rw [z, upd_same] at e; cases e
  · rw [upd_ne z] at e; exact e⟩
theorem Stp.same {p : Addr} {H0 H H' : Hp} (s : Same H0 H) (n : H0 p = none) (h : Stp p H H') : Same H0 H' := fun a o e => h.1 a o (s a o e) (fun z => by rw [z, n] at e; cases e)
theorem Stp.of {p : Addr} {H H' : Hp} (s : Same H H') : Stp p H H' := ⟨fun a o e _ => s a o e, fun a e => s.no e⟩
end L2

namespace L2
open PySem PySem.Spec PyProof.Rows
inductive Ents (K : PySem.W.Frag) : List DictEntry → List (Int × List V) → Prop
  | nil : Ents K [] []
  | cons {e : DictEntry} {k : Int} {t : Tok} {b : Addr} {xs : List V} {es : List DictEntry} {tbl : List (Int × List V)} : e.key = .int k t → e.hash = hashInt k → e.val = .ref b → KTup K b xs → Ents K es tbl → Ents K (e :: es) ((k, xs) :: tbl)
noncomputable def KTabE (K : PySem.W.Frag) (a : Addr) (tbl : List (Int × List V)) (ep : Nat) : Prop := (a == sysModules) = false ∧ (tbl.map (·.1)).Nodup ∧ ∃ (o : Obj) (es : Array DictEntry), K.lookup a = some o ∧ o.ExactDict ∧ o.data = .dict es ep ∧ Ents K es.toList tbl
noncomputable def KTab (K : PySem.W.Frag) (a : Addr) (tbl : List (Int × List V)) : Prop := ∃ ep, KTabE K a tbl ep
theorem Ents.kvs {K : PySem.W.Frag} {P : Program} {w : World} {es : List DictEntry} {tbl : List (Int × List V)} (h : Ents K es tbl) : ∃ kvs : List (Int × Value), Pairs (PySem.intKind P w) es kvs ∧ (∀ e ∈ es, ∃ k, (PySem.intKind P w).is k e.key = true ∧ e.hash = (PySem.intKind P w).hash k) ∧ kvs.map (·.1) = tbl.map (·.1) ∧ ∀ (i : Nat) k xs, tbl[i]? = some (k, xs) → ∃ b, kvs[i]? = some (k, .ref b) ∧ KTup K b xs := by
  induction h with
  | nil => exact ⟨[], .nil, (by intro e he; cases he), rfl, (by intro i k xs h; cases h)⟩
  | @cons e k t b xs es tbl h1 h2 h3 h4 h5 ih =>
    obtain ⟨kvs, p, q, r, z⟩ := ih
    refine ⟨(k, .ref b) :: kvs, .cons (by rw [h1]; exact intKind_is _ _ _ _) h3 p, fun e' he => ?_, by simp [r], fun i k' xs' h => ?_⟩
    · rcases List.mem_cons.mp he with z | z
      · subst z
        exact ⟨k, by rw [h1]; exact intKind_is _ _ _ _, h2⟩
      · exact q e' z
    · cases i with
      | zero => cases h; exact ⟨b, rfl, h4⟩
      | succ i => exact z i k' xs' h
theorem KTabE.at {X : Cx} {pins : List (Addr × Obj)} {σ : St} {H : Hp} {s : Shared} {a : Addr} {tbl : List (Int × List V)} {ep : Nat} (h : KTabE X.K a tbl ep) (I : Inv X pins σ H s) : ∃ kvs : List (Int × Value), s.heap.DictAt (PySem.intKind X.prog X.w) a kvs ep ∧ kvs.length = tbl.length ∧ ∀ (i : Nat) k xs, tbl[i]? = some (k, xs) → ∃ b, kvs[i]? = some (k, .ref b) ∧ KTup X.K b xs := by
  obtain ⟨_, nd, o, es, ho, hx, hd, he⟩ := h
  obtain ⟨kvs, p, q, r, z⟩ := he.kvs (P := X.prog) (w := X.w)
  refine ⟨kvs, ⟨o, es, I.kIn a o ho, hx, hd, fun e hm => q e (by simpa using hm), p, by rw [r]; exact nd⟩, ?_, z⟩
  have := congrArg List.length r
  simpa using this
noncomputable def Itd (tbl : List (Int × List V)) : It := ⟨fun i H => i < tbl.length, fun i H x H' => H' = H ∧ ∃ p, tbl[i]? = some p ∧ x = .int p.1, fun i H => tbl.length ≤ i⟩
theorem turn_tab {P : Program} {w : World} {K : PySem.W.Frag} {tg : Expr} {tbl : List (Int × List V)} (a it : Addr) {ep : Nat} (hk : KTabE K a tbl ep) : Turn P w K tg (Itd tbl) [it] it (fun i h => h.IsKeyIter it a i tbl.length ep) where
  mem := by simp
  obj := fun i h st b hb => by
    have e : b = it := by simpa using hb
    subst e
    obtain ⟨o, e, c, d⟩ := st
    exact ⟨o, e, fun v z => by rw [d] at z; cases z⟩
  keep := fun i h h' st k => st.at fun o e => k it (by simp) o e
  item := by
    intro X hP hw hK hc i pins s σ H E I hf st hg
    subst hP hw hK
    obtain ⟨kvs, da, hl, hz⟩ := hk.at I
    obtain ⟨f0, f1, f2, f3, f4, f5⟩ := hf it (by simp)
    obtain ⟨⟨k, xs⟩, hx⟩ : ∃ p, tbl[i]? = some p := ⟨_, List.getElem?_eq_getElem hg⟩
    obtain ⟨b, hb, _⟩ := hz i k xs hx
    rw [← hl] at st
    refine wpAny_pyNext_dict_item st da hb fun key h' hkey st' sb => ?_
    rw [hl] at st'
    have I1 : Inv X pins σ H { s with heap := h' } := I.turned (t' := s.toks) (fun b o hb e => (sb.2 b hb).trans e) f0 f1 f3 f4 f5
    obtain ⟨t, rfl⟩ := Value.isInt_shape hkey
    obtain ⟨o, e, c, d⟩ := id st'
    exact ⟨_, rfl, go_of (s := { s with heap := h' }) e c d (by decide) ⟨.int k, H, I1, ⟨_, rfl⟩, ⟨rfl, _, hx, rfl⟩, st', fun b hb => (hf b hb).1⟩⟩
  done := by
    intro X hP hw hK hc i pins s σ H E I hf st hg
    subst hP hw hK
    obtain ⟨kvs, da, hl, hz⟩ := hk.at I
    obtain ⟨f0, f1, f2, f3, f4, f5⟩ := hf it (by simp)
    rw [← hl] at st
    have hg' : tbl.length ≤ i := hg
    exact wpAny_pyNext_dict_end (I.ok.hd hc) st da (List.getElem?_eq_none (by omega)) fun h' eb => ⟨rfl, I.turned (t' := s.toks) (fun b o hb e => eb b o hb e) f0 f1 f3 f4 f5⟩
  self := fun _ _ _ _ _ st h => wpAny_pyIter_keyiter st h
noncomputable def iTab (K : PySem.W.Frag) (tl : TE) : TI := fun σ H R => tl σ H fun x H1 => ∃ a tbl, x = .ref a ∧ KTab K a tbl ∧ R (Itd tbl) H1
section
variable {X : Cx}
theorem pi_tabK {K : PySem.W.Frag} {tg l : Expr} {tl : TE} (hl : PE X l tl) (hK : X.K = K := by rfl) : PI X tg l (iTab K tl) := by
  subst hK
  intro pins s σ H R I h
  refine thn (hl pins s σ H _ I h) fun v s1 ⟨x, H1, I1, r1, q1⟩ => ?_
  obtain ⟨a, tbl, e, ⟨ep, hk⟩, q⟩ := q1
  subst e
  cases r1
  obtain ⟨kvs, da, hl, hz⟩ := hk.at I1
  refine wpAny_pyIter_dict hk.1 da ?_
  rw [hl]
  refine ⟨s1.heap.objs.size, [s1.heap.objs.size], _, _, H1, rfl, I1.kept (t' := s1.toks) fun b o e => Heap.get?_push_of_some _ e, turn_tab a _ hk, ⟨_, Heap.get?_push_size _ rfl, rfl, rfl⟩, fun b hb => ?_, q⟩
  have e : b = s1.heap.objs.size := by simpa using hb
  subst e
  exact I1.fpOk (Nat.le_refl _) (I1.hok.fresh (Nat.le_refl _))
noncomputable def rIxTab (K : PySem.W.Frag) : R2 := fun x y H Q => ∃ (a : Addr) (tbl : List (Int × List V)) (i : Nat) (k : Int) (xs : List V), x = .ref a ∧ y = .int k ∧ KTab K a tbl ∧ tbl[i]? = some (k, xs) ∧ ∀ b, KTup K b xs → Q (.ref b) H
theorem o_ixTab {K : PySem.W.Frag} (hK : X.K = K := by rfl) : IxR X (rIxTab K) := by
  subst hK
  intro value slice pins s σ H x y v u Q I rx ry h hs
  obtain ⟨a, tbl, i, k, xs, rfl, rfl, ⟨ep, hk⟩, hi, q⟩ := h
  cases rx
  obtain ⟨t, rfl⟩ := ry
  obtain ⟨kvs, da, hl, hz⟩ := hk.at I
  obtain ⟨b, hb, kb⟩ := hz i k xs hi
  have hn : (kvs.map (·.1)).Nodup := by
    obtain ⟨_, _, _, _, _, _, _, hn⟩ := id da
    exact hn
  have hv : valueAt kvs k = some (.ref b) := by
    unfold valueAt
    have : kvs.find? (fun kv => decide (kv.1 = k)) = some (k, .ref b) := by
      have hi' : i < kvs.length := (List.getElem?_eq_some_iff.mp hb).1
      have ei : kvs[i] = (k, .ref b) := (List.getElem?_eq_some_iff.mp hb).2
      rw [List.find?_eq_some_iff_getElem]
      refine ⟨by simp, i, hi', ei, fun j hj => ?_⟩
      have hne : (kvs.map (·.1))[j]'(by simp; omega) ≠ (kvs.map (·.1))[i]'(by simp; omega) := fun z => by
        exact List.pairwise_iff_getElem.mp hn j i (by simp; omega) (by simp; omega) hj z
      simp only [List.getElem_map, ei] at hne
      simpa using hne
    rw [this]
    rfl
  exact subscriptTail_builtinR (x := .ref b) da.dictOf.typeIs PySem.F.slot_dict_getitem.lookup (wpAny_getItem_of (intKind_is _ _ k t) da.dictOf.mapOf hv ⟨rfl, ⟨.ref b, H, I.tok _, rfl, q b kb⟩⟩) hs
end
section
variable {tb : TS} {D : Ends} {σ : St} {H : Hp} {k : Nat}
theorem tfor_tab {K : PySem.W.Frag} {a : Addr} {tbl : List (Int × List V)} {te : TE} (hte : ∀ R : VK, R (.ref a) H → te σ H R) (hq : KTab K a tbl) (Pv : Nat → St → Hp → Prop) (h0 : Pv 0 σ H)
    (hs : ∀ (i : Nat) (x : V) (σ : St) (H : Hp), (tbl.map fun p => V.int p.1)[i]? = some x → Pv i σ H → tb { D with nx := Pv (i + 1), ct := Pv (i + 1), bk := D.nx } (σ.set k (some x)) H) (hd : ∀ σ H, Pv tbl.length σ H → D.nx σ H) :
    tFor (iTab K te) (gName k) tb D σ H :=
  hte _ ⟨a, tbl, rfl, hq, for_walk (xs := tbl.map fun p => V.int p.1) Pv h0 (fun i H p => ⟨fun h => (by simpa using h : i < tbl.length), fun h => (by simpa using h : tbl.length ≤ i), fun h x H' y => ⟨y.1, by obtain ⟨_, p, e1, e2⟩ := y; rw [List.getElem?_map, e1, e2]; rfl⟩⟩) (fun i x σ H hx p => hs i x σ H hx p) fun σ H p => hd σ H (by rw [List.length_map] at p; exact p)⟩
end
noncomputable def valLook : V → Value → Bool
  | .int i, .int j _ => i == j
  | .str x, .str y _ => x == y
  | _, _ => false
noncomputable def valsLook : List V → List Value → Bool
  | [], [] => true
  | x :: xs, u :: us => valLook x u && valsLook xs us
  | _, _ => false
theorem val_look : ∀ {x : V} {u : Value}, valLook x u = true → RelV x u
  | .int i, .int j t, h => ⟨t, by rw [show j = i from (beq_iff_eq.mp h).symm]⟩
  | .str x, .str y t, h => ⟨t, by rw [show y = x from (beq_iff_eq.mp h).symm]⟩
theorem vals_look : ∀ {xs : List V} {us : List Value}, valsLook xs us = true → Vals xs us
  | [], [], _ => .nil
  | x :: xs, u :: us, h => by
    have h' : (valLook x u && valsLook xs us) = true := h
    rw [Bool.and_eq_true] at h'
    exact .cons (val_look h'.1) (vals_look h'.2)
noncomputable def isTupT : Value → Bool
  | .type n => n == "tuple"
  | _ => false
noncomputable def isDictT : Value → Bool
  | .type n => n == "dict"
  | _ => false
noncomputable def tupLook (K : PySem.W.Frag) (b : Addr) (xs : List V) : Bool := match K.lookup b with
  | some o => isTupT o.cls && o.dict.isNone && (match o.data with
    | .seq its _ => decide (its.size ≤ 1000) && valsLook xs its.toList
    | _ => false)
  | none => false
theorem tup_look {K : PySem.W.Frag} {b : Addr} {xs : List V} (h : tupLook K b xs = true) : KTup K b xs := by
  unfold tupLook at h
  cases ho : K.lookup b with
  | none => rw [ho] at h; cases h
  | some o =>
    rw [ho] at h
    simp only [Bool.and_eq_true] at h
    obtain ⟨⟨h1, h2⟩, h3⟩ := h
    cases hd : o.data with
    | seq its n =>
      rw [hd] at h3
      simp only [Bool.and_eq_true, decide_eq_true_eq] at h3
      refine ⟨o, its, n, ho, ?_, by simpa using h2, hd, sl1000 (by omega), vals_look h3.2⟩
      unfold isTupT at h1
      split at h1
      · rename_i e; rw [e, beq_iff_eq.mp h1]
      · cases h1
    | _ => rw [hd] at h3; cases h3
noncomputable def entsLook (K : PySem.W.Frag) : List DictEntry → List (Int × List V) → Bool
  | [], [] => true
  | e :: es, (k, xs) :: tbl => (match e.key with
    | .int j _ => j == k
    | _ => false) && e.hash == hashInt k && (match e.val with
    | .ref b => tupLook K b xs
    | _ => false) && entsLook K es tbl
  | _, _ => false
theorem ents_look {K : PySem.W.Frag} : ∀ {es : List DictEntry} {tbl : List (Int × List V)}, entsLook K es tbl = true → Ents K es tbl
  | [], [], _ => .nil
  | e :: es, (k, xs) :: tbl, h => by
    unfold entsLook at h
    simp only [Bool.and_eq_true] at h
    obtain ⟨⟨⟨h1, h2⟩, h3⟩, h4⟩ := h
    cases hk : e.key with
    | int j t =>
      rw [hk] at h1
      have : j = k := beq_iff_eq.mp h1
      subst this
      cases hv : e.val with
      | ref b =>
        rw [hv] at h3
        exact .cons hk (beq_iff_eq.mp h2) hv (tup_look h3) (ents_look h4)
      | _ => rw [hv] at h3; cases h3
    | _ => rw [hk] at h1; cases h1
  | [], _ :: _, h => by cases h
  | _ :: _, [], h => by cases h
noncomputable def tabLook (K : PySem.W.Frag) (a : Addr) (tbl : List (Int × List V)) : Bool := !(a == sysModules) && decide ((tbl.map (·.1)).Nodup) && (match K.lookup a with
  | some o => isDictT o.cls && o.dict.isNone && o.slots.isEmpty && (match o.data with
    | .dict es _ => entsLook K es.toList tbl
    | _ => false)
  | none => false)
theorem tab_look {K : PySem.W.Frag} {a : Addr} {tbl : List (Int × List V)} (h : tabLook K a tbl = true) : KTab K a tbl := by
  unfold tabLook at h
  simp only [Bool.and_eq_true, Bool.not_eq_true', decide_eq_true_eq] at h
  obtain ⟨⟨h1, h2⟩, h3⟩ := h
  cases ho : K.lookup a with
  | none => rw [ho] at h3; cases h3
  | some o =>
    rw [ho] at h3
    simp only [Bool.and_eq_true] at h3
    obtain ⟨⟨⟨h3, h4⟩, h5⟩, h6⟩ := h3
    cases hd : o.data with
    | dict es ep =>
      rw [hd] at h6
      refine ⟨ep, h1, h2, o, es, ho, ⟨?_, by simpa using h4, by simpa using h5⟩, hd, ents_look h6⟩
      unfold isDictT at h3
      split at h3
      · rename_i e; rw [e, beq_iff_eq.mp h3]
      · cases h3
    | _ => rw [hd] at h6; cases h6
section
variable {X : Cx} {k : Nat} {ps : List Str} {sp : Sp} {x : Str} {st : Stmt} {p pos : Pos}
theorem pc0 (D : DefAt X.K X.mg x st ps) (G : FnOk X.prog X.w X.K X.mg X.base CX0 k D.f D.fd ps sp) (hr : Room k X.A) (hg : Gl X x := by rfl) (hdb : (x == ("__debug__" : Str)) = false := by decide) : PE X (.Call (.Name x p) [] [] pos) (tCall sp [] E0 tNil) := pe_call0 G hr hg D.m D.F.kp D.b .nil pass0 hdb
theorem call_str_str : CallR X (.type "str") (fun xs H Q => ∃ z, xs = [.str z] ∧ Q (.str z) H) := by
  intro pins s σ H xs us Q I r h
  obtain ⟨z, rfl, q⟩ := h
  obtain ⟨u, rfl, t, rfl⟩ := vals1 r
  exact PySem.P.str_of_str ⟨.str z, H, I, ⟨_, rfl⟩, q⟩
noncomputable def rStrA : List V → Hp → VK → Prop := fun xs H Q => (∃ i, xs = [.int i] ∧ i.natAbs.log2 < 1920 ∧ Q (.str (toString i)) H) ∨ ∃ z, xs = [.str z] ∧ Q (.str z) H
theorem call_str : CallR X (.type "str") rStrA := call_str_int.or call_str_str
end
theorem tup3 {K : PySem.W.Frag} {H : Hp} {p : Addr} {x y z : V} {σ : St} {Q : St → Hp → Prop} {i j k : Nat} (h : H p = some (.tup [x, y, z])) (q : Q (((σ.set i (some x)).set j (some y)).set k (some z)) H) : gTup K 3 (gCons (gName i) (gCons (gName j) (gCons (gName k) gNil))) (.ref p) σ H Q :=
  ⟨p, [x, y, z], rfl, SqT.of h, rfl, x, _, rfl, y, _, rfl, z, [], rfl, rfl, q⟩
noncomputable def tOrE (t t' : TE) : TE := fun σ H Q => t σ H Q ∨ t' σ H Q
theorem pe_alt {X : Cx} {e : Expr} {t t' : TE} (h : PE X e t) (h' : PE X e t') : PE X e (tOrE t t') := by
  intro pins s σ H Q I z
  rcases z with z | z
  · exact h pins s σ H Q I z
  · exact h' pins s σ H Q I z
noncomputable def MethAt.for_ {K : PySem.W.Frag} {C C' : Addr} {m qual : Str} {st : Stmt} {ps : List Str} (D : MethAt K C m qual st ps) (h : PySem.W.findIn K (.ref C') m = some (some (.ref D.f))) : MethAt K C' m qual st ps := ⟨D.f, D.fd, D.F, D.b, h, D.fn⟩
end L2

namespace PySem
open Sem (wp)
section
variable {prog : Program} {w : World} {A : Around} {R : Result → Shared → Prop} {I : Addr} {fp wr : List Addr} {n : Nat} {P : Nat → Value → Prop} {St : Nat → Heap → Prop}
noncomputable def isLs (h : Heap) (l : Addr) (items : Array Value) : Prop := ∃ c, h.get? l = some { cls := .type "list", dict := none, data := .seq items c, slots := #[] }
theorem codeAny_sumL_loop (W : Walks prog w A.in1 I fp wr n P St) (arr : Nat → Addr) (its : Nat → Array Value) (hP : ∀ i v, P i v → v = .ref (arr i)) (S : Addr) (hSf : S ∉ fp) (hb : ∀ i h, St i h → ∀ b ∈ fp, b < h.objs.size) (hw : ∀ i, i < n → arr i ∉ wr ∧ arr i ≠ S) (tot0 : Nat → Array Value) (htot : ∀ i, i < n → tot0 (i + 1) = tot0 i ++ its i) (hsz : ∀ i, i ≤ n → (tot0 i).size ≤ 1000) (hsi : ∀ i, i < n → (its i).size ≤ 1000) :
    ∀ (k i : Nat) (s : Shared) (tot : Addr) (c : Nat), n - i = k → i ≤ n → St i s.heap → s.heap.get? S = some { cls := .type "list", dict := none, data := .seq #[.ref tot] c, slots := #[] } → isLs s.heap tot (tot0 i) → tot ∉ wr → tot ≠ S →
    (∀ j, j < n → isLs s.heap (arr j) (its j)) →
    (∀ h' tk t', (∀ b o, b ∉ wr → b ≠ S → s.heap.get? b = some o → h'.get? b = some o) → isLs h' t' (tot0 n) → (t' = tot ∨ S < t') → R (.ok (.ret (.ref t'))) { s with heap := h', toks := tk }) →
    codeAny (model prog w) A (.builtin "sum.loop" ⟨[.ref I, .ref S, rawInt 2, rawInt 0], []⟩) R s := by
  have hSw : S ∉ wr := fun h => hSf (W.sub _ h)
  intro k
  induction k with
  | zero =>
    intro i s tot c hk hi hst hS hT hTw hTS hA hR
    have hin : i = n := by omega
    subst hin
    refine codeAny_builtin F.entry_sum_loop ?_
    rw [Around.under_plainId F.plain_sum_loop _]
    show wpAny _ A.in1 (seqItems? (.ref S) >>= _) _ _ s
    refine wpAny_bind (wpAny_seqItems hS rfl ?_)
    show wpAny _ A.in1 (tryCatch (pyNext (.ref I)) _ >>= _) _ _ s
    refine wpAny_bind (wpAny_tryCatch (W.done s _ _ hst fun h' tk hk' => ?_))
    obtain ⟨ct, hT⟩ := hT
    exact wpAny_pure (hR h' tk tot (fun b o hbw _ e => hk' b o hbw e) ⟨ct, hk' _ _ hTw hT⟩ (.inl rfl))
  | succ k ih =>
    intro i s tot c hk hi hst hS hT hTw hTS hA hR
    have hlt : i < n := by omega
    refine codeAny_builtin F.entry_sum_loop ?_
    rw [Around.under_plainId F.plain_sum_loop _]
    show wpAny _ A.in1 (seqItems? (.ref S) >>= _) _ _ s
    refine wpAny_bind (wpAny_seqItems hS rfl ?_)
    show wpAny _ A.in1 (tryCatch (pyNext (.ref I)) _ >>= _) _ _ s
    refine wpAny_bind (wpAny_tryCatch (W.item i s _ _ hlt hst fun v h' tk hPv hst' hk' => ?_))
    have hv := hP i v hPv
    subst hv
    have hS' := hk' S _ hSw hS
    have hSs := Heap.lt_size hS'
    obtain ⟨ct, hT⟩ := hT
    have hT' := hk' tot _ hTw hT
    obtain ⟨ca, hAi⟩ := hA i hlt
    have hAi' := hk' _ _ (hw i hlt).1 hAi
    have z1 := hsz i (by omega)
    have z2 := hsi i hlt
    have hfp := hb _ _ hst'
    show wpAny _ A.in1 (Sem.attempt (holding [.ref (arr i)] (binaryOp .Add (.ref tot) (.ref (arr i)))) >>= _) _ _ _
    refine wpAny_bind (wpAny_attempt (wpAny_holding (PySem.P.add_list hT' hAi' ?_ (by rw [sizeLine_eq]; omega))))
    have hS2 := Heap.get?_push_of_some { cls := .type "list", data := .seq (tot0 i ++ its i) } hS'
    have hSn : S ≠ h'.objs.size := Nat.ne_of_lt hSs
    show wpAny _ A.in1 (updateSeq S (fun _ => #[.ref h'.objs.size]) >>= _) _ _ _
    refine wpAny_bind (wpAny_updateSeq hS2 rfl ?_)
    refine wpAny_bind (wpAny_letGo ?_)
    have hS3 := Heap.get?_update_self (Obj.mapSeq (fun _ => #[Value.ref h'.objs.size])) hS2 rfl
    show wpAny _ A.in1 (updateSeq S (fun _ => #[.ref h'.objs.size]) >>= _) _ _ _
    refine wpAny_bind (wpAny_updateSeq hS3 rfl ?_)
    have oth : ∀ b o, b ≠ S → h'.get? b = some o → ((((h'.push { cls := .type "list", data := .seq (tot0 i ++ its i) }).update S (Obj.mapSeq (fun _ => #[Value.ref h'.objs.size]))).update S (Obj.mapSeq (fun _ => #[Value.ref h'.objs.size])))).get? b = some o := fun b o hbS e => by
      rw [Heap.get?_update_other _ _ (Ne.symm hbS), Heap.get?_update_other _ _ (Ne.symm hbS)]
      exact Heap.get?_push_of_some _ e
    refine wpAny_pure ⟨plainId_quiet F.plain_sum_loop _, ih (i + 1) _ h'.objs.size _ (by omega) hlt (W.frame _ _ _ hst' fun b hbf o e => oth b o (fun z => hSf (z ▸ hbf)) e) (Heap.get?_update_self _ hS3 rfl) ⟨0, ?_⟩ (fun h => Nat.lt_irrefl _ (hfp _ (W.sub _ h))) hSn.symm (fun j hj => ?_) fun h'' tk'' t'' hk'' ht'' hor => ?_⟩
    · rw [Heap.get?_update_other _ _ hSn, Heap.get?_update_other _ _ hSn, htot i hlt]
      exact Heap.get?_push_size _ rfl
    · obtain ⟨cj, hj'⟩ := hA j hj
      exact ⟨cj, oth _ _ (hw j hj).2 (hk' _ _ (hw j hj).1 hj')⟩
    · refine hR h'' tk'' t'' (fun b o hbw hbS e => hk'' b o hbw hbS (oth b o hbS (hk' b o hbw e))) ht'' (.inr ?_)
      rcases hor with z | z
      · rw [z]; exact hSs
      · exact z
end
section
variable {prog : Program} {w : World} {A : Around} {E : Value → Shared → Prop} {s : Shared}
theorem sub_list_str : isSubtype (.type "list") (.type "str") = pure false := by rw [isSubtype_type]; kernel_rfl
theorem sub_list_bytes : isSubtype (.type "list") (.type "bytes") = pure false := by rw [isSubtype_type]; kernel_rfl
theorem sub_list_bytearray : isSubtype (.type "list") (.type "bytearray") = pure false := by rw [isSubtype_type]; kernel_rfl
theorem args_sum2 (a b : Value) : argsOk "sum" ⟨[a, b], []⟩ := by unfold argsOk; kernel_rfl
theorem call_sumL {x : Value} {tot : Addr} {Q : Value → Shared → Prop}
    (h : wpAny (model prog w) A.in1 (pyIter x) (fun it s₂ => ∃ (I : Addr) (fp wr : List Addr) (n : Nat) (P : Nat → Value → Prop) (St : Nat → Heap → Prop) (arr : Nat → Addr) (its tot0 : Nat → Array Value), it = .ref I ∧ Walks prog w A.in1 I fp wr n P St ∧ St 0 s₂.heap ∧ (∀ i h, St i h → ∀ b ∈ fp, b < h.objs.size) ∧
      (∀ i v, P i v → v = .ref (arr i)) ∧ (∀ i, i < n → arr i ∉ wr) ∧ (∀ i, i < n → tot0 (i + 1) = tot0 i ++ its i) ∧ (∀ i, i ≤ n → (tot0 i).size ≤ 1000) ∧ (∀ i, i < n → (its i).size ≤ 1000) ∧ isLs s₂.heap tot (tot0 0) ∧ tot ∉ wr ∧ (∀ j, j < n → isLs s₂.heap (arr j) (its j)) ∧
      ∀ h' tk t', (∀ b o, b ∉ wr → s₂.heap.get? b = some o → h'.get? b = some o) → isLs h' t' (tot0 n) → (t' = tot ∨ s₂.heap.objs.size < t') → Q (.ref t') { s₂ with heap := h', toks := tk }) E s) :
    wpAny (model prog w) A (call (.builtin "sum") [x, .ref tot]) Q E s := by
  refine call_function_tree F.kind_sum F.plain_sum F.entry_sum (args_sum2 _ _) ?_
  unfold Builtin.«sum»
  simp only [List.length_cons, List.length_nil]
  rw [if_neg (by decide)]
  refine wpAny_bind (wpAny_of_eq (show Builtin.Builtins.bindParams "sum" ["start"] 0 ⟨[.ref tot], []⟩ = pure [some (.ref tot)] from rfl) ?_)
  refine wpAny_bind (wpAny_mono h (fun it s₂ h₂ => ?_) fun _ _ e => e)
  obtain ⟨I, fp, wr, n, P, St, arr, its, tot0, rfl, W, hst, hb, hP, hw, htot, hsz, hsi, hT, hTw, hA, hQ⟩ := h₂
  have hTy : s₂.TypeIs (.ref tot) "list" := by
    obtain ⟨c, e⟩ := hT
    exact ⟨_, e, rfl⟩
  refine wpAny_bind (wpAny_pure ?_)
  simp only [List.forIn_cons, List.forIn_nil]
  refine wpAny_bind (wpAny_bind (wpAny_bind (wpAny_isInstance (T := "list") (b := false) hTy sub_list_str ?_)))
  simp only [Bool.false_eq_true, if_false]
  refine wpAny_pure (wpAny_bind (wpAny_bind (wpAny_isInstance (T := "list") (b := false) hTy sub_list_bytes ?_)))
  simp only [Bool.false_eq_true, if_false]
  refine wpAny_pure (wpAny_bind (wpAny_bind (wpAny_isInstance (T := "list") (b := false) hTy sub_list_bytearray ?_)))
  simp only [Bool.false_eq_true, if_false]
  refine wpAny_pure (wpAny_pure ?_)
  refine wpAny_bind (wpAny_newObj_type ?_)
  have hSf : s₂.heap.objs.size ∉ fp := fun hm => Nat.lt_irrefl _ (hb _ _ hst _ hm)
  have keep : ∀ b o, s₂.heap.get? b = some o → (s₂.heap.push { cls := .type "list", data := .seq [Value.ref tot].toArray }).get? b = some o := fun b o e => Heap.get?_push_of_some _ e
  refine wpAny_pure ⟨plainId_quiet F.plain_sum_loop _, codeAny_sumL_loop W arr its hP s₂.heap.objs.size hSf hb (fun i hi => ⟨hw i hi, ?_⟩) tot0 htot hsz hsi n 0 _ tot 0 rfl (Nat.zero_le _)
    (W.frame _ _ _ hst fun b _ o e => keep b o e) (Heap.get?_push_size _ rfl) ?_ hTw ?_ (fun j hj => ?_) fun h' tk t' hk ht' hor => ?_⟩
  · obtain ⟨c, e⟩ := hA i hi
    exact Nat.ne_of_lt (Heap.lt_size e)
  · obtain ⟨c, e⟩ := hT
    exact ⟨c, keep _ _ e⟩
  · obtain ⟨c, e⟩ := hT
    exact Nat.ne_of_lt (Heap.lt_size e)
  · obtain ⟨c, e⟩ := hA j hj
    exact ⟨c, keep _ _ e⟩
  · exact hQ h' tk t' (fun b o hbw e => hk b o hbw (Nat.ne_of_lt (Heap.lt_size e)) (keep _ _ e)) ht' hor
end
end PySem
namespace L2
open PySem PySem.Spec PyProof.Rows
section
variable {X : Cx}
noncomputable def rSumL (K : PySem.W.Frag) : List V → Hp → VK → Prop := fun xs H Q => ∃ (p b : Addr) (as : List Addr) (f : Nat → List V), xs = [.ref p, .ref b] ∧ H p = some (.lst (as.map V.ref)) ∧ H b = some (.lst []) ∧ (∀ (i : Nat) a, as[i]? = some a → H a = some (.lst (f i))) ∧
  (((List.range as.length).map f).flatten.length ≤ 1000) ∧ ∀ l H', (l = b ∨ H l = none) → Same H H' → H' l = some (.lst ((List.range as.length).map f).flatten) → Q (.ref l) H'
theorem call_sumLs (hh : X.calm = true) : CallR X (.builtin "sum") (rSumL X.K) := by
  intro pins s σ H xs us Q I r h
  obtain ⟨p, b, as, f, rfl, hp, hb, hf, hsz, q⟩ := h
  cases r with
  | cons ra rr =>
  cases rr with
  | cons rb rr =>
  cases rr
  cases ra
  cases rb
  obtain ⟨z, its, np, rv, hl, ep⟩ := I.lstM hp
  obtain ⟨z2, its2, nb, rv2, hl2, eb⟩ := I.lstM hb
  cases rv2
  have hA : X.A.in1.handled = none := I.ok.hd hh
  have hne : p ≠ s.heap.objs.size := Nat.ne_of_lt (Heap.lt_size ep)
  have pl : s.heap.IsList p its.toArray := ⟨_, ep, rfl, _, rfl⟩
  have hlen := rv.length
  rw [List.length_map] at hlen
  have each : ∀ i, i < as.length → ∃ us, Vals (f i) us ∧ isLs s.heap (as.getD i 0) us.toArray := fun i hi => by
    obtain ⟨z3, us, nu, ru, hlu, eu⟩ := I.lstM (hf i as[i] (by simp [hi]))
    exact ⟨us, ru, nu, by rw [show as.getD i 0 = as[i] by simp [List.getD, hi]]; exact eu⟩
  obtain ⟨g, hg⟩ : ∃ g : Nat → List Value, ∀ i, i < as.length → Vals (f i) (g i) ∧ isLs s.heap (as.getD i 0) (g i).toArray := by
    refine ⟨fun i => if h : i < as.length then (each i h).choose else [], fun i hi => ?_⟩
    simp only [dif_pos hi]
    exact (each i hi).choose_spec
  have fl : ∀ i, i ≤ as.length → Vals ((List.range i).map f).flatten ((List.range i).map g).flatten := fun i => by
    induction i with
    | zero => intro _; exact .nil
    | succ i ih =>
      intro hi
      rw [List.range_succ, List.map_append, List.map_append, List.flatten_append, List.flatten_append]
      refine (ih (by omega)).append ?_
      simpa using (hg i (by omega)).1
  have mono : ∀ i, i ≤ as.length → ((List.range i).map f).flatten.length ≤ 1000 := fun i hi => by
    refine Nat.le_trans ?_ hsz
    rw [show List.range as.length = List.range i ++ (List.range (as.length - i)).map (i + ·) by rw [← List.range_add, Nat.add_sub_cancel' hi], List.map_append, List.flatten_append, List.length_append]
    omega
  refine call_sumL (wpAny_pyIter_list pl ?_)
  refine ⟨s.heap.objs.size, _, _, _, _, _, fun i => as.getD i 0, fun i => (g i).toArray, fun i => ((List.range i).map g).flatten.toArray, rfl, Walks.list hA s.heap.objs.size p hne its.toArray, ⟨⟨_, Heap.get?_push_size _ rfl, rfl, rfl⟩, ⟨_, Heap.get?_push_of_some _ ep, rfl, _, rfl⟩⟩, ?_, fun i v hP => ?_, fun i hi => ?_, fun i hi => ?_, fun i hi => ?_, fun i hi => ?_, ?_, ?_, fun j hj => ?_, fun h' tk t' kk ht' hor => ?_⟩
  · rintro i h ⟨⟨o1, g1, _⟩, ⟨o2, g2, _⟩⟩ b hb'
    simp only [List.mem_cons, List.not_mem_nil, or_false] at hb'
    rcases hb' with z | z
    · rw [z]; exact Heap.lt_size g1
    · rw [z]; exact Heap.lt_size g2
  · have hP' : its[i]? = some v := by simpa using hP
    have hi : i < as.length := by
      have := (List.getElem?_eq_some_iff.mp hP').1
      omega
    have g' : (as.map V.ref)[i]? = some (V.ref as[i]) := by simp [hi]
    obtain ⟨u, e1, q1⟩ := rv.get g'
    rw [hP'] at e1
    cases e1
    show v = Value.ref (as.getD i 0)
    rw [show as.getD i 0 = as[i] by simp [List.getD, hi]]
    exact q1
  · rw [List.size_toArray, ← hlen] at hi
    obtain ⟨_, c, e⟩ := hg i hi
    simp only [List.mem_singleton]
    exact Nat.ne_of_lt (Heap.lt_size e)
  · show ((List.range (i + 1)).map g).flatten.toArray = ((List.range i).map g).flatten.toArray ++ (g i).toArray
    rw [List.range_succ, List.map_append, List.flatten_append]
    simp
  · rw [List.size_toArray, ← hlen] at hi
    have := (fl i hi).length
    have := mono i hi
    show ((List.range i).map g).flatten.toArray.size ≤ 1000
    rw [List.size_toArray]
    omega
  · rw [List.size_toArray, ← hlen] at hi
    have h1 := (hg i hi).1.length
    have h2 := mono (i + 1) hi
    rw [List.range_succ, List.map_append, List.flatten_append, List.length_append] at h2
    simp at h2
    show (g i).toArray.size ≤ 1000
    rw [List.size_toArray]
    omega
  · exact ⟨nb, Heap.get?_push_of_some _ eb⟩
  · simp only [List.mem_singleton]
    exact Nat.ne_of_lt (Heap.lt_size eb)
  · rw [List.size_toArray, ← hlen] at hj
    obtain ⟨_, c, e⟩ := hg j hj
    exact ⟨c, Heap.get?_push_of_some _ e⟩
  · rw [List.size_toArray, ← hlen] at ht'
    have kk' : ∀ b o, s.heap.get? b = some o → h'.get? b = some o := fun b o e => kk b o (by
      simp only [List.mem_singleton]
      exact Nat.ne_of_lt (Heap.lt_size e)) (Heap.get?_push_of_some _ e)
    have I1 : Inv X pins σ H { s with heap := h', toks := tk } := I.kept kk'
    obtain ⟨ct, et⟩ := ht'
    by_cases htb : t' = b
    · subst htb
      have e0 := kk' _ _ eb
      rw [et] at e0
      have h0 : ((List.range as.length).map g).flatten = [] := by
        have := congrArg (fun o => match o with | some o => (match o.data with | Data.seq x _ => x.toList | _ => []) | none => []) e0
        simpa using this
      have l0 := (fl _ (Nat.le_refl _)).length
      rw [h0] at l0
      have f0 : ((List.range as.length).map f).flatten = [] := List.eq_nil_of_length_eq_zero l0
      exact ⟨.ref t', H, I1, rfl, q t' H (.inl rfl) (Same.refl H) (by rw [hb, f0])⟩
    · have hlt : s.heap.objs.size ≤ t' := by
        rcases hor with z | z
        · exact absurd z htb
        · have z' : (s.heap.push _).objs.size < t' := z
          rw [Heap.size_push] at z'
          omega
      refine ⟨.ref t', upd H t' (.lst ((List.range as.length).map f).flatten), I.laid (t' := tk) kk' hlt ⟨Nat.le_trans hsz (by rw [sizeLine_eq]; decide), _, ct, fl as.length (Nat.le_refl _), et⟩, rfl, q t' _ (.inr (I.hok.fresh hlt)) (Same.upd (Same.refl H) (I.hok.fresh hlt)) upd_same⟩
end
section
variable {X : Cx}
theorem o_sumLs {K : PySem.W.Frag} (hh : X.calm = true := by rfl) (hK : X.K = K := by rfl) : CallR X (.builtin "sum") (rSumL K) := by subst hK; exact call_sumLs hh
end
noncomputable def rNotInTab (K : PySem.W.Frag) : R2 := fun x y H Q => ∃ (a : Addr) (tbl : List (Int × List V)) (k : Int), x = .int k ∧ y = .ref a ∧ KTab K a tbl ∧ Q (.bl (!(tbl.any fun p => decide (p.1 = k)))) H
section
variable {X : Cx}
theorem o_notinTab {K : PySem.W.Frag} (hK : X.K = K := by rfl) : OpR X (compareOp .NotIn) (rNotInTab K) := by
  subst hK
  intro pins s σ H x y v u Q I rx ry h
  obtain ⟨a, tbl, k, rfl, rfl, ⟨ep, hk⟩, q⟩ := h
  obtain ⟨t, rfl⟩ := rx
  cases ry
  obtain ⟨kvs, da, hl, hz⟩ := hk.at I
  refine wpAny_notIn_of (intKind_is _ _ k t) hk.1 da.dictOf.mapOf ?_
  have e : (valueAt kvs k).isSome = tbl.any fun p => decide (p.1 = k) := by
    unfold valueAt
    rw [Option.isSome_map, Bool.eq_iff_iff, List.find?_isSome, List.any_eq_true]
    constructor
    · rintro ⟨x, hx, hk'⟩
      obtain ⟨i, hi⟩ := List.getElem?_of_mem hx
      have hi' : i < tbl.length := by rw [← hl]; exact (List.getElem?_eq_some_iff.mp hi).1
      obtain ⟨b, hb, _⟩ := hz i tbl[i].1 tbl[i].2 (by simp [hi'])
      rw [hi] at hb
      cases hb
      exact ⟨tbl[i], List.getElem_mem _, hk'⟩
    · rintro ⟨x, hx, hk'⟩
      obtain ⟨i, hi⟩ := List.getElem?_of_mem hx
      obtain ⟨b, hb, _⟩ := hz i x.1 x.2 hi
      exact ⟨_, List.mem_of_getElem? hb, hk'⟩
  rw [e]
  exact ⟨.bl _, H, I.tok _, rfl, q⟩
noncomputable def tRev (K : PySem.W.Frag) (te ts : TE) : TE := fun σ H Q => te σ H fun x H1 => ts σ H1 fun y H2 => ∃ a xs, x = .ref a ∧ y = .int (-1) ∧ SqL K H2 a xs ∧ ∀ p, H2 p = none → Q (.ref p) (upd H2 p (.lst xs.reverse))
theorem pe_rev {K : PySem.W.Frag} {e se : Expr} {te ts : TE} {p2 pos : Pos} (he : PE X e te) (hs : PE X se ts) (hsub : ∀ o i, subscripted (.Slice none none (some se) p2) false o i = operate [o, i] (getItem o i)) (hK : X.K = K := by rfl) : PE X (.Subscript e (.Slice none none (some se) p2) pos) (tRev K te ts) := by
  subst hK
  intro pins s σ H Q I h
  refine Subscript_ (thn (he pins s σ H _ I h) fun v s1 ⟨x, H1, I1, r1, q1⟩ => ?_)
  refine wpAny_Slice ?_
  rw [evalPart_none, evalPart_some]
  refine wpAny_pure (wpAny_pure (thn (hs pins s1 σ H1 _ I1 q1) fun u s3 ⟨y, H3, I3, r3, a, xs, e1, e2, hq, q⟩ => ?_))
  subst e1 e2
  cases r1
  obtain ⟨t, rfl⟩ := r3
  have I4 : Inv X pins σ H3 { s3 with heap := s3.heap.push { cls := .type "slice", data := .fields #[.none, .none, .int (-1) t] } } := I3.kept (t' := s3.toks) fun b ob q => Heap.get?_push_of_some _ q
  obtain ⟨its, r, ht, hz⟩ := I4.list hq
  have hlen := r.length
  refine tail_any (ops := [.ref a, .ref s3.heap.objs.size]) ht.isList.typeIs slot_list_getitem.lookup ?_ (hsub _ _)
  refine wpAny_getItem_list_slice ht.isList (Heap.IsSliceOf.new ..) .none .none (.int (-1) t) (by decide) ?_ (by rw [List.size_toArray] <;> omega)
  rw [PySem.W.krv_pick]
  refine ⟨.ref _, _, I4.laid (t' := s3.toks) (o := .lst xs.reverse) (fun b ob q => Heap.get?_push_of_some _ q) (Nat.le_refl _) ?_, rfl, q _ (I4.hok.fresh (Nat.le_refl _))⟩
  exact ⟨by rw [List.length_reverse]; exact hz, _, 0, r.reverse, Heap.get?_push_size _ rfl⟩
theorem vals_of_get : ∀ {xs : List V} {us : List Value}, xs.length = us.length → (∀ (i : Nat) x u, xs[i]? = some x → us[i]? = some u → RelV x u) → Vals xs us
  | [], [], _, _ => .nil
  | x :: xs, u :: us, h, k => .cons (k 0 x u rfl rfl) (vals_of_get (by simpa using h) fun i x u hx hu => k (i + 1) x u hx hu)
noncomputable def tLRng (ta : TA) : TE := fun σ H Q => ta σ H fun vs H1 => ∃ j : Int, vs = [.int j] ∧ 0 ≤ j ∧ j ≤ 100000 ∧ ∀ l, H1 l = none → Q (.ref l) (upd H1 l (.lst (rngV 0 j.toNat)))
theorem pe_lrng {a : Expr} {ta : TA} {p p1 pos pos1 : Pos} (hc : X.calm = true) (hg1 : Gl X "list") (hm1 : X.mg "list" = none) (hg : Gl X "range") (hm : X.mg "range" = none) (ha : PA X [a] ta) (hs : starEach [a] X.env = [(false, eval a X.env)] := by rfl) (hs1 : starEach [Expr.Call (.Name "range" p) [a] [] pos] X.env = [(false, eval (.Call (.Name "range" p) [a] [] pos) X.env)] := by rfl) :
    PE X (.Call (.Name "list" p1) [.Call (.Name "range" p) [a] [] pos] [] pos1) (tLRng ta) := by
  intro pins s σ H Q I h
  refine wpAny_Call_Name_kw (ld_blt I hg1 hm1 (show bootBuiltins "list" = some (.type "list") by kernel_rfl) ?_)
  refine PyProof.Rows.callWith_type1 ?_ hs1 rfl
  rw [hs1]
  show wpAny _ _ (spliced ((false, eval (.Call (.Name "range" p) [a] [] pos) X.env) :: [])) _ _ s
  refine Calls.spliced_cons ?_
  refine Call_ (ld_blt I hg hm boot_range (PyProof.Rows.callWith_type1 (thn (ha pos pins s σ H _ I h) fun us s1 ⟨vs, H1, I1, r1, q1⟩ => ?_) hs rfl))
  obtain ⟨j, e, j0, j1, q⟩ := q1
  subst e
  cases r1 with
  | cons r rr =>
    cases rr
    obtain ⟨t, rfl⟩ := r
    refine call_range_1 ?_
    refine Calls.spliced_nil ?_
    have I2 : Inv X pins σ H1 { s1 with heap := s1.heap.push { cls := .type "range", data := .fields #[.int 0 s1.toks, .int j t, .int 1 (s1.toks + 1)] }, toks := s1.toks + 1 + 1 } := I1.kept fun b o e => Heap.get?_push_of_some _ e
    have hrs : Builtin.Range.rangeSize 0 j 1 = j.toNat := by rw [rangeSize_one]; split <;> omega
    refine call_list_range (I2.ok.hd hc) (IsRange.new ..) (small_one (by omega) (by omega) (by omega) (by omega)) hrs (by omega) fun h' tk acc c' hk hS hacc => ?_
    refine ⟨.ref _, upd H1 _ (.lst (rngV 0 j.toNat)), I2.laid (t' := tk) hk (Nat.le_refl _) ?_, rfl, q _ (I2.hok.fresh (Nat.le_refl _))⟩
    refine ⟨by rw [rngV_length, sizeLine_eq]; omega, acc.toList, c', vals_of_get (by rw [rngV_length, Array.length_toList]; exact hacc.1.symm) (fun i x u hx hu => ?_), by simpa using hS⟩
    have hi : i < j.toNat := by
      have := (List.getElem?_eq_some_iff.mp hx).1
      rw [rngV_length] at this
      exact this
    rw [rngV_get hi] at hx
    cases hx
    obtain ⟨t', e⟩ := hacc.2 i u (by rw [← Array.getElem?_toList]; exact hu)
    exact ⟨t', by rw [e]; congr 1; omega⟩
end
end L2

namespace K07
open PySem L2

noncomputable def top (i : Nat) : Stmt := PySem.Challenge.pw_linkyard_k07_whole_bytes_walked.main.body.getD i (.Pass ⟨0, 0, 0, 0⟩)
noncomputable abbrev s_two_of : Stmt := top 1
noncomputable abbrev s_word_in : Stmt := top 2
noncomputable abbrev s_byte_of : Stmt := top 5
noncomputable abbrev s_Op_size : Stmt := inClass (top 6) 0
noncomputable abbrev s_Op_row : Stmt := inClass (top 6) 2
noncomputable abbrev s_Op_told : Stmt := inClass (top 6) 3
noncomputable abbrev s_Op_goal : Stmt := inClass (top 6) 5
noncomputable abbrev s_Alone___init__ : Stmt := inClass (top 7) 0
noncomputable abbrev s_Alone_word : Stmt := inClass (top 7) 1
noncomputable abbrev s_Small___init__ : Stmt := inClass (top 8) 0
noncomputable abbrev s_Small_word : Stmt := inClass (top 8) 1
noncomputable abbrev s_Small_row : Stmt := inClass (top 8) 2
noncomputable abbrev s_Small_told : Stmt := inClass (top 8) 3
noncomputable abbrev s_Push___init__ : Stmt := inClass (top 9) 0
noncomputable abbrev s_Push_word : Stmt := inClass (top 9) 1
noncomputable abbrev s_Push_row : Stmt := inClass (top 9) 2
noncomputable abbrev s_Push_told : Stmt := inClass (top 9) 3
noncomputable abbrev s_size_at : Stmt := top 10
noncomputable abbrev s_word_at : Stmt := top 11
noncomputable abbrev s_way_at : Stmt := top 12
noncomputable abbrev s_alone_at : Stmt := top 13
noncomputable abbrev s__law_cell_at : Stmt := top 15
noncomputable abbrev s__law_mixed : Stmt := top 16
noncomputable abbrev s__law_number : Stmt := top 17
noncomputable abbrev s__law_alones : Stmt := top 20
noncomputable abbrev s__law_op : Stmt := top 21
noncomputable abbrev s__law_bytes : Stmt := top 22
noncomputable abbrev s__law_whole : Stmt := top 23
noncomputable abbrev s__law_list_of : Stmt := top 24
noncomputable abbrev s__law_size : Stmt := top 25
noncomputable abbrev s__law_right : Stmt := top 26
noncomputable abbrev s__law_parts : Stmt := top 27
noncomputable abbrev s_law : Stmt := top 28

theorem iteF' {c : Prop} [Decidable c] {a b : Prop} (h : ¬ c) (z : b) : if c then a else b := by rw [if_neg h]; exact z
theorem iteT' {c : Prop} [Decidable c] {a b : Prop} (h : c) (z : a) : if c then a else b := by rw [if_pos h]; exact z
noncomputable def OkN (l : List Nat) : Prop := l.length ≤ 20 ∧ l ≠ []
theorem l_e : Str.ofString "" = mkS [] := by decide +kernel
theorem l_b : Str.ofString " " = mkS [32] := by decide +kernel
noncomputable def alW : List Str := [Str.ofString "add", Str.ofString "sub", Str.ofString "mul", Str.ofString "and", Str.ofString "or", Str.ofString "xor", Str.ofString "not", Str.ofString "left", Str.ofString "right", Str.ofString "less", Str.ofString "same", Str.ofString "dup", Str.ofString "drop", Str.ofString "swap", Str.ofString "ask", Str.ofString "tell", Str.ofString "back", Str.ofString "stop"]
noncomputable def neW : List Str := [Str.ofString "go", Str.ofString "ifnot", Str.ofString "hop"]
noncomputable def faW : List Str := [Str.ofString "call", Str.ofString "take", Str.ofString "put"]
noncomputable def opsR : List (Int × Str × Int × Str) := [(16, Str.ofString "add", 1, Str.ofString ""), (17, Str.ofString "sub", 1, Str.ofString ""), (18, Str.ofString "mul", 1, Str.ofString ""), (19, Str.ofString "and", 1, Str.ofString ""), (20, Str.ofString "or", 1, Str.ofString ""), (21, Str.ofString "xor", 1, Str.ofString ""), (22, Str.ofString "not", 1, Str.ofString ""), (23, Str.ofString "left", 1, Str.ofString ""), (24, Str.ofString "right", 1, Str.ofString ""), (25, Str.ofString "less", 1, Str.ofString ""), (26, Str.ofString "same", 1, Str.ofString ""), (27, Str.ofString "dup", 1, Str.ofString ""), (28, Str.ofString "drop", 1, Str.ofString ""), (29, Str.ofString "swap", 1, Str.ofString ""), (30, Str.ofString "ask", 1, Str.ofString ""), (31, Str.ofString "tell", 1, Str.ofString ""), (32, Str.ofString "back", 1, Str.ofString ""), (33, Str.ofString "stop", 1, Str.ofString ""), (48, Str.ofString "small", 2, Str.ofString ""), (49, Str.ofString "push", 3, Str.ofString ""), (64, Str.ofString "go", 2, Str.ofString "near"), (65, Str.ofString "ifnot", 2, Str.ofString "near"), (66, Str.ofString "hop", 2, Str.ofString "near"), (80, Str.ofString "call", 3, Str.ofString "far"), (81, Str.ofString "take", 3, Str.ofString "far"), (82, Str.ofString "put", 3, Str.ofString "far")]
noncomputable def opsT : List (Int × List V) := opsR.map fun p => (p.1, [V.str p.2.1, V.int p.2.2.1, V.str p.2.2.2])
theorem opsN : (opsR.map (·.2.1)).Nodup := by decide +kernel
theorem ops_same {i j : Nat} {p p' : Int × Str × Int × Str} (h : opsR[i]? = some p) (h' : opsR[j]? = some p') (e : p.2.1 = p'.2.1) : i = j := by
  obtain ⟨hi, ei⟩ := List.getElem?_eq_some_iff.mp h
  obtain ⟨hj, ej⟩ := List.getElem?_eq_some_iff.mp h'
  have key := List.pairwise_iff_getElem.mp opsN
  rcases Nat.lt_trichotomy i j with z | z | z
  · have k := key i j (by simpa using hi) (by simpa using hj) z
    simp only [List.getElem_map, ei, ej] at k
    exact absurd e k
  · exact z
  · have k := key j i (by simpa using hj) (by simpa using hi) z
    simp only [List.getElem_map, ei, ej] at k
    exact absurd e.symm k
inductive OpD where
  | al (i : Nat)
  | sm (n : Int)
  | pu (n : Int)
  | ne (i : Nat) (z : Str)
  | fa (i : Nat) (z : Str)
noncomputable def OpD.ok : OpD → Prop
  | .al i => i < 18
  | .sm n => 0 ≤ n ∧ n < 256
  | .pu n => 0 ≤ n ∧ n < 65536
  | .ne i z => i < 3 ∧ z.length ≤ 20 ∧ z ≠ mkS []
  | .fa i z => i < 3 ∧ z.length ≤ 20 ∧ z ≠ mkS []
noncomputable def OpD.kind : OpD → Str
  | .al _ => Str.ofString "alone"
  | .sm _ => Str.ofString "small"
  | .pu _ => Str.ofString "push"
  | .ne .. => Str.ofString "near"
  | .fa .. => Str.ofString "far"
noncomputable def OpD.word : OpD → Str
  | .al i => alW.getD i (mkS [])
  | .sm _ => Str.ofString "small"
  | .pu _ => Str.ofString "push"
  | .ne i _ => neW.getD i (mkS [])
  | .fa i _ => faW.getD i (mkS [])
noncomputable def OpD.about : OpD → V
  | .al _ => .non
  | .sm n => .int n
  | .pu n => .int n
  | .ne _ z => .str z
  | .fa _ z => .str z
noncomputable def OpD.bytes : OpD → List Int
  | .al i => [16 + (i : Int)]
  | .sm n => [48, n]
  | .pu n => [49, n / 256, n % 256]
  | .ne i _ => [64 + (i : Int), 0]
  | .fa i _ => [80 + (i : Int), 0, 0]
noncomputable def OpD.row : OpD → Str
  | .al i => alW.getD i (mkS [])
  | .sm n => Str.ofString "small" ++ mkS [32] ++ Str.ofString (toString n)
  | .pu n => Str.ofString "push" ++ mkS [32] ++ Str.ofString (toString n)
  | .ne i z => neW.getD i (mkS []) ++ mkS [32] ++ z
  | .fa i z => faW.getD i (mkS []) ++ mkS [32] ++ z
noncomputable def OpD.goal : OpD → Str
  | .ne _ z => z
  | .fa _ z => z
  | _ => mkS []
theorem r_al : ∀ i : Nat, i < 18 → opsR[i]? = some (16 + (i : Int), alW.getD i (mkS []), 1, Str.ofString "") := by decide +kernel
theorem r_sm : opsR[18]? = some (48, Str.ofString "small", 2, Str.ofString "") := by decide +kernel
theorem r_pu : opsR[19]? = some (49, Str.ofString "push", 3, Str.ofString "") := by decide +kernel
theorem small_b : Str.ofString "small " = Str.ofString "small" ++ mkS [32] := by decide +kernel
theorem push_b : Str.ofString "push " = Str.ofString "push" ++ mkS [32] := by decide +kernel
theorem num_len {n : Int} (h0 : 0 ≤ n) (h1 : n < 65536) : (Str.ofString (toString n)).length ≤ 5 := PyProof.Rows.toString_length_le h0 (by decide) (by omega)
theorem num_log {n : Int} (h0 : 0 ≤ n) (h1 : n < 65536) : n.natAbs.log2 < 1920 := by
  by_cases z : n.natAbs = 0
  · rw [z]; decide
  · have := (Nat.log2_lt z (k := 17)).mpr (by omega)
    omega
theorem f1_at (f : Str) (v : V) : (putF f v []).lookup f = some v := by rw [lookup_putF, if_pos rfl]
theorem f1_no {f g : Str} (v : V) (h : g ≠ f) : (putF f v []).lookup g = none := by rw [lookup_putF, if_neg h]; rfl
noncomputable def alT : Str := Str.ofString "add sub mul and or xor not left right less same dup drop swap ask tell back stop"
theorem alones_ok : Txt.split alT (mkS [32]) = alW ∧ (Builtin.Str.partsBetween alT (Builtin.Str.occurrences alT (mkS [32]) 0 alT.length (alT.length + 1)) (mkS [32]).length).length ≤ sizeLine ∧ alT.length ≤ sizeLine := by decide +kernel
theorem al_at0 : ∀ i : Nat, i < 18 → alW[i]? = some (alW.getD i (mkS [])) := by decide +kernel
theorem al_at (i : Nat) (h : i < 18) : (alW.map V.str)[i]? = some (V.str (alW.getD i (mkS []))) := by rw [List.getElem?_map, al_at0 i h]; rfl
theorem al_no : ∀ i : Nat, i < 18 → ∀ j : Nat, j < i → alW[j]? ≠ some (alW.getD i (mkS [])) := by decide +kernel
theorem ne_at0 : ∀ i : Nat, i < 3 → neW[i]? = some (neW.getD i (mkS [])) := by decide +kernel
theorem ne_no : ∀ i : Nat, i < 3 → ∀ j : Nat, j < i → neW[j]? ≠ some (neW.getD i (mkS [])) := by decide +kernel
theorem fa_at0 : ∀ i : Nat, i < 3 → faW[i]? = some (faW.getD i (mkS [])) := by decide +kernel
theorem fa_no : ∀ i : Nat, i < 3 → ∀ j : Nat, j < i → faW[j]? ≠ some (faW.getD i (mkS [])) := by decide +kernel
theorem ne_at (i : Nat) (h : i < 3) : (neW.map V.str)[i]? = some (V.str (neW.getD i (mkS []))) := by rw [List.getElem?_map, ne_at0 i h]; rfl
theorem fa_at (i : Nat) (h : i < 3) : (faW.map V.str)[i]? = some (V.str (faW.getD i (mkS []))) := by rw [List.getElem?_map, fa_at0 i h]; rfl
theorem nm_at {ls : List (List Nat)} {i : Int} (h0 : 0 ≤ i) (h1 : i < (ls.length : Int)) (hl : ∀ w ∈ ls, OkN w) : ∃ w, atI (ls.map fun w => V.str (mkS w)) i = some (V.str (mkS w)) ∧ OkN w := by
  have h : i.toNat < ls.length := by omega
  exact ⟨ls[i.toNat], atIn h0 (by simp [h]), hl _ (List.getElem_mem _)⟩
noncomputable def HeldOk (p : Addr) (prs : List Addr) (H : Hp) : Prop := ∀ z ∈ prs, z ≠ p ∧ ∃ (u v : Addr) (xs : List Int), u ≠ p ∧ v ≠ p ∧ H z = some (.tup [.ref u, .ref v]) ∧ H u = some (.lst (xs.map V.int)) ∧ H v = some (.lst (xs.map V.int))
theorem HeldOk.keep {p : Addr} {prs : List Addr} {H H' : Hp} (h : HeldOk p prs H) (k : ∀ c o, H c = some o → c ≠ p → H' c = some o) : HeldOk p prs H' := fun z hz => by
  obtain ⟨n, u, v, xs, nu, nv, e1, e2, e3⟩ := h z hz
  exact ⟨n, u, v, xs, nu, nv, k _ _ e1 n, k _ _ e2 nu, k _ _ e3 nv⟩
theorem HeldOk.same {p : Addr} {prs : List Addr} {H H' : Hp} (h : HeldOk p prs H) (k : Same H H') : HeldOk p prs H' := h.keep fun c o e _ => k c o e
theorem bytes_len (o : OpD) : o.bytes.length ≤ 3 := by cases o <;> simp [OpD.bytes]
noncomputable def OpsL (H : Hp) (os : List (Addr × OpD)) : Prop := ∀ e ∈ os, e.2.ok ∧ H e.1 = some (.tup [.str e.2.kind, .str e.2.word, e.2.about])
theorem OpsL.same {H H' : Hp} {os : List (Addr × OpD)} (h : OpsL H os) (S : Same H H') : OpsL H' os := fun e he => ⟨(h e he).1, S _ _ (h e he).2⟩
noncomputable def OpD.cls : OpD → List Bool
  | .al _ => [true, false, false, false]
  | .sm _ => [false, true, false, false]
  | .pu _ => [false, false, true, false]
  | .ne .. => [false, false, false, true]
  | .fa .. => [false, false, false, false]
theorem made_same {H : Hp} {x dx C : Addr} (nx : H x = none) (ndx : H dx = none) {o : HO} : Same H (upd (upd H dx (.own x)) x o) := fun c u e => by
  rw [upd_ne (ne_of_none e nx), upd_ne (ne_of_none e ndx)]
  exact e

noncomputable def opSz (b : Int) : Option Int := (opsR.find? fun p => decide (p.1 = b)).map (·.2.2.1)
noncomputable def szF (ns : List Int) (p : Int) : Option Int := match ns[p.toNat]? with
  | none => none
  | some b => match opSz b with
    | none => none
    | some z => if p + z ≤ (ns.length : Int) then some z else none
noncomputable def szV : Option Int → V
  | none => .non
  | some z => .int z
theorem ops_any (b : Int) : (opsT.any fun p => decide (p.1 = b)) = (opSz b).isSome := by
  unfold opSz opsT
  rw [Option.isSome_map, List.any_map, Bool.eq_iff_iff, List.find?_isSome, List.any_eq_true]
  rfl
theorem ops_ix {b z : Int} (h : opSz b = some z) : ∃ (i : Nat) (q : Int × Str × Int × Str), opsR[i]? = some q ∧ q.1 = b ∧ q.2.2.1 = z := by
  unfold opSz at h
  cases e : opsR.find? (fun p => decide (p.1 = b)) with
  | none => rw [e] at h; cases h
  | some q =>
    rw [e] at h
    cases h
    have hm := List.mem_of_find?_eq_some e
    obtain ⟨i, hi⟩ := List.getElem?_of_mem hm
    exact ⟨i, q, hi, by simpa using List.find?_some e, rfl⟩
noncomputable def lawSz (b : Int) : Int := if 16 ≤ b ∧ b ≤ 33 then 1 else if b = 48 ∨ (b = 64 ∨ b = 65 ∨ b = 66) then 2 else if b = 49 ∨ (b = 80 ∨ b = 81 ∨ b = 82) then 3 else 0
theorem sz_all : ∀ n : Nat, n < 256 → opSz n = if lawSz n = 0 then none else some (lawSz n) := by decide +kernel
theorem sz_is {b : Int} (h0 : 0 ≤ b) (h1 : b < 256) : opSz b = if lawSz b = 0 then none else some (lawSz b) := by
  obtain ⟨n, rfl⟩ : ∃ n : Nat, b = n := ⟨b.toNat, by omega⟩
  exact sz_all n (by omega)
noncomputable def Byt (l : List Int) : Prop := ∀ n ∈ l, 0 ≤ n ∧ n < 256
theorem al_ne : ∀ i : Nat, i < 18 → alW.getD i (mkS []) ≠ Str.ofString "small" ∧ alW.getD i (mkS []) ≠ Str.ofString "push" := by decide +kernel
theorem tab20 : ∀ i : Nat, i < 26 → 20 ≤ i → (opsR.getD i (0, mkS [], 0, mkS [])).2.2.2 ≠ mkS [] ∧ 64 ≤ (opsR.getD i (0, mkS [], 0, mkS [])).1 := by decide +kernel
theorem e_mk : Str.ofString "" = mkS [] := by decide +kernel
theorem tabC {i : Nat} {q : Int × Str × Int × Str} (h : opsR[i]? = some q) : (i < 18 ∧ q = (16 + (i : Int), alW.getD i (mkS []), 1, mkS [])) ∨ (i = 18 ∧ q = (48, Str.ofString "small", 2, mkS [])) ∨ (i = 19 ∧ q = (49, Str.ofString "push", 3, mkS [])) ∨ (q.2.2.2 ≠ mkS [] ∧ 64 ≤ q.1) := by
  have hl : i < 26 := (List.getElem?_eq_some_iff.mp h).1
  rcases Nat.lt_or_ge i 18 with z | z
  · rw [r_al i z, e_mk] at h
    exact .inl ⟨z, (Option.some.inj h).symm⟩
  · by_cases z1 : i = 18
    · subst z1
      rw [r_sm, e_mk] at h
      exact .inr (.inl ⟨rfl, (Option.some.inj h).symm⟩)
    · by_cases z2 : i = 19
      · subst z2
        rw [r_pu, e_mk] at h
        exact .inr (.inr (.inl ⟨rfl, (Option.some.inj h).symm⟩))
      · have := tab20 i hl (by omega)
        rw [show opsR.getD i (0, mkS [], 0, mkS []) = q by simp [List.getD, h]] at this
        exact .inr (.inr (.inr this))
noncomputable def decF (ns : List Int) (p : Int) : Option OpD := match szF ns p with
  | none => none
  | some _ => if 16 ≤ ns.getD p.toNat 0 ∧ ns.getD p.toNat 0 ≤ 33 then some (.al (ns.getD p.toNat 0 - 16).toNat) else if ns.getD p.toNat 0 = 48 then some (.sm (ns.getD (p.toNat + 1) 0)) else if ns.getD p.toNat 0 = 49 then some (.pu (ns.getD (p.toNat + 1) 0 * 256 + ns.getD (p.toNat + 2) 0)) else none
theorem getI {r : List Int} {p : Int} (h0 : 0 ≤ p) (h1 : p < (r.length : Int)) : atI (r.map V.int) p = some (V.int (r.getD p.toNat 0)) := by
  refine atIn h0 ?_
  have : p.toNat < r.length := by omega
  simp [List.getD, this]
theorem szF_some {ns : List Int} {p z : Int} (h0 : 0 ≤ p) (h : szF ns p = some z) : p < (ns.length : Int) ∧ ns[p.toNat]? = some (ns.getD p.toNat 0) ∧ opSz (ns.getD p.toNat 0) = some z ∧ p + z ≤ (ns.length : Int) := by
  unfold szF at h
  cases e : ns[p.toNat]? with
  | none => rw [e] at h; cases h
  | some b =>
    rw [e] at h
    have hl := (List.getElem?_eq_some_iff.mp e).1
    have eb : ns.getD p.toNat 0 = b := by simp [List.getD, e]
    cases e2 : opSz b with
    | none => simp only [e2] at h; cases h
    | some z' =>
      simp only [e2] at h
      split at h
      · cases h
        exact ⟨by omega, by rw [eb], by rw [eb]; exact e2, by assumption⟩
      · cases h
theorem lawSz0 (b : Int) : 0 ≤ lawSz b := by
  unfold lawSz
  split
  · decide
  · split
    · decide
    · split <;> decide
theorem inV3 (b x y z : Int) : inV (V.int b) [V.int x, V.int y, V.int z] = decide (b = x ∨ b = y ∨ b = z) := by
  rw [Bool.eq_iff_iff]
  simp [inV, eqV, scal]
  omega
theorem cut_mid {α : Type} (a b c : List α) : cutL (a ++ (b ++ c)) (some (a.length : Int)) (some ((a.length : Int) + (b.length : Int))) = b := by
  unfold cutL
  rw [show ((a.length : Int) + (b.length : Int)) = ((a.length + b.length : Nat) : Int) by omega, HT.sIx_nat, HT.sIx_nat]
  simp only [List.length_append]
  rw [Nat.min_eq_left (by omega), Nat.min_eq_left (by omega), List.drop_left, Nat.add_sub_cancel_left, List.take_left]
theorem cut_midM (pre mid post : List Int) : cutL ((pre ++ (mid ++ post)).map V.int) (some (pre.length : Int)) (some ((pre.length : Int) + (mid.length : Int))) = mid.map V.int := by
  have h := cut_mid (pre.map V.int) (mid.map V.int) (post.map V.int)
  rw [List.length_map, List.length_map] at h
  rw [List.map_append, List.map_append]
  exact h
noncomputable def Pc (pc : List Int) : Prop := pc.length ≤ 3 ∧ 0 < pc.length ∧ opSz (pc.getD 0 0) = some (pc.length : Int)
noncomputable def LsAt (H : Hp) (as : List Addr) (pcs : List (List Int)) : Prop := as.length = pcs.length ∧ ∀ (i : Nat) a pc, as[i]? = some a → pcs[i]? = some pc → H a = some (.lst (pc.map V.int))
theorem szF_at (pre pc rest : List Int) (h : Pc pc) : szF (pre ++ (pc ++ rest)) (pre.length : Int) = some (pc.length : Int) := by
  obtain ⟨_, h0, h1⟩ := h
  cases pc with
  | nil => simp at h0
  | cons b t =>
    unfold szF
    rw [show ((pre.length : Int)).toNat = pre.length by omega, show (pre ++ (b :: t ++ rest))[pre.length]? = some b by simp]
    simp only [List.getD_cons_zero] at h1
    dsimp only
    rw [h1]
    dsimp only
    rw [if_pos (by simp only [List.length_append]; omega)]
theorem szF_end (ns : List Int) : szF ns (ns.length : Int) = none := by
  unfold szF
  rw [List.getElem?_eq_none (by omega)]
theorem flat_at {pcs : List (List Int)} {k : Nat} {pc : List Int} (h : pcs[k]? = some pc) : pcs.flatten = (pcs.take k).flatten ++ (pc ++ (pcs.drop (k + 1)).flatten) := by
  obtain ⟨hk, e⟩ := List.getElem?_eq_some_iff.mp h
  conv => lhs; rw [← List.take_append_drop k pcs, List.drop_eq_getElem_cons hk, e]
  rw [List.flatten_append, List.flatten_cons]
theorem ne_nn {K : PySem.W.Frag} {H : Hp} {Q : VK} : rNeA K .non .non H Q ↔ Q (.bl false) H := by simp [rNeA, rNe, rEqL, scal]
theorem LsAt.snoc {H H' : Hp} {as : List Addr} {pcs : List (List Int)} {k : Nat} {pc : List Int} {s : Addr} (hl : LsAt H as (pcs.take k)) (hpc : pcs[k]? = some pc) (keep : ∀ x ∈ as, ∀ o, H x = some o → H' x = some o) (es : H' s = some (.lst (pc.map V.int))) : LsAt H' (as ++ [s]) (pcs.take (k + 1)) := by
  rw [List.take_add_one, hpc]
  generalize pcs.take k = ps at hl ⊢
  refine ⟨by simp [hl.1], fun i a pc' h1 h2 => ?_⟩
  rcases Nat.lt_trichotomy i as.length with z | z | z
  · rw [List.getElem?_append_left z] at h1
    rw [List.getElem?_append_left (by have := hl.1; omega)] at h2
    exact keep a (List.mem_of_getElem? h1) _ (hl.2 i a pc' h1 h2)
  · subst z
    simp at h1
    rw [hl.1] at h2
    simp at h2
    rw [← h1, ← h2]
    exact es
  · rw [List.getElem?_eq_none (by simp; omega)] at h1
    cases h1
theorem LsAt.add {H H' : Hp} {as : List Addr} {pcs : List (List Int)} {pc : List Int} {s : Addr} (hl : LsAt H as pcs) (keep : ∀ x ∈ as, ∀ o, H x = some o → H' x = some o) (es : H' s = some (.lst (pc.map V.int))) : LsAt H' (as ++ [s]) (pcs ++ [pc]) := by
  have := LsAt.snoc (pcs := pcs ++ [pc]) (k := pcs.length) (pc := pc) (by rw [List.take_left]; exact hl) (by simp) keep es
  rw [List.take_of_length_le (by simp)] at this
  exact this
theorem LsAt.same {H H' : Hp} {as : List Addr} {pcs : List (List Int)} (hl : LsAt H as pcs) (S : Same H H') : LsAt H' as pcs := ⟨hl.1, fun i a pc h1 h2 => S _ _ (hl.2 i a pc h1 h2)⟩
theorem a_mk : Str.ofString "a" = mkS [97] := by decide +kernel
theorem bytes_pos (o : OpD) : 0 < o.bytes.length := by cases o <;> simp [OpD.bytes]
theorem flat_len {pcs : List (List Int)} {k : Nat} {pc : List Int} (h : pcs[k]? = some pc) : (pcs.take (k + 1)).flatten.length = (pcs.take k).flatten.length + pc.length := by
  rw [List.take_add_one, h]
  simp
theorem bytD {ns : List Int} (h : Byt ns) {k : Nat} (hk : k < ns.length) : 0 ≤ ns.getD k 0 ∧ ns.getD k 0 < 256 := by
  rw [show ns.getD k 0 = ns[k] by simp [List.getD, hk]]
  exact h _ (List.getElem_mem _)
theorem eqS {K : PySem.W.Frag} {H : Hp} {Q : VK} {x y : Str} (h : x = y) (q : Q (.bl true) H) : rEqA K (.str x) (.str y) H Q := eq_ss.mpr (by rw [decide_eq_true h]; exact q)
theorem tfor_rngQ {tb : TS} {D : Ends} {σ : St} {H : Hp} {k : Nat} {te : TE} (m : Int) (hm : m ≤ 100000) (hte : ∀ R : VK, (∀ j, 0 ≤ j → j < m → R (.int j) H) → te σ H R) (Pv : Nat → St → Hp → Prop) (h0 : Pv 0 σ H)
    (hs : ∀ (i : Nat) (σ : St) (H : Hp), (i : Int) < m → Pv i σ H → tb { D with nx := Pv (i + 1), ct := Pv (i + 1), bk := D.nx } (σ.set k (some (.int (i : Int)))) H) (hd : ∀ (i : Nat) σ H, (i : Int) < m → Pv i σ H → D.nx σ H) :
    tFor (iRng1 (tCons te tNil)) (gName k) tb D σ H :=
  hte _ fun j j0 j1 => ⟨j, rfl, by omega, by omega, for_range (n := j.toNat) Pv h0 (fun i σ H hi p => by rw [Int.zero_add]; exact hs i σ H (by omega) p) (hd j.toNat · · (by omega))⟩
theorem rdLs {K : PySem.W.Frag} {H : Hp} : ∀ (pcs : List (List Int)) (as : List Addr), LsAt H as pcs → RdDs K H (pcs.map fun pc => PyData.list (pc.map PyData.int)) (as.map V.ref)
  | [], as, h => by
    have : as = [] := List.eq_nil_of_length_eq_zero h.1
    subst this
    rw [List.map_nil, RdDs]
    rfl
  | pc :: pcs, [], h => by
    have := h.1
    cases this
  | pc :: pcs, b :: as, h => by
    rw [List.map_cons, RdDs]
    refine ⟨_, _, rfl, ?_, rdLs pcs as ⟨by have := h.1; simpa using this, fun i a pc h1 h2 => h.2 (i + 1) a pc (by simpa using h1) (by simpa using h2)⟩⟩
    rw [RdD]
    exact ⟨b, _, rfl, SqL.of (h.2 0 b pc rfl rfl), rd_ints pc⟩
theorem layLs : ∀ pcs : List (List Int), PyData.canLayAll0 (pcs.map fun pc => PyData.list (pc.map PyData.int)) = true ∧ PyData.depthAll (pcs.map fun pc => PyData.list (pc.map PyData.int)) ≤ 5
  | [] => ⟨rfl, by simp [PyData.depthAll]⟩
  | pc :: pcs => by
    obtain ⟨h1, h2⟩ := layLs pcs
    refine ⟨by rw [List.map_cons, PyData.canLayAll0, PyData.canLay0, lay_ints, h1]; rfl, ?_⟩
    rw [List.map_cons, PyData.depthAll]
    simp [PyData.depth, PyData.depthAll, dep_ints]
    omega
theorem sumF (pcs : List (List Int)) : ((List.range pcs.length).map fun i => (pcs.getD i []).map V.int).flatten = pcs.flatten.map V.int := by
  rw [List.map_flatten]
  congr 1
  apply List.ext_getElem
  · simp
  · intro i h1 h2
    simp at h2
    simp [List.getD, h2]
theorem flat60 : ∀ {pcs : List (List Int)}, (∀ pc ∈ pcs, Pc pc ∧ Byt pc) → pcs.flatten.length ≤ 3 * pcs.length ∧ Byt pcs.flatten
  | [], _ => ⟨by simp, fun n h => by simp at h⟩
  | pc :: pcs, h => by
    obtain ⟨h1, h2⟩ := flat60 fun x hx => h x (List.mem_cons_of_mem _ hx)
    obtain ⟨h3, h4⟩ := h pc (List.mem_cons_self ..)
    refine ⟨by have := h3.1; simp only [List.flatten_cons, List.length_append, List.length_cons]; omega, fun n hn => ?_⟩
    rw [List.flatten_cons] at hn
    rcases List.mem_append.mp hn with z | z
    · exact h4 n z
    · exact h2 n z
noncomputable def Plc (xs : List V) : Prop := ∀ x ∈ xs, ∃ p : Int, x = V.int p ∧ 0 ≤ p
theorem plc_rng (n : Nat) : Plc (rngV 0 n) := fun x hx => by
  obtain ⟨i, h⟩ := List.getElem?_of_mem hx
  have hi := (List.getElem?_eq_some_iff.mp h).1
  rw [rngV_length] at hi
  rw [rngV_get hi] at h
  exact ⟨_, (Option.some.inj h).symm, by omega⟩
theorem ok_pc : ∀ {o : OpD}, o.ok → ((o.bytes.getD 0 0) < 64 → Pc o.bytes ∧ Byt o.bytes) ∧ (64 ≤ o.bytes.getD 0 0 → ∃ b t, o.bytes = b :: t ∧ t.length ≤ 2 ∧ 64 ≤ b ∧ b < 256 ∧ opSz b = some ((t.length : Int) + 1))
  | .al i, h => by
    have h : i < 18 := h
    have hs : ∀ i : Nat, i < 18 → opSz (16 + (i : Int)) = some 1 := by decide +kernel
    refine ⟨fun _ => ⟨⟨by simp [OpD.bytes], by simp [OpD.bytes], hs i h⟩, fun n hn => ?_⟩, fun z => ?_⟩
    · have := List.mem_singleton.mp hn
      omega
    · have z : 64 ≤ 16 + (i : Int) := z
      omega
  | .sm n, h => by
    obtain ⟨h0, h1⟩ : 0 ≤ n ∧ n < 256 := h
    refine ⟨fun _ => ⟨⟨by simp [OpD.bytes], by simp [OpD.bytes], by show opSz 48 = some 2; decide +kernel⟩, fun m hm => ?_⟩, fun z => ?_⟩
    · simp [OpD.bytes] at hm
      omega
    · have z : (64 : Int) ≤ 48 := z
      omega
  | .pu n, h => by
    obtain ⟨h0, h1⟩ : 0 ≤ n ∧ n < 65536 := h
    refine ⟨fun _ => ⟨⟨by simp [OpD.bytes], by simp [OpD.bytes], by show opSz 49 = some 3; decide +kernel⟩, fun m hm => ?_⟩, fun z => ?_⟩
    · simp [OpD.bytes] at hm
      omega
    · have z : (64 : Int) ≤ 49 := z
      omega
  | .ne i z, h => by
    have h : i < 3 := h.1
    have hs : ∀ i : Nat, i < 3 → opSz (64 + (i : Int)) = some 2 := by decide +kernel
    refine ⟨fun z => ?_, fun _ => ⟨_, _, rfl, by simp, by omega, by omega, hs i h⟩⟩
    have z : 64 + (i : Int) < 64 := z
    omega
  | .fa i z, h => by
    have h : i < 3 := h.1
    have hs : ∀ i : Nat, i < 3 → opSz (80 + (i : Int)) = some 3 := by decide +kernel
    refine ⟨fun z => ?_, fun _ => ⟨_, _, rfl, by simp, by omega, by omega, hs i h⟩⟩
    have z : 80 + (i : Int) < 64 := z
    omega
theorem cutL_map {α β : Type} (f : α → β) (xs : List α) (lo hi : Option Int) : cutL (xs.map f) lo hi = (cutL xs lo hi).map f := by
  unfold cutL
  rw [List.length_map, List.map_take, List.map_drop]
noncomputable def oddL (x : Int) : List Int := [0, 15, 16, 33, 34, 47, 48, 49, 50, 63, 64, 66, 67, 79, 80, 82, 83, 255, x]
theorem byt_odd {x : Int} (h0 : 0 ≤ x) (h1 : x < 256) : Byt (oddL x) := fun n hn => by
  simp [oddL] at hn
  omega
theorem byt_cut {l : List Int} (h : Byt l) (lo hi : Option Int) : Byt (cutL l lo hi) := fun n hn => h n (cutL_mem hn)
theorem byt_app {l m : List Int} (h : Byt l) (k : Byt m) : Byt (l ++ m) := fun n hn => (List.mem_append.mp hn).elim (h n) (k n)
theorem cutB {ns : List Int} {p : Int} (z : Nat) (p0 : 0 ≤ p) (h : p + (z : Int) ≤ (ns.length : Int)) : cutL (ns.map V.int) (some p) (some (p + (z : Int))) = ((List.range z).map fun j => ns.getD (p.toNat + j) 0).map V.int := by
  obtain ⟨k, rfl⟩ : ∃ k : Nat, p = k := ⟨p.toNat, by omega⟩
  unfold cutL
  rw [show (k : Int) + (z : Int) = ((k + z : Nat) : Int) by omega, HT.sIx_nat, HT.sIx_nat, List.length_map, Nat.min_eq_left (by omega), Nat.min_eq_left (by omega), Nat.add_sub_cancel_left]
  apply List.ext_getElem
  · simp; omega
  · intro i h1 h2
    simp at h2
    simp [List.getD, show k + i < ns.length by omega]

structure Txt (K : PySem.W.Frag) (mg : Str → Option Value) where
  d_two_of : DefAt K mg "two_of" s_two_of ["number"]
  d_word_in : DefAt K mg "word_in" s_word_in ["row", "place"]
  d_byte_of : DefAt K mg "byte_of" s_byte_of ["word"]
  d_size_at : DefAt K mg "size_at" s_size_at ["row", "place"]
  d_word_at : DefAt K mg "word_at" s_word_at ["row", "place"]
  d_way_at : DefAt K mg "way_at" s_way_at ["row", "place"]
  d_alone_at : DefAt K mg "alone_at" s_alone_at ["row", "place"]
  d__law_cell_at : DefAt K mg "_law_cell_at" s__law_cell_at ["_law_script", "_law_k"]
  d__law_mixed : DefAt K mg "_law_mixed" s__law_mixed ["_law_cell", "_law_k"]
  d__law_number : DefAt K mg "_law_number" s__law_number ["_law_cell"]
  d__law_alones : DefAt K mg "_law_alones" s__law_alones []
  d__law_op : DefAt K mg "_law_op" s__law_op ["_law_cell", "_law_names"]
  d__law_bytes : DefAt K mg "_law_bytes" s__law_bytes ["_law_op_here"]
  d__law_whole : DefAt K mg "_law_whole" s__law_whole ["_law_found"]
  d__law_list_of : DefAt K mg "_law_list_of" s__law_list_of ["_law_found", "_law_due"]
  d__law_size : DefAt K mg "_law_size" s__law_size ["_law_row", "_law_place"]
  d__law_right : DefAt K mg "_law_right" s__law_right ["_law_handed", "_law_row", "_law_place"]
  d__law_parts : DefAt K mg "_law_parts" s__law_parts ["_law_row"]
  d_law : DefAt K mg "law" s_law ["_law_script"]
  n_all : mg "all" = none
  n_bool : mg "bool" = none
  n_int : mg "int" = none
  n_isinstance : mg "isinstance" = none
  n_len : mg "len" = none
  n_list : mg "list" = none
  n_range : mg "range" = none
  n_str : mg "str" = none
  n_sum : mg "sum" = none
  x_Op : Addr
  x_Alone : Addr
  x_Small : Addr
  x_Push : Addr
  m_Op : mg "Op" = some (.ref x_Op)
  m_Alone : mg "Alone" = some (.ref x_Alone)
  m_Small : mg "Small" = some (.ref x_Small)
  m_Push : mg "Push" = some (.ref x_Push)
  ocg_Alone : PySem.W.plainGet K x_Alone Str.empty = true
  och_Alone : PySem.W.hasDictIn K x_Alone = true
  oco_Alone : PySem.W.plainOver K x_Alone = true
  ocs_Alone : PySem.W.findIn K (.ref x_Alone) "__setattr__" = some (some (.builtin "object.__setattr__"))
  mk_Alone : PySem.W.makesIn K x_Alone = true
  kp_Alone : PySem.W.keepIn K (.ref x_Alone) = true
  oha_Alone : PySem.W.findIn K (.ref x_Alone) "__class__" = some (some (.builtin "object.__class__"))
  ohn_Alone : PySem.W.specialIn K (.builtin "object.__class__") "__get__" = some (some (.builtin "getset_descriptor.__get__"))
  oht_Alone : PySem.W.takesIn K (.builtin "object.__class__") = some true
  ohm_Alone : PySem.W.mroIn K x_Alone (.type "object") = some true
  kt_Alone_Op : PySem.W.kitOne K (.ref x_Alone) (.ref x_Op) = some true
  nf_Alone_spelled : PySem.W.findIn K (.ref x_Alone) "spelled" = some none
  ocg_Small : PySem.W.plainGet K x_Small Str.empty = true
  och_Small : PySem.W.hasDictIn K x_Small = true
  oco_Small : PySem.W.plainOver K x_Small = true
  ocs_Small : PySem.W.findIn K (.ref x_Small) "__setattr__" = some (some (.builtin "object.__setattr__"))
  mk_Small : PySem.W.makesIn K x_Small = true
  kp_Small : PySem.W.keepIn K (.ref x_Small) = true
  oha_Small : PySem.W.findIn K (.ref x_Small) "__class__" = some (some (.builtin "object.__class__"))
  ohn_Small : PySem.W.specialIn K (.builtin "object.__class__") "__get__" = some (some (.builtin "getset_descriptor.__get__"))
  oht_Small : PySem.W.takesIn K (.builtin "object.__class__") = some true
  ohm_Small : PySem.W.mroIn K x_Small (.type "object") = some true
  kt_Small_Op : PySem.W.kitOne K (.ref x_Small) (.ref x_Op) = some true
  nf_Small_number : PySem.W.findIn K (.ref x_Small) "number" = some none
  ocg_Push : PySem.W.plainGet K x_Push Str.empty = true
  och_Push : PySem.W.hasDictIn K x_Push = true
  oco_Push : PySem.W.plainOver K x_Push = true
  ocs_Push : PySem.W.findIn K (.ref x_Push) "__setattr__" = some (some (.builtin "object.__setattr__"))
  mk_Push : PySem.W.makesIn K x_Push = true
  kp_Push : PySem.W.keepIn K (.ref x_Push) = true
  oha_Push : PySem.W.findIn K (.ref x_Push) "__class__" = some (some (.builtin "object.__class__"))
  ohn_Push : PySem.W.specialIn K (.builtin "object.__class__") "__get__" = some (some (.builtin "getset_descriptor.__get__"))
  oht_Push : PySem.W.takesIn K (.builtin "object.__class__") = some true
  ohm_Push : PySem.W.mroIn K x_Push (.type "object") = some true
  kt_Push_Op : PySem.W.kitOne K (.ref x_Push) (.ref x_Op) = some true
  nf_Push_number : PySem.W.findIn K (.ref x_Push) "number" = some none
  d_Op_size : MethAt K x_Op "size" "Op.size" s_Op_size ["self"]
  d_Op_row : MethAt K x_Op "row" "Op.row" s_Op_row ["self"]
  d_Op_told : MethAt K x_Op "told" "Op.told" s_Op_told ["self"]
  d_Op_goal : MethAt K x_Op "goal" "Op.goal" s_Op_goal ["self"]
  d_Alone___init__ : MethAt K x_Alone "__init__" "Alone.__init__" s_Alone___init__ ["self", "word"]
  d_Alone_word : MethAt K x_Alone "word" "Alone.word" s_Alone_word ["self"]
  d_Small___init__ : MethAt K x_Small "__init__" "Small.__init__" s_Small___init__ ["self", "number"]
  d_Small_word : MethAt K x_Small "word" "Small.word" s_Small_word ["self"]
  d_Small_row : MethAt K x_Small "row" "Small.row" s_Small_row ["self"]
  d_Small_told : MethAt K x_Small "told" "Small.told" s_Small_told ["self"]
  d_Push___init__ : MethAt K x_Push "__init__" "Push.__init__" s_Push___init__ ["self", "number"]
  d_Push_word : MethAt K x_Push "word" "Push.word" s_Push_word ["self"]
  d_Push_row : MethAt K x_Push "row" "Push.row" s_Push_row ["self"]
  d_Push_told : MethAt K x_Push "told" "Push.told" s_Push_told ["self"]
  x_OPS : Addr
  c_OPS : ∃ u, mg "OPS" = some u ∧ RelV (.ref x_OPS) u
  tb_OPS : KTab K x_OPS opsT
  at_Alone_size : PySem.W.findIn K (.ref x_Alone) "size" = some (some (.ref d_Op_size.f))
  at_Alone_row : PySem.W.findIn K (.ref x_Alone) "row" = some (some (.ref d_Op_row.f))
  at_Alone_told : PySem.W.findIn K (.ref x_Alone) "told" = some (some (.ref d_Op_told.f))
  at_Alone_goal : PySem.W.findIn K (.ref x_Alone) "goal" = some (some (.ref d_Op_goal.f))
  at_Small_size : PySem.W.findIn K (.ref x_Small) "size" = some (some (.ref d_Op_size.f))
  at_Small_goal : PySem.W.findIn K (.ref x_Small) "goal" = some (some (.ref d_Op_goal.f))
  at_Push_size : PySem.W.findIn K (.ref x_Push) "size" = some (some (.ref d_Op_size.f))
  at_Push_goal : PySem.W.findIn K (.ref x_Push) "goal" = some (some (.ref d_Op_goal.f))
theorem Txt.oc_Alone {K : PySem.W.Frag} {mg : Str → Option Value} (T : Txt K mg) : Cls K T.x_Alone := ⟨T.ocg_Alone, T.och_Alone, T.oco_Alone, T.ocs_Alone⟩
theorem Txt.oc_Small {K : PySem.W.Frag} {mg : Str → Option Value} (T : Txt K mg) : Cls K T.x_Small := ⟨T.ocg_Small, T.och_Small, T.oco_Small, T.ocs_Small⟩
theorem Txt.oc_Push {K : PySem.W.Frag} {mg : Str → Option Value} (T : Txt K mg) : Cls K T.x_Push := ⟨T.ocg_Push, T.och_Push, T.oco_Push, T.ocs_Push⟩

noncomputable def OpAt {K : PySem.W.Frag} {mg : Str → Option Value} (T : Txt K mg) (p : Addr) (H : Hp) : OpD → Prop
  | .al i => ∃ dx, H p = some (.ins T.x_Alone dx (putF "spelled" (.str (OpD.al i).word) []))
  | .sm n => ∃ dx, H p = some (.ins T.x_Small dx (putF "number" (.int n) []))
  | .pu n => ∃ dx, H p = some (.ins T.x_Push dx (putF "number" (.int n) []))
  | _ => False
theorem OpAt.same {K : PySem.W.Frag} {mg : Str → Option Value} {T : Txt K mg} {p : Addr} {H H' : Hp} {o : OpD} (h : OpAt T p H o) (S : Same H H') : OpAt T p H' o := by
  cases o with
  | al i => obtain ⟨dx, e⟩ := h; exact ⟨dx, S _ _ e⟩
  | sm i => obtain ⟨dx, e⟩ := h; exact ⟨dx, S _ _ e⟩
  | pu i => obtain ⟨dx, e⟩ := h; exact ⟨dx, S _ _ e⟩
  | ne i z => exact h
  | fa i z => exact h
theorem Txt.ty_Alone {K : PySem.W.Frag} {mg : Str → Option Value} (T : Txt K mg) {H : Hp} {p dx : Addr} {fs : List (Str × V)} (h : H p = some (.ins T.x_Alone dx fs)) : TyOf K H (.ref p) (.ref T.x_Alone) := .ins h T.oc_Alone T.oha_Alone T.ohn_Alone T.oht_Alone T.ohm_Alone
theorem Txt.ty_Small {K : PySem.W.Frag} {mg : Str → Option Value} (T : Txt K mg) {H : Hp} {p dx : Addr} {fs : List (Str × V)} (h : H p = some (.ins T.x_Small dx fs)) : TyOf K H (.ref p) (.ref T.x_Small) := .ins h T.oc_Small T.oha_Small T.ohn_Small T.oht_Small T.ohm_Small
theorem Txt.ty_Push {K : PySem.W.Frag} {mg : Str → Option Value} (T : Txt K mg) {H : Hp} {p dx : Addr} {fs : List (Str × V)} (h : H p = some (.ins T.x_Push dx fs)) : TyOf K H (.ref p) (.ref T.x_Push) := .ins h T.oc_Push T.oha_Push T.ohn_Push T.oht_Push T.ohm_Push
theorem Txt.isiO {K : PySem.W.Frag} {mg : Str → Option Value} (T : Txt K mg) {p : Addr} {H : Hp} {o : OpD} (h : OpAt T p H o) : ∃ C, TyOf K H (.ref p) (.ref C) ∧ PySem.W.kitOne K (.ref C) (.ref T.x_Op) = some true := by
  cases o with
  | al i => obtain ⟨dx, e⟩ := h; exact ⟨_, T.ty_Alone e, T.kt_Alone_Op⟩
  | sm i => obtain ⟨dx, e⟩ := h; exact ⟨_, T.ty_Small e, T.kt_Small_Op⟩
  | pu i => obtain ⟨dx, e⟩ := h; exact ⟨_, T.ty_Push e, T.kt_Push_Op⟩
  | ne i z => exact h.elim
  | fa i z => exact h.elim

end K07
namespace K07
open PySem L2
seal L2.PA L2.PE L2.PS L2.PSs L2.PT L2.PW L2.PI L2.PG L2.PGs L2.PIf L2.PO L2.OpR L2.UnR L2.CallR L2.IxR L2.MtR L2.SlR L2.PSet L2.PEX L2.PIC L2.PPs
section
variable {P : Program} {w : World} {K : PySem.W.Frag} {mg : Str → Option Value} {base : Heap}
noncomputable def sp_two_of : Sp := fun vs H Q E => ∃ n, vs = [.int n] ∧ ∀ l, H l = none → Q (.ref l) (upd H l (.lst [.int (n / 256), .int (n % 256)]))
theorem sc_two_of : FnScope ["number"] ["number"] (defScope s_two_of) := ⟨rfl, rfl, rfl, by decide +kernel, rfl, by decide +kernel, by decide +kernel⟩
theorem ok_two_of (T : Txt K mg) : FnOk P w K mg base CX0 1 T.d_two_of.f T.d_two_of.fd ["number"] (sp_two_of) := by
  have nd := sc_two_of.nd
  refine T.d_two_of.F.ok sc_two_of (fun vs H Q E h => ?_) (fun cdv A outer s H vs Q E hr h => ?_)
  · obtain ⟨n, rfl, q⟩ := h
    rfl
  · obtain ⟨n, rfl, q⟩ := h
    have hu := hr.units0
    refine ⟨_, (pss_one (ps_ret (pe_lst (pa1 (pe_op op_fdiv (pv 0) pe_int) (pa1 (pe_op op_mod (pv 0) pe_int) pa_nil))))), ?_⟩
    rw [show start ["number"] [V.int n] = [some (V.int n)] from rfl]
    simp only [tSeq, tIfS, tRet, tRetN, tC, tVar, tOp, tUn, tTest, tB, tAnd, tOr, tNot, tAndV, tOrV, tNotV, tIf, tChain, tCons, tNil, tCall, tCB, tLst, tTup, tSl, tNoPart, tPart, gName, tNext, tDrop, tAsg, tAsgC, tBM, tYes, tDNewK, rI, rI0, rU, rEq, rNe, rAbs, rIntT, CDiv, add_ii, add_ss, mul_ii, mul_si, ix_si, eq_ii, eq_ss, eq_bb, ne_ii, ne_ss, ne_ni, ne_in, in_s1, notin_s1, is_xn, is_bb, isnot_xn, isnot_bb, sl_s, len_s, find_ss, index_ss, List.append_nil, List.cons_append, List.nil_append, List.getElem?_cons_succ, List.getElem?_cons_zero, List.set_cons_succ, List.set_cons_zero, Option.some.injEq, V.int.injEq, V.bl.injEq, V.str.injEq, V.ref.injEq, V.ty.injEq, List.cons.injEq, and_true, true_and, exists_eq_left, exists_eq_left', exists_and_left, exists_eq', exists_const, exists_and_right, exists_eq_right, exists_eq_right', reduceCtorEq, false_and, and_false, exists_false, or_false, false_or, decide_eq_true_eq, Bool.not_eq_true', decide_eq_false_iff_not, Bool.false_eq_true, if_false, if_true, mk_app, mk_len, sg_mk, mk_one, decide_true, decide_false, Bool.not_true, Bool.not_false, ite_true, ite_false, not_true_eq_false, not_false_eq_true, cxK, cutTo1, cutFrom1, mk_iff, tyV_str, stComp, List.map_cons, List.map_nil, Option.join_some, Option.join_none, gt_iff_lt, ge_iff_le, tRaise, tTryR, tCallH, tDisp, tPairs, tFld, sFld, tMake, tMeth, tBM0, tOrE, tRev, tLRng, l_e, l_b]
    exact ⟨⟨by decide, by decide⟩, by decide, by show 2 ≤ sizeLine; exact sl1000 (by decide), q⟩
noncomputable def sp_word_in (K : PySem.W.Frag) : Sp := fun vs H Q E => ∃ a xs p u v, vs = [.ref a, .int p] ∧ SqL K H a xs ∧ atI xs p = some (.int u) ∧ atI xs (p + 1) = some (.int v) ∧ Q (.int (u * 256 + v)) H
theorem sc_word_in : FnScope ["row", "place"] ["row", "place"] (defScope s_word_in) := ⟨rfl, rfl, rfl, by decide +kernel, rfl, by decide +kernel, by decide +kernel⟩
theorem ok_word_in (T : Txt K mg) : FnOk P w K mg base CX0 1 T.d_word_in.f T.d_word_in.fd ["row", "place"] (sp_word_in K) := by
  have nd := sc_word_in.nd
  refine T.d_word_in.F.ok sc_word_in (fun vs H Q E h => ?_) (fun cdv A outer s H vs Q E hr h => ?_)
  · obtain ⟨a, xs, p, u, v, rfl, hq, e1, e2, q⟩ := h
    rfl
  · obtain ⟨a, xs, p, u, v, rfl, hq, e1, e2, q⟩ := h
    have hu := hr.units0
    refine ⟨_, (pss_one (ps_ret (pe_op o_add (pe_op o_mul (pe_ix (o_ix (K := K)) (pv 0) (pv 1) (fun _ _ => rfl)) pe_int) (pe_ix (o_ix (K := K)) (pv 0) (pe_op o_add (pv 1) pe_int) (fun _ _ => rfl))))), ?_⟩
    rw [show start ["row", "place"] [V.ref a, V.int p] = [some (V.ref a), some (V.int p)] from rfl]
    simp only [tSeq, tIfS, tRet, tRetN, tC, tVar, tOp, tUn, tTest, tB, tAnd, tOr, tNot, tAndV, tOrV, tNotV, tIf, tChain, tCons, tNil, tCall, tCB, tLst, tTup, tSl, tNoPart, tPart, gName, tNext, tDrop, tAsg, tAsgC, tBM, tYes, tDNewK, rI, rI0, rU, rEq, rNe, rAbs, rIntT, CDiv, add_ii, add_ss, mul_ii, mul_si, ix_si, eq_ii, eq_ss, eq_bb, ne_ii, ne_ss, ne_ni, ne_in, in_s1, notin_s1, is_xn, is_bb, isnot_xn, isnot_bb, sl_s, len_s, find_ss, index_ss, List.append_nil, List.cons_append, List.nil_append, List.getElem?_cons_succ, List.getElem?_cons_zero, List.set_cons_succ, List.set_cons_zero, Option.some.injEq, V.int.injEq, V.bl.injEq, V.str.injEq, V.ref.injEq, V.ty.injEq, List.cons.injEq, and_true, true_and, exists_eq_left, exists_eq_left', exists_and_left, exists_eq', exists_const, exists_and_right, exists_eq_right, exists_eq_right', reduceCtorEq, false_and, and_false, exists_false, or_false, false_or, decide_eq_true_eq, Bool.not_eq_true', decide_eq_false_iff_not, Bool.false_eq_true, if_false, if_true, mk_app, mk_len, sg_mk, mk_one, decide_true, decide_false, Bool.not_true, Bool.not_false, ite_true, ite_false, not_true_eq_false, not_false_eq_true, cxK, cutTo1, cutFrom1, mk_iff, tyV_str, stComp, List.map_cons, List.map_nil, Option.join_some, Option.join_none, gt_iff_lt, ge_iff_le, tRaise, tTryR, tCallH, tDisp, tPairs, tFld, sFld, tMake, tMeth, tBM0, tOrE, tRev, tLRng, l_e, l_b]
    refine ixL hq e1 ?_
    simp only [tSeq, tIfS, tRet, tRetN, tC, tVar, tOp, tUn, tTest, tB, tAnd, tOr, tNot, tAndV, tOrV, tNotV, tIf, tChain, tCons, tNil, tCall, tCB, tLst, tTup, tSl, tNoPart, tPart, gName, tNext, tDrop, tAsg, tAsgC, tBM, tYes, tDNewK, rI, rI0, rU, rEq, rNe, rAbs, rIntT, CDiv, add_ii, add_ss, mul_ii, mul_si, ix_si, eq_ii, eq_ss, eq_bb, ne_ii, ne_ss, ne_ni, ne_in, in_s1, notin_s1, is_xn, is_bb, isnot_xn, isnot_bb, sl_s, len_s, find_ss, index_ss, List.append_nil, List.cons_append, List.nil_append, List.getElem?_cons_succ, List.getElem?_cons_zero, List.set_cons_succ, List.set_cons_zero, Option.some.injEq, V.int.injEq, V.bl.injEq, V.str.injEq, V.ref.injEq, V.ty.injEq, List.cons.injEq, and_true, true_and, exists_eq_left, exists_eq_left', exists_and_left, exists_eq', exists_const, exists_and_right, exists_eq_right, exists_eq_right', reduceCtorEq, false_and, and_false, exists_false, or_false, false_or, decide_eq_true_eq, Bool.not_eq_true', decide_eq_false_iff_not, Bool.false_eq_true, if_false, if_true, mk_app, mk_len, sg_mk, mk_one, decide_true, decide_false, Bool.not_true, Bool.not_false, ite_true, ite_false, not_true_eq_false, not_false_eq_true, cxK, cutTo1, cutFrom1, mk_iff, tyV_str, stComp, List.map_cons, List.map_nil, Option.join_some, Option.join_none, gt_iff_lt, ge_iff_le, tRaise, tTryR, tCallH, tDisp, tPairs, tFld, sFld, tMake, tMeth, tBM0, tOrE, tRev, tLRng, l_e, l_b]
    refine ⟨.inr ⟨by decide, by decide⟩, ixL hq e2 ?_⟩
    simp only [tSeq, tIfS, tRet, tRetN, tC, tVar, tOp, tUn, tTest, tB, tAnd, tOr, tNot, tAndV, tOrV, tNotV, tIf, tChain, tCons, tNil, tCall, tCB, tLst, tTup, tSl, tNoPart, tPart, gName, tNext, tDrop, tAsg, tAsgC, tBM, tYes, tDNewK, rI, rI0, rU, rEq, rNe, rAbs, rIntT, CDiv, add_ii, add_ss, mul_ii, mul_si, ix_si, eq_ii, eq_ss, eq_bb, ne_ii, ne_ss, ne_ni, ne_in, in_s1, notin_s1, is_xn, is_bb, isnot_xn, isnot_bb, sl_s, len_s, find_ss, index_ss, List.append_nil, List.cons_append, List.nil_append, List.getElem?_cons_succ, List.getElem?_cons_zero, List.set_cons_succ, List.set_cons_zero, Option.some.injEq, V.int.injEq, V.bl.injEq, V.str.injEq, V.ref.injEq, V.ty.injEq, List.cons.injEq, and_true, true_and, exists_eq_left, exists_eq_left', exists_and_left, exists_eq', exists_const, exists_and_right, exists_eq_right, exists_eq_right', reduceCtorEq, false_and, and_false, exists_false, or_false, false_or, decide_eq_true_eq, Bool.not_eq_true', decide_eq_false_iff_not, Bool.false_eq_true, if_false, if_true, mk_app, mk_len, sg_mk, mk_one, decide_true, decide_false, Bool.not_true, Bool.not_false, ite_true, ite_false, not_true_eq_false, not_false_eq_true, cxK, cutTo1, cutFrom1, mk_iff, tyV_str, stComp, List.map_cons, List.map_nil, Option.join_some, Option.join_none, gt_iff_lt, ge_iff_le, tRaise, tTryR, tCallH, tDisp, tPairs, tFld, sFld, tMake, tMeth, tBM0, tOrE, tRev, tLRng, l_e, l_b]
    exact q
noncomputable def sp_byte_of (T : Txt K mg) : Sp := fun vs H Q E => ∃ (w : Str) (i : Nat) (p : Int × Str × Int × Str), vs = [.str w] ∧ opsR[i]? = some p ∧ p.2.1 = w ∧ Q (.int p.1) H
theorem sc_byte_of : FnScope ["word", "byte"] ["word"] (defScope s_byte_of) := ⟨rfl, rfl, rfl, by decide +kernel, rfl, by decide +kernel, by decide +kernel⟩
theorem ok_byte_of (T : Txt K mg) : FnOk P w K mg base CX0 1 T.d_byte_of.f T.d_byte_of.fd ["word"] (sp_byte_of T) := by
  have nd := sc_byte_of.nd
  refine T.d_byte_of.F.ok sc_byte_of (fun vs H Q E h => ?_) (fun cdv A outer s H vs Q E hr h => ?_)
  · obtain ⟨w, i, p, rfl, hi, hw, q⟩ := h
    rfl
  · obtain ⟨w, i, p, rfl, hi, hw, q⟩ := h
    have hu := hr.units0
    refine ⟨_, (pss_cons (ps_for PassesOwn.never rfl (pi_tabK (K := K) (pe_gl rfl T.c_OPS)) (pg_name (i := 1) nd rfl (Or.inl rfl))
        (pss_one (ps_if (pt_cmpR (o_eq (K := K) hu) (pe_ix (o_ix (K := K)) (pe_ix (o_ixTab (K := K)) (pe_gl rfl T.c_OPS) (pv 1) (fun _ _ => rfl)) pe_int (fun _ _ => rfl)) (pv 0) (nomark _)) (pss_one (ps_ret (pv 1))) pss_nil)))
      (pss_one (ps_ret pe_non))), ?_⟩
    rw [show start ["word", "byte"] [V.str w] = [some (V.str w), none] from rfl]
    simp only [tSeq, tIfS, tRet, tRetN, tC, tVar, tOp, tUn, tTest, tB, tAnd, tOr, tNot, tAndV, tOrV, tNotV, tIf, tChain, tCons, tNil, tCall, tCB, tLst, tTup, tSl, tNoPart, tPart, gName, tNext, tDrop, tAsg, tAsgC, tBM, tYes, tDNewK, rI, rI0, rU, rEq, rNe, rAbs, rIntT, CDiv, add_ii, add_ss, mul_ii, mul_si, ix_si, eq_ii, eq_ss, eq_bb, ne_ii, ne_ss, ne_ni, ne_in, in_s1, notin_s1, is_xn, is_bb, isnot_xn, isnot_bb, sl_s, len_s, find_ss, index_ss, List.append_nil, List.cons_append, List.nil_append, List.getElem?_cons_succ, List.getElem?_cons_zero, List.set_cons_succ, List.set_cons_zero, Option.some.injEq, V.int.injEq, V.bl.injEq, V.str.injEq, V.ref.injEq, V.ty.injEq, List.cons.injEq, and_true, true_and, exists_eq_left, exists_eq_left', exists_and_left, exists_eq', exists_const, exists_and_right, exists_eq_right, exists_eq_right', reduceCtorEq, false_and, and_false, exists_false, or_false, false_or, decide_eq_true_eq, Bool.not_eq_true', decide_eq_false_iff_not, Bool.false_eq_true, if_false, if_true, mk_app, mk_len, sg_mk, mk_one, decide_true, decide_false, Bool.not_true, Bool.not_false, ite_true, ite_false, not_true_eq_false, not_false_eq_true, cxK, cutTo1, cutFrom1, mk_iff, tyV_str, stComp, List.map_cons, List.map_nil, Option.join_some, Option.join_none, gt_iff_lt, ge_iff_le, tRaise, tTryR, tCallH, tDisp, tPairs, tFld, sFld, tMake, tMeth, tBM0, tOrE, tRev, tLRng, l_e, l_b]
    refine tfor_tab (a := T.x_OPS) (tbl := opsT) (fun R r => r) T.tb_OPS (fun j σ H' => H' = H ∧ j ≤ i ∧ ∃ v1, σ = [some (V.str w), v1]) ⟨rfl, Nat.zero_le _, none, rfl⟩ ?_ ?_
    · rintro j x σ H' hx ⟨rfl, hj, v1, rfl⟩
      rw [opsT, List.map_map, List.getElem?_map] at hx
      cases e : opsR[j]? with
      | none => rw [e] at hx; cases hx
      | some p' =>
        rw [e] at hx
        cases hx
        simp only [tSeq, tIfS, tRet, tRetN, tC, tVar, tOp, tUn, tTest, tB, tAnd, tOr, tNot, tAndV, tOrV, tNotV, tIf, tChain, tCons, tNil, tCall, tCB, tLst, tTup, tSl, tNoPart, tPart, gName, tNext, tDrop, tAsg, tAsgC, tBM, tYes, tDNewK, rI, rI0, rU, rEq, rNe, rAbs, rIntT, CDiv, add_ii, add_ss, mul_ii, mul_si, ix_si, eq_ii, eq_ss, eq_bb, ne_ii, ne_ss, ne_ni, ne_in, in_s1, notin_s1, is_xn, is_bb, isnot_xn, isnot_bb, sl_s, len_s, find_ss, index_ss, List.append_nil, List.cons_append, List.nil_append, List.getElem?_cons_succ, List.getElem?_cons_zero, List.set_cons_succ, List.set_cons_zero, Option.some.injEq, V.int.injEq, V.bl.injEq, V.str.injEq, V.ref.injEq, V.ty.injEq, List.cons.injEq, and_true, true_and, exists_eq_left, exists_eq_left', exists_and_left, exists_eq', exists_const, exists_and_right, exists_eq_right, exists_eq_right', reduceCtorEq, false_and, and_false, exists_false, or_false, false_or, decide_eq_true_eq, Bool.not_eq_true', decide_eq_false_iff_not, Bool.false_eq_true, if_false, if_true, mk_app, mk_len, sg_mk, mk_one, decide_true, decide_false, Bool.not_true, Bool.not_false, ite_true, ite_false, not_true_eq_false, not_false_eq_true, cxK, cutTo1, cutFrom1, mk_iff, tyV_str, stComp, List.map_cons, List.map_nil, Option.join_some, Option.join_none, gt_iff_lt, ge_iff_le, tRaise, tTryR, tCallH, tDisp, tPairs, tFld, sFld, tMake, tMeth, tBM0, tOrE, tRev, tLRng, l_e, l_b]
        refine ⟨_, opsT, j, p'.1, [V.str p'.2.1, V.int p'.2.2.1, V.str p'.2.2.2], rfl, rfl, T.tb_OPS, by simp [opsT, e], fun b kb => ixT kb.sq (atIn (by decide) rfl) ?_⟩
        simp only [tSeq, tIfS, tRet, tRetN, tC, tVar, tOp, tUn, tTest, tB, tAnd, tOr, tNot, tAndV, tOrV, tNotV, tIf, tChain, tCons, tNil, tCall, tCB, tLst, tTup, tSl, tNoPart, tPart, gName, tNext, tDrop, tAsg, tAsgC, tBM, tYes, tDNewK, rI, rI0, rU, rEq, rNe, rAbs, rIntT, CDiv, add_ii, add_ss, mul_ii, mul_si, ix_si, eq_ii, eq_ss, eq_bb, ne_ii, ne_ss, ne_ni, ne_in, in_s1, notin_s1, is_xn, is_bb, isnot_xn, isnot_bb, sl_s, len_s, find_ss, index_ss, List.append_nil, List.cons_append, List.nil_append, List.getElem?_cons_succ, List.getElem?_cons_zero, List.set_cons_succ, List.set_cons_zero, Option.some.injEq, V.int.injEq, V.bl.injEq, V.str.injEq, V.ref.injEq, V.ty.injEq, List.cons.injEq, and_true, true_and, exists_eq_left, exists_eq_left', exists_and_left, exists_eq', exists_const, exists_and_right, exists_eq_right, exists_eq_right', reduceCtorEq, false_and, and_false, exists_false, or_false, false_or, decide_eq_true_eq, Bool.not_eq_true', decide_eq_false_iff_not, Bool.false_eq_true, if_false, if_true, mk_app, mk_len, sg_mk, mk_one, decide_true, decide_false, Bool.not_true, Bool.not_false, ite_true, ite_false, not_true_eq_false, not_false_eq_true, cxK, cutTo1, cutFrom1, mk_iff, tyV_str, stComp, List.map_cons, List.map_nil, Option.join_some, Option.join_none, gt_iff_lt, ge_iff_le, tRaise, tTryR, tCallH, tDisp, tPairs, tFld, sFld, tMake, tMeth, tBM0, tOrE, tRev, tLRng, l_e, l_b]
        by_cases h : p'.2.1 = w
        · have ij := ops_same e hi (h.trans hw.symm)
          subst ij
          rw [e] at hi
          cases hi
          rw [if_pos h]
          exact q
        · rw [if_neg h]
          rcases Nat.lt_or_ge j i with z | z
          · exact z
          · exfalso
            have : j = i := by omega
            subst this
            rw [e] at hi
            cases hi
            exact h hw
    rintro σ H' ⟨rfl, hj, v1, rfl⟩
    have : i < opsR.length := (List.getElem?_eq_some_iff.mp hi).1
    rw [opsT, List.length_map] at hj
    omega
noncomputable def sp_Alone_word (T : Txt K mg) : Sp := fun vs H Q E => ∃ (p dx : Addr) (w : Str), vs = [.ref p] ∧ H p = some (.ins T.x_Alone dx (putF "spelled" (.str w) [])) ∧ Q (.str w) H
theorem sc_Alone_word : FnScope ["self"] ["self"] (defScope s_Alone_word) := ⟨rfl, rfl, rfl, by decide +kernel, rfl, by decide +kernel, by decide +kernel⟩
theorem ok_Alone_word (T : Txt K mg) : FnOk P w K mg base CX0 1 T.d_Alone_word.f T.d_Alone_word.fd ["self"] (sp_Alone_word T) := by
  have nd := sc_Alone_word.nd
  refine T.d_Alone_word.F.ok sc_Alone_word (fun vs H Q E h => ?_) (fun cdv A outer s H vs Q E hr h => ?_)
  · obtain ⟨p, dx, w, rfl, hp, q⟩ := h
    rfl
  · obtain ⟨p, dx, w, rfl, hp, q⟩ := h
    have hu := hr.units0
    refine ⟨_, (pss_one (ps_ret (pe_fldK (K := K) (pv 0)))), ?_⟩
    rw [show start ["self"] [V.ref p] = [some (V.ref p)] from rfl]
    simp only [tSeq, tIfS, tRet, tRetN, tC, tVar, tOp, tUn, tTest, tB, tAnd, tOr, tNot, tAndV, tOrV, tNotV, tIf, tChain, tCons, tNil, tCall, tCB, tLst, tTup, tSl, tNoPart, tPart, gName, tNext, tDrop, tAsg, tAsgC, tBM, tYes, tDNewK, rI, rI0, rU, rEq, rNe, rAbs, rIntT, CDiv, add_ii, add_ss, mul_ii, mul_si, ix_si, eq_ii, eq_ss, eq_bb, ne_ii, ne_ss, ne_ni, ne_in, in_s1, notin_s1, is_xn, is_bb, isnot_xn, isnot_bb, sl_s, len_s, find_ss, index_ss, List.append_nil, List.cons_append, List.nil_append, List.getElem?_cons_succ, List.getElem?_cons_zero, List.set_cons_succ, List.set_cons_zero, Option.some.injEq, V.int.injEq, V.bl.injEq, V.str.injEq, V.ref.injEq, V.ty.injEq, List.cons.injEq, and_true, true_and, exists_eq_left, exists_eq_left', exists_and_left, exists_eq', exists_const, exists_and_right, exists_eq_right, exists_eq_right', reduceCtorEq, false_and, and_false, exists_false, or_false, false_or, decide_eq_true_eq, Bool.not_eq_true', decide_eq_false_iff_not, Bool.false_eq_true, if_false, if_true, mk_app, mk_len, sg_mk, mk_one, decide_true, decide_false, Bool.not_true, Bool.not_false, ite_true, ite_false, not_true_eq_false, not_false_eq_true, cxK, cutTo1, cutFrom1, mk_iff, tyV_str, stComp, List.map_cons, List.map_nil, Option.join_some, Option.join_none, gt_iff_lt, ge_iff_le, tRaise, tTryR, tCallH, tDisp, tPairs, tFld, sFld, tMake, tMeth, tBM0, tOrE, tRev, tLRng, l_e, l_b]
    exact ⟨_, dx, _, hp, T.oc_Alone, T.nf_Alone_spelled, _, f1_at _ _, q⟩
noncomputable def sp_Op_told (T : Txt K mg) : Sp := fun vs H Q E => ∃ (p dx : Addr) (i : Nat), vs = [.ref p] ∧ i < 18 ∧ H p = some (.ins T.x_Alone dx (putF "spelled" (.str (alW.getD i (mkS []))) [])) ∧ ∀ l H', H l = none → Same H H' → H' l = some (.lst ([.int (16 + (i : Int))])) → Q (.ref l) H'
theorem sc_Op_told : FnScope ["self"] ["self"] (defScope s_Op_told) := ⟨rfl, rfl, rfl, by decide +kernel, rfl, by decide +kernel, by decide +kernel⟩
theorem ok_Op_told (T : Txt K mg) : FnOk P w K mg base CX0 2 T.d_Op_told.f T.d_Op_told.fd ["self"] (sp_Op_told T) := by
  have nd := sc_Op_told.nd
  refine T.d_Op_told.F.ok sc_Op_told (fun vs H Q E h => ?_) (fun cdv A outer s H vs Q E hr h => ?_)
  · obtain ⟨p, dx, i, rfl, hi, hp, q⟩ := h
    rfl
  · obtain ⟨p, dx, i, rfl, hi, hp, q⟩ := h
    have hu := hr.units0
    refine ⟨_, (pss_one (ps_ret (pe_lst (pa1 (pc1 T.d_byte_of (ok_byte_of T) (hr.mono (by decide)) (pa1 (pmt0 (pv 0) T.oc_Alone T.d_Alone_word (ok_Alone_word T) (hr.mono (by decide))) pa_nil)) pa_nil)))), ?_⟩
    rw [show start ["self"] [V.ref p] = [some (V.ref p)] from rfl]
    simp only [tSeq, tIfS, tRet, tRetN, tC, tVar, tOp, tUn, tTest, tB, tAnd, tOr, tNot, tAndV, tOrV, tNotV, tIf, tChain, tCons, tNil, tCall, tCB, tLst, tTup, tSl, tNoPart, tPart, gName, tNext, tDrop, tAsg, tAsgC, tBM, tYes, tDNewK, rI, rI0, rU, rEq, rNe, rAbs, rIntT, CDiv, add_ii, add_ss, mul_ii, mul_si, ix_si, eq_ii, eq_ss, eq_bb, ne_ii, ne_ss, ne_ni, ne_in, in_s1, notin_s1, is_xn, is_bb, isnot_xn, isnot_bb, sl_s, len_s, find_ss, index_ss, List.append_nil, List.cons_append, List.nil_append, List.getElem?_cons_succ, List.getElem?_cons_zero, List.set_cons_succ, List.set_cons_zero, Option.some.injEq, V.int.injEq, V.bl.injEq, V.str.injEq, V.ref.injEq, V.ty.injEq, List.cons.injEq, and_true, true_and, exists_eq_left, exists_eq_left', exists_and_left, exists_eq', exists_const, exists_and_right, exists_eq_right, exists_eq_right', reduceCtorEq, false_and, and_false, exists_false, or_false, false_or, decide_eq_true_eq, Bool.not_eq_true', decide_eq_false_iff_not, Bool.false_eq_true, if_false, if_true, mk_app, mk_len, sg_mk, mk_one, decide_true, decide_false, Bool.not_true, Bool.not_false, ite_true, ite_false, not_true_eq_false, not_false_eq_true, cxK, cutTo1, cutFrom1, mk_iff, tyV_str, stComp, List.map_cons, List.map_nil, Option.join_some, Option.join_none, gt_iff_lt, ge_iff_le, tRaise, tTryR, tCallH, tDisp, tPairs, tFld, sFld, tMake, tMeth, tBM0, tOrE, tRev, tLRng, l_e, l_b]
    refine ⟨dx, _, hp, f1_no _ (by decide +kernel), p, dx, _, rfl, hp, _, i, _, rfl, r_al i hi, rfl, ?_⟩
    simp only [tSeq, tIfS, tRet, tRetN, tC, tVar, tOp, tUn, tTest, tB, tAnd, tOr, tNot, tAndV, tOrV, tNotV, tIf, tChain, tCons, tNil, tCall, tCB, tLst, tTup, tSl, tNoPart, tPart, gName, tNext, tDrop, tAsg, tAsgC, tBM, tYes, tDNewK, rI, rI0, rU, rEq, rNe, rAbs, rIntT, CDiv, add_ii, add_ss, mul_ii, mul_si, ix_si, eq_ii, eq_ss, eq_bb, ne_ii, ne_ss, ne_ni, ne_in, in_s1, notin_s1, is_xn, is_bb, isnot_xn, isnot_bb, sl_s, len_s, find_ss, index_ss, List.append_nil, List.cons_append, List.nil_append, List.getElem?_cons_succ, List.getElem?_cons_zero, List.set_cons_succ, List.set_cons_zero, Option.some.injEq, V.int.injEq, V.bl.injEq, V.str.injEq, V.ref.injEq, V.ty.injEq, List.cons.injEq, and_true, true_and, exists_eq_left, exists_eq_left', exists_and_left, exists_eq', exists_const, exists_and_right, exists_eq_right, exists_eq_right', reduceCtorEq, false_and, and_false, exists_false, or_false, false_or, decide_eq_true_eq, Bool.not_eq_true', decide_eq_false_iff_not, Bool.false_eq_true, if_false, if_true, mk_app, mk_len, sg_mk, mk_one, decide_true, decide_false, Bool.not_true, Bool.not_false, ite_true, ite_false, not_true_eq_false, not_false_eq_true, cxK, cutTo1, cutFrom1, mk_iff, tyV_str, stComp, List.map_cons, List.map_nil, Option.join_some, Option.join_none, gt_iff_lt, ge_iff_le, tRaise, tTryR, tCallH, tDisp, tPairs, tFld, sFld, tMake, tMeth, tBM0, tOrE, tRev, tLRng, l_e, l_b]
    exact ⟨sl1000 (by simp), fun l nl => q l _ nl (Same.upd (Same.refl H) nl) upd_same⟩
noncomputable def sp_Small_told (T : Txt K mg) : Sp := fun vs H Q E => ∃ (p dx : Addr) (n : Int), vs = [.ref p] ∧ H p = some (.ins T.x_Small dx (putF "number" (.int n) [])) ∧ ∀ l H', H l = none → Same H H' → H' l = some (.lst ([.int 48, .int n])) → Q (.ref l) H'
theorem sc_Small_told : FnScope ["self"] ["self"] (defScope s_Small_told) := ⟨rfl, rfl, rfl, by decide +kernel, rfl, by decide +kernel, by decide +kernel⟩
theorem ok_Small_told (T : Txt K mg) : FnOk P w K mg base CX0 2 T.d_Small_told.f T.d_Small_told.fd ["self"] (sp_Small_told T) := by
  have nd := sc_Small_told.nd
  refine T.d_Small_told.F.ok sc_Small_told (fun vs H Q E h => ?_) (fun cdv A outer s H vs Q E hr h => ?_)
  · obtain ⟨p, dx, n, rfl, hp, q⟩ := h
    rfl
  · obtain ⟨p, dx, n, rfl, hp, q⟩ := h
    have hu := hr.units0
    refine ⟨_, (pss_one (ps_ret (pe_lst (pa1 (pc1 T.d_byte_of (ok_byte_of T) (hr.mono (by decide)) (pa1 pe_str pa_nil)) (pa1 (pe_fldK (K := K) (pv 0)) pa_nil))))), ?_⟩
    rw [show start ["self"] [V.ref p] = [some (V.ref p)] from rfl]
    simp only [tSeq, tIfS, tRet, tRetN, tC, tVar, tOp, tUn, tTest, tB, tAnd, tOr, tNot, tAndV, tOrV, tNotV, tIf, tChain, tCons, tNil, tCall, tCB, tLst, tTup, tSl, tNoPart, tPart, gName, tNext, tDrop, tAsg, tAsgC, tBM, tYes, tDNewK, rI, rI0, rU, rEq, rNe, rAbs, rIntT, CDiv, add_ii, add_ss, mul_ii, mul_si, ix_si, eq_ii, eq_ss, eq_bb, ne_ii, ne_ss, ne_ni, ne_in, in_s1, notin_s1, is_xn, is_bb, isnot_xn, isnot_bb, sl_s, len_s, find_ss, index_ss, List.append_nil, List.cons_append, List.nil_append, List.getElem?_cons_succ, List.getElem?_cons_zero, List.set_cons_succ, List.set_cons_zero, Option.some.injEq, V.int.injEq, V.bl.injEq, V.str.injEq, V.ref.injEq, V.ty.injEq, List.cons.injEq, and_true, true_and, exists_eq_left, exists_eq_left', exists_and_left, exists_eq', exists_const, exists_and_right, exists_eq_right, exists_eq_right', reduceCtorEq, false_and, and_false, exists_false, or_false, false_or, decide_eq_true_eq, Bool.not_eq_true', decide_eq_false_iff_not, Bool.false_eq_true, if_false, if_true, mk_app, mk_len, sg_mk, mk_one, decide_true, decide_false, Bool.not_true, Bool.not_false, ite_true, ite_false, not_true_eq_false, not_false_eq_true, cxK, cutTo1, cutFrom1, mk_iff, tyV_str, stComp, List.map_cons, List.map_nil, Option.join_some, Option.join_none, gt_iff_lt, ge_iff_le, tRaise, tTryR, tCallH, tDisp, tPairs, tFld, sFld, tMake, tMeth, tBM0, tOrE, tRev, tLRng, l_e, l_b]
    refine ⟨_, 18, _, rfl, r_sm, rfl, ?_⟩
    simp only [tSeq, tIfS, tRet, tRetN, tC, tVar, tOp, tUn, tTest, tB, tAnd, tOr, tNot, tAndV, tOrV, tNotV, tIf, tChain, tCons, tNil, tCall, tCB, tLst, tTup, tSl, tNoPart, tPart, gName, tNext, tDrop, tAsg, tAsgC, tBM, tYes, tDNewK, rI, rI0, rU, rEq, rNe, rAbs, rIntT, CDiv, add_ii, add_ss, mul_ii, mul_si, ix_si, eq_ii, eq_ss, eq_bb, ne_ii, ne_ss, ne_ni, ne_in, in_s1, notin_s1, is_xn, is_bb, isnot_xn, isnot_bb, sl_s, len_s, find_ss, index_ss, List.append_nil, List.cons_append, List.nil_append, List.getElem?_cons_succ, List.getElem?_cons_zero, List.set_cons_succ, List.set_cons_zero, Option.some.injEq, V.int.injEq, V.bl.injEq, V.str.injEq, V.ref.injEq, V.ty.injEq, List.cons.injEq, and_true, true_and, exists_eq_left, exists_eq_left', exists_and_left, exists_eq', exists_const, exists_and_right, exists_eq_right, exists_eq_right', reduceCtorEq, false_and, and_false, exists_false, or_false, false_or, decide_eq_true_eq, Bool.not_eq_true', decide_eq_false_iff_not, Bool.false_eq_true, if_false, if_true, mk_app, mk_len, sg_mk, mk_one, decide_true, decide_false, Bool.not_true, Bool.not_false, ite_true, ite_false, not_true_eq_false, not_false_eq_true, cxK, cutTo1, cutFrom1, mk_iff, tyV_str, stComp, List.map_cons, List.map_nil, Option.join_some, Option.join_none, gt_iff_lt, ge_iff_le, tRaise, tTryR, tCallH, tDisp, tPairs, tFld, sFld, tMake, tMeth, tBM0, tOrE, tRev, tLRng, l_e, l_b]
    exact ⟨_, dx, _, hp, T.oc_Small, T.nf_Small_number, _, f1_at _ _, sl1000 (by simp), fun l nl => q l _ nl (Same.upd (Same.refl H) nl) upd_same⟩
noncomputable def sp_Push_told (T : Txt K mg) : Sp := fun vs H Q E => ∃ (p dx : Addr) (n : Int), vs = [.ref p] ∧ H p = some (.ins T.x_Push dx (putF "number" (.int n) [])) ∧ ∀ l H', H l = none → Same H H' → H' l = some (.lst ([.int 49, .int (n / 256), .int (n % 256)])) → Q (.ref l) H'
theorem sc_Push_told : FnScope ["self"] ["self"] (defScope s_Push_told) := ⟨rfl, rfl, rfl, by decide +kernel, rfl, by decide +kernel, by decide +kernel⟩
theorem ok_Push_told (T : Txt K mg) : FnOk P w K mg base CX0 2 T.d_Push_told.f T.d_Push_told.fd ["self"] (sp_Push_told T) := by
  have nd := sc_Push_told.nd
  refine T.d_Push_told.F.ok sc_Push_told (fun vs H Q E h => ?_) (fun cdv A outer s H vs Q E hr h => ?_)
  · obtain ⟨p, dx, n, rfl, hp, q⟩ := h
    rfl
  · obtain ⟨p, dx, n, rfl, hp, q⟩ := h
    have hu := hr.units0
    refine ⟨_, (pss_one (ps_ret (pe_op o_add (pe_lst (pa1 (pc1 T.d_byte_of (ok_byte_of T) (hr.mono (by decide)) (pa1 pe_str pa_nil)) pa_nil)) (pc1 T.d_two_of (ok_two_of T) (hr.mono (by decide)) (pa1 (pe_fldK (K := K) (pv 0)) pa_nil))))), ?_⟩
    rw [show start ["self"] [V.ref p] = [some (V.ref p)] from rfl]
    simp only [tSeq, tIfS, tRet, tRetN, tC, tVar, tOp, tUn, tTest, tB, tAnd, tOr, tNot, tAndV, tOrV, tNotV, tIf, tChain, tCons, tNil, tCall, tCB, tLst, tTup, tSl, tNoPart, tPart, gName, tNext, tDrop, tAsg, tAsgC, tBM, tYes, tDNewK, rI, rI0, rU, rEq, rNe, rAbs, rIntT, CDiv, add_ii, add_ss, mul_ii, mul_si, ix_si, eq_ii, eq_ss, eq_bb, ne_ii, ne_ss, ne_ni, ne_in, in_s1, notin_s1, is_xn, is_bb, isnot_xn, isnot_bb, sl_s, len_s, find_ss, index_ss, List.append_nil, List.cons_append, List.nil_append, List.getElem?_cons_succ, List.getElem?_cons_zero, List.set_cons_succ, List.set_cons_zero, Option.some.injEq, V.int.injEq, V.bl.injEq, V.str.injEq, V.ref.injEq, V.ty.injEq, List.cons.injEq, and_true, true_and, exists_eq_left, exists_eq_left', exists_and_left, exists_eq', exists_const, exists_and_right, exists_eq_right, exists_eq_right', reduceCtorEq, false_and, and_false, exists_false, or_false, false_or, decide_eq_true_eq, Bool.not_eq_true', decide_eq_false_iff_not, Bool.false_eq_true, if_false, if_true, mk_app, mk_len, sg_mk, mk_one, decide_true, decide_false, Bool.not_true, Bool.not_false, ite_true, ite_false, not_true_eq_false, not_false_eq_true, cxK, cutTo1, cutFrom1, mk_iff, tyV_str, stComp, List.map_cons, List.map_nil, Option.join_some, Option.join_none, gt_iff_lt, ge_iff_le, tRaise, tTryR, tCallH, tDisp, tPairs, tFld, sFld, tMake, tMeth, tBM0, tOrE, tRev, tLRng, l_e, l_b]
    refine ⟨_, 19, _, rfl, r_pu, rfl, ?_⟩
    simp only [tSeq, tIfS, tRet, tRetN, tC, tVar, tOp, tUn, tTest, tB, tAnd, tOr, tNot, tAndV, tOrV, tNotV, tIf, tChain, tCons, tNil, tCall, tCB, tLst, tTup, tSl, tNoPart, tPart, gName, tNext, tDrop, tAsg, tAsgC, tBM, tYes, tDNewK, rI, rI0, rU, rEq, rNe, rAbs, rIntT, CDiv, add_ii, add_ss, mul_ii, mul_si, ix_si, eq_ii, eq_ss, eq_bb, ne_ii, ne_ss, ne_ni, ne_in, in_s1, notin_s1, is_xn, is_bb, isnot_xn, isnot_bb, sl_s, len_s, find_ss, index_ss, List.append_nil, List.cons_append, List.nil_append, List.getElem?_cons_succ, List.getElem?_cons_zero, List.set_cons_succ, List.set_cons_zero, Option.some.injEq, V.int.injEq, V.bl.injEq, V.str.injEq, V.ref.injEq, V.ty.injEq, List.cons.injEq, and_true, true_and, exists_eq_left, exists_eq_left', exists_and_left, exists_eq', exists_const, exists_and_right, exists_eq_right, exists_eq_right', reduceCtorEq, false_and, and_false, exists_false, or_false, false_or, decide_eq_true_eq, Bool.not_eq_true', decide_eq_false_iff_not, Bool.false_eq_true, if_false, if_true, mk_app, mk_len, sg_mk, mk_one, decide_true, decide_false, Bool.not_true, Bool.not_false, ite_true, ite_false, not_true_eq_false, not_false_eq_true, cxK, cutTo1, cutFrom1, mk_iff, tyV_str, stComp, List.map_cons, List.map_nil, Option.join_some, Option.join_none, gt_iff_lt, ge_iff_le, tRaise, tTryR, tCallH, tDisp, tPairs, tFld, sFld, tMake, tMeth, tBM0, tOrE, tRev, tLRng, l_e, l_b]
    refine ⟨sl1000 (by simp), fun l1 n1 => ?_⟩
    have S1 := Same.upd (Same.refl H) n1 (o := .lst [V.int 49])
    refine ⟨_, dx, _, S1 _ _ hp, T.oc_Push, T.nf_Push_number, _, f1_at _ _, _, rfl, fun l2 n2 => ?_⟩
    have S2 := Same.upd S1 n2 (o := .lst [V.int (n / 256), V.int (n % 256)])
    exact catL (by rw [upd_ne (ne_of_none upd_same n2), upd_same]) upd_same (sl1000 (by simp)) fun l3 n3 => q l3 _ (S2.no n3) (Same.upd S2 n3) upd_same
noncomputable def sp_Op_size (T : Txt K mg) : Sp := fun vs H Q E => ∃ (p : Addr) (o : OpD), vs = [.ref p] ∧ OpAt T p H o ∧ o.ok ∧ ∀ H', Same H H' → Q (.int (o.bytes.length : Int)) H'
theorem sc_Op_size : FnScope ["self"] ["self"] (defScope s_Op_size) := ⟨rfl, rfl, rfl, by decide +kernel, rfl, by decide +kernel, by decide +kernel⟩
theorem ok_Op_size (T : Txt K mg) : FnOk P w K mg base CX0 3 T.d_Op_size.f T.d_Op_size.fd ["self"] (sp_Op_size T) := by
  have nd := sc_Op_size.nd
  refine T.d_Op_size.F.ok sc_Op_size (fun vs H Q E h => ?_) (fun cdv A outer s H vs Q E hr h => ?_)
  · obtain ⟨p, o, rfl, ho, hk, q⟩ := h
    rfl
  · obtain ⟨p, o, rfl, ho, hk, q⟩ := h
    have hu := hr.units0
    refine ⟨_, (pss_one (ps_ret (pcB (o_len (K := K)) rfl T.n_len (by kernel_rfl) (pa1 (pe_alt (pmt0 (pv 0) T.oc_Alone (T.d_Op_told.for_ T.at_Alone_told) (ok_Op_told T) (hr.mono (by decide))) (pe_alt (pmt0 (pv 0) T.oc_Small T.d_Small_told (ok_Small_told T) (hr.mono (by decide))) (pmt0 (pv 0) T.oc_Push T.d_Push_told (ok_Push_told T) (hr.mono (by decide))))) pa_nil)))), ?_⟩
    rw [show start ["self"] [V.ref p] = [some (V.ref p)] from rfl]
    simp only [tSeq, tIfS, tRet, tRetN, tC, tVar, tOp, tUn, tTest, tB, tAnd, tOr, tNot, tAndV, tOrV, tNotV, tIf, tChain, tCons, tNil, tCall, tCB, tLst, tTup, tSl, tNoPart, tPart, gName, tNext, tDrop, tAsg, tAsgC, tBM, tYes, tDNewK, rI, rI0, rU, rEq, rNe, rAbs, rIntT, CDiv, add_ii, add_ss, mul_ii, mul_si, ix_si, eq_ii, eq_ss, eq_bb, ne_ii, ne_ss, ne_ni, ne_in, in_s1, notin_s1, is_xn, is_bb, isnot_xn, isnot_bb, sl_s, len_s, find_ss, index_ss, List.append_nil, List.cons_append, List.nil_append, List.getElem?_cons_succ, List.getElem?_cons_zero, List.set_cons_succ, List.set_cons_zero, Option.some.injEq, V.int.injEq, V.bl.injEq, V.str.injEq, V.ref.injEq, V.ty.injEq, List.cons.injEq, and_true, true_and, exists_eq_left, exists_eq_left', exists_and_left, exists_eq', exists_const, exists_and_right, exists_eq_right, exists_eq_right', reduceCtorEq, false_and, and_false, exists_false, or_false, false_or, decide_eq_true_eq, Bool.not_eq_true', decide_eq_false_iff_not, Bool.false_eq_true, if_false, if_true, mk_app, mk_len, sg_mk, mk_one, decide_true, decide_false, Bool.not_true, Bool.not_false, ite_true, ite_false, not_true_eq_false, not_false_eq_true, cxK, cutTo1, cutFrom1, mk_iff, tyV_str, stComp, List.map_cons, List.map_nil, Option.join_some, Option.join_none, gt_iff_lt, ge_iff_le, tRaise, tTryR, tCallH, tDisp, tPairs, tFld, sFld, tMake, tMeth, tBM0, tOrE, tRev, tLRng, l_e, l_b]
    cases o with
    | al i =>
      obtain ⟨dx, hp⟩ := ho
      exact .inl ⟨dx, _, hp, f1_no _ (by decide +kernel), p, dx, i, rfl, hk, hp, fun l H' nl S el => lenL (SqL.of el) (q H' S)⟩
    | sm n =>
      obtain ⟨dx, hp⟩ := ho
      exact .inr (.inl ⟨dx, _, hp, f1_no _ (by decide +kernel), p, dx, n, rfl, hp, fun l H' nl S el => lenL (SqL.of el) (q H' S)⟩)
    | pu n =>
      obtain ⟨dx, hp⟩ := ho
      exact .inr (.inr ⟨dx, _, hp, f1_no _ (by decide +kernel), p, dx, n, rfl, hp, fun l H' nl S el => lenL (SqL.of el) (q H' S)⟩)
    | ne i z => exact ho.elim
    | fa i z => exact ho.elim
noncomputable def sp_Op_row (T : Txt K mg) : Sp := fun vs H Q E => ∃ (p dx : Addr) (w : Str), vs = [.ref p] ∧ H p = some (.ins T.x_Alone dx (putF "spelled" (.str w) [])) ∧ Q (.str w) H
theorem sc_Op_row : FnScope ["self"] ["self"] (defScope s_Op_row) := ⟨rfl, rfl, rfl, by decide +kernel, rfl, by decide +kernel, by decide +kernel⟩
theorem ok_Op_row (T : Txt K mg) : FnOk P w K mg base CX0 2 T.d_Op_row.f T.d_Op_row.fd ["self"] (sp_Op_row T) := by
  have nd := sc_Op_row.nd
  refine T.d_Op_row.F.ok sc_Op_row (fun vs H Q E h => ?_) (fun cdv A outer s H vs Q E hr h => ?_)
  · obtain ⟨p, dx, w, rfl, hp, q⟩ := h
    rfl
  · obtain ⟨p, dx, w, rfl, hp, q⟩ := h
    have hu := hr.units0
    refine ⟨_, (pss_one (ps_ret (pmt0 (pv 0) T.oc_Alone T.d_Alone_word (ok_Alone_word T) (hr.mono (by decide))))), ?_⟩
    rw [show start ["self"] [V.ref p] = [some (V.ref p)] from rfl]
    simp only [tSeq, tIfS, tRet, tRetN, tC, tVar, tOp, tUn, tTest, tB, tAnd, tOr, tNot, tAndV, tOrV, tNotV, tIf, tChain, tCons, tNil, tCall, tCB, tLst, tTup, tSl, tNoPart, tPart, gName, tNext, tDrop, tAsg, tAsgC, tBM, tYes, tDNewK, rI, rI0, rU, rEq, rNe, rAbs, rIntT, CDiv, add_ii, add_ss, mul_ii, mul_si, ix_si, eq_ii, eq_ss, eq_bb, ne_ii, ne_ss, ne_ni, ne_in, in_s1, notin_s1, is_xn, is_bb, isnot_xn, isnot_bb, sl_s, len_s, find_ss, index_ss, List.append_nil, List.cons_append, List.nil_append, List.getElem?_cons_succ, List.getElem?_cons_zero, List.set_cons_succ, List.set_cons_zero, Option.some.injEq, V.int.injEq, V.bl.injEq, V.str.injEq, V.ref.injEq, V.ty.injEq, List.cons.injEq, and_true, true_and, exists_eq_left, exists_eq_left', exists_and_left, exists_eq', exists_const, exists_and_right, exists_eq_right, exists_eq_right', reduceCtorEq, false_and, and_false, exists_false, or_false, false_or, decide_eq_true_eq, Bool.not_eq_true', decide_eq_false_iff_not, Bool.false_eq_true, if_false, if_true, mk_app, mk_len, sg_mk, mk_one, decide_true, decide_false, Bool.not_true, Bool.not_false, ite_true, ite_false, not_true_eq_false, not_false_eq_true, cxK, cutTo1, cutFrom1, mk_iff, tyV_str, stComp, List.map_cons, List.map_nil, Option.join_some, Option.join_none, gt_iff_lt, ge_iff_le, tRaise, tTryR, tCallH, tDisp, tPairs, tFld, sFld, tMake, tMeth, tBM0, tOrE, tRev, tLRng, l_e, l_b]
    exact ⟨dx, _, hp, f1_no _ (by decide +kernel), p, dx, w, rfl, hp, q⟩
noncomputable def sp_Op_goal : Sp := fun vs H Q E => ∃ x, vs = [x] ∧ Q (.str (mkS [])) H
theorem sc_Op_goal : FnScope ["self"] ["self"] (defScope s_Op_goal) := ⟨rfl, rfl, rfl, by decide +kernel, rfl, by decide +kernel, by decide +kernel⟩
theorem ok_Op_goal (T : Txt K mg) : FnOk P w K mg base CX0 1 T.d_Op_goal.f T.d_Op_goal.fd ["self"] (sp_Op_goal) := by
  have nd := sc_Op_goal.nd
  refine T.d_Op_goal.F.ok sc_Op_goal (fun vs H Q E h => ?_) (fun cdv A outer s H vs Q E hr h => ?_)
  · obtain ⟨x, rfl, q⟩ := h
    rfl
  · obtain ⟨x, rfl, q⟩ := h
    have hu := hr.units0
    refine ⟨_, (pss_one (ps_ret pe_str)), ?_⟩
    rw [show start ["self"] [x] = [some (x)] from rfl]
    simp only [tSeq, tIfS, tRet, tRetN, tC, tVar, tOp, tUn, tTest, tB, tAnd, tOr, tNot, tAndV, tOrV, tNotV, tIf, tChain, tCons, tNil, tCall, tCB, tLst, tTup, tSl, tNoPart, tPart, gName, tNext, tDrop, tAsg, tAsgC, tBM, tYes, tDNewK, rI, rI0, rU, rEq, rNe, rAbs, rIntT, CDiv, add_ii, add_ss, mul_ii, mul_si, ix_si, eq_ii, eq_ss, eq_bb, ne_ii, ne_ss, ne_ni, ne_in, in_s1, notin_s1, is_xn, is_bb, isnot_xn, isnot_bb, sl_s, len_s, find_ss, index_ss, List.append_nil, List.cons_append, List.nil_append, List.getElem?_cons_succ, List.getElem?_cons_zero, List.set_cons_succ, List.set_cons_zero, Option.some.injEq, V.int.injEq, V.bl.injEq, V.str.injEq, V.ref.injEq, V.ty.injEq, List.cons.injEq, and_true, true_and, exists_eq_left, exists_eq_left', exists_and_left, exists_eq', exists_const, exists_and_right, exists_eq_right, exists_eq_right', reduceCtorEq, false_and, and_false, exists_false, or_false, false_or, decide_eq_true_eq, Bool.not_eq_true', decide_eq_false_iff_not, Bool.false_eq_true, if_false, if_true, mk_app, mk_len, sg_mk, mk_one, decide_true, decide_false, Bool.not_true, Bool.not_false, ite_true, ite_false, not_true_eq_false, not_false_eq_true, cxK, cutTo1, cutFrom1, mk_iff, tyV_str, stComp, List.map_cons, List.map_nil, Option.join_some, Option.join_none, gt_iff_lt, ge_iff_le, tRaise, tTryR, tCallH, tDisp, tPairs, tFld, sFld, tMake, tMeth, tBM0, tOrE, tRev, tLRng, l_e, l_b]
    exact q
noncomputable def sp_Alone___init__ (T : Txt K mg) : Sp := fun vs H Q E => ∃ (p dx : Addr) (w : Str), vs = [.ref p, .str w] ∧ H p = some (.ins T.x_Alone dx []) ∧ Q .non (upd H p (.ins T.x_Alone dx (putF "spelled" (.str w) [])))
theorem sc_Alone___init__ : FnScope ["self", "word"] ["self", "word"] (defScope s_Alone___init__) := ⟨rfl, rfl, rfl, by decide +kernel, rfl, by decide +kernel, by decide +kernel⟩
theorem ok_Alone___init__ (T : Txt K mg) : FnOk P w K mg base CX0 1 T.d_Alone___init__.f T.d_Alone___init__.fd ["self", "word"] (sp_Alone___init__ T) := by
  have nd := sc_Alone___init__.nd
  refine T.d_Alone___init__.F.ok sc_Alone___init__ (fun vs H Q E h => ?_) (fun cdv A outer s H vs Q E hr h => ?_)
  · obtain ⟨p, dx, w, rfl, hp, q⟩ := h
    rfl
  · obtain ⟨p, dx, w, rfl, hp, q⟩ := h
    have hu := hr.units0
    refine ⟨_, (pss_one (ps_fldK (K := K) (pv 0) (pv 1))), ?_⟩
    rw [show start ["self", "word"] [V.ref p, V.str w] = [some (V.ref p), some (V.str w)] from rfl]
    simp only [tSeq, tIfS, tRet, tRetN, tC, tVar, tOp, tUn, tTest, tB, tAnd, tOr, tNot, tAndV, tOrV, tNotV, tIf, tChain, tCons, tNil, tCall, tCB, tLst, tTup, tSl, tNoPart, tPart, gName, tNext, tDrop, tAsg, tAsgC, tBM, tYes, tDNewK, rI, rI0, rU, rEq, rNe, rAbs, rIntT, CDiv, add_ii, add_ss, mul_ii, mul_si, ix_si, eq_ii, eq_ss, eq_bb, ne_ii, ne_ss, ne_ni, ne_in, in_s1, notin_s1, is_xn, is_bb, isnot_xn, isnot_bb, sl_s, len_s, find_ss, index_ss, List.append_nil, List.cons_append, List.nil_append, List.getElem?_cons_succ, List.getElem?_cons_zero, List.set_cons_succ, List.set_cons_zero, Option.some.injEq, V.int.injEq, V.bl.injEq, V.str.injEq, V.ref.injEq, V.ty.injEq, List.cons.injEq, and_true, true_and, exists_eq_left, exists_eq_left', exists_and_left, exists_eq', exists_const, exists_and_right, exists_eq_right, exists_eq_right', reduceCtorEq, false_and, and_false, exists_false, or_false, false_or, decide_eq_true_eq, Bool.not_eq_true', decide_eq_false_iff_not, Bool.false_eq_true, if_false, if_true, mk_app, mk_len, sg_mk, mk_one, decide_true, decide_false, Bool.not_true, Bool.not_false, ite_true, ite_false, not_true_eq_false, not_false_eq_true, cxK, cutTo1, cutFrom1, mk_iff, tyV_str, stComp, List.map_cons, List.map_nil, Option.join_some, Option.join_none, gt_iff_lt, ge_iff_le, tRaise, tTryR, tCallH, tDisp, tPairs, tFld, sFld, tMake, tMeth, tBM0, tOrE, tRev, tLRng, l_e, l_b]
    exact ⟨_, dx, [], hp, T.oc_Alone, T.nf_Alone_spelled, (by show 0 < 1000; decide), q⟩
noncomputable def sp_Small___init__ (T : Txt K mg) : Sp := fun vs H Q E => ∃ (p dx : Addr) (w : Int), vs = [.ref p, .int w] ∧ H p = some (.ins T.x_Small dx []) ∧ Q .non (upd H p (.ins T.x_Small dx (putF "number" (.int w) [])))
theorem sc_Small___init__ : FnScope ["self", "number"] ["self", "number"] (defScope s_Small___init__) := ⟨rfl, rfl, rfl, by decide +kernel, rfl, by decide +kernel, by decide +kernel⟩
theorem ok_Small___init__ (T : Txt K mg) : FnOk P w K mg base CX0 1 T.d_Small___init__.f T.d_Small___init__.fd ["self", "number"] (sp_Small___init__ T) := by
  have nd := sc_Small___init__.nd
  refine T.d_Small___init__.F.ok sc_Small___init__ (fun vs H Q E h => ?_) (fun cdv A outer s H vs Q E hr h => ?_)
  · obtain ⟨p, dx, w, rfl, hp, q⟩ := h
    rfl
  · obtain ⟨p, dx, w, rfl, hp, q⟩ := h
    have hu := hr.units0
    refine ⟨_, (pss_one (ps_fldK (K := K) (pv 0) (pv 1))), ?_⟩
    rw [show start ["self", "number"] [V.ref p, V.int w] = [some (V.ref p), some (V.int w)] from rfl]
    simp only [tSeq, tIfS, tRet, tRetN, tC, tVar, tOp, tUn, tTest, tB, tAnd, tOr, tNot, tAndV, tOrV, tNotV, tIf, tChain, tCons, tNil, tCall, tCB, tLst, tTup, tSl, tNoPart, tPart, gName, tNext, tDrop, tAsg, tAsgC, tBM, tYes, tDNewK, rI, rI0, rU, rEq, rNe, rAbs, rIntT, CDiv, add_ii, add_ss, mul_ii, mul_si, ix_si, eq_ii, eq_ss, eq_bb, ne_ii, ne_ss, ne_ni, ne_in, in_s1, notin_s1, is_xn, is_bb, isnot_xn, isnot_bb, sl_s, len_s, find_ss, index_ss, List.append_nil, List.cons_append, List.nil_append, List.getElem?_cons_succ, List.getElem?_cons_zero, List.set_cons_succ, List.set_cons_zero, Option.some.injEq, V.int.injEq, V.bl.injEq, V.str.injEq, V.ref.injEq, V.ty.injEq, List.cons.injEq, and_true, true_and, exists_eq_left, exists_eq_left', exists_and_left, exists_eq', exists_const, exists_and_right, exists_eq_right, exists_eq_right', reduceCtorEq, false_and, and_false, exists_false, or_false, false_or, decide_eq_true_eq, Bool.not_eq_true', decide_eq_false_iff_not, Bool.false_eq_true, if_false, if_true, mk_app, mk_len, sg_mk, mk_one, decide_true, decide_false, Bool.not_true, Bool.not_false, ite_true, ite_false, not_true_eq_false, not_false_eq_true, cxK, cutTo1, cutFrom1, mk_iff, tyV_str, stComp, List.map_cons, List.map_nil, Option.join_some, Option.join_none, gt_iff_lt, ge_iff_le, tRaise, tTryR, tCallH, tDisp, tPairs, tFld, sFld, tMake, tMeth, tBM0, tOrE, tRev, tLRng, l_e, l_b]
    exact ⟨_, dx, [], hp, T.oc_Small, T.nf_Small_number, (by show 0 < 1000; decide), q⟩
noncomputable def sp_Small_word : Sp := fun vs H Q E => ∃ x, vs = [x] ∧ Q (.str (Str.ofString "small")) H
theorem sc_Small_word : FnScope ["self"] ["self"] (defScope s_Small_word) := ⟨rfl, rfl, rfl, by decide +kernel, rfl, by decide +kernel, by decide +kernel⟩
theorem ok_Small_word (T : Txt K mg) : FnOk P w K mg base CX0 1 T.d_Small_word.f T.d_Small_word.fd ["self"] (sp_Small_word) := by
  have nd := sc_Small_word.nd
  refine T.d_Small_word.F.ok sc_Small_word (fun vs H Q E h => ?_) (fun cdv A outer s H vs Q E hr h => ?_)
  · obtain ⟨x, rfl, q⟩ := h
    rfl
  · obtain ⟨x, rfl, q⟩ := h
    have hu := hr.units0
    refine ⟨_, (pss_one (ps_ret pe_str)), ?_⟩
    rw [show start ["self"] [x] = [some (x)] from rfl]
    simp only [tSeq, tIfS, tRet, tRetN, tC, tVar, tOp, tUn, tTest, tB, tAnd, tOr, tNot, tAndV, tOrV, tNotV, tIf, tChain, tCons, tNil, tCall, tCB, tLst, tTup, tSl, tNoPart, tPart, gName, tNext, tDrop, tAsg, tAsgC, tBM, tYes, tDNewK, rI, rI0, rU, rEq, rNe, rAbs, rIntT, CDiv, add_ii, add_ss, mul_ii, mul_si, ix_si, eq_ii, eq_ss, eq_bb, ne_ii, ne_ss, ne_ni, ne_in, in_s1, notin_s1, is_xn, is_bb, isnot_xn, isnot_bb, sl_s, len_s, find_ss, index_ss, List.append_nil, List.cons_append, List.nil_append, List.getElem?_cons_succ, List.getElem?_cons_zero, List.set_cons_succ, List.set_cons_zero, Option.some.injEq, V.int.injEq, V.bl.injEq, V.str.injEq, V.ref.injEq, V.ty.injEq, List.cons.injEq, and_true, true_and, exists_eq_left, exists_eq_left', exists_and_left, exists_eq', exists_const, exists_and_right, exists_eq_right, exists_eq_right', reduceCtorEq, false_and, and_false, exists_false, or_false, false_or, decide_eq_true_eq, Bool.not_eq_true', decide_eq_false_iff_not, Bool.false_eq_true, if_false, if_true, mk_app, mk_len, sg_mk, mk_one, decide_true, decide_false, Bool.not_true, Bool.not_false, ite_true, ite_false, not_true_eq_false, not_false_eq_true, cxK, cutTo1, cutFrom1, mk_iff, tyV_str, stComp, List.map_cons, List.map_nil, Option.join_some, Option.join_none, gt_iff_lt, ge_iff_le, tRaise, tTryR, tCallH, tDisp, tPairs, tFld, sFld, tMake, tMeth, tBM0, tOrE, tRev, tLRng, l_e, l_b]
    exact q
noncomputable def sp_Small_row (T : Txt K mg) : Sp := fun vs H Q E => ∃ (p dx : Addr) (n : Int), vs = [.ref p] ∧ H p = some (.ins T.x_Small dx (putF "number" (.int n) [])) ∧ 0 ≤ n ∧ n < 65536 ∧ Q (.str (Str.ofString "small" ++ mkS [32] ++ Str.ofString (toString n))) H
theorem sc_Small_row : FnScope ["self"] ["self"] (defScope s_Small_row) := ⟨rfl, rfl, rfl, by decide +kernel, rfl, by decide +kernel, by decide +kernel⟩
theorem ok_Small_row (T : Txt K mg) : FnOk P w K mg base CX0 1 T.d_Small_row.f T.d_Small_row.fd ["self"] (sp_Small_row T) := by
  have nd := sc_Small_row.nd
  refine T.d_Small_row.F.ok sc_Small_row (fun vs H Q E h => ?_) (fun cdv A outer s H vs Q E hr h => ?_)
  · obtain ⟨p, dx, n, rfl, hp, n0, n1, q⟩ := h
    rfl
  · obtain ⟨p, dx, n, rfl, hp, n0, n1, q⟩ := h
    have hu := hr.units0
    refine ⟨_, (pss_one (ps_ret (pe_op o_add pe_str (pcT call_str rfl T.n_str (by kernel_rfl) (pa1 (pe_fldK (K := K) (pv 0)) pa_nil))))), ?_⟩
    rw [show start ["self"] [V.ref p] = [some (V.ref p)] from rfl]
    simp only [tSeq, tIfS, tRet, tRetN, tC, tVar, tOp, tUn, tTest, tB, tAnd, tOr, tNot, tAndV, tOrV, tNotV, tIf, tChain, tCons, tNil, tCall, tCB, tLst, tTup, tSl, tNoPart, tPart, gName, tNext, tDrop, tAsg, tAsgC, tBM, tYes, tDNewK, rI, rI0, rU, rEq, rNe, rAbs, rIntT, CDiv, add_ii, add_ss, mul_ii, mul_si, ix_si, eq_ii, eq_ss, eq_bb, ne_ii, ne_ss, ne_ni, ne_in, in_s1, notin_s1, is_xn, is_bb, isnot_xn, isnot_bb, sl_s, len_s, find_ss, index_ss, List.append_nil, List.cons_append, List.nil_append, List.getElem?_cons_succ, List.getElem?_cons_zero, List.set_cons_succ, List.set_cons_zero, Option.some.injEq, V.int.injEq, V.bl.injEq, V.str.injEq, V.ref.injEq, V.ty.injEq, List.cons.injEq, and_true, true_and, exists_eq_left, exists_eq_left', exists_and_left, exists_eq', exists_const, exists_and_right, exists_eq_right, exists_eq_right', reduceCtorEq, false_and, and_false, exists_false, or_false, false_or, decide_eq_true_eq, Bool.not_eq_true', decide_eq_false_iff_not, Bool.false_eq_true, if_false, if_true, mk_app, mk_len, sg_mk, mk_one, decide_true, decide_false, Bool.not_true, Bool.not_false, ite_true, ite_false, not_true_eq_false, not_false_eq_true, cxK, cutTo1, cutFrom1, mk_iff, tyV_str, stComp, List.map_cons, List.map_nil, Option.join_some, Option.join_none, gt_iff_lt, ge_iff_le, tRaise, tTryR, tCallH, tDisp, tPairs, tFld, sFld, tMake, tMeth, tBM0, tOrE, tRev, tLRng, l_e, l_b]
    refine ⟨_, dx, _, hp, T.oc_Small, T.nf_Small_number, _, f1_at _ _, .inl ⟨_, rfl, num_log n0 n1, ?_⟩⟩
    have := num_len n0 n1
    rw [small_b]
    refine add_ss.mpr ⟨sl1000 ?_, q⟩
    have l1 : (Str.ofString "small" ++ mkS [32]).length ≤ 20 := by decide +kernel
    omega
noncomputable def sp_Push___init__ (T : Txt K mg) : Sp := fun vs H Q E => ∃ (p dx : Addr) (w : Int), vs = [.ref p, .int w] ∧ H p = some (.ins T.x_Push dx []) ∧ Q .non (upd H p (.ins T.x_Push dx (putF "number" (.int w) [])))
theorem sc_Push___init__ : FnScope ["self", "number"] ["self", "number"] (defScope s_Push___init__) := ⟨rfl, rfl, rfl, by decide +kernel, rfl, by decide +kernel, by decide +kernel⟩
theorem ok_Push___init__ (T : Txt K mg) : FnOk P w K mg base CX0 1 T.d_Push___init__.f T.d_Push___init__.fd ["self", "number"] (sp_Push___init__ T) := by
  have nd := sc_Push___init__.nd
  refine T.d_Push___init__.F.ok sc_Push___init__ (fun vs H Q E h => ?_) (fun cdv A outer s H vs Q E hr h => ?_)
  · obtain ⟨p, dx, w, rfl, hp, q⟩ := h
    rfl
  · obtain ⟨p, dx, w, rfl, hp, q⟩ := h
    have hu := hr.units0
    refine ⟨_, (pss_one (ps_fldK (K := K) (pv 0) (pv 1))), ?_⟩
    rw [show start ["self", "number"] [V.ref p, V.int w] = [some (V.ref p), some (V.int w)] from rfl]
    simp only [tSeq, tIfS, tRet, tRetN, tC, tVar, tOp, tUn, tTest, tB, tAnd, tOr, tNot, tAndV, tOrV, tNotV, tIf, tChain, tCons, tNil, tCall, tCB, tLst, tTup, tSl, tNoPart, tPart, gName, tNext, tDrop, tAsg, tAsgC, tBM, tYes, tDNewK, rI, rI0, rU, rEq, rNe, rAbs, rIntT, CDiv, add_ii, add_ss, mul_ii, mul_si, ix_si, eq_ii, eq_ss, eq_bb, ne_ii, ne_ss, ne_ni, ne_in, in_s1, notin_s1, is_xn, is_bb, isnot_xn, isnot_bb, sl_s, len_s, find_ss, index_ss, List.append_nil, List.cons_append, List.nil_append, List.getElem?_cons_succ, List.getElem?_cons_zero, List.set_cons_succ, List.set_cons_zero, Option.some.injEq, V.int.injEq, V.bl.injEq, V.str.injEq, V.ref.injEq, V.ty.injEq, List.cons.injEq, and_true, true_and, exists_eq_left, exists_eq_left', exists_and_left, exists_eq', exists_const, exists_and_right, exists_eq_right, exists_eq_right', reduceCtorEq, false_and, and_false, exists_false, or_false, false_or, decide_eq_true_eq, Bool.not_eq_true', decide_eq_false_iff_not, Bool.false_eq_true, if_false, if_true, mk_app, mk_len, sg_mk, mk_one, decide_true, decide_false, Bool.not_true, Bool.not_false, ite_true, ite_false, not_true_eq_false, not_false_eq_true, cxK, cutTo1, cutFrom1, mk_iff, tyV_str, stComp, List.map_cons, List.map_nil, Option.join_some, Option.join_none, gt_iff_lt, ge_iff_le, tRaise, tTryR, tCallH, tDisp, tPairs, tFld, sFld, tMake, tMeth, tBM0, tOrE, tRev, tLRng, l_e, l_b]
    exact ⟨_, dx, [], hp, T.oc_Push, T.nf_Push_number, (by show 0 < 1000; decide), q⟩
noncomputable def sp_Push_word : Sp := fun vs H Q E => ∃ x, vs = [x] ∧ Q (.str (Str.ofString "push")) H
theorem sc_Push_word : FnScope ["self"] ["self"] (defScope s_Push_word) := ⟨rfl, rfl, rfl, by decide +kernel, rfl, by decide +kernel, by decide +kernel⟩
theorem ok_Push_word (T : Txt K mg) : FnOk P w K mg base CX0 1 T.d_Push_word.f T.d_Push_word.fd ["self"] (sp_Push_word) := by
  have nd := sc_Push_word.nd
  refine T.d_Push_word.F.ok sc_Push_word (fun vs H Q E h => ?_) (fun cdv A outer s H vs Q E hr h => ?_)
  · obtain ⟨x, rfl, q⟩ := h
    rfl
  · obtain ⟨x, rfl, q⟩ := h
    have hu := hr.units0
    refine ⟨_, (pss_one (ps_ret pe_str)), ?_⟩
    rw [show start ["self"] [x] = [some (x)] from rfl]
    simp only [tSeq, tIfS, tRet, tRetN, tC, tVar, tOp, tUn, tTest, tB, tAnd, tOr, tNot, tAndV, tOrV, tNotV, tIf, tChain, tCons, tNil, tCall, tCB, tLst, tTup, tSl, tNoPart, tPart, gName, tNext, tDrop, tAsg, tAsgC, tBM, tYes, tDNewK, rI, rI0, rU, rEq, rNe, rAbs, rIntT, CDiv, add_ii, add_ss, mul_ii, mul_si, ix_si, eq_ii, eq_ss, eq_bb, ne_ii, ne_ss, ne_ni, ne_in, in_s1, notin_s1, is_xn, is_bb, isnot_xn, isnot_bb, sl_s, len_s, find_ss, index_ss, List.append_nil, List.cons_append, List.nil_append, List.getElem?_cons_succ, List.getElem?_cons_zero, List.set_cons_succ, List.set_cons_zero, Option.some.injEq, V.int.injEq, V.bl.injEq, V.str.injEq, V.ref.injEq, V.ty.injEq, List.cons.injEq, and_true, true_and, exists_eq_left, exists_eq_left', exists_and_left, exists_eq', exists_const, exists_and_right, exists_eq_right, exists_eq_right', reduceCtorEq, false_and, and_false, exists_false, or_false, false_or, decide_eq_true_eq, Bool.not_eq_true', decide_eq_false_iff_not, Bool.false_eq_true, if_false, if_true, mk_app, mk_len, sg_mk, mk_one, decide_true, decide_false, Bool.not_true, Bool.not_false, ite_true, ite_false, not_true_eq_false, not_false_eq_true, cxK, cutTo1, cutFrom1, mk_iff, tyV_str, stComp, List.map_cons, List.map_nil, Option.join_some, Option.join_none, gt_iff_lt, ge_iff_le, tRaise, tTryR, tCallH, tDisp, tPairs, tFld, sFld, tMake, tMeth, tBM0, tOrE, tRev, tLRng, l_e, l_b]
    exact q
noncomputable def sp_Push_row (T : Txt K mg) : Sp := fun vs H Q E => ∃ (p dx : Addr) (n : Int), vs = [.ref p] ∧ H p = some (.ins T.x_Push dx (putF "number" (.int n) [])) ∧ 0 ≤ n ∧ n < 65536 ∧ Q (.str (Str.ofString "push" ++ mkS [32] ++ Str.ofString (toString n))) H
theorem sc_Push_row : FnScope ["self"] ["self"] (defScope s_Push_row) := ⟨rfl, rfl, rfl, by decide +kernel, rfl, by decide +kernel, by decide +kernel⟩
theorem ok_Push_row (T : Txt K mg) : FnOk P w K mg base CX0 1 T.d_Push_row.f T.d_Push_row.fd ["self"] (sp_Push_row T) := by
  have nd := sc_Push_row.nd
  refine T.d_Push_row.F.ok sc_Push_row (fun vs H Q E h => ?_) (fun cdv A outer s H vs Q E hr h => ?_)
  · obtain ⟨p, dx, n, rfl, hp, n0, n1, q⟩ := h
    rfl
  · obtain ⟨p, dx, n, rfl, hp, n0, n1, q⟩ := h
    have hu := hr.units0
    refine ⟨_, (pss_one (ps_ret (pe_op o_add pe_str (pcT call_str rfl T.n_str (by kernel_rfl) (pa1 (pe_fldK (K := K) (pv 0)) pa_nil))))), ?_⟩
    rw [show start ["self"] [V.ref p] = [some (V.ref p)] from rfl]
    simp only [tSeq, tIfS, tRet, tRetN, tC, tVar, tOp, tUn, tTest, tB, tAnd, tOr, tNot, tAndV, tOrV, tNotV, tIf, tChain, tCons, tNil, tCall, tCB, tLst, tTup, tSl, tNoPart, tPart, gName, tNext, tDrop, tAsg, tAsgC, tBM, tYes, tDNewK, rI, rI0, rU, rEq, rNe, rAbs, rIntT, CDiv, add_ii, add_ss, mul_ii, mul_si, ix_si, eq_ii, eq_ss, eq_bb, ne_ii, ne_ss, ne_ni, ne_in, in_s1, notin_s1, is_xn, is_bb, isnot_xn, isnot_bb, sl_s, len_s, find_ss, index_ss, List.append_nil, List.cons_append, List.nil_append, List.getElem?_cons_succ, List.getElem?_cons_zero, List.set_cons_succ, List.set_cons_zero, Option.some.injEq, V.int.injEq, V.bl.injEq, V.str.injEq, V.ref.injEq, V.ty.injEq, List.cons.injEq, and_true, true_and, exists_eq_left, exists_eq_left', exists_and_left, exists_eq', exists_const, exists_and_right, exists_eq_right, exists_eq_right', reduceCtorEq, false_and, and_false, exists_false, or_false, false_or, decide_eq_true_eq, Bool.not_eq_true', decide_eq_false_iff_not, Bool.false_eq_true, if_false, if_true, mk_app, mk_len, sg_mk, mk_one, decide_true, decide_false, Bool.not_true, Bool.not_false, ite_true, ite_false, not_true_eq_false, not_false_eq_true, cxK, cutTo1, cutFrom1, mk_iff, tyV_str, stComp, List.map_cons, List.map_nil, Option.join_some, Option.join_none, gt_iff_lt, ge_iff_le, tRaise, tTryR, tCallH, tDisp, tPairs, tFld, sFld, tMake, tMeth, tBM0, tOrE, tRev, tLRng, l_e, l_b]
    refine ⟨_, dx, _, hp, T.oc_Push, T.nf_Push_number, _, f1_at _ _, .inl ⟨_, rfl, num_log n0 n1, ?_⟩⟩
    have := num_len n0 n1
    rw [push_b]
    refine add_ss.mpr ⟨sl1000 ?_, q⟩
    have l1 : (Str.ofString "push" ++ mkS [32]).length ≤ 20 := by decide +kernel
    omega
noncomputable def sp_size_at (T : Txt K mg) : Sp := fun vs H Q E => ∃ (a : Addr) (ns : List Int) (p : Int), vs = [.ref a, .int p] ∧ H a = some (.lst (ns.map V.int)) ∧ 0 ≤ p ∧ Q (szV (szF ns p)) H
theorem sc_size_at : FnScope ["row", "place", "size"] ["row", "place"] (defScope s_size_at) := ⟨rfl, rfl, rfl, by decide +kernel, rfl, by decide +kernel, by decide +kernel⟩
theorem ok_size_at (T : Txt K mg) : FnOk P w K mg base CX0 1 T.d_size_at.f T.d_size_at.fd ["row", "place"] (sp_size_at T) := by
  have nd := sc_size_at.nd
  refine T.d_size_at.F.ok sc_size_at (fun vs H Q E h => ?_) (fun cdv A outer s H vs Q E hr h => ?_)
  · obtain ⟨a, ns, p, rfl, ha, p0, q⟩ := h
    rfl
  · obtain ⟨a, ns, p, rfl, ha, p0, q⟩ := h
    have hu := hr.units0
    refine ⟨_, (pss_cons (ps_if (PW.pt (pw_or (pt_not (pt_chain op_le op_lt pe_int (pv 1) (pcB (o_len (K := K)) rfl T.n_len (by kernel_rfl) (pa1 (pv 0) pa_nil)))) (pw_or1 (pt_cmpR (o_notinTab (K := K)) (pe_ix (o_ix (K := K)) (pv 0) (pv 1) (fun _ _ => rfl)) (pe_gl rfl T.c_OPS) (by with_unfolding_all rfl))))) (pss_one (ps_ret pe_non)) pss_nil)
      (pss_cons (ps_set (i := 2) nd rfl (Or.inl rfl) (pe_ix (o_ix (K := K)) (pe_ix (o_ixTab (K := K)) (pe_gl rfl T.c_OPS) (pe_ix (o_ix (K := K)) (pv 0) (pv 1) (fun _ _ => rfl)) (fun _ _ => rfl)) pe_int (fun _ _ => rfl)))
      (pss_one (ps_ret (pe_ifExp (pt_cmpR op_le (pe_op o_add (pv 1) (pv 2)) (pcB (o_len (K := K)) rfl T.n_len (by kernel_rfl) (pa1 (pv 0) pa_nil)) (nomark _)) (pv 2) pe_non))))), ?_⟩
    rw [show start ["row", "place", "size"] [V.ref a, V.int p] = [some (V.ref a), some (V.int p), none] from rfl]
    refine tSeq_gen fun B hB => ?_
    simp only [tSeq, tIfS, tRet, tRetN, tC, tVar, tOp, tUn, tTest, tB, tAnd, tOr, tNot, tAndV, tOrV, tNotV, tIf, tChain, tCons, tNil, tCall, tCB, tLst, tTup, tSl, tNoPart, tPart, gName, tNext, tDrop, tAsg, tAsgC, tBM, tYes, tDNewK, rI, rI0, rU, rEq, rNe, rAbs, rIntT, CDiv, add_ii, add_ss, mul_ii, mul_si, ix_si, eq_ii, eq_ss, eq_bb, ne_ii, ne_ss, ne_ni, ne_in, in_s1, notin_s1, is_xn, is_bb, isnot_xn, isnot_bb, sl_s, len_s, find_ss, index_ss, List.append_nil, List.cons_append, List.nil_append, List.getElem?_cons_succ, List.getElem?_cons_zero, List.set_cons_succ, List.set_cons_zero, Option.some.injEq, V.int.injEq, V.bl.injEq, V.str.injEq, V.ref.injEq, V.ty.injEq, List.cons.injEq, and_true, true_and, exists_eq_left, exists_eq_left', exists_and_left, exists_eq', exists_const, exists_and_right, exists_eq_right, exists_eq_right', reduceCtorEq, false_and, and_false, exists_false, or_false, false_or, decide_eq_true_eq, Bool.not_eq_true', decide_eq_false_iff_not, Bool.false_eq_true, if_false, if_true, mk_app, mk_len, sg_mk, mk_one, decide_true, decide_false, Bool.not_true, Bool.not_false, ite_true, ite_false, not_true_eq_false, not_false_eq_true, cxK, cutTo1, cutFrom1, mk_iff, tyV_str, stComp, List.map_cons, List.map_nil, Option.join_some, Option.join_none, gt_iff_lt, ge_iff_le, tRaise, tTryR, tCallH, tDisp, tPairs, tFld, sFld, tMake, tMeth, tBM0, tOrE, tRev, tLRng, l_e, l_b]
    refine iteT' p0 (lenL (SqL.of ha) ⟨_, rfl, ?_⟩)
    rw [List.length_map]
    by_cases h : p < (ns.length : Int)
    · refine iteF' (fun z => z h) ?_
      have e : ns[p.toNat]? = some (ns.getD p.toNat 0) := by
        have : p.toNat < ns.length := by omega
        simp [List.getD, this]
      refine ixL (SqL.of ha) (getI p0 h) ⟨_, opsT, _, rfl, rfl, T.tb_OPS, ?_⟩
      rw [ops_any]
      unfold szF at q
      rw [e] at q
      cases hz : opSz (ns.getD p.toNat 0) with
      | none =>
        simp only [hz] at q
        exact ⟨_, rfl, iteT' rfl q⟩
      | some z =>
        simp only [hz] at q
        obtain ⟨i, q', hi, hb, hz'⟩ := ops_ix hz
        subst hz'
        refine ⟨_, rfl, iteF' (by simp) ?_⟩
        subst hB
        simp only [tSeq, tIfS, tRet, tRetN, tC, tVar, tOp, tUn, tTest, tB, tAnd, tOr, tNot, tAndV, tOrV, tNotV, tIf, tChain, tCons, tNil, tCall, tCB, tLst, tTup, tSl, tNoPart, tPart, gName, tNext, tDrop, tAsg, tAsgC, tBM, tYes, tDNewK, rI, rI0, rU, rEq, rNe, rAbs, rIntT, CDiv, add_ii, add_ss, mul_ii, mul_si, ix_si, eq_ii, eq_ss, eq_bb, ne_ii, ne_ss, ne_ni, ne_in, in_s1, notin_s1, is_xn, is_bb, isnot_xn, isnot_bb, sl_s, len_s, find_ss, index_ss, List.append_nil, List.cons_append, List.nil_append, List.getElem?_cons_succ, List.getElem?_cons_zero, List.set_cons_succ, List.set_cons_zero, Option.some.injEq, V.int.injEq, V.bl.injEq, V.str.injEq, V.ref.injEq, V.ty.injEq, List.cons.injEq, and_true, true_and, exists_eq_left, exists_eq_left', exists_and_left, exists_eq', exists_const, exists_and_right, exists_eq_right, exists_eq_right', reduceCtorEq, false_and, and_false, exists_false, or_false, false_or, decide_eq_true_eq, Bool.not_eq_true', decide_eq_false_iff_not, Bool.false_eq_true, if_false, if_true, mk_app, mk_len, sg_mk, mk_one, decide_true, decide_false, Bool.not_true, Bool.not_false, ite_true, ite_false, not_true_eq_false, not_false_eq_true, cxK, cutTo1, cutFrom1, mk_iff, tyV_str, stComp, List.map_cons, List.map_nil, Option.join_some, Option.join_none, gt_iff_lt, ge_iff_le, tRaise, tTryR, tCallH, tDisp, tPairs, tFld, sFld, tMake, tMeth, tBM0, tOrE, tRev, tLRng, l_e, l_b]
        refine ixL (SqL.of ha) (getI p0 h) ⟨_, opsT, i, _, [V.str q'.2.1, V.int q'.2.2.1, V.str q'.2.2.2], rfl, rfl, T.tb_OPS, by rw [← hb]; simp [opsT, hi], fun b kb => ixT kb.sq (atIn (by decide) rfl) ?_⟩
        refine add_ii.mpr (lenL (SqL.of ha) ?_)
        rw [List.length_map]
        by_cases hl : p + q'.2.2.1 ≤ (ns.length : Int)
        · rw [if_pos hl] at q
          exact ⟨_, rfl, _, rfl, iteT' hl q⟩
        · rw [if_neg hl] at q
          exact ⟨_, rfl, _, rfl, iteF' hl q⟩
    · refine iteT' h ?_
      have e : ns[p.toNat]? = none := List.getElem?_eq_none (by omega)
      unfold szF at q
      rw [e] at q
      exact q
noncomputable def sp_word_at (T : Txt K mg) : Sp := fun vs H Q E => ∃ (a : Addr) (ns : List Int) (p : Int) (i : Nat) (q : Int × Str × Int × Str), vs = [.ref a, .int p] ∧ H a = some (.lst (ns.map V.int)) ∧ 0 ≤ p ∧ p < (ns.length : Int) ∧ opsR[i]? = some q ∧ q.1 = ns.getD p.toNat 0 ∧ Q (.str q.2.1) H
theorem sc_word_at : FnScope ["row", "place"] ["row", "place"] (defScope s_word_at) := ⟨rfl, rfl, rfl, by decide +kernel, rfl, by decide +kernel, by decide +kernel⟩
theorem ok_word_at (T : Txt K mg) : FnOk P w K mg base CX0 1 T.d_word_at.f T.d_word_at.fd ["row", "place"] (sp_word_at T) := by
  have nd := sc_word_at.nd
  refine T.d_word_at.F.ok sc_word_at (fun vs H Q E h => ?_) (fun cdv A outer s H vs Q E hr h => ?_)
  · obtain ⟨a, ns, p, i, q, rfl, ha, p0, p1, hi, hb, r⟩ := h
    rfl
  · obtain ⟨a, ns, p, i, q, rfl, ha, p0, p1, hi, hb, r⟩ := h
    have hu := hr.units0
    refine ⟨_, (pss_one (ps_ret (pe_ix (o_ix (K := K)) (pe_ix (o_ixTab (K := K)) (pe_gl rfl T.c_OPS) (pe_ix (o_ix (K := K)) (pv 0) (pv 1) (fun _ _ => rfl)) (fun _ _ => rfl)) pe_int (fun _ _ => rfl)))), ?_⟩
    rw [show start ["row", "place"] [V.ref a, V.int p] = [some (V.ref a), some (V.int p)] from rfl]
    simp only [tSeq, tIfS, tRet, tRetN, tC, tVar, tOp, tUn, tTest, tB, tAnd, tOr, tNot, tAndV, tOrV, tNotV, tIf, tChain, tCons, tNil, tCall, tCB, tLst, tTup, tSl, tNoPart, tPart, gName, tNext, tDrop, tAsg, tAsgC, tBM, tYes, tDNewK, rI, rI0, rU, rEq, rNe, rAbs, rIntT, CDiv, add_ii, add_ss, mul_ii, mul_si, ix_si, eq_ii, eq_ss, eq_bb, ne_ii, ne_ss, ne_ni, ne_in, in_s1, notin_s1, is_xn, is_bb, isnot_xn, isnot_bb, sl_s, len_s, find_ss, index_ss, List.append_nil, List.cons_append, List.nil_append, List.getElem?_cons_succ, List.getElem?_cons_zero, List.set_cons_succ, List.set_cons_zero, Option.some.injEq, V.int.injEq, V.bl.injEq, V.str.injEq, V.ref.injEq, V.ty.injEq, List.cons.injEq, and_true, true_and, exists_eq_left, exists_eq_left', exists_and_left, exists_eq', exists_const, exists_and_right, exists_eq_right, exists_eq_right', reduceCtorEq, false_and, and_false, exists_false, or_false, false_or, decide_eq_true_eq, Bool.not_eq_true', decide_eq_false_iff_not, Bool.false_eq_true, if_false, if_true, mk_app, mk_len, sg_mk, mk_one, decide_true, decide_false, Bool.not_true, Bool.not_false, ite_true, ite_false, not_true_eq_false, not_false_eq_true, cxK, cutTo1, cutFrom1, mk_iff, tyV_str, stComp, List.map_cons, List.map_nil, Option.join_some, Option.join_none, gt_iff_lt, ge_iff_le, tRaise, tTryR, tCallH, tDisp, tPairs, tFld, sFld, tMake, tMeth, tBM0, tOrE, tRev, tLRng, l_e, l_b]
    refine ixL (SqL.of ha) (getI p0 p1) ⟨_, opsT, i, _, [V.str q.2.1, V.int q.2.2.1, V.str q.2.2.2], rfl, rfl, T.tb_OPS, by rw [← hb]; simp [opsT, hi], fun b kb => ixT kb.sq (atIn (by decide) rfl) r⟩
noncomputable def sp_way_at (T : Txt K mg) : Sp := fun vs H Q E => ∃ (a : Addr) (ns : List Int) (p : Int) (i : Nat) (q : Int × Str × Int × Str), vs = [.ref a, .int p] ∧ H a = some (.lst (ns.map V.int)) ∧ 0 ≤ p ∧ p < (ns.length : Int) ∧ opsR[i]? = some q ∧ q.1 = ns.getD p.toNat 0 ∧ Q (.str q.2.2.2) H
theorem sc_way_at : FnScope ["row", "place"] ["row", "place"] (defScope s_way_at) := ⟨rfl, rfl, rfl, by decide +kernel, rfl, by decide +kernel, by decide +kernel⟩
theorem ok_way_at (T : Txt K mg) : FnOk P w K mg base CX0 1 T.d_way_at.f T.d_way_at.fd ["row", "place"] (sp_way_at T) := by
  have nd := sc_way_at.nd
  refine T.d_way_at.F.ok sc_way_at (fun vs H Q E h => ?_) (fun cdv A outer s H vs Q E hr h => ?_)
  · obtain ⟨a, ns, p, i, q, rfl, ha, p0, p1, hi, hb, r⟩ := h
    rfl
  · obtain ⟨a, ns, p, i, q, rfl, ha, p0, p1, hi, hb, r⟩ := h
    have hu := hr.units0
    refine ⟨_, (pss_one (ps_ret (pe_ix (o_ix (K := K)) (pe_ix (o_ixTab (K := K)) (pe_gl rfl T.c_OPS) (pe_ix (o_ix (K := K)) (pv 0) (pv 1) (fun _ _ => rfl)) (fun _ _ => rfl)) pe_int (fun _ _ => rfl)))), ?_⟩
    rw [show start ["row", "place"] [V.ref a, V.int p] = [some (V.ref a), some (V.int p)] from rfl]
    simp only [tSeq, tIfS, tRet, tRetN, tC, tVar, tOp, tUn, tTest, tB, tAnd, tOr, tNot, tAndV, tOrV, tNotV, tIf, tChain, tCons, tNil, tCall, tCB, tLst, tTup, tSl, tNoPart, tPart, gName, tNext, tDrop, tAsg, tAsgC, tBM, tYes, tDNewK, rI, rI0, rU, rEq, rNe, rAbs, rIntT, CDiv, add_ii, add_ss, mul_ii, mul_si, ix_si, eq_ii, eq_ss, eq_bb, ne_ii, ne_ss, ne_ni, ne_in, in_s1, notin_s1, is_xn, is_bb, isnot_xn, isnot_bb, sl_s, len_s, find_ss, index_ss, List.append_nil, List.cons_append, List.nil_append, List.getElem?_cons_succ, List.getElem?_cons_zero, List.set_cons_succ, List.set_cons_zero, Option.some.injEq, V.int.injEq, V.bl.injEq, V.str.injEq, V.ref.injEq, V.ty.injEq, List.cons.injEq, and_true, true_and, exists_eq_left, exists_eq_left', exists_and_left, exists_eq', exists_const, exists_and_right, exists_eq_right, exists_eq_right', reduceCtorEq, false_and, and_false, exists_false, or_false, false_or, decide_eq_true_eq, Bool.not_eq_true', decide_eq_false_iff_not, Bool.false_eq_true, if_false, if_true, mk_app, mk_len, sg_mk, mk_one, decide_true, decide_false, Bool.not_true, Bool.not_false, ite_true, ite_false, not_true_eq_false, not_false_eq_true, cxK, cutTo1, cutFrom1, mk_iff, tyV_str, stComp, List.map_cons, List.map_nil, Option.join_some, Option.join_none, gt_iff_lt, ge_iff_le, tRaise, tTryR, tCallH, tDisp, tPairs, tFld, sFld, tMake, tMeth, tBM0, tOrE, tRev, tLRng, l_e, l_b]
    refine ixL (SqL.of ha) (getI p0 p1) ⟨_, opsT, i, _, [V.str q.2.1, V.int q.2.2.1, V.str q.2.2.2], rfl, rfl, T.tb_OPS, by rw [← hb]; simp [opsT, hi], fun b kb => ixT kb.sq (atIn (by decide) rfl) r⟩
noncomputable def sp_alone_at (T : Txt K mg) : Sp := fun vs H Q E => ∃ (a : Addr) (ns : List Int) (p : Int), vs = [.ref a, .int p] ∧ H a = some (.lst (ns.map V.int)) ∧ 0 ≤ p ∧ (decF ns p = none → Q .non H) ∧ ∀ o, decF ns p = some o → ∀ x H', H x = none → Same H H' → OpAt T x H' o → Q (.ref x) H'
theorem sc_alone_at : FnScope ["row", "place", "word"] ["row", "place"] (defScope s_alone_at) := ⟨rfl, rfl, rfl, by decide +kernel, rfl, by decide +kernel, by decide +kernel⟩
theorem ok_alone_at (T : Txt K mg) : FnOk P w K mg base CX0 3 T.d_alone_at.f T.d_alone_at.fd ["row", "place"] (sp_alone_at T) := by
  have nd := sc_alone_at.nd
  refine T.d_alone_at.F.ok sc_alone_at (fun vs H Q E h => ?_) (fun cdv A outer s H vs Q E hr h => ?_)
  · obtain ⟨a, ns, p, rfl, ha, p0, q1, q2⟩ := h
    rfl
  · obtain ⟨a, ns, p, rfl, ha, p0, q1, q2⟩ := h
    have hu := hr.units0
    refine ⟨_, (pss_cons (ps_if (PW.pt (pw_or (pt_cmpR o_is (pc1 T.d_size_at (ok_size_at T) (hr.mono (by decide)) (pa1 (pv 0) (pa1 (pv 1) pa_nil))) pe_non (nomark _)) (pw_or1 (pt_cmpR (o_ne (K := K) hu) (pc1 T.d_way_at (ok_way_at T) (hr.mono (by decide)) (pa1 (pv 0) (pa1 (pv 1) pa_nil))) pe_str (nomark _))))) (pss_one (ps_ret pe_non)) pss_nil)
      (pss_cons (ps_set (i := 2) nd rfl (Or.inl rfl) (pc1 T.d_word_at (ok_word_at T) (hr.mono (by decide)) (pa1 (pv 0) (pa1 (pv 1) pa_nil))))
      (pss_cons (ps_if (pt_cmpR (o_eq (K := K) hu) (pv 2) pe_str (nomark _)) (pss_one (ps_ret (pmk T.mk_Small T.kp_Small T.m_Small T.d_Small___init__ (ok_Small___init__ T) (hr.mono (by decide)) (pa1 (pe_ix (o_ix (K := K)) (pv 0) (pe_op o_add (pv 1) pe_int) (fun _ _ => rfl)) pa_nil)))) pss_nil)
      (pss_cons (ps_if (pt_cmpR (o_eq (K := K) hu) (pv 2) pe_str (nomark _)) (pss_one (ps_ret (pmk T.mk_Push T.kp_Push T.m_Push T.d_Push___init__ (ok_Push___init__ T) (hr.mono (by decide)) (pa1 (pc1 T.d_word_in (ok_word_in T) (hr.mono (by decide)) (pa1 (pv 0) (pa1 (pe_op o_add (pv 1) pe_int) pa_nil))) pa_nil)))) pss_nil)
      (pss_one (ps_ret (pmk T.mk_Alone T.kp_Alone T.m_Alone T.d_Alone___init__ (ok_Alone___init__ T) (hr.mono (by decide)) (pa1 (pv 2) pa_nil)))))))), ?_⟩
    rw [show start ["row", "place", "word"] [V.ref a, V.int p] = [some (V.ref a), some (V.int p), none] from rfl]
    refine tSeq_gen fun B hB => ?_
    simp only [tSeq, tIfS, tRet, tRetN, tC, tVar, tOp, tUn, tTest, tB, tAnd, tOr, tNot, tAndV, tOrV, tNotV, tIf, tChain, tCons, tNil, tCall, tCB, tLst, tTup, tSl, tNoPart, tPart, gName, tNext, tDrop, tAsg, tAsgC, tBM, tYes, tDNewK, rI, rI0, rU, rEq, rNe, rAbs, rIntT, CDiv, add_ii, add_ss, mul_ii, mul_si, ix_si, eq_ii, eq_ss, eq_bb, ne_ii, ne_ss, ne_ni, ne_in, in_s1, notin_s1, is_xn, is_bb, isnot_xn, isnot_bb, sl_s, len_s, find_ss, index_ss, List.append_nil, List.cons_append, List.nil_append, List.getElem?_cons_succ, List.getElem?_cons_zero, List.set_cons_succ, List.set_cons_zero, Option.some.injEq, V.int.injEq, V.bl.injEq, V.str.injEq, V.ref.injEq, V.ty.injEq, List.cons.injEq, and_true, true_and, exists_eq_left, exists_eq_left', exists_and_left, exists_eq', exists_const, exists_and_right, exists_eq_right, exists_eq_right', reduceCtorEq, false_and, and_false, exists_false, or_false, false_or, decide_eq_true_eq, Bool.not_eq_true', decide_eq_false_iff_not, Bool.false_eq_true, if_false, if_true, mk_app, mk_len, sg_mk, mk_one, decide_true, decide_false, Bool.not_true, Bool.not_false, ite_true, ite_false, not_true_eq_false, not_false_eq_true, cxK, cutTo1, cutFrom1, mk_iff, tyV_str, stComp, List.map_cons, List.map_nil, Option.join_some, Option.join_none, gt_iff_lt, ge_iff_le, tRaise, tTryR, tCallH, tDisp, tPairs, tFld, sFld, tMake, tMeth, tBM0, tOrE, tRev, tLRng, l_e, l_b]
    refine ⟨a, ns, p, rfl, ha, p0, ?_⟩
    unfold decF at q1 q2
    cases hz : szF ns p with
    | none =>
      rw [hz] at q1
      exact iteT' rfl (q1 rfl)
    | some z =>
      rw [hz] at q1 q2
      dsimp only at q1 q2
      refine iteF' (by intro h; cases h) ?_
      obtain ⟨p1, eb, hs, pz⟩ := szF_some p0 hz
      obtain ⟨i, e, hi, hb, hz'⟩ := ops_ix hs
      refine ⟨a, ns, p, i, e, rfl, ha, p0, p1, hi, hb, ?_⟩
      rcases tabC hi with ⟨i18, rfl⟩ | ⟨rfl, rfl⟩ | ⟨rfl, rfl⟩ | ⟨hw, hg⟩
      · have hb' : ns.getD p.toNat 0 = 16 + (i : Int) := hb.symm
        rw [hb'] at q1 q2
        rw [if_pos (by omega)] at q2
        refine ne_ss.mpr ⟨_, rfl, iteF' (by simp) ?_⟩
        subst hB
        simp only [tSeq, tIfS, tRet, tRetN, tC, tVar, tOp, tUn, tTest, tB, tAnd, tOr, tNot, tAndV, tOrV, tNotV, tIf, tChain, tCons, tNil, tCall, tCB, tLst, tTup, tSl, tNoPart, tPart, gName, tNext, tDrop, tAsg, tAsgC, tBM, tYes, tDNewK, rI, rI0, rU, rEq, rNe, rAbs, rIntT, CDiv, add_ii, add_ss, mul_ii, mul_si, ix_si, eq_ii, eq_ss, eq_bb, ne_ii, ne_ss, ne_ni, ne_in, in_s1, notin_s1, is_xn, is_bb, isnot_xn, isnot_bb, sl_s, len_s, find_ss, index_ss, List.append_nil, List.cons_append, List.nil_append, List.getElem?_cons_succ, List.getElem?_cons_zero, List.set_cons_succ, List.set_cons_zero, Option.some.injEq, V.int.injEq, V.bl.injEq, V.str.injEq, V.ref.injEq, V.ty.injEq, List.cons.injEq, and_true, true_and, exists_eq_left, exists_eq_left', exists_and_left, exists_eq', exists_const, exists_and_right, exists_eq_right, exists_eq_right', reduceCtorEq, false_and, and_false, exists_false, or_false, false_or, decide_eq_true_eq, Bool.not_eq_true', decide_eq_false_iff_not, Bool.false_eq_true, if_false, if_true, mk_app, mk_len, sg_mk, mk_one, decide_true, decide_false, Bool.not_true, Bool.not_false, ite_true, ite_false, not_true_eq_false, not_false_eq_true, cxK, cutTo1, cutFrom1, mk_iff, tyV_str, stComp, List.map_cons, List.map_nil, Option.join_some, Option.join_none, gt_iff_lt, ge_iff_le, tRaise, tTryR, tCallH, tDisp, tPairs, tFld, sFld, tMake, tMeth, tBM0, tOrE, tRev, tLRng, l_e, l_b]
        refine ⟨a, ns, p, i, _, rfl, ha, p0, p1, hi, hb, ?_⟩
        obtain ⟨n1, n2⟩ := al_ne i i18
        dsimp only
        refine eq_ss.mpr ⟨_, rfl, iteF' (by simpa using n1) (eq_ss.mpr ⟨_, rfl, iteF' (by simpa using n2) fun x dx nx ndx nxd => ⟨x, dx, _, rfl, upd_same, rfl, ?_⟩⟩)⟩
        refine q2 (.al i) (by congr 2; omega) x _ nx (Same.set (made_same (C := x) nx ndx) nx) ⟨dx, upd_same⟩
      · have hb' : ns.getD p.toNat 0 = 48 := hb.symm
        rw [hb'] at q1 q2
        rw [if_neg (by decide), if_pos rfl] at q2
        have z2 : z = 2 := hz'.symm
        refine ne_ss.mpr ⟨_, rfl, iteF' (by simp) ?_⟩
        subst hB
        simp only [tSeq, tIfS, tRet, tRetN, tC, tVar, tOp, tUn, tTest, tB, tAnd, tOr, tNot, tAndV, tOrV, tNotV, tIf, tChain, tCons, tNil, tCall, tCB, tLst, tTup, tSl, tNoPart, tPart, gName, tNext, tDrop, tAsg, tAsgC, tBM, tYes, tDNewK, rI, rI0, rU, rEq, rNe, rAbs, rIntT, CDiv, add_ii, add_ss, mul_ii, mul_si, ix_si, eq_ii, eq_ss, eq_bb, ne_ii, ne_ss, ne_ni, ne_in, in_s1, notin_s1, is_xn, is_bb, isnot_xn, isnot_bb, sl_s, len_s, find_ss, index_ss, List.append_nil, List.cons_append, List.nil_append, List.getElem?_cons_succ, List.getElem?_cons_zero, List.set_cons_succ, List.set_cons_zero, Option.some.injEq, V.int.injEq, V.bl.injEq, V.str.injEq, V.ref.injEq, V.ty.injEq, List.cons.injEq, and_true, true_and, exists_eq_left, exists_eq_left', exists_and_left, exists_eq', exists_const, exists_and_right, exists_eq_right, exists_eq_right', reduceCtorEq, false_and, and_false, exists_false, or_false, false_or, decide_eq_true_eq, Bool.not_eq_true', decide_eq_false_iff_not, Bool.false_eq_true, if_false, if_true, mk_app, mk_len, sg_mk, mk_one, decide_true, decide_false, Bool.not_true, Bool.not_false, ite_true, ite_false, not_true_eq_false, not_false_eq_true, cxK, cutTo1, cutFrom1, mk_iff, tyV_str, stComp, List.map_cons, List.map_nil, Option.join_some, Option.join_none, gt_iff_lt, ge_iff_le, tRaise, tTryR, tCallH, tDisp, tPairs, tFld, sFld, tMake, tMeth, tBM0, tOrE, tRev, tLRng, l_e, l_b]
        refine ⟨a, ns, p, 18, _, rfl, ha, p0, p1, hi, hb, ?_⟩
        dsimp only
        refine eq_ss.mpr ⟨_, rfl, iteT' (by simp) (ixL (SqL.of ha) (getI (by omega) (by omega)) fun x dx nx ndx nxd => ⟨x, dx, _, rfl, upd_same, rfl, ?_⟩)⟩
        rw [show (p + 1).toNat = p.toNat + 1 by omega]
        exact q2 _ rfl x _ nx (Same.set (made_same (C := x) nx ndx) nx) ⟨dx, upd_same⟩
      · have hb' : ns.getD p.toNat 0 = 49 := hb.symm
        rw [hb'] at q1 q2
        rw [if_neg (by decide), if_neg (by decide), if_pos rfl] at q2
        have z2 : z = 3 := hz'.symm
        refine ne_ss.mpr ⟨_, rfl, iteF' (by simp) ?_⟩
        subst hB
        simp only [tSeq, tIfS, tRet, tRetN, tC, tVar, tOp, tUn, tTest, tB, tAnd, tOr, tNot, tAndV, tOrV, tNotV, tIf, tChain, tCons, tNil, tCall, tCB, tLst, tTup, tSl, tNoPart, tPart, gName, tNext, tDrop, tAsg, tAsgC, tBM, tYes, tDNewK, rI, rI0, rU, rEq, rNe, rAbs, rIntT, CDiv, add_ii, add_ss, mul_ii, mul_si, ix_si, eq_ii, eq_ss, eq_bb, ne_ii, ne_ss, ne_ni, ne_in, in_s1, notin_s1, is_xn, is_bb, isnot_xn, isnot_bb, sl_s, len_s, find_ss, index_ss, List.append_nil, List.cons_append, List.nil_append, List.getElem?_cons_succ, List.getElem?_cons_zero, List.set_cons_succ, List.set_cons_zero, Option.some.injEq, V.int.injEq, V.bl.injEq, V.str.injEq, V.ref.injEq, V.ty.injEq, List.cons.injEq, and_true, true_and, exists_eq_left, exists_eq_left', exists_and_left, exists_eq', exists_const, exists_and_right, exists_eq_right, exists_eq_right', reduceCtorEq, false_and, and_false, exists_false, or_false, false_or, decide_eq_true_eq, Bool.not_eq_true', decide_eq_false_iff_not, Bool.false_eq_true, if_false, if_true, mk_app, mk_len, sg_mk, mk_one, decide_true, decide_false, Bool.not_true, Bool.not_false, ite_true, ite_false, not_true_eq_false, not_false_eq_true, cxK, cutTo1, cutFrom1, mk_iff, tyV_str, stComp, List.map_cons, List.map_nil, Option.join_some, Option.join_none, gt_iff_lt, ge_iff_le, tRaise, tTryR, tCallH, tDisp, tPairs, tFld, sFld, tMake, tMeth, tBM0, tOrE, tRev, tLRng, l_e, l_b]
        refine ⟨a, ns, p, 19, _, rfl, ha, p0, p1, hi, hb, ?_⟩
        dsimp only
        refine eq_ss.mpr ⟨_, rfl, iteF' (by decide +kernel) (eq_ss.mpr ⟨_, rfl, iteT' (by simp) ⟨a, _, p + 1, _, _, rfl, SqL.of ha, getI (by omega) (by omega), getI (by omega) (by omega), fun x dx nx ndx nxd => ⟨x, dx, _, rfl, upd_same, rfl, ?_⟩⟩⟩)⟩
        rw [show (p + 1).toNat = p.toNat + 1 by omega, show (p + 1 + 1).toNat = p.toNat + 2 by omega]
        exact q2 _ rfl x _ nx (Same.set (made_same (C := x) nx ndx) nx) ⟨dx, upd_same⟩
      · rw [← hb] at q1
        rw [if_neg (by omega), if_neg (by omega), if_neg (by omega)] at q1
        exact ne_ss.mpr ⟨_, rfl, iteT' (by simpa using hw) (q1 rfl)⟩
noncomputable def sp__law_cell_at (K : PySem.W.Frag) : Sp := fun vs H Q E => ∃ (a : Addr) (ns : List Int) (k : Int), vs = [.ref a, .int k] ∧ SqL K H a (ns.map V.int) ∧ 0 ≤ k ∧ ∀ n, Q (.int n) H
theorem sc__law_cell_at : FnScope ["_law_script", "_law_k"] ["_law_script", "_law_k"] (defScope s__law_cell_at) := ⟨rfl, rfl, rfl, by decide +kernel, rfl, by decide +kernel, by decide +kernel⟩
theorem ok__law_cell_at (T : Txt K mg) : FnOk P w K mg base CX0 1 T.d__law_cell_at.f T.d__law_cell_at.fd ["_law_script", "_law_k"] (sp__law_cell_at K) := by
  have nd := sc__law_cell_at.nd
  refine T.d__law_cell_at.F.ok sc__law_cell_at (fun vs H Q E h => ?_) (fun cdv A outer s H vs Q E hr h => ?_)
  · obtain ⟨a, ns, k, rfl, hq, h0, q⟩ := h
    rfl
  · obtain ⟨a, ns, k, rfl, hq, h0, q⟩ := h
    have hu := hr.units0
    refine ⟨_, (pss_cons (ps_if (pt_cmpR op_lt (pv 1) (pcB (o_len (K := K)) rfl T.n_len (by kernel_rfl) (pa1 (pv 0) pa_nil)) (nomark _)) (pss_one (ps_ret (pe_ix (o_ix (K := K)) (pv 0) (pv 1) (fun _ _ => rfl)))) pss_nil)
      (pss_one (ps_ret pe_int))), ?_⟩
    rw [show start ["_law_script", "_law_k"] [V.ref a, V.int k] = [some (V.ref a), some (V.int k)] from rfl]
    simp only [tSeq, tIfS, tRet, tRetN, tC, tVar, tOp, tUn, tTest, tB, tAnd, tOr, tNot, tAndV, tOrV, tNotV, tIf, tChain, tCons, tNil, tCall, tCB, tLst, tTup, tSl, tNoPart, tPart, gName, tNext, tDrop, tAsg, tAsgC, tBM, tYes, tDNewK, rI, rI0, rU, rEq, rNe, rAbs, rIntT, CDiv, add_ii, add_ss, mul_ii, mul_si, ix_si, eq_ii, eq_ss, eq_bb, ne_ii, ne_ss, ne_ni, ne_in, in_s1, notin_s1, is_xn, is_bb, isnot_xn, isnot_bb, sl_s, len_s, find_ss, index_ss, List.append_nil, List.cons_append, List.nil_append, List.getElem?_cons_succ, List.getElem?_cons_zero, List.set_cons_succ, List.set_cons_zero, Option.some.injEq, V.int.injEq, V.bl.injEq, V.str.injEq, V.ref.injEq, V.ty.injEq, List.cons.injEq, and_true, true_and, exists_eq_left, exists_eq_left', exists_and_left, exists_eq', exists_const, exists_and_right, exists_eq_right, exists_eq_right', reduceCtorEq, false_and, and_false, exists_false, or_false, false_or, decide_eq_true_eq, Bool.not_eq_true', decide_eq_false_iff_not, Bool.false_eq_true, if_false, if_true, mk_app, mk_len, sg_mk, mk_one, decide_true, decide_false, Bool.not_true, Bool.not_false, ite_true, ite_false, not_true_eq_false, not_false_eq_true, cxK, cutTo1, cutFrom1, mk_iff, tyV_str, stComp, List.map_cons, List.map_nil, Option.join_some, Option.join_none, gt_iff_lt, ge_iff_le, tRaise, tTryR, tCallH, tDisp, tPairs, tFld, sFld, tMake, tMeth, tBM0, tOrE, tRev, tLRng, l_e, l_b]
    refine lenL hq ?_
    simp only [tSeq, tIfS, tRet, tRetN, tC, tVar, tOp, tUn, tTest, tB, tAnd, tOr, tNot, tAndV, tOrV, tNotV, tIf, tChain, tCons, tNil, tCall, tCB, tLst, tTup, tSl, tNoPart, tPart, gName, tNext, tDrop, tAsg, tAsgC, tBM, tYes, tDNewK, rI, rI0, rU, rEq, rNe, rAbs, rIntT, CDiv, add_ii, add_ss, mul_ii, mul_si, ix_si, eq_ii, eq_ss, eq_bb, ne_ii, ne_ss, ne_ni, ne_in, in_s1, notin_s1, is_xn, is_bb, isnot_xn, isnot_bb, sl_s, len_s, find_ss, index_ss, List.append_nil, List.cons_append, List.nil_append, List.getElem?_cons_succ, List.getElem?_cons_zero, List.set_cons_succ, List.set_cons_zero, Option.some.injEq, V.int.injEq, V.bl.injEq, V.str.injEq, V.ref.injEq, V.ty.injEq, List.cons.injEq, and_true, true_and, exists_eq_left, exists_eq_left', exists_and_left, exists_eq', exists_const, exists_and_right, exists_eq_right, exists_eq_right', reduceCtorEq, false_and, and_false, exists_false, or_false, false_or, decide_eq_true_eq, Bool.not_eq_true', decide_eq_false_iff_not, Bool.false_eq_true, if_false, if_true, mk_app, mk_len, sg_mk, mk_one, decide_true, decide_false, Bool.not_true, Bool.not_false, ite_true, ite_false, not_true_eq_false, not_false_eq_true, cxK, cutTo1, cutFrom1, mk_iff, tyV_str, stComp, List.map_cons, List.map_nil, Option.join_some, Option.join_none, gt_iff_lt, ge_iff_le, tRaise, tTryR, tCallH, tDisp, tPairs, tFld, sFld, tMake, tMeth, tBM0, tOrE, tRev, tLRng, l_e, l_b]
    rw [List.length_map]
    refine ite2 (fun h => ?_) fun h => ?_
    · have hk : k.toNat < ns.length := by omega
      exact ixL hq (atIn (c := V.int (ns[k.toNat])) h0 (by simp [hk])) (q _)
    · exact q _
noncomputable def sp__law_mixed : Sp := fun vs H Q E => ∃ c k, vs = [.int c, .int k] ∧ 0 ≤ k ∧ k ≤ 1000 ∧ ∀ r, 0 ≤ r → r < 1000003 → Q (.int r) H
theorem sc__law_mixed : FnScope ["_law_cell", "_law_k", "_law_number_here"] ["_law_cell", "_law_k"] (defScope s__law_mixed) := ⟨rfl, rfl, rfl, by decide +kernel, rfl, by decide +kernel, by decide +kernel⟩
theorem ok__law_mixed (T : Txt K mg) : FnOk P w K mg base CX0 1 T.d__law_mixed.f T.d__law_mixed.fd ["_law_cell", "_law_k"] (sp__law_mixed) := by
  have nd := sc__law_mixed.nd
  refine T.d__law_mixed.F.ok sc__law_mixed (fun vs H Q E h => ?_) (fun cdv A outer s H vs Q E hr h => ?_)
  · obtain ⟨c, k, rfl, h0, h1, q⟩ := h
    rfl
  · obtain ⟨c, k, rfl, h0, h1, q⟩ := h
    have hu := hr.units0
    refine ⟨_, (pss_cons (ps_set (i := 2) nd rfl (Or.inl rfl) (pe_op op_mod (pe_op o_add (pe_op o_add (pe_op o_mul (pv 0) pe_int) (pe_op o_mul pe_int (pv 1))) pe_int) pe_int))
      (pss_one (ps_ret (pe_op op_mod (pe_op o_mul (pe_op op_mod (pe_op o_mul (pv 2) (pv 2)) pe_int) (pv 2)) pe_int)))), ?_⟩
    rw [show start ["_law_cell", "_law_k", "_law_number_here"] [V.int c, V.int k] = [some (V.int c), some (V.int k), none] from rfl]
    simp only [tSeq, tIfS, tRet, tRetN, tC, tVar, tOp, tUn, tTest, tB, tAnd, tOr, tNot, tAndV, tOrV, tNotV, tIf, tChain, tCons, tNil, tCall, tCB, tLst, tTup, tSl, tNoPart, tPart, gName, tNext, tDrop, tAsg, tAsgC, tBM, tYes, tDNewK, rI, rI0, rU, rEq, rNe, rAbs, rIntT, CDiv, add_ii, add_ss, mul_ii, mul_si, ix_si, eq_ii, eq_ss, eq_bb, ne_ii, ne_ss, ne_ni, ne_in, in_s1, notin_s1, is_xn, is_bb, isnot_xn, isnot_bb, sl_s, len_s, find_ss, index_ss, List.append_nil, List.cons_append, List.nil_append, List.getElem?_cons_succ, List.getElem?_cons_zero, List.set_cons_succ, List.set_cons_zero, Option.some.injEq, V.int.injEq, V.bl.injEq, V.str.injEq, V.ref.injEq, V.ty.injEq, List.cons.injEq, and_true, true_and, exists_eq_left, exists_eq_left', exists_and_left, exists_eq', exists_const, exists_and_right, exists_eq_right, exists_eq_right', reduceCtorEq, false_and, and_false, exists_false, or_false, false_or, decide_eq_true_eq, Bool.not_eq_true', decide_eq_false_iff_not, Bool.false_eq_true, if_false, if_true, mk_app, mk_len, sg_mk, mk_one, decide_true, decide_false, Bool.not_true, Bool.not_false, ite_true, ite_false, not_true_eq_false, not_false_eq_true, cxK, cutTo1, cutFrom1, mk_iff, tyV_str, stComp, List.map_cons, List.map_nil, Option.join_some, Option.join_none, gt_iff_lt, ge_iff_le, tRaise, tTryR, tCallH, tDisp, tPairs, tFld, sFld, tMake, tMeth, tBM0, tOrE, tRev, tLRng, l_e, l_b]
    generalize hn : (c * 48271 + 7919 * k + 11) % 1000003 = n
    have n0 : 0 ≤ n ∧ n < 1000003 := by rw [← hn]; exact ⟨Int.emod_nonneg _ (by decide), Int.emod_lt_of_pos _ (by decide)⟩
    have c2 : ∀ {x : Int}, CMul x n := .inr ⟨by omega, by omega⟩
    exact ⟨.inr ⟨by decide, by decide⟩, .inl ⟨by decide, by decide⟩, by decide, c2, by decide, c2, by decide, q _ (Int.emod_nonneg _ (by decide)) (Int.emod_lt_of_pos _ (by decide))⟩
noncomputable def sp__law_number : Sp := fun vs H Q E => ∃ c, vs = [.int c] ∧ ∀ r H', Same H H' → 0 ≤ r → r < 65536 → Q (.int r) H'
theorem sc__law_number : FnScope ["_law_cell", "_law_more"] ["_law_cell"] (defScope s__law_number) := ⟨rfl, rfl, rfl, by decide +kernel, rfl, by decide +kernel, by decide +kernel⟩
theorem ok__law_number (T : Txt K mg) : FnOk P w K mg base CX0 1 T.d__law_number.f T.d__law_number.fd ["_law_cell"] (sp__law_number) := by
  have nd := sc__law_number.nd
  refine T.d__law_number.F.ok sc__law_number (fun vs H Q E h => ?_) (fun cdv A outer s H vs Q E hr h => ?_)
  · obtain ⟨c, rfl, q⟩ := h
    rfl
  · obtain ⟨c, rfl, q⟩ := h
    have hu := hr.units0
    refine ⟨_, (pss_cons (ps_set (i := 1) nd rfl (Or.inl rfl) (pe_op op_fdiv (pv 0) pe_int))
      (pss_one (ps_ret (pe_ix (o_ix (K := K)) (pe_lst (pa1 (pe_op op_mod (pv 1) pe_int) (pa1 pe_int (pa1 pe_int (pa1 (pe_op o_add (pe_op op_sub pe_int (pe_op op_mod (pv 1) pe_int)) pe_int) (pa1 (pe_op op_mod (pv 1) pe_int) (pa1 (pe_op op_mod (pv 1) pe_int) pa_nil))))))) (pe_op op_mod (pv 0) pe_int) (fun _ _ => rfl))))), ?_⟩
    rw [show start ["_law_cell", "_law_more"] [V.int c] = [some (V.int c), none] from rfl]
    simp only [tSeq, tIfS, tRet, tRetN, tC, tVar, tOp, tUn, tTest, tB, tAnd, tOr, tNot, tAndV, tOrV, tNotV, tIf, tChain, tCons, tNil, tCall, tCB, tLst, tTup, tSl, tNoPart, tPart, gName, tNext, tDrop, tAsg, tAsgC, tBM, tYes, tDNewK, rI, rI0, rU, rEq, rNe, rAbs, rIntT, CDiv, add_ii, add_ss, mul_ii, mul_si, ix_si, eq_ii, eq_ss, eq_bb, ne_ii, ne_ss, ne_ni, ne_in, in_s1, notin_s1, is_xn, is_bb, isnot_xn, isnot_bb, sl_s, len_s, find_ss, index_ss, List.append_nil, List.cons_append, List.nil_append, List.getElem?_cons_succ, List.getElem?_cons_zero, List.set_cons_succ, List.set_cons_zero, Option.some.injEq, V.int.injEq, V.bl.injEq, V.str.injEq, V.ref.injEq, V.ty.injEq, List.cons.injEq, and_true, true_and, exists_eq_left, exists_eq_left', exists_and_left, exists_eq', exists_const, exists_and_right, exists_eq_right, exists_eq_right', reduceCtorEq, false_and, and_false, exists_false, or_false, false_or, decide_eq_true_eq, Bool.not_eq_true', decide_eq_false_iff_not, Bool.false_eq_true, if_false, if_true, mk_app, mk_len, sg_mk, mk_one, decide_true, decide_false, Bool.not_true, Bool.not_false, ite_true, ite_false, not_true_eq_false, not_false_eq_true, cxK, cutTo1, cutFrom1, mk_iff, tyV_str, stComp, List.map_cons, List.map_nil, Option.join_some, Option.join_none, gt_iff_lt, ge_iff_le, tRaise, tTryR, tCallH, tDisp, tPairs, tFld, sFld, tMake, tMeth, tBM0, tOrE, tRev, tLRng, l_e, l_b]
    refine ⟨⟨by decide, by decide⟩, by decide, by decide, by decide, by decide, sl1000 (by simp), fun l nl => ⟨by decide, ?_⟩⟩
    have key : ∃ y : Int, ([V.int (c / 6 % 9), V.int 0, V.int 65535, V.int (255 - c / 6 % 3 + 1), V.int (c / 6 % 65536), V.int (c / 6 % 256)] : List V)[(c % 6).toNat]? = some (V.int y) ∧ 0 ≤ y ∧ y < 65536 := by
      have h6 : (c % 6).toNat < 6 := by omega
      generalize (c % 6).toNat = j at h6
      match j, h6 with
      | 0, _ => exact ⟨_, rfl, by omega, by omega⟩
      | 1, _ => exact ⟨_, rfl, by omega, by omega⟩
      | 2, _ => exact ⟨_, rfl, by omega, by omega⟩
      | 3, _ => exact ⟨_, rfl, by omega, by omega⟩
      | 4, _ => exact ⟨_, rfl, by omega, by omega⟩
      | 5, _ => exact ⟨_, rfl, by omega, by omega⟩
      | j + 6, h => omega
    obtain ⟨y, ey, y0, y1⟩ := key
    exact ixL (SqL.of upd_same) (atIn (by omega) ey) (q _ _ (Same.upd (Same.refl H) nl) y0 y1)
noncomputable def sp__law_alones : Sp := fun vs H Q E => vs = [] ∧ ∀ l H', H l = none → Same H H' → H' l = some (.lst (alW.map V.str)) → Q (.ref l) H'
theorem sc__law_alones : FnScope [] [] (defScope s__law_alones) := ⟨rfl, rfl, rfl, by decide +kernel, rfl, by decide +kernel, by decide +kernel⟩
theorem ok__law_alones (T : Txt K mg) : FnOk P w K mg base CX0 1 T.d__law_alones.f T.d__law_alones.fd [] (sp__law_alones) := by
  have nd := sc__law_alones.nd
  refine T.d__law_alones.F.ok sc__law_alones (fun vs H Q E h => ?_) (fun cdv A outer s H vs Q E hr h => ?_)
  · obtain ⟨rfl, q⟩ := h
    rfl
  · obtain ⟨rfl, q⟩ := h
    have hu := hr.units0
    refine ⟨_, (pss_one (ps_ret (pm1 (K := K) PySem.F.plainAttrs_str PySem.F.slot_str_split PySem.F.type_str_split o_split pe_str (pa1 pe_str pa_nil)))), ?_⟩
    rw [show start [] [] = [] from rfl]
    simp only [tSeq, tIfS, tRet, tRetN, tC, tVar, tOp, tUn, tTest, tB, tAnd, tOr, tNot, tAndV, tOrV, tNotV, tIf, tChain, tCons, tNil, tCall, tCB, tLst, tTup, tSl, tNoPart, tPart, gName, tNext, tDrop, tAsg, tAsgC, tBM, tYes, tDNewK, rI, rI0, rU, rEq, rNe, rAbs, rIntT, CDiv, add_ii, add_ss, mul_ii, mul_si, ix_si, eq_ii, eq_ss, eq_bb, ne_ii, ne_ss, ne_ni, ne_in, in_s1, notin_s1, is_xn, is_bb, isnot_xn, isnot_bb, sl_s, len_s, find_ss, index_ss, List.append_nil, List.cons_append, List.nil_append, List.getElem?_cons_succ, List.getElem?_cons_zero, List.set_cons_succ, List.set_cons_zero, Option.some.injEq, V.int.injEq, V.bl.injEq, V.str.injEq, V.ref.injEq, V.ty.injEq, List.cons.injEq, and_true, true_and, exists_eq_left, exists_eq_left', exists_and_left, exists_eq', exists_const, exists_and_right, exists_eq_right, exists_eq_right', reduceCtorEq, false_and, and_false, exists_false, or_false, false_or, decide_eq_true_eq, Bool.not_eq_true', decide_eq_false_iff_not, Bool.false_eq_true, if_false, if_true, mk_app, mk_len, sg_mk, mk_one, decide_true, decide_false, Bool.not_true, Bool.not_false, ite_true, ite_false, not_true_eq_false, not_false_eq_true, cxK, cutTo1, cutFrom1, mk_iff, tyV_str, stComp, List.map_cons, List.map_nil, Option.join_some, Option.join_none, gt_iff_lt, ge_iff_le, tRaise, tTryR, tCallH, tDisp, tPairs, tFld, sFld, tMake, tMeth, tBM0, tOrE, tRev, tLRng, l_e, l_b]
    obtain ⟨h1, h2, h3⟩ := alones_ok
    exact ⟨_, _, rfl, rfl, by decide +kernel, h3, h2, fun p np => q p _ np (Same.upd (Same.refl H) np) (by rw [upd_same]; exact congrArg (fun z => some (HO.lst (z.map V.str))) h1)⟩
noncomputable def sp__law_op (K : PySem.W.Frag) : Sp := fun vs H Q E => ∃ (c : Int) (a : Addr) (ls : List (List Nat)), vs = [.int c, .ref a] ∧ H a = some (.lst (ls.map fun w => V.str (mkS w))) ∧ ls.length = 1 ∧ (∀ w ∈ ls, OkN w) ∧ ∀ (o : OpD) t H', o.ok → Same H H' → H' t = some (.tup [.str o.kind, .str o.word, o.about]) → Q (.ref t) H'
theorem sc__law_op : FnScope ["_law_cell", "_law_names", "_law_number_here", "_law_kind", "_law_word"] ["_law_cell", "_law_names"] (defScope s__law_op) := ⟨rfl, rfl, rfl, by decide +kernel, rfl, by decide +kernel, by decide +kernel⟩
theorem ok__law_op (T : Txt K mg) : FnOk P w K mg base CX0 2 T.d__law_op.f T.d__law_op.fd ["_law_cell", "_law_names"] (sp__law_op K) := by
  have nd := sc__law_op.nd
  refine T.d__law_op.F.ok sc__law_op (fun vs H Q E h => ?_) (fun cdv A outer s H vs Q E hr h => ?_)
  · obtain ⟨c, a, ls, rfl, ha, ll, hls, q⟩ := h
    rfl
  · obtain ⟨c, a, ls, rfl, ha, ll, hls, q⟩ := h
    have hu := hr.units0
    refine ⟨_, (pss_cons (ps_set (i := 2) nd rfl (Or.inl rfl) (pc1 T.d__law_mixed (ok__law_mixed T) (hr.mono (by decide)) (pa1 (pv 0) (pa1 pe_int pa_nil))))
      (pss_cons (ps_set (i := 3) nd rfl (Or.inl rfl) (pe_op op_mod (pv 2) pe_int))
      (pss_cons (ps_if (pt_cmpR (o_eq (K := K) hu) (pv 3) pe_int (nomark _)) (pss_one (ps_ret (pe_tup (pa1 pe_str (pa1 (pe_ix (o_ix (K := K)) (pc0 T.d__law_alones (ok__law_alones T) (hr.mono (by decide))) (pe_op op_mod (pe_op op_fdiv (pv 2) pe_int) pe_int) (fun _ _ => rfl)) (pa1 pe_non pa_nil)))))) pss_nil)
      (pss_cons (ps_if (pt_cmpR (o_eq (K := K) hu) (pv 3) pe_int (nomark _)) (pss_one (ps_ret (pe_tup (pa1 pe_str (pa1 pe_str (pa1 (pe_op op_mod (pc1 T.d__law_number (ok__law_number T) (hr.mono (by decide)) (pa1 (pe_op op_fdiv (pv 2) pe_int) pa_nil)) pe_int) pa_nil)))))) pss_nil)
      (pss_cons (ps_if (pt_cmpR (o_eq (K := K) hu) (pv 3) pe_int (nomark _)) (pss_one (ps_ret (pe_tup (pa1 pe_str (pa1 pe_str (pa1 (pc1 T.d__law_number (ok__law_number T) (hr.mono (by decide)) (pa1 (pe_op op_fdiv (pv 2) pe_int) pa_nil)) pa_nil)))))) pss_nil)
      (pss_cons (ps_set (i := 4) nd rfl (Or.inl rfl) (pe_ix (o_ix (K := K)) (pe_ix (o_ix (K := K)) (pe_lst (pa1 (pe_lst (pa1 pe_str (pa1 pe_str (pa1 pe_str pa_nil)))) (pa1 (pe_lst (pa1 pe_str (pa1 pe_str (pa1 pe_str pa_nil)))) pa_nil))) (pe_op op_sub (pv 3) pe_int) (fun _ _ => rfl)) (pe_op op_mod (pe_op op_fdiv (pv 2) pe_int) pe_int) (fun _ _ => rfl)))
      (pss_one (ps_ret (pe_tup (pa1 (pe_ix (o_ix (K := K)) (pe_lst (pa1 pe_str (pa1 pe_str pa_nil))) (pe_op op_sub (pv 3) pe_int) (fun _ _ => rfl)) (pa1 (pv 4) (pa1 (pe_ix (o_ix (K := K)) (pv 1) (pe_op op_mod (pe_op op_fdiv (pv 2) pe_int) (pcB (o_len (K := K)) rfl T.n_len (by kernel_rfl) (pa1 (pv 1) pa_nil))) (fun _ _ => rfl)) pa_nil)))))))))))), ?_⟩
    rw [show start ["_law_cell", "_law_names", "_law_number_here", "_law_kind", "_law_word"] [V.int c, V.ref a] = [some (V.int c), some (V.ref a), none, none, none] from rfl]
    refine tSeq_gen fun B hB => ?_
    simp only [tSeq, tIfS, tRet, tRetN, tC, tVar, tOp, tUn, tTest, tB, tAnd, tOr, tNot, tAndV, tOrV, tNotV, tIf, tChain, tCons, tNil, tCall, tCB, tLst, tTup, tSl, tNoPart, tPart, gName, tNext, tDrop, tAsg, tAsgC, tBM, tYes, tDNewK, rI, rI0, rU, rEq, rNe, rAbs, rIntT, CDiv, add_ii, add_ss, mul_ii, mul_si, ix_si, eq_ii, eq_ss, eq_bb, ne_ii, ne_ss, ne_ni, ne_in, in_s1, notin_s1, is_xn, is_bb, isnot_xn, isnot_bb, sl_s, len_s, find_ss, index_ss, List.append_nil, List.cons_append, List.nil_append, List.getElem?_cons_succ, List.getElem?_cons_zero, List.set_cons_succ, List.set_cons_zero, Option.some.injEq, V.int.injEq, V.bl.injEq, V.str.injEq, V.ref.injEq, V.ty.injEq, List.cons.injEq, and_true, true_and, exists_eq_left, exists_eq_left', exists_and_left, exists_eq', exists_const, exists_and_right, exists_eq_right, exists_eq_right', reduceCtorEq, false_and, and_false, exists_false, or_false, false_or, decide_eq_true_eq, Bool.not_eq_true', decide_eq_false_iff_not, Bool.false_eq_true, if_false, if_true, mk_app, mk_len, sg_mk, mk_one, decide_true, decide_false, Bool.not_true, Bool.not_false, ite_true, ite_false, not_true_eq_false, not_false_eq_true, cxK, cutTo1, cutFrom1, mk_iff, tyV_str, stComp, List.map_cons, List.map_nil, Option.join_some, Option.join_none, gt_iff_lt, ge_iff_le, tRaise, tTryR, tCallH, tDisp, tPairs, tFld, sFld, tMake, tMeth, tBM0, tOrE, tRev, tLRng, l_e, l_b]
    refine ⟨c, 5, rfl, by decide, by decide, fun r r0 r1 => ?_⟩
    subst hB
    refine tSeq_gen fun B hB => ?_
    simp only [tSeq, tIfS, tRet, tRetN, tC, tVar, tOp, tUn, tTest, tB, tAnd, tOr, tNot, tAndV, tOrV, tNotV, tIf, tChain, tCons, tNil, tCall, tCB, tLst, tTup, tSl, tNoPart, tPart, gName, tNext, tDrop, tAsg, tAsgC, tBM, tYes, tDNewK, rI, rI0, rU, rEq, rNe, rAbs, rIntT, CDiv, add_ii, add_ss, mul_ii, mul_si, ix_si, eq_ii, eq_ss, eq_bb, ne_ii, ne_ss, ne_ni, ne_in, in_s1, notin_s1, is_xn, is_bb, isnot_xn, isnot_bb, sl_s, len_s, find_ss, index_ss, List.append_nil, List.cons_append, List.nil_append, List.getElem?_cons_succ, List.getElem?_cons_zero, List.set_cons_succ, List.set_cons_zero, Option.some.injEq, V.int.injEq, V.bl.injEq, V.str.injEq, V.ref.injEq, V.ty.injEq, List.cons.injEq, and_true, true_and, exists_eq_left, exists_eq_left', exists_and_left, exists_eq', exists_const, exists_and_right, exists_eq_right, exists_eq_right', reduceCtorEq, false_and, and_false, exists_false, or_false, false_or, decide_eq_true_eq, Bool.not_eq_true', decide_eq_false_iff_not, Bool.false_eq_true, if_false, if_true, mk_app, mk_len, sg_mk, mk_one, decide_true, decide_false, Bool.not_true, Bool.not_false, ite_true, ite_false, not_true_eq_false, not_false_eq_true, cxK, cutTo1, cutFrom1, mk_iff, tyV_str, stComp, List.map_cons, List.map_nil, Option.join_some, Option.join_none, gt_iff_lt, ge_iff_le, tRaise, tTryR, tCallH, tDisp, tPairs, tFld, sFld, tMake, tMeth, tBM0, tOrE, tRev, tLRng, l_e, l_b]
    refine ⟨by decide, ?_⟩
    subst hB
    have h5 : r % 5 = 0 ∨ r % 5 = 1 ∨ r % 5 = 2 ∨ r % 5 = 3 ∨ r % 5 = 4 := by omega
    rcases h5 with h | h | h | h | h <;> rw [h]
    · simp only [tSeq, tIfS, tRet, tRetN, tC, tVar, tOp, tUn, tTest, tB, tAnd, tOr, tNot, tAndV, tOrV, tNotV, tIf, tChain, tCons, tNil, tCall, tCB, tLst, tTup, tSl, tNoPart, tPart, gName, tNext, tDrop, tAsg, tAsgC, tBM, tYes, tDNewK, rI, rI0, rU, rEq, rNe, rAbs, rIntT, CDiv, add_ii, add_ss, mul_ii, mul_si, ix_si, eq_ii, eq_ss, eq_bb, ne_ii, ne_ss, ne_ni, ne_in, in_s1, notin_s1, is_xn, is_bb, isnot_xn, isnot_bb, sl_s, len_s, find_ss, index_ss, List.append_nil, List.cons_append, List.nil_append, List.getElem?_cons_succ, List.getElem?_cons_zero, List.set_cons_succ, List.set_cons_zero, Option.some.injEq, V.int.injEq, V.bl.injEq, V.str.injEq, V.ref.injEq, V.ty.injEq, List.cons.injEq, and_true, true_and, exists_eq_left, exists_eq_left', exists_and_left, exists_eq', exists_const, exists_and_right, exists_eq_right, exists_eq_right', reduceCtorEq, false_and, and_false, exists_false, or_false, false_or, decide_eq_true_eq, Bool.not_eq_true', decide_eq_false_iff_not, Bool.false_eq_true, if_false, if_true, mk_app, mk_len, sg_mk, mk_one, decide_true, decide_false, Bool.not_true, Bool.not_false, ite_true, ite_false, not_true_eq_false, not_false_eq_true, cxK, cutTo1, cutFrom1, mk_iff, tyV_str, stComp, List.map_cons, List.map_nil, Option.join_some, Option.join_none, gt_iff_lt, ge_iff_le, tRaise, tTryR, tCallH, tDisp, tPairs, tFld, sFld, tMake, tMeth, tBM0, tOrE, tRev, tLRng, l_e, l_b]
      refine ⟨rfl, fun l H1 nl S el => ⟨⟨by decide, by decide⟩, by decide, ?_⟩⟩
      obtain ⟨i, hi, ei⟩ : ∃ i, i < 18 ∧ (r / 5 % 18).toNat = i := ⟨_, by omega, rfl⟩
      refine ixL (SqL.of el) (atIn (by omega) (by rw [ei]; exact al_at i hi)) ⟨sl1000 (by simp), fun t nt => q (.al i) t _ hi (Same.upd S nt) upd_same⟩
    · simp only [tSeq, tIfS, tRet, tRetN, tC, tVar, tOp, tUn, tTest, tB, tAnd, tOr, tNot, tAndV, tOrV, tNotV, tIf, tChain, tCons, tNil, tCall, tCB, tLst, tTup, tSl, tNoPart, tPart, gName, tNext, tDrop, tAsg, tAsgC, tBM, tYes, tDNewK, rI, rI0, rU, rEq, rNe, rAbs, rIntT, CDiv, add_ii, add_ss, mul_ii, mul_si, ix_si, eq_ii, eq_ss, eq_bb, ne_ii, ne_ss, ne_ni, ne_in, in_s1, notin_s1, is_xn, is_bb, isnot_xn, isnot_bb, sl_s, len_s, find_ss, index_ss, List.append_nil, List.cons_append, List.nil_append, List.getElem?_cons_succ, List.getElem?_cons_zero, List.set_cons_succ, List.set_cons_zero, Option.some.injEq, V.int.injEq, V.bl.injEq, V.str.injEq, V.ref.injEq, V.ty.injEq, List.cons.injEq, and_true, true_and, exists_eq_left, exists_eq_left', exists_and_left, exists_eq', exists_const, exists_and_right, exists_eq_right, exists_eq_right', reduceCtorEq, false_and, and_false, exists_false, or_false, false_or, decide_eq_true_eq, Bool.not_eq_true', decide_eq_false_iff_not, Bool.false_eq_true, if_false, if_true, mk_app, mk_len, sg_mk, mk_one, decide_true, decide_false, Bool.not_true, Bool.not_false, ite_true, ite_false, not_true_eq_false, not_false_eq_true, cxK, cutTo1, cutFrom1, mk_iff, tyV_str, stComp, List.map_cons, List.map_nil, Option.join_some, Option.join_none, gt_iff_lt, ge_iff_le, tRaise, tTryR, tCallH, tDisp, tPairs, tFld, sFld, tMake, tMeth, tBM0, tOrE, tRev, tLRng, l_e, l_b]
      refine iteF' (by decide) ⟨⟨by decide, by decide⟩, _, rfl, fun x H1 S x0 x1 => ?_⟩
      exact ⟨_, rfl, by decide, sl1000 (by simp), fun t nt => q (.sm (x % 256)) t _ ⟨Int.emod_nonneg _ (by decide), Int.emod_lt_of_pos _ (by decide)⟩ (Same.upd S nt) upd_same⟩
    · simp only [tSeq, tIfS, tRet, tRetN, tC, tVar, tOp, tUn, tTest, tB, tAnd, tOr, tNot, tAndV, tOrV, tNotV, tIf, tChain, tCons, tNil, tCall, tCB, tLst, tTup, tSl, tNoPart, tPart, gName, tNext, tDrop, tAsg, tAsgC, tBM, tYes, tDNewK, rI, rI0, rU, rEq, rNe, rAbs, rIntT, CDiv, add_ii, add_ss, mul_ii, mul_si, ix_si, eq_ii, eq_ss, eq_bb, ne_ii, ne_ss, ne_ni, ne_in, in_s1, notin_s1, is_xn, is_bb, isnot_xn, isnot_bb, sl_s, len_s, find_ss, index_ss, List.append_nil, List.cons_append, List.nil_append, List.getElem?_cons_succ, List.getElem?_cons_zero, List.set_cons_succ, List.set_cons_zero, Option.some.injEq, V.int.injEq, V.bl.injEq, V.str.injEq, V.ref.injEq, V.ty.injEq, List.cons.injEq, and_true, true_and, exists_eq_left, exists_eq_left', exists_and_left, exists_eq', exists_const, exists_and_right, exists_eq_right, exists_eq_right', reduceCtorEq, false_and, and_false, exists_false, or_false, false_or, decide_eq_true_eq, Bool.not_eq_true', decide_eq_false_iff_not, Bool.false_eq_true, if_false, if_true, mk_app, mk_len, sg_mk, mk_one, decide_true, decide_false, Bool.not_true, Bool.not_false, ite_true, ite_false, not_true_eq_false, not_false_eq_true, cxK, cutTo1, cutFrom1, mk_iff, tyV_str, stComp, List.map_cons, List.map_nil, Option.join_some, Option.join_none, gt_iff_lt, ge_iff_le, tRaise, tTryR, tCallH, tDisp, tPairs, tFld, sFld, tMake, tMeth, tBM0, tOrE, tRev, tLRng, l_e, l_b]
      refine iteF' (by decide) (iteF' (by decide) ⟨⟨by decide, by decide⟩, _, rfl, fun x H1 S x0 x1 => ⟨sl1000 (by simp), fun t nt => q (.pu x) t _ ⟨x0, x1⟩ (Same.upd S nt) upd_same⟩⟩)
    · simp only [tSeq, tIfS, tRet, tRetN, tC, tVar, tOp, tUn, tTest, tB, tAnd, tOr, tNot, tAndV, tOrV, tNotV, tIf, tChain, tCons, tNil, tCall, tCB, tLst, tTup, tSl, tNoPart, tPart, gName, tNext, tDrop, tAsg, tAsgC, tBM, tYes, tDNewK, rI, rI0, rU, rEq, rNe, rAbs, rIntT, CDiv, add_ii, add_ss, mul_ii, mul_si, ix_si, eq_ii, eq_ss, eq_bb, ne_ii, ne_ss, ne_ni, ne_in, in_s1, notin_s1, is_xn, is_bb, isnot_xn, isnot_bb, sl_s, len_s, find_ss, index_ss, List.append_nil, List.cons_append, List.nil_append, List.getElem?_cons_succ, List.getElem?_cons_zero, List.set_cons_succ, List.set_cons_zero, Option.some.injEq, V.int.injEq, V.bl.injEq, V.str.injEq, V.ref.injEq, V.ty.injEq, List.cons.injEq, and_true, true_and, exists_eq_left, exists_eq_left', exists_and_left, exists_eq', exists_const, exists_and_right, exists_eq_right, exists_eq_right', reduceCtorEq, false_and, and_false, exists_false, or_false, false_or, decide_eq_true_eq, Bool.not_eq_true', decide_eq_false_iff_not, Bool.false_eq_true, if_false, if_true, mk_app, mk_len, sg_mk, mk_one, decide_true, decide_false, Bool.not_true, Bool.not_false, ite_true, ite_false, not_true_eq_false, not_false_eq_true, cxK, cutTo1, cutFrom1, mk_iff, tyV_str, stComp, List.map_cons, List.map_nil, Option.join_some, Option.join_none, gt_iff_lt, ge_iff_le, tRaise, tTryR, tCallH, tDisp, tPairs, tFld, sFld, tMake, tMeth, tBM0, tOrE, tRev, tLRng, l_e, l_b]
      refine iteF' (by decide) (iteF' (by decide) (iteF' (by decide) ?_))
      have S := Same.refl H
      refine ⟨sl1000 (by simp), fun p1 n1 => ?_⟩
      have t0 := Same.upd (Same.refl H) n1 (o := .lst [V.str (Str.ofString "go"), V.str (Str.ofString "ifnot"), V.str (Str.ofString "hop")])
      have e1 : upd H p1 (.lst [V.str (Str.ofString "go"), V.str (Str.ofString "ifnot"), V.str (Str.ofString "hop")]) p1 = some (.lst [V.str (Str.ofString "go"), V.str (Str.ofString "ifnot"), V.str (Str.ofString "hop")]) := upd_same
      generalize upd H p1 (.lst [V.str (Str.ofString "go"), V.str (Str.ofString "ifnot"), V.str (Str.ofString "hop")]) = H1 at t0 e1 ⊢
      have S := S.trans t0
      clear t0
      refine ⟨sl1000 (by simp), fun p2 n2 => ?_⟩
      have t0 := Same.upd (Same.refl H1) n2 (o := .lst [V.str (Str.ofString "call"), V.str (Str.ofString "take"), V.str (Str.ofString "put")])
      have e2 : upd H1 p2 (.lst [V.str (Str.ofString "call"), V.str (Str.ofString "take"), V.str (Str.ofString "put")]) p2 = some (.lst [V.str (Str.ofString "call"), V.str (Str.ofString "take"), V.str (Str.ofString "put")]) := upd_same
      generalize upd H1 p2 (.lst [V.str (Str.ofString "call"), V.str (Str.ofString "take"), V.str (Str.ofString "put")]) = H2 at t0 e2 ⊢
      have e1 := t0 _ _ e1
      have S := S.trans t0
      clear t0
      refine ⟨sl1000 (by simp), fun p3 n3 => ?_⟩
      have t0 := Same.upd (Same.refl H2) n3 (o := .lst [V.ref p1, V.ref p2])
      have e3 : upd H2 p3 (.lst [V.ref p1, V.ref p2]) p3 = some (.lst [V.ref p1, V.ref p2]) := upd_same
      generalize upd H2 p3 (.lst [V.ref p1, V.ref p2]) = H3 at t0 e3 ⊢
      have e1 := t0 _ _ e1
      have e2 := t0 _ _ e2
      have S := S.trans t0
      clear t0
      obtain ⟨i, hi, ei⟩ : ∃ i, i < 3 ∧ (r / 5 % 3).toNat = i := ⟨_, by omega, rfl⟩
      refine ixL (SqL.of e3) (atIn (by decide) rfl) ⟨⟨by decide, by decide⟩, by decide, ixL (SqL.of e1) (atIn (by omega) (by rw [ei]; exact ne_at i hi)) ⟨sl1000 (by simp), fun p4 n4 => ?_⟩⟩
      have t0 := Same.upd (Same.refl H3) n4 (o := .lst [V.str (Str.ofString "near"), V.str (Str.ofString "far")])
      have e4 : upd H3 p4 (.lst [V.str (Str.ofString "near"), V.str (Str.ofString "far")]) p4 = some (.lst [V.str (Str.ofString "near"), V.str (Str.ofString "far")]) := upd_same
      generalize upd H3 p4 (.lst [V.str (Str.ofString "near"), V.str (Str.ofString "far")]) = H4 at t0 e4 ⊢
      have S := S.trans t0
      clear t0
      refine ixL (SqL.of e4) (atIn (by decide) rfl) ⟨⟨by decide, by decide⟩, lenL (SqL.of (S _ _ ha)) ⟨_, rfl, by rw [List.length_map, ll]; decide, ?_⟩⟩
      obtain ⟨w, ew, ow⟩ := nm_at (ls := ls) (i := r / 15 % ((ls.map fun w => V.str (mkS w)).length : Int)) (by rw [List.length_map, ll]; omega) (by rw [List.length_map, ll]; omega) hls
      exact ixL (SqL.of (S _ _ ha)) ew ⟨sl1000 (by simp), fun t nt => q (.ne i (mkS w)) t _ ⟨hi, by rw [mk_len]; exact ow.1, fun z => ow.2 (by have z := congrArg sg z; rwa [sg_mk, sg_mk] at z)⟩ (Same.upd S nt) upd_same⟩
    · simp only [tSeq, tIfS, tRet, tRetN, tC, tVar, tOp, tUn, tTest, tB, tAnd, tOr, tNot, tAndV, tOrV, tNotV, tIf, tChain, tCons, tNil, tCall, tCB, tLst, tTup, tSl, tNoPart, tPart, gName, tNext, tDrop, tAsg, tAsgC, tBM, tYes, tDNewK, rI, rI0, rU, rEq, rNe, rAbs, rIntT, CDiv, add_ii, add_ss, mul_ii, mul_si, ix_si, eq_ii, eq_ss, eq_bb, ne_ii, ne_ss, ne_ni, ne_in, in_s1, notin_s1, is_xn, is_bb, isnot_xn, isnot_bb, sl_s, len_s, find_ss, index_ss, List.append_nil, List.cons_append, List.nil_append, List.getElem?_cons_succ, List.getElem?_cons_zero, List.set_cons_succ, List.set_cons_zero, Option.some.injEq, V.int.injEq, V.bl.injEq, V.str.injEq, V.ref.injEq, V.ty.injEq, List.cons.injEq, and_true, true_and, exists_eq_left, exists_eq_left', exists_and_left, exists_eq', exists_const, exists_and_right, exists_eq_right, exists_eq_right', reduceCtorEq, false_and, and_false, exists_false, or_false, false_or, decide_eq_true_eq, Bool.not_eq_true', decide_eq_false_iff_not, Bool.false_eq_true, if_false, if_true, mk_app, mk_len, sg_mk, mk_one, decide_true, decide_false, Bool.not_true, Bool.not_false, ite_true, ite_false, not_true_eq_false, not_false_eq_true, cxK, cutTo1, cutFrom1, mk_iff, tyV_str, stComp, List.map_cons, List.map_nil, Option.join_some, Option.join_none, gt_iff_lt, ge_iff_le, tRaise, tTryR, tCallH, tDisp, tPairs, tFld, sFld, tMake, tMeth, tBM0, tOrE, tRev, tLRng, l_e, l_b]
      refine iteF' (by decide) (iteF' (by decide) (iteF' (by decide) ?_))
      have S := Same.refl H
      refine ⟨sl1000 (by simp), fun p1 n1 => ?_⟩
      have t0 := Same.upd (Same.refl H) n1 (o := .lst [V.str (Str.ofString "go"), V.str (Str.ofString "ifnot"), V.str (Str.ofString "hop")])
      have e1 : upd H p1 (.lst [V.str (Str.ofString "go"), V.str (Str.ofString "ifnot"), V.str (Str.ofString "hop")]) p1 = some (.lst [V.str (Str.ofString "go"), V.str (Str.ofString "ifnot"), V.str (Str.ofString "hop")]) := upd_same
      generalize upd H p1 (.lst [V.str (Str.ofString "go"), V.str (Str.ofString "ifnot"), V.str (Str.ofString "hop")]) = H1 at t0 e1 ⊢
      have S := S.trans t0
      clear t0
      refine ⟨sl1000 (by simp), fun p2 n2 => ?_⟩
      have t0 := Same.upd (Same.refl H1) n2 (o := .lst [V.str (Str.ofString "call"), V.str (Str.ofString "take"), V.str (Str.ofString "put")])
      have e2 : upd H1 p2 (.lst [V.str (Str.ofString "call"), V.str (Str.ofString "take"), V.str (Str.ofString "put")]) p2 = some (.lst [V.str (Str.ofString "call"), V.str (Str.ofString "take"), V.str (Str.ofString "put")]) := upd_same
      generalize upd H1 p2 (.lst [V.str (Str.ofString "call"), V.str (Str.ofString "take"), V.str (Str.ofString "put")]) = H2 at t0 e2 ⊢
      have e1 := t0 _ _ e1
      have S := S.trans t0
      clear t0
      refine ⟨sl1000 (by simp), fun p3 n3 => ?_⟩
      have t0 := Same.upd (Same.refl H2) n3 (o := .lst [V.ref p1, V.ref p2])
      have e3 : upd H2 p3 (.lst [V.ref p1, V.ref p2]) p3 = some (.lst [V.ref p1, V.ref p2]) := upd_same
      generalize upd H2 p3 (.lst [V.ref p1, V.ref p2]) = H3 at t0 e3 ⊢
      have e1 := t0 _ _ e1
      have e2 := t0 _ _ e2
      have S := S.trans t0
      clear t0
      obtain ⟨i, hi, ei⟩ : ∃ i, i < 3 ∧ (r / 5 % 3).toNat = i := ⟨_, by omega, rfl⟩
      refine ixL (SqL.of e3) (atIn (by decide) rfl) ⟨⟨by decide, by decide⟩, by decide, ixL (SqL.of e2) (atIn (by omega) (by rw [ei]; exact fa_at i hi)) ⟨sl1000 (by simp), fun p4 n4 => ?_⟩⟩
      have t0 := Same.upd (Same.refl H3) n4 (o := .lst [V.str (Str.ofString "near"), V.str (Str.ofString "far")])
      have e4 : upd H3 p4 (.lst [V.str (Str.ofString "near"), V.str (Str.ofString "far")]) p4 = some (.lst [V.str (Str.ofString "near"), V.str (Str.ofString "far")]) := upd_same
      generalize upd H3 p4 (.lst [V.str (Str.ofString "near"), V.str (Str.ofString "far")]) = H4 at t0 e4 ⊢
      have S := S.trans t0
      clear t0
      refine ixL (SqL.of e4) (atIn (by decide) rfl) ⟨⟨by decide, by decide⟩, lenL (SqL.of (S _ _ ha)) ⟨_, rfl, by rw [List.length_map, ll]; decide, ?_⟩⟩
      obtain ⟨w, ew, ow⟩ := nm_at (ls := ls) (i := r / 15 % ((ls.map fun w => V.str (mkS w)).length : Int)) (by rw [List.length_map, ll]; omega) (by rw [List.length_map, ll]; omega) hls
      exact ixL (SqL.of (S _ _ ha)) ew ⟨sl1000 (by simp), fun t nt => q (.fa i (mkS w)) t _ ⟨hi, by rw [mk_len]; exact ow.1, fun z => ow.2 (by have z := congrArg sg z; rwa [sg_mk, sg_mk] at z)⟩ (Same.upd S nt) upd_same⟩
noncomputable def sp__law_bytes (K : PySem.W.Frag) : Sp := fun vs H Q E => ∃ (t : Addr) (o : OpD), vs = [.ref t] ∧ H t = some (.tup [.str o.kind, .str o.word, o.about]) ∧ o.ok ∧ ∀ l H', H l = none → Same H H' → H' l = some (.lst (o.bytes.map V.int)) → Q (.ref l) H'
theorem sc__law_bytes : FnScope ["_law_op_here", "_law_kind", "_law_word", "_law_about"] ["_law_op_here"] (defScope s__law_bytes) := ⟨rfl, rfl, rfl, by decide +kernel, rfl, by decide +kernel, by decide +kernel⟩
theorem ok__law_bytes (T : Txt K mg) : FnOk P w K mg base CX0 2 T.d__law_bytes.f T.d__law_bytes.fd ["_law_op_here"] (sp__law_bytes K) := by
  have nd := sc__law_bytes.nd
  refine T.d__law_bytes.F.ok sc__law_bytes (fun vs H Q E h => ?_) (fun cdv A outer s H vs Q E hr h => ?_)
  · obtain ⟨t, o, rfl, ht, hk, q⟩ := h
    rfl
  · obtain ⟨t, o, rfl, ht, hk, q⟩ := h
    have hu := hr.units0
    refine ⟨_, (pss_cons (ps_asg (pv 0) (pg_tupK (K := K) (n := 3) rfl (pgs_cons (pg_name (i := 1) nd rfl (Or.inl rfl)) (pgs_cons (pg_name (i := 2) nd rfl (Or.inl rfl)) (pgs_cons (pg_name (i := 3) nd rfl (Or.inl rfl)) pgs_nil)))))
      (pss_cons (ps_if (pt_cmpR (o_eq (K := K) hu) (pv 1) pe_str (nomark _)) (pss_one (ps_ret (pe_lst (pa1 (pe_op o_add pe_int (pm1 (K := K) PySem.F.plainAttrs_list PySem.F.slot_list_index PySem.F.type_list_index (o_lindex (K := K)) (pc0 T.d__law_alones (ok__law_alones T) (hr.mono (by decide))) (pa1 (pv 2) pa_nil))) pa_nil)))) pss_nil)
      (pss_cons (ps_if (pt_cmpR (o_eq (K := K) hu) (pv 1) pe_str (nomark _)) (pss_one (ps_ret (pe_lst (pa1 pe_int (pa1 (pv 3) pa_nil))))) pss_nil)
      (pss_cons (ps_if (pt_cmpR (o_eq (K := K) hu) (pv 1) pe_str (nomark _)) (pss_one (ps_ret (pe_lst (pa1 pe_int (pa1 (pe_op op_fdiv (pv 3) pe_int) (pa1 (pe_op op_mod (pv 3) pe_int) pa_nil)))))) pss_nil)
      (pss_cons (ps_if (pt_cmpR (o_eq (K := K) hu) (pv 1) pe_str (nomark _)) (pss_one (ps_ret (pe_lst (pa1 (pe_op o_add pe_int (pm1 (K := K) PySem.F.plainAttrs_list PySem.F.slot_list_index PySem.F.type_list_index (o_lindex (K := K)) (pe_lst (pa1 pe_str (pa1 pe_str (pa1 pe_str pa_nil)))) (pa1 (pv 2) pa_nil))) (pa1 pe_int pa_nil))))) pss_nil)
      (pss_one (ps_ret (pe_lst (pa1 (pe_op o_add pe_int (pm1 (K := K) PySem.F.plainAttrs_list PySem.F.slot_list_index PySem.F.type_list_index (o_lindex (K := K)) (pe_lst (pa1 pe_str (pa1 pe_str (pa1 pe_str pa_nil)))) (pa1 (pv 2) pa_nil))) (pa1 pe_int (pa1 pe_int pa_nil))))))))))), ?_⟩
    rw [show start ["_law_op_here", "_law_kind", "_law_word", "_law_about"] [V.ref t] = [some (V.ref t), none, none, none] from rfl]
    refine tSeq_gen fun B hB => ?_
    simp only [tSeq, tIfS, tRet, tRetN, tC, tVar, tOp, tUn, tTest, tB, tAnd, tOr, tNot, tAndV, tOrV, tNotV, tIf, tChain, tCons, tNil, tCall, tCB, tLst, tTup, tSl, tNoPart, tPart, gName, tNext, tDrop, tAsg, tAsgC, tBM, tYes, tDNewK, rI, rI0, rU, rEq, rNe, rAbs, rIntT, CDiv, add_ii, add_ss, mul_ii, mul_si, ix_si, eq_ii, eq_ss, eq_bb, ne_ii, ne_ss, ne_ni, ne_in, in_s1, notin_s1, is_xn, is_bb, isnot_xn, isnot_bb, sl_s, len_s, find_ss, index_ss, List.append_nil, List.cons_append, List.nil_append, List.getElem?_cons_succ, List.getElem?_cons_zero, List.set_cons_succ, List.set_cons_zero, Option.some.injEq, V.int.injEq, V.bl.injEq, V.str.injEq, V.ref.injEq, V.ty.injEq, List.cons.injEq, and_true, true_and, exists_eq_left, exists_eq_left', exists_and_left, exists_eq', exists_const, exists_and_right, exists_eq_right, exists_eq_right', reduceCtorEq, false_and, and_false, exists_false, or_false, false_or, decide_eq_true_eq, Bool.not_eq_true', decide_eq_false_iff_not, Bool.false_eq_true, if_false, if_true, mk_app, mk_len, sg_mk, mk_one, decide_true, decide_false, Bool.not_true, Bool.not_false, ite_true, ite_false, not_true_eq_false, not_false_eq_true, cxK, cutTo1, cutFrom1, mk_iff, tyV_str, stComp, List.map_cons, List.map_nil, Option.join_some, Option.join_none, gt_iff_lt, ge_iff_le, tRaise, tTryR, tCallH, tDisp, tPairs, tFld, sFld, tMake, tMeth, tBM0, tOrE, tRev, tLRng, l_e, l_b]
    refine tup3 ht ?_
    subst hB
    simp only [tSeq, tIfS, tRet, tRetN, tC, tVar, tOp, tUn, tTest, tB, tAnd, tOr, tNot, tAndV, tOrV, tNotV, tIf, tChain, tCons, tNil, tCall, tCB, tLst, tTup, tSl, tNoPart, tPart, gName, tNext, tDrop, tAsg, tAsgC, tBM, tYes, tDNewK, rI, rI0, rU, rEq, rNe, rAbs, rIntT, CDiv, add_ii, add_ss, mul_ii, mul_si, ix_si, eq_ii, eq_ss, eq_bb, ne_ii, ne_ss, ne_ni, ne_in, in_s1, notin_s1, is_xn, is_bb, isnot_xn, isnot_bb, sl_s, len_s, find_ss, index_ss, List.append_nil, List.cons_append, List.nil_append, List.getElem?_cons_succ, List.getElem?_cons_zero, List.set_cons_succ, List.set_cons_zero, Option.some.injEq, V.int.injEq, V.bl.injEq, V.str.injEq, V.ref.injEq, V.ty.injEq, List.cons.injEq, and_true, true_and, exists_eq_left, exists_eq_left', exists_and_left, exists_eq', exists_const, exists_and_right, exists_eq_right, exists_eq_right', reduceCtorEq, false_and, and_false, exists_false, or_false, false_or, decide_eq_true_eq, Bool.not_eq_true', decide_eq_false_iff_not, Bool.false_eq_true, if_false, if_true, mk_app, mk_len, sg_mk, mk_one, decide_true, decide_false, Bool.not_true, Bool.not_false, ite_true, ite_false, not_true_eq_false, not_false_eq_true, cxK, cutTo1, cutFrom1, mk_iff, tyV_str, stComp, List.map_cons, List.map_nil, Option.join_some, Option.join_none, gt_iff_lt, ge_iff_le, tRaise, tTryR, tCallH, tDisp, tPairs, tFld, sFld, tMake, tMeth, tBM0, tOrE, tRev, tLRng, l_e, l_b]
    cases o with
    | al i =>
      refine iteT' rfl ⟨rfl, fun l H1 nl S el => ⟨tyV_lst (SqL.of el), l, alW, _, i, rfl, rfl, SqL.of el, al_at0 i hk, al_no i hk, by decide, ?_⟩⟩
      simp only [tSeq, tIfS, tRet, tRetN, tC, tVar, tOp, tUn, tTest, tB, tAnd, tOr, tNot, tAndV, tOrV, tNotV, tIf, tChain, tCons, tNil, tCall, tCB, tLst, tTup, tSl, tNoPart, tPart, gName, tNext, tDrop, tAsg, tAsgC, tBM, tYes, tDNewK, rI, rI0, rU, rEq, rNe, rAbs, rIntT, CDiv, add_ii, add_ss, mul_ii, mul_si, ix_si, eq_ii, eq_ss, eq_bb, ne_ii, ne_ss, ne_ni, ne_in, in_s1, notin_s1, is_xn, is_bb, isnot_xn, isnot_bb, sl_s, len_s, find_ss, index_ss, List.append_nil, List.cons_append, List.nil_append, List.getElem?_cons_succ, List.getElem?_cons_zero, List.set_cons_succ, List.set_cons_zero, Option.some.injEq, V.int.injEq, V.bl.injEq, V.str.injEq, V.ref.injEq, V.ty.injEq, List.cons.injEq, and_true, true_and, exists_eq_left, exists_eq_left', exists_and_left, exists_eq', exists_const, exists_and_right, exists_eq_right, exists_eq_right', reduceCtorEq, false_and, and_false, exists_false, or_false, false_or, decide_eq_true_eq, Bool.not_eq_true', decide_eq_false_iff_not, Bool.false_eq_true, if_false, if_true, mk_app, mk_len, sg_mk, mk_one, decide_true, decide_false, Bool.not_true, Bool.not_false, ite_true, ite_false, not_true_eq_false, not_false_eq_true, cxK, cutTo1, cutFrom1, mk_iff, tyV_str, stComp, List.map_cons, List.map_nil, Option.join_some, Option.join_none, gt_iff_lt, ge_iff_le, tRaise, tTryR, tCallH, tDisp, tPairs, tFld, sFld, tMake, tMeth, tBM0, tOrE, tRev, tLRng, l_e, l_b]
      exact ⟨sl1000 (by simp), fun l2 n2 => q l2 _ (S.no n2) (Same.upd S n2) upd_same⟩
    | sm n => exact iteF' (by simp only [OpD.kind]; decide +kernel) (iteT' rfl ⟨sl1000 (by simp), fun l2 n2 => q l2 _ n2 (Same.upd (Same.refl H) n2) upd_same⟩)
    | pu n =>
      refine iteF' (by simp only [OpD.kind]; decide +kernel) (iteF' (by simp only [OpD.kind]; decide +kernel) (iteT' rfl ?_))
      exact ⟨_, rfl, ⟨by decide, by decide⟩, _, rfl, by decide, sl1000 (by simp), fun l2 n2 => q l2 _ n2 (Same.upd (Same.refl H) n2) upd_same⟩
    | ne i z =>
      refine iteF' (by simp only [OpD.kind]; decide +kernel) (iteF' (by simp only [OpD.kind]; decide +kernel) (iteF' (by simp only [OpD.kind]; decide +kernel) (iteT' rfl ⟨sl1000 (by simp), fun l nl => ⟨tyV_lst (SqL.of upd_same), l, neW, _, i, rfl, rfl, SqL.of upd_same, ne_at0 i hk.1, ne_no i hk.1, by decide, ?_⟩⟩)))
      simp only [tSeq, tIfS, tRet, tRetN, tC, tVar, tOp, tUn, tTest, tB, tAnd, tOr, tNot, tAndV, tOrV, tNotV, tIf, tChain, tCons, tNil, tCall, tCB, tLst, tTup, tSl, tNoPart, tPart, gName, tNext, tDrop, tAsg, tAsgC, tBM, tYes, tDNewK, rI, rI0, rU, rEq, rNe, rAbs, rIntT, CDiv, add_ii, add_ss, mul_ii, mul_si, ix_si, eq_ii, eq_ss, eq_bb, ne_ii, ne_ss, ne_ni, ne_in, in_s1, notin_s1, is_xn, is_bb, isnot_xn, isnot_bb, sl_s, len_s, find_ss, index_ss, List.append_nil, List.cons_append, List.nil_append, List.getElem?_cons_succ, List.getElem?_cons_zero, List.set_cons_succ, List.set_cons_zero, Option.some.injEq, V.int.injEq, V.bl.injEq, V.str.injEq, V.ref.injEq, V.ty.injEq, List.cons.injEq, and_true, true_and, exists_eq_left, exists_eq_left', exists_and_left, exists_eq', exists_const, exists_and_right, exists_eq_right, exists_eq_right', reduceCtorEq, false_and, and_false, exists_false, or_false, false_or, decide_eq_true_eq, Bool.not_eq_true', decide_eq_false_iff_not, Bool.false_eq_true, if_false, if_true, mk_app, mk_len, sg_mk, mk_one, decide_true, decide_false, Bool.not_true, Bool.not_false, ite_true, ite_false, not_true_eq_false, not_false_eq_true, cxK, cutTo1, cutFrom1, mk_iff, tyV_str, stComp, List.map_cons, List.map_nil, Option.join_some, Option.join_none, gt_iff_lt, ge_iff_le, tRaise, tTryR, tCallH, tDisp, tPairs, tFld, sFld, tMake, tMeth, tBM0, tOrE, tRev, tLRng, l_e, l_b]
      have S := Same.upd (Same.refl H) nl (o := .lst (neW.map V.str))
      exact ⟨sl1000 (by simp), fun l2 n2 => q l2 _ (S.no n2) (Same.upd S n2) upd_same⟩
    | fa i z =>
      refine iteF' (by simp only [OpD.kind]; decide +kernel) (iteF' (by simp only [OpD.kind]; decide +kernel) (iteF' (by simp only [OpD.kind]; decide +kernel) (iteF' (by simp only [OpD.kind]; decide +kernel) (⟨sl1000 (by simp), fun l nl => ⟨tyV_lst (SqL.of upd_same), l, faW, _, i, rfl, rfl, SqL.of upd_same, fa_at0 i hk.1, fa_no i hk.1, by decide, ?_⟩⟩))))
      simp only [tSeq, tIfS, tRet, tRetN, tC, tVar, tOp, tUn, tTest, tB, tAnd, tOr, tNot, tAndV, tOrV, tNotV, tIf, tChain, tCons, tNil, tCall, tCB, tLst, tTup, tSl, tNoPart, tPart, gName, tNext, tDrop, tAsg, tAsgC, tBM, tYes, tDNewK, rI, rI0, rU, rEq, rNe, rAbs, rIntT, CDiv, add_ii, add_ss, mul_ii, mul_si, ix_si, eq_ii, eq_ss, eq_bb, ne_ii, ne_ss, ne_ni, ne_in, in_s1, notin_s1, is_xn, is_bb, isnot_xn, isnot_bb, sl_s, len_s, find_ss, index_ss, List.append_nil, List.cons_append, List.nil_append, List.getElem?_cons_succ, List.getElem?_cons_zero, List.set_cons_succ, List.set_cons_zero, Option.some.injEq, V.int.injEq, V.bl.injEq, V.str.injEq, V.ref.injEq, V.ty.injEq, List.cons.injEq, and_true, true_and, exists_eq_left, exists_eq_left', exists_and_left, exists_eq', exists_const, exists_and_right, exists_eq_right, exists_eq_right', reduceCtorEq, false_and, and_false, exists_false, or_false, false_or, decide_eq_true_eq, Bool.not_eq_true', decide_eq_false_iff_not, Bool.false_eq_true, if_false, if_true, mk_app, mk_len, sg_mk, mk_one, decide_true, decide_false, Bool.not_true, Bool.not_false, ite_true, ite_false, not_true_eq_false, not_false_eq_true, cxK, cutTo1, cutFrom1, mk_iff, tyV_str, stComp, List.map_cons, List.map_nil, Option.join_some, Option.join_none, gt_iff_lt, ge_iff_le, tRaise, tTryR, tCallH, tDisp, tPairs, tFld, sFld, tMake, tMeth, tBM0, tOrE, tRev, tLRng, l_e, l_b]
      have S := Same.upd (Same.refl H) nl (o := .lst (faW.map V.str))
      exact ⟨sl1000 (by simp), fun l2 n2 => q l2 _ (S.no n2) (Same.upd S n2) upd_same⟩
noncomputable def sp__law_whole (K : PySem.W.Frag) : Sp := fun vs H Q E => ∃ x, vs = [x] ∧ Knw K H x ∧ Q (.bl (isInt x)) H
theorem sc__law_whole : FnScope ["_law_found"] ["_law_found"] (defScope s__law_whole) := ⟨rfl, rfl, rfl, by decide +kernel, rfl, by decide +kernel, by decide +kernel⟩
theorem ok__law_whole (T : Txt K mg) : FnOk P w K mg base CX0 1 T.d__law_whole.f T.d__law_whole.fd ["_law_found"] (sp__law_whole K) := by
  have nd := sc__law_whole.nd
  refine T.d__law_whole.F.ok sc__law_whole (fun vs H Q E h => ?_) (fun cdv A outer s H vs Q E hr h => ?_)
  · obtain ⟨x, rfl, ⟨T0, k⟩, q⟩ := h
    rfl
  · obtain ⟨x, rfl, ⟨T0, k⟩, q⟩ := h
    have hu := hr.units0
    refine ⟨_, (pss_one (ps_ret (pe_and (pcB (o_isinstance (K := K)) rfl T.n_isinstance (by kernel_rfl) (pa1 (pv 0) (pa1 (pe_bltn (v := .ty "int") rfl T.n_int (by kernel_rfl) rfl) pa_nil))) (pe_one (pe_not (pcB (o_isinstance (K := K)) rfl T.n_isinstance (by kernel_rfl) (pa1 (pv 0) (pa1 (pe_bltn (v := .ty "bool") rfl T.n_bool (by kernel_rfl) rfl) pa_nil)))))))), ?_⟩
    rw [show start ["_law_found"] [x] = [some (x)] from rfl]
    simp only [tSeq, tIfS, tRet, tRetN, tC, tVar, tOp, tUn, tTest, tB, tAnd, tOr, tNot, tAndV, tOrV, tNotV, tIf, tChain, tCons, tNil, tCall, tCB, tLst, tTup, tSl, tNoPart, tPart, gName, tNext, tDrop, tAsg, tAsgC, tBM, tYes, tDNewK, rI, rI0, rU, rEq, rNe, rAbs, rIntT, CDiv, add_ii, add_ss, mul_ii, mul_si, ix_si, eq_ii, eq_ss, eq_bb, ne_ii, ne_ss, ne_ni, ne_in, in_s1, notin_s1, is_xn, is_bb, isnot_xn, isnot_bb, sl_s, len_s, find_ss, index_ss, List.append_nil, List.cons_append, List.nil_append, List.getElem?_cons_succ, List.getElem?_cons_zero, List.set_cons_succ, List.set_cons_zero, Option.some.injEq, V.int.injEq, V.bl.injEq, V.str.injEq, V.ref.injEq, V.ty.injEq, List.cons.injEq, and_true, true_and, exists_eq_left, exists_eq_left', exists_and_left, exists_eq', exists_const, exists_and_right, exists_eq_right, exists_eq_right', reduceCtorEq, false_and, and_false, exists_false, or_false, false_or, decide_eq_true_eq, Bool.not_eq_true', decide_eq_false_iff_not, Bool.false_eq_true, if_false, if_true, mk_app, mk_len, sg_mk, mk_one, decide_true, decide_false, Bool.not_true, Bool.not_false, ite_true, ite_false, not_true_eq_false, not_false_eq_true, cxK, cutTo1, cutFrom1, mk_iff, tyV_str, stComp, List.map_cons, List.map_nil, Option.join_some, Option.join_none, gt_iff_lt, ge_iff_le, tRaise, tTryR, tCallH, tDisp, tPairs, tFld, sFld, tMake, tMeth, tBM0, tOrE, tRev, tLRng, l_e, l_b]
    cases k with
    | int i => exact isi_t (.int i) (by simp only [tSeq, tIfS, tRet, tRetN, tC, tVar, tOp, tUn, tTest, tB, tAnd, tOr, tNot, tAndV, tOrV, tNotV, tIf, tChain, tCons, tNil, tCall, tCB, tLst, tTup, tSl, tNoPart, tPart, gName, tNext, tDrop, tAsg, tAsgC, tBM, tYes, tDNewK, rI, rI0, rU, rEq, rNe, rAbs, rIntT, CDiv, add_ii, add_ss, mul_ii, mul_si, ix_si, eq_ii, eq_ss, eq_bb, ne_ii, ne_ss, ne_ni, ne_in, in_s1, notin_s1, is_xn, is_bb, isnot_xn, isnot_bb, sl_s, len_s, find_ss, index_ss, List.append_nil, List.cons_append, List.nil_append, List.getElem?_cons_succ, List.getElem?_cons_zero, List.set_cons_succ, List.set_cons_zero, Option.some.injEq, V.int.injEq, V.bl.injEq, V.str.injEq, V.ref.injEq, V.ty.injEq, List.cons.injEq, and_true, true_and, exists_eq_left, exists_eq_left', exists_and_left, exists_eq', exists_const, exists_and_right, exists_eq_right, exists_eq_right', reduceCtorEq, false_and, and_false, exists_false, or_false, false_or, decide_eq_true_eq, Bool.not_eq_true', decide_eq_false_iff_not, Bool.false_eq_true, if_false, if_true, mk_app, mk_len, sg_mk, mk_one, decide_true, decide_false, Bool.not_true, Bool.not_false, ite_true, ite_false, not_true_eq_false, not_false_eq_true, cxK, cutTo1, cutFrom1, mk_iff, tyV_str, stComp, List.map_cons, List.map_nil, Option.join_some, Option.join_none, gt_iff_lt, ge_iff_le, tRaise, tTryR, tCallH, tDisp, tPairs, tFld, sFld, tMake, tMeth, tBM0, tOrE, tRev, tLRng, l_e, l_b]; exact isi_f (.int i) (by simp only [tSeq, tIfS, tRet, tRetN, tC, tVar, tOp, tUn, tTest, tB, tAnd, tOr, tNot, tAndV, tOrV, tNotV, tIf, tChain, tCons, tNil, tCall, tCB, tLst, tTup, tSl, tNoPart, tPart, gName, tNext, tDrop, tAsg, tAsgC, tBM, tYes, tDNewK, rI, rI0, rU, rEq, rNe, rAbs, rIntT, CDiv, add_ii, add_ss, mul_ii, mul_si, ix_si, eq_ii, eq_ss, eq_bb, ne_ii, ne_ss, ne_ni, ne_in, in_s1, notin_s1, is_xn, is_bb, isnot_xn, isnot_bb, sl_s, len_s, find_ss, index_ss, List.append_nil, List.cons_append, List.nil_append, List.getElem?_cons_succ, List.getElem?_cons_zero, List.set_cons_succ, List.set_cons_zero, Option.some.injEq, V.int.injEq, V.bl.injEq, V.str.injEq, V.ref.injEq, V.ty.injEq, List.cons.injEq, and_true, true_and, exists_eq_left, exists_eq_left', exists_and_left, exists_eq', exists_const, exists_and_right, exists_eq_right, exists_eq_right', reduceCtorEq, false_and, and_false, exists_false, or_false, false_or, decide_eq_true_eq, Bool.not_eq_true', decide_eq_false_iff_not, Bool.false_eq_true, if_false, if_true, mk_app, mk_len, sg_mk, mk_one, decide_true, decide_false, Bool.not_true, Bool.not_false, ite_true, ite_false, not_true_eq_false, not_false_eq_true, cxK, cutTo1, cutFrom1, mk_iff, tyV_str, stComp, List.map_cons, List.map_nil, Option.join_some, Option.join_none, gt_iff_lt, ge_iff_le, tRaise, tTryR, tCallH, tDisp, tPairs, tFld, sFld, tMake, tMeth, tBM0, tOrE, tRev, tLRng, l_e, l_b]; exact q))
    | str z => exact isi_f (.str z) (by simp only [tSeq, tIfS, tRet, tRetN, tC, tVar, tOp, tUn, tTest, tB, tAnd, tOr, tNot, tAndV, tOrV, tNotV, tIf, tChain, tCons, tNil, tCall, tCB, tLst, tTup, tSl, tNoPart, tPart, gName, tNext, tDrop, tAsg, tAsgC, tBM, tYes, tDNewK, rI, rI0, rU, rEq, rNe, rAbs, rIntT, CDiv, add_ii, add_ss, mul_ii, mul_si, ix_si, eq_ii, eq_ss, eq_bb, ne_ii, ne_ss, ne_ni, ne_in, in_s1, notin_s1, is_xn, is_bb, isnot_xn, isnot_bb, sl_s, len_s, find_ss, index_ss, List.append_nil, List.cons_append, List.nil_append, List.getElem?_cons_succ, List.getElem?_cons_zero, List.set_cons_succ, List.set_cons_zero, Option.some.injEq, V.int.injEq, V.bl.injEq, V.str.injEq, V.ref.injEq, V.ty.injEq, List.cons.injEq, and_true, true_and, exists_eq_left, exists_eq_left', exists_and_left, exists_eq', exists_const, exists_and_right, exists_eq_right, exists_eq_right', reduceCtorEq, false_and, and_false, exists_false, or_false, false_or, decide_eq_true_eq, Bool.not_eq_true', decide_eq_false_iff_not, Bool.false_eq_true, if_false, if_true, mk_app, mk_len, sg_mk, mk_one, decide_true, decide_false, Bool.not_true, Bool.not_false, ite_true, ite_false, not_true_eq_false, not_false_eq_true, cxK, cutTo1, cutFrom1, mk_iff, tyV_str, stComp, List.map_cons, List.map_nil, Option.join_some, Option.join_none, gt_iff_lt, ge_iff_le, tRaise, tTryR, tCallH, tDisp, tPairs, tFld, sFld, tMake, tMeth, tBM0, tOrE, tRev, tLRng, l_e, l_b]; exact q)
    | bl b => exact isi_t (.bl b) (by simp only [tSeq, tIfS, tRet, tRetN, tC, tVar, tOp, tUn, tTest, tB, tAnd, tOr, tNot, tAndV, tOrV, tNotV, tIf, tChain, tCons, tNil, tCall, tCB, tLst, tTup, tSl, tNoPart, tPart, gName, tNext, tDrop, tAsg, tAsgC, tBM, tYes, tDNewK, rI, rI0, rU, rEq, rNe, rAbs, rIntT, CDiv, add_ii, add_ss, mul_ii, mul_si, ix_si, eq_ii, eq_ss, eq_bb, ne_ii, ne_ss, ne_ni, ne_in, in_s1, notin_s1, is_xn, is_bb, isnot_xn, isnot_bb, sl_s, len_s, find_ss, index_ss, List.append_nil, List.cons_append, List.nil_append, List.getElem?_cons_succ, List.getElem?_cons_zero, List.set_cons_succ, List.set_cons_zero, Option.some.injEq, V.int.injEq, V.bl.injEq, V.str.injEq, V.ref.injEq, V.ty.injEq, List.cons.injEq, and_true, true_and, exists_eq_left, exists_eq_left', exists_and_left, exists_eq', exists_const, exists_and_right, exists_eq_right, exists_eq_right', reduceCtorEq, false_and, and_false, exists_false, or_false, false_or, decide_eq_true_eq, Bool.not_eq_true', decide_eq_false_iff_not, Bool.false_eq_true, if_false, if_true, mk_app, mk_len, sg_mk, mk_one, decide_true, decide_false, Bool.not_true, Bool.not_false, ite_true, ite_false, not_true_eq_false, not_false_eq_true, cxK, cutTo1, cutFrom1, mk_iff, tyV_str, stComp, List.map_cons, List.map_nil, Option.join_some, Option.join_none, gt_iff_lt, ge_iff_le, tRaise, tTryR, tCallH, tDisp, tPairs, tFld, sFld, tMake, tMeth, tBM0, tOrE, tRev, tLRng, l_e, l_b]; exact isi_t (.bl b) (by simp only [tSeq, tIfS, tRet, tRetN, tC, tVar, tOp, tUn, tTest, tB, tAnd, tOr, tNot, tAndV, tOrV, tNotV, tIf, tChain, tCons, tNil, tCall, tCB, tLst, tTup, tSl, tNoPart, tPart, gName, tNext, tDrop, tAsg, tAsgC, tBM, tYes, tDNewK, rI, rI0, rU, rEq, rNe, rAbs, rIntT, CDiv, add_ii, add_ss, mul_ii, mul_si, ix_si, eq_ii, eq_ss, eq_bb, ne_ii, ne_ss, ne_ni, ne_in, in_s1, notin_s1, is_xn, is_bb, isnot_xn, isnot_bb, sl_s, len_s, find_ss, index_ss, List.append_nil, List.cons_append, List.nil_append, List.getElem?_cons_succ, List.getElem?_cons_zero, List.set_cons_succ, List.set_cons_zero, Option.some.injEq, V.int.injEq, V.bl.injEq, V.str.injEq, V.ref.injEq, V.ty.injEq, List.cons.injEq, and_true, true_and, exists_eq_left, exists_eq_left', exists_and_left, exists_eq', exists_const, exists_and_right, exists_eq_right, exists_eq_right', reduceCtorEq, false_and, and_false, exists_false, or_false, false_or, decide_eq_true_eq, Bool.not_eq_true', decide_eq_false_iff_not, Bool.false_eq_true, if_false, if_true, mk_app, mk_len, sg_mk, mk_one, decide_true, decide_false, Bool.not_true, Bool.not_false, ite_true, ite_false, not_true_eq_false, not_false_eq_true, cxK, cutTo1, cutFrom1, mk_iff, tyV_str, stComp, List.map_cons, List.map_nil, Option.join_some, Option.join_none, gt_iff_lt, ge_iff_le, tRaise, tTryR, tCallH, tDisp, tPairs, tFld, sFld, tMake, tMeth, tBM0, tOrE, tRev, tLRng, l_e, l_b]; exact q))
    | non => exact isi_f .non (by simp only [tSeq, tIfS, tRet, tRetN, tC, tVar, tOp, tUn, tTest, tB, tAnd, tOr, tNot, tAndV, tOrV, tNotV, tIf, tChain, tCons, tNil, tCall, tCB, tLst, tTup, tSl, tNoPart, tPart, gName, tNext, tDrop, tAsg, tAsgC, tBM, tYes, tDNewK, rI, rI0, rU, rEq, rNe, rAbs, rIntT, CDiv, add_ii, add_ss, mul_ii, mul_si, ix_si, eq_ii, eq_ss, eq_bb, ne_ii, ne_ss, ne_ni, ne_in, in_s1, notin_s1, is_xn, is_bb, isnot_xn, isnot_bb, sl_s, len_s, find_ss, index_ss, List.append_nil, List.cons_append, List.nil_append, List.getElem?_cons_succ, List.getElem?_cons_zero, List.set_cons_succ, List.set_cons_zero, Option.some.injEq, V.int.injEq, V.bl.injEq, V.str.injEq, V.ref.injEq, V.ty.injEq, List.cons.injEq, and_true, true_and, exists_eq_left, exists_eq_left', exists_and_left, exists_eq', exists_const, exists_and_right, exists_eq_right, exists_eq_right', reduceCtorEq, false_and, and_false, exists_false, or_false, false_or, decide_eq_true_eq, Bool.not_eq_true', decide_eq_false_iff_not, Bool.false_eq_true, if_false, if_true, mk_app, mk_len, sg_mk, mk_one, decide_true, decide_false, Bool.not_true, Bool.not_false, ite_true, ite_false, not_true_eq_false, not_false_eq_true, cxK, cutTo1, cutFrom1, mk_iff, tyV_str, stComp, List.map_cons, List.map_nil, Option.join_some, Option.join_none, gt_iff_lt, ge_iff_le, tRaise, tTryR, tCallH, tDisp, tPairs, tFld, sFld, tMake, tMeth, tBM0, tOrE, tRev, tLRng, l_e, l_b]; exact q)
    | flt z => exact isi_f (.flt z) (by simp only [tSeq, tIfS, tRet, tRetN, tC, tVar, tOp, tUn, tTest, tB, tAnd, tOr, tNot, tAndV, tOrV, tNotV, tIf, tChain, tCons, tNil, tCall, tCB, tLst, tTup, tSl, tNoPart, tPart, gName, tNext, tDrop, tAsg, tAsgC, tBM, tYes, tDNewK, rI, rI0, rU, rEq, rNe, rAbs, rIntT, CDiv, add_ii, add_ss, mul_ii, mul_si, ix_si, eq_ii, eq_ss, eq_bb, ne_ii, ne_ss, ne_ni, ne_in, in_s1, notin_s1, is_xn, is_bb, isnot_xn, isnot_bb, sl_s, len_s, find_ss, index_ss, List.append_nil, List.cons_append, List.nil_append, List.getElem?_cons_succ, List.getElem?_cons_zero, List.set_cons_succ, List.set_cons_zero, Option.some.injEq, V.int.injEq, V.bl.injEq, V.str.injEq, V.ref.injEq, V.ty.injEq, List.cons.injEq, and_true, true_and, exists_eq_left, exists_eq_left', exists_and_left, exists_eq', exists_const, exists_and_right, exists_eq_right, exists_eq_right', reduceCtorEq, false_and, and_false, exists_false, or_false, false_or, decide_eq_true_eq, Bool.not_eq_true', decide_eq_false_iff_not, Bool.false_eq_true, if_false, if_true, mk_app, mk_len, sg_mk, mk_one, decide_true, decide_false, Bool.not_true, Bool.not_false, ite_true, ite_false, not_true_eq_false, not_false_eq_true, cxK, cutTo1, cutFrom1, mk_iff, tyV_str, stComp, List.map_cons, List.map_nil, Option.join_some, Option.join_none, gt_iff_lt, ge_iff_le, tRaise, tTryR, tCallH, tDisp, tPairs, tFld, sFld, tMake, tMeth, tBM0, tOrE, tRev, tLRng, l_e, l_b]; exact q)
    | lst e => exact isi_f (.lst e) (by simp only [tSeq, tIfS, tRet, tRetN, tC, tVar, tOp, tUn, tTest, tB, tAnd, tOr, tNot, tAndV, tOrV, tNotV, tIf, tChain, tCons, tNil, tCall, tCB, tLst, tTup, tSl, tNoPart, tPart, gName, tNext, tDrop, tAsg, tAsgC, tBM, tYes, tDNewK, rI, rI0, rU, rEq, rNe, rAbs, rIntT, CDiv, add_ii, add_ss, mul_ii, mul_si, ix_si, eq_ii, eq_ss, eq_bb, ne_ii, ne_ss, ne_ni, ne_in, in_s1, notin_s1, is_xn, is_bb, isnot_xn, isnot_bb, sl_s, len_s, find_ss, index_ss, List.append_nil, List.cons_append, List.nil_append, List.getElem?_cons_succ, List.getElem?_cons_zero, List.set_cons_succ, List.set_cons_zero, Option.some.injEq, V.int.injEq, V.bl.injEq, V.str.injEq, V.ref.injEq, V.ty.injEq, List.cons.injEq, and_true, true_and, exists_eq_left, exists_eq_left', exists_and_left, exists_eq', exists_const, exists_and_right, exists_eq_right, exists_eq_right', reduceCtorEq, false_and, and_false, exists_false, or_false, false_or, decide_eq_true_eq, Bool.not_eq_true', decide_eq_false_iff_not, Bool.false_eq_true, if_false, if_true, mk_app, mk_len, sg_mk, mk_one, decide_true, decide_false, Bool.not_true, Bool.not_false, ite_true, ite_false, not_true_eq_false, not_false_eq_true, cxK, cutTo1, cutFrom1, mk_iff, tyV_str, stComp, List.map_cons, List.map_nil, Option.join_some, Option.join_none, gt_iff_lt, ge_iff_le, tRaise, tTryR, tCallH, tDisp, tPairs, tFld, sFld, tMake, tMeth, tBM0, tOrE, tRev, tLRng, l_e, l_b]; exact q)
    | frz e => exact isi_f (.frz e) (by simp only [tSeq, tIfS, tRet, tRetN, tC, tVar, tOp, tUn, tTest, tB, tAnd, tOr, tNot, tAndV, tOrV, tNotV, tIf, tChain, tCons, tNil, tCall, tCB, tLst, tTup, tSl, tNoPart, tPart, gName, tNext, tDrop, tAsg, tAsgC, tBM, tYes, tDNewK, rI, rI0, rU, rEq, rNe, rAbs, rIntT, CDiv, add_ii, add_ss, mul_ii, mul_si, ix_si, eq_ii, eq_ss, eq_bb, ne_ii, ne_ss, ne_ni, ne_in, in_s1, notin_s1, is_xn, is_bb, isnot_xn, isnot_bb, sl_s, len_s, find_ss, index_ss, List.append_nil, List.cons_append, List.nil_append, List.getElem?_cons_succ, List.getElem?_cons_zero, List.set_cons_succ, List.set_cons_zero, Option.some.injEq, V.int.injEq, V.bl.injEq, V.str.injEq, V.ref.injEq, V.ty.injEq, List.cons.injEq, and_true, true_and, exists_eq_left, exists_eq_left', exists_and_left, exists_eq', exists_const, exists_and_right, exists_eq_right, exists_eq_right', reduceCtorEq, false_and, and_false, exists_false, or_false, false_or, decide_eq_true_eq, Bool.not_eq_true', decide_eq_false_iff_not, Bool.false_eq_true, if_false, if_true, mk_app, mk_len, sg_mk, mk_one, decide_true, decide_false, Bool.not_true, Bool.not_false, ite_true, ite_false, not_true_eq_false, not_false_eq_true, cxK, cutTo1, cutFrom1, mk_iff, tyV_str, stComp, List.map_cons, List.map_nil, Option.join_some, Option.join_none, gt_iff_lt, ge_iff_le, tRaise, tTryR, tCallH, tDisp, tPairs, tFld, sFld, tMake, tMeth, tBM0, tOrE, tRev, tLRng, l_e, l_b]; exact q)
    | tup e => exact isi_f (.tup e) (by simp only [tSeq, tIfS, tRet, tRetN, tC, tVar, tOp, tUn, tTest, tB, tAnd, tOr, tNot, tAndV, tOrV, tNotV, tIf, tChain, tCons, tNil, tCall, tCB, tLst, tTup, tSl, tNoPart, tPart, gName, tNext, tDrop, tAsg, tAsgC, tBM, tYes, tDNewK, rI, rI0, rU, rEq, rNe, rAbs, rIntT, CDiv, add_ii, add_ss, mul_ii, mul_si, ix_si, eq_ii, eq_ss, eq_bb, ne_ii, ne_ss, ne_ni, ne_in, in_s1, notin_s1, is_xn, is_bb, isnot_xn, isnot_bb, sl_s, len_s, find_ss, index_ss, List.append_nil, List.cons_append, List.nil_append, List.getElem?_cons_succ, List.getElem?_cons_zero, List.set_cons_succ, List.set_cons_zero, Option.some.injEq, V.int.injEq, V.bl.injEq, V.str.injEq, V.ref.injEq, V.ty.injEq, List.cons.injEq, and_true, true_and, exists_eq_left, exists_eq_left', exists_and_left, exists_eq', exists_const, exists_and_right, exists_eq_right, exists_eq_right', reduceCtorEq, false_and, and_false, exists_false, or_false, false_or, decide_eq_true_eq, Bool.not_eq_true', decide_eq_false_iff_not, Bool.false_eq_true, if_false, if_true, mk_app, mk_len, sg_mk, mk_one, decide_true, decide_false, Bool.not_true, Bool.not_false, ite_true, ite_false, not_true_eq_false, not_false_eq_true, cxK, cutTo1, cutFrom1, mk_iff, tyV_str, stComp, List.map_cons, List.map_nil, Option.join_some, Option.join_none, gt_iff_lt, ge_iff_le, tRaise, tTryR, tCallH, tDisp, tPairs, tFld, sFld, tMake, tMeth, tBM0, tOrE, tRev, tLRng, l_e, l_b]; exact q)
    | dK e => exact isi_f (.dK e) (by simp only [tSeq, tIfS, tRet, tRetN, tC, tVar, tOp, tUn, tTest, tB, tAnd, tOr, tNot, tAndV, tOrV, tNotV, tIf, tChain, tCons, tNil, tCall, tCB, tLst, tTup, tSl, tNoPart, tPart, gName, tNext, tDrop, tAsg, tAsgC, tBM, tYes, tDNewK, rI, rI0, rU, rEq, rNe, rAbs, rIntT, CDiv, add_ii, add_ss, mul_ii, mul_si, ix_si, eq_ii, eq_ss, eq_bb, ne_ii, ne_ss, ne_ni, ne_in, in_s1, notin_s1, is_xn, is_bb, isnot_xn, isnot_bb, sl_s, len_s, find_ss, index_ss, List.append_nil, List.cons_append, List.nil_append, List.getElem?_cons_succ, List.getElem?_cons_zero, List.set_cons_succ, List.set_cons_zero, Option.some.injEq, V.int.injEq, V.bl.injEq, V.str.injEq, V.ref.injEq, V.ty.injEq, List.cons.injEq, and_true, true_and, exists_eq_left, exists_eq_left', exists_and_left, exists_eq', exists_const, exists_and_right, exists_eq_right, exists_eq_right', reduceCtorEq, false_and, and_false, exists_false, or_false, false_or, decide_eq_true_eq, Bool.not_eq_true', decide_eq_false_iff_not, Bool.false_eq_true, if_false, if_true, mk_app, mk_len, sg_mk, mk_one, decide_true, decide_false, Bool.not_true, Bool.not_false, ite_true, ite_false, not_true_eq_false, not_false_eq_true, cxK, cutTo1, cutFrom1, mk_iff, tyV_str, stComp, List.map_cons, List.map_nil, Option.join_some, Option.join_none, gt_iff_lt, ge_iff_le, tRaise, tTryR, tCallH, tDisp, tPairs, tFld, sFld, tMake, tMeth, tBM0, tOrE, tRev, tLRng, l_e, l_b]; exact q)
    | dT e => exact isi_f (.dT e) (by simp only [tSeq, tIfS, tRet, tRetN, tC, tVar, tOp, tUn, tTest, tB, tAnd, tOr, tNot, tAndV, tOrV, tNotV, tIf, tChain, tCons, tNil, tCall, tCB, tLst, tTup, tSl, tNoPart, tPart, gName, tNext, tDrop, tAsg, tAsgC, tBM, tYes, tDNewK, rI, rI0, rU, rEq, rNe, rAbs, rIntT, CDiv, add_ii, add_ss, mul_ii, mul_si, ix_si, eq_ii, eq_ss, eq_bb, ne_ii, ne_ss, ne_ni, ne_in, in_s1, notin_s1, is_xn, is_bb, isnot_xn, isnot_bb, sl_s, len_s, find_ss, index_ss, List.append_nil, List.cons_append, List.nil_append, List.getElem?_cons_succ, List.getElem?_cons_zero, List.set_cons_succ, List.set_cons_zero, Option.some.injEq, V.int.injEq, V.bl.injEq, V.str.injEq, V.ref.injEq, V.ty.injEq, List.cons.injEq, and_true, true_and, exists_eq_left, exists_eq_left', exists_and_left, exists_eq', exists_const, exists_and_right, exists_eq_right, exists_eq_right', reduceCtorEq, false_and, and_false, exists_false, or_false, false_or, decide_eq_true_eq, Bool.not_eq_true', decide_eq_false_iff_not, Bool.false_eq_true, if_false, if_true, mk_app, mk_len, sg_mk, mk_one, decide_true, decide_false, Bool.not_true, Bool.not_false, ite_true, ite_false, not_true_eq_false, not_false_eq_true, cxK, cutTo1, cutFrom1, mk_iff, tyV_str, stComp, List.map_cons, List.map_nil, Option.join_some, Option.join_none, gt_iff_lt, ge_iff_le, tRaise, tTryR, tCallH, tDisp, tPairs, tFld, sFld, tMake, tMeth, tBM0, tOrE, tRev, tLRng, l_e, l_b]; exact q)
noncomputable def sp__law_list_of (K : PySem.W.Frag) : Sp := fun vs H Q E => ∃ (a b : Addr) (ns : List Int), vs = [.ref a, .ref b] ∧ H a = some (.lst (ns.map V.int)) ∧ H b = some (.lst (ns.map V.int)) ∧ ns.length ≤ 100 ∧ ∀ H', Same H H' → Q (.bl true) H'
theorem sc__law_list_of : FnScope ["_law_found", "_law_due"] ["_law_found", "_law_due"] (defScope s__law_list_of) := ⟨rfl, rfl, rfl, by decide +kernel, rfl, by decide +kernel, by decide +kernel⟩
theorem ok__law_list_of (T : Txt K mg) : FnOk P w K mg base CX0 2 T.d__law_list_of.f T.d__law_list_of.fd ["_law_found", "_law_due"] (sp__law_list_of K) := by
  have nd := sc__law_list_of.nd
  refine T.d__law_list_of.F.ok sc__law_list_of (fun vs H Q E h => ?_) (fun cdv A outer s H vs Q E hr h => ?_)
  · obtain ⟨a, b, ns, rfl, ha, hb, hl, q⟩ := h
    rfl
  · obtain ⟨a, b, ns, rfl, ha, hb, hl, q⟩ := h
    have hu := hr.units0
    refine ⟨_, (pss_one (ps_ret (pe_and (pcB (o_isinstance (K := K)) rfl T.n_isinstance (by kernel_rfl) (pa1 (pv 0) (pa1 (pe_bltn (v := .ty "list") rfl T.n_list (by kernel_rfl) rfl) pa_nil))) (pe_and (pe_cmpR (o_eq (K := K) hu) (pv 0) (pv 1) (nomark _)) (pe_one (pcB (o_all (K := K)) rfl T.n_all (by kernel_rfl) (pa1 (pe_lcomp (N' := ["_law_one"]) (src := [none]) rfl (CompScope.of (by kernel_rfl)) (pi_listK (K := K) (pv 0)) (fun _ _ _ _ _ _ => (pg_name (i := 0) (show (["_law_one"] : List Str).Nodup by decide +kernel) rfl (Or.inl rfl))) (fun _ _ _ _ _ _ => pif_nil) (fun _ _ _ _ _ _ => (pc1 T.d__law_whole (ok__law_whole T) (hr.mono (by decide)) (pa1 (pv 0) pa_nil)))) pa_nil))))))), ?_⟩
    rw [show start ["_law_found", "_law_due"] [V.ref a, V.ref b] = [some (V.ref a), some (V.ref b)] from rfl]
    simp only [tSeq, tIfS, tRet, tRetN, tC, tVar, tOp, tUn, tTest, tB, tAnd, tOr, tNot, tAndV, tOrV, tNotV, tIf, tChain, tCons, tNil, tCall, tCB, tLst, tTup, tSl, tNoPart, tPart, gName, tNext, tDrop, tAsg, tAsgC, tBM, tYes, tDNewK, rI, rI0, rU, rEq, rNe, rAbs, rIntT, CDiv, add_ii, add_ss, mul_ii, mul_si, ix_si, eq_ii, eq_ss, eq_bb, ne_ii, ne_ss, ne_ni, ne_in, in_s1, notin_s1, is_xn, is_bb, isnot_xn, isnot_bb, sl_s, len_s, find_ss, index_ss, List.append_nil, List.cons_append, List.nil_append, List.getElem?_cons_succ, List.getElem?_cons_zero, List.set_cons_succ, List.set_cons_zero, Option.some.injEq, V.int.injEq, V.bl.injEq, V.str.injEq, V.ref.injEq, V.ty.injEq, List.cons.injEq, and_true, true_and, exists_eq_left, exists_eq_left', exists_and_left, exists_eq', exists_const, exists_and_right, exists_eq_right, exists_eq_right', reduceCtorEq, false_and, and_false, exists_false, or_false, false_or, decide_eq_true_eq, Bool.not_eq_true', decide_eq_false_iff_not, Bool.false_eq_true, if_false, if_true, mk_app, mk_len, sg_mk, mk_one, decide_true, decide_false, Bool.not_true, Bool.not_false, ite_true, ite_false, not_true_eq_false, not_false_eq_true, cxK, cutTo1, cutFrom1, mk_iff, tyV_str, stComp, List.map_cons, List.map_nil, Option.join_some, Option.join_none, gt_iff_lt, ge_iff_le, tRaise, tTryR, tCallH, tDisp, tPairs, tFld, sFld, tMake, tMeth, tBM0, tOrE, tRev, tLRng, l_e, l_b]
    refine isi_l ha ?_
    simp only [tSeq, tIfS, tRet, tRetN, tC, tVar, tOp, tUn, tTest, tB, tAnd, tOr, tNot, tAndV, tOrV, tNotV, tIf, tChain, tCons, tNil, tCall, tCB, tLst, tTup, tSl, tNoPart, tPart, gName, tNext, tDrop, tAsg, tAsgC, tBM, tYes, tDNewK, rI, rI0, rU, rEq, rNe, rAbs, rIntT, CDiv, add_ii, add_ss, mul_ii, mul_si, ix_si, eq_ii, eq_ss, eq_bb, ne_ii, ne_ss, ne_ni, ne_in, in_s1, notin_s1, is_xn, is_bb, isnot_xn, isnot_bb, sl_s, len_s, find_ss, index_ss, List.append_nil, List.cons_append, List.nil_append, List.getElem?_cons_succ, List.getElem?_cons_zero, List.set_cons_succ, List.set_cons_zero, Option.some.injEq, V.int.injEq, V.bl.injEq, V.str.injEq, V.ref.injEq, V.ty.injEq, List.cons.injEq, and_true, true_and, exists_eq_left, exists_eq_left', exists_and_left, exists_eq', exists_const, exists_and_right, exists_eq_right, exists_eq_right', reduceCtorEq, false_and, and_false, exists_false, or_false, false_or, decide_eq_true_eq, Bool.not_eq_true', decide_eq_false_iff_not, Bool.false_eq_true, if_false, if_true, mk_app, mk_len, sg_mk, mk_one, decide_true, decide_false, Bool.not_true, Bool.not_false, ite_true, ite_false, not_true_eq_false, not_false_eq_true, cxK, cutTo1, cutFrom1, mk_iff, tyV_str, stComp, List.map_cons, List.map_nil, Option.join_some, Option.join_none, gt_iff_lt, ge_iff_le, tRaise, tTryR, tCallH, tDisp, tPairs, tFld, sFld, tMake, tMeth, tBM0, tOrE, tRev, tLRng, l_e, l_b]
    refine eqLL_same ha hb (flat_ints _) ?_
    simp only [tSeq, tIfS, tRet, tRetN, tC, tVar, tOp, tUn, tTest, tB, tAnd, tOr, tNot, tAndV, tOrV, tNotV, tIf, tChain, tCons, tNil, tCall, tCB, tLst, tTup, tSl, tNoPart, tPart, gName, tNext, tDrop, tAsg, tAsgC, tBM, tYes, tDNewK, rI, rI0, rU, rEq, rNe, rAbs, rIntT, CDiv, add_ii, add_ss, mul_ii, mul_si, ix_si, eq_ii, eq_ss, eq_bb, ne_ii, ne_ss, ne_ni, ne_in, in_s1, notin_s1, is_xn, is_bb, isnot_xn, isnot_bb, sl_s, len_s, find_ss, index_ss, List.append_nil, List.cons_append, List.nil_append, List.getElem?_cons_succ, List.getElem?_cons_zero, List.set_cons_succ, List.set_cons_zero, Option.some.injEq, V.int.injEq, V.bl.injEq, V.str.injEq, V.ref.injEq, V.ty.injEq, List.cons.injEq, and_true, true_and, exists_eq_left, exists_eq_left', exists_and_left, exists_eq', exists_const, exists_and_right, exists_eq_right, exists_eq_right', reduceCtorEq, false_and, and_false, exists_false, or_false, false_or, decide_eq_true_eq, Bool.not_eq_true', decide_eq_false_iff_not, Bool.false_eq_true, if_false, if_true, mk_app, mk_len, sg_mk, mk_one, decide_true, decide_false, Bool.not_true, Bool.not_false, ite_true, ite_false, not_true_eq_false, not_false_eq_true, cxK, cutTo1, cutFrom1, mk_iff, tyV_str, stComp, List.map_cons, List.map_nil, Option.join_some, Option.join_none, gt_iff_lt, ge_iff_le, tRaise, tTryR, tCallH, tDisp, tPairs, tFld, sFld, tMake, tMeth, tBM0, tOrE, tRev, tLRng, l_e, l_b]
    refine tcomp_list (a := a) (xs := ns.map V.int) H (fun R r => ⟨_, rfl, r⟩) (SqL.of ha) (fun v => [V.bl true]) (· = H) rfl rfl (fun H' e => by rw [e]; exact SqL.of ha) (sl1000 (by simp; omega)) (fun i x H' Cy Cn hx e cy cn => ?_) (fun H' r e hr => ?_)
    · subst H'
      rw [List.getElem?_map] at hx
      cases ee : ns[i]? with
      | none => rw [ee] at hx; cases hx
      | some n =>
        rw [ee] at hx
        cases hx
        simp only [tSeq, tIfS, tRet, tRetN, tC, tVar, tOp, tUn, tTest, tB, tAnd, tOr, tNot, tAndV, tOrV, tNotV, tIf, tChain, tCons, tNil, tCall, tCB, tLst, tTup, tSl, tNoPart, tPart, gName, tNext, tDrop, tAsg, tAsgC, tBM, tYes, tDNewK, rI, rI0, rU, rEq, rNe, rAbs, rIntT, CDiv, add_ii, add_ss, mul_ii, mul_si, ix_si, eq_ii, eq_ss, eq_bb, ne_ii, ne_ss, ne_ni, ne_in, in_s1, notin_s1, is_xn, is_bb, isnot_xn, isnot_bb, sl_s, len_s, find_ss, index_ss, List.append_nil, List.cons_append, List.nil_append, List.getElem?_cons_succ, List.getElem?_cons_zero, List.set_cons_succ, List.set_cons_zero, Option.some.injEq, V.int.injEq, V.bl.injEq, V.str.injEq, V.ref.injEq, V.ty.injEq, List.cons.injEq, and_true, true_and, exists_eq_left, exists_eq_left', exists_and_left, exists_eq', exists_const, exists_and_right, exists_eq_right, exists_eq_right', reduceCtorEq, false_and, and_false, exists_false, or_false, false_or, decide_eq_true_eq, Bool.not_eq_true', decide_eq_false_iff_not, Bool.false_eq_true, if_false, if_true, mk_app, mk_len, sg_mk, mk_one, decide_true, decide_false, Bool.not_true, Bool.not_false, ite_true, ite_false, not_true_eq_false, not_false_eq_true, cxK, cutTo1, cutFrom1, mk_iff, tyV_str, stComp, List.map_cons, List.map_nil, Option.join_some, Option.join_none, gt_iff_lt, ge_iff_le, tRaise, tTryR, tCallH, tDisp, tPairs, tFld, sFld, tMake, tMeth, tBM0, tOrE, tRev, tLRng, l_e, l_b]
        exact ⟨_, rfl, ⟨_, .int n⟩, cy _ _ rfl rfl⟩
    subst H'
    have ea : (ns.map V.int).flatMap (fun v => [V.bl true]) = (ns.map fun _ => true).map V.bl := by rw [fm_one, List.map_map, List.map_map]; rfl
    rw [ea]
    refine allL (bs := ns.map fun _ => true) (SqL.of upd_same) ?_
    rw [List.all_map, show ns.all (id ∘ fun _ => true) = true by simp]
    exact q _ (Same.upd (Same.refl H) hr)
noncomputable def sp__law_size (K : PySem.W.Frag) : Sp := fun vs H Q E => ∃ (a : Addr) (ns : List Int) (p : Int), vs = [.ref a, .int p] ∧ H a = some (.lst (ns.map V.int)) ∧ Byt ns ∧ 0 ≤ p ∧ ∀ H', Same H H' → Q (szV (szF ns p)) H'
theorem sc__law_size : FnScope ["_law_row", "_law_place", "_law_byte", "_law_many"] ["_law_row", "_law_place"] (defScope s__law_size) := ⟨rfl, rfl, rfl, by decide +kernel, rfl, by decide +kernel, by decide +kernel⟩
theorem ok__law_size (T : Txt K mg) : FnOk P w K mg base CX0 1 T.d__law_size.f T.d__law_size.fd ["_law_row", "_law_place"] (sp__law_size K) := by
  have nd := sc__law_size.nd
  refine T.d__law_size.F.ok sc__law_size (fun vs H Q E h => ?_) (fun cdv A outer s H vs Q E hr h => ?_)
  · obtain ⟨a, ns, p, rfl, ha, hby, p0, q⟩ := h
    rfl
  · obtain ⟨a, ns, p, rfl, ha, hby, p0, q⟩ := h
    have hu := hr.units0
    refine ⟨_, (pss_cons (ps_if (pt_cmpR op_ge (pv 1) (pcB (o_len (K := K)) rfl T.n_len (by kernel_rfl) (pa1 (pv 0) pa_nil)) (nomark _)) (pss_one (ps_ret pe_non)) pss_nil)
      (pss_cons (ps_set (i := 2) nd rfl (Or.inl rfl) (pe_ix (o_ix (K := K)) (pv 0) (pv 1) (fun _ _ => rfl)))
      (pss_cons (ps_set (i := 3) nd rfl (Or.inl rfl) pe_int)
      (pss_cons (ps_if (pt_chain op_le op_le pe_int (pv 2) pe_int) (pss_one (ps_set (i := 3) nd rfl (Or.inl rfl) pe_int)) (pss_one (ps_if (PW.pt (pw_or (pt_cmpR (o_eq (K := K) hu) (pv 2) pe_int (nomark _)) (pw_or1 (pt_cmpR (o_in (K := K)) (pv 2) (pe_tup (pa1 pe_int (pa1 pe_int (pa1 pe_int pa_nil)))) (by with_unfolding_all rfl))))) (pss_one (ps_set (i := 3) nd rfl (Or.inl rfl) pe_int)) (pss_one (ps_if (PW.pt (pw_or (pt_cmpR (o_eq (K := K) hu) (pv 2) pe_int (nomark _)) (pw_or1 (pt_cmpR (o_in (K := K)) (pv 2) (pe_tup (pa1 pe_int (pa1 pe_int (pa1 pe_int pa_nil)))) (by with_unfolding_all rfl))))) (pss_one (ps_set (i := 3) nd rfl (Or.inl rfl) pe_int)) pss_nil)))))
      (pss_one (ps_ret (pe_ifExp (PW.pt (pw_and (pt_cmpR op_gt (pv 3) pe_int (nomark _)) (pw_and1 (pt_cmpR op_le (pe_op o_add (pv 1) (pv 3)) (pcB (o_len (K := K)) rfl T.n_len (by kernel_rfl) (pa1 (pv 0) pa_nil)) (nomark _))))) (pv 3) pe_non))))))), ?_⟩
    rw [show start ["_law_row", "_law_place", "_law_byte", "_law_many"] [V.ref a, V.int p] = [some (V.ref a), some (V.int p), none, none] from rfl]
    refine tSeq_gen fun B hB => ?_
    simp only [tSeq, tIfS, tRet, tRetN, tC, tVar, tOp, tUn, tTest, tB, tAnd, tOr, tNot, tAndV, tOrV, tNotV, tIf, tChain, tCons, tNil, tCall, tCB, tLst, tTup, tSl, tNoPart, tPart, gName, tNext, tDrop, tAsg, tAsgC, tBM, tYes, tDNewK, rI, rI0, rU, rEq, rNe, rAbs, rIntT, CDiv, add_ii, add_ss, mul_ii, mul_si, ix_si, eq_ii, eq_ss, eq_bb, ne_ii, ne_ss, ne_ni, ne_in, in_s1, notin_s1, is_xn, is_bb, isnot_xn, isnot_bb, sl_s, len_s, find_ss, index_ss, List.append_nil, List.cons_append, List.nil_append, List.getElem?_cons_succ, List.getElem?_cons_zero, List.set_cons_succ, List.set_cons_zero, Option.some.injEq, V.int.injEq, V.bl.injEq, V.str.injEq, V.ref.injEq, V.ty.injEq, List.cons.injEq, and_true, true_and, exists_eq_left, exists_eq_left', exists_and_left, exists_eq', exists_const, exists_and_right, exists_eq_right, exists_eq_right', reduceCtorEq, false_and, and_false, exists_false, or_false, false_or, decide_eq_true_eq, Bool.not_eq_true', decide_eq_false_iff_not, Bool.false_eq_true, if_false, if_true, mk_app, mk_len, sg_mk, mk_one, decide_true, decide_false, Bool.not_true, Bool.not_false, ite_true, ite_false, not_true_eq_false, not_false_eq_true, cxK, cutTo1, cutFrom1, mk_iff, tyV_str, stComp, List.map_cons, List.map_nil, Option.join_some, Option.join_none, gt_iff_lt, ge_iff_le, tRaise, tTryR, tCallH, tDisp, tPairs, tFld, sFld, tMake, tMeth, tBM0, tOrE, tRev, tLRng, l_e, l_b]
    refine lenL (SqL.of ha) ⟨_, rfl, ?_⟩
    rw [List.length_map]
    by_cases h : (ns.length : Int) ≤ p
    · have e : ns[p.toNat]? = none := List.getElem?_eq_none (by omega)
      have q' := q H (Same.refl H)
      unfold szF at q'
      rw [e] at q'
      exact iteT' h q'
    refine iteF' h ?_
    have h' : p < (ns.length : Int) := by omega
    have e : ns[p.toNat]? = some (ns.getD p.toNat 0) := by
      have : p.toNat < ns.length := by omega
      simp [List.getD, this]
    have hb := hby _ (List.mem_of_getElem? e)
    unfold szF at q
    rw [e] at q
    dsimp only at q
    rw [sz_is hb.1 hb.2] at q
    subst hB
    refine tSeq_gen fun B hB => ?_
    simp only [tSeq, tIfS, tRet, tRetN, tC, tVar, tOp, tUn, tTest, tB, tAnd, tOr, tNot, tAndV, tOrV, tNotV, tIf, tChain, tCons, tNil, tCall, tCB, tLst, tTup, tSl, tNoPart, tPart, gName, tNext, tDrop, tAsg, tAsgC, tBM, tYes, tDNewK, rI, rI0, rU, rEq, rNe, rAbs, rIntT, CDiv, add_ii, add_ss, mul_ii, mul_si, ix_si, eq_ii, eq_ss, eq_bb, ne_ii, ne_ss, ne_ni, ne_in, in_s1, notin_s1, is_xn, is_bb, isnot_xn, isnot_bb, sl_s, len_s, find_ss, index_ss, List.append_nil, List.cons_append, List.nil_append, List.getElem?_cons_succ, List.getElem?_cons_zero, List.set_cons_succ, List.set_cons_zero, Option.some.injEq, V.int.injEq, V.bl.injEq, V.str.injEq, V.ref.injEq, V.ty.injEq, List.cons.injEq, and_true, true_and, exists_eq_left, exists_eq_left', exists_and_left, exists_eq', exists_const, exists_and_right, exists_eq_right, exists_eq_right', reduceCtorEq, false_and, and_false, exists_false, or_false, false_or, decide_eq_true_eq, Bool.not_eq_true', decide_eq_false_iff_not, Bool.false_eq_true, if_false, if_true, mk_app, mk_len, sg_mk, mk_one, decide_true, decide_false, Bool.not_true, Bool.not_false, ite_true, ite_false, not_true_eq_false, not_false_eq_true, cxK, cutTo1, cutFrom1, mk_iff, tyV_str, stComp, List.map_cons, List.map_nil, Option.join_some, Option.join_none, gt_iff_lt, ge_iff_le, tRaise, tTryR, tCallH, tDisp, tPairs, tFld, sFld, tMake, tMeth, tBM0, tOrE, tRev, tLRng, l_e, l_b]
    refine ixL (SqL.of ha) (getI p0 h') ?_
    generalize ns.getD p.toNat 0 = b at q hb
    subst hB
    refine tSeq_gen fun B hB => ?_
    simp only [tSeq, tIfS, tRet, tRetN, tC, tVar, tOp, tUn, tTest, tB, tAnd, tOr, tNot, tAndV, tOrV, tNotV, tIf, tChain, tCons, tNil, tCall, tCB, tLst, tTup, tSl, tNoPart, tPart, gName, tNext, tDrop, tAsg, tAsgC, tBM, tYes, tDNewK, rI, rI0, rU, rEq, rNe, rAbs, rIntT, CDiv, add_ii, add_ss, mul_ii, mul_si, ix_si, eq_ii, eq_ss, eq_bb, ne_ii, ne_ss, ne_ni, ne_in, in_s1, notin_s1, is_xn, is_bb, isnot_xn, isnot_bb, sl_s, len_s, find_ss, index_ss, List.append_nil, List.cons_append, List.nil_append, List.getElem?_cons_succ, List.getElem?_cons_zero, List.set_cons_succ, List.set_cons_zero, Option.some.injEq, V.int.injEq, V.bl.injEq, V.str.injEq, V.ref.injEq, V.ty.injEq, List.cons.injEq, and_true, true_and, exists_eq_left, exists_eq_left', exists_and_left, exists_eq', exists_const, exists_and_right, exists_eq_right, exists_eq_right', reduceCtorEq, false_and, and_false, exists_false, or_false, false_or, decide_eq_true_eq, Bool.not_eq_true', decide_eq_false_iff_not, Bool.false_eq_true, if_false, if_true, mk_app, mk_len, sg_mk, mk_one, decide_true, decide_false, Bool.not_true, Bool.not_false, ite_true, ite_false, not_true_eq_false, not_false_eq_true, cxK, cutTo1, cutFrom1, mk_iff, tyV_str, stComp, List.map_cons, List.map_nil, Option.join_some, Option.join_none, gt_iff_lt, ge_iff_le, tRaise, tTryR, tCallH, tDisp, tPairs, tFld, sFld, tMake, tMeth, tBM0, tOrE, tRev, tLRng, l_e, l_b]
    subst hB
    refine tSeq_gen fun B hB => ?_
    simp only [tSeq, tIfS, tRet, tRetN, tC, tVar, tOp, tUn, tTest, tB, tAnd, tOr, tNot, tAndV, tOrV, tNotV, tIf, tChain, tCons, tNil, tCall, tCB, tLst, tTup, tSl, tNoPart, tPart, gName, tNext, tDrop, tAsg, tAsgC, tBM, tYes, tDNewK, rI, rI0, rU, rEq, rNe, rAbs, rIntT, CDiv, add_ii, add_ss, mul_ii, mul_si, ix_si, eq_ii, eq_ss, eq_bb, ne_ii, ne_ss, ne_ni, ne_in, in_s1, notin_s1, is_xn, is_bb, isnot_xn, isnot_bb, sl_s, len_s, find_ss, index_ss, List.append_nil, List.cons_append, List.nil_append, List.getElem?_cons_succ, List.getElem?_cons_zero, List.set_cons_succ, List.set_cons_zero, Option.some.injEq, V.int.injEq, V.bl.injEq, V.str.injEq, V.ref.injEq, V.ty.injEq, List.cons.injEq, and_true, true_and, exists_eq_left, exists_eq_left', exists_and_left, exists_eq', exists_const, exists_and_right, exists_eq_right, exists_eq_right', reduceCtorEq, false_and, and_false, exists_false, or_false, false_or, decide_eq_true_eq, Bool.not_eq_true', decide_eq_false_iff_not, Bool.false_eq_true, if_false, if_true, mk_app, mk_len, sg_mk, mk_one, decide_true, decide_false, Bool.not_true, Bool.not_false, ite_true, ite_false, not_true_eq_false, not_false_eq_true, cxK, cutTo1, cutFrom1, mk_iff, tyV_str, stComp, List.map_cons, List.map_nil, Option.join_some, Option.join_none, gt_iff_lt, ge_iff_le, tRaise, tTryR, tCallH, tDisp, tPairs, tFld, sFld, tMake, tMeth, tBM0, tOrE, tRev, tLRng, l_e, l_b]
    have fin : ∀ m H', m = lawSz b → Same H H' → B { nx := fun x H' => Q V.non H', rt := Q } [some (V.ref a), some (V.int p), some (V.int b), some (V.int m)] H' := by
      intro m H' em S
      subst em hB
      have q' := q H' S
      simp only [tSeq, tIfS, tRet, tRetN, tC, tVar, tOp, tUn, tTest, tB, tAnd, tOr, tNot, tAndV, tOrV, tNotV, tIf, tChain, tCons, tNil, tCall, tCB, tLst, tTup, tSl, tNoPart, tPart, gName, tNext, tDrop, tAsg, tAsgC, tBM, tYes, tDNewK, rI, rI0, rU, rEq, rNe, rAbs, rIntT, CDiv, add_ii, add_ss, mul_ii, mul_si, ix_si, eq_ii, eq_ss, eq_bb, ne_ii, ne_ss, ne_ni, ne_in, in_s1, notin_s1, is_xn, is_bb, isnot_xn, isnot_bb, sl_s, len_s, find_ss, index_ss, List.append_nil, List.cons_append, List.nil_append, List.getElem?_cons_succ, List.getElem?_cons_zero, List.set_cons_succ, List.set_cons_zero, Option.some.injEq, V.int.injEq, V.bl.injEq, V.str.injEq, V.ref.injEq, V.ty.injEq, List.cons.injEq, and_true, true_and, exists_eq_left, exists_eq_left', exists_and_left, exists_eq', exists_const, exists_and_right, exists_eq_right, exists_eq_right', reduceCtorEq, false_and, and_false, exists_false, or_false, false_or, decide_eq_true_eq, Bool.not_eq_true', decide_eq_false_iff_not, Bool.false_eq_true, if_false, if_true, mk_app, mk_len, sg_mk, mk_one, decide_true, decide_false, Bool.not_true, Bool.not_false, ite_true, ite_false, not_true_eq_false, not_false_eq_true, cxK, cutTo1, cutFrom1, mk_iff, tyV_str, stComp, List.map_cons, List.map_nil, Option.join_some, Option.join_none, gt_iff_lt, ge_iff_le, tRaise, tTryR, tCallH, tDisp, tPairs, tFld, sFld, tMake, tMeth, tBM0, tOrE, tRev, tLRng, l_e, l_b]
      by_cases h1 : 0 < lawSz b
      · rw [if_neg (by omega)] at q'
        dsimp only at q'
        refine iteT' h1 (lenL (SqL.of (S _ _ ha)) ⟨_, rfl, ?_⟩)
        rw [List.length_map]
        by_cases h2 : p + lawSz b ≤ (ns.length : Int)
        · rw [if_pos h2] at q'
          exact iteT' h2 q'
        · rw [if_neg h2] at q'
          exact iteF' h2 q'
      · have h0 := lawSz0 b
        rw [if_pos (by omega)] at q'
        exact iteF' h1 q'
    clear hB
    by_cases c : 16 ≤ b ∧ b ≤ 33
    · exact iteT' c.1 (iteT' c.2 (fin 1 H (by rw [lawSz, if_pos c]) (Same.refl H)))
    have go : ∀ {P A : Prop}, A → if 16 ≤ b then if b ≤ 33 then P else A else A := by
      intro P A h
      split
      · rw [if_neg (by omega)]; exact h
      · exact h
    refine go ?_
    by_cases c48 : b = 48
    · exact iteT' c48 (fin 2 H (by subst c48; rfl) (Same.refl H))
    refine iteF' c48 ⟨sl1000 (by simp), fun pt np => .inr ⟨pt, _, rfl, .inr (SqT.of upd_same), rfl, rfl, _, rfl, ?_⟩⟩
    have S1 := Same.upd (Same.refl H) np (o := .tup [V.int 64, V.int 65, V.int 66])
    generalize upd H pt (.tup [V.int 64, V.int 65, V.int 66]) = H1 at S1 ⊢
    rw [inV3]
    by_cases c2 : b = 64 ∨ b = 65 ∨ b = 66
    · exact iteT' (decide_eq_true c2) (fin 2 H1 (by rw [lawSz, if_neg c, if_pos (.inr c2)]) S1)
    refine iteF' (by simpa using c2) ?_
    by_cases c49 : b = 49
    · exact iteT' c49 (fin 3 H1 (by subst c49; rfl) S1)
    refine iteF' c49 ⟨sl1000 (by simp), fun pt np => .inr ⟨pt, _, rfl, .inr (SqT.of upd_same), rfl, rfl, _, rfl, ?_⟩⟩
    have S1 := Same.upd S1 np (o := .tup [V.int 80, V.int 81, V.int 82])
    generalize upd H1 pt (.tup [V.int 80, V.int 81, V.int 82]) = H2 at S1 ⊢
    rw [inV3]
    by_cases c3 : b = 80 ∨ b = 81 ∨ b = 82
    · exact iteT' (decide_eq_true c3) (fin 3 H2 (by rw [lawSz, if_neg c, if_neg (by omega), if_pos (.inr c3)]) S1)
    exact iteF' (by simpa using c3) (fin 0 H2 (by rw [lawSz, if_neg c, if_neg (by omega), if_neg (by omega)]) S1)
noncomputable def sp__law_right (T : Txt K mg) : Sp := fun vs H Q E => ∃ (h r : Addr) (ns : List Int) (p : Int), vs = [.ref h, .ref r, .int p] ∧ H h = some (.lst (ns.map V.int)) ∧ H r = some (.lst (ns.map V.int)) ∧ Byt ns ∧ ns.length ≤ 200 ∧ 0 ≤ p ∧ ∀ H', Same H H' → Q (.bl true) H'
theorem sc__law_right : FnScope ["_law_handed", "_law_row", "_law_place", "_law_found", "_law_due", "_law_one", "_law_word", "_law_text", "_law_number_here"] ["_law_handed", "_law_row", "_law_place"] (defScope s__law_right) := ⟨rfl, rfl, rfl, by decide +kernel, rfl, by decide +kernel, by decide +kernel⟩
theorem ok__law_right (T : Txt K mg) : FnOk P w K mg base CX0 4 T.d__law_right.f T.d__law_right.fd ["_law_handed", "_law_row", "_law_place"] (sp__law_right T) := by
  have nd := sc__law_right.nd
  refine T.d__law_right.F.ok sc__law_right (fun vs H Q E h => ?_) (fun cdv A outer s H vs Q E hr h => ?_)
  · obtain ⟨h, r, ns, p, rfl, eh, er, hby, hl, p0, q⟩ := h
    rfl
  · obtain ⟨h, r, ns, p, rfl, eh, er, hby, hl, p0, q⟩ := h
    have hu := hr.units0
    refine ⟨_, (pss_cons (ps_set (i := 3) nd rfl (Or.inl rfl) (pc1 T.d_size_at (ok_size_at T) (hr.mono (by decide)) (pa1 (pv 0) (pa1 (pv 2) pa_nil))))
      (pss_cons (ps_set (i := 4) nd rfl (Or.inl rfl) (pc1 T.d__law_size (ok__law_size T) (hr.mono (by decide)) (pa1 (pv 1) (pa1 (pv 2) pa_nil))))
      (pss_cons (ps_if (PW.pt (pw_or (pt_cmpR (o_ne (K := K) hu) (pv 3) (pv 4) (nomark _)) (pw_or1 (PW.pt (pw_and (pt_cmpR o_isnot (pv 4) pe_non (nomark _)) (pw_and1 (pt_not (pt_val (pc1 T.d__law_whole (ok__law_whole T) (hr.mono (by decide)) (pa1 (pv 3) pa_nil)))))))))) (pss_one (ps_ret pe_bl)) pss_nil)
      (pss_cons (ps_set (i := 5) nd rfl (Or.inl rfl) (pc1 T.d_alone_at (ok_alone_at T) (hr.mono (by decide)) (pa1 (pv 0) (pa1 (pv 2) pa_nil))))
      (pss_cons (ps_if (PW.pt (pw_or (pt_cmpR o_is (pv 4) pe_non (nomark _)) (pw_or1 (pt_cmpR op_ge (pe_ix (o_ix (K := K)) (pv 1) (pv 2) (fun _ _ => rfl)) pe_int (nomark _))))) (pss_one (ps_ret (pe_cmpR o_is (pv 5) pe_non (nomark _)))) pss_nil)
      (pss_cons (ps_if (PW.pt (pw_or (pt_not (pt_val (pcB (o_isiC (K := K)) rfl T.n_isinstance (by kernel_rfl) (pa1 (pv 5) (pa1 (pe_gl (v := .ref T.x_Op) rfl ⟨_, T.m_Op, rfl⟩) pa_nil))))) (pw_or1 (pt_not (pt_val (pc1 T.d__law_list_of (ok__law_list_of T) (hr.mono (by decide)) (pa1 (pe_alt (pmt0 (pv 5) T.oc_Alone (T.d_Op_told.for_ T.at_Alone_told) (ok_Op_told T) (hr.mono (by decide))) (pe_alt (pmt0 (pv 5) T.oc_Small T.d_Small_told (ok_Small_told T) (hr.mono (by decide))) (pmt0 (pv 5) T.oc_Push T.d_Push_told (ok_Push_told T) (hr.mono (by decide))))) (pa1 (pe_slice (o_sl (K := K)) (pv 1) (po_some (pv 2)) (po_some (pe_op o_add (pv 2) (pv 4)))) pa_nil)))))))) (pss_one (ps_ret pe_bl)) pss_nil)
      (pss_cons (ps_if (pt_cmpR (o_eq (K := K) hu) (pv 4) pe_int (nomark _)) (pss_cons (ps_set (i := 6) nd rfl (Or.inl rfl) (pe_ix (o_ix (K := K)) (pc0 T.d__law_alones (ok__law_alones T) (hr.mono (by decide))) (pe_op op_sub (pe_ix (o_ix (K := K)) (pv 1) (pv 2) (fun _ _ => rfl)) pe_int) (fun _ _ => rfl)))
      (pss_one (ps_set (i := 7) nd rfl (Or.inl rfl) (pv 6)))) (pss_cons (ps_set (i := 6) nd rfl (Or.inl rfl) (pe_ix (o_ix (K := K)) (pe_lst (pa1 pe_str (pa1 pe_str pa_nil))) (pe_op op_sub (pv 4) pe_int) (fun _ _ => rfl)))
      (pss_cons (ps_set (i := 8) nd rfl (Or.inl rfl) (pe_op o_add (pe_ix (o_ix (K := K)) (pv 1) (pe_op op_sub (pe_op o_add (pv 2) (pv 4)) pe_int) (fun _ _ => rfl)) (pe_op o_mul (pe_op o_mul pe_int (pe_ix (o_ix (K := K)) (pv 1) (pe_op o_add (pv 2) pe_int) (fun _ _ => rfl))) (pe_op op_sub (pv 4) pe_int))))
      (pss_one (ps_set (i := 7) nd rfl (Or.inl rfl) (pe_op o_add (pe_op o_add (pv 6) pe_str) (pcT call_str rfl T.n_str (by kernel_rfl) (pa1 (pv 8) pa_nil))))))))
      (pss_one (ps_ret (pe_and (pe_cmpR (o_eq (K := K) hu) (pe_alt (pmt0 (pv 5) T.oc_Alone (T.d_Op_size.for_ T.at_Alone_size) (ok_Op_size T) (hr.mono (by decide))) (pe_alt (pmt0 (pv 5) T.oc_Small (T.d_Op_size.for_ T.at_Small_size) (ok_Op_size T) (hr.mono (by decide))) (pmt0 (pv 5) T.oc_Push (T.d_Op_size.for_ T.at_Push_size) (ok_Op_size T) (hr.mono (by decide))))) (pv 4) (nomark _)) (pe_and (pe_cmpR (o_eq (K := K) hu) (pe_alt (pmt0 (pv 5) T.oc_Alone (T.d_Op_goal.for_ T.at_Alone_goal) (ok_Op_goal T) (hr.mono (by decide))) (pe_alt (pmt0 (pv 5) T.oc_Small (T.d_Op_goal.for_ T.at_Small_goal) (ok_Op_goal T) (hr.mono (by decide))) (pmt0 (pv 5) T.oc_Push (T.d_Op_goal.for_ T.at_Push_goal) (ok_Op_goal T) (hr.mono (by decide))))) pe_str (nomark _)) (pe_and (pe_cmpR (o_eq (K := K) hu) (pe_alt (pmt0 (pv 5) T.oc_Alone T.d_Alone_word (ok_Alone_word T) (hr.mono (by decide))) (pe_alt (pmt0 (pv 5) T.oc_Small T.d_Small_word (ok_Small_word T) (hr.mono (by decide))) (pmt0 (pv 5) T.oc_Push T.d_Push_word (ok_Push_word T) (hr.mono (by decide))))) (pv 6) (nomark _)) (pe_one (pe_cmpR (o_eq (K := K) hu) (pe_alt (pmt0 (pv 5) T.oc_Alone (T.d_Op_row.for_ T.at_Alone_row) (ok_Op_row T) (hr.mono (by decide))) (pe_alt (pmt0 (pv 5) T.oc_Small T.d_Small_row (ok_Small_row T) (hr.mono (by decide))) (pmt0 (pv 5) T.oc_Push T.d_Push_row (ok_Push_row T) (hr.mono (by decide))))) (pv 7) (nomark _))))))))))))))), ?_⟩
    rw [show start ["_law_handed", "_law_row", "_law_place", "_law_found", "_law_due", "_law_one", "_law_word", "_law_text", "_law_number_here"] [V.ref h, V.ref r, V.int p] = [some (V.ref h), some (V.ref r), some (V.int p), none, none, none, none, none, none] from rfl]
    refine tSeq_gen fun B hB => ?_
    simp only [tSeq, tIfS, tRet, tRetN, tC, tVar, tOp, tUn, tTest, tB, tAnd, tOr, tNot, tAndV, tOrV, tNotV, tIf, tChain, tCons, tNil, tCall, tCB, tLst, tTup, tSl, tNoPart, tPart, gName, tNext, tDrop, tAsg, tAsgC, tBM, tYes, tDNewK, rI, rI0, rU, rEq, rNe, rAbs, rIntT, CDiv, add_ii, add_ss, mul_ii, mul_si, ix_si, eq_ii, eq_ss, eq_bb, ne_ii, ne_ss, ne_ni, ne_in, in_s1, notin_s1, is_xn, is_bb, isnot_xn, isnot_bb, sl_s, len_s, find_ss, index_ss, List.append_nil, List.cons_append, List.nil_append, List.getElem?_cons_succ, List.getElem?_cons_zero, List.set_cons_succ, List.set_cons_zero, Option.some.injEq, V.int.injEq, V.bl.injEq, V.str.injEq, V.ref.injEq, V.ty.injEq, List.cons.injEq, and_true, true_and, exists_eq_left, exists_eq_left', exists_and_left, exists_eq', exists_const, exists_and_right, exists_eq_right, exists_eq_right', reduceCtorEq, false_and, and_false, exists_false, or_false, false_or, decide_eq_true_eq, Bool.not_eq_true', decide_eq_false_iff_not, Bool.false_eq_true, if_false, if_true, mk_app, mk_len, sg_mk, mk_one, decide_true, decide_false, Bool.not_true, Bool.not_false, ite_true, ite_false, not_true_eq_false, not_false_eq_true, cxK, cutTo1, cutFrom1, mk_iff, tyV_str, stComp, List.map_cons, List.map_nil, Option.join_some, Option.join_none, gt_iff_lt, ge_iff_le, tRaise, tTryR, tCallH, tDisp, tPairs, tFld, sFld, tMake, tMeth, tBM0, tOrE, tRev, tLRng, l_e, l_b]
    refine ⟨h, ns, p, rfl, eh, p0, ?_⟩
    subst hB
    refine tSeq_gen fun B hB => ?_
    simp only [tSeq, tIfS, tRet, tRetN, tC, tVar, tOp, tUn, tTest, tB, tAnd, tOr, tNot, tAndV, tOrV, tNotV, tIf, tChain, tCons, tNil, tCall, tCB, tLst, tTup, tSl, tNoPart, tPart, gName, tNext, tDrop, tAsg, tAsgC, tBM, tYes, tDNewK, rI, rI0, rU, rEq, rNe, rAbs, rIntT, CDiv, add_ii, add_ss, mul_ii, mul_si, ix_si, eq_ii, eq_ss, eq_bb, ne_ii, ne_ss, ne_ni, ne_in, in_s1, notin_s1, is_xn, is_bb, isnot_xn, isnot_bb, sl_s, len_s, find_ss, index_ss, List.append_nil, List.cons_append, List.nil_append, List.getElem?_cons_succ, List.getElem?_cons_zero, List.set_cons_succ, List.set_cons_zero, Option.some.injEq, V.int.injEq, V.bl.injEq, V.str.injEq, V.ref.injEq, V.ty.injEq, List.cons.injEq, and_true, true_and, exists_eq_left, exists_eq_left', exists_and_left, exists_eq', exists_const, exists_and_right, exists_eq_right, exists_eq_right', reduceCtorEq, false_and, and_false, exists_false, or_false, false_or, decide_eq_true_eq, Bool.not_eq_true', decide_eq_false_iff_not, Bool.false_eq_true, if_false, if_true, mk_app, mk_len, sg_mk, mk_one, decide_true, decide_false, Bool.not_true, Bool.not_false, ite_true, ite_false, not_true_eq_false, not_false_eq_true, cxK, cutTo1, cutFrom1, mk_iff, tyV_str, stComp, List.map_cons, List.map_nil, Option.join_some, Option.join_none, gt_iff_lt, ge_iff_le, tRaise, tTryR, tCallH, tDisp, tPairs, tFld, sFld, tMake, tMeth, tBM0, tOrE, tRev, tLRng, l_e, l_b]
    refine ⟨r, ns, p, rfl, er, hby, p0, fun H1 S1 => ?_⟩
    have eh := S1 _ _ eh
    have er := S1 _ _ er
    have q : ∀ H', Same H1 H' → Q (.bl true) H' := fun H' S => q H' (S1.trans S)
    clear S1
    subst hB
    cases hz : szF ns p with
    | none =>
      refine tSeq_gen fun B hB => ?_
      simp only [tSeq, tIfS, tRet, tRetN, tC, tVar, tOp, tUn, tTest, tB, tAnd, tOr, tNot, tAndV, tOrV, tNotV, tIf, tChain, tCons, tNil, tCall, tCB, tLst, tTup, tSl, tNoPart, tPart, gName, tNext, tDrop, tAsg, tAsgC, tBM, tYes, tDNewK, rI, rI0, rU, rEq, rNe, rAbs, rIntT, CDiv, add_ii, add_ss, mul_ii, mul_si, ix_si, eq_ii, eq_ss, eq_bb, ne_ii, ne_ss, ne_ni, ne_in, in_s1, notin_s1, is_xn, is_bb, isnot_xn, isnot_bb, sl_s, len_s, find_ss, index_ss, List.append_nil, List.cons_append, List.nil_append, List.getElem?_cons_succ, List.getElem?_cons_zero, List.set_cons_succ, List.set_cons_zero, Option.some.injEq, V.int.injEq, V.bl.injEq, V.str.injEq, V.ref.injEq, V.ty.injEq, List.cons.injEq, and_true, true_and, exists_eq_left, exists_eq_left', exists_and_left, exists_eq', exists_const, exists_and_right, exists_eq_right, exists_eq_right', reduceCtorEq, false_and, and_false, exists_false, or_false, false_or, decide_eq_true_eq, Bool.not_eq_true', decide_eq_false_iff_not, Bool.false_eq_true, if_false, if_true, mk_app, mk_len, sg_mk, mk_one, decide_true, decide_false, Bool.not_true, Bool.not_false, ite_true, ite_false, not_true_eq_false, not_false_eq_true, cxK, cutTo1, cutFrom1, mk_iff, tyV_str, stComp, List.map_cons, List.map_nil, Option.join_some, Option.join_none, gt_iff_lt, ge_iff_le, tRaise, tTryR, tCallH, tDisp, tPairs, tFld, sFld, tMake, tMeth, tBM0, tOrE, tRev, tLRng, l_e, l_b]
      refine ne_nn.mpr ⟨_, rfl, iteF' (by simp) (iteF' (by simp [szV]) ?_)⟩
      subst hB
      refine tSeq_gen fun B hB => ?_
      simp only [tSeq, tIfS, tRet, tRetN, tC, tVar, tOp, tUn, tTest, tB, tAnd, tOr, tNot, tAndV, tOrV, tNotV, tIf, tChain, tCons, tNil, tCall, tCB, tLst, tTup, tSl, tNoPart, tPart, gName, tNext, tDrop, tAsg, tAsgC, tBM, tYes, tDNewK, rI, rI0, rU, rEq, rNe, rAbs, rIntT, CDiv, add_ii, add_ss, mul_ii, mul_si, ix_si, eq_ii, eq_ss, eq_bb, ne_ii, ne_ss, ne_ni, ne_in, in_s1, notin_s1, is_xn, is_bb, isnot_xn, isnot_bb, sl_s, len_s, find_ss, index_ss, List.append_nil, List.cons_append, List.nil_append, List.getElem?_cons_succ, List.getElem?_cons_zero, List.set_cons_succ, List.set_cons_zero, Option.some.injEq, V.int.injEq, V.bl.injEq, V.str.injEq, V.ref.injEq, V.ty.injEq, List.cons.injEq, and_true, true_and, exists_eq_left, exists_eq_left', exists_and_left, exists_eq', exists_const, exists_and_right, exists_eq_right, exists_eq_right', reduceCtorEq, false_and, and_false, exists_false, or_false, false_or, decide_eq_true_eq, Bool.not_eq_true', decide_eq_false_iff_not, Bool.false_eq_true, if_false, if_true, mk_app, mk_len, sg_mk, mk_one, decide_true, decide_false, Bool.not_true, Bool.not_false, ite_true, ite_false, not_true_eq_false, not_false_eq_true, cxK, cutTo1, cutFrom1, mk_iff, tyV_str, stComp, List.map_cons, List.map_nil, Option.join_some, Option.join_none, gt_iff_lt, ge_iff_le, tRaise, tTryR, tCallH, tDisp, tPairs, tFld, sFld, tMake, tMeth, tBM0, tOrE, tRev, tLRng, l_e, l_b]
      refine ⟨h, ns, p, rfl, eh, p0, fun hd => ?_, fun o hd => ?_⟩
      · subst hB
        refine tSeq_gen fun B hB => ?_
        simp only [tSeq, tIfS, tRet, tRetN, tC, tVar, tOp, tUn, tTest, tB, tAnd, tOr, tNot, tAndV, tOrV, tNotV, tIf, tChain, tCons, tNil, tCall, tCB, tLst, tTup, tSl, tNoPart, tPart, gName, tNext, tDrop, tAsg, tAsgC, tBM, tYes, tDNewK, rI, rI0, rU, rEq, rNe, rAbs, rIntT, CDiv, add_ii, add_ss, mul_ii, mul_si, ix_si, eq_ii, eq_ss, eq_bb, ne_ii, ne_ss, ne_ni, ne_in, in_s1, notin_s1, is_xn, is_bb, isnot_xn, isnot_bb, sl_s, len_s, find_ss, index_ss, List.append_nil, List.cons_append, List.nil_append, List.getElem?_cons_succ, List.getElem?_cons_zero, List.set_cons_succ, List.set_cons_zero, Option.some.injEq, V.int.injEq, V.bl.injEq, V.str.injEq, V.ref.injEq, V.ty.injEq, List.cons.injEq, and_true, true_and, exists_eq_left, exists_eq_left', exists_and_left, exists_eq', exists_const, exists_and_right, exists_eq_right, exists_eq_right', reduceCtorEq, false_and, and_false, exists_false, or_false, false_or, decide_eq_true_eq, Bool.not_eq_true', decide_eq_false_iff_not, Bool.false_eq_true, if_false, if_true, mk_app, mk_len, sg_mk, mk_one, decide_true, decide_false, Bool.not_true, Bool.not_false, ite_true, ite_false, not_true_eq_false, not_false_eq_true, cxK, cutTo1, cutFrom1, mk_iff, tyV_str, stComp, List.map_cons, List.map_nil, Option.join_some, Option.join_none, gt_iff_lt, ge_iff_le, tRaise, tTryR, tCallH, tDisp, tPairs, tFld, sFld, tMake, tMeth, tBM0, tOrE, tRev, tLRng, l_e, l_b]
        exact iteT' (by rfl) (q _ (Same.refl _))
      · rw [decF, hz] at hd
        cases hd
    | some z =>
      obtain ⟨p1, eb, hs, pz⟩ := szF_some p0 hz
      have hb := hby _ (List.mem_of_getElem? eb)
      rw [sz_is hb.1 hb.2] at hs
      dsimp only [szV]
      refine tSeq_gen fun B hB => ?_
      simp only [tSeq, tIfS, tRet, tRetN, tC, tVar, tOp, tUn, tTest, tB, tAnd, tOr, tNot, tAndV, tOrV, tNotV, tIf, tChain, tCons, tNil, tCall, tCB, tLst, tTup, tSl, tNoPart, tPart, gName, tNext, tDrop, tAsg, tAsgC, tBM, tYes, tDNewK, rI, rI0, rU, rEq, rNe, rAbs, rIntT, CDiv, add_ii, add_ss, mul_ii, mul_si, ix_si, eq_ii, eq_ss, eq_bb, ne_ii, ne_ss, ne_ni, ne_in, in_s1, notin_s1, is_xn, is_bb, isnot_xn, isnot_bb, sl_s, len_s, find_ss, index_ss, List.append_nil, List.cons_append, List.nil_append, List.getElem?_cons_succ, List.getElem?_cons_zero, List.set_cons_succ, List.set_cons_zero, Option.some.injEq, V.int.injEq, V.bl.injEq, V.str.injEq, V.ref.injEq, V.ty.injEq, List.cons.injEq, and_true, true_and, exists_eq_left, exists_eq_left', exists_and_left, exists_eq', exists_const, exists_and_right, exists_eq_right, exists_eq_right', reduceCtorEq, false_and, and_false, exists_false, or_false, false_or, decide_eq_true_eq, Bool.not_eq_true', decide_eq_false_iff_not, Bool.false_eq_true, if_false, if_true, mk_app, mk_len, sg_mk, mk_one, decide_true, decide_false, Bool.not_true, Bool.not_false, ite_true, ite_false, not_true_eq_false, not_false_eq_true, cxK, cutTo1, cutFrom1, mk_iff, tyV_str, stComp, List.map_cons, List.map_nil, Option.join_some, Option.join_none, gt_iff_lt, ge_iff_le, tRaise, tTryR, tCallH, tDisp, tPairs, tFld, sFld, tMake, tMeth, tBM0, tOrE, tRev, tLRng, l_e, l_b]
      refine ⟨_, rfl, ⟨_, .int _⟩, _, rfl, iteF' (by simp [isInt]) ?_⟩
      subst hB
      refine tSeq_gen fun B hB => ?_
      simp only [tSeq, tIfS, tRet, tRetN, tC, tVar, tOp, tUn, tTest, tB, tAnd, tOr, tNot, tAndV, tOrV, tNotV, tIf, tChain, tCons, tNil, tCall, tCB, tLst, tTup, tSl, tNoPart, tPart, gName, tNext, tDrop, tAsg, tAsgC, tBM, tYes, tDNewK, rI, rI0, rU, rEq, rNe, rAbs, rIntT, CDiv, add_ii, add_ss, mul_ii, mul_si, ix_si, eq_ii, eq_ss, eq_bb, ne_ii, ne_ss, ne_ni, ne_in, in_s1, notin_s1, is_xn, is_bb, isnot_xn, isnot_bb, sl_s, len_s, find_ss, index_ss, List.append_nil, List.cons_append, List.nil_append, List.getElem?_cons_succ, List.getElem?_cons_zero, List.set_cons_succ, List.set_cons_zero, Option.some.injEq, V.int.injEq, V.bl.injEq, V.str.injEq, V.ref.injEq, V.ty.injEq, List.cons.injEq, and_true, true_and, exists_eq_left, exists_eq_left', exists_and_left, exists_eq', exists_const, exists_and_right, exists_eq_right, exists_eq_right', reduceCtorEq, false_and, and_false, exists_false, or_false, false_or, decide_eq_true_eq, Bool.not_eq_true', decide_eq_false_iff_not, Bool.false_eq_true, if_false, if_true, mk_app, mk_len, sg_mk, mk_one, decide_true, decide_false, Bool.not_true, Bool.not_false, ite_true, ite_false, not_true_eq_false, not_false_eq_true, cxK, cutTo1, cutFrom1, mk_iff, tyV_str, stComp, List.map_cons, List.map_nil, Option.join_some, Option.join_none, gt_iff_lt, ge_iff_le, tRaise, tTryR, tCallH, tDisp, tPairs, tFld, sFld, tMake, tMeth, tBM0, tOrE, tRev, tLRng, l_e, l_b]
      refine ⟨h, ns, p, rfl, eh, p0, fun hd => ?_, fun o hd x H2 nx S2 ho => ?_⟩
      · subst hB
        refine tSeq_gen fun B hB => ?_
        simp only [tSeq, tIfS, tRet, tRetN, tC, tVar, tOp, tUn, tTest, tB, tAnd, tOr, tNot, tAndV, tOrV, tNotV, tIf, tChain, tCons, tNil, tCall, tCB, tLst, tTup, tSl, tNoPart, tPart, gName, tNext, tDrop, tAsg, tAsgC, tBM, tYes, tDNewK, rI, rI0, rU, rEq, rNe, rAbs, rIntT, CDiv, add_ii, add_ss, mul_ii, mul_si, ix_si, eq_ii, eq_ss, eq_bb, ne_ii, ne_ss, ne_ni, ne_in, in_s1, notin_s1, is_xn, is_bb, isnot_xn, isnot_bb, sl_s, len_s, find_ss, index_ss, List.append_nil, List.cons_append, List.nil_append, List.getElem?_cons_succ, List.getElem?_cons_zero, List.set_cons_succ, List.set_cons_zero, Option.some.injEq, V.int.injEq, V.bl.injEq, V.str.injEq, V.ref.injEq, V.ty.injEq, List.cons.injEq, and_true, true_and, exists_eq_left, exists_eq_left', exists_and_left, exists_eq', exists_const, exists_and_right, exists_eq_right, exists_eq_right', reduceCtorEq, false_and, and_false, exists_false, or_false, false_or, decide_eq_true_eq, Bool.not_eq_true', decide_eq_false_iff_not, Bool.false_eq_true, if_false, if_true, mk_app, mk_len, sg_mk, mk_one, decide_true, decide_false, Bool.not_true, Bool.not_false, ite_true, ite_false, not_true_eq_false, not_false_eq_true, cxK, cutTo1, cutFrom1, mk_iff, tyV_str, stComp, List.map_cons, List.map_nil, Option.join_some, Option.join_none, gt_iff_lt, ge_iff_le, tRaise, tTryR, tCallH, tDisp, tPairs, tFld, sFld, tMake, tMeth, tBM0, tOrE, tRev, tLRng, l_e, l_b]
        refine ixL (SqL.of er) (getI p0 p1) ⟨_, rfl, iteT' ?_ (q _ (Same.refl _))⟩
        rw [decF, hz] at hd
        unfold lawSz at hs
        dsimp only at hd
        revert hs hd
        repeat' split
        all_goals intro hs hd
        all_goals first | omega | (cases hs; done) | (cases hd; done)
      · have er := S2 _ _ er
        have q : ∀ H', Same H2 H' → Q (.bl true) H' := fun H' S => q H' (S2.trans S)
        clear eh S2
        have b64 : ns.getD p.toNat 0 < 64 := by
          rw [decF, hz] at hd
          dsimp only at hd
          revert hd
          repeat' split
          all_goals intro hd
          all_goals first | omega | cases hd
        subst hB
        refine tSeq_gen fun B hB => ?_
        simp only [tSeq, tIfS, tRet, tRetN, tC, tVar, tOp, tUn, tTest, tB, tAnd, tOr, tNot, tAndV, tOrV, tNotV, tIf, tChain, tCons, tNil, tCall, tCB, tLst, tTup, tSl, tNoPart, tPart, gName, tNext, tDrop, tAsg, tAsgC, tBM, tYes, tDNewK, rI, rI0, rU, rEq, rNe, rAbs, rIntT, CDiv, add_ii, add_ss, mul_ii, mul_si, ix_si, eq_ii, eq_ss, eq_bb, ne_ii, ne_ss, ne_ni, ne_in, in_s1, notin_s1, is_xn, is_bb, isnot_xn, isnot_bb, sl_s, len_s, find_ss, index_ss, List.append_nil, List.cons_append, List.nil_append, List.getElem?_cons_succ, List.getElem?_cons_zero, List.set_cons_succ, List.set_cons_zero, Option.some.injEq, V.int.injEq, V.bl.injEq, V.str.injEq, V.ref.injEq, V.ty.injEq, List.cons.injEq, and_true, true_and, exists_eq_left, exists_eq_left', exists_and_left, exists_eq', exists_const, exists_and_right, exists_eq_right, exists_eq_right', reduceCtorEq, false_and, and_false, exists_false, or_false, false_or, decide_eq_true_eq, Bool.not_eq_true', decide_eq_false_iff_not, Bool.false_eq_true, if_false, if_true, mk_app, mk_len, sg_mk, mk_one, decide_true, decide_false, Bool.not_true, Bool.not_false, ite_true, ite_false, not_true_eq_false, not_false_eq_true, cxK, cutTo1, cutFrom1, mk_iff, tyV_str, stComp, List.map_cons, List.map_nil, Option.join_some, Option.join_none, gt_iff_lt, ge_iff_le, tRaise, tTryR, tCallH, tDisp, tPairs, tFld, sFld, tMake, tMeth, tBM0, tOrE, tRev, tLRng, l_e, l_b]
        refine ixL (SqL.of er) (getI p0 p1) ⟨_, rfl, iteF' (by omega) ?_⟩
        subst hB
        refine tSeq_gen fun B hB => ?_
        simp only [tSeq, tIfS, tRet, tRetN, tC, tVar, tOp, tUn, tTest, tB, tAnd, tOr, tNot, tAndV, tOrV, tNotV, tIf, tChain, tCons, tNil, tCall, tCB, tLst, tTup, tSl, tNoPart, tPart, gName, tNext, tDrop, tAsg, tAsgC, tBM, tYes, tDNewK, rI, rI0, rU, rEq, rNe, rAbs, rIntT, CDiv, add_ii, add_ss, mul_ii, mul_si, ix_si, eq_ii, eq_ss, eq_bb, ne_ii, ne_ss, ne_ni, ne_in, in_s1, notin_s1, is_xn, is_bb, isnot_xn, isnot_bb, sl_s, len_s, find_ss, index_ss, List.append_nil, List.cons_append, List.nil_append, List.getElem?_cons_succ, List.getElem?_cons_zero, List.set_cons_succ, List.set_cons_zero, Option.some.injEq, V.int.injEq, V.bl.injEq, V.str.injEq, V.ref.injEq, V.ty.injEq, List.cons.injEq, and_true, true_and, exists_eq_left, exists_eq_left', exists_and_left, exists_eq', exists_const, exists_and_right, exists_eq_right, exists_eq_right', reduceCtorEq, false_and, and_false, exists_false, or_false, false_or, decide_eq_true_eq, Bool.not_eq_true', decide_eq_false_iff_not, Bool.false_eq_true, if_false, if_true, mk_app, mk_len, sg_mk, mk_one, decide_true, decide_false, Bool.not_true, Bool.not_false, ite_true, ite_false, not_true_eq_false, not_false_eq_true, cxK, cutTo1, cutFrom1, mk_iff, tyV_str, stComp, List.map_cons, List.map_nil, Option.join_some, Option.join_none, gt_iff_lt, ge_iff_le, tRaise, tTryR, tCallH, tDisp, tPairs, tFld, sFld, tMake, tMeth, tBM0, tOrE, tRev, tLRng, l_e, l_b]
        obtain ⟨C, ty, k1⟩ := T.isiO ho
        refine ⟨_, _, _, _, rfl, ty, k1, ?_⟩
        clear ty k1
        simp only [tSeq, tIfS, tRet, tRetN, tC, tVar, tOp, tUn, tTest, tB, tAnd, tOr, tNot, tAndV, tOrV, tNotV, tIf, tChain, tCons, tNil, tCall, tCB, tLst, tTup, tSl, tNoPart, tPart, gName, tNext, tDrop, tAsg, tAsgC, tBM, tYes, tDNewK, rI, rI0, rU, rEq, rNe, rAbs, rIntT, CDiv, add_ii, add_ss, mul_ii, mul_si, ix_si, eq_ii, eq_ss, eq_bb, ne_ii, ne_ss, ne_ni, ne_in, in_s1, notin_s1, is_xn, is_bb, isnot_xn, isnot_bb, sl_s, len_s, find_ss, index_ss, List.append_nil, List.cons_append, List.nil_append, List.getElem?_cons_succ, List.getElem?_cons_zero, List.set_cons_succ, List.set_cons_zero, Option.some.injEq, V.int.injEq, V.bl.injEq, V.str.injEq, V.ref.injEq, V.ty.injEq, List.cons.injEq, and_true, true_and, exists_eq_left, exists_eq_left', exists_and_left, exists_eq', exists_const, exists_and_right, exists_eq_right, exists_eq_right', reduceCtorEq, false_and, and_false, exists_false, or_false, false_or, decide_eq_true_eq, Bool.not_eq_true', decide_eq_false_iff_not, Bool.false_eq_true, if_false, if_true, mk_app, mk_len, sg_mk, mk_one, decide_true, decide_false, Bool.not_true, Bool.not_false, ite_true, ite_false, not_true_eq_false, not_false_eq_true, cxK, cutTo1, cutFrom1, mk_iff, tyV_str, stComp, List.map_cons, List.map_nil, Option.join_some, Option.join_none, gt_iff_lt, ge_iff_le, tRaise, tTryR, tCallH, tDisp, tPairs, tFld, sFld, tMake, tMeth, tBM0, tOrE, tRev, tLRng, l_e, l_b]
        rw [decF, hz] at hd
        dsimp only at hd
        by_cases c1 : 16 ≤ ns.getD p.toNat 0 ∧ ns.getD p.toNat 0 ≤ 33
        · rw [if_pos c1] at hd
          cases hd
          have z1 : z = 1 := by
            rw [lawSz, if_pos c1] at hs
            exact (Option.some.inj hs).symm
          subst z1
          obtain ⟨dx, hp⟩ := ho
          generalize hi : (ns.getD p.toNat 0 - 16).toNat = i at hp
          have hi' : i < 18 := by omega
          have bi : ns.getD p.toNat 0 = 16 + (i : Int) := by omega
          have cb : cutL (ns.map V.int) (some p) (some (p + 1)) = ([16 + (i : Int)]).map V.int := by rw [← bi]; exact cutB 1 p0 (by omega)
          refine .inl ⟨dx, _, hp, f1_no _ (by decide +kernel), x, dx, i, rfl, hi', hp, fun l H3 nl S3 el => slL (SqL.of (S3 _ _ er)) fun l2 n2 => ?_⟩
          rw [cb]
          have S3 := S3.trans (Same.upd (Same.refl H3) n2 (o := .lst ([16 + (i : Int)].map V.int)))
          have el := Same.upd (Same.refl H3) n2 (o := .lst ([16 + (i : Int)].map V.int)) _ _ el
          have el2 : upd H3 l2 (.lst ([16 + (i : Int)].map V.int)) l2 = some (.lst ([16 + (i : Int)].map V.int)) := upd_same
          generalize upd H3 l2 (.lst ([16 + (i : Int)].map V.int)) = H4 at S3 el el2 ⊢
          refine ⟨l, l2, [16 + (i : Int)], rfl, el, el2, by simp, fun H5 S5 => ⟨_, rfl, iteF' (by simp) ?_⟩⟩
          have S := S3.trans S5
          have er := S _ _ er
          have hp := S _ _ hp
          have q : ∀ H', Same H5 H' → Q (.bl true) H' := fun H' S' => q H' (S.trans S')
          clear S S3 S5 el el2 n2 nl cb nx
          subst hB
          refine tSeq_gen fun B hB => ?_
          simp only [tSeq, tIfS, tRet, tRetN, tC, tVar, tOp, tUn, tTest, tB, tAnd, tOr, tNot, tAndV, tOrV, tNotV, tIf, tChain, tCons, tNil, tCall, tCB, tLst, tTup, tSl, tNoPart, tPart, gName, tNext, tDrop, tAsg, tAsgC, tBM, tYes, tDNewK, rI, rI0, rU, rEq, rNe, rAbs, rIntT, CDiv, add_ii, add_ss, mul_ii, mul_si, ix_si, eq_ii, eq_ss, eq_bb, ne_ii, ne_ss, ne_ni, ne_in, in_s1, notin_s1, is_xn, is_bb, isnot_xn, isnot_bb, sl_s, len_s, find_ss, index_ss, List.append_nil, List.cons_append, List.nil_append, List.getElem?_cons_succ, List.getElem?_cons_zero, List.set_cons_succ, List.set_cons_zero, Option.some.injEq, V.int.injEq, V.bl.injEq, V.str.injEq, V.ref.injEq, V.ty.injEq, List.cons.injEq, and_true, true_and, exists_eq_left, exists_eq_left', exists_and_left, exists_eq', exists_const, exists_and_right, exists_eq_right, exists_eq_right', reduceCtorEq, false_and, and_false, exists_false, or_false, false_or, decide_eq_true_eq, Bool.not_eq_true', decide_eq_false_iff_not, Bool.false_eq_true, if_false, if_true, mk_app, mk_len, sg_mk, mk_one, decide_true, decide_false, Bool.not_true, Bool.not_false, ite_true, ite_false, not_true_eq_false, not_false_eq_true, cxK, cutTo1, cutFrom1, mk_iff, tyV_str, stComp, List.map_cons, List.map_nil, Option.join_some, Option.join_none, gt_iff_lt, ge_iff_le, tRaise, tTryR, tCallH, tDisp, tPairs, tFld, sFld, tMake, tMeth, tBM0, tOrE, tRev, tLRng, l_e, l_b]
    
          refine ⟨rfl, fun al H6 na S6 ea => ixL (SqL.of (S6 _ _ er)) (getI p0 p1) ⟨_, rfl, ?_⟩⟩
          rw [bi, show (16 + (i : Int)) - 16 = (i : Int) by omega]
          refine ixL (SqL.of ea) (atIn (by omega) (show _ = some (V.str (alW.getD i (mkS []))) from ?_)) ?_
          · simp [List.getD, show i < alW.length from hi']
          have hp := S6 _ _ hp
          have q : ∀ H', Same H6 H' → Q (.bl true) H' := fun H' S' => q H' (S6.trans S')
          subst hB
          simp only [tSeq, tIfS, tRet, tRetN, tC, tVar, tOp, tUn, tTest, tB, tAnd, tOr, tNot, tAndV, tOrV, tNotV, tIf, tChain, tCons, tNil, tCall, tCB, tLst, tTup, tSl, tNoPart, tPart, gName, tNext, tDrop, tAsg, tAsgC, tBM, tYes, tDNewK, rI, rI0, rU, rEq, rNe, rAbs, rIntT, CDiv, add_ii, add_ss, mul_ii, mul_si, ix_si, eq_ii, eq_ss, eq_bb, ne_ii, ne_ss, ne_ni, ne_in, in_s1, notin_s1, is_xn, is_bb, isnot_xn, isnot_bb, sl_s, len_s, find_ss, index_ss, List.append_nil, List.cons_append, List.nil_append, List.getElem?_cons_succ, List.getElem?_cons_zero, List.set_cons_succ, List.set_cons_zero, Option.some.injEq, V.int.injEq, V.bl.injEq, V.str.injEq, V.ref.injEq, V.ty.injEq, List.cons.injEq, and_true, true_and, exists_eq_left, exists_eq_left', exists_and_left, exists_eq', exists_const, exists_and_right, exists_eq_right, exists_eq_right', reduceCtorEq, false_and, and_false, exists_false, or_false, false_or, decide_eq_true_eq, Bool.not_eq_true', decide_eq_false_iff_not, Bool.false_eq_true, if_false, if_true, mk_app, mk_len, sg_mk, mk_one, decide_true, decide_false, Bool.not_true, Bool.not_false, ite_true, ite_false, not_true_eq_false, not_false_eq_true, cxK, cutTo1, cutFrom1, mk_iff, tyV_str, stComp, List.map_cons, List.map_nil, Option.join_some, Option.join_none, gt_iff_lt, ge_iff_le, tRaise, tTryR, tCallH, tDisp, tPairs, tFld, sFld, tMake, tMeth, tBM0, tOrE, tRev, tLRng, l_e, l_b]
          refine .inl ⟨dx, _, hp, f1_no _ (by decide +kernel), x, OpD.al i, rfl, ⟨dx, hp⟩, hi', fun H7 S7 => eq_ii.mpr ?_⟩
          refine ⟨_, rfl, iteT' (by simp [OpD.bytes]) ?_⟩
          have hp := S7 _ _ hp
          exact .inl ⟨dx, _, hp, f1_no _ (by decide +kernel), _, rfl, eq_ss.mpr ⟨_, rfl, iteT' (decide_eq_true rfl) (.inl ⟨dx, _, hp, f1_no _ (by decide +kernel), x, dx, _, rfl, hp, eq_ss.mpr ⟨_, rfl, iteT' (decide_eq_true rfl) (.inl ⟨dx, _, hp, f1_no _ (by decide +kernel), x, dx, _, rfl, hp, eqS rfl (q _ S7)⟩)⟩⟩)⟩⟩
        rw [if_neg c1] at hd
        by_cases c2 : ns.getD p.toNat 0 = 48
        · rw [if_pos c2] at hd
          cases hd
          have z1 : z = 2 := by
            rw [c2] at hs
            exact (Option.some.inj hs).symm
          subst z1
          obtain ⟨dx, hp⟩ := ho
          have hn := bytD hby (show p.toNat + 1 < ns.length by omega)
          have cb : cutL (ns.map V.int) (some p) (some (p + 2)) = ([48, ns.getD (p.toNat + 1) 0]).map V.int := by rw [← c2]; exact cutB 2 p0 (by omega)
          have gn := getI (r := ns) (p := p + 1) (by omega) (by omega)
          rw [show (p + 1).toNat = p.toNat + 1 by omega] at gn
          generalize ns.getD (p.toNat + 1) 0 = n at hp cb gn hn
          refine .inr (.inl ⟨dx, _, hp, f1_no _ (by decide +kernel), x, dx, n, rfl, hp, fun l H3 nl S3 el => slL (SqL.of (S3 _ _ er)) fun l2 n2 => ?_⟩)
          rw [cb]
          have S3 := S3.trans (Same.upd (Same.refl H3) n2 (o := .lst ([48, n].map V.int)))
          have el := Same.upd (Same.refl H3) n2 (o := .lst ([48, n].map V.int)) _ _ el
          have el2 : upd H3 l2 (.lst ([48, n].map V.int)) l2 = some (.lst ([48, n].map V.int)) := upd_same
          generalize upd H3 l2 (.lst ([48, n].map V.int)) = H4 at S3 el el2 ⊢
          refine ⟨l, l2, [48, n], rfl, el, el2, by simp, fun H5 S5 => ⟨_, rfl, iteF' (by simp) ?_⟩⟩
          have S := S3.trans S5
          have er := S _ _ er
          have hp := S _ _ hp
          have q : ∀ H', Same H5 H' → Q (.bl true) H' := fun H' S' => q H' (S.trans S')
          clear S S3 S5 el el2 n2 nl cb nx
          subst hB
          refine tSeq_gen fun B hB => ?_
          simp only [tSeq, tIfS, tRet, tRetN, tC, tVar, tOp, tUn, tTest, tB, tAnd, tOr, tNot, tAndV, tOrV, tNotV, tIf, tChain, tCons, tNil, tCall, tCB, tLst, tTup, tSl, tNoPart, tPart, gName, tNext, tDrop, tAsg, tAsgC, tBM, tYes, tDNewK, rI, rI0, rU, rEq, rNe, rAbs, rIntT, CDiv, add_ii, add_ss, mul_ii, mul_si, ix_si, eq_ii, eq_ss, eq_bb, ne_ii, ne_ss, ne_ni, ne_in, in_s1, notin_s1, is_xn, is_bb, isnot_xn, isnot_bb, sl_s, len_s, find_ss, index_ss, List.append_nil, List.cons_append, List.nil_append, List.getElem?_cons_succ, List.getElem?_cons_zero, List.set_cons_succ, List.set_cons_zero, Option.some.injEq, V.int.injEq, V.bl.injEq, V.str.injEq, V.ref.injEq, V.ty.injEq, List.cons.injEq, and_true, true_and, exists_eq_left, exists_eq_left', exists_and_left, exists_eq', exists_const, exists_and_right, exists_eq_right, exists_eq_right', reduceCtorEq, false_and, and_false, exists_false, or_false, false_or, decide_eq_true_eq, Bool.not_eq_true', decide_eq_false_iff_not, Bool.false_eq_true, if_false, if_true, mk_app, mk_len, sg_mk, mk_one, decide_true, decide_false, Bool.not_true, Bool.not_false, ite_true, ite_false, not_true_eq_false, not_false_eq_true, cxK, cutTo1, cutFrom1, mk_iff, tyV_str, stComp, List.map_cons, List.map_nil, Option.join_some, Option.join_none, gt_iff_lt, ge_iff_le, tRaise, tTryR, tCallH, tDisp, tPairs, tFld, sFld, tMake, tMeth, tBM0, tOrE, tRev, tLRng, l_e, l_b]
    
          refine iteF' (by decide) ⟨sl1000 (by simp), fun w nw => ?_⟩
          have S6 := Same.upd (Same.refl H5) nw (o := .lst [V.str (Str.ofString "small"), V.str (Str.ofString "push")])
          refine ixL (SqL.of upd_same) (atIn (by decide) rfl) ?_
          generalize upd H5 w _ = H6 at S6 ⊢
          refine ixL (SqL.of (S6 _ _ er)) (show atI _ (p + 2 - 1) = some (V.int n) by rw [show p + 2 - 1 = p + 1 by omega]; exact gn) (ixL (SqL.of (S6 _ _ er)) gn (mul_ii.mpr ⟨.inr ⟨by omega, by omega⟩, mul_ii.mpr ⟨.inr ⟨by omega, by omega⟩, add_ii.mpr ?_⟩⟩))
          rw [show n + 256 * n * (2 - 2) = n by omega]
          have hp := S6 _ _ hp
          have q : ∀ H', Same H6 H' → Q (.bl true) H' := fun H' S' => q H' (S6.trans S')
          have l1 : (Str.ofString "small" ++ mkS [32]).length ≤ 20 := by decide +kernel
          have l2 := num_len hn.1 (by omega)
          refine add_ss.mpr ⟨sl1000 (by decide +kernel), .inl ⟨_, rfl, num_log hn.1 (by omega), add_ss.mpr ⟨sl1000 ?_, ?_⟩⟩⟩
          · show (Str.ofString "small" ++ mkS [32]).length + _ ≤ _
            omega
          subst hB
          simp only [tSeq, tIfS, tRet, tRetN, tC, tVar, tOp, tUn, tTest, tB, tAnd, tOr, tNot, tAndV, tOrV, tNotV, tIf, tChain, tCons, tNil, tCall, tCB, tLst, tTup, tSl, tNoPart, tPart, gName, tNext, tDrop, tAsg, tAsgC, tBM, tYes, tDNewK, rI, rI0, rU, rEq, rNe, rAbs, rIntT, CDiv, add_ii, add_ss, mul_ii, mul_si, ix_si, eq_ii, eq_ss, eq_bb, ne_ii, ne_ss, ne_ni, ne_in, in_s1, notin_s1, is_xn, is_bb, isnot_xn, isnot_bb, sl_s, len_s, find_ss, index_ss, List.append_nil, List.cons_append, List.nil_append, List.getElem?_cons_succ, List.getElem?_cons_zero, List.set_cons_succ, List.set_cons_zero, Option.some.injEq, V.int.injEq, V.bl.injEq, V.str.injEq, V.ref.injEq, V.ty.injEq, List.cons.injEq, and_true, true_and, exists_eq_left, exists_eq_left', exists_and_left, exists_eq', exists_const, exists_and_right, exists_eq_right, exists_eq_right', reduceCtorEq, false_and, and_false, exists_false, or_false, false_or, decide_eq_true_eq, Bool.not_eq_true', decide_eq_false_iff_not, Bool.false_eq_true, if_false, if_true, mk_app, mk_len, sg_mk, mk_one, decide_true, decide_false, Bool.not_true, Bool.not_false, ite_true, ite_false, not_true_eq_false, not_false_eq_true, cxK, cutTo1, cutFrom1, mk_iff, tyV_str, stComp, List.map_cons, List.map_nil, Option.join_some, Option.join_none, gt_iff_lt, ge_iff_le, tRaise, tTryR, tCallH, tDisp, tPairs, tFld, sFld, tMake, tMeth, tBM0, tOrE, tRev, tLRng, l_e, l_b]
          refine .inr (.inl ⟨dx, _, hp, f1_no _ (by decide +kernel), x, OpD.sm n, rfl, ⟨dx, hp⟩, hn, fun H7 S7 => eq_ii.mpr ?_⟩)
          refine ⟨_, rfl, iteT' (by simp [OpD.bytes]) ?_⟩
          have hp := S7 _ _ hp
          exact .inr (.inl ⟨dx, _, hp, f1_no _ (by decide +kernel), _, rfl, eq_ss.mpr ⟨_, rfl, iteT' (decide_eq_true rfl) (.inr (.inl ⟨dx, _, hp, f1_no _ (by decide +kernel), _, rfl, eq_ss.mpr ⟨_, rfl, iteT' (decide_eq_true rfl) (.inr (.inl ⟨dx, _, hp, f1_no _ (by decide +kernel), x, dx, _, rfl, hp, hn.1, by omega, eqS rfl (q _ S7)⟩))⟩⟩))⟩⟩)
        rw [if_neg c2] at hd
        by_cases c3 : ns.getD p.toNat 0 = 49
        · rw [if_pos c3] at hd
          cases hd
          have z1 : z = 3 := by
            rw [c3] at hs
            exact (Option.some.inj hs).symm
          subst z1
          obtain ⟨dx, hp⟩ := ho
          have hn := bytD hby (show p.toNat + 1 < ns.length by omega)
          have hm := bytD hby (show p.toNat + 2 < ns.length by omega)
          have cb : cutL (ns.map V.int) (some p) (some (p + 3)) = ([49, ns.getD (p.toNat + 1) 0, ns.getD (p.toNat + 2) 0]).map V.int := by rw [← c3]; exact cutB 3 p0 (by omega)
          have gn := getI (r := ns) (p := p + 1) (by omega) (by omega)
          rw [show (p + 1).toNat = p.toNat + 1 by omega] at gn
          have gm := getI (r := ns) (p := p + 2) (by omega) (by omega)
          rw [show (p + 2).toNat = p.toNat + 2 by omega] at gm
          generalize ns.getD (p.toNat + 1) 0 = n at hp cb gn hn
          generalize ns.getD (p.toNat + 2) 0 = m at hp cb gm hm
          have e1 : n = (n * 256 + m) / 256 := by omega
          have e2 : m = (n * 256 + m) % 256 := by omega
          have e3 : n * 256 + m = m + 256 * n := by omega
          have n0 : 0 ≤ n * 256 + m := by omega
          have n1 : n * 256 + m < 65536 := by omega
          have cb : cutL (ns.map V.int) (some p) (some (p + 3)) = ([49, (n * 256 + m) / 256, (n * 256 + m) % 256]).map V.int := by rw [← e1, ← e2]; exact cb
          clear e1 e2
          generalize hk : n * 256 + m = k at hp cb e3 n0 n1
          refine .inr (.inr ⟨dx, _, hp, f1_no _ (by decide +kernel), x, dx, k, rfl, hp, fun l H3 nl S3 el => slL (SqL.of (S3 _ _ er)) fun l2 n2 => ?_⟩)
          rw [cb]
          have S3 := S3.trans (Same.upd (Same.refl H3) n2 (o := .lst ([49, k / 256, k % 256].map V.int)))
          have el := Same.upd (Same.refl H3) n2 (o := .lst ([49, k / 256, k % 256].map V.int)) _ _ el
          have el2 : upd H3 l2 (.lst ([49, k / 256, k % 256].map V.int)) l2 = some (.lst ([49, k / 256, k % 256].map V.int)) := upd_same
          generalize upd H3 l2 (.lst ([49, k / 256, k % 256].map V.int)) = H4 at S3 el el2 ⊢
          refine ⟨l, l2, [49, k / 256, k % 256], rfl, el, el2, by simp, fun H5 S5 => ⟨_, rfl, iteF' (by simp) ?_⟩⟩
          have S := S3.trans S5
          have er := S _ _ er
          have hp := S _ _ hp
          have q : ∀ H', Same H5 H' → Q (.bl true) H' := fun H' S' => q H' (S.trans S')
          clear S S3 S5 el el2 n2 nl cb nx
          subst hB
          refine tSeq_gen fun B hB => ?_
          simp only [tSeq, tIfS, tRet, tRetN, tC, tVar, tOp, tUn, tTest, tB, tAnd, tOr, tNot, tAndV, tOrV, tNotV, tIf, tChain, tCons, tNil, tCall, tCB, tLst, tTup, tSl, tNoPart, tPart, gName, tNext, tDrop, tAsg, tAsgC, tBM, tYes, tDNewK, rI, rI0, rU, rEq, rNe, rAbs, rIntT, CDiv, add_ii, add_ss, mul_ii, mul_si, ix_si, eq_ii, eq_ss, eq_bb, ne_ii, ne_ss, ne_ni, ne_in, in_s1, notin_s1, is_xn, is_bb, isnot_xn, isnot_bb, sl_s, len_s, find_ss, index_ss, List.append_nil, List.cons_append, List.nil_append, List.getElem?_cons_succ, List.getElem?_cons_zero, List.set_cons_succ, List.set_cons_zero, Option.some.injEq, V.int.injEq, V.bl.injEq, V.str.injEq, V.ref.injEq, V.ty.injEq, List.cons.injEq, and_true, true_and, exists_eq_left, exists_eq_left', exists_and_left, exists_eq', exists_const, exists_and_right, exists_eq_right, exists_eq_right', reduceCtorEq, false_and, and_false, exists_false, or_false, false_or, decide_eq_true_eq, Bool.not_eq_true', decide_eq_false_iff_not, Bool.false_eq_true, if_false, if_true, mk_app, mk_len, sg_mk, mk_one, decide_true, decide_false, Bool.not_true, Bool.not_false, ite_true, ite_false, not_true_eq_false, not_false_eq_true, cxK, cutTo1, cutFrom1, mk_iff, tyV_str, stComp, List.map_cons, List.map_nil, Option.join_some, Option.join_none, gt_iff_lt, ge_iff_le, tRaise, tTryR, tCallH, tDisp, tPairs, tFld, sFld, tMake, tMeth, tBM0, tOrE, tRev, tLRng, l_e, l_b]
    
          refine iteF' (by decide) ⟨sl1000 (by simp), fun w nw => ?_⟩
          have S6 := Same.upd (Same.refl H5) nw (o := .lst [V.str (Str.ofString "small"), V.str (Str.ofString "push")])
          refine ixL (SqL.of upd_same) (atIn (by decide) rfl) ?_
          generalize upd H5 w _ = H6 at S6 ⊢
          refine ixL (SqL.of (S6 _ _ er)) (show atI _ (p + 3 - 1) = some (V.int m) by rw [show p + 3 - 1 = p + 2 by omega]; exact gm) (ixL (SqL.of (S6 _ _ er)) gn (mul_ii.mpr ⟨.inr ⟨by omega, by omega⟩, mul_ii.mpr ⟨.inr ⟨by omega, by omega⟩, add_ii.mpr ?_⟩⟩))
          rw [show m + 256 * n * (3 - 2) = k by omega]
          have hp := S6 _ _ hp
          have q : ∀ H', Same H6 H' → Q (.bl true) H' := fun H' S' => q H' (S6.trans S')
          have l1 : (Str.ofString "push" ++ mkS [32]).length ≤ 20 := by decide +kernel
          have l2 := num_len n0 n1
          refine add_ss.mpr ⟨sl1000 (by decide +kernel), .inl ⟨_, rfl, num_log n0 n1, add_ss.mpr ⟨sl1000 ?_, ?_⟩⟩⟩
          · show (Str.ofString "push" ++ mkS [32]).length + _ ≤ _
            omega
          subst hB
          simp only [tSeq, tIfS, tRet, tRetN, tC, tVar, tOp, tUn, tTest, tB, tAnd, tOr, tNot, tAndV, tOrV, tNotV, tIf, tChain, tCons, tNil, tCall, tCB, tLst, tTup, tSl, tNoPart, tPart, gName, tNext, tDrop, tAsg, tAsgC, tBM, tYes, tDNewK, rI, rI0, rU, rEq, rNe, rAbs, rIntT, CDiv, add_ii, add_ss, mul_ii, mul_si, ix_si, eq_ii, eq_ss, eq_bb, ne_ii, ne_ss, ne_ni, ne_in, in_s1, notin_s1, is_xn, is_bb, isnot_xn, isnot_bb, sl_s, len_s, find_ss, index_ss, List.append_nil, List.cons_append, List.nil_append, List.getElem?_cons_succ, List.getElem?_cons_zero, List.set_cons_succ, List.set_cons_zero, Option.some.injEq, V.int.injEq, V.bl.injEq, V.str.injEq, V.ref.injEq, V.ty.injEq, List.cons.injEq, and_true, true_and, exists_eq_left, exists_eq_left', exists_and_left, exists_eq', exists_const, exists_and_right, exists_eq_right, exists_eq_right', reduceCtorEq, false_and, and_false, exists_false, or_false, false_or, decide_eq_true_eq, Bool.not_eq_true', decide_eq_false_iff_not, Bool.false_eq_true, if_false, if_true, mk_app, mk_len, sg_mk, mk_one, decide_true, decide_false, Bool.not_true, Bool.not_false, ite_true, ite_false, not_true_eq_false, not_false_eq_true, cxK, cutTo1, cutFrom1, mk_iff, tyV_str, stComp, List.map_cons, List.map_nil, Option.join_some, Option.join_none, gt_iff_lt, ge_iff_le, tRaise, tTryR, tCallH, tDisp, tPairs, tFld, sFld, tMake, tMeth, tBM0, tOrE, tRev, tLRng, l_e, l_b]
          refine .inr (.inr ⟨dx, _, hp, f1_no _ (by decide +kernel), x, OpD.pu k, rfl, ⟨dx, hp⟩, ⟨n0, n1⟩, fun H7 S7 => eq_ii.mpr ?_⟩)
          refine ⟨_, rfl, iteT' (by simp [OpD.bytes]) ?_⟩
          have hp := S7 _ _ hp
          exact .inr (.inr ⟨dx, _, hp, f1_no _ (by decide +kernel), _, rfl, eq_ss.mpr ⟨_, rfl, iteT' (decide_eq_true rfl) (.inr (.inr ⟨dx, _, hp, f1_no _ (by decide +kernel), _, rfl, eq_ss.mpr ⟨_, rfl, iteT' (decide_eq_true rfl) (.inr (.inr ⟨dx, _, hp, f1_no _ (by decide +kernel), x, dx, _, rfl, hp, n0, n1, eqS rfl (q _ S7)⟩))⟩⟩))⟩⟩)
        · rw [if_neg c3] at hd
          cases hd
noncomputable def sp__law_parts (T : Txt K mg) : Sp := fun vs H Q E => ∃ (a : Addr) (pcs : List (List Int)), vs = [.ref a] ∧ H a = some (.lst (pcs.flatten.map V.int)) ∧ pcs.length ≤ 20 ∧ (∀ pc ∈ pcs, Pc pc) ∧ ∀ l (as : List Addr) H', H l = none → Same H H' → H' l = some (.lst (as.map V.ref)) → LsAt H' as pcs → Q (.ref l) H'
theorem sc__law_parts : FnScope ["_law_row", "_law_found", "_law_place"] ["_law_row"] (defScope s__law_parts) := ⟨rfl, rfl, rfl, by decide +kernel, rfl, by decide +kernel, by decide +kernel⟩
theorem ok__law_parts (T : Txt K mg) : FnOk P w K mg base CX0 2 T.d__law_parts.f T.d__law_parts.fd ["_law_row"] (sp__law_parts T) := by
  have nd := sc__law_parts.nd
  refine T.d__law_parts.F.ok sc__law_parts (fun vs H Q E h => ?_) (fun cdv A outer s H vs Q E hr h => ?_)
  · obtain ⟨a, pcs, rfl, ha, h20, hP, q⟩ := h
    rfl
  · obtain ⟨a, pcs, rfl, ha, h20, hP, q⟩ := h
    have hu := hr.units0
    refine ⟨_, (pss_cons (ps_set (i := 1) nd rfl (Or.inl rfl) (pe_lst pa_nil))
      (pss_cons (ps_set (i := 2) nd rfl (Or.inl rfl) pe_int)
      (pss_cons (ps_while PassesOwn.never (pt_cmpR o_isnot (pc1 T.d_size_at (ok_size_at T) (hr.mono (by decide)) (pa1 (pv 0) (pa1 (pv 2) pa_nil))) pe_non (nomark _))
        (pss_cons (ps_expr (pm1 (K := K) PySem.F.plainAttrs_list PySem.F.slot_list_append PySem.F.type_list_append o_append (pv 1) (pa1 (pe_slice (o_sl (K := K)) (pv 0) (po_some (pv 2)) (po_some (pe_op o_add (pv 2) (pc1 T.d_size_at (ok_size_at T) (hr.mono (by decide)) (pa1 (pv 0) (pa1 (pv 2) pa_nil)))))) pa_nil)))
      (pss_one (ps_set (i := 2) nd rfl (Or.inl rfl) (pe_op o_add (pv 2) (pc1 T.d_size_at (ok_size_at T) (hr.mono (by decide)) (pa1 (pv 0) (pa1 (pv 2) pa_nil))))))))
      (pss_one (ps_ret (pv 1)))))), ?_⟩
    rw [show start ["_law_row", "_law_found", "_law_place"] [V.ref a] = [some (V.ref a), none, none] from rfl]
    refine tSeq_gen fun B hB => ?_
    simp only [tSeq, tIfS, tRet, tRetN, tC, tVar, tOp, tUn, tTest, tB, tAnd, tOr, tNot, tAndV, tOrV, tNotV, tIf, tChain, tCons, tNil, tCall, tCB, tLst, tTup, tSl, tNoPart, tPart, gName, tNext, tDrop, tAsg, tAsgC, tBM, tYes, tDNewK, rI, rI0, rU, rEq, rNe, rAbs, rIntT, CDiv, add_ii, add_ss, mul_ii, mul_si, ix_si, eq_ii, eq_ss, eq_bb, ne_ii, ne_ss, ne_ni, ne_in, in_s1, notin_s1, is_xn, is_bb, isnot_xn, isnot_bb, sl_s, len_s, find_ss, index_ss, List.append_nil, List.cons_append, List.nil_append, List.getElem?_cons_succ, List.getElem?_cons_zero, List.set_cons_succ, List.set_cons_zero, Option.some.injEq, V.int.injEq, V.bl.injEq, V.str.injEq, V.ref.injEq, V.ty.injEq, List.cons.injEq, and_true, true_and, exists_eq_left, exists_eq_left', exists_and_left, exists_eq', exists_const, exists_and_right, exists_eq_right, exists_eq_right', reduceCtorEq, false_and, and_false, exists_false, or_false, false_or, decide_eq_true_eq, Bool.not_eq_true', decide_eq_false_iff_not, Bool.false_eq_true, if_false, if_true, mk_app, mk_len, sg_mk, mk_one, decide_true, decide_false, Bool.not_true, Bool.not_false, ite_true, ite_false, not_true_eq_false, not_false_eq_true, cxK, cutTo1, cutFrom1, mk_iff, tyV_str, stComp, List.map_cons, List.map_nil, Option.join_some, Option.join_none, gt_iff_lt, ge_iff_le, tRaise, tTryR, tCallH, tDisp, tPairs, tFld, sFld, tMake, tMeth, tBM0, tOrE, tRev, tLRng, l_e, l_b]
    refine ⟨sl1000 (by simp), fun f nf => ?_⟩
    subst hB
    refine tSeq_gen fun B hB => ?_
    simp only [tSeq, tIfS, tRet, tRetN, tC, tVar, tOp, tUn, tTest, tB, tAnd, tOr, tNot, tAndV, tOrV, tNotV, tIf, tChain, tCons, tNil, tCall, tCB, tLst, tTup, tSl, tNoPart, tPart, gName, tNext, tDrop, tAsg, tAsgC, tBM, tYes, tDNewK, rI, rI0, rU, rEq, rNe, rAbs, rIntT, CDiv, add_ii, add_ss, mul_ii, mul_si, ix_si, eq_ii, eq_ss, eq_bb, ne_ii, ne_ss, ne_ni, ne_in, in_s1, notin_s1, is_xn, is_bb, isnot_xn, isnot_bb, sl_s, len_s, find_ss, index_ss, List.append_nil, List.cons_append, List.nil_append, List.getElem?_cons_succ, List.getElem?_cons_zero, List.set_cons_succ, List.set_cons_zero, Option.some.injEq, V.int.injEq, V.bl.injEq, V.str.injEq, V.ref.injEq, V.ty.injEq, List.cons.injEq, and_true, true_and, exists_eq_left, exists_eq_left', exists_and_left, exists_eq', exists_const, exists_and_right, exists_eq_right, exists_eq_right', reduceCtorEq, false_and, and_false, exists_false, or_false, false_or, decide_eq_true_eq, Bool.not_eq_true', decide_eq_false_iff_not, Bool.false_eq_true, if_false, if_true, mk_app, mk_len, sg_mk, mk_one, decide_true, decide_false, Bool.not_true, Bool.not_false, ite_true, ite_false, not_true_eq_false, not_false_eq_true, cxK, cutTo1, cutFrom1, mk_iff, tyV_str, stComp, List.map_cons, List.map_nil, Option.join_some, Option.join_none, gt_iff_lt, ge_iff_le, tRaise, tTryR, tCallH, tDisp, tPairs, tFld, sFld, tMake, tMeth, tBM0, tOrE, tRev, tLRng, l_e, l_b]
    subst hB
    refine tSeq_gen fun B hB => ?_
    have naf : a ≠ f := ne_of_none ha nf
    refine while_cps (fun σ H' => ∃ (k : Nat) (as : List Addr), k ≤ pcs.length ∧ Same H H' ∧ H' f = some (.lst (as.map V.ref)) ∧ LsAt H' as (pcs.take k) ∧ (∀ x ∈ as, x ≠ f) ∧ σ = [some (V.ref a), some (V.ref f), some (V.int ((pcs.take k).flatten.length : Int))]) (fun σ _ => match σ with | [_, _, some (V.int p)] => pcs.flatten.length - p.toNat | _ => 0) ⟨0, [], Nat.zero_le _, Same.upd (Same.refl H) nf, upd_same, ⟨by simp, fun i a pc h => by simp at h⟩, fun x hx => by (cases hx), rfl⟩ ?_
    rintro σ H2 C ⟨k, as, hk, S, ef, hl, nff, rfl⟩ ct cf
    simp only [tSeq, tIfS, tRet, tRetN, tC, tVar, tOp, tUn, tTest, tB, tAnd, tOr, tNot, tAndV, tOrV, tNotV, tIf, tChain, tCons, tNil, tCall, tCB, tLst, tTup, tSl, tNoPart, tPart, gName, tNext, tDrop, tAsg, tAsgC, tBM, tYes, tDNewK, rI, rI0, rU, rEq, rNe, rAbs, rIntT, CDiv, add_ii, add_ss, mul_ii, mul_si, ix_si, eq_ii, eq_ss, eq_bb, ne_ii, ne_ss, ne_ni, ne_in, in_s1, notin_s1, is_xn, is_bb, isnot_xn, isnot_bb, sl_s, len_s, find_ss, index_ss, List.append_nil, List.cons_append, List.nil_append, List.getElem?_cons_succ, List.getElem?_cons_zero, List.set_cons_succ, List.set_cons_zero, Option.some.injEq, V.int.injEq, V.bl.injEq, V.str.injEq, V.ref.injEq, V.ty.injEq, List.cons.injEq, and_true, true_and, exists_eq_left, exists_eq_left', exists_and_left, exists_eq', exists_const, exists_and_right, exists_eq_right, exists_eq_right', reduceCtorEq, false_and, and_false, exists_false, or_false, false_or, decide_eq_true_eq, Bool.not_eq_true', decide_eq_false_iff_not, Bool.false_eq_true, if_false, if_true, mk_app, mk_len, sg_mk, mk_one, decide_true, decide_false, Bool.not_true, Bool.not_false, ite_true, ite_false, not_true_eq_false, not_false_eq_true, cxK, cutTo1, cutFrom1, mk_iff, tyV_str, stComp, List.map_cons, List.map_nil, Option.join_some, Option.join_none, gt_iff_lt, ge_iff_le, tRaise, tTryR, tCallH, tDisp, tPairs, tFld, sFld, tMake, tMeth, tBM0, tOrE, tRev, tLRng, l_e, l_b]
    refine ⟨a, _, _, rfl, S _ _ ha, by omega, ?_⟩
    by_cases hk' : k < pcs.length
    · obtain ⟨pc, hpc⟩ : ∃ pc, pcs[k]? = some pc := ⟨pcs[k], by simp [hk']⟩
      have dec := flat_at hpc
      have hp := hP pc (List.mem_of_getElem? hpc)
      have e : szF pcs.flatten ((pcs.take k).flatten.length : Int) = some (pc.length : Int) := by rw [dec]; exact szF_at _ _ _ hp
      rw [e]
      refine ct H2 ?_
      clear hB ct cf
      have ha2 := S _ _ ha
      have cm : cutL (pcs.flatten.map V.int) (some ((pcs.take k).flatten.length : Int)) (some (((pcs.take k).flatten.length : Int) + (pc.length : Int))) = pc.map V.int := by rw [dec]; exact cut_midM _ _ _
      refine tSeq_gen fun B hB => ?_
      simp only [tSeq, tIfS, tRet, tRetN, tC, tVar, tOp, tUn, tTest, tB, tAnd, tOr, tNot, tAndV, tOrV, tNotV, tIf, tChain, tCons, tNil, tCall, tCB, tLst, tTup, tSl, tNoPart, tPart, gName, tNext, tDrop, tAsg, tAsgC, tBM, tYes, tDNewK, rI, rI0, rU, rEq, rNe, rAbs, rIntT, CDiv, add_ii, add_ss, mul_ii, mul_si, ix_si, eq_ii, eq_ss, eq_bb, ne_ii, ne_ss, ne_ni, ne_in, in_s1, notin_s1, is_xn, is_bb, isnot_xn, isnot_bb, sl_s, len_s, find_ss, index_ss, List.append_nil, List.cons_append, List.nil_append, List.getElem?_cons_succ, List.getElem?_cons_zero, List.set_cons_succ, List.set_cons_zero, Option.some.injEq, V.int.injEq, V.bl.injEq, V.str.injEq, V.ref.injEq, V.ty.injEq, List.cons.injEq, and_true, true_and, exists_eq_left, exists_eq_left', exists_and_left, exists_eq', exists_const, exists_and_right, exists_eq_right, exists_eq_right', reduceCtorEq, false_and, and_false, exists_false, or_false, false_or, decide_eq_true_eq, Bool.not_eq_true', decide_eq_false_iff_not, Bool.false_eq_true, if_false, if_true, mk_app, mk_len, sg_mk, mk_one, decide_true, decide_false, Bool.not_true, Bool.not_false, ite_true, ite_false, not_true_eq_false, not_false_eq_true, cxK, cutTo1, cutFrom1, mk_iff, tyV_str, stComp, List.map_cons, List.map_nil, Option.join_some, Option.join_none, gt_iff_lt, ge_iff_le, tRaise, tTryR, tCallH, tDisp, tPairs, tFld, sFld, tMake, tMeth, tBM0, tOrE, tRev, tLRng, l_e, l_b]
      refine ⟨tyV_lst (SqL.of ef), a, _, _, rfl, ha2, by omega, ?_⟩
      rw [e]
      refine add_ii.mpr ⟨_, rfl, slL (SqL.of ha2) fun s n3 => ?_⟩
      rw [cm]
      have sf : s ≠ f := (ne_of_none ef n3).symm
      have S23 := Same.upd (Same.refl H2) n3 (o := .lst (pc.map V.int))
      have es : upd H2 s (.lst (pc.map V.int)) s = some (.lst (pc.map V.int)) := upd_same
      generalize upd H2 s (.lst (pc.map V.int)) = H3 at S23 es ⊢
      have S := S.trans S23
      have l1 := hl.1
      rw [List.length_take] at l1
      refine appL (S23 _ _ ef) (Nat.lt_of_lt_of_le (show _ < 100000 by rw [List.length_map]; omega) (sl1000 (Nat.le_refl _))) ?_
      rw [show as.map V.ref ++ [V.ref s] = (as ++ [s]).map V.ref by simp]
      subst hB
      simp only [tSeq, tIfS, tRet, tRetN, tC, tVar, tOp, tUn, tTest, tB, tAnd, tOr, tNot, tAndV, tOrV, tNotV, tIf, tChain, tCons, tNil, tCall, tCB, tLst, tTup, tSl, tNoPart, tPart, gName, tNext, tDrop, tAsg, tAsgC, tBM, tYes, tDNewK, rI, rI0, rU, rEq, rNe, rAbs, rIntT, CDiv, add_ii, add_ss, mul_ii, mul_si, ix_si, eq_ii, eq_ss, eq_bb, ne_ii, ne_ss, ne_ni, ne_in, in_s1, notin_s1, is_xn, is_bb, isnot_xn, isnot_bb, sl_s, len_s, find_ss, index_ss, List.append_nil, List.cons_append, List.nil_append, List.getElem?_cons_succ, List.getElem?_cons_zero, List.set_cons_succ, List.set_cons_zero, Option.some.injEq, V.int.injEq, V.bl.injEq, V.str.injEq, V.ref.injEq, V.ty.injEq, List.cons.injEq, and_true, true_and, exists_eq_left, exists_eq_left', exists_and_left, exists_eq', exists_const, exists_and_right, exists_eq_right, exists_eq_right', reduceCtorEq, false_and, and_false, exists_false, or_false, false_or, decide_eq_true_eq, Bool.not_eq_true', decide_eq_false_iff_not, Bool.false_eq_true, if_false, if_true, mk_app, mk_len, sg_mk, mk_one, decide_true, decide_false, Bool.not_true, Bool.not_false, ite_true, ite_false, not_true_eq_false, not_false_eq_true, cxK, cutTo1, cutFrom1, mk_iff, tyV_str, stComp, List.map_cons, List.map_nil, Option.join_some, Option.join_none, gt_iff_lt, ge_iff_le, tRaise, tTryR, tCallH, tDisp, tPairs, tFld, sFld, tMake, tMeth, tBM0, tOrE, tRev, tLRng, l_e, l_b]
      have tot := congrArg List.length dec
      simp only [List.length_append] at tot
      have hp0 := hp.2.1
      refine ⟨a, _, _, rfl, by rw [upd_ne naf]; exact S _ _ ha, by omega, ?_⟩
      rw [e]
      refine add_ii.mpr ⟨⟨k + 1, hk', Same.set S nf, as ++ [s], upd_same, hl.snoc hpc (fun x hx o eo => by rw [upd_ne (nff x hx)]; exact S23 _ _ eo) (by rw [upd_ne sf]; exact es), fun x hx => ?_, by rw [flat_len hpc]; rfl⟩, ?_⟩
      · rcases List.mem_append.mp hx with z | z
        · exact nff x z
        · rw [List.mem_singleton.mp z]; exact sf
      · show pcs.flatten.length - (((pcs.take k).flatten.length : Int) + (pc.length : Int)).toNat < _
        omega
    · have ek : k = pcs.length := by omega
      subst ek
      rw [List.take_length] at hl ⊢
      rw [szF_end]
      refine cf H2 ?_
      subst hB
      simp only [tSeq, tIfS, tRet, tRetN, tC, tVar, tOp, tUn, tTest, tB, tAnd, tOr, tNot, tAndV, tOrV, tNotV, tIf, tChain, tCons, tNil, tCall, tCB, tLst, tTup, tSl, tNoPart, tPart, gName, tNext, tDrop, tAsg, tAsgC, tBM, tYes, tDNewK, rI, rI0, rU, rEq, rNe, rAbs, rIntT, CDiv, add_ii, add_ss, mul_ii, mul_si, ix_si, eq_ii, eq_ss, eq_bb, ne_ii, ne_ss, ne_ni, ne_in, in_s1, notin_s1, is_xn, is_bb, isnot_xn, isnot_bb, sl_s, len_s, find_ss, index_ss, List.append_nil, List.cons_append, List.nil_append, List.getElem?_cons_succ, List.getElem?_cons_zero, List.set_cons_succ, List.set_cons_zero, Option.some.injEq, V.int.injEq, V.bl.injEq, V.str.injEq, V.ref.injEq, V.ty.injEq, List.cons.injEq, and_true, true_and, exists_eq_left, exists_eq_left', exists_and_left, exists_eq', exists_const, exists_and_right, exists_eq_right, exists_eq_right', reduceCtorEq, false_and, and_false, exists_false, or_false, false_or, decide_eq_true_eq, Bool.not_eq_true', decide_eq_false_iff_not, Bool.false_eq_true, if_false, if_true, mk_app, mk_len, sg_mk, mk_one, decide_true, decide_false, Bool.not_true, Bool.not_false, ite_true, ite_false, not_true_eq_false, not_false_eq_true, cxK, cutTo1, cutFrom1, mk_iff, tyV_str, stComp, List.map_cons, List.map_nil, Option.join_some, Option.join_none, gt_iff_lt, ge_iff_le, tRaise, tTryR, tCallH, tDisp, tPairs, tFld, sFld, tMake, tMeth, tBM0, tOrE, tRev, tLRng, l_e, l_b]
      exact q f as H2 nf S ef hl
noncomputable def sp_law (K : PySem.W.Frag) : Sp := fun vs H Q E => ∃ (a : Addr) (ns : List Int), vs = [.ref a] ∧ SqL K H a (ns.map V.int) ∧ ns.length ≤ 63 ∧ ∀ H', Q (.bl true) H'
theorem sc_law : FnScope ["_law_script", "_law_pieces", "_law_k", "_law_cell", "_law_one", "_law_row", "_law_number_here", "_law_at", "_law_odd", "_law_handed", "_law_places", "_law_place"] ["_law_script"] (defScope s_law) := ⟨rfl, rfl, rfl, by decide +kernel, rfl, by decide +kernel, by decide +kernel⟩
theorem ok_law (T : Txt K mg) : FnOk P w K mg base CX0 5 T.d_law.f T.d_law.fd ["_law_script"] (sp_law K) := by
  have nd := sc_law.nd
  refine T.d_law.F.ok sc_law (fun vs H Q E h => ?_) (fun cdv A outer s H vs Q E hr h => ?_)
  · obtain ⟨a, ns, rfl, hq, hl, q⟩ := h
    rfl
  · obtain ⟨a, ns, rfl, hq, hl, q⟩ := h
    have hu := hr.units0
    refine ⟨_, (pss_cons (ps_set (i := 1) nd rfl (Or.inl rfl) (pe_lst pa_nil))
      (pss_cons (ps_for PassesOwn.never rfl (pi_range1 rfl T.n_range (pa1 (pe_op op_mod (pc1 T.d__law_cell_at (ok__law_cell_at T) (hr.mono (by decide)) (pa1 (pv 0) (pa1 pe_int pa_nil))) pe_int) pa_nil)) (pg_name (i := 2) nd rfl (Or.inl rfl))
        (pss_cons (ps_set (i := 3) nd rfl (Or.inr rfl) (pe_op o_add (pc1 T.d__law_cell_at (ok__law_cell_at T) (hr.mono (by decide)) (pa1 (pv 0) (pa1 (pe_op o_add pe_int (pe_op op_mod (pv 2) pe_int)) pa_nil))) (pe_op op_fdiv (pv 2) pe_int)))
      (pss_cons (ps_set (i := 4) nd rfl (Or.inl rfl) (pc1 T.d__law_bytes (ok__law_bytes T) (hr.mono (by decide)) (pa1 (pc1 T.d__law_op (ok__law_op T) (hr.mono (by decide)) (pa1 (pe_op o_add (pv 3) (pv 2)) (pa1 (pe_lst (pa1 pe_str pa_nil)) pa_nil))) pa_nil)))
      (pss_cons (ps_if (pt_cmpR op_ge (pe_ix (o_ix (K := K)) (pv 4) pe_int (fun _ _ => rfl)) pe_int (nomark _)) (pss_one (ps_set (i := 4) nd rfl (Or.inl rfl) (pe_op o_add (pe_slice (o_sl (K := K)) (pv 4) po_none (po_some pe_int)) (pe_lcomp (N' := ["_law_j", "_law_cell"]) (src := [none, some 3]) rfl (CompScope.of (by kernel_rfl)) (pi_range1 rfl T.n_range (pa1 (pe_op op_sub (pcB (o_len (K := K)) rfl T.n_len (by kernel_rfl) (pa1 (pv 4) pa_nil)) pe_int) pa_nil)) (fun _ _ _ _ _ _ => (pg_name (i := 0) (show (["_law_j", "_law_cell"] : List Str).Nodup by decide +kernel) rfl (Or.inl rfl))) (fun _ _ _ _ _ _ => pif_nil) (fun _ _ _ _ _ _ => (pe_op op_mod (pc1 T.d__law_mixed (ok__law_mixed T) (hr.mono (by decide)) (pa1 (pv 1) (pa1 (pe_op o_add pe_int (pv 0)) pa_nil))) pe_int)))))) pss_nil)
      (pss_one (ps_expr (pm1 (K := K) PySem.F.plainAttrs_list PySem.F.slot_list_append PySem.F.type_list_append o_append (pv 1) (pa1 (pv 4) pa_nil))))))))
      (pss_cons (ps_set (i := 5) nd rfl (Or.inl rfl) (pcB (o_sumLs (K := K)) rfl T.n_sum (by kernel_rfl) (pa1 (pv 1) (pa1 (pe_lst pa_nil) pa_nil))))
      (pss_cons (ps_if (pt_cmpR (o_neD (K := K) hr.units) (pc1 T.d__law_parts (ok__law_parts T) (hr.mono (by decide)) (pa1 (pcT (call_listK (K := K)) rfl T.n_list (by kernel_rfl) (pa1 (pv 5) pa_nil)) pa_nil)) (pv 1) (nomark _)) (pss_one (ps_ret pe_bl)) pss_nil)
      (pss_cons (ps_set (i := 6) nd rfl (Or.inl rfl) (pc1 T.d__law_mixed (ok__law_mixed T) (hr.mono (by decide)) (pa1 (pc1 T.d__law_cell_at (ok__law_cell_at T) (hr.mono (by decide)) (pa1 (pv 0) (pa1 pe_int pa_nil))) (pa1 pe_int pa_nil))))
      (pss_cons (ps_if (PW.pt (pw_and (pt_cmpR op_gt (pe_op op_mod (pv 6) pe_int) pe_int (nomark _)) (pw_and1 (pt_cmpR (o_ne (K := K) hu) (pv 5) (pe_lst pa_nil) (nomark _))))) (pss_cons (ps_set (i := 7) nd rfl (Or.inl rfl) (pe_op op_mod (pe_op op_fdiv (pv 6) pe_int) (pcB (o_len (K := K)) rfl T.n_len (by kernel_rfl) (pa1 (pv 5) pa_nil))))
      (pss_cons (ps_set (i := 8) nd rfl (Or.inl rfl) (pe_lst (pa1 pe_int (pa1 pe_int (pa1 pe_int (pa1 pe_int (pa1 pe_int (pa1 pe_int (pa1 pe_int (pa1 pe_int (pa1 pe_int (pa1 pe_int (pa1 pe_int (pa1 pe_int (pa1 pe_int (pa1 pe_int (pa1 pe_int (pa1 pe_int (pa1 pe_int (pa1 pe_int (pa1 (pe_op op_mod (pe_op op_fdiv (pv 6) pe_int) pe_int) pa_nil)))))))))))))))))))))
      (pss_cons (ps_set (i := 5) nd rfl (Or.inl rfl) (pe_op o_add (pe_op o_add (pe_slice (o_sl (K := K)) (pv 5) po_none (po_some (pv 7))) (pe_lst (pa1 (pe_ix (o_ix (K := K)) (pv 8) (pe_op op_mod (pe_op op_fdiv (pv 6) pe_int) pe_int) (fun _ _ => rfl)) pa_nil))) (pe_slice (o_sl (K := K)) (pv 5) (po_some (pe_op o_add (pv 7) pe_int)) po_none)))
      (pss_one (ps_if (pt_cmpR (o_eq (K := K) hu) (pe_op op_mod (pv 6) pe_int) pe_int (nomark _)) (pss_one (ps_set (i := 5) nd rfl (Or.inl rfl) (pe_slice (o_sl (K := K)) (pv 5) po_none (po_some (pe_op op_mod (pe_op op_fdiv (pv 6) pe_int) (pe_op o_add (pcB (o_len (K := K)) rfl T.n_len (by kernel_rfl) (pa1 (pv 5) pa_nil)) pe_int)))))) pss_nil))))) pss_nil)
      (pss_cons (ps_set (i := 9) nd rfl (Or.inl rfl) (pcT (call_listK (K := K)) rfl T.n_list (by kernel_rfl) (pa1 (pv 5) pa_nil)))
      (pss_cons (ps_set (i := 10) nd rfl (Or.inl rfl) (pe_op o_add (pe_lrng rfl rfl T.n_list rfl T.n_range (pa1 (pe_op o_add (pcB (o_len (K := K)) rfl T.n_len (by kernel_rfl) (pa1 (pv 5) pa_nil)) pe_int) pa_nil)) (pe_lst (pa1 (pe_op o_add (pcB (o_len (K := K)) rfl T.n_len (by kernel_rfl) (pa1 (pv 5) pa_nil)) pe_int) (pa1 pe_int pa_nil)))))
      (pss_cons (ps_if (pt_cmpR (o_eq (K := K) hu) (pe_op op_mod (pc1 T.d__law_cell_at (ok__law_cell_at T) (hr.mono (by decide)) (pa1 (pv 0) (pa1 pe_int pa_nil))) pe_int) pe_int (nomark _)) (pss_one (ps_set (i := 10) nd rfl (Or.inl rfl) (pe_rev (K := K) (pv 10) (pe_un un_neg pe_int) (by intros; with_unfolding_all rfl)))) pss_nil)
      (pss_cons (ps_for PassesOwn.never rfl (pi_listK (K := K) (pv 10)) (pg_name (i := 11) nd rfl (Or.inl rfl))
        (pss_one (ps_if (PW.pt (pw_or (pt_not (pt_val (pc1 T.d__law_right (ok__law_right T) (hr.mono (by decide)) (pa1 (pv 9) (pa1 (pv 5) (pa1 (pv 11) pa_nil)))))) (pw_or1 (pt_cmpR (o_ne (K := K) hu) (pv 9) (pv 5) (nomark _))))) (pss_one (ps_ret pe_bl)) pss_nil)))
      (pss_one (ps_ret pe_bl)))))))))))), ?_⟩
    rw [show start ["_law_script", "_law_pieces", "_law_k", "_law_cell", "_law_one", "_law_row", "_law_number_here", "_law_at", "_law_odd", "_law_handed", "_law_places", "_law_place"] [V.ref a] = [some (V.ref a), none, none, none, none, none, none, none, none, none, none, none] from rfl]
    refine tSeq_gen fun B hB => ?_
    simp only [tSeq, tIfS, tRet, tRetN, tC, tVar, tOp, tUn, tTest, tB, tAnd, tOr, tNot, tAndV, tOrV, tNotV, tIf, tChain, tCons, tNil, tCall, tCB, tLst, tTup, tSl, tNoPart, tPart, gName, tNext, tDrop, tAsg, tAsgC, tBM, tYes, tDNewK, rI, rI0, rU, rEq, rNe, rAbs, rIntT, CDiv, add_ii, add_ss, mul_ii, mul_si, ix_si, eq_ii, eq_ss, eq_bb, ne_ii, ne_ss, ne_ni, ne_in, in_s1, notin_s1, is_xn, is_bb, isnot_xn, isnot_bb, sl_s, len_s, find_ss, index_ss, List.append_nil, List.cons_append, List.nil_append, List.getElem?_cons_succ, List.getElem?_cons_zero, List.set_cons_succ, List.set_cons_zero, Option.some.injEq, V.int.injEq, V.bl.injEq, V.str.injEq, V.ref.injEq, V.ty.injEq, List.cons.injEq, and_true, true_and, exists_eq_left, exists_eq_left', exists_and_left, exists_eq', exists_const, exists_and_right, exists_eq_right, exists_eq_right', reduceCtorEq, false_and, and_false, exists_false, or_false, false_or, decide_eq_true_eq, Bool.not_eq_true', decide_eq_false_iff_not, Bool.false_eq_true, if_false, if_true, mk_app, mk_len, sg_mk, mk_one, decide_true, decide_false, Bool.not_true, Bool.not_false, ite_true, ite_false, not_true_eq_false, not_false_eq_true, cxK, cutTo1, cutFrom1, mk_iff, tyV_str, stComp, List.map_cons, List.map_nil, Option.join_some, Option.join_none, gt_iff_lt, ge_iff_le, tRaise, tTryR, tCallH, tDisp, tPairs, tFld, sFld, tMake, tMeth, tBM0, tOrE, tRev, tLRng, l_e, l_b]
    refine ⟨sl1000 (by simp), fun pl npl => ?_⟩
    have S := Same.upd (Same.refl H) npl (o := .lst [])
    have ep : upd H pl (.lst []) pl = some (.lst (([] : List Addr).map V.ref)) := upd_same
    generalize upd H pl (.lst []) = H1 at S ep ⊢
    subst hB
    refine tSeq_gen fun B hB => ?_
    refine tfor_rngQ 21 (by decide) (fun R r => ?_) (fun i σ H' => Same H H' ∧ ∃ (as : List Addr) (pcs : List (List Int)) (v2 v3 v4 : Option V), H' pl = some (.lst (as.map V.ref)) ∧ LsAt H' as pcs ∧ pcs.length = i ∧ (∀ pc ∈ pcs, Pc pc ∧ Byt pc) ∧ (∀ x ∈ as, x ≠ pl) ∧ σ = [some (V.ref a), some (V.ref pl), v2, v3, v4, none, none, none, none, none, none, none]) ⟨S, [], [], none, none, none, ep, ⟨rfl, fun i a pc h => by simp at h⟩, rfl, (fun x h => nomatch h), (fun x h => nomatch h), rfl⟩ ?_ ?_
    · simp only [tSeq, tIfS, tRet, tRetN, tC, tVar, tOp, tUn, tTest, tB, tAnd, tOr, tNot, tAndV, tOrV, tNotV, tIf, tChain, tCons, tNil, tCall, tCB, tLst, tTup, tSl, tNoPart, tPart, gName, tNext, tDrop, tAsg, tAsgC, tBM, tYes, tDNewK, rI, rI0, rU, rEq, rNe, rAbs, rIntT, CDiv, add_ii, add_ss, mul_ii, mul_si, ix_si, eq_ii, eq_ss, eq_bb, ne_ii, ne_ss, ne_ni, ne_in, in_s1, notin_s1, is_xn, is_bb, isnot_xn, isnot_bb, sl_s, len_s, find_ss, index_ss, List.append_nil, List.cons_append, List.nil_append, List.getElem?_cons_succ, List.getElem?_cons_zero, List.set_cons_succ, List.set_cons_zero, Option.some.injEq, V.int.injEq, V.bl.injEq, V.str.injEq, V.ref.injEq, V.ty.injEq, List.cons.injEq, and_true, true_and, exists_eq_left, exists_eq_left', exists_and_left, exists_eq', exists_const, exists_and_right, exists_eq_right, exists_eq_right', reduceCtorEq, false_and, and_false, exists_false, or_false, false_or, decide_eq_true_eq, Bool.not_eq_true', decide_eq_false_iff_not, Bool.false_eq_true, if_false, if_true, mk_app, mk_len, sg_mk, mk_one, decide_true, decide_false, Bool.not_true, Bool.not_false, ite_true, ite_false, not_true_eq_false, not_false_eq_true, cxK, cutTo1, cutFrom1, mk_iff, tyV_str, stComp, List.map_cons, List.map_nil, Option.join_some, Option.join_none, gt_iff_lt, ge_iff_le, tRaise, tTryR, tCallH, tDisp, tPairs, tFld, sFld, tMake, tMeth, tBM0, tOrE, tRev, tLRng, l_e, l_b]
      exact ⟨a, ns, 0, rfl, S.seq hq, by decide, fun c => ⟨_, rfl, by decide, r _ (Int.emod_nonneg _ (by decide)) (Int.emod_lt_of_pos _ (by decide))⟩⟩
    · clear hB S ep H1
      rintro i σ H2 hi ⟨S, as, pcs, v2, v3, v4, ep, hls, lk, hP, nas, rfl⟩
      refine tSeq_gen fun B hB => ?_
      simp only [tSeq, tIfS, tRet, tRetN, tC, tVar, tOp, tUn, tTest, tB, tAnd, tOr, tNot, tAndV, tOrV, tNotV, tIf, tChain, tCons, tNil, tCall, tCB, tLst, tTup, tSl, tNoPart, tPart, gName, tNext, tDrop, tAsg, tAsgC, tBM, tYes, tDNewK, rI, rI0, rU, rEq, rNe, rAbs, rIntT, CDiv, add_ii, add_ss, mul_ii, mul_si, ix_si, eq_ii, eq_ss, eq_bb, ne_ii, ne_ss, ne_ni, ne_in, in_s1, notin_s1, is_xn, is_bb, isnot_xn, isnot_bb, sl_s, len_s, find_ss, index_ss, List.append_nil, List.cons_append, List.nil_append, List.getElem?_cons_succ, List.getElem?_cons_zero, List.set_cons_succ, List.set_cons_zero, Option.some.injEq, V.int.injEq, V.bl.injEq, V.str.injEq, V.ref.injEq, V.ty.injEq, List.cons.injEq, and_true, true_and, exists_eq_left, exists_eq_left', exists_and_left, exists_eq', exists_const, exists_and_right, exists_eq_right, exists_eq_right', reduceCtorEq, false_and, and_false, exists_false, or_false, false_or, decide_eq_true_eq, Bool.not_eq_true', decide_eq_false_iff_not, Bool.false_eq_true, if_false, if_true, mk_app, mk_len, sg_mk, mk_one, decide_true, decide_false, Bool.not_true, Bool.not_false, ite_true, ite_false, not_true_eq_false, not_false_eq_true, cxK, cutTo1, cutFrom1, mk_iff, tyV_str, stComp, List.map_cons, List.map_nil, Option.join_some, Option.join_none, gt_iff_lt, ge_iff_le, tRaise, tTryR, tCallH, tDisp, tPairs, tFld, sFld, tMake, tMeth, tBM0, tOrE, tRev, tLRng, l_e, l_b]
      refine ⟨by decide, a, ns, 1 + (i : Int) % 30, rfl, S.seq hq, by omega, fun c => ⟨⟨by decide, by decide⟩, add_ii.mpr ?_⟩⟩
      generalize c + (i : Int) / 30 = c
      subst hB
      refine tSeq_gen fun B hB => ?_
      simp only [tSeq, tIfS, tRet, tRetN, tC, tVar, tOp, tUn, tTest, tB, tAnd, tOr, tNot, tAndV, tOrV, tNotV, tIf, tChain, tCons, tNil, tCall, tCB, tLst, tTup, tSl, tNoPart, tPart, gName, tNext, tDrop, tAsg, tAsgC, tBM, tYes, tDNewK, rI, rI0, rU, rEq, rNe, rAbs, rIntT, CDiv, add_ii, add_ss, mul_ii, mul_si, ix_si, eq_ii, eq_ss, eq_bb, ne_ii, ne_ss, ne_ni, ne_in, in_s1, notin_s1, is_xn, is_bb, isnot_xn, isnot_bb, sl_s, len_s, find_ss, index_ss, List.append_nil, List.cons_append, List.nil_append, List.getElem?_cons_succ, List.getElem?_cons_zero, List.set_cons_succ, List.set_cons_zero, Option.some.injEq, V.int.injEq, V.bl.injEq, V.str.injEq, V.ref.injEq, V.ty.injEq, List.cons.injEq, and_true, true_and, exists_eq_left, exists_eq_left', exists_and_left, exists_eq', exists_const, exists_and_right, exists_eq_right, exists_eq_right', reduceCtorEq, false_and, and_false, exists_false, or_false, false_or, decide_eq_true_eq, Bool.not_eq_true', decide_eq_false_iff_not, Bool.false_eq_true, if_false, if_true, mk_app, mk_len, sg_mk, mk_one, decide_true, decide_false, Bool.not_true, Bool.not_false, ite_true, ite_false, not_true_eq_false, not_false_eq_true, cxK, cutTo1, cutFrom1, mk_iff, tyV_str, stComp, List.map_cons, List.map_nil, Option.join_some, Option.join_none, gt_iff_lt, ge_iff_le, tRaise, tTryR, tCallH, tDisp, tPairs, tFld, sFld, tMake, tMeth, tBM0, tOrE, tRev, tLRng, l_e, l_b]
      refine ⟨sl1000 (by simp), fun nl nn => ⟨_, nl, [[97]], rfl, by rw [upd_same, a_mk]; rfl, rfl, (fun w hw => by rw [List.mem_singleton.mp hw]; exact ⟨by decide, by simp⟩), fun o t H3 hk S3 et => ⟨t, o, rfl, et, hk, fun l H4 n4 S4 el => ?_⟩⟩⟩
      have S3 := (Same.upd (Same.refl H2) nn).trans S3
      have n5 : l ≠ pl := fun z => by rw [z, S3 _ _ ep] at n4; cases n4
      have S5 := S3.trans S4
      have lb := bytes_pos o
      have lb3 := bytes_len o
      clear et nn S3 S4 n4
      subst hB
      refine tSeq_gen fun B hB => ?_
      simp only [tSeq, tIfS, tRet, tRetN, tC, tVar, tOp, tUn, tTest, tB, tAnd, tOr, tNot, tAndV, tOrV, tNotV, tIf, tChain, tCons, tNil, tCall, tCB, tLst, tTup, tSl, tNoPart, tPart, gName, tNext, tDrop, tAsg, tAsgC, tBM, tYes, tDNewK, rI, rI0, rU, rEq, rNe, rAbs, rIntT, CDiv, add_ii, add_ss, mul_ii, mul_si, ix_si, eq_ii, eq_ss, eq_bb, ne_ii, ne_ss, ne_ni, ne_in, in_s1, notin_s1, is_xn, is_bb, isnot_xn, isnot_bb, sl_s, len_s, find_ss, index_ss, List.append_nil, List.cons_append, List.nil_append, List.getElem?_cons_succ, List.getElem?_cons_zero, List.set_cons_succ, List.set_cons_zero, Option.some.injEq, V.int.injEq, V.bl.injEq, V.str.injEq, V.ref.injEq, V.ty.injEq, List.cons.injEq, and_true, true_and, exists_eq_left, exists_eq_left', exists_and_left, exists_eq', exists_const, exists_and_right, exists_eq_right, exists_eq_right', reduceCtorEq, false_and, and_false, exists_false, or_false, false_or, decide_eq_true_eq, Bool.not_eq_true', decide_eq_false_iff_not, Bool.false_eq_true, if_false, if_true, mk_app, mk_len, sg_mk, mk_one, decide_true, decide_false, Bool.not_true, Bool.not_false, ite_true, ite_false, not_true_eq_false, not_false_eq_true, cxK, cutTo1, cutFrom1, mk_iff, tyV_str, stComp, List.map_cons, List.map_nil, Option.join_some, Option.join_none, gt_iff_lt, ge_iff_le, tRaise, tTryR, tCallH, tDisp, tPairs, tFld, sFld, tMake, tMeth, tBM0, tOrE, tRev, tLRng, l_e, l_b]
      refine ixL (SqL.of el) (getI (p := 0) (by decide) (by omega)) ⟨_, rfl, ?_⟩
      obtain ⟨k1, k2⟩ := ok_pc hk
      rw [show (0 : Int).toNat = 0 from rfl]
      by_cases hb : 64 ≤ o.bytes.getD 0 0
      · obtain ⟨b, t, eo, lt, b0, b1, hz⟩ := k2 hb
        refine iteT' hb (slL (SqL.of el) fun s1 n1 => ?_)
        have lo : o.bytes.length = t.length + 1 := by rw [eo]; rfl
        have sc : cutL (o.bytes.map V.int) none (some 1) = [V.int b] := by
          rw [eo, List.map_cons]
          unfold cutL
          rw [show (some (1 : Int)) = some ((1 : Nat) : Int) from rfl, HT.sIx_nat, HT.sIx_none, List.length_cons, Nat.min_eq_left (by omega)]
          rfl
        rw [sc]
        have S6 := S5.trans (Same.upd (Same.refl H4) n1 (o := .lst [V.int b]))
        have e1 : upd H4 s1 (.lst [V.int b]) s1 = some (.lst [V.int b]) := upd_same
        have el := Same.upd (Same.refl H4) n1 (o := .lst [V.int b]) _ _ el
        generalize upd H4 s1 (.lst [V.int b]) = H5 at S6 e1 el ⊢
        refine tcomp_rngP ((o.bytes.length : Int) - 1) (by omega) (by omega) (fun R r => ?_) (fun j ys H' => H' = H5 ∧ ∃ ms : List Int, ys = ms.map V.int ∧ ms.length = j ∧ Byt ms) rfl ⟨rfl, [], rfl, rfl, fun n h => nomatch h⟩ ?_ ?_
        · simp only [tSeq, tIfS, tRet, tRetN, tC, tVar, tOp, tUn, tTest, tB, tAnd, tOr, tNot, tAndV, tOrV, tNotV, tIf, tChain, tCons, tNil, tCall, tCB, tLst, tTup, tSl, tNoPart, tPart, gName, tNext, tDrop, tAsg, tAsgC, tBM, tYes, tDNewK, rI, rI0, rU, rEq, rNe, rAbs, rIntT, CDiv, add_ii, add_ss, mul_ii, mul_si, ix_si, eq_ii, eq_ss, eq_bb, ne_ii, ne_ss, ne_ni, ne_in, in_s1, notin_s1, is_xn, is_bb, isnot_xn, isnot_bb, sl_s, len_s, find_ss, index_ss, List.append_nil, List.cons_append, List.nil_append, List.getElem?_cons_succ, List.getElem?_cons_zero, List.set_cons_succ, List.set_cons_zero, Option.some.injEq, V.int.injEq, V.bl.injEq, V.str.injEq, V.ref.injEq, V.ty.injEq, List.cons.injEq, and_true, true_and, exists_eq_left, exists_eq_left', exists_and_left, exists_eq', exists_const, exists_and_right, exists_eq_right, exists_eq_right', reduceCtorEq, false_and, and_false, exists_false, or_false, false_or, decide_eq_true_eq, Bool.not_eq_true', decide_eq_false_iff_not, Bool.false_eq_true, if_false, if_true, mk_app, mk_len, sg_mk, mk_one, decide_true, decide_false, Bool.not_true, Bool.not_false, ite_true, ite_false, not_true_eq_false, not_false_eq_true, cxK, cutTo1, cutFrom1, mk_iff, tyV_str, stComp, List.map_cons, List.map_nil, Option.join_some, Option.join_none, gt_iff_lt, ge_iff_le, tRaise, tTryR, tCallH, tDisp, tPairs, tFld, sFld, tMake, tMeth, tBM0, tOrE, tRev, tLRng, l_e, l_b]
          refine lenL (SqL.of el) ⟨_, rfl, ?_⟩
          rw [List.length_map]
          exact r
        · rintro j ys H' Cy Cn hj ⟨rfl, ms, rfl, lm, hm⟩ cy cn
          simp only [tSeq, tIfS, tRet, tRetN, tC, tVar, tOp, tUn, tTest, tB, tAnd, tOr, tNot, tAndV, tOrV, tNotV, tIf, tChain, tCons, tNil, tCall, tCB, tLst, tTup, tSl, tNoPart, tPart, gName, tNext, tDrop, tAsg, tAsgC, tBM, tYes, tDNewK, rI, rI0, rU, rEq, rNe, rAbs, rIntT, CDiv, add_ii, add_ss, mul_ii, mul_si, ix_si, eq_ii, eq_ss, eq_bb, ne_ii, ne_ss, ne_ni, ne_in, in_s1, notin_s1, is_xn, is_bb, isnot_xn, isnot_bb, sl_s, len_s, find_ss, index_ss, List.append_nil, List.cons_append, List.nil_append, List.getElem?_cons_succ, List.getElem?_cons_zero, List.set_cons_succ, List.set_cons_zero, Option.some.injEq, V.int.injEq, V.bl.injEq, V.str.injEq, V.ref.injEq, V.ty.injEq, List.cons.injEq, and_true, true_and, exists_eq_left, exists_eq_left', exists_and_left, exists_eq', exists_const, exists_and_right, exists_eq_right, exists_eq_right', reduceCtorEq, false_and, and_false, exists_false, or_false, false_or, decide_eq_true_eq, Bool.not_eq_true', decide_eq_false_iff_not, Bool.false_eq_true, if_false, if_true, mk_app, mk_len, sg_mk, mk_one, decide_true, decide_false, Bool.not_true, Bool.not_false, ite_true, ite_false, not_true_eq_false, not_false_eq_true, cxK, cutTo1, cutFrom1, mk_iff, tyV_str, stComp, List.map_cons, List.map_nil, Option.join_some, Option.join_none, gt_iff_lt, ge_iff_le, tRaise, tTryR, tCallH, tDisp, tPairs, tFld, sFld, tMake, tMeth, tBM0, tOrE, tRev, tLRng, l_e, l_b]
          refine ⟨c, 30 + (j : Int), rfl, by omega, by omega, fun r r0 r1 => ⟨_, rfl, by decide, cy _ _ ⟨rfl, ms ++ [r % 256], by simp, by simp [lm], ?_⟩⟩⟩
          intro n hn
          rcases List.mem_append.mp hn with z | z
          · exact hm n z
          · rw [List.mem_singleton.mp z]; omega
        rintro ys H' l6 ⟨rfl, ms, rfl, lm, hm⟩ n6
        have S7 := S6.trans (Same.upd (Same.refl H') n6 (o := .lst (ms.map V.int)))
        have e1 := Same.upd (Same.refl H') n6 (o := .lst (ms.map V.int)) _ _ e1
        have e6 : upd H' l6 (.lst (ms.map V.int)) l6 = some (.lst (ms.map V.int)) := upd_same
        generalize upd H' l6 (.lst (ms.map V.int)) = H7 at S7 e1 e6 ⊢
        refine catL e1 e6 (catOk (by simp) (by rw [List.length_map]; omega)) fun l8 n8 => ?_
        have n5 : l8 ≠ pl := fun z => by rw [z, S7 _ _ ep] at n8; cases n8
        have S5 := S7.trans (Same.upd (Same.refl H7) n8 (o := .lst ([V.int b] ++ ms.map V.int)))
        have e5 : upd H7 l8 (.lst ([V.int b] ++ ms.map V.int)) l8 = some (.lst ((b :: ms).map V.int)) := upd_same
        generalize upd H7 l8 (.lst ([V.int b] ++ ms.map V.int)) = H8 at S5 e5 ⊢
        have lm' : ms.length = t.length := by omega
        have hpc : Pc (b :: ms) ∧ Byt (b :: ms) := ⟨⟨by rw [List.length_cons]; omega, by rw [List.length_cons]; omega, by rw [List.getD_cons_zero, hz, List.length_cons, lm']; rfl⟩, fun n hn => by
          rcases List.mem_cons.mp hn with z | z
          · omega
          · exact hm n z⟩
        subst hB
        simp only [tSeq, tIfS, tRet, tRetN, tC, tVar, tOp, tUn, tTest, tB, tAnd, tOr, tNot, tAndV, tOrV, tNotV, tIf, tChain, tCons, tNil, tCall, tCB, tLst, tTup, tSl, tNoPart, tPart, gName, tNext, tDrop, tAsg, tAsgC, tBM, tYes, tDNewK, rI, rI0, rU, rEq, rNe, rAbs, rIntT, CDiv, add_ii, add_ss, mul_ii, mul_si, ix_si, eq_ii, eq_ss, eq_bb, ne_ii, ne_ss, ne_ni, ne_in, in_s1, notin_s1, is_xn, is_bb, isnot_xn, isnot_bb, sl_s, len_s, find_ss, index_ss, List.append_nil, List.cons_append, List.nil_append, List.getElem?_cons_succ, List.getElem?_cons_zero, List.set_cons_succ, List.set_cons_zero, Option.some.injEq, V.int.injEq, V.bl.injEq, V.str.injEq, V.ref.injEq, V.ty.injEq, List.cons.injEq, and_true, true_and, exists_eq_left, exists_eq_left', exists_and_left, exists_eq', exists_const, exists_and_right, exists_eq_right, exists_eq_right', reduceCtorEq, false_and, and_false, exists_false, or_false, false_or, decide_eq_true_eq, Bool.not_eq_true', decide_eq_false_iff_not, Bool.false_eq_true, if_false, if_true, mk_app, mk_len, sg_mk, mk_one, decide_true, decide_false, Bool.not_true, Bool.not_false, ite_true, ite_false, not_true_eq_false, not_false_eq_true, cxK, cutTo1, cutFrom1, mk_iff, tyV_str, stComp, List.map_cons, List.map_nil, Option.join_some, Option.join_none, gt_iff_lt, ge_iff_le, tRaise, tTryR, tCallH, tDisp, tPairs, tFld, sFld, tMake, tMeth, tBM0, tOrE, tRev, tLRng, l_e, l_b]
        refine ⟨tyV_lst (SqL.of (S5 _ _ ep)), appL (S5 _ _ ep) (Nat.lt_of_lt_of_le (show _ < 100000 by rw [List.length_map, hls.1]; omega) (sl1000 (Nat.le_refl _))) ⟨Same.set (S.trans S5) npl, as ++ [l8], by rw [upd_same, List.map_append]; rfl, pcs ++ [b :: ms], hls.add (fun x hx o' eo => by rw [upd_ne (nas x hx)]; exact S5 _ _ eo) (by rw [upd_ne n5]; exact e5), by simp [lk], fun y hy => ?_, fun y hy => ?_⟩⟩
        · rcases List.mem_append.mp hy with z | z
          · exact hP y z
          · rw [List.mem_singleton.mp z]; exact hpc
        · rcases List.mem_append.mp hy with z | z
          · exact nas y z
          · rw [List.mem_singleton.mp z]; exact n5
      · refine iteF' hb ?_
        have hpc := k1 (by omega)
        have e5 := el
        subst hB
        simp only [tSeq, tIfS, tRet, tRetN, tC, tVar, tOp, tUn, tTest, tB, tAnd, tOr, tNot, tAndV, tOrV, tNotV, tIf, tChain, tCons, tNil, tCall, tCB, tLst, tTup, tSl, tNoPart, tPart, gName, tNext, tDrop, tAsg, tAsgC, tBM, tYes, tDNewK, rI, rI0, rU, rEq, rNe, rAbs, rIntT, CDiv, add_ii, add_ss, mul_ii, mul_si, ix_si, eq_ii, eq_ss, eq_bb, ne_ii, ne_ss, ne_ni, ne_in, in_s1, notin_s1, is_xn, is_bb, isnot_xn, isnot_bb, sl_s, len_s, find_ss, index_ss, List.append_nil, List.cons_append, List.nil_append, List.getElem?_cons_succ, List.getElem?_cons_zero, List.set_cons_succ, List.set_cons_zero, Option.some.injEq, V.int.injEq, V.bl.injEq, V.str.injEq, V.ref.injEq, V.ty.injEq, List.cons.injEq, and_true, true_and, exists_eq_left, exists_eq_left', exists_and_left, exists_eq', exists_const, exists_and_right, exists_eq_right, exists_eq_right', reduceCtorEq, false_and, and_false, exists_false, or_false, false_or, decide_eq_true_eq, Bool.not_eq_true', decide_eq_false_iff_not, Bool.false_eq_true, if_false, if_true, mk_app, mk_len, sg_mk, mk_one, decide_true, decide_false, Bool.not_true, Bool.not_false, ite_true, ite_false, not_true_eq_false, not_false_eq_true, cxK, cutTo1, cutFrom1, mk_iff, tyV_str, stComp, List.map_cons, List.map_nil, Option.join_some, Option.join_none, gt_iff_lt, ge_iff_le, tRaise, tTryR, tCallH, tDisp, tPairs, tFld, sFld, tMake, tMeth, tBM0, tOrE, tRev, tLRng, l_e, l_b]
        refine ⟨tyV_lst (SqL.of (S5 _ _ ep)), appL (S5 _ _ ep) (Nat.lt_of_lt_of_le (show _ < 100000 by rw [List.length_map, hls.1]; omega) (sl1000 (Nat.le_refl _))) ⟨Same.set (S.trans S5) npl, as ++ [l], by rw [upd_same, List.map_append]; rfl, pcs ++ [o.bytes], hls.add (fun x hx o' eo => by rw [upd_ne (nas x hx)]; exact S5 _ _ eo) (by rw [upd_ne n5]; exact e5), by simp [lk], fun y hy => ?_, fun y hy => ?_⟩⟩
        · rcases List.mem_append.mp hy with z | z
          · exact hP y z
          · rw [List.mem_singleton.mp z]; exact hpc
        · rcases List.mem_append.mp hy with z | z
          · exact nas y z
          · rw [List.mem_singleton.mp z]; exact n5
    clear S ep H1
    rintro i σ H2 hi ⟨S, as, pcs, v2, v3, v4, ep, hls, lk, hP, nas, rfl⟩
    have hf := flat60 hP
    subst hB
    refine tSeq_gen fun B hB => ?_
    simp only [tSeq, tIfS, tRet, tRetN, tC, tVar, tOp, tUn, tTest, tB, tAnd, tOr, tNot, tAndV, tOrV, tNotV, tIf, tChain, tCons, tNil, tCall, tCB, tLst, tTup, tSl, tNoPart, tPart, gName, tNext, tDrop, tAsg, tAsgC, tBM, tYes, tDNewK, rI, rI0, rU, rEq, rNe, rAbs, rIntT, CDiv, add_ii, add_ss, mul_ii, mul_si, ix_si, eq_ii, eq_ss, eq_bb, ne_ii, ne_ss, ne_ni, ne_in, in_s1, notin_s1, is_xn, is_bb, isnot_xn, isnot_bb, sl_s, len_s, find_ss, index_ss, List.append_nil, List.cons_append, List.nil_append, List.getElem?_cons_succ, List.getElem?_cons_zero, List.set_cons_succ, List.set_cons_zero, Option.some.injEq, V.int.injEq, V.bl.injEq, V.str.injEq, V.ref.injEq, V.ty.injEq, List.cons.injEq, and_true, true_and, exists_eq_left, exists_eq_left', exists_and_left, exists_eq', exists_const, exists_and_right, exists_eq_right, exists_eq_right', reduceCtorEq, false_and, and_false, exists_false, or_false, false_or, decide_eq_true_eq, Bool.not_eq_true', decide_eq_false_iff_not, Bool.false_eq_true, if_false, if_true, mk_app, mk_len, sg_mk, mk_one, decide_true, decide_false, Bool.not_true, Bool.not_false, ite_true, ite_false, not_true_eq_false, not_false_eq_true, cxK, cutTo1, cutFrom1, mk_iff, tyV_str, stComp, List.map_cons, List.map_nil, Option.join_some, Option.join_none, gt_iff_lt, ge_iff_le, tRaise, tTryR, tCallH, tDisp, tPairs, tFld, sFld, tMake, tMeth, tBM0, tOrE, tRev, tLRng, l_e, l_b]
    subst hB
    refine tSeq_gen fun B hB => ?_
    simp only [tSeq, tIfS, tRet, tRetN, tC, tVar, tOp, tUn, tTest, tB, tAnd, tOr, tNot, tAndV, tOrV, tNotV, tIf, tChain, tCons, tNil, tCall, tCB, tLst, tTup, tSl, tNoPart, tPart, gName, tNext, tDrop, tAsg, tAsgC, tBM, tYes, tDNewK, rI, rI0, rU, rEq, rNe, rAbs, rIntT, CDiv, add_ii, add_ss, mul_ii, mul_si, ix_si, eq_ii, eq_ss, eq_bb, ne_ii, ne_ss, ne_ni, ne_in, in_s1, notin_s1, is_xn, is_bb, isnot_xn, isnot_bb, sl_s, len_s, find_ss, index_ss, List.append_nil, List.cons_append, List.nil_append, List.getElem?_cons_succ, List.getElem?_cons_zero, List.set_cons_succ, List.set_cons_zero, Option.some.injEq, V.int.injEq, V.bl.injEq, V.str.injEq, V.ref.injEq, V.ty.injEq, List.cons.injEq, and_true, true_and, exists_eq_left, exists_eq_left', exists_and_left, exists_eq', exists_const, exists_and_right, exists_eq_right, exists_eq_right', reduceCtorEq, false_and, and_false, exists_false, or_false, false_or, decide_eq_true_eq, Bool.not_eq_true', decide_eq_false_iff_not, Bool.false_eq_true, if_false, if_true, mk_app, mk_len, sg_mk, mk_one, decide_true, decide_false, Bool.not_true, Bool.not_false, ite_true, ite_false, not_true_eq_false, not_false_eq_true, cxK, cutTo1, cutFrom1, mk_iff, tyV_str, stComp, List.map_cons, List.map_nil, Option.join_some, Option.join_none, gt_iff_lt, ge_iff_le, tRaise, tTryR, tCallH, tDisp, tPairs, tFld, sFld, tMake, tMeth, tBM0, tOrE, tRev, tLRng, l_e, l_b]
    refine ⟨sl1000 (by simp), fun b nb => ?_⟩
    have S2 := Same.upd (Same.refl H2) nb (o := .lst [])
    have eb : upd H2 b (.lst []) b = some (.lst []) := upd_same
    generalize upd H2 b (.lst []) = H3 at S2 eb ⊢
    have nbp : b ≠ pl := fun z => by rw [z, ep] at nb; cases nb
    refine ⟨pl, b, as, fun i => (pcs.getD i []).map V.int, rfl, S2 _ _ ep, eb, fun i x hx => ?_, ?_, fun rl H4 hor S4 er => ?_⟩
    · have hi := (List.getElem?_eq_some_iff.mp hx).1
      rw [hls.1] at hi
      exact S2 _ _ (hls.2 i x _ hx (by simp [List.getD, hi]))
    · rw [hls.1, sumF, List.length_map]
      omega
    rw [hls.1, sumF] at er
    have S := S.trans (S2.trans S4)
    have hls := (hls.same S2).same S4
    have ep := S4 _ _ (S2 _ _ ep)
    clear S2 S4 eb nb hor
    subst hB
    refine tSeq_gen fun B hB => ?_
    simp only [tSeq, tIfS, tRet, tRetN, tC, tVar, tOp, tUn, tTest, tB, tAnd, tOr, tNot, tAndV, tOrV, tNotV, tIf, tChain, tCons, tNil, tCall, tCB, tLst, tTup, tSl, tNoPart, tPart, gName, tNext, tDrop, tAsg, tAsgC, tBM, tYes, tDNewK, rI, rI0, rU, rEq, rNe, rAbs, rIntT, CDiv, add_ii, add_ss, mul_ii, mul_si, ix_si, eq_ii, eq_ss, eq_bb, ne_ii, ne_ss, ne_ni, ne_in, in_s1, notin_s1, is_xn, is_bb, isnot_xn, isnot_bb, sl_s, len_s, find_ss, index_ss, List.append_nil, List.cons_append, List.nil_append, List.getElem?_cons_succ, List.getElem?_cons_zero, List.set_cons_succ, List.set_cons_zero, Option.some.injEq, V.int.injEq, V.bl.injEq, V.str.injEq, V.ref.injEq, V.ty.injEq, List.cons.injEq, and_true, true_and, exists_eq_left, exists_eq_left', exists_and_left, exists_eq', exists_const, exists_and_right, exists_eq_right, exists_eq_right', reduceCtorEq, false_and, and_false, exists_false, or_false, false_or, decide_eq_true_eq, Bool.not_eq_true', decide_eq_false_iff_not, Bool.false_eq_true, if_false, if_true, mk_app, mk_len, sg_mk, mk_one, decide_true, decide_false, Bool.not_true, Bool.not_false, ite_true, ite_false, not_true_eq_false, not_false_eq_true, cxK, cutTo1, cutFrom1, mk_iff, tyV_str, stComp, List.map_cons, List.map_nil, Option.join_some, Option.join_none, gt_iff_lt, ge_iff_le, tRaise, tTryR, tCallH, tDisp, tPairs, tFld, sFld, tMake, tMeth, tBM0, tOrE, tRev, tLRng, l_e, l_b]
    refine listL (SqL.of er) fun l2 n2 => ⟨l2, pcs, rfl, upd_same, by omega, fun pc h => (hP pc h).1, fun l3 as3 H5 n3 S5 e3 hl3 => neD_same (.list (pcs.map fun pc => .list (pc.map .int))) ?_ ?_ ?_ ?_ ?_⟩
    · rw [RdD]
      exact ⟨l3, _, rfl, SqL.of e3, rdLs _ _ hl3⟩
    · rw [RdD]
      exact ⟨pl, _, rfl, SqL.of (S5 _ _ (Same.upd (Same.refl H4) n2 _ _ ep)), rdLs _ _ ((hls.same (Same.upd (Same.refl H4) n2)).same S5)⟩
    · rw [PyData.canLay0]
      exact (layLs pcs).1
    · rw [PyData.depth]
      have := (layLs pcs).2
      omega
    have S24 := (Same.upd (Same.refl H4) n2).trans S5
    have S := S.trans S24
    have er := S24 _ _ er
    clear S24 S5 n2 n3 e3 hl3 hls ep nas
    refine ⟨_, rfl, iteF' (by decide) ?_⟩
    subst hB
    refine tSeq_gen fun B hB => ?_
    simp only [tSeq, tIfS, tRet, tRetN, tC, tVar, tOp, tUn, tTest, tB, tAnd, tOr, tNot, tAndV, tOrV, tNotV, tIf, tChain, tCons, tNil, tCall, tCB, tLst, tTup, tSl, tNoPart, tPart, gName, tNext, tDrop, tAsg, tAsgC, tBM, tYes, tDNewK, rI, rI0, rU, rEq, rNe, rAbs, rIntT, CDiv, add_ii, add_ss, mul_ii, mul_si, ix_si, eq_ii, eq_ss, eq_bb, ne_ii, ne_ss, ne_ni, ne_in, in_s1, notin_s1, is_xn, is_bb, isnot_xn, isnot_bb, sl_s, len_s, find_ss, index_ss, List.append_nil, List.cons_append, List.nil_append, List.getElem?_cons_succ, List.getElem?_cons_zero, List.set_cons_succ, List.set_cons_zero, Option.some.injEq, V.int.injEq, V.bl.injEq, V.str.injEq, V.ref.injEq, V.ty.injEq, List.cons.injEq, and_true, true_and, exists_eq_left, exists_eq_left', exists_and_left, exists_eq', exists_const, exists_and_right, exists_eq_right, exists_eq_right', reduceCtorEq, false_and, and_false, exists_false, or_false, false_or, decide_eq_true_eq, Bool.not_eq_true', decide_eq_false_iff_not, Bool.false_eq_true, if_false, if_true, mk_app, mk_len, sg_mk, mk_one, decide_true, decide_false, Bool.not_true, Bool.not_false, ite_true, ite_false, not_true_eq_false, not_false_eq_true, cxK, cutTo1, cutFrom1, mk_iff, tyV_str, stComp, List.map_cons, List.map_nil, Option.join_some, Option.join_none, gt_iff_lt, ge_iff_le, tRaise, tTryR, tCallH, tDisp, tPairs, tFld, sFld, tMake, tMeth, tBM0, tOrE, tRev, tLRng, l_e, l_b]
    refine ⟨a, ns, 32, rfl, S.seq hq, by decide, fun c => ⟨c, 1, rfl, by decide, by decide, fun r r0 r1 => ?_⟩⟩
    subst hB
    have hf1 : pcs.flatten.length ≤ 60 := by omega
    have hf2 := hf.2
    generalize pcs.flatten = rw at er hf1 hf2
    clear hf hP lk hi
    refine tSeq_gen fun B hB => ?_
    have key : ∀ (ms : List Int) (rl : Addr) (v7 v8 : Option V) H', Same H H' → H' rl = some (.lst (ms.map V.int)) → Byt ms → ms.length ≤ 130 → B { nx := fun x H' => Q V.non H', rt := Q } [some (V.ref a), some (V.ref pl), v2, v3, v4, some (V.ref rl), some (V.int r), v7, v8, none, none, none] H' := by
      clear er hf1 hf2 S
      intro ms rl v7 v8 H6 S er hby lm
      subst hB
      refine tSeq_gen fun B hB => ?_
      simp only [tSeq, tIfS, tRet, tRetN, tC, tVar, tOp, tUn, tTest, tB, tAnd, tOr, tNot, tAndV, tOrV, tNotV, tIf, tChain, tCons, tNil, tCall, tCB, tLst, tTup, tSl, tNoPart, tPart, gName, tNext, tDrop, tAsg, tAsgC, tBM, tYes, tDNewK, rI, rI0, rU, rEq, rNe, rAbs, rIntT, CDiv, add_ii, add_ss, mul_ii, mul_si, ix_si, eq_ii, eq_ss, eq_bb, ne_ii, ne_ss, ne_ni, ne_in, in_s1, notin_s1, is_xn, is_bb, isnot_xn, isnot_bb, sl_s, len_s, find_ss, index_ss, List.append_nil, List.cons_append, List.nil_append, List.getElem?_cons_succ, List.getElem?_cons_zero, List.set_cons_succ, List.set_cons_zero, Option.some.injEq, V.int.injEq, V.bl.injEq, V.str.injEq, V.ref.injEq, V.ty.injEq, List.cons.injEq, and_true, true_and, exists_eq_left, exists_eq_left', exists_and_left, exists_eq', exists_const, exists_and_right, exists_eq_right, exists_eq_right', reduceCtorEq, false_and, and_false, exists_false, or_false, false_or, decide_eq_true_eq, Bool.not_eq_true', decide_eq_false_iff_not, Bool.false_eq_true, if_false, if_true, mk_app, mk_len, sg_mk, mk_one, decide_true, decide_false, Bool.not_true, Bool.not_false, ite_true, ite_false, not_true_eq_false, not_false_eq_true, cxK, cutTo1, cutFrom1, mk_iff, tyV_str, stComp, List.map_cons, List.map_nil, Option.join_some, Option.join_none, gt_iff_lt, ge_iff_le, tRaise, tTryR, tCallH, tDisp, tPairs, tFld, sFld, tMake, tMeth, tBM0, tOrE, tRev, tLRng, l_e, l_b]
      refine listL (SqL.of er) fun hh nh => ?_
      have S6 := Same.upd (Same.refl H6) nh (o := .lst (ms.map V.int))
      have eh : upd H6 hh (.lst (ms.map V.int)) hh = some (.lst (ms.map V.int)) := upd_same
      generalize upd H6 hh (.lst (ms.map V.int)) = H7 at S6 eh ⊢
      have S := S.trans S6
      have er := S6 _ _ er
      clear S6 nh
      subst hB
      refine tSeq_gen fun B hB => ?_
      simp only [tSeq, tIfS, tRet, tRetN, tC, tVar, tOp, tUn, tTest, tB, tAnd, tOr, tNot, tAndV, tOrV, tNotV, tIf, tChain, tCons, tNil, tCall, tCB, tLst, tTup, tSl, tNoPart, tPart, gName, tNext, tDrop, tAsg, tAsgC, tBM, tYes, tDNewK, rI, rI0, rU, rEq, rNe, rAbs, rIntT, CDiv, add_ii, add_ss, mul_ii, mul_si, ix_si, eq_ii, eq_ss, eq_bb, ne_ii, ne_ss, ne_ni, ne_in, in_s1, notin_s1, is_xn, is_bb, isnot_xn, isnot_bb, sl_s, len_s, find_ss, index_ss, List.append_nil, List.cons_append, List.nil_append, List.getElem?_cons_succ, List.getElem?_cons_zero, List.set_cons_succ, List.set_cons_zero, Option.some.injEq, V.int.injEq, V.bl.injEq, V.str.injEq, V.ref.injEq, V.ty.injEq, List.cons.injEq, and_true, true_and, exists_eq_left, exists_eq_left', exists_and_left, exists_eq', exists_const, exists_and_right, exists_eq_right, exists_eq_right', reduceCtorEq, false_and, and_false, exists_false, or_false, false_or, decide_eq_true_eq, Bool.not_eq_true', decide_eq_false_iff_not, Bool.false_eq_true, if_false, if_true, mk_app, mk_len, sg_mk, mk_one, decide_true, decide_false, Bool.not_true, Bool.not_false, ite_true, ite_false, not_true_eq_false, not_false_eq_true, cxK, cutTo1, cutFrom1, mk_iff, tyV_str, stComp, List.map_cons, List.map_nil, Option.join_some, Option.join_none, gt_iff_lt, ge_iff_le, tRaise, tTryR, tCallH, tDisp, tPairs, tFld, sFld, tMake, tMeth, tBM0, tOrE, tRev, tLRng, l_e, l_b]
      refine lenL (SqL.of er) (add_ii.mpr ⟨_, rfl, by omega, by rw [List.length_map]; omega, fun l nl => ?_⟩)
      generalize hn : ((((ms.map V.int).length : Nat) : Int) + 2).toNat = n at nl ⊢
      have ln : n ≤ 132 := by rw [List.length_map] at hn; omega
      have S7 := Same.upd (Same.refl H7) nl (o := .lst (rngV 0 n))
      have el : upd H7 l (.lst (rngV 0 n)) l = some (.lst (rngV 0 n)) := upd_same
      generalize upd H7 l (.lst (rngV 0 n)) = H8 at S7 el ⊢
      have S := S.trans S7
      have er := S7 _ _ er
      have eh := S7 _ _ eh
      clear S7 nl
      refine lenL (SqL.of er) (add_ii.mpr ⟨sl1000 (by simp), fun p np => ?_⟩)
      generalize hy : (((ms.map V.int).length : Nat) : Int) + 3 = y at np ⊢
      have y0 : 0 ≤ y := by omega
      have S8 := Same.upd (Same.refl H8) np (o := .lst [V.int y, V.int 65535])
      have ep : upd H8 p (.lst [V.int y, V.int 65535]) p = some (.lst [V.int y, V.int 65535]) := upd_same
      generalize upd H8 p (.lst [V.int y, V.int 65535]) = H9 at S8 ep ⊢
      have S := S.trans S8
      have er := S8 _ _ er
      have eh := S8 _ _ eh
      refine catL (S8 _ _ el) ep (catOk (by rw [rngV_length]; omega) (by simp)) fun l9 n9 => ?_
      have hp : Plc (rngV 0 n ++ [V.int y, V.int 65535]) := fun x hx => by
        rcases List.mem_append.mp hx with z | z
        · exact plc_rng n x z
        · rcases List.mem_cons.mp z with z | z
          · exact ⟨y, z, y0⟩
          · exact ⟨65535, List.mem_singleton.mp z, by decide⟩
      generalize rngV 0 n ++ [V.int y, V.int 65535] = xs at hp n9 ⊢
      have S9 := Same.upd (Same.refl H9) n9 (o := .lst xs)
      have e9 : upd H9 l9 (.lst xs) l9 = some (.lst xs) := upd_same
      generalize upd H9 l9 (.lst xs) = H10 at S9 e9 ⊢
      have S := S.trans S9
      have er := S9 _ _ er
      have eh := S9 _ _ eh
      clear S8 S9 ep np n9 el hy y0 hn ln
      subst hB
      refine tSeq_gen fun B hB => ?_
      have key2 : ∀ (xs : List V) (lp : Addr) H', Same H10 H' → H' lp = some (.lst xs) → Plc xs → B { nx := fun x H' => Q V.non H', rt := Q } [some (V.ref a), some (V.ref pl), v2, v3, v4, some (V.ref rl), some (V.int r), v7, v8, some (V.ref hh), some (V.ref lp), none] H' := by
        clear hp e9 xs
        intro xs lp H11 S11 e11 hp
        have er := S11 _ _ er
        have eh := S11 _ _ eh
        subst hB
        refine tSeq_gen fun B hB => ?_
        refine tfor_list (a := lp) (xs := xs) (fun R r => ⟨_, rfl, r⟩) (SqL.of e11) (fun i σ H' => Same H11 H' ∧ ∃ v11, σ = [some (V.ref a), some (V.ref pl), v2, v3, v4, some (V.ref rl), some (V.int r), v7, v8, some (V.ref hh), some (V.ref lp), v11]) ⟨Same.refl _, none, rfl⟩ (fun i σ H' hP => SqL.of (hP.1 _ _ e11)) ?_ ?_
        · clear hB
          rintro i x σ H' hx ⟨S9, v11, rfl⟩
          obtain ⟨p, rfl, p0⟩ := hp x (List.mem_of_getElem? hx)
          simp only [tSeq, tIfS, tRet, tRetN, tC, tVar, tOp, tUn, tTest, tB, tAnd, tOr, tNot, tAndV, tOrV, tNotV, tIf, tChain, tCons, tNil, tCall, tCB, tLst, tTup, tSl, tNoPart, tPart, gName, tNext, tDrop, tAsg, tAsgC, tBM, tYes, tDNewK, rI, rI0, rU, rEq, rNe, rAbs, rIntT, CDiv, add_ii, add_ss, mul_ii, mul_si, ix_si, eq_ii, eq_ss, eq_bb, ne_ii, ne_ss, ne_ni, ne_in, in_s1, notin_s1, is_xn, is_bb, isnot_xn, isnot_bb, sl_s, len_s, find_ss, index_ss, List.append_nil, List.cons_append, List.nil_append, List.getElem?_cons_succ, List.getElem?_cons_zero, List.set_cons_succ, List.set_cons_zero, Option.some.injEq, V.int.injEq, V.bl.injEq, V.str.injEq, V.ref.injEq, V.ty.injEq, List.cons.injEq, and_true, true_and, exists_eq_left, exists_eq_left', exists_and_left, exists_eq', exists_const, exists_and_right, exists_eq_right, exists_eq_right', reduceCtorEq, false_and, and_false, exists_false, or_false, false_or, decide_eq_true_eq, Bool.not_eq_true', decide_eq_false_iff_not, Bool.false_eq_true, if_false, if_true, mk_app, mk_len, sg_mk, mk_one, decide_true, decide_false, Bool.not_true, Bool.not_false, ite_true, ite_false, not_true_eq_false, not_false_eq_true, cxK, cutTo1, cutFrom1, mk_iff, tyV_str, stComp, List.map_cons, List.map_nil, Option.join_some, Option.join_none, gt_iff_lt, ge_iff_le, tRaise, tTryR, tCallH, tDisp, tPairs, tFld, sFld, tMake, tMeth, tBM0, tOrE, tRev, tLRng, l_e, l_b]
          refine ⟨hh, rl, ms, p, rfl, S9 _ _ eh, S9 _ _ er, hby, by omega, p0, fun H12 S12 => ⟨_, rfl, iteF' (by decide) (neLL_same (S12 _ _ (S9 _ _ eh)) (S12 _ _ (S9 _ _ er)) (flat_ints _) ⟨_, rfl, iteF' (by decide) ?_⟩)⟩⟩
          exact S9.trans S12
        · rintro σ H' ⟨S9, v11, rfl⟩
          subst hB
          simp only [tSeq, tIfS, tRet, tRetN, tC, tVar, tOp, tUn, tTest, tB, tAnd, tOr, tNot, tAndV, tOrV, tNotV, tIf, tChain, tCons, tNil, tCall, tCB, tLst, tTup, tSl, tNoPart, tPart, gName, tNext, tDrop, tAsg, tAsgC, tBM, tYes, tDNewK, rI, rI0, rU, rEq, rNe, rAbs, rIntT, CDiv, add_ii, add_ss, mul_ii, mul_si, ix_si, eq_ii, eq_ss, eq_bb, ne_ii, ne_ss, ne_ni, ne_in, in_s1, notin_s1, is_xn, is_bb, isnot_xn, isnot_bb, sl_s, len_s, find_ss, index_ss, List.append_nil, List.cons_append, List.nil_append, List.getElem?_cons_succ, List.getElem?_cons_zero, List.set_cons_succ, List.set_cons_zero, Option.some.injEq, V.int.injEq, V.bl.injEq, V.str.injEq, V.ref.injEq, V.ty.injEq, List.cons.injEq, and_true, true_and, exists_eq_left, exists_eq_left', exists_and_left, exists_eq', exists_const, exists_and_right, exists_eq_right, exists_eq_right', reduceCtorEq, false_and, and_false, exists_false, or_false, false_or, decide_eq_true_eq, Bool.not_eq_true', decide_eq_false_iff_not, Bool.false_eq_true, if_false, if_true, mk_app, mk_len, sg_mk, mk_one, decide_true, decide_false, Bool.not_true, Bool.not_false, ite_true, ite_false, not_true_eq_false, not_false_eq_true, cxK, cutTo1, cutFrom1, mk_iff, tyV_str, stComp, List.map_cons, List.map_nil, Option.join_some, Option.join_none, gt_iff_lt, ge_iff_le, tRaise, tTryR, tCallH, tDisp, tPairs, tFld, sFld, tMake, tMeth, tBM0, tOrE, tRev, tLRng, l_e, l_b]
          exact q _
      clear hB
      simp only [tSeq, tIfS, tRet, tRetN, tC, tVar, tOp, tUn, tTest, tB, tAnd, tOr, tNot, tAndV, tOrV, tNotV, tIf, tChain, tCons, tNil, tCall, tCB, tLst, tTup, tSl, tNoPart, tPart, gName, tNext, tDrop, tAsg, tAsgC, tBM, tYes, tDNewK, rI, rI0, rU, rEq, rNe, rAbs, rIntT, CDiv, add_ii, add_ss, mul_ii, mul_si, ix_si, eq_ii, eq_ss, eq_bb, ne_ii, ne_ss, ne_ni, ne_in, in_s1, notin_s1, is_xn, is_bb, isnot_xn, isnot_bb, sl_s, len_s, find_ss, index_ss, List.append_nil, List.cons_append, List.nil_append, List.getElem?_cons_succ, List.getElem?_cons_zero, List.set_cons_succ, List.set_cons_zero, Option.some.injEq, V.int.injEq, V.bl.injEq, V.str.injEq, V.ref.injEq, V.ty.injEq, List.cons.injEq, and_true, true_and, exists_eq_left, exists_eq_left', exists_and_left, exists_eq', exists_const, exists_and_right, exists_eq_right, exists_eq_right', reduceCtorEq, false_and, and_false, exists_false, or_false, false_or, decide_eq_true_eq, Bool.not_eq_true', decide_eq_false_iff_not, Bool.false_eq_true, if_false, if_true, mk_app, mk_len, sg_mk, mk_one, decide_true, decide_false, Bool.not_true, Bool.not_false, ite_true, ite_false, not_true_eq_false, not_false_eq_true, cxK, cutTo1, cutFrom1, mk_iff, tyV_str, stComp, List.map_cons, List.map_nil, Option.join_some, Option.join_none, gt_iff_lt, ge_iff_le, tRaise, tTryR, tCallH, tDisp, tPairs, tFld, sFld, tMake, tMeth, tBM0, tOrE, tRev, tLRng, l_e, l_b]
      refine ⟨a, ns, 33, rfl, S.seq hq, by decide, fun c => ⟨_, rfl, by decide, ?_⟩⟩
      by_cases h2 : c % 2 = 1
      · refine iteT' h2 ⟨_, SqL.of e9, fun p np => ?_⟩
        exact key2 _ _ _ (Same.upd (Same.refl _) np) upd_same (fun x hx => hp x (List.mem_reverse.mp hx))
      · exact iteF' h2 (key2 xs l9 H10 (Same.refl _) e9 hp)
    clear hB
    simp only [tSeq, tIfS, tRet, tRetN, tC, tVar, tOp, tUn, tTest, tB, tAnd, tOr, tNot, tAndV, tOrV, tNotV, tIf, tChain, tCons, tNil, tCall, tCB, tLst, tTup, tSl, tNoPart, tPart, gName, tNext, tDrop, tAsg, tAsgC, tBM, tYes, tDNewK, rI, rI0, rU, rEq, rNe, rAbs, rIntT, CDiv, add_ii, add_ss, mul_ii, mul_si, ix_si, eq_ii, eq_ss, eq_bb, ne_ii, ne_ss, ne_ni, ne_in, in_s1, notin_s1, is_xn, is_bb, isnot_xn, isnot_bb, sl_s, len_s, find_ss, index_ss, List.append_nil, List.cons_append, List.nil_append, List.getElem?_cons_succ, List.getElem?_cons_zero, List.set_cons_succ, List.set_cons_zero, Option.some.injEq, V.int.injEq, V.bl.injEq, V.str.injEq, V.ref.injEq, V.ty.injEq, List.cons.injEq, and_true, true_and, exists_eq_left, exists_eq_left', exists_and_left, exists_eq', exists_const, exists_and_right, exists_eq_right, exists_eq_right', reduceCtorEq, false_and, and_false, exists_false, or_false, false_or, decide_eq_true_eq, Bool.not_eq_true', decide_eq_false_iff_not, Bool.false_eq_true, if_false, if_true, mk_app, mk_len, sg_mk, mk_one, decide_true, decide_false, Bool.not_true, Bool.not_false, ite_true, ite_false, not_true_eq_false, not_false_eq_true, cxK, cutTo1, cutFrom1, mk_iff, tyV_str, stComp, List.map_cons, List.map_nil, Option.join_some, Option.join_none, gt_iff_lt, ge_iff_le, tRaise, tTryR, tCallH, tDisp, tPairs, tFld, sFld, tMake, tMeth, tBM0, tOrE, tRev, tLRng, l_e, l_b]
    refine ⟨by decide, ?_⟩
    by_cases h3 : 0 < r % 3
    · refine iteT' h3 ⟨sl1000 (by simp), fun p np => ?_⟩
      have S6 := Same.upd (Same.refl H5) np (o := .lst [])
      have e0 : upd H5 p (.lst []) p = some (.lst []) := upd_same
      generalize upd H5 p (.lst []) = H6 at S6 e0 ⊢
      have S := S.trans S6
      have er := S6 _ _ er
      clear S6 np
      refine neLL (SqL.of er) (SqL.of e0) (flat_ints _) rfl ⟨_, rfl, ?_⟩
      cases rw with
      | nil => exact iteF' (by decide) (key [] rl none none H6 S er hf2 (by simp))
      | cons w ws =>
        refine iteT' (by rfl) ⟨⟨by decide, by decide⟩, lenL (SqL.of er) ⟨_, rfl, by rw [List.length_map, List.length_cons]; omega, ⟨by decide, by decide⟩, by decide, sl1000 (by simp), fun p2 n2 => ?_⟩⟩
        generalize r / 3 % (((List.map V.int (w :: ws)).length : Nat) : Int) = at'
        have S7 := Same.upd (Same.refl H6) n2 (o := .lst ((oddL (r / 900 % 256)).map V.int))
        have e2 : upd H6 p2 (.lst ((oddL (r / 900 % 256)).map V.int)) p2 = some (.lst ((oddL (r / 900 % 256)).map V.int)) := upd_same
        show rSlA K (V.ref rl) none (some at') (upd H6 p2 (.lst ((oddL (r / 900 % 256)).map V.int))) _
        generalize upd H6 p2 (.lst ((oddL (r / 900 % 256)).map V.int)) = H7 at S7 e2 ⊢
        have bo : Byt (oddL (r / 900 % 256)) := byt_odd (Int.emod_nonneg _ (by decide)) (Int.emod_lt_of_pos _ (by decide))
        have lo : (oddL (r / 900 % 256)).length = 19 := rfl
        generalize oddL (r / 900 % 256) = od at bo lo e2
        have S := S.trans S7
        have er := S7 _ _ er
        clear S7 n2 e0
        refine slL (SqL.of er) fun p3 n3 => ⟨⟨by decide, by decide⟩, by decide, ?_⟩
        rw [cutL_map]
        have bA := byt_cut hf2 none (some at')
        have lA := cutL_le (w :: ws) none (some at')
        generalize cutL (w :: ws) none (some at') = A at bA lA ⊢
        have S7 := Same.upd (Same.refl H7) n3 (o := .lst (A.map V.int))
        have e3 : upd H7 p3 (.lst (A.map V.int)) p3 = some (.lst (A.map V.int)) := upd_same
        generalize upd H7 p3 (.lst (A.map V.int)) = H8 at S7 e3 ⊢
        have S := S.trans S7
        have er := S7 _ _ er
        have e2 := S7 _ _ e2
        clear S7 n3
        have hj0 : 0 ≤ r / 40 % 19 := Int.emod_nonneg _ (by decide)
        have hj1 : r / 40 % 19 < 19 := Int.emod_lt_of_pos _ (by decide)
        refine ixL (SqL.of e2) (getI hj0 (by omega)) ⟨sl1000 (by simp), fun p4 n4 => ?_⟩
        have by1 := bytD bo (show (r / 40 % 19).toNat < od.length by omega)
        generalize od.getD (r / 40 % 19).toNat 0 = y at by1 n4 ⊢
        have S7 := Same.upd (Same.refl H8) n4 (o := .lst [V.int y])
        have e4 : upd H8 p4 (.lst [V.int y]) p4 = some (.lst [V.int y]) := upd_same
        generalize upd H8 p4 (.lst [V.int y]) = H9 at S7 e4 ⊢
        have S := S.trans S7
        have er := S7 _ _ er
        have e3 := S7 _ _ e3
        clear S7 n4 e2
        refine catL e3 e4 (catOk (by rw [List.length_map]; omega) (by simp)) fun p5 n5 => ?_
        have S7 := Same.upd (Same.refl H9) n5 (o := .lst (A.map V.int ++ [V.int y]))
        have e5 : upd H9 p5 (.lst (A.map V.int ++ [V.int y])) p5 = some (.lst ((A ++ [y]).map V.int)) := by rw [upd_same, List.map_append]; rfl
        generalize upd H9 p5 (.lst (A.map V.int ++ [V.int y])) = H10 at S7 e5 ⊢
        have S := S.trans S7
        have er := S7 _ _ er
        clear S7 n5 e3 e4
        refine slL (SqL.of er) fun p6 n6 => ?_
        rw [cutL_map]
        have bC := byt_cut hf2 (some (at' + 1)) none
        have lC := cutL_le (w :: ws) (some (at' + 1)) none
        generalize cutL (w :: ws) (some (at' + 1)) none = C at bC lC ⊢
        have S7 := Same.upd (Same.refl H10) n6 (o := .lst (C.map V.int))
        have e6 : upd H10 p6 (.lst (C.map V.int)) p6 = some (.lst (C.map V.int)) := upd_same
        generalize upd H10 p6 (.lst (C.map V.int)) = H11 at S7 e6 ⊢
        have S := S.trans S7
        have e5 := S7 _ _ e5
        clear S7 n6
        refine catL e5 e6 (catOk (by rw [List.length_map, List.length_append]; show A.length + 1 ≤ _; omega) (by rw [List.length_map]; omega)) fun p7 n7 => ⟨by decide, ?_⟩
        rw [← List.map_append]
        have bR : Byt (A ++ [y] ++ C) := byt_app (byt_app bA fun n hn => by rw [List.mem_singleton.mp hn]; exact by1) bC
        have hlen : (A ++ [y] ++ C).length ≤ 130 := by rw [List.length_append, List.length_append]; show A.length + 1 + C.length ≤ 130; omega
        generalize A ++ [y] ++ C = R at bR hlen ⊢
        have S7 := Same.upd (Same.refl H11) n7 (o := .lst (R.map V.int))
        have e7 : upd H11 p7 (.lst (R.map V.int)) p7 = some (.lst (R.map V.int)) := upd_same
        generalize upd H11 p7 (.lst (R.map V.int)) = H12 at S7 e7 ⊢
        have S := S.trans S7
        by_cases h2 : r % 3 = 2
        · refine iteT' h2 ⟨⟨by decide, by decide⟩, lenL (SqL.of e7) (add_ii.mpr ⟨_, rfl, by omega, slL (SqL.of e7) fun p8 n8 => ?_⟩)⟩
          rw [cutL_map]
          refine key _ p8 _ _ _ (S.trans (Same.upd (Same.refl H12) n8)) upd_same (byt_cut bR _ _) (Nat.le_trans (cutL_le _ _ _) hlen)
        · exact iteF' h2 (key _ p7 _ _ _ S e7 bR hlen)
    · exact iteF' h3 (key _ rl none none H5 S er hf2 (by omega))
end
theorem len_s {us : List Value} {n : Nat} (h : us.length = n + 1) : ∃ a r, us = a :: r ∧ r.length = n := by
  cases us with
  | nil => cases h
  | cons a r => exact ⟨a, r, rfl, Nat.succ.inj h⟩
theorem len_z {us : List Value} (h : us.length = 0) : us = [] := by
  cases us with
  | nil => rfl
  | cons a r => cases h
theorem len_is0 {us : List Value} (h : us.length = 0) : us = [] := List.eq_nil_of_length_eq_zero h
theorem len_is1 {us : List Value} (h : us.length = 1) : ∃ a0, us = [a0] := by
  obtain ⟨a0, u0, rfl, h0⟩ := len_s h
  obtain rfl := len_z h0
  exact ⟨a0, rfl⟩
theorem len_is2 {us : List Value} (h : us.length = 2) : ∃ a0 a1, us = [a0, a1] := by
  obtain ⟨a0, u0, rfl, h0⟩ := len_s h
  obtain ⟨a1, u1, rfl, h1⟩ := len_s h0
  obtain rfl := len_z h1
  exact ⟨a0, a1, rfl⟩
theorem len_is3 {us : List Value} (h : us.length = 3) : ∃ a0 a1 a2, us = [a0, a1, a2] := by
  obtain ⟨a0, u0, rfl, h0⟩ := len_s h
  obtain ⟨a1, u1, rfl, h1⟩ := len_s h0
  obtain ⟨a2, u2, rfl, h2⟩ := len_s h1
  obtain rfl := len_z h2
  exact ⟨a0, a1, a2, rfl⟩
theorem all_mk {l : PySem.W.OpenLaw} {w : World} {K : PySem.W.Frag} {h : Heap} {mg : Str → Option Value} {fa : Addr} (X : K.In h) (G : h.Ns mainGlobals mg) (hfa : mg "law" = some (.ref fa))
    {f0 : Addr} {od0 an0 : Option Addr} {sl0 : Array (Option Value)} {oc0 kV0 dc0 pm0 cd0 ct0 : Value}
    {f1 : Addr} {od1 an1 : Option Addr} {sl1 : Array (Option Value)} {oc1 kV1 dc1 pm1 cd1 ct1 : Value}
    {t1 : Addr} {to1 : Value} {td1 : Option Addr} {tn1 : Nat} {ts1 : Array (Option Value)} {k1_0 : Tok}
    {f2 : Addr} {od2 an2 : Option Addr} {sl2 : Array (Option Value)} {oc2 kV2 dc2 pm2 cd2 ct2 : Value}
    {f3 : Addr} {od3 an3 : Option Addr} {sl3 : Array (Option Value)} {oc3 kV3 dc3 pm3 cd3 ct3 : Value}
    {f4 : Addr} {od4 an4 : Option Addr} {sl4 : Array (Option Value)} {oc4 kV4 dc4 pm4 cd4 ct4 : Value}
    {f5 : Addr} {od5 an5 : Option Addr} {sl5 : Array (Option Value)} {oc5 kV5 dc5 pm5 cd5 ct5 : Value}
    {f6 : Addr} {od6 an6 : Option Addr} {sl6 : Array (Option Value)} {oc6 kV6 dc6 pm6 cd6 ct6 : Value}
    {f7 : Addr} {od7 an7 : Option Addr} {sl7 : Array (Option Value)} {oc7 kV7 dc7 pm7 cd7 ct7 : Value}
    {f8 : Addr} {od8 an8 : Option Addr} {sl8 : Array (Option Value)} {oc8 kV8 dc8 pm8 cd8 ct8 : Value}
    {f9 : Addr} {od9 an9 : Option Addr} {sl9 : Array (Option Value)} {oc9 kV9 dc9 pm9 cd9 ct9 : Value}
    {f10 : Addr} {od10 an10 : Option Addr} {sl10 : Array (Option Value)} {oc10 kV10 dc10 pm10 cd10 ct10 : Value}
    {f11 : Addr} {od11 an11 : Option Addr} {sl11 : Array (Option Value)} {oc11 kV11 dc11 pm11 cd11 ct11 : Value}
    {f12 : Addr} {od12 an12 : Option Addr} {sl12 : Array (Option Value)} {oc12 kV12 dc12 pm12 cd12 ct12 : Value}
    {f13 : Addr} {od13 an13 : Option Addr} {sl13 : Array (Option Value)} {oc13 kV13 dc13 pm13 cd13 ct13 : Value}
    {f14 : Addr} {od14 an14 : Option Addr} {sl14 : Array (Option Value)} {oc14 kV14 dc14 pm14 cd14 ct14 : Value}
    {f15 : Addr} {od15 an15 : Option Addr} {sl15 : Array (Option Value)} {oc15 kV15 dc15 pm15 cd15 ct15 : Value}
    {f16 : Addr} {od16 an16 : Option Addr} {sl16 : Array (Option Value)} {oc16 kV16 dc16 pm16 cd16 ct16 : Value}
    {f17 : Addr} {od17 an17 : Option Addr} {sl17 : Array (Option Value)} {oc17 kV17 dc17 pm17 cd17 ct17 : Value}
    {f18 : Addr} {od18 an18 : Option Addr} {sl18 : Array (Option Value)} {oc18 kV18 dc18 pm18 cd18 ct18 : Value}
    {f19 : Addr} {od19 an19 : Option Addr} {sl19 : Array (Option Value)} {oc19 kV19 dc19 pm19 cd19 ct19 : Value}
    {f20 : Addr} {od20 an20 : Option Addr} {sl20 : Array (Option Value)} {oc20 kV20 dc20 pm20 cd20 ct20 : Value}
    {f21 : Addr} {od21 an21 : Option Addr} {sl21 : Array (Option Value)} {oc21 kV21 dc21 pm21 cd21 ct21 : Value}
    {f22 : Addr} {od22 an22 : Option Addr} {sl22 : Array (Option Value)} {oc22 kV22 dc22 pm22 cd22 ct22 : Value}
    {f23 : Addr} {od23 an23 : Option Addr} {sl23 : Array (Option Value)} {oc23 kV23 dc23 pm23 cd23 ct23 : Value}
    {f24 : Addr} {od24 an24 : Option Addr} {sl24 : Array (Option Value)} {oc24 kV24 dc24 pm24 cd24 ct24 : Value}
    {f25 : Addr} {od25 an25 : Option Addr} {sl25 : Array (Option Value)} {oc25 kV25 dc25 pm25 cd25 ct25 : Value}
    {f26 : Addr} {od26 an26 : Option Addr} {sl26 : Array (Option Value)} {oc26 kV26 dc26 pm26 cd26 ct26 : Value}
    {f27 : Addr} {od27 an27 : Option Addr} {sl27 : Array (Option Value)} {oc27 kV27 dc27 pm27 cd27 ct27 : Value}
    {f28 : Addr} {od28 an28 : Option Addr} {sl28 : Array (Option Value)} {oc28 kV28 dc28 pm28 cd28 ct28 : Value}
    {f29 : Addr} {od29 an29 : Option Addr} {sl29 : Array (Option Value)} {oc29 kV29 dc29 pm29 cd29 ct29 : Value}
    {f30 : Addr} {od30 an30 : Option Addr} {sl30 : Array (Option Value)} {oc30 kV30 dc30 pm30 cd30 ct30 : Value}
    {f31 : Addr} {od31 an31 : Option Addr} {sl31 : Array (Option Value)} {oc31 kV31 dc31 pm31 cd31 ct31 : Value}
    {f32 : Addr} {od32 an32 : Option Addr} {sl32 : Array (Option Value)} {oc32 kV32 dc32 pm32 cd32 ct32 : Value}
    {x_OPS : Addr}
    {x_Op : Addr}
    {x_Alone : Addr}
    {x_Small : Addr}
    {x_Push : Addr}
    (a0 : PySem.W.nsIn K mainGlobals "two_of" = some (some (.ref f0)))
    (l0 : K.lookup f0 = some ⟨oc0, od0, .func (PySem.W.fnOf "two_of" "two_of" (defArgs s_two_of) (defBody s_two_of) (defScope s_two_of) .none kV0 dc0 pm0 an0 cd0 ct0), sl0⟩)
    (c0 : PySem.W.codeIn K cd0 "two_of" = true) (k0 : PySem.W.keepIn K (.ref f0) = true)
    (a1 : PySem.W.nsIn K mainGlobals "word_in" = some (some (.ref f1)))
    (l1 : K.lookup f1 = some ⟨oc1, od1, .func (PySem.W.fnOf "word_in" "word_in" (defArgs s_word_in) (defBody s_word_in) (defScope s_word_in) (.ref t1) kV1 dc1 pm1 an1 cd1 ct1), sl1⟩)
    (c1 : PySem.W.codeIn K cd1 "word_in" = true) (k1 : PySem.W.keepIn K (.ref f1) = true)
    (t1_is : K.lookup t1 = some ⟨to1, td1, .seq #[.int 0 k1_0] tn1, ts1⟩)
    (a2 : PySem.W.nsIn K mainGlobals "byte_of" = some (some (.ref f2)))
    (l2 : K.lookup f2 = some ⟨oc2, od2, .func (PySem.W.fnOf "byte_of" "byte_of" (defArgs s_byte_of) (defBody s_byte_of) (defScope s_byte_of) .none kV2 dc2 pm2 an2 cd2 ct2), sl2⟩)
    (c2 : PySem.W.codeIn K cd2 "byte_of" = true) (k2 : PySem.W.keepIn K (.ref f2) = true)
    (a3 : PySem.W.findIn K (.ref x_Alone) "word" = some (some (.ref f3))) (i3 : PySem.W.isFn K (.ref f3) = true)
    (l3 : K.lookup f3 = some ⟨oc3, od3, .func (PySem.W.fnOf "word" "Alone.word" (defArgs s_Alone_word) (defBody s_Alone_word) (defScope s_Alone_word) .none kV3 dc3 pm3 an3 cd3 ct3), sl3⟩)
    (c3 : PySem.W.codeIn K cd3 "Alone.word" = true) (k3 : PySem.W.keepIn K (.ref f3) = true)
    (a4 : PySem.W.findIn K (.ref x_Op) "told" = some (some (.ref f4))) (i4 : PySem.W.isFn K (.ref f4) = true)
    (l4 : K.lookup f4 = some ⟨oc4, od4, .func (PySem.W.fnOf "told" "Op.told" (defArgs s_Op_told) (defBody s_Op_told) (defScope s_Op_told) .none kV4 dc4 pm4 an4 cd4 ct4), sl4⟩)
    (c4 : PySem.W.codeIn K cd4 "Op.told" = true) (k4 : PySem.W.keepIn K (.ref f4) = true)
    (a5 : PySem.W.findIn K (.ref x_Small) "told" = some (some (.ref f5))) (i5 : PySem.W.isFn K (.ref f5) = true)
    (l5 : K.lookup f5 = some ⟨oc5, od5, .func (PySem.W.fnOf "told" "Small.told" (defArgs s_Small_told) (defBody s_Small_told) (defScope s_Small_told) .none kV5 dc5 pm5 an5 cd5 ct5), sl5⟩)
    (c5 : PySem.W.codeIn K cd5 "Small.told" = true) (k5 : PySem.W.keepIn K (.ref f5) = true)
    (a6 : PySem.W.findIn K (.ref x_Push) "told" = some (some (.ref f6))) (i6 : PySem.W.isFn K (.ref f6) = true)
    (l6 : K.lookup f6 = some ⟨oc6, od6, .func (PySem.W.fnOf "told" "Push.told" (defArgs s_Push_told) (defBody s_Push_told) (defScope s_Push_told) .none kV6 dc6 pm6 an6 cd6 ct6), sl6⟩)
    (c6 : PySem.W.codeIn K cd6 "Push.told" = true) (k6 : PySem.W.keepIn K (.ref f6) = true)
    (a7 : PySem.W.findIn K (.ref x_Op) "size" = some (some (.ref f7))) (i7 : PySem.W.isFn K (.ref f7) = true)
    (l7 : K.lookup f7 = some ⟨oc7, od7, .func (PySem.W.fnOf "size" "Op.size" (defArgs s_Op_size) (defBody s_Op_size) (defScope s_Op_size) .none kV7 dc7 pm7 an7 cd7 ct7), sl7⟩)
    (c7 : PySem.W.codeIn K cd7 "Op.size" = true) (k7 : PySem.W.keepIn K (.ref f7) = true)
    (a8 : PySem.W.findIn K (.ref x_Op) "row" = some (some (.ref f8))) (i8 : PySem.W.isFn K (.ref f8) = true)
    (l8 : K.lookup f8 = some ⟨oc8, od8, .func (PySem.W.fnOf "row" "Op.row" (defArgs s_Op_row) (defBody s_Op_row) (defScope s_Op_row) .none kV8 dc8 pm8 an8 cd8 ct8), sl8⟩)
    (c8 : PySem.W.codeIn K cd8 "Op.row" = true) (k8 : PySem.W.keepIn K (.ref f8) = true)
    (a9 : PySem.W.findIn K (.ref x_Op) "goal" = some (some (.ref f9))) (i9 : PySem.W.isFn K (.ref f9) = true)
    (l9 : K.lookup f9 = some ⟨oc9, od9, .func (PySem.W.fnOf "goal" "Op.goal" (defArgs s_Op_goal) (defBody s_Op_goal) (defScope s_Op_goal) .none kV9 dc9 pm9 an9 cd9 ct9), sl9⟩)
    (c9 : PySem.W.codeIn K cd9 "Op.goal" = true) (k9 : PySem.W.keepIn K (.ref f9) = true)
    (a10 : PySem.W.findIn K (.ref x_Alone) "__init__" = some (some (.ref f10))) (i10 : PySem.W.isFn K (.ref f10) = true)
    (l10 : K.lookup f10 = some ⟨oc10, od10, .func (PySem.W.fnOf "__init__" "Alone.__init__" (defArgs s_Alone___init__) (defBody s_Alone___init__) (defScope s_Alone___init__) .none kV10 dc10 pm10 an10 cd10 ct10), sl10⟩)
    (c10 : PySem.W.codeIn K cd10 "Alone.__init__" = true) (k10 : PySem.W.keepIn K (.ref f10) = true)
    (a11 : PySem.W.findIn K (.ref x_Small) "__init__" = some (some (.ref f11))) (i11 : PySem.W.isFn K (.ref f11) = true)
    (l11 : K.lookup f11 = some ⟨oc11, od11, .func (PySem.W.fnOf "__init__" "Small.__init__" (defArgs s_Small___init__) (defBody s_Small___init__) (defScope s_Small___init__) .none kV11 dc11 pm11 an11 cd11 ct11), sl11⟩)
    (c11 : PySem.W.codeIn K cd11 "Small.__init__" = true) (k11 : PySem.W.keepIn K (.ref f11) = true)
    (a12 : PySem.W.findIn K (.ref x_Small) "word" = some (some (.ref f12))) (i12 : PySem.W.isFn K (.ref f12) = true)
    (l12 : K.lookup f12 = some ⟨oc12, od12, .func (PySem.W.fnOf "word" "Small.word" (defArgs s_Small_word) (defBody s_Small_word) (defScope s_Small_word) .none kV12 dc12 pm12 an12 cd12 ct12), sl12⟩)
    (c12 : PySem.W.codeIn K cd12 "Small.word" = true) (k12 : PySem.W.keepIn K (.ref f12) = true)
    (a13 : PySem.W.findIn K (.ref x_Small) "row" = some (some (.ref f13))) (i13 : PySem.W.isFn K (.ref f13) = true)
    (l13 : K.lookup f13 = some ⟨oc13, od13, .func (PySem.W.fnOf "row" "Small.row" (defArgs s_Small_row) (defBody s_Small_row) (defScope s_Small_row) .none kV13 dc13 pm13 an13 cd13 ct13), sl13⟩)
    (c13 : PySem.W.codeIn K cd13 "Small.row" = true) (k13 : PySem.W.keepIn K (.ref f13) = true)
    (a14 : PySem.W.findIn K (.ref x_Push) "__init__" = some (some (.ref f14))) (i14 : PySem.W.isFn K (.ref f14) = true)
    (l14 : K.lookup f14 = some ⟨oc14, od14, .func (PySem.W.fnOf "__init__" "Push.__init__" (defArgs s_Push___init__) (defBody s_Push___init__) (defScope s_Push___init__) .none kV14 dc14 pm14 an14 cd14 ct14), sl14⟩)
    (c14 : PySem.W.codeIn K cd14 "Push.__init__" = true) (k14 : PySem.W.keepIn K (.ref f14) = true)
    (a15 : PySem.W.findIn K (.ref x_Push) "word" = some (some (.ref f15))) (i15 : PySem.W.isFn K (.ref f15) = true)
    (l15 : K.lookup f15 = some ⟨oc15, od15, .func (PySem.W.fnOf "word" "Push.word" (defArgs s_Push_word) (defBody s_Push_word) (defScope s_Push_word) .none kV15 dc15 pm15 an15 cd15 ct15), sl15⟩)
    (c15 : PySem.W.codeIn K cd15 "Push.word" = true) (k15 : PySem.W.keepIn K (.ref f15) = true)
    (a16 : PySem.W.findIn K (.ref x_Push) "row" = some (some (.ref f16))) (i16 : PySem.W.isFn K (.ref f16) = true)
    (l16 : K.lookup f16 = some ⟨oc16, od16, .func (PySem.W.fnOf "row" "Push.row" (defArgs s_Push_row) (defBody s_Push_row) (defScope s_Push_row) .none kV16 dc16 pm16 an16 cd16 ct16), sl16⟩)
    (c16 : PySem.W.codeIn K cd16 "Push.row" = true) (k16 : PySem.W.keepIn K (.ref f16) = true)
    (a17 : PySem.W.nsIn K mainGlobals "size_at" = some (some (.ref f17)))
    (l17 : K.lookup f17 = some ⟨oc17, od17, .func (PySem.W.fnOf "size_at" "size_at" (defArgs s_size_at) (defBody s_size_at) (defScope s_size_at) .none kV17 dc17 pm17 an17 cd17 ct17), sl17⟩)
    (c17 : PySem.W.codeIn K cd17 "size_at" = true) (k17 : PySem.W.keepIn K (.ref f17) = true)
    (a18 : PySem.W.nsIn K mainGlobals "word_at" = some (some (.ref f18)))
    (l18 : K.lookup f18 = some ⟨oc18, od18, .func (PySem.W.fnOf "word_at" "word_at" (defArgs s_word_at) (defBody s_word_at) (defScope s_word_at) .none kV18 dc18 pm18 an18 cd18 ct18), sl18⟩)
    (c18 : PySem.W.codeIn K cd18 "word_at" = true) (k18 : PySem.W.keepIn K (.ref f18) = true)
    (a19 : PySem.W.nsIn K mainGlobals "way_at" = some (some (.ref f19)))
    (l19 : K.lookup f19 = some ⟨oc19, od19, .func (PySem.W.fnOf "way_at" "way_at" (defArgs s_way_at) (defBody s_way_at) (defScope s_way_at) .none kV19 dc19 pm19 an19 cd19 ct19), sl19⟩)
    (c19 : PySem.W.codeIn K cd19 "way_at" = true) (k19 : PySem.W.keepIn K (.ref f19) = true)
    (a20 : PySem.W.nsIn K mainGlobals "alone_at" = some (some (.ref f20)))
    (l20 : K.lookup f20 = some ⟨oc20, od20, .func (PySem.W.fnOf "alone_at" "alone_at" (defArgs s_alone_at) (defBody s_alone_at) (defScope s_alone_at) .none kV20 dc20 pm20 an20 cd20 ct20), sl20⟩)
    (c20 : PySem.W.codeIn K cd20 "alone_at" = true) (k20 : PySem.W.keepIn K (.ref f20) = true)
    (a21 : PySem.W.nsIn K mainGlobals "_law_cell_at" = some (some (.ref f21)))
    (l21 : K.lookup f21 = some ⟨oc21, od21, .func (PySem.W.fnOf "_law_cell_at" "_law_cell_at" (defArgs s__law_cell_at) (defBody s__law_cell_at) (defScope s__law_cell_at) .none kV21 dc21 pm21 an21 cd21 ct21), sl21⟩)
    (c21 : PySem.W.codeIn K cd21 "_law_cell_at" = true) (k21 : PySem.W.keepIn K (.ref f21) = true)
    (a22 : PySem.W.nsIn K mainGlobals "_law_mixed" = some (some (.ref f22)))
    (l22 : K.lookup f22 = some ⟨oc22, od22, .func (PySem.W.fnOf "_law_mixed" "_law_mixed" (defArgs s__law_mixed) (defBody s__law_mixed) (defScope s__law_mixed) .none kV22 dc22 pm22 an22 cd22 ct22), sl22⟩)
    (c22 : PySem.W.codeIn K cd22 "_law_mixed" = true) (k22 : PySem.W.keepIn K (.ref f22) = true)
    (a23 : PySem.W.nsIn K mainGlobals "_law_number" = some (some (.ref f23)))
    (l23 : K.lookup f23 = some ⟨oc23, od23, .func (PySem.W.fnOf "_law_number" "_law_number" (defArgs s__law_number) (defBody s__law_number) (defScope s__law_number) .none kV23 dc23 pm23 an23 cd23 ct23), sl23⟩)
    (c23 : PySem.W.codeIn K cd23 "_law_number" = true) (k23 : PySem.W.keepIn K (.ref f23) = true)
    (a24 : PySem.W.nsIn K mainGlobals "_law_alones" = some (some (.ref f24)))
    (l24 : K.lookup f24 = some ⟨oc24, od24, .func (PySem.W.fnOf "_law_alones" "_law_alones" (defArgs s__law_alones) (defBody s__law_alones) (defScope s__law_alones) .none kV24 dc24 pm24 an24 cd24 ct24), sl24⟩)
    (c24 : PySem.W.codeIn K cd24 "_law_alones" = true) (k24 : PySem.W.keepIn K (.ref f24) = true)
    (a25 : PySem.W.nsIn K mainGlobals "_law_op" = some (some (.ref f25)))
    (l25 : K.lookup f25 = some ⟨oc25, od25, .func (PySem.W.fnOf "_law_op" "_law_op" (defArgs s__law_op) (defBody s__law_op) (defScope s__law_op) .none kV25 dc25 pm25 an25 cd25 ct25), sl25⟩)
    (c25 : PySem.W.codeIn K cd25 "_law_op" = true) (k25 : PySem.W.keepIn K (.ref f25) = true)
    (a26 : PySem.W.nsIn K mainGlobals "_law_bytes" = some (some (.ref f26)))
    (l26 : K.lookup f26 = some ⟨oc26, od26, .func (PySem.W.fnOf "_law_bytes" "_law_bytes" (defArgs s__law_bytes) (defBody s__law_bytes) (defScope s__law_bytes) .none kV26 dc26 pm26 an26 cd26 ct26), sl26⟩)
    (c26 : PySem.W.codeIn K cd26 "_law_bytes" = true) (k26 : PySem.W.keepIn K (.ref f26) = true)
    (a27 : PySem.W.nsIn K mainGlobals "_law_whole" = some (some (.ref f27)))
    (l27 : K.lookup f27 = some ⟨oc27, od27, .func (PySem.W.fnOf "_law_whole" "_law_whole" (defArgs s__law_whole) (defBody s__law_whole) (defScope s__law_whole) .none kV27 dc27 pm27 an27 cd27 ct27), sl27⟩)
    (c27 : PySem.W.codeIn K cd27 "_law_whole" = true) (k27 : PySem.W.keepIn K (.ref f27) = true)
    (a28 : PySem.W.nsIn K mainGlobals "_law_list_of" = some (some (.ref f28)))
    (l28 : K.lookup f28 = some ⟨oc28, od28, .func (PySem.W.fnOf "_law_list_of" "_law_list_of" (defArgs s__law_list_of) (defBody s__law_list_of) (defScope s__law_list_of) .none kV28 dc28 pm28 an28 cd28 ct28), sl28⟩)
    (c28 : PySem.W.codeIn K cd28 "_law_list_of" = true) (k28 : PySem.W.keepIn K (.ref f28) = true)
    (a29 : PySem.W.nsIn K mainGlobals "_law_size" = some (some (.ref f29)))
    (l29 : K.lookup f29 = some ⟨oc29, od29, .func (PySem.W.fnOf "_law_size" "_law_size" (defArgs s__law_size) (defBody s__law_size) (defScope s__law_size) .none kV29 dc29 pm29 an29 cd29 ct29), sl29⟩)
    (c29 : PySem.W.codeIn K cd29 "_law_size" = true) (k29 : PySem.W.keepIn K (.ref f29) = true)
    (a30 : PySem.W.nsIn K mainGlobals "_law_right" = some (some (.ref f30)))
    (l30 : K.lookup f30 = some ⟨oc30, od30, .func (PySem.W.fnOf "_law_right" "_law_right" (defArgs s__law_right) (defBody s__law_right) (defScope s__law_right) .none kV30 dc30 pm30 an30 cd30 ct30), sl30⟩)
    (c30 : PySem.W.codeIn K cd30 "_law_right" = true) (k30 : PySem.W.keepIn K (.ref f30) = true)
    (a31 : PySem.W.nsIn K mainGlobals "_law_parts" = some (some (.ref f31)))
    (l31 : K.lookup f31 = some ⟨oc31, od31, .func (PySem.W.fnOf "_law_parts" "_law_parts" (defArgs s__law_parts) (defBody s__law_parts) (defScope s__law_parts) .none kV31 dc31 pm31 an31 cd31 ct31), sl31⟩)
    (c31 : PySem.W.codeIn K cd31 "_law_parts" = true) (k31 : PySem.W.keepIn K (.ref f31) = true)
    (a32 : PySem.W.nsIn K mainGlobals "law" = some (some (.ref f32)))
    (l32 : K.lookup f32 = some ⟨oc32, od32, .func (PySem.W.fnOf "law" "law" (defArgs s_law) (defBody s_law) (defScope s_law) .none kV32 dc32 pm32 an32 cd32 ct32), sl32⟩)
    (c32 : PySem.W.codeIn K cd32 "law" = true) (k32 : PySem.W.keepIn K (.ref f32) = true)
    (g_OPS : PySem.W.nsIn K mainGlobals "OPS" = some (some (.ref x_OPS))) (tb_OPS : tabLook K x_OPS opsT = true)
    (at_Alone_size : PySem.W.findIn K (.ref x_Alone) "size" = some (some (.ref f7)))
    (at_Alone_row : PySem.W.findIn K (.ref x_Alone) "row" = some (some (.ref f8)))
    (at_Alone_told : PySem.W.findIn K (.ref x_Alone) "told" = some (some (.ref f4)))
    (at_Alone_goal : PySem.W.findIn K (.ref x_Alone) "goal" = some (some (.ref f9)))
    (at_Small_size : PySem.W.findIn K (.ref x_Small) "size" = some (some (.ref f7)))
    (at_Small_goal : PySem.W.findIn K (.ref x_Small) "goal" = some (some (.ref f9)))
    (at_Push_size : PySem.W.findIn K (.ref x_Push) "size" = some (some (.ref f7)))
    (at_Push_goal : PySem.W.findIn K (.ref x_Push) "goal" = some (some (.ref f9)))
    (n_all : PySem.W.nsIn K mainGlobals "all" = some none)
    (n_bool : PySem.W.nsIn K mainGlobals "bool" = some none)
    (n_int : PySem.W.nsIn K mainGlobals "int" = some none)
    (n_isinstance : PySem.W.nsIn K mainGlobals "isinstance" = some none)
    (n_len : PySem.W.nsIn K mainGlobals "len" = some none)
    (n_list : PySem.W.nsIn K mainGlobals "list" = some none)
    (n_range : PySem.W.nsIn K mainGlobals "range" = some none)
    (n_str : PySem.W.nsIn K mainGlobals "str" = some none)
    (n_sum : PySem.W.nsIn K mainGlobals "sum" = some none)
    (m_Op : PySem.W.nsIn K mainGlobals "Op" = some (some (.ref x_Op)))
    (m_Alone : PySem.W.nsIn K mainGlobals "Alone" = some (some (.ref x_Alone)))
    (m_Small : PySem.W.nsIn K mainGlobals "Small" = some (some (.ref x_Small)))
    (m_Push : PySem.W.nsIn K mainGlobals "Push" = some (some (.ref x_Push)))
    (ocg_Alone : PySem.W.plainGet K x_Alone Str.empty = true)
    (och_Alone : PySem.W.hasDictIn K x_Alone = true)
    (oco_Alone : PySem.W.plainOver K x_Alone = true)
    (ocs_Alone : PySem.W.findIn K (.ref x_Alone) "__setattr__" = some (some (.builtin "object.__setattr__")))
    (mk_Alone : PySem.W.makesIn K x_Alone = true)
    (kp_Alone : PySem.W.keepIn K (.ref x_Alone) = true)
    (oha_Alone : PySem.W.findIn K (.ref x_Alone) "__class__" = some (some (.builtin "object.__class__")))
    (ohn_Alone : PySem.W.specialIn K (.builtin "object.__class__") "__get__" = some (some (.builtin "getset_descriptor.__get__")))
    (oht_Alone : PySem.W.takesIn K (.builtin "object.__class__") = some true)
    (ohm_Alone : PySem.W.mroIn K x_Alone (.type "object") = some true)
    (kt_Alone_Op : PySem.W.kitOne K (.ref x_Alone) (.ref x_Op) = some true)
    (nf_Alone_spelled : PySem.W.findIn K (.ref x_Alone) "spelled" = some none)
    (ocg_Small : PySem.W.plainGet K x_Small Str.empty = true)
    (och_Small : PySem.W.hasDictIn K x_Small = true)
    (oco_Small : PySem.W.plainOver K x_Small = true)
    (ocs_Small : PySem.W.findIn K (.ref x_Small) "__setattr__" = some (some (.builtin "object.__setattr__")))
    (mk_Small : PySem.W.makesIn K x_Small = true)
    (kp_Small : PySem.W.keepIn K (.ref x_Small) = true)
    (oha_Small : PySem.W.findIn K (.ref x_Small) "__class__" = some (some (.builtin "object.__class__")))
    (ohn_Small : PySem.W.specialIn K (.builtin "object.__class__") "__get__" = some (some (.builtin "getset_descriptor.__get__")))
    (oht_Small : PySem.W.takesIn K (.builtin "object.__class__") = some true)
    (ohm_Small : PySem.W.mroIn K x_Small (.type "object") = some true)
    (kt_Small_Op : PySem.W.kitOne K (.ref x_Small) (.ref x_Op) = some true)
    (nf_Small_number : PySem.W.findIn K (.ref x_Small) "number" = some none)
    (ocg_Push : PySem.W.plainGet K x_Push Str.empty = true)
    (och_Push : PySem.W.hasDictIn K x_Push = true)
    (oco_Push : PySem.W.plainOver K x_Push = true)
    (ocs_Push : PySem.W.findIn K (.ref x_Push) "__setattr__" = some (some (.builtin "object.__setattr__")))
    (mk_Push : PySem.W.makesIn K x_Push = true)
    (kp_Push : PySem.W.keepIn K (.ref x_Push) = true)
    (oha_Push : PySem.W.findIn K (.ref x_Push) "__class__" = some (some (.builtin "object.__class__")))
    (ohn_Push : PySem.W.specialIn K (.builtin "object.__class__") "__get__" = some (some (.builtin "getset_descriptor.__get__")))
    (oht_Push : PySem.W.takesIn K (.builtin "object.__class__") = some true)
    (ohm_Push : PySem.W.mroIn K x_Push (.type "object") = some true)
    (kt_Push_Op : PySem.W.kitOne K (.ref x_Push) (.ref x_Op) = some true)
    (nf_Push_number : PySem.W.findIn K (.ref x_Push) "number" = some none) :
    ∃ fd : FuncData, (∀ (s : Shared) (v : Value), BindsTo s fd ⟨[v], []⟩ [("_law_script", v)]) ∧ ∀ base : Heap, K.In base → base.Ns mainGlobals mg → FnOk l.prog w K mg base CX0 5 fa fd ["_law_script"] (sp_law K) := by
  have e := hfa.symm.trans (PySem.W.mg_of X G a32)
  cases e
  have F0 := fn_mk (st := s_two_of) l0 c0 k0
  have b0 : Binds K _ ["number"] [] := .all (fd := PySem.W.fnOf "two_of" "two_of" (defArgs s_two_of) (defBody s_two_of) (defScope s_two_of) .none kV0 dc0 pm0 an0 cd0 ct0) fun us hl => by obtain ⟨_u0, rfl⟩ := len_is1 hl; rfl
  have F1 := fn_mk (st := s_word_in) l1 c1 k1
  have b1 : Binds K (PySem.W.fnOf "word_in" "word_in" (defArgs s_word_in) (defBody s_word_in) (defScope s_word_in) (.ref t1) kV1 dc1 pm1 an1 cd1 ct1) ["row", "place"] [] := fun s us X hl => match us, hl with | [_, _], _ => PySem.W.binds_K X rfl t1_is rfl rfl rfl
  have F2 := fn_mk (st := s_byte_of) l2 c2 k2
  have b2 : Binds K _ ["word"] [] := .all (fd := PySem.W.fnOf "byte_of" "byte_of" (defArgs s_byte_of) (defBody s_byte_of) (defScope s_byte_of) .none kV2 dc2 pm2 an2 cd2 ct2) fun us hl => by obtain ⟨_u0, rfl⟩ := len_is1 hl; rfl
  have F3 := fn_mk (st := s_Alone_word) l3 c3 k3
  have b3 : Binds K _ ["self"] [] := .all (fd := PySem.W.fnOf "word" "Alone.word" (defArgs s_Alone_word) (defBody s_Alone_word) (defScope s_Alone_word) .none kV3 dc3 pm3 an3 cd3 ct3) fun us hl => by obtain ⟨_u0, rfl⟩ := len_is1 hl; rfl
  have F4 := fn_mk (st := s_Op_told) l4 c4 k4
  have b4 : Binds K _ ["self"] [] := .all (fd := PySem.W.fnOf "told" "Op.told" (defArgs s_Op_told) (defBody s_Op_told) (defScope s_Op_told) .none kV4 dc4 pm4 an4 cd4 ct4) fun us hl => by obtain ⟨_u0, rfl⟩ := len_is1 hl; rfl
  have F5 := fn_mk (st := s_Small_told) l5 c5 k5
  have b5 : Binds K _ ["self"] [] := .all (fd := PySem.W.fnOf "told" "Small.told" (defArgs s_Small_told) (defBody s_Small_told) (defScope s_Small_told) .none kV5 dc5 pm5 an5 cd5 ct5) fun us hl => by obtain ⟨_u0, rfl⟩ := len_is1 hl; rfl
  have F6 := fn_mk (st := s_Push_told) l6 c6 k6
  have b6 : Binds K _ ["self"] [] := .all (fd := PySem.W.fnOf "told" "Push.told" (defArgs s_Push_told) (defBody s_Push_told) (defScope s_Push_told) .none kV6 dc6 pm6 an6 cd6 ct6) fun us hl => by obtain ⟨_u0, rfl⟩ := len_is1 hl; rfl
  have F7 := fn_mk (st := s_Op_size) l7 c7 k7
  have b7 : Binds K _ ["self"] [] := .all (fd := PySem.W.fnOf "size" "Op.size" (defArgs s_Op_size) (defBody s_Op_size) (defScope s_Op_size) .none kV7 dc7 pm7 an7 cd7 ct7) fun us hl => by obtain ⟨_u0, rfl⟩ := len_is1 hl; rfl
  have F8 := fn_mk (st := s_Op_row) l8 c8 k8
  have b8 : Binds K _ ["self"] [] := .all (fd := PySem.W.fnOf "row" "Op.row" (defArgs s_Op_row) (defBody s_Op_row) (defScope s_Op_row) .none kV8 dc8 pm8 an8 cd8 ct8) fun us hl => by obtain ⟨_u0, rfl⟩ := len_is1 hl; rfl
  have F9 := fn_mk (st := s_Op_goal) l9 c9 k9
  have b9 : Binds K _ ["self"] [] := .all (fd := PySem.W.fnOf "goal" "Op.goal" (defArgs s_Op_goal) (defBody s_Op_goal) (defScope s_Op_goal) .none kV9 dc9 pm9 an9 cd9 ct9) fun us hl => by obtain ⟨_u0, rfl⟩ := len_is1 hl; rfl
  have F10 := fn_mk (st := s_Alone___init__) l10 c10 k10
  have b10 : Binds K _ ["self", "word"] [] := .all (fd := PySem.W.fnOf "__init__" "Alone.__init__" (defArgs s_Alone___init__) (defBody s_Alone___init__) (defScope s_Alone___init__) .none kV10 dc10 pm10 an10 cd10 ct10) fun us hl => by obtain ⟨_u0, _u1, rfl⟩ := len_is2 hl; rfl
  have F11 := fn_mk (st := s_Small___init__) l11 c11 k11
  have b11 : Binds K _ ["self", "number"] [] := .all (fd := PySem.W.fnOf "__init__" "Small.__init__" (defArgs s_Small___init__) (defBody s_Small___init__) (defScope s_Small___init__) .none kV11 dc11 pm11 an11 cd11 ct11) fun us hl => by obtain ⟨_u0, _u1, rfl⟩ := len_is2 hl; rfl
  have F12 := fn_mk (st := s_Small_word) l12 c12 k12
  have b12 : Binds K _ ["self"] [] := .all (fd := PySem.W.fnOf "word" "Small.word" (defArgs s_Small_word) (defBody s_Small_word) (defScope s_Small_word) .none kV12 dc12 pm12 an12 cd12 ct12) fun us hl => by obtain ⟨_u0, rfl⟩ := len_is1 hl; rfl
  have F13 := fn_mk (st := s_Small_row) l13 c13 k13
  have b13 : Binds K _ ["self"] [] := .all (fd := PySem.W.fnOf "row" "Small.row" (defArgs s_Small_row) (defBody s_Small_row) (defScope s_Small_row) .none kV13 dc13 pm13 an13 cd13 ct13) fun us hl => by obtain ⟨_u0, rfl⟩ := len_is1 hl; rfl
  have F14 := fn_mk (st := s_Push___init__) l14 c14 k14
  have b14 : Binds K _ ["self", "number"] [] := .all (fd := PySem.W.fnOf "__init__" "Push.__init__" (defArgs s_Push___init__) (defBody s_Push___init__) (defScope s_Push___init__) .none kV14 dc14 pm14 an14 cd14 ct14) fun us hl => by obtain ⟨_u0, _u1, rfl⟩ := len_is2 hl; rfl
  have F15 := fn_mk (st := s_Push_word) l15 c15 k15
  have b15 : Binds K _ ["self"] [] := .all (fd := PySem.W.fnOf "word" "Push.word" (defArgs s_Push_word) (defBody s_Push_word) (defScope s_Push_word) .none kV15 dc15 pm15 an15 cd15 ct15) fun us hl => by obtain ⟨_u0, rfl⟩ := len_is1 hl; rfl
  have F16 := fn_mk (st := s_Push_row) l16 c16 k16
  have b16 : Binds K _ ["self"] [] := .all (fd := PySem.W.fnOf "row" "Push.row" (defArgs s_Push_row) (defBody s_Push_row) (defScope s_Push_row) .none kV16 dc16 pm16 an16 cd16 ct16) fun us hl => by obtain ⟨_u0, rfl⟩ := len_is1 hl; rfl
  have F17 := fn_mk (st := s_size_at) l17 c17 k17
  have b17 : Binds K _ ["row", "place"] [] := .all (fd := PySem.W.fnOf "size_at" "size_at" (defArgs s_size_at) (defBody s_size_at) (defScope s_size_at) .none kV17 dc17 pm17 an17 cd17 ct17) fun us hl => by obtain ⟨_u0, _u1, rfl⟩ := len_is2 hl; rfl
  have F18 := fn_mk (st := s_word_at) l18 c18 k18
  have b18 : Binds K _ ["row", "place"] [] := .all (fd := PySem.W.fnOf "word_at" "word_at" (defArgs s_word_at) (defBody s_word_at) (defScope s_word_at) .none kV18 dc18 pm18 an18 cd18 ct18) fun us hl => by obtain ⟨_u0, _u1, rfl⟩ := len_is2 hl; rfl
  have F19 := fn_mk (st := s_way_at) l19 c19 k19
  have b19 : Binds K _ ["row", "place"] [] := .all (fd := PySem.W.fnOf "way_at" "way_at" (defArgs s_way_at) (defBody s_way_at) (defScope s_way_at) .none kV19 dc19 pm19 an19 cd19 ct19) fun us hl => by obtain ⟨_u0, _u1, rfl⟩ := len_is2 hl; rfl
  have F20 := fn_mk (st := s_alone_at) l20 c20 k20
  have b20 : Binds K _ ["row", "place"] [] := .all (fd := PySem.W.fnOf "alone_at" "alone_at" (defArgs s_alone_at) (defBody s_alone_at) (defScope s_alone_at) .none kV20 dc20 pm20 an20 cd20 ct20) fun us hl => by obtain ⟨_u0, _u1, rfl⟩ := len_is2 hl; rfl
  have F21 := fn_mk (st := s__law_cell_at) l21 c21 k21
  have b21 : Binds K _ ["_law_script", "_law_k"] [] := .all (fd := PySem.W.fnOf "_law_cell_at" "_law_cell_at" (defArgs s__law_cell_at) (defBody s__law_cell_at) (defScope s__law_cell_at) .none kV21 dc21 pm21 an21 cd21 ct21) fun us hl => by obtain ⟨_u0, _u1, rfl⟩ := len_is2 hl; rfl
  have F22 := fn_mk (st := s__law_mixed) l22 c22 k22
  have b22 : Binds K _ ["_law_cell", "_law_k"] [] := .all (fd := PySem.W.fnOf "_law_mixed" "_law_mixed" (defArgs s__law_mixed) (defBody s__law_mixed) (defScope s__law_mixed) .none kV22 dc22 pm22 an22 cd22 ct22) fun us hl => by obtain ⟨_u0, _u1, rfl⟩ := len_is2 hl; rfl
  have F23 := fn_mk (st := s__law_number) l23 c23 k23
  have b23 : Binds K _ ["_law_cell"] [] := .all (fd := PySem.W.fnOf "_law_number" "_law_number" (defArgs s__law_number) (defBody s__law_number) (defScope s__law_number) .none kV23 dc23 pm23 an23 cd23 ct23) fun us hl => by obtain ⟨_u0, rfl⟩ := len_is1 hl; rfl
  have F24 := fn_mk (st := s__law_alones) l24 c24 k24
  have b24 : Binds K _ [] [] := .all (fd := PySem.W.fnOf "_law_alones" "_law_alones" (defArgs s__law_alones) (defBody s__law_alones) (defScope s__law_alones) .none kV24 dc24 pm24 an24 cd24 ct24) fun us hl => by obtain rfl := len_is0 hl; rfl
  have F25 := fn_mk (st := s__law_op) l25 c25 k25
  have b25 : Binds K _ ["_law_cell", "_law_names"] [] := .all (fd := PySem.W.fnOf "_law_op" "_law_op" (defArgs s__law_op) (defBody s__law_op) (defScope s__law_op) .none kV25 dc25 pm25 an25 cd25 ct25) fun us hl => by obtain ⟨_u0, _u1, rfl⟩ := len_is2 hl; rfl
  have F26 := fn_mk (st := s__law_bytes) l26 c26 k26
  have b26 : Binds K _ ["_law_op_here"] [] := .all (fd := PySem.W.fnOf "_law_bytes" "_law_bytes" (defArgs s__law_bytes) (defBody s__law_bytes) (defScope s__law_bytes) .none kV26 dc26 pm26 an26 cd26 ct26) fun us hl => by obtain ⟨_u0, rfl⟩ := len_is1 hl; rfl
  have F27 := fn_mk (st := s__law_whole) l27 c27 k27
  have b27 : Binds K _ ["_law_found"] [] := .all (fd := PySem.W.fnOf "_law_whole" "_law_whole" (defArgs s__law_whole) (defBody s__law_whole) (defScope s__law_whole) .none kV27 dc27 pm27 an27 cd27 ct27) fun us hl => by obtain ⟨_u0, rfl⟩ := len_is1 hl; rfl
  have F28 := fn_mk (st := s__law_list_of) l28 c28 k28
  have b28 : Binds K _ ["_law_found", "_law_due"] [] := .all (fd := PySem.W.fnOf "_law_list_of" "_law_list_of" (defArgs s__law_list_of) (defBody s__law_list_of) (defScope s__law_list_of) .none kV28 dc28 pm28 an28 cd28 ct28) fun us hl => by obtain ⟨_u0, _u1, rfl⟩ := len_is2 hl; rfl
  have F29 := fn_mk (st := s__law_size) l29 c29 k29
  have b29 : Binds K _ ["_law_row", "_law_place"] [] := .all (fd := PySem.W.fnOf "_law_size" "_law_size" (defArgs s__law_size) (defBody s__law_size) (defScope s__law_size) .none kV29 dc29 pm29 an29 cd29 ct29) fun us hl => by obtain ⟨_u0, _u1, rfl⟩ := len_is2 hl; rfl
  have F30 := fn_mk (st := s__law_right) l30 c30 k30
  have b30 : Binds K _ ["_law_handed", "_law_row", "_law_place"] [] := .all (fd := PySem.W.fnOf "_law_right" "_law_right" (defArgs s__law_right) (defBody s__law_right) (defScope s__law_right) .none kV30 dc30 pm30 an30 cd30 ct30) fun us hl => by obtain ⟨_u0, _u1, _u2, rfl⟩ := len_is3 hl; rfl
  have F31 := fn_mk (st := s__law_parts) l31 c31 k31
  have b31 : Binds K _ ["_law_row"] [] := .all (fd := PySem.W.fnOf "_law_parts" "_law_parts" (defArgs s__law_parts) (defBody s__law_parts) (defScope s__law_parts) .none kV31 dc31 pm31 an31 cd31 ct31) fun us hl => by obtain ⟨_u0, rfl⟩ := len_is1 hl; rfl
  have F32 := fn_mk (st := s_law) l32 c32 k32
  have b32 : Binds K _ ["_law_script"] [] := .all (fd := PySem.W.fnOf "law" "law" (defArgs s_law) (defBody s_law) (defScope s_law) .none kV32 dc32 pm32 an32 cd32 ct32) fun us hl => by obtain ⟨_u0, rfl⟩ := len_is1 hl; rfl
  obtain ⟨T, hf, hfd⟩ : ∃ T : Txt K mg, T.d_law.f = fa ∧ T.d_law.fd = PySem.W.fnOf "law" "law" (defArgs s_law) (defBody s_law) (defScope s_law) .none kV32 dc32 pm32 an32 cd32 ct32 := ⟨{
    d_two_of := ⟨_, _, F0, b0, PySem.W.mg_of X G a0⟩
    d_word_in := ⟨_, _, F1, b1, PySem.W.mg_of X G a1⟩
    d_byte_of := ⟨_, _, F2, b2, PySem.W.mg_of X G a2⟩
    d_Alone_word := ⟨_, _, F3, b3, a3, i3⟩
    d_Op_told := ⟨_, _, F4, b4, a4, i4⟩
    d_Small_told := ⟨_, _, F5, b5, a5, i5⟩
    d_Push_told := ⟨_, _, F6, b6, a6, i6⟩
    d_Op_size := ⟨_, _, F7, b7, a7, i7⟩
    d_Op_row := ⟨_, _, F8, b8, a8, i8⟩
    d_Op_goal := ⟨_, _, F9, b9, a9, i9⟩
    d_Alone___init__ := ⟨_, _, F10, b10, a10, i10⟩
    d_Small___init__ := ⟨_, _, F11, b11, a11, i11⟩
    d_Small_word := ⟨_, _, F12, b12, a12, i12⟩
    d_Small_row := ⟨_, _, F13, b13, a13, i13⟩
    d_Push___init__ := ⟨_, _, F14, b14, a14, i14⟩
    d_Push_word := ⟨_, _, F15, b15, a15, i15⟩
    d_Push_row := ⟨_, _, F16, b16, a16, i16⟩
    d_size_at := ⟨_, _, F17, b17, PySem.W.mg_of X G a17⟩
    d_word_at := ⟨_, _, F18, b18, PySem.W.mg_of X G a18⟩
    d_way_at := ⟨_, _, F19, b19, PySem.W.mg_of X G a19⟩
    d_alone_at := ⟨_, _, F20, b20, PySem.W.mg_of X G a20⟩
    d__law_cell_at := ⟨_, _, F21, b21, PySem.W.mg_of X G a21⟩
    d__law_mixed := ⟨_, _, F22, b22, PySem.W.mg_of X G a22⟩
    d__law_number := ⟨_, _, F23, b23, PySem.W.mg_of X G a23⟩
    d__law_alones := ⟨_, _, F24, b24, PySem.W.mg_of X G a24⟩
    d__law_op := ⟨_, _, F25, b25, PySem.W.mg_of X G a25⟩
    d__law_bytes := ⟨_, _, F26, b26, PySem.W.mg_of X G a26⟩
    d__law_whole := ⟨_, _, F27, b27, PySem.W.mg_of X G a27⟩
    d__law_list_of := ⟨_, _, F28, b28, PySem.W.mg_of X G a28⟩
    d__law_size := ⟨_, _, F29, b29, PySem.W.mg_of X G a29⟩
    d__law_right := ⟨_, _, F30, b30, PySem.W.mg_of X G a30⟩
    d__law_parts := ⟨_, _, F31, b31, PySem.W.mg_of X G a31⟩
    d_law := ⟨_, _, F32, b32, PySem.W.mg_of X G a32⟩
    x_OPS := x_OPS
    c_OPS := ⟨_, PySem.W.mg_of X G g_OPS, rfl⟩
    tb_OPS := tab_look tb_OPS
    at_Alone_size := at_Alone_size
    at_Alone_row := at_Alone_row
    at_Alone_told := at_Alone_told
    at_Alone_goal := at_Alone_goal
    at_Small_size := at_Small_size
    at_Small_goal := at_Small_goal
    at_Push_size := at_Push_size
    at_Push_goal := at_Push_goal
    n_all := PySem.W.mg_none_of X G n_all
    n_bool := PySem.W.mg_none_of X G n_bool
    n_int := PySem.W.mg_none_of X G n_int
    n_isinstance := PySem.W.mg_none_of X G n_isinstance
    n_len := PySem.W.mg_none_of X G n_len
    n_list := PySem.W.mg_none_of X G n_list
    n_range := PySem.W.mg_none_of X G n_range
    n_str := PySem.W.mg_none_of X G n_str
    n_sum := PySem.W.mg_none_of X G n_sum
    x_Op := x_Op
    x_Alone := x_Alone
    x_Small := x_Small
    x_Push := x_Push
    m_Op := PySem.W.mg_of X G m_Op
    m_Alone := PySem.W.mg_of X G m_Alone
    m_Small := PySem.W.mg_of X G m_Small
    m_Push := PySem.W.mg_of X G m_Push
    ocg_Alone := ocg_Alone
    och_Alone := och_Alone
    oco_Alone := oco_Alone
    ocs_Alone := ocs_Alone
    mk_Alone := mk_Alone
    kp_Alone := kp_Alone
    oha_Alone := oha_Alone
    ohn_Alone := ohn_Alone
    oht_Alone := oht_Alone
    ohm_Alone := ohm_Alone
    kt_Alone_Op := kt_Alone_Op
    nf_Alone_spelled := nf_Alone_spelled
    ocg_Small := ocg_Small
    och_Small := och_Small
    oco_Small := oco_Small
    ocs_Small := ocs_Small
    mk_Small := mk_Small
    kp_Small := kp_Small
    oha_Small := oha_Small
    ohn_Small := ohn_Small
    oht_Small := oht_Small
    ohm_Small := ohm_Small
    kt_Small_Op := kt_Small_Op
    nf_Small_number := nf_Small_number
    ocg_Push := ocg_Push
    och_Push := och_Push
    oco_Push := oco_Push
    ocs_Push := ocs_Push
    mk_Push := mk_Push
    kp_Push := kp_Push
    oha_Push := oha_Push
    ohn_Push := ohn_Push
    oht_Push := oht_Push
    ohm_Push := ohm_Push
    kt_Push_Op := kt_Push_Op
    nf_Push_number := nf_Push_number
  }, rfl, rfl⟩
  refine ⟨PySem.W.fnOf "law" "law" (defArgs s_law) (defBody s_law) (defScope s_law) .none kV32 dc32 pm32 an32 cd32 ct32, fun s v => .of_eq rfl, fun base _ _ => ?_⟩
  have G := ok_law (P := l.prog) (w := w) (base := base) T
  rw [hf, hfd] at G
  exact G
theorem walk {l : PySem.W.OpenLaw} {q : Program} {loose : List Str} {XP : (Str → Option Value) → Heap → Prop} {YP : World → Heap → Prop} {d : DefRec} {K : Params → PySem.W.Frag} (hn : l.most = some 63) (hdf : d.params.defaults = [])
    (hY : ∀ (w : World) (h : Heap), YP w h → (K w.params).In h)
    (F : ∀ (w : World) (mg : Str → Option Value) (fa : Addr) (h : Heap), (K w.params).In h → h.Ns mainGlobals mg → mg d.name = some (.ref fa) →
      ∃ fd : FuncData, (∀ (s : Shared) (u : Value), BindsTo s fd ⟨[u], []⟩ [("_law_script", u)]) ∧ ∀ base : Heap, (K w.params).In base → base.Ns mainGlobals mg → FnOk l.prog w (K w.params) mg base CX0 5 fa fd ["_law_script"] (sp_law (K w.params))) :
    PySem.W.WalkO q loose XP YP l.row.toRowW d [] (fun f vs => PySem.call f vs) :=
  L2.walk_of (n := 63) (k := 5) (x := "_law_script") (CX := fun _ => CX0) (sp := fun w => sp_law (K w.params)) hn (by decide) hdf ⟨rfl, by decide, by decide⟩ hY F (fun _ _ a ns hl _ hS => ⟨a, ns, rfl, hS, hl, fun _ => rfl⟩) fun _ _ _ _ _ z => z
end K07
open PySem PySem.W PyProof.Rows
set_option maxRecDepth 100000 in
set_option maxHeartbeats 0 in
theorem PySem.Challenge.cw_linkyard_k07_whole_bytes_walked_holds : PySem.Challenge.rw_linkyard_k07_whole_bytes_walked.Holds := by
  w_on; o_law; k_head; (case hw => w_witness2)
  k_fill
  refine K07.walk (l := PySem.Challenge.rw_linkyard_k07_whole_bytes_walked) rfl rfl (fun w h Y => PySem.W.kIn_of Y) ?F
  case F =>
    intro w mg fa h KX G hmg
    refine' K07.all_mk KX G hmg ?a0 ?l0 ?c0 ?k0 ?a1 ?l1 ?c1 ?k1 ?t1_is ?a2 ?l2 ?c2 ?k2 ?a3 ?i3 ?l3 ?c3 ?k3 ?a4 ?i4 ?l4 ?c4 ?k4 ?a5 ?i5 ?l5 ?c5 ?k5 ?a6 ?i6 ?l6 ?c6 ?k6 ?a7 ?i7 ?l7 ?c7 ?k7 ?a8 ?i8 ?l8 ?c8 ?k8 ?a9 ?i9 ?l9 ?c9 ?k9 ?a10 ?i10 ?l10 ?c10 ?k10 ?a11 ?i11 ?l11 ?c11 ?k11 ?a12 ?i12 ?l12 ?c12 ?k12 ?a13 ?i13 ?l13 ?c13 ?k13 ?a14 ?i14 ?l14 ?c14 ?k14 ?a15 ?i15 ?l15 ?c15 ?k15 ?a16 ?i16 ?l16 ?c16 ?k16 ?a17 ?l17 ?c17 ?k17 ?a18 ?l18 ?c18 ?k18 ?a19 ?l19 ?c19 ?k19 ?a20 ?l20 ?c20 ?k20 ?a21 ?l21 ?c21 ?k21 ?a22 ?l22 ?c22 ?k22 ?a23 ?l23 ?c23 ?k23 ?a24 ?l24 ?c24 ?k24 ?a25 ?l25 ?c25 ?k25 ?a26 ?l26 ?c26 ?k26 ?a27 ?l27 ?c27 ?k27 ?a28 ?l28 ?c28 ?k28 ?a29 ?l29 ?c29 ?k29 ?a30 ?l30 ?c30 ?k30 ?a31 ?l31 ?c31 ?k31 ?a32 ?l32 ?c32 ?k32 ?g_OPS ?tb_OPS ?at_Alone_size ?at_Alone_row ?at_Alone_told ?at_Alone_goal ?at_Small_size ?at_Small_goal ?at_Push_size ?at_Push_goal ?n_all ?n_bool ?n_int ?n_isinstance ?n_len ?n_list ?n_range ?n_str ?n_sum ?m_Op ?m_Alone ?m_Small ?m_Push ?ocg_Alone ?och_Alone ?oco_Alone ?ocs_Alone ?mk_Alone ?kp_Alone ?oha_Alone ?ohn_Alone ?oht_Alone ?ohm_Alone ?kt_Alone_Op ?nf_Alone_spelled ?ocg_Small ?och_Small ?oco_Small ?ocs_Small ?mk_Small ?kp_Small ?oha_Small ?ohn_Small ?oht_Small ?ohm_Small ?kt_Small_Op ?nf_Small_number ?ocg_Push ?och_Push ?oco_Push ?ocs_Push ?mk_Push ?kp_Push ?oha_Push ?ohn_Push ?oht_Push ?ohm_Push ?kt_Push_Op ?nf_Push_number
    (case m_Op => k_is)
    (case m_Alone => k_is)
    (case m_Small => k_is)
    (case m_Push => k_is)
    (case a0 => k_is)
    (case l0 => k_is)
    (case c0 => k_is)
    (case k0 => k_is)
    (case a1 => k_is)
    (case l1 => k_is)
    (case c1 => k_is)
    (case k1 => k_is)
    (case t1_is => k_is)
    (case a2 => k_is)
    (case l2 => k_is)
    (case c2 => k_is)
    (case k2 => k_is)
    (case a3 => k_is)
    (case i3 => k_is)
    (case l3 => k_is)
    (case c3 => k_is)
    (case k3 => k_is)
    (case a4 => k_is)
    (case i4 => k_is)
    (case l4 => k_is)
    (case c4 => k_is)
    (case k4 => k_is)
    (case a5 => k_is)
    (case i5 => k_is)
    (case l5 => k_is)
    (case c5 => k_is)
    (case k5 => k_is)
    (case a6 => k_is)
    (case i6 => k_is)
    (case l6 => k_is)
    (case c6 => k_is)
    (case k6 => k_is)
    (case a7 => k_is)
    (case i7 => k_is)
    (case l7 => k_is)
    (case c7 => k_is)
    (case k7 => k_is)
    (case a8 => k_is)
    (case i8 => k_is)
    (case l8 => k_is)
    (case c8 => k_is)
    (case k8 => k_is)
    (case a9 => k_is)
    (case i9 => k_is)
    (case l9 => k_is)
    (case c9 => k_is)
    (case k9 => k_is)
    (case a10 => k_is)
    (case i10 => k_is)
    (case l10 => k_is)
    (case c10 => k_is)
    (case k10 => k_is)
    (case a11 => k_is)
    (case i11 => k_is)
    (case l11 => k_is)
    (case c11 => k_is)
    (case k11 => k_is)
    (case a12 => k_is)
    (case i12 => k_is)
    (case l12 => k_is)
    (case c12 => k_is)
    (case k12 => k_is)
    (case a13 => k_is)
    (case i13 => k_is)
    (case l13 => k_is)
    (case c13 => k_is)
    (case k13 => k_is)
    (case a14 => k_is)
    (case i14 => k_is)
    (case l14 => k_is)
    (case c14 => k_is)
    (case k14 => k_is)
    (case a15 => k_is)
    (case i15 => k_is)
    (case l15 => k_is)
    (case c15 => k_is)
    (case k15 => k_is)
    (case a16 => k_is)
    (case i16 => k_is)
    (case l16 => k_is)
    (case c16 => k_is)
    (case k16 => k_is)
    (case a17 => k_is)
    (case l17 => k_is)
    (case c17 => k_is)
    (case k17 => k_is)
    (case a18 => k_is)
    (case l18 => k_is)
    (case c18 => k_is)
    (case k18 => k_is)
    (case a19 => k_is)
    (case l19 => k_is)
    (case c19 => k_is)
    (case k19 => k_is)
    (case a20 => k_is)
    (case l20 => k_is)
    (case c20 => k_is)
    (case k20 => k_is)
    (case a21 => k_is)
    (case l21 => k_is)
    (case c21 => k_is)
    (case k21 => k_is)
    (case a22 => k_is)
    (case l22 => k_is)
    (case c22 => k_is)
    (case k22 => k_is)
    (case a23 => k_is)
    (case l23 => k_is)
    (case c23 => k_is)
    (case k23 => k_is)
    (case a24 => k_is)
    (case l24 => k_is)
    (case c24 => k_is)
    (case k24 => k_is)
    (case a25 => k_is)
    (case l25 => k_is)
    (case c25 => k_is)
    (case k25 => k_is)
    (case a26 => k_is)
    (case l26 => k_is)
    (case c26 => k_is)
    (case k26 => k_is)
    (case a27 => k_is)
    (case l27 => k_is)
    (case c27 => k_is)
    (case k27 => k_is)
    (case a28 => k_is)
    (case l28 => k_is)
    (case c28 => k_is)
    (case k28 => k_is)
    (case a29 => k_is)
    (case l29 => k_is)
    (case c29 => k_is)
    (case k29 => k_is)
    (case a30 => k_is)
    (case l30 => k_is)
    (case c30 => k_is)
    (case k30 => k_is)
    (case a31 => k_is)
    (case l31 => k_is)
    (case c31 => k_is)
    (case k31 => k_is)
    (case a32 => k_is)
    (case l32 => k_is)
    (case c32 => k_is)
    (case k32 => k_is)
    (case g_OPS => k_is)
    (case tb_OPS => first | k_is | kernel_rfl)
    (case at_Alone_size => k_is)
    (case at_Alone_row => k_is)
    (case at_Alone_told => k_is)
    (case at_Alone_goal => k_is)
    (case at_Small_size => k_is)
    (case at_Small_goal => k_is)
    (case at_Push_size => k_is)
    (case at_Push_goal => k_is)
    (case n_all => k_is)
    (case n_bool => k_is)
    (case n_int => k_is)
    (case n_isinstance => k_is)
    (case n_len => k_is)
    (case n_list => k_is)
    (case n_range => k_is)
    (case n_str => k_is)
    (case n_sum => k_is)
    (case ocg_Alone => k_is)
    (case och_Alone => k_is)
    (case oco_Alone => k_is)
    (case ocs_Alone => k_is)
    (case mk_Alone => k_is)
    (case kp_Alone => k_is)
    (case oha_Alone => k_is)
    (case ohn_Alone => k_is)
    (case oht_Alone => k_is)
    (case ohm_Alone => k_is)
    (case kt_Alone_Op => kit_is)
    (case nf_Alone_spelled => k_is)
    (case ocg_Small => k_is)
    (case och_Small => k_is)
    (case oco_Small => k_is)
    (case ocs_Small => k_is)
    (case mk_Small => k_is)
    (case kp_Small => k_is)
    (case oha_Small => k_is)
    (case ohn_Small => k_is)
    (case oht_Small => k_is)
    (case ohm_Small => k_is)
    (case kt_Small_Op => kit_is)
    (case nf_Small_number => k_is)
    (case ocg_Push => k_is)
    (case och_Push => k_is)
    (case oco_Push => k_is)
    (case ocs_Push => k_is)
    (case mk_Push => k_is)
    (case kp_Push => k_is)
    (case oha_Push => k_is)
    (case ohn_Push => k_is)
    (case oht_Push => k_is)
    (case ohm_Push => k_is)
    (case kt_Push_Op => kit_is)
    (case nf_Push_number => k_is)
