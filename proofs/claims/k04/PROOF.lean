import PyProof.Rows.All
import Wide.All
import OpenK.AllK
import Wide.FinOn
import Lean
import PyProof.EqAt
import PyProof.EqKinds
import PyProof.TupleCall
import KE.RegKIsAll
import KE.RegKTryMore
import PyProof.StationsW
import PyProof.RulesAs
import PyProof.ExcClass3
import PyProof.ListRange
import KE.KRevSl
import PyProof.DictWalks
import PyProof.Rows.SetFrom
import PyProof.CollectWalk
import PyProof.Rows.SortWalk
import PySem.Challenge.RW_linkyard_k04_whole_one_change_told
set_option Elab.async false
set_option genInjectivity false
set_option genSizeOf false
set_option genSizeOfSpec false
set_option bootstrap.genMatcherCode false
set_option linter.all false
set_option maxRecDepth 100000
set_option maxHeartbeats 4000000
namespace L2
open PySem PySem.Spec PyProof.Rows

noncomputable abbrev Key := Sum Int Str
noncomputable def keyIs : Key → Value → Bool
  | .inl k, v => Value.isInt k v
  | .inr x, v => Value.isStrOf x v
noncomputable def keyH (w : World) : Key → Int
  | .inl k => hashInt k
  | .inr x => hashStr w x
theorem keyIs_shape : ∀ {k : Key} {v : Value}, keyIs k v = true → (∃ i t, k = Sum.inl i ∧ v = Value.int i t) ∨ (∃ x t, k = Sum.inr x ∧ v = Value.str x t)
  | .inl i, v, h => by
    obtain ⟨t, e⟩ := Value.isInt_shape (k := i) (v := v) h
    exact .inl ⟨i, t, rfl, e⟩
  | .inr x, v, h => by
    obtain ⟨t, e⟩ := Value.isStrOf_shape (x := x) (v := v) h
    exact .inr ⟨x, t, rfl, e⟩
theorem key_ll (a b : Int) : decide ((Sum.inl a : Key) = Sum.inl b) = (a == b) := by
  by_cases e : a = b
  · subst e; simp
  · have h : ¬ (Sum.inl a : Key) = Sum.inl b := fun q => e (Sum.inl.inj q)
    rw [decide_eq_false h]
    exact (beq_eq_false_iff_ne.mpr e).symm
theorem key_rr (a b : Str) : decide ((Sum.inr a : Key) = Sum.inr b) = decide (a = b) := by
  by_cases e : a = b
  · subst e; simp
  · have h : ¬ (Sum.inr a : Key) = Sum.inr b := fun q => e (Sum.inr.inj q)
    rw [decide_eq_false h, decide_eq_false e]
theorem key_lr (a : Int) (b : Str) : decide ((Sum.inl a : Key) = Sum.inr b) = false := decide_eq_false (fun q => nomatch q)
theorem key_rl (a : Str) (b : Int) : decide ((Sum.inr a : Key) = Sum.inl b) = false := decide_eq_false (fun q => nomatch q)

noncomputable def mixKind (prog : Program) (w : World) : PySem.KeyKind prog w Key where
  is := keyIs
  hash := keyH w
  inj := fun v a b ha hb => by
    rcases keyIs_shape ha with ⟨i, t, rfl, rfl⟩ | ⟨x, t, rfl, rfl⟩
    · rcases keyIs_shape hb with ⟨j, u, rfl, e⟩ | ⟨y, u, rfl, e⟩
      · injection e with e1 _; rw [e1]
      · exact nomatch e
    · rcases keyIs_shape hb with ⟨j, u, rfl, e⟩ | ⟨y, u, rfl, e⟩
      · exact nomatch e
      · injection e with e1 _; rw [e1]
  byValue := fun k v h => by
    rcases keyIs_shape h with ⟨i, t, rfl, rfl⟩ | ⟨x, t, rfl, rfl⟩ <;> rfl
  pyHash := fun hv h => by
    rcases keyIs_shape hv with ⟨i, t, rfl, rfl⟩ | ⟨x, t, rfl, rfl⟩
    · exact wpAny_pyHash_int h
    · exact wpAny_pyHash_str h
  eqBool := fun hu hv h => by
    rcases keyIs_shape hu with ⟨i, t, rfl, rfl⟩ | ⟨x, t, rfl, rfl⟩
    · rcases keyIs_shape hv with ⟨j, u, rfl, rfl⟩ | ⟨y, u, rfl, rfl⟩
      · rw [key_ll] at h; exact wpAny_eqBool_int h
      · rw [key_lr] at h; exact SeqAt.EqAt.int_str i t y u _ _ _ _ h
    · rcases keyIs_shape hv with ⟨j, u, rfl, rfl⟩ | ⟨y, u, rfl, rfl⟩
      · rw [key_rl] at h; exact SeqAt.EqAt.str_int x t j u _ _ _ _ h
      · rw [key_rr] at h; exact wpAny_eqBool_str h
  «strs» := fun k x t v h => by
    rcases keyIs_shape h with ⟨i, u, rfl, e⟩ | ⟨y, u, rfl, e⟩
    · exact nomatch e
    · injection e with e1 _
      subst e1
      cases v <;> rfl

end L2

namespace L2
open PySem PySem.Spec PyProof.Rows

set_option genInjectivity true in
inductive V where
  | non | bl (b : Bool) | int (i : Int) | str (x : Str) | byt (b : Array UInt8) | flt (b : UInt64) | ref (a : Addr) | ty (n : String)
  deriving DecidableEq

noncomputable def RelV : V → Value → Prop
  | .non, u => u = Value.none
  | .bl b, u => u = Value.bool b
  | .int i, u => ∃ t, u = Value.int i t
  | .str x, u => ∃ t, u = Value.str x t
  | .byt b, u => ∃ t, u = Value.bytes b t
  | .flt b, u => ∃ t, u = Value.float b t
  | .ref a, u => u = Value.ref a
  | .ty n, u => u = Value.type n

noncomputable abbrev Vals : List V → List Value → Prop := Paired RelV
theorem Vals.length {xs : List V} {us : List Value} (r : Vals xs us) : xs.length = us.length := Paired.length r
theorem Vals.get : ∀ {xs : List V} {us : List Value} {i : Nat} {x : V}, Vals xs us → xs[i]? = some x → ∃ u, us[i]? = some u ∧ RelV x u
  | _, _, _, _, .nil, e => by simp at e
  | _, _, 0, _, .cons r _, e => by simp at e; subst e; exact ⟨_, rfl, r⟩
  | _, _, i + 1, x, .cons _ t, e => by
    obtain ⟨u, h1, h2⟩ := Vals.get (i := i) (x := x) t (by simpa using e)
    exact ⟨u, by simpa using h1, h2⟩
theorem Vals.set {x : V} {u : Value} (r : RelV x u) : ∀ {xs : List V} {us : List Value} (i : Nat), Vals xs us → Vals (xs.set i x) (us.set i u)
  | _, _, _, .nil => .nil
  | _, _, 0, .cons _ t => .cons r t
  | _, _, i + 1, .cons q t => .cons q (Vals.set r i t)
theorem Vals.append : ∀ {xs ys : List V} {us ws : List Value}, Vals xs us → Vals ys ws → Vals (xs ++ ys) (us ++ ws)
  | _, _, _, _, .nil, s => s
  | _, _, _, _, .cons r t, s => .cons r (Vals.append t s)
theorem Vals.take : ∀ {xs : List V} {us : List Value} (n : Nat), Vals xs us → Vals (xs.take n) (us.take n)
  | _, _, 0, _ => .nil
  | _, _, _ + 1, .nil => .nil
  | _, _, n + 1, .cons r t => .cons r (Vals.take n t)
theorem Vals.drop : ∀ {xs : List V} {us : List Value} (n : Nat), Vals xs us → Vals (xs.drop n) (us.drop n)
  | _, _, 0, r => r
  | _, _, _ + 1, .nil => .nil
  | _, _, n + 1, .cons _ t => Vals.drop n t
noncomputable def RelO : Option V → Option Value → Prop
  | some v, some u => RelV v u
  | none, none => True
  | _, _ => False
noncomputable def KV {κ : Type} : List (κ × V) → List (κ × Value) → Prop := Paired fun (p : κ × V) (q : κ × Value) => p.1 = q.1 ∧ RelV p.2 q.2

noncomputable def kV : Key → V
  | .inl i => .int i
  | .inr x => .str x

set_option genInjectivity true in
inductive HO where
  /-- a list -/
  | lst (xs : List V)
  /-- a tuple (never changes) -/
  | tup (xs : List V)
  /-- a dict whose keys are ints and texts; one whose keys are tuples of ints and texts (the empty one is both) -/
  | dK (kvs : List (Key × V)) | dT (kvs : List (List Key × V))
  /-- a set of ints: its members, its size -/
  | set (S : Int → Bool) (n : Nat)
  /-- an instance of the class at C, its dict at dx, its attributes -/
  | ins (C dx : Addr) (fs : List (Str × V))
  /-- the dict of the instance at x -/
  | own (x : Addr)
  /-- the dict of an exception -/
  | xd (fs : List (Str × V))
  /-- a bound method, f of x -/
  | met (f x : Addr)
  /-- a range object lo, lo + 1, .. below hi -/
  | rng (lo hi : Int)
  /-- a thing that is known to the object (the script; a dict while a loop walks it): read, never written while it is so -/
  | frz (o : Obj) (u : HO)
  /-- a code object's table -/
  | tbl (ps : Array Value)
  /-- any other thing, by what is true of its one object (a def of one's own: SetO a S n := HO.ext fun h => ..) -/
  | ext (φ : Heap → Prop)

noncomputable abbrev Hp := Addr → Option HO
noncomputable def upd (H : Hp) (a : Addr) (o : HO) : Hp := fun b => if b = a then some o else H b
theorem upd_same {H : Hp} {a : Addr} {o : HO} : upd H a o a = some o := by unfold upd; rw [if_pos rfl]
theorem upd_ne {H : Hp} {a b : Addr} {o : HO} (h : b ≠ a) : upd H a o b = H b := by unfold upd; rw [if_neg h]
theorem ne_of_none {H : Hp} {a b : Addr} {o : HO} (h : H a = some o) (h' : H b = none) : a ≠ b := by
  intro e; subst e; rw [h] at h'; cases h'

section
variable (P : Program) (w : World)
noncomputable def ObjOk (H : Hp) (h : Heap) (a : Addr) : HO → Prop
  | .lst xs => xs.length ≤ sizeLine ∧ ∃ (its : List Value) (n : Nat), Vals xs its ∧ h.get? a = some { cls := .type "list", data := .seq its.toArray n }
  | .tup xs => xs.length ≤ sizeLine ∧ ∃ its : List Value, Vals xs its ∧ IsTup h a its.toArray
  | .dK kvs => kvs.length ≤ sizeLine ∧ (a == sysModules) = false ∧ ∃ vs, KV kvs vs ∧ h.DictOf (mixKind P w) a vs
  | .dT kvs => kvs.length ≤ sizeLine ∧ (a == sysModules) = false ∧ ∃ xs : List (List Key × Addr × Value),
      Paired (fun (p : List Key × V) (q : List Key × Addr × Value) => p.1 = q.1 ∧ H q.2.1 = some (.tup (p.1.map kV)) ∧ RelV p.2 q.2.2) kvs xs ∧
      ∃ o es ep, h.get? a = some o ∧ o.ExactDict ∧ o.data = .dict es ep ∧ es.toList = xs.map (entryOfKey (tupleKind (mixKind P w))) ∧ (xs.map (·.1)).Nodup
  | .set S n => h.SetOf (intKind P w) a S n
  | .ins C dx fs => H dx = some (.own a) ∧ fs.length ≤ 1000 ∧ dx ≠ a ∧ h.get? a = some (PySem.W.instObj C dx) ∧
      ∃ mA, h.Ns1 dx mA ∧ (∀ f, RelO (fs.lookup f) (mA f)) ∧ PySem.Within mA (fs.map (·.1))
  | .own _ => ∃ o, h.get? a = some o
  | .xd fs => ∃ mA, h.Ns1 a mA ∧ ∀ f, RelO (fs.lookup f) (mA f)
  | .rng lo hi => ∃ t u v, h.get? a = some { cls := .type "range", data := .fields #[.int lo t, .int hi u, .int 1 v] }
  | .frz o u => h.get? a = some o ∧ ObjOk H h a u
  | .tbl ps => h.get? a = some { cls := .none, data := .fields ps }
  | .met f x => h.get? a = some (PySem.W.methodObj (.ref f) (.ref x))
  | .ext φ => φ h ∧ (∃ o, h.get? a = some o) ∧ ∀ h1 h2 : Heap, φ h1 → (∀ o, h1.get? a = some o → h2.get? a = some o) → φ h2
noncomputable def HOk (H : Hp) (h : Heap) : Prop := ∀ a o, H a = some o → ObjOk P w H h a o
end

section
variable {P : Program} {w : World} {H H' : Hp} {h h' : Heap} {a : Addr} {o : HO}
theorem ObjOk.lt (x : ObjOk P w H h a o) : a < h.objs.size := by
  cases o with
  | lst xs => obtain ⟨_, _, _, _, e⟩ := x; exact Heap.lt_size e
  | tup xs => obtain ⟨_, _, _, p⟩ := x; exact p.lt
  | dK kvs => obtain ⟨_, _, _, _, o, _, _, e, _⟩ := x; exact Heap.lt_size e
  | dT kvs => obtain ⟨_, _, _, _, o, _, _, e, _⟩ := x; exact Heap.lt_size e
  | set S n => obtain ⟨o, _, _, _, e, _⟩ := x; exact Heap.lt_size e
  | ins C dx fs => obtain ⟨_, _, _, e, _⟩ := x; exact Heap.lt_size e
  | own y => obtain ⟨_, e⟩ := x; exact Heap.lt_size e
  | xd fs => obtain ⟨_, ⟨_, _, _, e, _⟩, _⟩ := x; exact Heap.lt_size e
  | rng lo hi => obtain ⟨_, _, _, e⟩ := x; exact Heap.lt_size e
  | frz ob u => obtain ⟨e, _⟩ := x; exact Heap.lt_size e
  | tbl ps => exact Heap.lt_size (show h.get? a = some _ from x)
  | met f y => exact Heap.lt_size (show h.get? a = some _ from x)
  | ext φ => obtain ⟨_, ⟨_, e⟩, _⟩ := x; exact Heap.lt_size e
theorem Paired.mapP {α β : Type} {F G : α → β → Prop} : ∀ {l₁ : List α} {l₂ : List β}, Paired F l₁ l₂ → (∀ a b, F a b → G a b) → Paired G l₁ l₂
  | _, _, .nil, _ => .nil
  | _, _, .cons r t, f => .cons (f _ _ r) (Paired.mapP t f)
theorem ObjOk.stay (x : ObjOk P w H h a o) (k : ∀ b u, (b = a ∨ H b = some (.own a)) → h.get? b = some u → h'.get? b = some u)
    (ho : ∀ b, H b = some (.own a) → H' b = some (.own a)) (ht : ∀ b xs, H b = some (.tup xs) → H' b = some (.tup xs)) : ObjOk P w H' h' a o := by
  induction o with
  | lst xs => obtain ⟨z, its, n, r, e⟩ := x; exact ⟨z, its, n, r, k _ _ (.inl rfl) e⟩
  | tup xs => obtain ⟨z, its, r, ob, e, c⟩ := x; exact ⟨z, its, r, ob, k _ _ (.inl rfl) e, c⟩
  | dK kvs => obtain ⟨z, y, vs, r, ob, es, ep, e, c⟩ := x; exact ⟨z, y, vs, r, ob, es, ep, k _ _ (.inl rfl) e, c⟩
  | dT kvs =>
    obtain ⟨z, y, xs, r, ob, es, ep, e, c⟩ := x
    exact ⟨z, y, xs, Paired.mapP r fun p q z => ⟨z.1, ht _ _ z.2.1, z.2.2⟩, ob, es, ep, k _ _ (.inl rfl) e, c⟩
  | set S n => obtain ⟨ob, es, ep, t, e, c⟩ := x; exact ⟨ob, es, ep, t, k _ _ (.inl rfl) e, c⟩
  | ins C dx fs =>
    obtain ⟨d, z, ne, e, mA, ⟨od, es, ep, e2, c⟩, r⟩ := x
    exact ⟨ho _ d, z, ne, k _ _ (.inl rfl) e, mA, ⟨od, es, ep, k _ _ (.inr d) e2, c⟩, r⟩
  | own y => obtain ⟨ob, e⟩ := x; exact ⟨ob, k _ _ (.inl rfl) e⟩
  | xd fs => obtain ⟨mA, ⟨od, es, ep, e, c⟩, r⟩ := x; exact ⟨mA, ⟨od, es, ep, k _ _ (.inl rfl) e, c⟩, r⟩
  | rng lo hi => obtain ⟨t, u, v, e⟩ := x; exact ⟨t, u, v, k _ _ (.inl rfl) e⟩
  | frz ob u ih => obtain ⟨e, q⟩ := x; exact ⟨k _ _ (.inl rfl) e, ih q⟩
  | tbl ps =>
    have e : h.get? a = some { cls := .none, data := .fields ps } := x
    show h'.get? a = some { cls := .none, data := .fields ps }
    exact k a _ (.inl rfl) e
  | met f y =>
    have e : h.get? a = some (PySem.W.methodObj (.ref f) (.ref y)) := x
    show h'.get? a = some (PySem.W.methodObj (.ref f) (.ref y))
    exact k a _ (.inl rfl) e
  | ext φ => obtain ⟨p, ⟨o, e⟩, st⟩ := x; exact ⟨st _ _ p fun o q => k _ _ (.inl rfl) q, ⟨o, k _ _ (.inl rfl) e⟩, st⟩
theorem HOk.lt (x : HOk P w H h) (e : H a = some o) : a < h.objs.size := (x a o e).lt
theorem HOk.fresh (x : HOk P w H h) (e : h.objs.size ≤ a) : H a = none := by
  cases q : H a with
  | none => rfl
  | some u => exact absurd (Nat.lt_of_lt_of_le (x.lt q) e) (Nat.lt_irrefl _)
theorem HOk.kept (x : HOk P w H h) (k : ∀ b u, h.get? b = some u → h'.get? b = some u) : HOk P w H h' := fun a o e =>
  (x a o e).stay (fun b u _ q => k b u q) (fun _ q => q) fun _ _ q => q
theorem HOk.laid (x : HOk P w H h) (k : ∀ b u, h.get? b = some u → h'.get? b = some u) (hp : h.objs.size ≤ a) (new : ObjOk P w (upd H a o) h' a o) : HOk P w (upd H a o) h' := fun b u e => by
  have hn := x.fresh hp
  by_cases hb : b = a
  · subst hb; rw [upd_same] at e; cases e; exact new
  · rw [upd_ne hb] at e
    exact (x b u e).stay (fun c v _ q => k c v q) (fun c q => by rw [upd_ne (ne_of_none q hn)]; exact q) fun c xs q => by rw [upd_ne (ne_of_none q hn)]; exact q
end

noncomputable def Rd (H : Hp) (a : Addr) (u : HO) : Prop := H a = some u ∨ ∃ o, H a = some (.frz o u)
theorem Rd.of {H : Hp} {a : Addr} {u : HO} (h : H a = some u) : Rd H a u := .inl h
theorem Rd.ok {P : Program} {w : World} {H : Hp} {h : Heap} {a : Addr} {u : HO} (r : Rd H a u) (x : HOk P w H h) : ObjOk P w H h a u := by
  rcases r with r | ⟨o, r⟩
  · exact x a u r
  · obtain ⟨_, q⟩ := x a _ r
    exact q
noncomputable def Mut : Option HO → Prop
  | some (.lst _) => True
  | some (.dK _) => True
  | some (.dT _) => True
  | some (.set _ _) => True
  | some (.ins _ _ _) => True
  | some (.ext _) => True
  | _ => False
section
variable {P : Program} {w : World} {H : Hp} {h h' : Heap} {x e : Addr} {o' : HO}
theorem HOk.write (ok : HOk P w H h) (mu : Mut (H x)) (he : e = x ∨ H e = some (.own x)) (k : ∀ b u, b ≠ e → h.get? b = some u → h'.get? b = some u) (heo : ∃ u, h'.get? e = some u)
    (new : ObjOk P w (upd H x o') h' x o') : HOk P w (upd H x o') h' := fun b u q => by
  have nown : ∀ c y, H c = some (.own y) → c ≠ x := fun c y r z => by subst z; rw [r] at mu; exact mu
  have ntup : ∀ c xs, H c = some (.tup xs) → c ≠ x := fun c xs r z => by subst z; rw [r] at mu; exact mu
  by_cases hb : b = x
  · subst hb; rw [upd_same] at q; cases q; exact new
  · rw [upd_ne hb] at q
    by_cases hbe : b = e
    · have q' : H b = some (.own x) := by
        rcases he with z | z
        · exact absurd (hbe.trans z) hb
        · rw [hbe]; exact z
      rw [q] at q'; cases q'
      obtain ⟨v, hv⟩ := heo
      exact ⟨v, by rw [hbe]; exact hv⟩
    · refine (ok b u q).stay (fun c v hc r => k c v ?_ r) (fun c r => by rw [upd_ne (nown c b r)]; exact r) fun c xs r => by rw [upd_ne (ntup c xs r)]; exact r
      rcases hc with rfl | hc
      · exact hbe
      · rintro rfl
        rcases he with z | z
        · exact nown c b hc z
        · rw [hc] at z; cases z; exact hb rfl
end

structure Un (fs ex : List Addr) (H H' : Hp) (h h' : Heap) : Prop where
  keep : ∀ b o, h.get? b = some o → H b = none → b ∉ fs → b ∉ ex → h'.get? b = some o
  slot : ∀ b o, h.get? b = some o → H b = none → b ∈ fs → b ∉ ex → ∃ sl, h'.get? b = some { o with slots := sl }
  free : ∀ b o, h.get? b = some o → H b = none → b ∉ ex → H' b = none
  there : ∀ b o, h.get? b = some o → b ∉ ex → ∃ o', h'.get? b = some o'
  tups : ∀ b xs, H b = some (.tup xs) → H' b = some (.tup xs)
  frzs : ∀ b o u, H b = some (.frz o u) → H' b = some (.frz o u)
  tbls : ∀ b ps, H b = some (.tbl ps) → ∃ more, H' b = some (.tbl (ps ++ more))
section
variable {fs fs' ex ex' : List Addr} {H H1 H2 : Hp} {h h1 h2 h' : Heap} {a x e : Addr} {o : HO}
theorem Un.any (u : Un fs ex H H1 h h1) {b : Addr} {ob : Obj} (q : h.get? b = some ob) (n : H b = none) (hx : b ∉ ex) : ∃ sl, h1.get? b = some { ob with slots := sl } := by
  by_cases hb : b ∈ fs
  · exact u.slot b ob q n hb hx
  · exact ⟨ob.slots, u.keep b ob q n hb hx⟩
theorem Un.trans (a : Un fs ex H H1 h h1) (b : Un fs ex H1 H2 h1 h2) : Un fs ex H H2 h h2 where
  keep := fun c ob q n hc hx => b.keep c ob (a.keep c ob q n hc hx) (a.free c ob q n hx) hc hx
  slot := fun c ob q n hc hx => by
    obtain ⟨sl, e1⟩ := a.slot c ob q n hc hx
    obtain ⟨sl', e2⟩ := b.slot c _ e1 (a.free c ob q n hx) hc hx
    exact ⟨sl', e2⟩
  free := fun c ob q n hx => by
    obtain ⟨o', e1⟩ := a.there c ob q hx
    exact b.free c o' e1 (a.free c ob q n hx) hx
  there := fun c ob q hx => by
    obtain ⟨o', e1⟩ := a.there c ob q hx
    exact b.there c o' e1 hx
  tups := fun c xs q => b.tups c xs (a.tups c xs q)
  frzs := fun c ob xs q => b.frzs c ob xs (a.frzs c ob xs q)
  tbls := fun c ps q => by
    obtain ⟨m1, e1⟩ := a.tbls c ps q
    obtain ⟨m2, e2⟩ := b.tbls c _ e1
    exact ⟨m1 ++ m2, by rw [e2, Array.append_assoc]⟩
theorem Un.kept (k : ∀ b u, h.get? b = some u → h'.get? b = some u) : Un fs ex H H h h' :=
  ⟨fun b ob q _ _ _ => k b ob q, fun b ob q _ _ _ => ⟨ob.slots, k b ob q⟩, fun _ _ _ n _ => n, fun b ob q _ => ⟨ob, k b ob q⟩, fun _ _ q => q, fun _ _ _ q => q, fun _ ps q => ⟨#[], by rw [q]; simp⟩⟩
theorem Un.refl : Un fs ex H H h h := Un.kept fun _ _ q => q
theorem Un.laid (k : ∀ b u, h.get? b = some u → h'.get? b = some u) (hp : h.objs.size ≤ a) (hn : H a = none) : Un fs ex H (upd H a o) h h' where
  keep := fun b u q _ _ _ => k b u q
  slot := fun b u q _ _ _ => ⟨u.slots, k b u q⟩
  free := fun b u q n _ => by rw [upd_ne (Nat.ne_of_lt (Nat.lt_of_lt_of_le (Heap.lt_size q) hp))]; exact n
  there := fun b u q _ => ⟨u, k b u q⟩
  tups := fun b xs q => by rw [upd_ne (ne_of_none q hn)]; exact q
  frzs := fun b u xs q => by rw [upd_ne (ne_of_none q hn)]; exact q
  tbls := fun b ps q => ⟨#[], by rw [upd_ne (ne_of_none q hn), q]; simp⟩
theorem Un.write (mu : Mut (H x)) (he : e = x ∨ H e = some (.own x)) (k : ∀ b u, b ≠ e → h.get? b = some u → h'.get? b = some u) (heo : ∃ u, h'.get? e = some u) : Un fs ex H (upd H x o) h h' := by
  have hx : ∀ b, H b = none → b ≠ x := fun b n z => by subst z; rw [n] at mu; exact mu
  have hb : ∀ b, H b = none → b ≠ e := fun b n z => by
    subst z
    rcases he with r | r
    · exact hx b n r
    · rw [n] at r; cases r
  have hm : ∀ b u, H b = some u → ¬ Mut (some u) → b ≠ x := fun b u q nm z => by subst z; rw [q] at mu; exact nm mu
  refine ⟨fun b u q n _ _ => k b u (hb b n) q, fun b u q n _ _ => ⟨u.slots, k b u (hb b n) q⟩, fun b u q n _ => by rw [upd_ne (hx b n)]; exact n, fun b u q _ => ?_,
    fun b xs q => by rw [upd_ne (hm b _ q fun z => z)]; exact q, fun b u xs q => by rw [upd_ne (hm b _ q fun z => z)]; exact q, fun b ps q => ⟨#[], by rw [upd_ne (hm b _ q fun z => z), q]; simp⟩⟩
  by_cases hbe : b = e
  · subst hbe; exact heo
  · exact ⟨u, k b u hbe q⟩
theorem Un.mono (u : Un fs ex H H1 h h1) (hs : ∀ b ∈ fs, b ∈ fs') (hx : ∀ b ∈ ex, b ∈ ex') : Un fs' ex' H H1 h h1 :=
  ⟨fun b ob q n hb he => u.keep b ob q n (fun z => hb (hs b z)) fun z => he (hx b z), fun _ _ q n _ he => u.any q n fun z => he (hx _ z), fun b ob q n he => u.free b ob q n fun z => he (hx b z), fun b ob q he => u.there b ob q fun z => he (hx b z), u.tups, u.frzs, u.tbls⟩
end

noncomputable def trk (h : Heap) (H : Hp) : List Addr := (List.range h.objs.size).filter fun a => (H a).isSome
noncomputable def hidT (h : Heap) (H : Hp) : Heap := PySem.W.hideAll h (trk h H)
theorem hidT_size (h : Heap) (H : Hp) : (hidT h H).objs.size = h.objs.size := PySem.W.hideAll_size _ _
theorem hidT_get {h : Heap} {H : Hp} {b : Addr} {o : Obj} (e : h.get? b = some o) (n : H b = none) : (hidT h H).get? b = some o :=
  PySem.W.hideAll_get _ e fun hm => by
    have q : (H b).isSome = true := (List.mem_filter.mp hm).2
    rw [n] at q; simp at q
theorem of_hidT {h : Heap} {H : Hp} {b : Addr} {o : Obj} (e : (hidT h H).get? b = some o) : h.get? b = some o ∧ H b = none := by
  have e' : h.get? b = some o := PySem.W.of_hideAll (trk h H) e
  refine ⟨e', ?_⟩
  cases q : H b with
  | none => rfl
  | some x =>
    have hm : b ∈ trk h H := List.mem_filter.mpr ⟨List.mem_range.mpr (Heap.lt_size e'), by simp [q]⟩
    have z : (hidT h H).get? b = none := PySem.W.hideAll_none (trk h H) hm
    rw [z] at e; cases e

noncomputable def allNews (g h : Heap) (L : Addr) : List (Addr × Obj) := (List.range h.objs.size).filterMap fun a => if a = L ∨ (g.get? a).isSome = true then none else (h.get? a).map fun o => (a, o)
noncomputable def rest (g h : Heap) (L d : Addr) : List (Addr × Obj) := (allNews g h L).filter fun p => decide (p.1 ≠ d)
end L2

namespace L2
open PySem PySem.Spec PyProof.Rows

structure Mod (K : PySem.W.Frag) (mg : Str → Option Value) (base : Heap) : Prop where
  kin : K.In base
  glob : base.Ns mainGlobals mg
  blt : ∃ mb, base.Ns builtinsNs mb ∧ ∀ x : Str, x ≠ "__name__" → mb x = bootBuiltins x
  nolimit : base.NoLimit

structure Cx where
  prog : Program
  w : World
  K : PySem.W.Frag
  mg : Str → Option Value
  base : Heap
  A : Around
  N : List Str
  s₀ : Shared
  H₀ : Hp
  env : Env
  outer : List Env
  stack : List Env
  ex : List Addr
  fn : Str → Bool
  calm : Bool
  pn : List (Addr × Obj)
  xe : Value → Shared → Prop
noncomputable def frs (l : List Env) : List Addr := l.filterMap (·.frame)
noncomputable abbrev Cx.fs (X : Cx) : List Addr := frs X.outer

noncomputable def Vis (sc : Scope) (x : Str) : Prop := sc.names.lookup x = some .local ∨ sc.names.lookup x = some .cell ∨ sc.names.lookup x = some .free
noncomputable def Loc (sc : Scope) (x : Str) : Prop := sc.names.lookup x = some .local ∨ sc.names.lookup x = some .cell
noncomputable def Look (env : Env) (h : Heap) (m : Str → Option Value) (x : Str) (u : Value) : Prop :=
  (env.kindOf x = some .local ∧ m x = some u) ∨ ((env.kindOf x = some .cell ∨ env.kindOf x = some .free) ∧ ∃ c, env.cells.lookup x = some c ∧ h.IsCell c (some u))

structure Cx.Ok (X : Cx) : Prop where
  mod : Mod X.K X.mg X.base
  kind : X.env.scope.kind = .function
  glob : X.env.globals = mainGlobals
  blt : X.env.builtins = builtinsNs
  above : X.s₀.heap.objs.size ≤ X.env.locals
  inj : ∀ x y c, X.env.cells.lookup x = some c → X.env.cells.lookup y = some c → x = y
  has : ∀ x, (X.env.kindOf x = some .cell ∨ X.env.kindOf x = some .free) → ∃ c, X.env.cells.lookup x = some c
  cab : ∀ x c, X.fn x = true → X.env.cells.lookup x = some c → X.s₀.heap.objs.size ≤ c
  hd : X.calm = true → X.A.handled = none
  frames : X.A.frames = some X.stack
  stk : X.stack = X.outer ∨ (X.stack = X.env :: X.outer ∧ X.env.frame = some X.env.locals)
  exf : ∀ b ∈ X.ex, b ≠ X.env.locals ∧ ∀ x c, X.env.cells.lookup x = some c → c ≠ b
  bs : ∀ b o, X.base.get? b = some o → X.s₀.heap.get? b = some o ∧ X.H₀ b = none
  bsz : X.base.objs.size ≤ X.s₀.heap.objs.size
  noex : ∀ b o, X.base.get? b = some o → b ∉ X.ex
  exfs : ∀ b ∈ X.ex, b ∉ X.fs
  funs : X.s₀.heap.FunFrames X.base X.outer
  frf : ∀ b ∈ X.fs, X.H₀ b = none

structure Inv (X : Cx) (pins : List (Addr × Obj)) (σ : List (Option V)) (H : Hp) (s : Shared) : Prop where
  ok : X.Ok
  os : s.os = X.s₀.os
  bare : AllBare s.gens
  base : Un X.fs X.ex X.H₀ H X.s₀.heap s.heap
  loc : ∃ m, s.heap.Ns X.env.locals m ∧ ∀ (i : Nat) (x : Str) (v : V), X.N[i]? = some x → σ[i]? = some (some v) → Vis X.env.scope x → ∃ u, RelV v u ∧ Look X.env s.heap m x u
  cell : ∀ x c, X.env.cells.lookup x = some c → ∃ v, s.heap.IsCell c v
  free : H X.env.locals = none
  freeC : ∀ x c, X.env.cells.lookup x = some c → H c = none
  pin : ∀ p ∈ X.pn ++ pins, s.heap.get? p.1 = some p.2 ∧ H p.1 = none ∧ p.1 ≠ X.env.locals ∧ p.1 ∉ X.fs ∧ ∀ v, p.2.data ≠ .cell v
  hok : HOk X.prog X.w H s.heap
  len : σ.length = X.N.length

section
variable {X : Cx} {pins : List (Addr × Obj)} {σ : List (Option V)} {H H' : Hp} {s : Shared} {h' : Heap}

theorem Cx.Ok.nofr (ok : X.Ok) {b : Addr} {o : Obj} (e : X.base.get? b = some o) : b ∉ X.fs := fun hb => by
  have := (ok.funs.mem hb).1
  rw [e] at this; cases this
theorem Inv.bs (I : Inv X pins σ H s) : ∀ b o, X.base.get? b = some o → s.heap.get? b = some o ∧ H b = none := fun b o e =>
  ⟨I.base.keep b o (I.ok.bs b o e).1 (I.ok.bs b o e).2 (I.ok.nofr e) (I.ok.noex b o e), I.base.free b o (I.ok.bs b o e).1 (I.ok.bs b o e).2 (I.ok.noex b o e)⟩
theorem Inv.bk (I : Inv X pins σ H s) : ∀ b o, X.base.get? b = some o → s.heap.get? b = some o := fun b o e => (I.bs b o e).1
theorem Inv.mod (I : Inv X pins σ H s) : Mod X.K X.mg X.base := I.ok.mod
theorem Inv.kIn (I : Inv X pins σ H s) : X.K.In s.heap := I.ok.mod.kin.keeps I.bk
theorem Inv.nolimit (I : Inv X pins σ H s) : s.heap.NoLimit := I.ok.mod.nolimit.keeps I.bk
theorem Inv.fr (I : Inv X pins σ H s) : ∃ m, Fr X.base X.env.locals s.heap m :=
  let ⟨m, hn, _⟩ := I.loc
  ⟨m, hn, I.bk, Nat.le_trans I.ok.bsz I.ok.above⟩
theorem Inv.lt (I : Inv X pins σ H s) : X.env.locals < s.heap.objs.size := let ⟨_, hn, _⟩ := I.loc; hn.lt
theorem Inv.sz (I : Inv X pins σ H s) : X.s₀.heap.objs.size ≤ s.heap.objs.size := Nat.le_trans I.ok.above (Nat.le_of_lt I.lt)
theorem Inv.nofs (I : Inv X pins σ H s) {a : Addr} (h : s.heap.objs.size ≤ a) : a ∉ X.fs := fun hb => by
  obtain ⟨_, o, ho, _⟩ := I.ok.funs.mem hb
  exact absurd (Nat.lt_of_lt_of_le (Heap.lt_size ho) (Nat.le_trans I.sz h)) (Nat.lt_irrefl _)
theorem Inv.cne (I : Inv X pins σ H s) : ∀ x c, X.env.cells.lookup x = some c → c ≠ X.env.locals := fun x c e z => by
  obtain ⟨v, o, ho, hd⟩ := I.cell x c e
  obtain ⟨m, ⟨o', es, ep, ho', hd', _⟩, _⟩ := I.loc
  rw [z, ho'] at ho; cases ho; rw [hd'] at hd; cases hd
theorem Inv.funs (I : Inv X pins σ H s) : s.heap.FunFrames X.base X.outer := by
  have all : ∀ (l : List Env), (∀ b ∈ frs l, b ∈ X.fs) → X.s₀.heap.FunFrames X.base l → s.heap.FunFrames X.base l := by
    intro l
    induction l with
    | nil => intro _ _; trivial
    | cons env r ih =>
      intro hs hl
      obtain ⟨hk, ⟨L, o, hf, hn, ho, hd⟩, hr⟩ := hl
      have hL : L ∈ X.fs := hs L (by unfold frs; rw [List.filterMap_cons, hf]; exact List.mem_cons_self)
      obtain ⟨sl, e⟩ := I.base.slot L o ho (I.ok.frf L hL) hL fun z => I.ok.exfs L z hL
      exact ⟨hk, ⟨L, _, hf, hn, e, hd⟩, ih (fun b hb => hs b (by unfold frs; rw [List.filterMap_cons, hf]; exact List.mem_cons_of_mem _ hb)) hr⟩
  exact all X.outer (fun _ hb => hb) I.ok.funs

theorem Inv.stack (I : Inv X pins σ H s) : s.heap.FunFrames X.base X.stack := by
  rcases I.ok.stk with e | ⟨e, hf⟩
  · rw [e]; exact I.funs
  · rw [e]
    obtain ⟨m, hn, _⟩ := I.loc
    refine .cons (by rw [I.ok.kind]; decide) hf hn ?_ I.funs
    exact Heap.get?_none_of_le (Nat.le_trans I.ok.bsz I.ok.above)
theorem Inv.stkSub (I : Inv X pins σ H s) : ∀ b ∈ frs X.stack, b ∈ X.env.locals :: X.fs := fun b hb => by
  rcases I.ok.stk with e | ⟨e, hf⟩
  · rw [e] at hb; exact List.mem_cons_of_mem _ hb
  · rw [e] at hb
    unfold frs at hb
    rw [List.filterMap_cons, hf] at hb
    exact hb
theorem Inv.stkFree (I : Inv X pins σ H s) : ∀ b ∈ frs X.stack, H b = none := fun b hb => by
  rcases List.mem_cons.mp (I.stkSub b hb) with e | hb
  · rw [e]; exact I.free
  · obtain ⟨_, o, ho, _⟩ := I.ok.funs.mem hb
    exact I.base.free b o ho (I.ok.frf b hb) fun z => I.ok.exfs b z hb

theorem Inv.step {g' : Array GenState} {t' : Nat} {d' : Drawn} {ch : List Addr} (I : Inv X pins σ H s)
    (hch : ∀ b ∈ ch, (b ∈ X.ex ∨ X.s₀.heap.objs.size ≤ b) ∧ b ≠ X.env.locals ∧ (∀ x c, X.env.cells.lookup x = some c → c ≠ b) ∧ ∀ p ∈ X.pn ++ pins, p.1 ≠ b)
    (keep : ∀ b o, b ≠ X.env.locals → b ∉ X.fs → b ∉ ch → s.heap.get? b = some o → H b = none → h'.get? b = some o)
    (slot : ∀ b o, b ≠ X.env.locals → b ∈ X.fs → b ∉ ch → s.heap.get? b = some o → H b = none → ∃ sl, h'.get? b = some { o with slots := sl }) (free : ∀ b o, b ∉ ch → s.heap.get? b = some o → H b = none → H' b = none)
    (there : ∀ b o, b ∉ ch → s.heap.get? b = some o → ∃ o', h'.get? b = some o')
    (tups : ∀ b xs, H b = some (.tup xs) → H' b = some (.tup xs)) (frzs : ∀ b o u, H b = some (.frz o u) → H' b = some (.frz o u)) (tbls : ∀ b ps, H b = some (.tbl ps) → ∃ more, H' b = some (.tbl (ps ++ more)))
    (ns : ∀ m, s.heap.Ns X.env.locals m → h'.Ns X.env.locals m) (hok : HOk X.prog X.w H' h') (hg : AllBare g') :
    Inv X pins σ H' { s with heap := h', gens := g', drawn := d', toks := t' } := by
  have neL : ∀ b o, X.s₀.heap.get? b = some o → b ≠ X.env.locals := fun b o e => Nat.ne_of_lt (Nat.lt_of_lt_of_le (Heap.lt_size e) I.ok.above)
  have neC : ∀ b o, X.s₀.heap.get? b = some o → b ∉ X.ex → b ∉ ch := fun b o e hx hb => by
    rcases (hch b hb).1 with z | z
    · exact hx z
    · exact absurd (Nat.lt_of_lt_of_le (Heap.lt_size e) z) (Nat.lt_irrefl _)
  have cellK : ∀ x c, X.env.cells.lookup x = some c → ∀ v, s.heap.IsCell c v → h'.IsCell c v := fun x c e v ⟨o, ho, hd⟩ => by
    have nch : c ∉ ch := fun z => (hch c z).2.2.1 x c e rfl
    by_cases hc : c ∈ X.fs
    · obtain ⟨sl, q⟩ := slot c o (I.cne x c e) hc nch ho (I.freeC x c e)
      exact ⟨_, q, hd⟩
    · exact ⟨o, keep c o (I.cne x c e) hc nch ho (I.freeC x c e), hd⟩
  refine ⟨I.ok, I.os, hg, ⟨fun b o e n hb hx => ?_, fun b o e n hb hx => ?_, fun b o e n hx => ?_, fun b o e hx => ?_, fun b xs e => tups b xs (I.base.tups b xs e), fun b o xs e => frzs b o xs (I.base.frzs b o xs e), fun b ps e => ?_⟩, ?_, fun x c e => ?_, ?_, fun x c e => ?_, fun p hp => ?_, hok, I.len⟩
  · exact keep b o (neL b o e) hb (neC b o e hx) (I.base.keep b o e n hb hx) (I.base.free b o e n hx)
  · obtain ⟨sl, e1⟩ := I.base.slot b o e n hb hx
    obtain ⟨sl', e2⟩ := slot b _ (neL b o e) hb (neC b o e hx) e1 (I.base.free b o e n hx)
    exact ⟨sl', e2⟩
  · obtain ⟨o', e1⟩ := I.base.there b o e hx
    exact free b o' (neC b o e hx) e1 (I.base.free b o e n hx)
  · obtain ⟨o', e1⟩ := I.base.there b o e hx
    exact there b o' (neC b o e hx) e1
  · obtain ⟨m1, e1⟩ := I.base.tbls b ps e
    obtain ⟨m2, e2⟩ := tbls b _ e1
    exact ⟨m1 ++ m2, by rw [e2, Array.append_assoc]⟩
  · obtain ⟨m, hn, hl⟩ := I.loc
    refine ⟨m, ns m hn, fun i x v e1 e2 e3 => ?_⟩
    obtain ⟨u, r, l⟩ := hl i x v e1 e2 e3
    refine ⟨u, r, ?_⟩
    rcases l with l | ⟨k, c, e, z⟩
    · exact .inl l
    · exact .inr ⟨k, c, e, cellK x c e _ z⟩
  · obtain ⟨v, z⟩ := I.cell x c e
    exact ⟨v, cellK x c e v z⟩
  · obtain ⟨m, ⟨o, _, _, ho, _⟩, _⟩ := I.loc
    exact free _ o (fun z => (hch _ z).2.1 rfl) ho I.free
  · obtain ⟨v, o, ho, hd⟩ := I.cell x c e
    exact free c o (fun z => (hch c z).2.2.1 x c e rfl) ho (I.freeC x c e)
  · obtain ⟨e, n, ne, nf, d⟩ := I.pin p hp
    have nch : p.1 ∉ ch := fun z => (hch p.1 z).2.2.2 p hp rfl
    exact ⟨keep p.1 p.2 ne nf nch e n, free p.1 p.2 nch e n, ne, nf, d⟩
theorem Inv.un {t' : Nat} (I : Inv X pins σ H s) (u : Un X.fs [] H H' s.heap h') (hok : HOk X.prog X.w H' h') : Inv X pins σ H' { s with heap := h', toks := t' } := by
  obtain ⟨m, ⟨o, es, ep, ho, r⟩, _⟩ := id I.loc
  obtain ⟨sl, hL⟩ := u.any ho I.free (by simp)
  exact I.step (g' := s.gens) (d' := s.drawn) (ch := []) (fun _ z => nomatch z) (fun b o _ hb _ e n => u.keep b o e n hb (by simp)) (fun b o _ hb _ e n => u.slot b o e n hb (by simp)) (fun b o _ e n => u.free b o e n (by simp)) (fun b o _ e => u.there b o e (by simp)) u.tups u.frzs u.tbls (fun m' hm => by
    obtain ⟨o', es', ep', ho', r'⟩ := hm
    rw [ho] at ho'; cases ho'
    exact ⟨_, es', ep', hL, r'⟩) hok I.bare
theorem Inv.call {g' : Array GenState} {t' : Nat} {d' : Drawn} {ch : List Addr} (I : Inv X pins σ H s) (u : Un (frs X.stack) ch H H' s.heap h') (hok : HOk X.prog X.w H' h') (hg : AllBare g')
    (hch : ∀ b ∈ ch, (b ∈ X.ex ∨ X.s₀.heap.objs.size ≤ b) ∧ b ≠ X.env.locals ∧ (∀ x c, X.env.cells.lookup x = some c → c ≠ b) ∧ ∀ p ∈ X.pn ++ pins, p.1 ≠ b) :
    Inv X pins σ H' { s with heap := h', gens := g', drawn := d', toks := t' } := by
  obtain ⟨m, ⟨o, es, ep, ho, r⟩, _⟩ := id I.loc
  obtain ⟨sl, hL⟩ := u.any ho I.free fun z => (hch _ z).2.1 rfl
  exact I.step (ch := ch) hch (fun b o hL hb hc e n => u.keep b o e n (fun z => (List.mem_cons.mp (I.stkSub b z)).elim hL hb) hc) (fun b o _ _ hc e n => u.any e n hc) (fun b o hc e n => u.free b o e n hc) (fun b o hc e => u.there b o e hc) u.tups u.frzs u.tbls (fun m' hm => by
    obtain ⟨o', es', ep', ho', r'⟩ := hm
    rw [ho] at ho'; cases ho'
    exact ⟨_, es', ep', hL, r'⟩) hok hg
theorem Inv.turned {t' : Nat} {it : Addr} (I : Inv X pins σ H s) (k : ∀ b o, b ≠ it → s.heap.get? b = some o → h'.get? b = some o) (hn : H it = none) (hL : it ≠ X.env.locals)
    (h1 : it ∈ X.ex ∨ X.s₀.heap.objs.size ≤ it) (h2 : ∀ x c, X.env.cells.lookup x = some c → c ≠ it) (h3 : ∀ p ∈ X.pn ++ pins, p.1 ≠ it) : Inv X pins σ H { s with heap := h', toks := t' } := by
  have nit : ∀ b u, H b = some u → b ≠ it := fun b u e z => by rw [z, hn] at e; cases e
  refine I.step (g' := s.gens) (d' := s.drawn) (ch := [it]) (fun b hb => ?_) (fun b o _ _ hc e _ => k b o (fun z => hc (by simp [z])) e) (fun b o _ _ hc e _ => ⟨o.slots, k b o (fun z => hc (by simp [z])) e⟩) (fun _ _ _ _ n => n)
    (fun b o hc e => ⟨o, k b o (fun z => hc (by simp [z])) e⟩) (fun _ _ e => e) (fun _ _ _ e => e) (fun b ps e => ⟨#[], by rw [e]; simp⟩) (fun m hm => ?_) (fun b u e => ?_) I.bare
  · have e : b = it := by simpa using hb
    subst e
    exact ⟨h1, hL, h2, h3⟩
  · obtain ⟨o, es, ep, ho, r⟩ := hm
    exact ⟨o, es, ep, k _ o (Ne.symm hL) ho, r⟩
  · refine (I.hok b u e).stay (fun c v hc q => k c v ?_ q) (fun _ q => q) fun _ _ q => q
    rcases hc with z | z
    · rw [z]; exact nit b u e
    · exact nit c _ z
theorem Inv.tok (I : Inv X pins σ H s) (t : Nat) : Inv X pins σ H { s with toks := t } := I.un (h' := s.heap) (t' := t) Un.refl I.hok
theorem Inv.kept {t' : Nat} (I : Inv X pins σ H s) (k : ∀ b u, s.heap.get? b = some u → h'.get? b = some u) : Inv X pins σ H { s with heap := h', toks := t' } := I.un (Un.kept k) (I.hok.kept k)
theorem Inv.laid {a : Addr} {o : HO} {t' : Nat} (I : Inv X pins σ H s) (k : ∀ b u, s.heap.get? b = some u → h'.get? b = some u) (hp : s.heap.objs.size ≤ a) (new : ObjOk X.prog X.w (upd H a o) h' a o) :
    Inv X pins σ (upd H a o) { s with heap := h', toks := t' } := I.un (Un.laid k hp (I.hok.fresh hp)) (I.hok.laid k hp new)
theorem Inv.write {x e : Addr} {o : HO} {t' : Nat} (I : Inv X pins σ H s) (mu : Mut (H x)) (he : e = x ∨ H e = some (.own x)) (k : ∀ b u, b ≠ e → s.heap.get? b = some u → h'.get? b = some u) (heo : ∃ u, h'.get? e = some u)
    (new : ObjOk X.prog X.w (upd H x o) h' x o) : Inv X pins σ (upd H x o) { s with heap := h', toks := t' } := I.un (Un.write mu he k heo) (I.hok.write mu he k heo new)
theorem Inv.weak {σ' : List (Option V)} (I : Inv X pins σ H s) (hl : σ'.length = σ.length) (w : ∀ (i : Nat) v, σ'[i]? = some (some v) → σ[i]? = some (some v)) : Inv X pins σ' H s :=
  ⟨I.ok, I.os, I.bare, I.base, let ⟨m, hn, hl'⟩ := I.loc; ⟨m, hn, fun i x v e1 e2 e3 => hl' i x v e1 (w i v e2) e3⟩, I.cell, I.free, I.freeC, I.pin, I.hok, hl.trans I.len⟩
theorem Inv.pins_of {pins' : List (Addr × Obj)} (I : Inv X pins σ H s) (h : ∀ p ∈ pins', s.heap.get? p.1 = some p.2 ∧ H p.1 = none ∧ p.1 ≠ X.env.locals ∧ p.1 ∉ X.fs ∧ ∀ v, p.2.data ≠ .cell v) : Inv X pins' σ H s :=
  ⟨I.ok, I.os, I.bare, I.base, I.loc, I.cell, I.free, I.freeC, fun p hp => (List.mem_append.mp hp).elim (fun z => I.pin p (List.mem_append_left _ z)) (h p), I.hok, I.len⟩

theorem nodup_ix {N : List Str} (hN : N.Nodup) {i j : Nat} {x : Str} (a : N[i]? = some x) (b : N[j]? = some x) : i = j := by
  obtain ⟨h1, e1⟩ := List.getElem?_eq_some_iff.mp a
  obtain ⟨h2, e2⟩ := List.getElem?_eq_some_iff.mp b
  exact (List.getElem_inj hN).mp (e1.trans e2.symm)

theorem store_ok2 {M : Model} {A : Around} {E : Value → Shared → Prop} {i : Nat} {x : Str} {v : V} {u : Value} {Q : Unit → Shared → Prop} (I : Inv X pins σ H s) (hN : X.N.Nodup) (hi : X.N[i]? = some x) (hx : Loc X.env.scope x) (r : RelV v u)
    (h : ∀ s', Inv X pins (σ.set i (some v)) H s' → (∃ a, Heap.SameBut a s.heap s'.heap ∧ (a = X.env.locals ∨ X.env.cells.lookup x = some a)) → Q () s') (hf : X.fn x = true ∨ X.env.scope.names.lookup x = some .local := by first | exact .inl rfl | exact .inr rfl | assumption) : wpAny M A (storeName X.env x u) Q E s := by
  obtain ⟨m, hn, hl⟩ := id I.loc
  have hcls : (X.env.scope.kind == .class || (X.env.scope.kind == .module && X.env.locals != X.env.globals)) = false := by rw [I.ok.kind]; rfl
  have hiσ : i < σ.length := by rw [I.len]; exact (List.getElem?_eq_some_iff.mp hi).1
  have cne := I.cne
  have tracked : ∀ {a : Addr} {h' : Heap}, (∃ o, s.heap.get? a = some o ∧ H a = none) → Heap.SameBut a s.heap h' → HOk X.prog X.w H h' := fun {a h'} ha hs b ob e => by
    obtain ⟨_, _, hfree⟩ := ha
    refine (I.hok b ob e).stay (fun c w' hc q => (hs.2 c ?_).trans q) (fun _ q => q) fun _ _ q => q
    rintro rfl
    rcases hc with rfl | hc
    · rw [hfree] at e; cases e
    · rw [hfree] at hc; cases hc
  rcases hx with hk | hk
  · refine wpAny_storeName_local hk hn (fun h' hn' hs => ?_) hcls
    obtain ⟨oL, _, _, hoL, _⟩ := id hn
    refine h _ ⟨I.ok, I.os, I.bare, ⟨fun b o e n hb hx => ?_, fun b o e n hb hx => ?_, I.base.free, fun b o e hx => ?_, I.base.tups, I.base.frzs, I.base.tbls⟩, ⟨_, hn', fun j y v' e1 e2 e3 => ?_⟩, fun y c e => ?_, I.free, I.freeC, fun p hp => ?_, tracked ⟨oL, hoL, I.free⟩ hs, by simpa using I.len⟩ ⟨_, hs, .inl rfl⟩
    · exact (hs.2 b (Nat.ne_of_lt (Nat.lt_of_lt_of_le (Heap.lt_size e) I.ok.above))).trans (I.base.keep b o e n hb hx)
    · obtain ⟨sl, e1⟩ := I.base.slot b o e n hb hx
      exact ⟨sl, (hs.2 b (Nat.ne_of_lt (Nat.lt_of_lt_of_le (Heap.lt_size e) I.ok.above))).trans e1⟩
    · obtain ⟨o', e1⟩ := I.base.there b o e hx
      exact ⟨o', (hs.2 b (Nat.ne_of_lt (Nat.lt_of_lt_of_le (Heap.lt_size e) I.ok.above))).trans e1⟩
    · by_cases hj : j = i
      · subst hj
        rw [hi] at e1; cases e1
        rw [List.getElem?_set_self hiσ] at e2
        cases e2
        exact ⟨u, r, .inl ⟨hk, by simp⟩⟩
      · rw [List.getElem?_set_ne (Ne.symm hj)] at e2
        obtain ⟨u', r', q⟩ := hl j y v' e1 e2 e3
        refine ⟨u', r', ?_⟩
        rcases q with ⟨k, e⟩ | ⟨k, c, e, z⟩
        · refine .inl ⟨k, ?_⟩
          have : y ≠ x := fun e => hj (nodup_ix hN e1 (e ▸ hi))
          simp [this, e]
        · exact .inr ⟨k, c, e, z.sameBut hs (cne y c e)⟩
    · obtain ⟨w', z⟩ := I.cell y c e
      exact ⟨w', z.sameBut hs (cne y c e)⟩
    · obtain ⟨e, n, ne, nf, d⟩ := I.pin p hp
      exact ⟨(hs.2 p.1 ne).trans e, n, ne, nf, d⟩
  · have hfn : X.fn x = true := by
      rcases hf with z | z
      · exact z
      · rw [z] at hk; cases hk
    obtain ⟨c, hc⟩ := I.ok.has x (.inl hk)
    obtain ⟨w', z⟩ := I.cell x c hc
    refine wpAny_storeName_cell I.ok.kind hk hc z (fun h' hc' hs => ?_)
    obtain ⟨oc, hoc, hocd⟩ := id z
    refine h { s with heap := h' } ⟨I.ok, I.os, I.bare, ⟨fun b o e n hb hx => ?_, fun b o e n hb hx => ?_, I.base.free, fun b o e hx => ?_, I.base.tups, I.base.frzs, I.base.tbls⟩, ⟨m, hn.sameBut hs (Ne.symm (cne x c hc)), fun j y v' e1 e2 e3 => ?_⟩, fun y c' e => ?_, I.free, I.freeC, fun p hp => ?_, tracked ⟨oc, hoc, I.freeC x c hc⟩ hs, by simpa using I.len⟩ ⟨c, hs, .inr hc⟩
    · exact (hs.2 b (Nat.ne_of_lt (Nat.lt_of_lt_of_le (Heap.lt_size e) (I.ok.cab x c hfn hc)))).trans (I.base.keep b o e n hb hx)
    · obtain ⟨sl, e1⟩ := I.base.slot b o e n hb hx
      exact ⟨sl, (hs.2 b (Nat.ne_of_lt (Nat.lt_of_lt_of_le (Heap.lt_size e) (I.ok.cab x c hfn hc)))).trans e1⟩
    · obtain ⟨o', e1⟩ := I.base.there b o e hx
      exact ⟨o', (hs.2 b (Nat.ne_of_lt (Nat.lt_of_lt_of_le (Heap.lt_size e) (I.ok.cab x c hfn hc)))).trans e1⟩
    · by_cases hj : j = i
      · subst hj
        rw [hi] at e1; cases e1
        rw [List.getElem?_set_self hiσ] at e2
        cases e2
        exact ⟨u, r, .inr ⟨.inl hk, c, hc, hc'⟩⟩
      · rw [List.getElem?_set_ne (Ne.symm hj)] at e2
        obtain ⟨u', r', q⟩ := hl j y v' e1 e2 e3
        refine ⟨u', r', ?_⟩
        rcases q with q | ⟨k, c', e, z'⟩
        · exact .inl q
        · refine .inr ⟨k, c', e, z'.sameBut hs ?_⟩
          rintro rfl
          exact hj (nodup_ix hN e1 (I.ok.inj _ _ _ e hc ▸ hi))
    · by_cases hcc : c' = c
      · subst hcc; exact ⟨_, hc'⟩
      · obtain ⟨w2, z2⟩ := I.cell y c' e
        exact ⟨w2, z2.sameBut hs hcc⟩
    · obtain ⟨e, n, ne, nf, d⟩ := I.pin p hp
      refine ⟨(hs.2 p.1 ?_).trans e, n, ne, nf, d⟩
      intro q
      rw [q, hoc] at e
      have q' : oc = p.2 := Option.some.inj e
      exact d w' (by rw [← q']; exact hocd)
theorem store_ok {M : Model} {A : Around} {E : Value → Shared → Prop} {i : Nat} {x : Str} {v : V} {u : Value} {Q : Unit → Shared → Prop} (I : Inv X pins σ H s) (hN : X.N.Nodup) (hi : X.N[i]? = some x) (hx : Loc X.env.scope x) (r : RelV v u)
    (h : ∀ s', Inv X pins (σ.set i (some v)) H s' → Q () s') (hf : X.fn x = true ∨ X.env.scope.names.lookup x = some .local := by first | exact .inl rfl | exact .inr rfl | assumption) : wpAny M A (storeName X.env x u) Q E s :=
  store_ok2 I hN hi hx r (fun s' I' _ => h s' I') hf
theorem Inv.call' {s' : Shared} {ch : List Addr} (I : Inv X pins σ H s) (ho : s'.os = s.os) (u : Un (frs X.stack) ch H H' s.heap s'.heap) (hok : HOk X.prog X.w H' s'.heap) (hg : AllBare s'.gens)
    (hch : ∀ b ∈ ch, (b ∈ X.ex ∨ X.s₀.heap.objs.size ≤ b) ∧ b ≠ X.env.locals ∧ (∀ x c, X.env.cells.lookup x = some c → c ≠ b) ∧ ∀ p ∈ X.pn ++ pins, p.1 ≠ b) : Inv X pins σ H' s' := by
  obtain ⟨h', g', d', t', o'⟩ := s'
  have e : o' = s.os := ho
  subst e
  exact I.call (g' := g') (t' := t') (d' := d') u hok hg hch
end

noncomputable abbrev XK := Value → Option Addr → Hp → Prop
noncomputable abbrev St := List (Option V)
noncomputable abbrev VK := V → Hp → Prop
noncomputable abbrev TE := St → Hp → VK → Prop
noncomputable abbrev TT := St → Hp → (Bool → Hp → Prop) → Prop
noncomputable abbrev TA := St → Hp → (List V → Hp → Prop) → Prop
structure Ends where
  nx : St → Hp → Prop
  rt : VK
  bk : St → Hp → Prop := fun _ _ => False
  ct : St → Hp → Prop := fun _ _ => False
noncomputable abbrev TS := Ends → St → Hp → Prop

noncomputable def EP (X : Cx) (pins : List (Addr × Obj)) (σ : St) (Q : VK) (u : Value) (s' : Shared) : Prop := ∃ v H', Inv X pins σ H' s' ∧ RelV v u ∧ Q v H'
noncomputable def TP (X : Cx) (pins : List (Addr × Obj)) (σ : St) (Q : Bool → Hp → Prop) (b : Bool) (s' : Shared) : Prop := ∃ H', Inv X pins σ H' s' ∧ Q b H'
noncomputable def AP (X : Cx) (pins : List (Addr × Obj)) (σ : St) (Q : List V → Hp → Prop) (us : List Value) (s' : Shared) : Prop := ∃ vs H', Inv X pins σ H' s' ∧ Vals vs us ∧ Q vs H'
noncomputable def SP (X : Cx) (pins : List (Addr × Obj)) (D : Ends) (f : Flow) (s' : Shared) : Prop :=
  match f with
  | .next => ∃ σ' H', Inv X pins σ' H' s' ∧ D.nx σ' H'
  | .brk => ∃ σ' H', Inv X pins σ' H' s' ∧ D.bk σ' H'
  | .cont => ∃ σ' H', Inv X pins σ' H' s' ∧ D.ct σ' H'
  | .ret u => ∃ v σ' H', Inv X pins σ' H' s' ∧ RelV v u ∧ D.rt v H'

noncomputable def PE (X : Cx) (e : Expr) (t : TE) : Prop :=
  ∀ (pins : List (Addr × Obj)) (s : Shared) (σ : St) (H : Hp) (Q : VK), Inv X pins σ H s → t σ H Q → wpAny (model X.prog X.w) X.A (eval e X.env) (EP X pins σ Q) X.xe s
noncomputable def PT (X : Cx) (e : Expr) (t : TT) : Prop :=
  ∀ (pins : List (Addr × Obj)) (s : Shared) (σ : St) (H : Hp) (Q : Bool → Hp → Prop), Inv X pins σ H s → t σ H Q → wpAny (model X.prog X.w) X.A (isTrue e X.env (eval e X.env)) (TP X pins σ Q) X.xe s
noncomputable def PW (X : Cx) (e : Expr) (t : TT) : Prop :=
  ∀ (whole : Sem Value) (pins : List (Addr × Obj)) (s : Shared) (σ : St) (H : Hp) (Q : Bool → Hp → Prop), Inv X pins σ H s → t σ H Q → wpAny (model X.prog X.w) X.A (isTrue e X.env whole) (TP X pins σ Q) X.xe s
theorem PW.pt {X : Cx} {e : Expr} {t : TT} (h : PW X e t) : PT X e t := h _
noncomputable def PA (X : Cx) (es : List Expr) (t : TA) : Prop :=
  ∀ (pos : Pos) (pins : List (Addr × Obj)) (s : Shared) (σ : St) (H : Hp) (Q : List V → Hp → Prop), Inv X pins σ H s → t σ H Q → wpAny (model X.prog X.w) X.A (spliced (backTo pos (starEach es X.env))) (AP X pins σ Q) X.xe s
noncomputable def PS (X : Cx) (st : Stmt) (t : TS) : Prop :=
  ∀ (pins : List (Addr × Obj)) (s : Shared) (σ : St) (H : Hp) (D : Ends), Inv X pins σ H s → t D σ H → wpAny (model X.prog X.w) X.A (exec st X.env) (SP X pins D) X.xe s
noncomputable def PSs (X : Cx) (st : List Stmt) (t : TS) : Prop :=
  ∀ (pins : List (Addr × Obj)) (s : Shared) (σ : St) (H : Hp) (D : Ends), Inv X pins σ H s → t D σ H → wpAny (model X.prog X.w) X.A (execs st X.env) (SP X pins D) X.xe s
theorem thn {α : Type} {t : Sem α} {Q Q' : α → Shared → Prop} {M : Model} {A : Around} {E : Value → Shared → Prop} {s : Shared} (h : wpAny M A t Q E s) (hQ : ∀ a s, Q a s → Q' a s) : wpAny M A t Q' E s := wpAny_mono h hQ fun _ _ x => x
end L2

namespace L2
open PySem PySem.Spec PyProof.Rows
section
variable {X : Cx}

noncomputable def tVar (i : Nat) : TE := fun σ H Q => ∃ v, σ[i]? = some (some v) ∧ Q v H
noncomputable def tC (v : V) : TE := fun _ H Q => Q v H
theorem pe_var {i : Nat} {x : Str} {pos : Pos} (hN : X.N[i]? = some x) (hv : Vis X.env.scope x) (hd : (x == ("__debug__" : Str)) = false := by decide) (hcd : (x == ("__classdict__" : Str)) = false := by decide) : PE X (.Name x pos) (tVar i) := by
  intro pins s σ H Q I h
  obtain ⟨v, e, h⟩ := h
  obtain ⟨m, hn, hl⟩ := I.loc
  obtain ⟨u, r, l⟩ := hl i x v hN e hv
  have fin : EP X pins σ Q u s := ⟨v, H, I, r, h⟩
  rcases l with ⟨hk, hm⟩ | ⟨hk, c, hc, hcell⟩
  · exact wpAny_Name (wpAny_loadName_local I.ok.kind hk hn hm fin) hd
  · rcases hk with hk | hk
    · exact wpAny_Name (wpAny_loadName_cell I.ok.kind hk hc hcell fin) hd
    · exact wpAny_Name (wpAny_loadName_free I.ok.kind hk hc hcell fin hcd) hd
theorem pe_int {i j pos} : PE X (.Constant (.int i) j pos) (tC (.int i)) := fun _ _ _ H _ I h => wpAny_Constant_int ⟨.int i, H, I.tok _, ⟨_, rfl⟩, h⟩
theorem pe_bl {b j pos} : PE X (.Constant (.bool b) j pos) (tC (.bl b)) := fun _ _ _ H _ I h => Constant_bool ⟨.bl b, H, I, rfl, h⟩
theorem pe_str {x j pos} : PE X (.Constant (.str x) j pos) (tC (.str x)) := fun _ _ _ H _ I h => Calls.Constant_str ⟨.str x, H, I.tok _, ⟨_, rfl⟩, h⟩

noncomputable def Gl (X : Cx) (x : Str) : Prop := X.env.kindOf x = some .globalImplicit
theorem ld_glob {E : Value → Shared → Prop} {pins : List (Addr × Obj)} {s : Shared} {σ : St} {H : Hp} {x : Str} {u : Value} {pos : Pos} {Q : Value → Shared → Prop} (I : Inv X pins σ H s) (hg : Gl X x) (hm : X.mg x = some u) (h : Q u s)
    (hd : (x == ("__debug__" : Str)) = false := by decide) : wpAny (model X.prog X.w) X.A (eval (.Name x pos) X.env) Q E s :=
  Calls.Name_function_global I.ok.kind hg (Calls.loadGlobal_global (by rw [I.ok.glob]; exact I.mod.glob.keeps I.bk) hm h) hd
theorem ld_blt {E : Value → Shared → Prop} {pins : List (Addr × Obj)} {s : Shared} {σ : St} {H : Hp} {x : Str} {u : Value} {pos : Pos} {Q : Value → Shared → Prop} (I : Inv X pins σ H s) (hg : Gl X x) (hm : X.mg x = none) (hv : bootBuiltins x = some u) (h : Q u s)
    (hn : x ≠ "__name__" := by decide) (hd : (x == ("__debug__" : Str)) = false := by decide) : wpAny (model X.prog X.w) X.A (eval (.Name x pos) X.env) Q E s := by
  obtain ⟨mb, h1, h2⟩ := I.mod.blt
  exact Calls.Name_function_global I.ok.kind hg (Calls.loadGlobal_builtin (by rw [I.ok.glob]; exact I.mod.glob.keeps I.bk) hm (by rw [I.ok.blt]; exact h1.keeps I.bk) ((h2 x hn).trans hv) h) hd
theorem pe_glob {x : Str} {v : V} {u : Value} {pos : Pos} (hg : Gl X x) (hm : X.mg x = some u) (r : RelV v u) (hd : (x == ("__debug__" : Str)) = false := by decide) : PE X (.Name x pos) (tC v) :=
  fun _ _ _ H _ I h => ld_glob I hg hm ⟨v, H, I, r, h⟩ hd
theorem pe_bltn {x : Str} {v : V} {u : Value} {pos : Pos} (hg : Gl X x) (hm : X.mg x = none) (hv : bootBuiltins x = some u) (r : RelV v u) (hn : x ≠ "__name__" := by decide) (hd : (x == ("__debug__" : Str)) = false := by decide) : PE X (.Name x pos) (tC v) :=
  fun _ _ _ H _ I h => ld_blt I hg hm hv ⟨v, H, I, r, h⟩ hn hd

variable {a b : Expr} {ta tb : TE} {pos : Pos}
noncomputable def tB (t : TE) : TT := fun σ H Q => t σ H fun x H1 => ∃ c, x = .bl c ∧ Q c H1
theorem pt_val {e : Expr} {t : TE} (h : PE X e t) (he : ∀ whole, isTrue e X.env whole = (do let v ← whole; standAt e.pos; holding [v] (truthy v)) := by intro _; rfl) : PT X e (tB t) := by
  intro pins s σ H Q I hw
  refine isTrue_plain (thn (h pins s σ H _ I hw) fun v s1 ⟨x, H1, I1, r1, q1⟩ => ?_) (he _)
  obtain ⟨d, rfl, q⟩ := q1
  cases r1
  exact wpAny_truthy_bool ⟨H1, I1, q⟩

variable {tA tB' : TT} {rest : List Expr}
noncomputable def tAnd (t u : TT) : TT := fun σ H Q => t σ H fun c H1 => if c = true then u σ H1 Q else Q false H1
noncomputable def tOr (t u : TT) : TT := fun σ H Q => t σ H fun c H1 => if c = true then Q true H1 else u σ H1 Q
noncomputable def tNot (t : TT) : TT := fun σ H Q => t σ H fun c H1 => Q (!c) H1
theorem pw_and1 (ha : PT X a tA) : PW X (.BoolOp .And [a] pos) tA := by
  intro wh pins s σ H Q I h
  refine isTrue_and (thn (ha pins s σ H Q I h) fun c s1 e => ?_)
  cases c with
  | true => exact isTrue_and_nil e
  | false => exact e
theorem pw_and (ha : PT X a tA) (hb : PW X (.BoolOp .And (b :: rest) pos) tB') : PW X (.BoolOp .And (a :: b :: rest) pos) (tAnd tA tB') := by
  intro wh pins s σ H Q I h
  refine isTrue_and (thn (ha pins s σ H _ I h) fun c s1 ⟨H1, I1, q1⟩ => ?_)
  cases c with
  | true => exact hb wh pins s1 σ H1 Q I1 q1
  | false => exact ⟨H1, I1, q1⟩
theorem pt_not (ha : PT X a tA) : PT X (.UnaryOp .Not a pos) (tNot tA) := by
  intro pins s σ H Q I h
  exact isTrue_not (ha pins s σ H (fun c H1 => Q (!c) H1) I h)
noncomputable def tAndV (ta tb : TE) : TE := fun σ H Q => ta σ H fun x H1 => ∃ c, x = .bl c ∧ if c = true then tb σ H1 Q else Q (.bl false) H1
noncomputable def tOrV (ta tb : TE) : TE := fun σ H Q => ta σ H fun x H1 => ∃ c, x = .bl c ∧ if c = true then Q (.bl true) H1 else tb σ H1 Q
noncomputable def tNotV (ta : TE) : TE := fun σ H Q => ta σ H fun x H1 => ∃ c, x = .bl c ∧ Q (.bl (!c)) H1
theorem pe_one {op} {t : TE} (h : PE X a t) : PE X (.BoolOp op [a] pos) t := fun pins s σ H Q I hw => BoolOp_one (h pins s σ H Q I hw)
theorem pe_and (ha : PE X a ta) (hb : PE X (.BoolOp .And (b :: rest) pos) tb) : PE X (.BoolOp .And (a :: b :: rest) pos) (tAndV ta tb) := by
  intro pins s σ H Q I h
  refine BoolOp_and (thn (ha pins s σ H _ I h) fun v s1 ⟨x, H1, I1, r1, q1⟩ => ?_)
  obtain ⟨c, rfl, q1⟩ := q1
  cases r1
  refine wpAny_truthy_bool ?_
  cases c with
  | true => exact hb pins s1 σ H1 Q I1 q1
  | false => exact ⟨.bl false, H1, I1, rfl, q1⟩
theorem pe_not (ha : PE X a ta) : PE X (.UnaryOp .Not a pos) (tNotV ta) := by
  intro pins s σ H Q I h
  refine UnaryOp_ (thn (ha pins s σ H _ I h) fun v s1 ⟨x, H1, I1, r1, q1⟩ => ?_)
  obtain ⟨c, rfl, q1⟩ := q1
  cases r1
  exact not_of (wpAny_truthy_bool ⟨.bl (!c), H1, I1, rfl, q1⟩)
noncomputable def tIf (t : TT) (ta tb : TE) : TE := fun σ H Q => t σ H fun c H1 => if c = true then ta σ H1 Q else tb σ H1 Q
end
end L2

namespace L2
open PySem PySem.Spec PyProof.Rows

noncomputable def SqL (K : PySem.W.Frag) (H : Hp) (a : Addr) (xs : List V) : Prop :=
  Rd H a (.lst xs) ∨
    ∃ (o : Obj) (its : Array Value) (n : Nat), K.lookup a = some o ∧ o.cls = .type "list" ∧ o.dict = none ∧ o.data = .seq its n ∧ its.size ≤ sizeLine ∧ Vals xs its.toList
noncomputable def SqT (K : PySem.W.Frag) (H : Hp) (a : Addr) (xs : List V) : Prop :=
  Rd H a (.tup xs) ∨
    ∃ (o : Obj) (its : Array Value) (n : Nat), K.lookup a = some o ∧ o.cls = .type "tuple" ∧ o.data = .seq its n ∧ its.size ≤ sizeLine ∧ Vals xs its.toList
noncomputable def absV : Value → Option V
  | .none => some .non
  | .bool b => some (.bl b)
  | .int i _ => some (.int i)
  | .str x _ => some (.str x)
  | .bytes b _ => some (.byt b)
  | .float b _ => some (.flt b)
  | .ref a => some (.ref a)
  | .type n => some (.ty n)
  | _ => none
theorem RelV.abs {x : V} {u : Value} (r : RelV x u) : absV u = some x := by
  cases x with
  | non => cases r; rfl
  | bl _ => cases r; rfl
  | int _ => obtain ⟨t, rfl⟩ := r; rfl
  | str _ => obtain ⟨t, rfl⟩ := r; rfl
  | byt _ => obtain ⟨t, rfl⟩ := r; rfl
  | flt _ => obtain ⟨t, rfl⟩ := r; rfl
  | ref _ => cases r; rfl
  | ty _ => cases r; rfl
theorem RelV.inj {x y : V} {u : Value} (r : RelV x u) (q : RelV y u) : x = y := Option.some.inj (r.abs.symm.trans q.abs)
theorem Vals.inj : ∀ {xs ys : List V} {us : List Value}, Vals xs us → Vals ys us → xs = ys
  | _, _, _, .nil, .nil => rfl
  | _, _, _, .cons r t, .cons r' t' => by rw [r.inj r', Vals.inj t t']
section
variable {X : Cx} {pins : List (Addr × Obj)} {σ : St} {H : Hp} {s : Shared} {a : Addr} {xs ys : List V}
theorem SqL.of {K : PySem.W.Frag} (h : H a = some (.lst xs)) : SqL K H a xs := .inl (.inl h)
theorem SqT.of {K : PySem.W.Frag} (h : H a = some (.tup xs)) : SqT K H a xs := .inl (.inl h)
theorem Inv.list (I : Inv X pins σ H s) (h : SqL X.K H a xs) : ∃ its : List Value, Vals xs its ∧ PlainL s.heap a its.toArray ∧ xs.length ≤ sizeLine := by
  rcases h with h | ⟨o, its, n, hk, hc, hd, hs, hz, r⟩
  · obtain ⟨z, its, n, r, e⟩ := h.ok I.hok
    exact ⟨its, r, ⟨_, n, e, rfl, rfl, rfl⟩, z⟩
  · refine ⟨its.toList, r, ⟨o, n, I.kIn a o hk, hc, hd, by simpa using hs⟩, ?_⟩
    have e := r.length
    simp only [Array.length_toList] at e
    omega
theorem Inv.tuple (I : Inv X pins σ H s) (h : SqT X.K H a xs) : ∃ its : List Value, Vals xs its ∧ IsTup s.heap a its.toArray ∧ xs.length ≤ sizeLine := by
  rcases h with h | ⟨o, its, n, hk, hc, hs, hz, r⟩
  · obtain ⟨z, its, r, p⟩ := h.ok I.hok
    exact ⟨its, r, p, z⟩
  · refine ⟨its.toList, r, ⟨o, I.kIn a o hk, hc, n, by simpa using hs⟩, ?_⟩
    have e := r.length
    simp only [Array.length_toList] at e
    omega
theorem Inv.list_inj (I : Inv X pins σ H s) (h : SqL X.K H a xs) (h' : SqL X.K H a ys) : xs = ys := by
  obtain ⟨its, r, ⟨o, n, e, _, _, d⟩, _⟩ := I.list h
  obtain ⟨its', r', ⟨o', n', e', _, _, d'⟩, _⟩ := I.list h'
  rw [e] at e'; cases e'
  rw [d] at d'
  injection d' with d1 _
  have : its = its' := by simpa using congrArg Array.toList d1
  subst this
  exact r.inj r'
end

noncomputable abbrev Cx.wish (X : Cx) (E : Value → Shared → Prop) : Cx := { X with xe := E }
noncomputable abbrev Cx.nox (X : Cx) : Cx := X.wish fun _ _ => False
theorem Cx.Ok.wish {X : Cx} (ok : X.Ok) (E : Value → Shared → Prop) : (X.wish E).Ok :=
  ⟨ok.mod, ok.kind, ok.glob, ok.blt, ok.above, ok.inj, ok.has, ok.cab, ok.hd, ok.frames, ok.stk, ok.exf, ok.bs, ok.bsz, ok.noex, ok.exfs, ok.funs, ok.frf⟩
theorem Cx.Ok.unwish {X : Cx} {E : Value → Shared → Prop} (ok : (X.wish E).Ok) : X.Ok :=
  ⟨ok.mod, ok.kind, ok.glob, ok.blt, ok.above, ok.inj, ok.has, ok.cab, ok.hd, ok.frames, ok.stk, ok.exf, ok.bs, ok.bsz, ok.noex, ok.exfs, ok.funs, ok.frf⟩
section
variable {X : Cx} {pins : List (Addr × Obj)} {σ : St} {H : Hp} {s : Shared} {E : Value → Shared → Prop}
theorem Inv.wish (I : Inv X pins σ H s) (E : Value → Shared → Prop) : Inv (X.wish E) pins σ H s := ⟨I.ok.wish E, I.os, I.bare, I.base, I.loc, I.cell, I.free, I.freeC, I.pin, I.hok, I.len⟩
theorem Inv.unwish (I : Inv (X.wish E) pins σ H s) : Inv X pins σ H s := ⟨I.ok.unwish, I.os, I.bare, I.base, I.loc, I.cell, I.free, I.freeC, I.pin, I.hok, I.len⟩
theorem SP.unwish {D : Ends} {f : Flow} {s' : Shared} (h : SP (X.wish E) pins D f s') : SP X pins D f s' := by
  cases f with
  | next => obtain ⟨σ', H', I, q⟩ := h; exact ⟨σ', H', I.unwish, q⟩
  | brk => obtain ⟨σ', H', I, q⟩ := h; exact ⟨σ', H', I.unwish, q⟩
  | cont => obtain ⟨σ', H', I, q⟩ := h; exact ⟨σ', H', I.unwish, q⟩
  | ret u => obtain ⟨v, σ', H', I, r, q⟩ := h; exact ⟨v, σ', H', I.unwish, r, q⟩
theorem PE.nox {e : Expr} {t : TE} (h : PE X.nox e t) : PE X e t := fun pins s σ H Q I hw =>
  wpAny_mono (h pins s σ H Q (I.wish _) hw) (fun _ _ ⟨v, H', I', r, q⟩ => ⟨v, H', I'.unwish, r, q⟩) fun _ _ z => False.elim z
theorem PT.nox {e : Expr} {t : TT} (h : PT X.nox e t) : PT X e t := fun pins s σ H Q I hw =>
  wpAny_mono (h pins s σ H Q (I.wish _) hw) (fun _ _ ⟨H', I', q⟩ => ⟨H', I'.unwish, q⟩) fun _ _ z => False.elim z
theorem PSs.nox {st : List Stmt} {t : TS} (h : PSs X.nox st t) : PSs X st t := fun pins s σ H D I hw =>
  wpAny_mono (h pins s σ H D (I.wish _) hw) (fun _ _ q => q.unwish) fun _ _ z => False.elim z
end

section
variable {X : Cx} {st : Stmt} {rest : List Stmt} {t u : TS} {e : Expr} {te : TE} {pos : Pos}
noncomputable def tNext : TS := fun D σ H => D.nx σ H
noncomputable def tSeq (t u : TS) : TS := fun D σ H => t { D with nx := u D } σ H
theorem pss_nil : PSs X [] tNext := fun _ _ σ H _ I h => wpAny_execs_nil ⟨σ, H, I, h⟩
theorem pss_cons (h1 : PS X st t) (h2 : PSs X rest u) : PSs X (st :: rest) (tSeq t u) := by
  intro pins s σ H D I h
  refine wpAny_execs_cons (thn (h1 pins s σ H { D with nx := u D } I h) fun f s1 q => ?_)
  cases f with
  | next =>
    obtain ⟨σ', H', I', q⟩ := q
    exact h2 pins s1 σ' H' D I' q
  | ret v => exact q
  | brk => exact q
  | cont => exact q
theorem pss_one (h1 : PS X st t) : PSs X [st] t := by
  intro pins s σ H D I h
  refine wpAny_execs_cons (thn (h1 pins s σ H D I h) fun f s1 q => ?_)
  cases f with
  | next => exact wpAny_execs_nil q
  | ret v => exact q
  | brk => exact q
  | cont => exact q
theorem Inv.quiet {pins : List (Addr × Obj)} {σ : St} {H : Hp} {s : Shared} (I : Inv X pins σ H s) : interactive X.env = false := by simp [interactive, I.ok.kind]
noncomputable def tDrop (te : TE) : TS := fun D σ H => te σ H fun _ H1 => D.nx σ H1
theorem ps_expr (he : PE X e te) (hs : swapsWith e none pos.line X.env = pure false := by rfl) : PS X (.Expr e pos) (tDrop te) := by
  intro pins s σ H D I h
  exact wpAny_Expr_any (thn (he pins s σ H _ I h) fun v s1 ⟨x, H1, I1, r1, q1⟩ => ⟨σ, H1, I1, q1⟩) I.quiet hs
noncomputable def tRet (te : TE) : TS := fun D σ H => te σ H D.rt
theorem ps_ret (he : PE X e te) : PS X (.Return (some e) pos) (tRet te) := by
  intro pins s σ H D I h
  exact wpAny_Return_some (thn (he pins s σ H _ I h) fun v s1 ⟨x, H1, I1, r1, q1⟩ => ⟨x, σ, H1, I1, r1, q1⟩)
noncomputable def tRetN : TS := fun D _ H => D.rt .non H
noncomputable def tIfS (c : TT) (t u : TS) : TS := fun D σ H => c σ H fun b H1 => if b = true then t D σ H1 else u D σ H1
theorem ps_if {c : Expr} {a b : List Stmt} {tc : TT} (hc : PT X c tc) (ha : PSs X a t) (hb : PSs X b u) : PS X (.If c a b pos) (tIfS tc t u) := by
  intro pins s σ H D I h
  refine wpAny_If (thn (hc pins s σ H _ I h) fun d s1 ⟨H1, I1, q1⟩ => ?_)
  cases d with
  | true => exact ha pins s1 σ H1 D I1 q1
  | false => exact hb pins s1 σ H1 D I1 q1
end

noncomputable abbrev TG := V → St → Hp → (St → Hp → Prop) → Prop
noncomputable abbrev TGs := List V → St → Hp → (St → Hp → Prop) → Prop
noncomputable def PG (X : Cx) (target : Expr) (t : TG) : Prop :=
  ∀ (pins : List (Addr × Obj)) (s : Shared) (σ : St) (H : Hp) (v : V) (u : Value) (Q : St → Hp → Prop), Inv X pins σ H s → RelV v u → t v σ H Q →
    wpAny (model X.prog X.w) X.A (assign target X.env u) (fun _ s' => ∃ σ' H', Inv X pins σ' H' s' ∧ Q σ' H') X.xe s
noncomputable def PGs (X : Cx) (ts : List Expr) (t : TGs) : Prop :=
  ∀ (pins : List (Addr × Obj)) (s : Shared) (σ : St) (H : Hp) (vs : List V) (us : List Value) (Q : St → Hp → Prop), Inv X pins σ H s → Vals vs us → t vs σ H Q →
    wpAny (model X.prog X.w) X.A (assignInOrder ((assignEach ts X.env).map (·.2)) us) (fun _ s' => ∃ σ' H', Inv X pins σ' H' s' ∧ Q σ' H') X.xe s
noncomputable abbrev TSet := V → V → V → Hp → (Hp → Prop) → Prop
noncomputable def PSet (X : Cx) (t : TSet) : Prop :=
  ∀ (pins : List (Addr × Obj)) (s : Shared) (σ : St) (H : Hp) (o i v : V) (ov iv u : Value) (Q : Hp → Prop), Inv X pins σ H s → RelV o ov → RelV i iv → RelV v u → t o i v H Q →
    wpAny (model X.prog X.w) X.A (setItem ov iv u) (fun _ s' => ∃ H', Inv X pins σ H' s' ∧ Q H') X.xe s
section
variable {X : Cx} {pos : Pos}
noncomputable def gName (i : Nat) : TG := fun v σ H Q => Q (σ.set i (some v)) H
theorem pg_name {i : Nat} {x : Str} (hN : X.N.Nodup) (hi : X.N[i]? = some x) (hx : Loc X.env.scope x) (hf : X.fn x = true ∨ X.env.scope.names.lookup x = some .local := by first | exact .inl rfl | exact .inr rfl | assumption) : PG X (.Name x pos) (gName i) := by
  intro pins s σ H v u Q I r h
  exact wpAny_assign_Name (store_ok I hN hi hx r (fun s' I' => ⟨_, H, I', h⟩) hf)
noncomputable def gNil : TGs := fun vs σ H Q => vs = [] ∧ Q σ H
noncomputable def gCons (t : TG) (u : TGs) : TGs := fun vs σ H Q => ∃ v r, vs = v :: r ∧ t v σ H fun σ' H' => u r σ' H' Q
theorem pgs_nil : PGs X [] gNil := by
  intro pins s σ H vs us Q I r h
  obtain ⟨e, h⟩ := h
  subst e
  cases r
  exact assignInOrder_nil ⟨σ, H, I, h⟩
theorem pgs_cons {e : Expr} {es : List Expr} {t : TG} {u : TGs} (h1 : PG X e t) (h2 : PGs X es u)
    (hs : (assignEach (e :: es) X.env).map (·.2) = assign e X.env :: (assignEach es X.env).map (·.2) := by rfl) : PGs X (e :: es) (gCons t u) := by
  intro pins s σ H vs us Q I r h
  obtain ⟨v, vr, e1, h⟩ := h
  subst e1
  cases r with
  | cons r rr =>
    rw [hs]
    refine assignInOrder_cons (thn (h1 pins s σ H _ _ _ I r h) fun _ s1 ⟨σ1, H1, I1, q1⟩ => ?_)
    exact h2 pins s1 σ1 H1 _ _ Q I1 rr q1
noncomputable def gTup (K : PySem.W.Frag) (n : Nat) (t : TGs) : TG := fun v σ H Q => ∃ a xs, v = .ref a ∧ SqT K H a xs ∧ xs.length = n ∧ t xs σ H Q
noncomputable def gSub (to ti : TE) (t : TSet) : TG := fun v σ H Q => to σ H fun o H1 => ti σ H1 fun i H2 => t o i v H2 fun H3 => Q σ H3
theorem pg_sub {o i : Expr} {to ti : TE} {t : TSet} (ho : PE X o to) (hi : PE X i ti) (hs : PSet X t)
    (ha : ∀ v, assign (.Subscript o i pos) X.env v = (do
      let ov ← holding [v] (eval o X.env)
      let iv ← holding [v, ov] (eval i X.env)
      standAt pos
      holding [v, ov, iv] (setItem ov iv v)
      release [v, ov, iv] []) := by intro _; rfl) : PG X (.Subscript o i pos) (gSub to ti t) := by
  intro pins s σ H v u Q I r h
  rw [ha]
  refine wpAny_bind (wpAny_holding (thn (ho pins s σ H _ I h) fun ov s1 ⟨x, H1, I1, r1, q1⟩ => ?_))
  refine wpAny_bind (wpAny_holding (thn (hi pins s1 σ H1 _ I1 q1) fun iv s2 ⟨y, H2, I2, r2, q2⟩ => ?_))
  refine wpAny_bind (wpAny_standAt (wpAny_bind (wpAny_holding (thn (hs pins s2 σ H2 x y v ov iv u _ I2 r1 r2 r q2) fun _ s3 ⟨H3, I3, q3⟩ => ?_))))
  exact wpAny_release ⟨σ, H3, I3, q3⟩
noncomputable def tAsg (te : TE) (g : TG) : TS := fun D σ H => te σ H fun x H1 => g x σ H1 D.nx
theorem ps_asg {tg e : Expr} {te : TE} {g : TG} (he : PE X e te) (hg : PG X tg g) (hs : swapsWithSole [tg] e pos.line X.env = pure false := by rfl) (hw : swappedStores [tg] e X.env = pure none := by rfl)
    (h1 : (assignEach [tg] X.env).map (·.2) = [assign tg X.env] := by rfl) : PS X (.Assign [tg] e pos) (tAsg te g) := by
  intro pins s σ H D I h
  refine wpAny_Assign_stores (thn (he pins s σ H _ I h) fun v s1 ⟨x, H1, I1, r1, q1⟩ => ?_) hs hw
  rw [h1]
  exact thn (hg pins s1 σ H1 x v _ I1 r1 q1) fun _ s2 q => q
theorem ps_set {i : Nat} {x : Str} {e : Expr} {te : TE} {pos' : Pos} (hN : X.N.Nodup) (hi : X.N[i]? = some x) (hx : Loc X.env.scope x) (he : PE X e te) (hs : swapsWith e (some (.Name x pos')) pos.line X.env = pure false := by rfl) (hf : X.fn x = true ∨ X.env.scope.names.lookup x = some .local := by first | exact .inl rfl | exact .inr rfl | assumption) :
    PS X (.Assign [.Name x pos'] e pos) (tAsg te (gName i)) := by
  intro pins s σ H D I h
  refine wpAny_Assign_Name (thn (he pins s σ H _ I h) fun v s1 ⟨y, H1, I1, r1, q1⟩ => ?_) hs
  exact store_ok I1 hN hi hx r1 (fun s2 I2 => ⟨_, H1, I2, q1⟩) hf
end

section
variable {X : Cx} {pos : Pos}
end

structure It where
  go : Nat → Hp → Prop
  yld : Nat → Hp → V → Hp → Prop
  stop : Nat → Hp → Prop
noncomputable def FpOk (X : Cx) (pins : List (Addr × Obj)) (H : Hp) (b : Addr) : Prop :=
  H b = none ∧ b ≠ X.env.locals ∧ b ∉ X.fs ∧ (b ∈ X.ex ∨ X.s₀.heap.objs.size ≤ b) ∧ (∀ x c, X.env.cells.lookup x = some c → c ≠ b) ∧ ∀ p ∈ X.pn ++ pins, p.1 ≠ b
theorem Inv.fpOk {X : Cx} {pins : List (Addr × Obj)} {σ : St} {H H' : Hp} {s : Shared} {b : Addr} (I : Inv X pins σ H s) (hb : s.heap.objs.size ≤ b) (hn : H' b = none) : FpOk X pins H' b := by
  refine ⟨hn, Nat.ne_of_gt (Nat.lt_of_lt_of_le I.lt hb), I.nofs hb, .inr (Nat.le_trans I.sz hb), fun x c e z => ?_, fun p hp z => ?_⟩
  · obtain ⟨v, q⟩ := I.cell x c e
    exact absurd (Nat.lt_of_lt_of_le q.lt (by rw [z]; exact hb)) (Nat.lt_irrefl _)
  · exact absurd (Nat.lt_of_lt_of_le (Heap.lt_size (I.pin p hp).1) (by rw [z]; exact hb)) (Nat.lt_irrefl _)
structure Turn (P : Program) (w : World) (K : PySem.W.Frag) (tg : Expr) (J : It) (fp : List Addr) (it : Addr) (tn : Nat → Heap → Prop) : Prop where
  mem : it ∈ fp
  obj : ∀ i h, tn i h → ∀ b ∈ fp, ∃ o, h.get? b = some o ∧ ∀ v, o.data ≠ .cell v
  keep : ∀ i h h', tn i h → (∀ b ∈ fp, ∀ o, h.get? b = some o → h'.get? b = some o) → tn i h'
  item : ∀ (X : Cx), X.prog = P → X.w = w → X.K = K → X.calm = true → ∀ (i : Nat) (pins : List (Addr × Obj)) (s : Shared) (σ : St) (H : Hp) (E : Value → Shared → Prop), Inv X pins σ H s → (∀ b ∈ fp, FpOk X pins H b) → tn i s.heap → J.go i H →
    wpAny (model P w) X.A (pyNext (.ref it)) (fun r s1 => ∃ u, r = some u ∧
      wpAny (model P w) X.A (letOwnedTupleGo tg (.ref it) u) (fun _ s2 => ∃ x H', Inv X pins σ H' s2 ∧ RelV x u ∧ J.yld i H x H' ∧ tn (i + 1) s2.heap ∧ ∀ b ∈ fp, H' b = none) E s1) E s
  done : ∀ (X : Cx), X.prog = P → X.w = w → X.K = K → X.calm = true → ∀ (i : Nat) (pins : List (Addr × Obj)) (s : Shared) (σ : St) (H : Hp) (E : Value → Shared → Prop), Inv X pins σ H s → (∀ b ∈ fp, FpOk X pins H b) → tn i s.heap → J.stop i H →
    wpAny (model P w) X.A (pyNext (.ref it)) (fun r s1 => r = none ∧ Inv X pins σ H s1) E s
  self : ∀ (A : Around) (i : Nat) (s : Shared) (Q : Value → Shared → Prop) (E : Value → Shared → Prop), tn i s.heap → Q (.ref it) s → wpAny (model P w) A (pyIter (.ref it)) Q E s
noncomputable abbrev TI := St → Hp → (It → Hp → Prop) → Prop
noncomputable def PIE (X : Cx) (pins : List (Addr × Obj)) (σ : St) (tg : Expr) (R : It → Hp → Prop) (itv : Value) (s2 : Shared) : Prop :=
  ∃ (it : Addr) (fp : List Addr) (tn : Nat → Heap → Prop) (J : It) (H' : Hp), itv = .ref it ∧ Inv X pins σ H' s2 ∧ Turn X.prog X.w X.K tg J fp it tn ∧ tn 0 s2.heap ∧ (∀ b ∈ fp, FpOk X pins H' b) ∧ R J H'
noncomputable def PI (X : Cx) (tg iter : Expr) (wi : TI) : Prop :=
  ∀ (pins : List (Addr × Obj)) (s : Shared) (σ : St) (H : Hp) (R : It → Hp → Prop), Inv X pins σ H s → wi σ H R →
    wpAny (model X.prog X.w) X.A (eval iter X.env) (fun v s1 => wpAny (model X.prog X.w) X.A (pyIter v) (PIE X pins σ tg R) X.xe s1) X.xe s

theorem go_of {M : Model} {A : Around} {E : Value → Shared → Prop} {s : Shared} {tg : Expr} {it : Addr} {u : Value} {o : Obj} {n : String} {vs : Array Value} {Q : Unit → Shared → Prop} (ho : s.heap.get? it = some o) (hc : o.cls = .type n) (hd : o.data = .fields vs)
    (hn : ["enumerate", "zip", "dict_itemiterator", "dict_reverseitemiterator", "odict_iterator", "itertools.zip_longest", "itertools.pairwise"].contains n = false) (hQ : Q () s) : wpAny M A (letOwnedTupleGo tg (.ref it) u) Q E s := by
  unfold letOwnedTupleGo
  cases tg <;> first
    | exact wpAny_pure hQ
    | (cases u <;> first
        | exact wpAny_pure hQ
        | (refine wpAny_bind (wpAny_load ho ?_)
           rw [hc, hd]
           show wpAny M A (if (["enumerate", "zip", "dict_itemiterator", "dict_reverseitemiterator", "odict_iterator", "itertools.zip_longest", "itertools.pairwise"].contains n && vs[0]? == some (rawInt _)) = true then _ else _) Q E s
           rw [if_neg (by intro h; rw [hn, Bool.false_and] at h; cases h)]
           exact wpAny_pure hQ))

noncomputable def Itl (K : PySem.W.Frag) (a : Addr) : It :=
  ⟨fun i H => ∃ xs x, SqL K H a xs ∧ xs[i]? = some x, fun i H x H' => H' = H ∧ ∀ xs, SqL K H a xs → xs[i]? = some x, fun i H => ∃ xs, SqL K H a xs ∧ xs.length ≤ i⟩
noncomputable def Itr (lo : Int) (n : Nat) : It := ⟨fun i _ => i < n, fun i H x H' => H' = H ∧ x = .int (lo + i), fun i _ => n ≤ i⟩
theorem turn_list {P : Program} {w : World} {K : PySem.W.Frag} {tg : Expr} (a it : Addr) : Turn P w K tg (Itl K a) [it] it (fun i h => h.IsListIter it a i) where
  mem := by simp
  obj := fun i h st b hb => by
    have e : b = it := by simpa using hb
    subst e
    obtain ⟨o, e, c, d⟩ := st
    exact ⟨o, e, fun v z => by rw [d] at z; cases z⟩
  keep := fun i h h' st k => st.at fun o e => k it (by simp) o e
  item := by
    intro X hP hw hK hc i pins s σ H E I hf st hg
    subst hP hw hK
    obtain ⟨xs, x, hq, hx⟩ := hg
    obtain ⟨its, rv, p, hz⟩ := I.list hq
    obtain ⟨u, hu, ru⟩ := rv.get hx
    obtain ⟨f0, f1, f2, f3, f4, f5⟩ := hf it (by simp)
    refine wpAny_pyNext_list_item st p.isList (x := u) (by simpa using hu) fun h' st' sb => ?_
    have I1 : Inv X pins σ H { s with heap := h' } := I.turned (t' := s.toks) (fun b o hb e => (sb.2 b hb).trans e) f0 f1 f3 f4 f5
    obtain ⟨o, e, c, d⟩ := id st'
    exact ⟨u, rfl, go_of (s := { s with heap := h' }) e c d (by decide) ⟨x, H, I1, ru, ⟨rfl, fun ys hy => by rw [I.list_inj hy hq]; exact hx⟩, st', fun b hb => (hf b hb).1⟩⟩
  done := by
    intro X hP hw hK hc i pins s σ H E I hf st hg
    subst hP hw hK
    obtain ⟨xs, hq, hx⟩ := hg
    obtain ⟨its, rv, p, hz⟩ := I.list hq
    obtain ⟨f0, f1, f2, f3, f4, f5⟩ := hf it (by simp)
    have hl := rv.length
    exact wpAny_pyNext_list_end (I.ok.hd hc) st p.isList (by simp; omega) fun h' eb => ⟨rfl, I.turned (t' := s.toks) (fun b o hb e => eb b o hb e) f0 f1 f3 f4 f5⟩
  self := fun _ _ _ _ _ st h => wpAny_pyIter_listiter st h
theorem turn_range {P : Program} {w : World} {K : PySem.W.Frag} {tg : Expr} (it : Addr) (lo : Int) (n : Nat) : Turn P w K tg (Itr lo n) [it] it (fun i h => IsRangeIter h it (lo + (i : Nat) * 1) ((n : Int) - (i : Nat)) 1) where
  mem := by simp
  obj := fun i h st b hb => by
    have e : b = it := by simpa using hb
    subst e
    exact ⟨_, st, fun v z => by
      have z' : Data.fields _ = Data.cell v := z
      cases z'⟩
  keep := fun i h h' st k => k it (by simp) _ st
  item := by
    intro X hP hw hK hc i pins s σ H E I hf st hg
    subst hP hw hK
    obtain ⟨f0, f1, f2, f3, f4, f5⟩ := hf it (by simp)
    have W := Walks.range (prog := X.prog) (w := X.w) (I.ok.hd hc) it lo 1 n
    refine W.item i s _ _ hg st fun v h' tk hv st' kk => ?_
    obtain ⟨t, rfl⟩ := hv
    have I1 : Inv X pins σ H { s with heap := h', toks := tk } := I.turned (fun b o hb e => kk b o (by simpa using hb) e) f0 f1 f3 f4 f5
    refine ⟨_, rfl, go_of (s := { s with heap := h', toks := tk }) (n := "range_iterator") st' rfl rfl (by decide) ⟨.int (lo + i), H, I1, ⟨t, ?_⟩, ⟨rfl, rfl⟩, st', fun b hb => (hf b hb).1⟩⟩
    rw [Int.mul_one]
  done := by
    intro X hP hw hK hc i pins s σ H E I hf st hg
    subst hP hw hK
    obtain ⟨f0, f1, f2, f3, f4, f5⟩ := hf it (by simp)
    exact wpAny_pyNext_range_end (I.ok.hd hc) st (by have : n ≤ i := hg; omega) fun h' eb => ⟨rfl, I.turned (t' := s.toks) (fun b o hb e => eb b o hb e) f0 f1 f3 f4 f5⟩
  self := fun _ _ _ _ _ st h => wpAny_pyIter_rangeiter st h
end L2

namespace L2
open PySem PySem.Spec PyProof.Rows
section
variable {X : Cx} {tg : Expr}
noncomputable def iList (K : PySem.W.Frag) (tl : TE) : TI := fun σ H R => tl σ H fun x H1 => ∃ a, x = .ref a ∧ (∃ xs, SqL K H1 a xs) ∧ R (Itl K a) H1
theorem pi_list {l : Expr} {tl : TE} (hl : PE X l tl) : PI X tg l (iList X.K tl) := by
  intro pins s σ H R I h
  refine thn (hl pins s σ H _ I h) fun v s1 ⟨x, H1, I1, r1, q1⟩ => ?_
  obtain ⟨a, e, ⟨xs, hq⟩, q⟩ := q1
  subst e
  cases r1
  obtain ⟨its, rv, p, hz⟩ := I1.list hq
  refine wpAny_pyIter_list p.isList ?_
  refine ⟨s1.heap.objs.size, [s1.heap.objs.size], _, _, H1, rfl, I1.kept (t' := s1.toks) fun b o e => Heap.get?_push_of_some _ e, turn_list a _, ⟨_, Heap.get?_push_size _ rfl, rfl, rfl⟩, fun b hb => ?_, q⟩
  have e : b = s1.heap.objs.size := by simpa using hb
  subst e
  exact I1.fpOk (Nat.le_refl _) (I1.hok.fresh (Nat.le_refl _))
theorem range_it {pins : List (Addr × Obj)} {σ : St} {H : Hp} {s : Shared} {R : It → Hp → Prop} {E : Value → Shared → Prop} {lo hi : Int} {t u v : Tok} {tk : Nat} (I : Inv X pins σ H s) (h1 : -(2 ^ 62) ≤ lo) (h2 : lo < 2 ^ 62) (h3 : -(2 ^ 62) ≤ hi) (h4 : hi < 2 ^ 62)
    (q : R (Itr lo (hi - lo).toNat) H) : wpAny (model X.prog X.w) X.A (pyIter (.ref s.heap.objs.size)) (PIE X pins σ tg R) E { s with heap := s.heap.push { cls := .type "range", data := .fields #[.int lo t, .int hi u, .int 1 v] }, toks := tk } := by
  refine wpAny_pyIter_range (IsRange.new ..) (small_one h1 h2 h3 h4) ?_
  have I1 : Inv X pins σ H { s with heap := s.heap.push { cls := .type "range", data := .fields #[.int lo t, .int hi u, .int 1 v] }, toks := tk } := I.kept fun b o e => Heap.get?_push_of_some _ e
  refine ⟨(s.heap.push { cls := .type "range", data := .fields #[.int lo t, .int hi u, .int 1 v] }).objs.size, [(s.heap.push { cls := .type "range", data := .fields #[.int lo t, .int hi u, .int 1 v] }).objs.size], _, _, H, rfl,
    I1.kept (t' := tk) fun b o e => Heap.get?_push_of_some _ e, turn_range _ lo (hi - lo).toNat, ?_, fun b hb => ?_, q⟩
  · have e1 : lo + ((0 : Nat) : Int) * 1 = lo := by simp
    have e2 : (((hi - lo).toNat : Nat) : Int) - ((0 : Nat) : Int) = Builtin.Range.rangeSize lo hi 1 := by rw [rangeSize_one]; split <;> omega
    show IsRangeIter _ _ (lo + ((0 : Nat) : Int) * 1) ((((hi - lo).toNat : Nat) : Int) - ((0 : Nat) : Int)) 1
    rw [e1, e2]
    exact Heap.get?_push_size _ rfl
  · have e : b = (s.heap.push { cls := .type "range", data := .fields #[.int lo t, .int hi u, .int 1 v] }).objs.size := by simpa using hb
    subst e
    exact I1.fpOk (Nat.le_refl _) (I1.hok.fresh (Nat.le_refl _))
noncomputable def iRng1 (ta : TA) : TI := fun σ H R => ta σ H fun vs H1 => ∃ j : Int, vs = [.int j] ∧ -(2 ^ 62) ≤ j ∧ j < 2 ^ 62 ∧ R (Itr 0 j.toNat) H1
noncomputable def iRng2 (ta : TA) : TI := fun σ H R => ta σ H fun vs H1 => ∃ i j : Int, vs = [.int i, .int j] ∧ (-(2 ^ 62) ≤ i ∧ i < 2 ^ 62 ∧ -(2 ^ 62) ≤ j ∧ j < 2 ^ 62) ∧ R (Itr i (j - i).toNat) H1
theorem pi_range1 {a : Expr} {ta : TA} {p pos : Pos} (hg : Gl X "range") (hm : X.mg "range" = none) (ha : PA X [a] ta) (hs : starEach [a] X.env = [(false, eval a X.env)] := by rfl) : PI X tg (.Call (.Name "range" p) [a] [] pos) (iRng1 ta) := by
  intro pins s σ H R I h
  refine Call_ (ld_blt I hg hm boot_range (PyProof.Rows.callWith_type1 (thn (ha pos pins s σ H _ I h) fun us s1 ⟨vs, H1, I1, r1, q1⟩ => ?_) hs rfl))
  obtain ⟨j, e, q1, q2, q⟩ := q1
  subst e
  cases r1 with
  | cons r rr =>
    cases rr
    obtain ⟨t, rfl⟩ := r
    exact call_range_1 (range_it I1 (by omega) (by omega) q1 q2 (by simpa using q))
theorem pi_range2 {a b : Expr} {ta : TA} {p pos : Pos} (hg : Gl X "range") (hm : X.mg "range" = none) (ha : PA X [a, b] ta) (hs : starEach [a, b] X.env = [(false, eval a X.env), (false, eval b X.env)] := by rfl) (hs2 : starEach [b] X.env = [(false, eval b X.env)] := by rfl) :
    PI X tg (.Call (.Name "range" p) [a, b] [] pos) (iRng2 ta) := by
  intro pins s σ H R I h
  refine Call_ (ld_blt I hg hm boot_range (PyProof.Rows.callWith_type1 (thn (ha pos pins s σ H _ I h) fun us s1 ⟨vs, H1, I1, r1, q1⟩ => ?_) (by rw [hs, hs2]) (by rw [hs2]; rfl)))
  obtain ⟨i, j, e, ⟨q1, q2, q3, q4⟩, q⟩ := q1
  subst e
  cases r1 with
  | cons r rr =>
    cases rr with
    | cons r' rr =>
      cases rr
      obtain ⟨t, rfl⟩ := r
      obtain ⟨t', rfl⟩ := r'
      exact call_range_2 (range_it I1 q1 q2 q3 q4 q)

noncomputable def tFor (wi : TI) (g : TG) (tb : TS) : TS := fun D σ H => wi σ H fun J H1 => ∃ W : Nat → Nat → St → Hp → Prop, (∃ m, W 0 m σ H1) ∧ ∀ i m σ H, W i m σ H →
  (J.stop i H ∧ D.nx σ H) ∨ (J.go i H ∧ ∃ N : St → Hp → Prop, (∀ σ' H', N σ' H' → ∃ m', m' < m ∧ W (i + 1) m' σ' H') ∧ ∀ x H', J.yld i H x H' → g x σ H' fun σ2 H2 => tb { D with nx := N, ct := N, bk := D.nx } σ2 H2)
noncomputable def pinsAt (fp : List Addr) (h : Heap) : List (Addr × Obj) := fp.filterMap fun b => (h.get? b).map fun o => (b, o)
theorem mem_pinsAt {fp : List Addr} {h : Heap} {b : Addr} {o : Obj} (hb : b ∈ fp) (e : h.get? b = some o) : (b, o) ∈ pinsAt fp h := List.mem_filterMap.mpr ⟨b, hb, by rw [e]; rfl⟩
theorem of_pinsAt {fp : List Addr} {h : Heap} {p : Addr × Obj} (hp : p ∈ pinsAt fp h) : p.1 ∈ fp ∧ h.get? p.1 = some p.2 := by
  obtain ⟨b, hb, e⟩ := List.mem_filterMap.mp hp
  cases q : h.get? b with
  | none => rw [q] at e; cases e
  | some o =>
    rw [q] at e
    have e' : (b, o) = p := Option.some.inj e
    subst e'
    exact ⟨hb, q⟩
theorem Inv.pinned {pins : List (Addr × Obj)} {σ : St} {H : Hp} {s : Shared} {fp : List Addr} (I : Inv X pins σ H s) (hf : ∀ b ∈ fp, FpOk X pins H b) (ho : ∀ b ∈ fp, ∃ o, s.heap.get? b = some o ∧ ∀ v, o.data ≠ .cell v) : Inv X (pins ++ pinsAt fp s.heap) σ H s :=
  I.pins_of fun p hp => (List.mem_append.mp hp).elim (fun z => I.pin p (List.mem_append_right _ z)) fun z => by
    obtain ⟨hb, e⟩ := of_pinsAt z
    obtain ⟨f0, f1, f2, _⟩ := hf p.1 hb
    obtain ⟨o, e', d⟩ := ho p.1 hb
    rw [e] at e'; cases e'
    exact ⟨e, f0, f1, f2, d⟩
theorem Inv.unpinned {pins pl : List (Addr × Obj)} {σ : St} {H : Hp} {s : Shared} (I : Inv X (pins ++ pl) σ H s) : Inv X pins σ H s := I.pins_of fun p hp => I.pin p (List.mem_append_right _ (List.mem_append_left _ hp))
theorem ps_for {iter : Expr} {body : List Stmt} {wi : TI} {g : TG} {tb : TS} {pos : Pos} (hp : PassesOwn (model X.prog X.w) X.A X.env X.xe) (hc : X.calm = true) (hi : PI X tg iter wi) (hg : PG X tg g) (hb : PSs X body tb)
    (hs : ∀ x, foldedSetIterable iter X.env x = pure x := by intro _; rfl) : PS X (.For tg iter body [] pos) (tFor wi g tb) := by
  intro pins s σ H D I h
  refine wpAny_For (thn (hi pins s σ H _ I h) fun v s1 h1 => thn h1 fun itv s2 h2 => ?_) hs
  obtain ⟨it, fp, tn, J, H2, e, I2, T, st2, f2, W, ⟨m0, w0⟩, turn⟩ := h2
  subst e
  -- what stays true of the iterator's objects through the loop
  have stat : ∀ {H' : Hp}, (∀ b ∈ fp, H' b = none) → ∀ b ∈ fp, FpOk X pins H' b := fun hn b hb => ⟨hn b hb, (f2 b hb).2⟩
  refine codeAny_forLoop_any (fun n s' => ∃ i σ' H', Inv X pins σ' H' s' ∧ tn i s'.heap ∧ (∀ b ∈ fp, H' b = none) ∧ W i n σ' H') ?_ m0 ⟨0, σ, H2, I2, st2, fun b hb => (f2 b hb).1, w0⟩
  rintro n s3 ⟨i, σ3, H3, I3, st3, fr3, w3⟩
  rcases turn i n σ3 H3 w3 with ⟨stop, qn⟩ | ⟨go, N, hN, step⟩
  · refine wpAny_passesOwn hp (thn (T.done X rfl rfl rfl hc i pins s3 σ3 H3 X.xe I3 (stat fr3) st3 stop) fun r s4 ⟨hr, I4⟩ => ?_)
    subst hr
    exact wpAny_execs_nil ⟨σ3, H3, I4, qn⟩
  · refine wpAny_passesOwn hp (thn (T.item X rfl rfl rfl hc i pins s3 σ3 H3 X.xe I3 (stat fr3) st3 go) fun r s4 ⟨u, hr, h4⟩ => ?_)
    subst hr
    refine wpAny_passesOwn hp (thn h4 fun _ s5 ⟨x, H5, I5, r5, y5, st5, fr5⟩ => ?_)
    have I5' := I5.pinned (stat fr5) (T.obj _ _ st5)
    refine wpAny_passesOwn hp (thn (hg _ s5 σ3 H5 x u _ I5' r5 (step x H5 y5)) fun _ s6 ⟨σ6, H6, I6, q6⟩ => ?_)
    refine wpAny_passesOwn hp (thn (hb _ s6 σ6 H6 _ I6 q6) fun f s7 q7 => ?_)
    have again : ∀ {σ7 : St} {H7 : Hp}, Inv X (pins ++ pinsAt fp s5.heap) σ7 H7 s7 → N σ7 H7 → ∃ m, m < n ∧ ∃ i σ' H', Inv X pins σ' H' s7 ∧ tn i s7.heap ∧ (∀ b ∈ fp, H' b = none) ∧ W i m σ' H' := fun {σ7 H7} I7 n7 => by
      obtain ⟨m', hm, w7⟩ := hN σ7 H7 n7
      refine ⟨m', hm, i + 1, σ7, H7, I7.unpinned, T.keep _ _ _ st5 fun b hb o e => (I7.pin (b, o) (List.mem_append_right _ (List.mem_append_right _ (mem_pinsAt hb e)))).1, fun b hb => ?_, w7⟩
      obtain ⟨o, e, d⟩ := T.obj _ _ st5 b hb
      exact (I7.pin (b, o) (List.mem_append_right _ (List.mem_append_right _ (mem_pinsAt hb e)))).2.1
    cases f with
    | next => obtain ⟨σ7, H7, I7, n7⟩ := q7; exact again I7 n7
    | cont => obtain ⟨σ7, H7, I7, n7⟩ := q7; exact again I7 n7
    | brk => obtain ⟨σ7, H7, I7, q7⟩ := q7; exact ⟨σ7, H7, I7.unpinned, q7⟩
    | ret v => obtain ⟨x7, σ7, H7, I7, r7, q7⟩ := q7; exact ⟨x7, σ7, H7, I7.unpinned, r7, q7⟩
end

theorem for_range {lo : Int} {n : Nat} {g : TG} {tb : TS} {D : Ends} {σ : St} {H : Hp} (Pv : Nat → St → Hp → Prop) (h0 : Pv 0 σ H)
    (hs : ∀ i σ H, i < n → Pv i σ H → g (.int (lo + i)) σ H fun σ2 H2 => tb { D with nx := Pv (i + 1), ct := Pv (i + 1), bk := D.nx } σ2 H2) (hd : ∀ σ H, Pv n σ H → D.nx σ H) :
    ∃ W : Nat → Nat → St → Hp → Prop, (∃ m, W 0 m σ H) ∧ ∀ i m σ H, W i m σ H →
      ((Itr lo n).stop i H ∧ D.nx σ H) ∨ ((Itr lo n).go i H ∧ ∃ N : St → Hp → Prop, (∀ σ' H', N σ' H' → ∃ m', m' < m ∧ W (i + 1) m' σ' H') ∧ ∀ x H', (Itr lo n).yld i H x H' → g x σ H' fun σ2 H2 => tb { D with nx := N, ct := N, bk := D.nx } σ2 H2) := by
  refine ⟨fun i m σ H => m = n - i ∧ i ≤ n ∧ Pv i σ H, ⟨n, by simp, Nat.zero_le _, h0⟩, ?_⟩
  rintro i m σ H ⟨rfl, hi, p⟩
  by_cases hlt : i < n
  · refine .inr ⟨hlt, Pv (i + 1), fun σ' H' p' => ⟨n - (i + 1), by omega, rfl, hlt, p'⟩, fun x H' y => ?_⟩
    obtain ⟨e, y⟩ := y
    subst e y
    exact hs i σ _ hlt p
  · have e : i = n := by omega
    subst e
    exact .inl ⟨Nat.le_refl _, hd σ H p⟩
end L2

namespace L2
open PySem PySem.Spec PyProof.Rows

noncomputable abbrev R2 := V → V → Hp → VK → Prop
noncomputable def OpR (X : Cx) (f : Value → Value → Sem Value) (r : R2) : Prop :=
  ∀ (pins : List (Addr × Obj)) (s : Shared) (σ : St) (H : Hp) (x y : V) (v u : Value) (Q : VK), Inv X pins σ H s → RelV x v → RelV y u → r x y H Q →
    wpAny (model X.prog X.w) X.A (f v u) (EP X pins σ Q) X.xe s
noncomputable def UnR (X : Cx) (f : Value → Sem Value) (r : V → Hp → VK → Prop) : Prop :=
  ∀ (pins : List (Addr × Obj)) (s : Shared) (σ : St) (H : Hp) (x : V) (v : Value) (Q : VK), Inv X pins σ H s → RelV x v → r x H Q →
    wpAny (model X.prog X.w) X.A (f v) (EP X pins σ Q) X.xe s
noncomputable def CallR (X : Cx) (f : Value) (r : List V → Hp → VK → Prop) : Prop :=
  ∀ (pins : List (Addr × Obj)) (s : Shared) (σ : St) (H : Hp) (xs : List V) (us : List Value) (Q : VK), Inv X pins σ H s → Vals xs us → r xs H Q →
    wpAny (model X.prog X.w) X.A (call f us) (EP X pins σ Q) X.xe s
noncomputable def tOp (r : R2) (ta tb : TE) : TE := fun σ H Q => ta σ H fun x H1 => tb σ H1 fun y H2 => r x y H2 Q
noncomputable def tUn (r : V → Hp → VK → Prop) (ta : TE) : TE := fun σ H Q => ta σ H fun x H1 => r x H1 Q
noncomputable def rI (C : Int → Int → Prop) (g : Int → Int → V) : R2 := fun x y H Q => ∃ i j, x = .int i ∧ y = .int j ∧ C i j ∧ Q (g i j) H
noncomputable def rI0 (g : Int → Int → V) : R2 := fun x y H Q => ∃ i j, x = .int i ∧ y = .int j ∧ Q (g i j) H
noncomputable def rU (g : Int → V) : V → Hp → VK → Prop := fun x H Q => ∃ i, x = .int i ∧ Q (g i) H

section
variable {X : Cx} {a b c : Expr} {ta tb tc : TE} {pos : Pos}

theorem binT (ha : PE X a ta) (hb : PE X b tb) {pins : List (Addr × Obj)} {s : Shared} {σ : St} {H : Hp} {R : V → V → Hp → Prop} (I : Inv X pins σ H s)
    (h : ta σ H fun x H1 => tb σ H1 fun y H2 => R x y H2) {Q : Value → Shared → Prop} {f : Value → Value → Sem Value}
    (hf : ∀ v u s2 x y H2, Inv X pins σ H2 s2 → RelV x v → RelV y u → R x y H2 → wpAny (model X.prog X.w) X.A (f v u) Q X.xe s2) :
    wpAny (model X.prog X.w) X.A (eval a X.env) (fun v s₁ => wpAny (model X.prog X.w) X.A (eval b X.env) (fun u s₂ => wpAny (model X.prog X.w) X.A (f v u) Q X.xe s₂) X.xe s₁) X.xe s := by
  refine thn (ha pins s σ H _ I h) fun v s1 ⟨x, H1, I1, r1, q1⟩ => ?_
  refine thn (hb pins s1 σ H1 _ I1 q1) fun u s2 ⟨y, H2, I2, r2, q2⟩ => ?_
  exact hf v u s2 x y H2 I2 r1 r2 q2

theorem pe_op {op : Operator} {r : R2} (ho : OpR X (binaryOp op) r) (ha : PE X a ta) (hb : PE X b tb) : PE X (.BinOp a op b pos) (tOp r ta tb) := by
  intro pins s σ H Q I h
  exact wpAny_BinOp (binT ha hb I h fun v u s2 x y H2 I2 rx ry q => ho pins s2 σ H2 x y v u Q I2 rx ry q)
theorem pe_un {op : UnaryOp} {r : V → Hp → VK → Prop} (ho : UnR X (unaryOp op) r) (ha : PE X a ta) : PE X (.UnaryOp op a pos) (tUn r ta) := by
  intro pins s σ H Q I h
  exact UnaryOp_ (thn (ha pins s σ H _ I h) fun v s1 ⟨x, H1, I1, r1, q1⟩ => ho pins s1 σ H1 x v Q I1 r1 q1)
theorem opI {f : Value → Value → Sem Value} {C : Int → Int → Prop} {g : Int → Int → Int}
    (rule : ∀ (i j : Int) (t u : Tok) (s : Shared) (Q : Value → Shared → Prop) (E : Value → Shared → Prop), C i j → Q (.int (g i j) s.toks) { s with toks := s.toks + 1 } → wpAny (model X.prog X.w) X.A (f (.int i t) (.int j u)) Q E s) :
    OpR X f (rI C fun i j => .int (g i j)) := by
  intro pins s σ H x y v u Q I rx ry h
  obtain ⟨i, j, rfl, rfl, hc, q⟩ := h
  obtain ⟨t, rfl⟩ := rx
  obtain ⟨t', rfl⟩ := ry
  exact rule i j t t' s _ _ hc ⟨.int (g i j), H, I.tok _, ⟨_, rfl⟩, q⟩
theorem opI0 {f : Value → Value → Sem Value} {g : Int → Int → Int}
    (rule : ∀ (i j : Int) (t u : Tok) (s : Shared) (Q : Value → Shared → Prop) (E : Value → Shared → Prop), Q (.int (g i j) s.toks) { s with toks := s.toks + 1 } → wpAny (model X.prog X.w) X.A (f (.int i t) (.int j u)) Q E s) :
    OpR X f (rI0 fun i j => .int (g i j)) := by
  intro pins s σ H x y v u Q I rx ry h
  obtain ⟨i, j, rfl, rfl, q⟩ := h
  obtain ⟨t, rfl⟩ := rx
  obtain ⟨t', rfl⟩ := ry
  exact rule i j t t' s _ _ ⟨.int (g i j), H, I.tok _, ⟨_, rfl⟩, q⟩
theorem opB0 {f : Value → Value → Sem Value} {g : Int → Int → Bool}
    (rule : ∀ (i j : Int) (t u : Tok) (s : Shared) (Q : Value → Shared → Prop) (E : Value → Shared → Prop), Q (.bool (g i j)) s → wpAny (model X.prog X.w) X.A (f (.int i t) (.int j u)) Q E s) :
    OpR X f (rI0 fun i j => .bl (g i j)) := by
  intro pins s σ H x y v u Q I rx ry h
  obtain ⟨i, j, rfl, rfl, q⟩ := h
  obtain ⟨t, rfl⟩ := rx
  obtain ⟨t', rfl⟩ := ry
  exact rule i j t t' s _ _ ⟨.bl (g i j), H, I, rfl, q⟩

noncomputable def CDiv (i j : Int) : Prop := 0 < j ∧ j < 1073741824
noncomputable def CPow (i j : Int) : Prop := 0 ≤ j ∧ j ≤ 1000000 ∧ i.natAbs < 2 ^ 64
noncomputable def CMul (i j : Int) : Prop := (-(2 ^ 64) < i ∧ i < 2 ^ 64) ∨ (-(2 ^ 64) < j ∧ j < 2 ^ 64)
theorem CMul.ok {i j : Int} (h : CMul i j) : IntMulOk i j := by
  rcases h with ⟨h1, h2⟩ | ⟨h1, h2⟩
  · exact .of_left (intBits_le_64 h1 h2)
  · exact .of_right (intBits_le_64 h1 h2)
theorem op_add : OpR X (binaryOp .Add) (rI0 fun i j => .int (i + j)) := opI0 fun _ _ _ _ _ _ _ q => add_int q
theorem op_sub : OpR X (binaryOp .Sub) (rI0 fun i j => .int (i - j)) := opI0 fun _ _ _ _ _ _ _ q => sub_int q
theorem op_mul : OpR X (binaryOp .Mult) (rI CMul fun i j => .int (i * j)) := opI fun _ _ _ _ _ _ _ hc q => mul_int q hc.ok
theorem op_fdiv : OpR X (binaryOp .FloorDiv) (rI CDiv fun i j => .int (i / j)) := opI fun i j _ _ _ _ _ hc q => by
  have h1 : (0 : Int) < j := hc.1
  have h2 : j < 1073741824 := hc.2
  exact floordiv_int (by omega) (by rw [Int.fdiv_eq_ediv_of_nonneg i (by omega)]; exact q) (.inl (PyProof.noPylong_small (by omega)))
theorem op_mod : OpR X (binaryOp .Mod) (rI (fun _ j => 0 < j) fun i j => .int (i % j)) := opI fun i j _ _ _ _ _ hc q => by
  have h1 : (0 : Int) < j := hc
  exact mod_int' (by omega) (by rw [Int.fmod_eq_emod_of_nonneg i (by omega)]; exact q)
theorem op_pow : OpR X (binaryOp .Pow) (rI CPow fun i j => .int (i ^ j.toNat)) := opI fun _ _ _ _ _ _ _ hc q => pow_int_small hc.1 hc.2.1 hc.2.2 q
theorem op_xor : OpR X (binaryOp .BitXor) (rI0 fun i j => .int (Builtin.bitXor i j)) := opI0 fun _ _ _ _ _ _ _ q => xor_int q

theorem unI {f : Value → Sem Value} {g : Int → Int}
    (rule : ∀ (i : Int) (t : Tok) (s : Shared) (Q : Value → Shared → Prop) (E : Value → Shared → Prop), Q (.int (g i) s.toks) { s with toks := s.toks + 1 } → wpAny (model X.prog X.w) X.A (f (.int i t)) Q E s) :
    UnR X f (rU fun i => .int (g i)) := by
  intro pins s σ H x v Q I rx h
  obtain ⟨i, rfl, q⟩ := h
  obtain ⟨t, rfl⟩ := rx
  exact rule i t s _ _ ⟨.int (g i), H, I.tok _, ⟨_, rfl⟩, q⟩
theorem un_neg : UnR X (unaryOp .USub) (rU fun i => .int (-i)) := unI fun _ _ _ _ _ q => neg_int q
end

noncomputable def scal : V → V → Bool
  | .non, .non => true | .non, .int _ => true | .int _, .non => true | .non, .bl _ => true | .bl _, .non => true | .non, .str _ => true | .str _, .non => true
  | .int _, .int _ => true | .bl _, .bl _ => true | .str _, .str _ => true | .byt _, .byt _ => true
  | .int _, .str _ => true | .str _, .int _ => true | .bl _, .str _ => true | .str _, .bl _ => true
  | _, _ => false
noncomputable def rEq : R2 := fun x y H Q => scal x y = true ∧ Q (.bl (decide (x = y))) H
noncomputable def rNe : R2 := fun x y H Q => scal x y = true ∧ Q (.bl (!decide (x = y))) H

theorem dec_int {i j : Int} : decide (V.int i = V.int j) = (i == j) := by
  rw [Bool.eq_iff_iff]
  simp
theorem dec_bl {i j : Bool} : decide (V.bl i = V.bl j) = (i == j) := by
  rw [Bool.eq_iff_iff]
  simp
theorem dec_str {i j : Str} : decide (V.str i = V.str j) = (i == j) := by
  rw [Bool.eq_iff_iff]
  simp
theorem dec_byt {i j : Array UInt8} : decide (V.byt i = V.byt j) = (i.toList == j.toList) := by
  rw [Bool.eq_iff_iff]
  cases i
  cases j
  simp

section
variable {X : Cx} {a b c : Expr} {ta tb tc : TE} {pos : Pos}
theorem fin_bl {pins : List (Addr × Obj)} {σ : St} {H : Hp} {s : Shared} {Q : VK} {k k' : Bool} (I : Inv X pins σ H s) (q : Q (.bl k) H) (e : k = k') : EP X pins σ Q (.bool k') s := by
  subst e
  exact ⟨.bl k, H, I, rfl, q⟩
theorem op_eq : OpR X (compareOp .Eq) rEq := by
  intro pins s σ H x y v u Q I rx ry h
  obtain ⟨hs, q⟩ := h
  cases x with
  | non =>
    cases rx
    cases y with
    | non => cases ry; exact PySem.EqNone.eq_none_none (fin_bl I q (by simp))
    | bl j => cases ry; exact PySem.EqNone.eq_none_bool (fin_bl I q (by simp))
    | int j => obtain ⟨t', rfl⟩ := ry; exact PySem.EqNone.eq_none_int (fin_bl I q (by simp))
    | str j => obtain ⟨t', rfl⟩ := ry; exact PySem.EqNone.eq_none_str (fin_bl I q (by simp))
    | _ => exact absurd (show false = true from hs) Bool.false_ne_true
  | bl i =>
    cases rx
    cases y with
    | non => cases ry; exact PySem.EqNone.eq_bool_none (fin_bl I q (by simp))
    | bl j => cases ry; exact eq_bool (fin_bl I q dec_bl)
    | str j => obtain ⟨t', rfl⟩ := ry; exact PySem.EqMixed.eq_bool_str (fin_bl I q (by simp))
    | _ => exact absurd (show false = true from hs) Bool.false_ne_true
  | int i =>
    obtain ⟨t, rfl⟩ := rx
    cases y with
    | non => cases ry; exact PySem.EqNone.eq_int_none (fin_bl I q (by simp))
    | int j => obtain ⟨t', rfl⟩ := ry; exact eq_int (fin_bl I q dec_int)
    | str j => obtain ⟨t', rfl⟩ := ry; exact PySem.EqMixed.eq_int_str (fin_bl I q (by simp))
    | _ => exact absurd (show false = true from hs) Bool.false_ne_true
  | str i =>
    obtain ⟨t, rfl⟩ := rx
    cases y with
    | non => cases ry; exact PySem.EqNone.eq_str_none (fin_bl I q (by simp))
    | bl j => cases ry; exact PySem.EqMixed.eq_str_bool (fin_bl I q (by simp))
    | int j => obtain ⟨t', rfl⟩ := ry; exact PySem.EqMixed.eq_str_int (fin_bl I q (by simp))
    | str j => obtain ⟨t', rfl⟩ := ry; exact eq_str (fin_bl I q dec_str)
    | _ => exact absurd (show false = true from hs) Bool.false_ne_true
  | byt i =>
    obtain ⟨t, rfl⟩ := rx
    cases y with
    | byt j => obtain ⟨t', rfl⟩ := ry; exact PySem.W.eq_bytes (fin_bl I q dec_byt)
    | _ => exact absurd (show false = true from hs) Bool.false_ne_true
  | _ => cases y <;> exact absurd (show false = true from hs) Bool.false_ne_true
theorem op_ne : OpR X (compareOp .NotEq) rNe := by
  intro pins s σ H x y v u Q I rx ry h
  obtain ⟨hs, q⟩ := h
  cases x with
  | non =>
    cases rx
    cases y with
    | non => cases ry; exact PySem.EqNone.ne_none_none (fin_bl I q (by simp))
    | bl j => cases ry; exact PySem.EqNone.ne_none_bool (fin_bl I q (by simp))
    | int j => obtain ⟨t', rfl⟩ := ry; exact PySem.EqNone.ne_none_int (fin_bl I q (by simp))
    | str j => obtain ⟨t', rfl⟩ := ry; exact PySem.EqNone.ne_none_str (fin_bl I q (by simp))
    | _ => exact absurd (show false = true from hs) Bool.false_ne_true
  | bl i =>
    cases rx
    cases y with
    | non => cases ry; exact PySem.EqNone.ne_bool_none (fin_bl I q (by simp))
    | bl j => cases ry; exact ne_bool (fin_bl I q (congrArg not dec_bl))
    | str j => obtain ⟨t', rfl⟩ := ry; exact PySem.EqMixed.ne_bool_str (fin_bl I q (by simp))
    | _ => exact absurd (show false = true from hs) Bool.false_ne_true
  | int i =>
    obtain ⟨t, rfl⟩ := rx
    cases y with
    | non => cases ry; exact PySem.EqNone.ne_int_none (fin_bl I q (by simp))
    | int j => obtain ⟨t', rfl⟩ := ry; exact ne_int (fin_bl I q (congrArg not dec_int))
    | str j => obtain ⟨t', rfl⟩ := ry; exact PySem.EqMixed.ne_int_str (fin_bl I q (by simp))
    | _ => exact absurd (show false = true from hs) Bool.false_ne_true
  | str i =>
    obtain ⟨t, rfl⟩ := rx
    cases y with
    | non => cases ry; exact PySem.EqNone.ne_str_none (fin_bl I q (by simp))
    | bl j => cases ry; exact PySem.EqMixed.ne_str_bool (fin_bl I q (by simp))
    | int j => obtain ⟨t', rfl⟩ := ry; exact PySem.EqMixed.ne_str_int (fin_bl I q (by simp))
    | str j => obtain ⟨t', rfl⟩ := ry; exact ne_str (fin_bl I q (congrArg not dec_str))
    | _ => exact absurd (show false = true from hs) Bool.false_ne_true
  | byt i =>
    obtain ⟨t, rfl⟩ := rx
    cases y with
    | byt j => obtain ⟨t', rfl⟩ := ry; exact PySem.W.ne_bytes (fin_bl I q (congrArg not dec_byt))
    | _ => exact absurd (show false = true from hs) Bool.false_ne_true
  | _ => cases y <;> exact absurd (show false = true from hs) Bool.false_ne_true

theorem op_lt : OpR X (compareOp .Lt) (rI0 fun i j => .bl (decide (i < j))) := opB0 fun _ _ _ _ _ _ _ q => lt_int q
theorem op_le : OpR X (compareOp .LtE) (rI0 fun i j => .bl (decide (i ≤ j))) := opB0 fun _ _ _ _ _ _ _ q => le_int q
theorem OpR.or {f : Value → Value → Sem Value} {r r' : R2} (h : OpR X f r) (h' : OpR X f r') : OpR X f (fun x y H Q => r x y H Q ∨ r' x y H Q) := by
  intro pins s σ H x y v u Q I rx ry q
  rcases q with q | q
  · exact h pins s σ H x y v u Q I rx ry q
  · exact h' pins s σ H x y v u Q I rx ry q

theorem nomark (b : Expr) {op : CmpOp} (h : op ≠ .In := by decide) (h2 : op ≠ .NotIn := by decide) : behindInMarks op b = false := by
  have e1 : (op == CmpOp.In) = false := by cases op <;> first | rfl | exact absurd rfl h
  have e2 : (op == CmpOp.NotIn) = false := by cases op <;> first | rfl | exact absurd rfl h2
  cases b <;> simp [behindInMarks, e1, e2]
theorem pe_cmpR {op : CmpOp} {r : R2} (ho : OpR X (compareOp op) r) (ha : PE X a ta) (hb : PE X b tb) (hm : behindInMarks op b = false) : PE X (.Compare a [op] [b] pos) (tOp r ta tb) := by
  intro pins s σ H Q I h
  exact wpAny_Compare1 (binT ha hb I h fun v u s2 x y H2 I2 rx ry q => ho pins s2 σ H2 x y v u Q I2 rx ry q) hm
noncomputable def tTest (t : TE) : TT := fun σ H Q => t σ H fun x H' => ∃ k, x = .bl k ∧ Q k H'
theorem pt_cmpR {op : CmpOp} {r : R2} (ho : OpR X (compareOp op) r) (ha : PE X a ta) (hb : PE X b tb) (hm : behindInMarks op b = false) : PT X (.Compare a [op] [b] pos) (tTest (tOp r ta tb)) := by
  intro pins s σ H Q I h
  refine wpAny_isTrue_Compare1 (thn (ha pins s σ H _ I h) fun v s1 ⟨x, H1, I1, r1, q1⟩ => thn (hb pins s1 σ H1 _ I1 q1) fun u s2 ⟨y, H2, I2, r2, q2⟩ =>
    thn (ho pins s2 σ H2 x y v u _ I2 r1 r2 q2) fun c s3 ⟨z, H3, I3, r3, k, e, q3⟩ => ?_) hm
  subst e
  cases r3
  exact wpAny_truthy_bool ⟨H3, I3, q3⟩
noncomputable def tChain (r r' : R2) (ta tb tc : TE) : TE := fun σ H Q => ta σ H fun x H1 => tb σ H1 fun y H2 => r x y H2 fun z H3 => ∃ k, z = .bl k ∧
  (if k = true then tc σ H3 fun w' H4 => r' y w' H4 Q else Q (.bl false) H3)
theorem pe_chain {op op' : CmpOp} {r r' : R2} (ho : OpR X (compareOp op) r) (ho' : OpR X (compareOp op') r') (ha : PE X a ta) (hb : PE X b tb) (hc : PE X c tc)
    (hm : lastMarks [op, op'] [b, c] = false := by with_unfolding_all rfl) : PE X (.Compare a [op, op'] [b, c] pos) (tChain r r' ta tb tc) := by
  intro pins s σ H Q I h
  refine Compare_chain (thn (ha pins s σ H _ I h) fun v s1 ⟨x, H1, I1, r1, q1⟩ => chain_link (thn (hb pins s1 σ H1 _ I1 q1) fun u s2 ⟨y, H2, I2, r2, q2⟩ =>
    thn (ho pins s2 σ H2 x y v u _ I2 r1 r2 q2) fun d s3 ⟨z, H3, I3, r3, k, e, q3⟩ => ?_)) hm
  subst e
  cases r3
  refine wpAny_truthy_bool ?_
  cases k with
  | false => exact ite_ff ⟨.bl false, H3, I3, rfl, q3⟩
  | true => exact ite_tt (chain_last (thn (hc pins s3 σ H3 _ I3 q3) fun w' s4 ⟨z', H4, I4, r4, q4⟩ => ho' pins s4 σ H4 y z' u w' Q I4 r2 r4 q4))
theorem line63 : (sizeLine : Nat) < 2 ^ 63 := by rw [sizeLine_eq]; decide
theorem op_add_str : OpR X (binaryOp .Add) (fun x y H Q => ∃ i j, x = .str i ∧ y = .str j ∧ i.length + j.length ≤ sizeLine ∧ Q (.str (i ++ j)) H) := by
  intro pins s σ H x y v u Q I rx ry h
  obtain ⟨i, j, rfl, rfl, hz, q⟩ := h
  obtain ⟨t, rfl⟩ := rx
  obtain ⟨t', rfl⟩ := ry
  exact add_str (fun t' tk => ⟨.str (i ++ j), H, I.tok _, ⟨_, rfl⟩, q⟩) hz
theorem vals1 {x : V} {us : List Value} (r : Vals [x] us) : ∃ u, us = [u] ∧ RelV x u := by
  cases r with
  | cons r1 r2 => cases r2; exact ⟨_, rfl, r1⟩
theorem vals2 {x y : V} {us : List Value} (r : Vals [x, y] us) : ∃ u w', us = [u, w'] ∧ RelV x u ∧ RelV y w' := by
  cases r with
  | cons r1 r2 =>
    cases r2 with
    | cons r3 r4 => cases r4; exact ⟨_, _, rfl, r1, r3⟩
theorem call_int1 : CallR X (.type "int") (fun xs H Q => (∃ i, xs = [.int i] ∧ Q (.int i) H) ∨ ∃ k, xs = [.bl k] ∧ Q (.int (if k then 1 else 0)) H) := by
  intro pins s σ H xs us Q I r h
  rcases h with ⟨i, rfl, q⟩ | ⟨k, rfl, q⟩
  · obtain ⟨u, rfl, t, rfl⟩ := vals1 r
    exact call_int_int ⟨.int i, H, I, ⟨_, rfl⟩, q⟩
  · obtain ⟨u, rfl, r1⟩ := vals1 r
    cases r1
    exact call_int_bool ⟨.int (if k then 1 else 0), H, I.tok _, ⟨_, rfl⟩, q⟩
end
end L2

namespace L2
open PySem PySem.Spec PyProof.Rows

structure ObjM (h : Heap) (x dx C : Addr) (mA : Str → Option Value) : Prop where
  obj : h.get? x = some (PySem.W.instObj C dx)
  ns : h.Ns1 dx mA
  ne : dx ≠ x

theorem lookIn_ns {h : Heap} {dx : Addr} {mA : Str → Option Value} (n : h.Ns1 dx mA) : ∃ od, h.get? dx = some od ∧ ∀ name, PySem.W.lookIn name od = some (mA name) := by
  obtain ⟨o, es, ep, ho, hd, hk, _, hm⟩ := n
  refine ⟨o, ho, fun name => ?_⟩
  have e := hm name
  unfold nsFind findBy at e
  rw [← Array.find?_toList] at e
  unfold PySem.W.lookIn
  rw [hd]
  dsimp only
  split
  · rename_i y q
    rw [q] at e
    exact congrArg some e
  · rename_i q
    rw [q] at e
    have a : es.toList.any (·.refKey) = false := by
      rw [List.any_eq_false]
      intro y hy
      obtain ⟨z, t, hkey⟩ := hk y (Array.mem_toList_iff.mp hy)
      simp [DictEntry.refKey, hkey]
    have a' : ¬ es.toList.any (·.refKey) = true := by rw [a]; exact Bool.false_ne_true
    rw [if_neg a']
    exact congrArg some e

theorem ObjM.look {h : Heap} {x dx C : Addr} {mA : Str → Option Value} (I : ObjM h x dx C mA) : ∃ od, PySem.W.InstAt h x (PySem.W.instObj C dx) C (some od) ∧ ∀ name, PySem.W.lookIn name od = some (mA name) :=
  let ⟨od, ho, hl⟩ := lookIn_ns I.ns
  ⟨od, ⟨I.obj, rfl, rfl, ho⟩, hl⟩

section
variable {prog : Program} {w : World} {A : Around} {E : Value → Shared → Prop} {s : Shared} {K : PySem.W.Frag} {x dx C f : Addr} {mA : Str → Option Value} {name : Str} {v : Value}

end

section
variable {P : Program} {w : World} {H H' : Hp} {h h' : Heap} {a C dx : Addr} {fs fs' : List (Str × V)}
theorem ins_get (hok : HOk P w H h) (e : H a = some (.ins C dx fs)) : ∃ mA, ObjM h a dx C mA ∧ (∀ f, RelO (fs.lookup f) (mA f)) ∧ PySem.Within mA (fs.map (·.1)) ∧ fs.length ≤ 1000 ∧ H dx = some (.own a) := by
  obtain ⟨d, z, ne, ob, mA, n, r, q⟩ := (show ObjOk P w H h a (.ins C dx fs) from hok a _ e)
  exact ⟨mA, ⟨ob, n, ne⟩, r, q, z, d⟩
end

structure Cls (K : PySem.W.Frag) (C : Addr) : Prop where
  pg : PySem.W.plainGet K C Str.empty = true
  hd : PySem.W.hasDictIn K C = true
  po : PySem.W.plainOver K C = true
  sa : PySem.W.findIn K (.ref C) "__setattr__" = some (some (.builtin "object.__setattr__"))
theorem Cls.get {K : PySem.W.Frag} {C : Addr} (c : Cls K C) (f : Str) : PySem.W.plainGet K C f = true := c.pg
section
variable {X : Cx} {pins : List (Addr × Obj)} {σ : St} {H : Hp} {s : Shared} {a C dx : Addr} {fs : List (Str × V)} {f : Str} {v : V} {A : Around} {E : Value → Shared → Prop}

theorem Inv.made (I : Inv X pins σ H s) : Inv X pins σ (upd (upd H s.heap.objs.size (.own (s.heap.objs.size + 1))) (s.heap.objs.size + 1) (.ins C s.heap.objs.size []))
    { s with heap := (s.heap.push PySem.W.emptyDict).push (PySem.W.instObj C s.heap.objs.size) } := by
  have e1 : (s.heap.push PySem.W.emptyDict).get? s.heap.objs.size = some PySem.W.emptyDict := Heap.get?_push_size s.heap rfl
  have e2 : ((s.heap.push PySem.W.emptyDict).push (PySem.W.instObj C s.heap.objs.size)).get? (s.heap.objs.size + 1) = some (PySem.W.instObj C s.heap.objs.size) := by
    have := Heap.get?_push_size (s.heap.push PySem.W.emptyDict) (o := PySem.W.instObj C s.heap.objs.size) rfl
    rwa [Heap.size_push] at this
  have e3 : (s.heap.push PySem.W.emptyDict).Ns s.heap.objs.size (fun _ => none) := ⟨PySem.W.emptyDict, #[], _, e1, rfl, (fun e he => absurd he (by simp)), fun _ => rfl⟩
  have I1 := I.laid (a := s.heap.objs.size) (o := .own (s.heap.objs.size + 1)) (h' := s.heap.push PySem.W.emptyDict) (t' := s.toks) (fun b u q => Heap.get?_push_of_some _ q) (Nat.le_refl _) ⟨_, e1⟩
  refine I1.laid (a := s.heap.objs.size + 1) (o := .ins C s.heap.objs.size []) (t' := s.toks) (fun b u q => Heap.get?_push_of_some _ q) (Nat.le_of_eq (Heap.size_push _ _)) ?_
  have ne : s.heap.objs.size ≠ s.heap.objs.size + 1 := Nat.ne_of_lt (Nat.lt_succ_self _)
  refine ⟨by rw [upd_ne ne, upd_same], Nat.zero_le _, ne, e2, fun _ => none, (Heap.Ns1.of_empty e3).at fun o q => Heap.get?_push_of_some _ q, fun _ => True.intro, fun y hy => absurd rfl hy⟩

end

section
variable {X : Cx} {o e value : Expr} {f : Str} {pos pos' tpos : Pos} {ta tv : TE}
end

section
variable {X : Cx} {pins : List (Addr × Obj)} {σ : St} {H : Hp} {s : Shared} {A : Around} {E : Value → Shared → Prop} {Q : Value → Shared → Prop} {c : Value} {b : Bool}
inductive TyOf (K : PySem.W.Frag) (H : Hp) : V → Value → Prop where
  | non : TyOf K H .non (.type "NoneType")
  | bl (x : Bool) : TyOf K H (.bl x) (.type "bool")
  | int (i : Int) : TyOf K H (.int i) (.type "int")
  | str (x : Str) : TyOf K H (.str x) (.type "str")
  | flt (x : UInt64) : TyOf K H (.flt x) (.type "float")
  | lst {a : Addr} {xs : List V} (e : H a = some (.lst xs)) : TyOf K H (.ref a) (.type "list")
  | frz {a : Addr} {o : Obj} {xs : List V} (e : H a = some (.frz o (.lst xs))) : TyOf K H (.ref a) (.type "list")
  | tup {a : Addr} {xs : List V} (e : H a = some (.tup xs)) : TyOf K H (.ref a) (.type "tuple")
  | dK {a : Addr} {kvs : List (Key × V)} (e : H a = some (.dK kvs)) : TyOf K H (.ref a) (.type "dict")
  | dT {a : Addr} {kvs : List (List Key × V)} (e : H a = some (.dT kvs)) : TyOf K H (.ref a) (.type "dict")
  | ins {a C dx : Addr} {fs : List (Str × V)} (e : H a = some (.ins C dx fs)) (cl : Cls K C) (ha : PySem.W.findIn K (.ref C) "__class__" = some (some (.builtin "object.__class__")))
      (hn : PySem.W.specialIn K (.builtin "object.__class__") "__get__" = some (some (.builtin "getset_descriptor.__get__"))) (htk : PySem.W.takesIn K (.builtin "object.__class__") = some true)
      (hm : PySem.W.mroIn K C (.type "object") = some true) : TyOf K H (.ref a) (.ref C)
theorem isinst_ok {x : V} {u t : Value} (I : Inv X pins σ H s) (rx : RelV x u) (ty : TyOf X.K H x t) (e : PySem.W.kitOne X.K t c = some b) (h : ∀ tk, Q (.bool b) { s with toks := tk }) :
    wpAny (model X.prog X.w) A (call (.builtin "isinstance") [u, c]) Q E s := by
  cases ty with
  | non => cases (show u = Value.none from rx); exact PySem.W.kia_one PySem.W.kitx_none I.kIn True.intro e (fun z => nomatch z) h
  | bl y => cases (show u = Value.bool y from rx); exact PySem.W.kia_one PySem.W.kitx_bool I.kIn True.intro e (fun z => nomatch z) h
  | int i => obtain ⟨t, q⟩ := (show ∃ t, u = Value.int i t from rx); cases q; exact PySem.W.kia_one PySem.W.kitx_int I.kIn True.intro e (fun z => nomatch z) h
  | str y => obtain ⟨t, q⟩ := (show ∃ t, u = Value.str y t from rx); cases q; exact PySem.W.kia_one PySem.W.kitx_str I.kIn True.intro e (fun z => nomatch z) h
  | flt y => obtain ⟨t, q⟩ := (show ∃ t, u = Value.float y t from rx); cases q; exact PySem.W.kia_one PySem.W.kitx_float I.kIn True.intro e (fun z => nomatch z) h
  | @lst a xs ea =>
    cases (show u = Value.ref a from rx)
    obtain ⟨_, _, n, _, h1⟩ := (show ObjOk X.prog X.w H s.heap a (.lst xs) from I.hok a _ ea)
    exact PySem.W.kia_one PySem.W.kitx_list I.kIn ⟨_, h1, rfl⟩ e (fun z => nomatch z) h
  | @frz a ob xs ea =>
    cases (show u = Value.ref a from rx)
    obtain ⟨_, _, _, n, _, h1⟩ := (show ObjOk X.prog X.w H s.heap a (.frz ob (.lst xs)) from I.hok a _ ea)
    exact PySem.W.kia_one PySem.W.kitx_list I.kIn ⟨_, h1, rfl⟩ e (fun z => nomatch z) h
  | @tup a xs ea =>
    cases (show u = Value.ref a from rx)
    obtain ⟨_, _, _, p⟩ := (show ObjOk X.prog X.w H s.heap a (.tup xs) from I.hok a _ ea)
    obtain ⟨o, h1, h2, _⟩ := p
    exact PySem.W.kia_one PySem.W.kitx_tuple I.kIn ⟨o, h1, h2⟩ e (fun z => nomatch z) h
  | @dK a kvs ea =>
    cases (show u = Value.ref a from rx)
    obtain ⟨_, _, vs, _, p⟩ := (show ObjOk X.prog X.w H s.heap a (.dK kvs) from I.hok a _ ea)
    obtain ⟨o, es, ep, h1, h2, _⟩ := p
    exact PySem.W.kia_one PySem.W.kitx_dict I.kIn ⟨o, h1, h2.1⟩ e (fun z => nomatch z) h
  | @dT a kvs ea =>
    cases (show u = Value.ref a from rx)
    obtain ⟨_, _, xs, _, o, es, ep, h1, h2, _⟩ := (show ObjOk X.prog X.w H s.heap a (.dT kvs) from I.hok a _ ea)
    exact PySem.W.kia_one PySem.W.kitx_dict I.kIn ⟨o, h1, h2.1⟩ e (fun z => nomatch z) h
  | @ins a C dx fs ea cl ha hn htk hm =>
    cases (show u = Value.ref a from rx)
    obtain ⟨mA, O, _⟩ := ins_get I.hok ea
    obtain ⟨od, J, _⟩ := O.look
    exact PySem.W.kia_one (PySem.W.kitx_own (cl.get _) cl.hd ha hn htk hm) I.kIn J e (fun z => nomatch z) h
end
end L2

namespace L2
open PySem PySem.Spec PyProof.Rows

structure Room (k : Nat) (A : Around) : Prop where
  hd : A.handled = none
  dp : A.depth + 3 * k + 5 < recursionLimit
  un : A.units + 16 * k + 200 < cLine
theorem Room.mono {j k : Nat} {A : Around} (r : Room k A) (h : j ≤ k) : Room j A := ⟨r.hd, by have := r.dp; omega, by have := r.un; omega⟩
theorem Room.deeper {k : Nat} {A : Around} (r : Room (k + 1) A) (env : Env) : Room k (A.deeper env) :=
  ⟨r.hd, by have := r.dp; show A.depth + 1 + 3 * k + 5 < _; omega, by have := r.un; show A.units + 3 + 16 * k + 200 < _; omega⟩
theorem Room.in1 {k : Nat} {A : Around} (r : Room (k + 1) A) : Room k A.in1 :=
  ⟨r.hd, by have := r.dp; show A.depth + 3 * k + 5 < _; omega, by have := r.un; show A.units + 1 + 16 * k + 200 < _; omega⟩
theorem Room.depth {k : Nat} {A : Around} (r : Room k A) : A.depth < recursionLimit := by have := r.dp; omega
theorem Room.units {k : Nat} {A : Around} (r : Room k A) : A.units + 64 < cLine := by have := r.un; omega
theorem Room.units0 {k : Nat} {A : Around} (r : Room k A) : A.units < cLine := by have := r.un; omega

noncomputable def tNil : TA := fun _ H Q => Q [] H
noncomputable def tCons (ta : TE) (tr : TA) : TA := fun σ H Q => ta σ H fun x H1 => tr σ H1 fun xs H2 => Q (x :: xs) H2
section
variable {X : Cx} {e : Expr} {es : List Expr} {te : TE} {t : TA} {pos : Pos}
theorem pa_nil : PA X [] tNil := fun _ _ _ _ H Q I h => Calls.spliced_nil ⟨[], H, I, .nil, h⟩
theorem pa_cons (ha : PE X e te) (hr : PA X es t) (hs : starEach (e :: es) X.env = (false, eval e X.env) :: starEach es X.env := by rfl) : PA X (e :: es) (tCons te t) := by
  intro pos pins s σ H Q I h
  rw [hs]
  show wpAny _ _ (spliced ((false, eval e X.env) :: backTo pos (starEach es X.env))) _ _ s
  refine Calls.spliced_cons (thn (ha pins s σ H _ I h) fun u s1 ⟨x, H1, I1, r1, q1⟩ => ?_)
  exact thn (hr pos pins s1 σ H1 _ I1 q1) fun us s2 ⟨xs, H2, I2, r2, q2⟩ => ⟨x :: xs, H2, I2, .cons r1 r2, q2⟩

noncomputable def tTup (t : TA) : TE := fun σ H Q => t σ H fun xs H1 => xs.length ≤ sizeLine ∧ ∀ p, H1 p = none → Q (.ref p) (upd H1 p (.tup xs))
noncomputable def tLst (t : TA) : TE := fun σ H Q => t σ H fun xs H1 => xs.length ≤ sizeLine ∧ ∀ p, H1 p = none → Q (.ref p) (upd H1 p (.lst xs))
theorem pe_tup {x1} (h : PA X es t) : PE X (.Tuple es x1 pos) (tTup t) := by
  intro pins s σ H Q I hq
  refine wpAny_Tuple_spliced (thn (h pos pins s σ H _ I hq) fun us s1 ⟨xs, H1, I1, r, z, q⟩ => ⟨by rw [← r.length]; exact z, ?_⟩)
  have hf : H1 s1.heap.objs.size = none := I1.hok.fresh (Nat.le_refl _)
  refine ⟨.ref s1.heap.objs.size, upd H1 s1.heap.objs.size (.tup xs), I1.laid (t' := s1.toks) (fun b u e => Heap.get?_push_of_some _ e) (Nat.le_refl _) ?_, rfl, q _ hf⟩
  exact ⟨z, us, r, ⟨_, Heap.get?_push_size _ rfl, rfl, _, rfl⟩⟩
theorem pe_lst (h : PA X es t) : PE X (.List es pos) (tLst t) := by
  intro pins s σ H Q I hq
  refine wpAny_List_spliced (thn (h pos pins s σ H _ I hq) fun us s1 ⟨xs, H1, I1, r, z, q⟩ => ⟨by rw [← r.length]; exact z, ?_⟩)
  have hf : H1 s1.heap.objs.size = none := I1.hok.fresh (Nat.le_refl _)
  refine ⟨.ref s1.heap.objs.size, upd H1 s1.heap.objs.size (.lst xs), I1.laid (t' := s1.toks) (fun b u e => Heap.get?_push_of_some _ e) (Nat.le_refl _) ?_, rfl, q _ hf⟩
  exact ⟨z, us, 0, r, Heap.get?_push_size _ rfl⟩
end

noncomputable abbrev Sp := List V → Hp → VK → XK → Prop
noncomputable abbrev CXT := List Env → Hp → Shared → XK → Value → Shared → Prop

structure Env0 (P : Program) (w : World) (K : PySem.W.Frag) (mg : Str → Option Value) (base : Heap) (A : Around) (outer : List Env) (s : Shared) (H : Hp) : Prop where
  frames : A.frames = some outer
  mod : Mod K mg base
  bs : ∀ b o, base.get? b = some o → s.heap.get? b = some o ∧ H b = none
  bsz : base.objs.size ≤ s.heap.objs.size
  funs : s.heap.FunFrames base outer
  frf : ∀ b ∈ frs outer, H b = none
  hok : HOk P w H s.heap
  bare : AllBare s.gens
noncomputable def CE (outer : List Env) (P : Program) (w : World) (H : Hp) (s : Shared) (Q : VK) (u : Value) (s' : Shared) : Prop :=
  ∃ v H', s'.os = s.os ∧ AllBare s'.gens ∧ Un (frs outer) [] H H' s.heap s'.heap ∧ HOk P w H' s'.heap ∧ RelV v u ∧ Q v H'
noncomputable def CR (CX : CXT) (outer : List Env) (P : Program) (w : World) (H : Hp) (s : Shared) (Q : VK) (E : XK) (r : Result) (s' : Shared) : Prop :=
  match r with
  | .ok (.ret u) => CE outer P w H s Q u s'
  | .ok _ => False
  | .error e => CX outer H s E e s'
structure FnOk (P : Program) (w : World) (K : PySem.W.Frag) (mg : Str → Option Value) (base : Heap) (CX : CXT) (k : Nat) (f : Addr) (fd : FuncData) (ps : List Str) (sp : Sp) : Prop where
  len : ∀ vs H Q E, sp vs H Q E → vs.length = ps.length
  run : ∀ (A : Around) (outer : List Env) (s : Shared) (H : Hp) (args : Args) (us : List Value) (vs : List V) (Q : VK) (E : XK), Room k A → Env0 P w K mg base A outer s H → BindsTo s fd args (ps.zip us) → Vals vs us → sp vs H Q E →
    codeAny (model P w) A (.call (.ref f) args) (CR CX outer P w H s Q E) s
theorem FnOk.mono {P : Program} {w : World} {K : PySem.W.Frag} {mg : Str → Option Value} {base : Heap} {CX : CXT} {j k : Nat} {f : Addr} {fd : FuncData} {ps : List Str} {sp : Sp} (F : FnOk P w K mg base CX j f fd ps sp) (h : j ≤ k) :
    FnOk P w K mg base CX k f fd ps sp := ⟨F.len, fun A outer s H args us vs Q E hr => F.run A outer s H args us vs Q E (hr.mono h)⟩
theorem Env0.in1 {P : Program} {w : World} {K : PySem.W.Frag} {mg : Str → Option Value} {base : Heap} {A : Around} {outer : List Env} {s : Shared} {H : Hp} (e : Env0 P w K mg base A outer s H) :
    Env0 P w K mg base A.in1 outer s H := ⟨e.frames, e.mod, e.bs, e.bsz, e.funs, e.frf, e.hok, e.bare⟩

section
variable {X : Cx} {pins : List (Addr × Obj)} {σ : St} {H : Hp} {s s' : Shared}
theorem Inv.env0 (I : Inv X pins σ H s) : Env0 X.prog X.w X.K X.mg X.base X.A X.stack s H :=
  ⟨I.ok.frames, I.ok.mod, I.bs, Nat.le_trans I.ok.bsz I.sz, I.stack, I.stkFree, I.hok, I.bare⟩
theorem Inv.after {Q : VK} {u : Value} (I : Inv X pins σ H s) (h : CE X.stack X.prog X.w H s Q u s') : EP X pins σ Q u s' := by
  obtain ⟨v, H', os, bare, un, hok, r, q⟩ := h
  obtain ⟨hh, g, d, t, os'⟩ := s'
  obtain rfl : os' = s.os := os
  exact ⟨v, H', I.call (h' := hh) (g' := g) (d' := d) (t' := t) (ch := []) un hok bare (fun b z => absurd z (by simp)), r, q⟩
end

noncomputable def tCall (sp : Sp) (dvs : List V) (E : XK) (t : TA) : TE := fun σ H Q => t σ H fun vs H1 => sp (vs ++ dvs) H1 Q E
noncomputable def Binds (K : PySem.W.Frag) (fd : FuncData) (ps : List Str) (ds : List Value) : Prop :=
  ∀ (s : Shared) (us : List Value), K.In s.heap → (us ++ ds).length = ps.length → BindsTo s fd ⟨us, []⟩ (ps.zip (us ++ ds))
theorem Binds.all {K : PySem.W.Frag} {fd : FuncData} {ps : List Str} (h : ∀ us : List Value, us.length = ps.length → bindArgs fd ⟨us, []⟩ = pure (ps.zip us)) : Binds K fd ps [] := fun s us _ hl => by
  rw [List.append_nil] at hl ⊢
  exact .of_eq (h us hl)

noncomputable def Passes (CX : CXT) (X : Cx) (E : XK) : Prop := ∀ (pins : List (Addr × Obj)) (σ : St) (H : Hp) (s : Shared) (e : Value) (s' : Shared), Inv X pins σ H s → CX X.stack H s E e s' → X.xe e s'

section
variable {X : Cx} {CX : CXT} {k : Nat} {f C : Addr} {fd : FuncData} {ps : List Str} {sp : Sp} {dvs : List V} {ds : List Value} {E : XK} {x m : Str} {p pos apos : Pos} {e o : Expr} {es : List Expr} {ta : TE} {t : TA}

theorem run_fn {pins : List (Addr × Obj)} {σ : St} {H : Hp} {s : Shared} {Q : VK} {us : List Value} {vs : List V} (F : FnOk X.prog X.w X.K X.mg X.base CX k f fd ps sp) (hr : Room k X.A) (hb : Binds X.K fd ps ds) (hd : Vals dvs ds) (hx : Passes CX X E)
    (I : Inv X pins σ H s) (r : Vals vs us) (h : sp (vs ++ dvs) H Q E) : wpAny (model X.prog X.w) X.A (call (.ref f) us) (EP X pins σ Q) X.xe s := by
  have r2 : Vals (vs ++ dvs) (us ++ ds) := r.append hd
  have hl : (us ++ ds).length = ps.length := by rw [← r2.length]; exact F.len _ _ _ _ h
  refine wpAny_call (codeAny_mono (F.run X.A X.stack s H ⟨us, []⟩ (us ++ ds) (vs ++ dvs) Q E hr I.env0 (hb s us I.kIn hl) r2 h) fun r s' hq => ?_)
  cases r with
  | error e => exact hx pins σ H s e s' I hq
  | ok fl =>
    cases fl with
    | ret u => exact I.after hq
    | next => exact False.elim hq
    | brk => exact False.elim hq
    | cont => exact False.elim hq

theorem pe_call (F : FnOk X.prog X.w X.K X.mg X.base CX k f fd ps sp) (hr : Room k X.A) (hg : Gl X x) (hm : X.mg x = some (.ref f)) (hk : PySem.W.keepIn X.K (.ref f) = true) (hb : Binds X.K fd ps ds) (hd : Vals dvs ds) (hx : Passes CX X E)
    (ha : PA X (e :: es) t) (hdb : (x == ("__debug__" : Str)) = false := by decide) (he : starEach (e :: es) X.env = (false, eval e X.env) :: starEach es X.env := by rfl) (hpl : (backTo pos (starEach es X.env)).any (·.1) = false := by rfl) :
    PE X (.Call (.Name x p) (e :: es) [] pos) (tCall sp dvs E t) := by
  intro pins s σ H Q I h
  refine wpAny_Call_Name_kw (ld_glob I hg hm ?_ hdb)
  refine PySem.W.callWith_K (h₀ := X.base) I.ok.mod.kin hk (thn (ha pos pins s σ H _ I h) fun us s1 ⟨vs, H1, I1, r, q⟩ => ⟨I1.kIn, ?_⟩) he hpl
  exact run_fn F hr hb hd hx I1 r q
end

section
variable {X : Cx} {CX : CXT} {k : Nat} {f C : Addr} {fd : FuncData} {ps ks : List Str} {sp : Sp} {E : XK} {x m : Str} {p pos apos kpos : Pos} {e o : Expr} {es : List Expr} {kws : List Keyword} {te ta : TE} {t tk : TA} {nm : Option Str}
variable {g : List Value → List Value → List Value} {gV : List V → List V → List V}
end

structure FnScope (N P : List Str) (sc : Scope) : Prop where
  kind : sc.kind = .function
  co : sc.isCoroutine = false
  gen : sc.isGenerator = false
  nd : N.Nodup
  pre : N.take P.length = P
  par : ∀ x ∈ P, sc.names.lookup x = some .local ∨ sc.names.lookup x = some .cell
  nofree : ∀ y ∈ sc.names, y.2 ≠ .free

theorem bindL_out {kindOf : Str → Option NameKind} {x : Str} : ∀ {binds : List (Str × Value)} {m : Str → Option Value}, (∀ v, (x, v) ∉ binds) → bindL kindOf binds m x = m x
  | [], _, _ => rfl
  | (n, v) :: r, m, h => by
    unfold bindL
    rw [bindL_out fun w hw => h w (List.mem_cons_of_mem _ hw)]
    split
    · have : x ≠ n := by rintro rfl; exact h v List.mem_cons_self
      simp [this]
    · rfl
theorem bindC_out {kindOf : Str → Option NameKind} {x : Str} : ∀ {binds : List (Str × Value)} {m : Str → Option Value}, (∀ v, (x, v) ∉ binds) → bindC kindOf binds m x = m x
  | [], _, _ => rfl
  | (n, v) :: r, m, h => by
    unfold bindC
    rw [bindC_out fun w hw => h w (List.mem_cons_of_mem _ hw)]
    split
    · rfl
    · have : x ≠ n := by rintro rfl; exact h v List.mem_cons_self
      simp [this]
theorem bindL_get {kindOf : Str → Option NameKind} {x : Str} {v : Value} : ∀ {P : List Str} {vs : List Value} {i : Nat} {m : Str → Option Value}, P.Nodup → P[i]? = some x → vs[i]? = some v → kindOf x = some .local →
    bindL kindOf (P.zip vs) m x = some v
  | [], _, _, _, _, h, _, _ => by simp at h
  | _ :: _, [], _, _, _, _, h, _ => by simp at h
  | p :: P, w :: vs, 0, m, nd, h1, h2, hk => by
    simp at h1 h2; subst h1; subst h2
    show bindL kindOf ((p, w) :: P.zip vs) m p = _
    unfold bindL
    rw [bindL_out fun v hv => (List.nodup_cons.mp nd).1 (List.of_mem_zip hv).1, if_pos hk]
    simp
  | p :: P, w :: vs, i + 1, m, nd, h1, h2, hk => by
    show bindL kindOf ((p, w) :: P.zip vs) m x = _
    unfold bindL
    exact bindL_get (i := i) (List.nodup_cons.mp nd).2 (by simpa using h1) (by simpa using h2) hk
theorem bindC_get {kindOf : Str → Option NameKind} {x : Str} {v : Value} : ∀ {P : List Str} {vs : List Value} {i : Nat} {m : Str → Option Value}, P.Nodup → P[i]? = some x → vs[i]? = some v → kindOf x ≠ some .local →
    bindC kindOf (P.zip vs) m x = some v
  | [], _, _, _, _, h, _, _ => by simp at h
  | _ :: _, [], _, _, _, _, h, _ => by simp at h
  | p :: P, w :: vs, 0, m, nd, h1, h2, hk => by
    simp at h1 h2; subst h1; subst h2
    show bindC kindOf ((p, w) :: P.zip vs) m p = _
    unfold bindC
    rw [bindC_out fun v hv => (List.nodup_cons.mp nd).1 (List.of_mem_zip hv).1, if_neg hk]
    simp
  | p :: P, w :: vs, i + 1, m, nd, h1, h2, hk => by
    show bindC kindOf ((p, w) :: P.zip vs) m x = _
    unfold bindC
    exact bindC_get (i := i) (List.nodup_cons.mp nd).2 (by simpa using h1) (by simpa using h2) hk

noncomputable def start (N : List Str) (vs : List V) : St := vs.map some ++ List.replicate (N.length - vs.length) none

noncomputable def cxOf (CX : CXT) (P : Program) (w : World) (K : PySem.W.Frag) (mg : Str → Option Value) (base : Heap) (N : List Str) (qual : Str) (scope : Scope) (f : Addr) (cd : Value) (A : Around) (outer : List Env) (s : Shared) (H : Hp) (E : XK) : Cx where
  prog := P
  w := w
  K := K
  mg := mg
  base := base
  A := A.deeper (envOfC qual scope s.heap.objs.size f cd)
  N := N
  s₀ := s
  H₀ := H
  env := envOfC qual scope s.heap.objs.size f cd
  outer := outer
  stack := envOfC qual scope s.heap.objs.size f cd :: outer
  ex := []
  calm := true
  fn := fun _ => true
  pn := []
  xe := fun e s' => wpAny (model P w) (A.deeper (envOfC qual scope s.heap.objs.size f cd)) (leaving (envOfC qual scope s.heap.objs.size f cd) e) (fun _ s'' => CX outer H s E e s'') (fun e' s'' => CX outer H s E e' s'') s'

theorem cell_has {sc : Scope} {n : Nat} {x : Str} (h : sc.names.lookup x = some .cell) : ∃ c, (cellsFrom n sc.names []).lookup x = some c := by
  have q := PySem.W.cellsFrom_some sc.names n [] (.inl h)
  exact Option.isSome_iff_exists.mp q

theorem inv_start {CX : CXT} {P : Program} {w : World} {K : PySem.W.Frag} {mg : Str → Option Value} {base : Heap} {N ps : List Str} {qual : Str} {scope : Scope} {f : Addr} {cd : Value} {A : Around} {outer : List Env} {s s1 : Shared} {H : Hp} {E : XK} {us : List Value} {vs : List V}
    (S : FnScope N ps scope) (hd : A.handled = none) (e0 : Env0 P w K mg base A outer s H) (hl : vs.length = ps.length) (r : Vals vs us)
    (x : InCallC s s.heap.objs.size (bindL (envOfC qual scope s.heap.objs.size f cd).kindOf (ps.zip us) fun _ => none) (cellsFrom (s.heap.objs.size + 1) scope.names []) (bindC (envOfC qual scope s.heap.objs.size f cd).kindOf (ps.zip us) fun _ => none) s1) :
    Inv (cxOf CX P w K mg base N qual scope f cd A outer s H E) [] (start N vs) H s1 := by
  have hpl : ps.length ≤ N.length := by have := congrArg List.length S.pre; rw [List.length_take] at this; omega
  obtain ⟨h1, tk, rfl, hk⟩ := x.done
  have noA : ∀ b : Addr, b ∉ (cxOf CX P w K mg base N qual scope f cd A outer s H E).ex := fun b z => absurd (show b ∈ ([] : List Addr) from z) (by simp)
  refine ⟨⟨e0.mod, S.kind, rfl, rfl, Nat.le_refl _, fun y z c h1 h2 => ?_, fun y hy => ?_, fun y c _ h => ?_, fun _ => hd, Around.frames_deeper e0.frames, .inr ⟨rfl, rfl⟩, fun b z => absurd z (noA b), e0.bs, e0.bsz, fun b _ _ => noA b, fun b z => absurd z (noA b), e0.funs, e0.frf⟩,
    rfl, e0.bare, Un.kept hk, ⟨_, x.toInCall.ns, fun i y v h1 h2 h3 => ?_⟩, fun y c h => ⟨_, x.cell y c h⟩, e0.hok.fresh (Nat.le_refl _), fun y c h => ?_, fun p hp => absurd (show p ∈ ([] : List (Addr × Obj)) from hp) (by simp), e0.hok.kept hk, ?_⟩
  · exact name_of_addr x.apart (PySem.mem_of_lookup h1) (PySem.mem_of_lookup h2)
  · have hy : scope.names.lookup y = some .cell ∨ scope.names.lookup y = some .free := hy
    rcases hy with hy | hy
    · exact cell_has hy
    · exact absurd rfl (S.nofree _ (PySem.mem_of_lookup hy))
  · exact Nat.le_of_lt (x.above y c (PySem.mem_of_lookup h))
  · have hi : i < vs.length := by
      unfold start at h2
      by_cases hi : i < vs.length
      · exact hi
      · rw [List.getElem?_append_right (by simpa using hi)] at h2
        rw [List.getElem?_replicate] at h2
        split at h2 <;> cases h2
    have ha : vs[i]? = some v := by
      unfold start at h2
      rw [List.getElem?_append_left (by simpa using hi), List.getElem?_map] at h2
      cases e : vs[i]? with
      | none => rw [e] at h2; cases h2
      | some a => rw [e] at h2; cases h2; rfl
    obtain ⟨u, hu, rv⟩ := r.get ha
    have hp : ps[i]? = some y := by
      rw [← S.pre, List.getElem?_take_of_lt (by omega)]; exact h1
    have ndP : ps.Nodup := by rw [← S.pre]; exact S.nd.sublist (List.take_sublist _ _)
    refine ⟨u, rv, ?_⟩
    rcases S.par y (List.mem_of_getElem? hp) with k | k
    · exact .inl ⟨k, bindL_get ndP hp hu k⟩
    · obtain ⟨c, e⟩ := cell_has (n := s.heap.objs.size + 1) k
      refine .inr ⟨.inl k, c, e, ?_⟩
      have q := x.cell y c e
      rw [bindC_get ndP hp hu (by show scope.names.lookup y ≠ _; rw [k]; decide)] at q
      exact q
  · exact e0.hok.fresh (Nat.le_of_lt (x.above y c (PySem.mem_of_lookup h)))
  · unfold start
    show _ = N.length
    rw [List.length_append, List.length_map, List.length_replicate]
    omega

theorem fn_of {CX : CXT} {P : Program} {w : World} {K : PySem.W.Frag} {mg : Str → Option Value} {base : Heap} {k : Nat} {f : Addr} {name qual : Str} {params : Arguments} {body : List Stmt} {scope : Scope} {dV kV doc pm cdv ct oc : Value} {an od : Option Addr}
    {osl : Array (Option Value)} {N ps : List Str} {sp : Sp} (lk : K.lookup f = some ⟨oc, od, .func (PySem.W.fnOf name qual params body scope dV kV doc pm an cdv ct), osl⟩) (hcd : PySem.W.codeIn K cdv qual = true) (S : FnScope N ps scope)
    (len : ∀ vs H Q E, sp vs H Q E → vs.length = ps.length)
    (hbody : ∀ (A : Around) (outer : List Env) (s : Shared) (H : Hp) (vs : List V) (Q : VK) (E : XK), Room k (A.deeper (envOfC qual scope s.heap.objs.size f cdv)) → sp vs H Q E →
      ∃ t, PSs (cxOf CX P w K mg base N qual scope f cdv A outer s H E) body t ∧ t { nx := fun _ H' => Q .non H', rt := Q } (start N vs) H) :
    FnOk P w K mg base CX (k + 1) f (PySem.W.fnOf name qual params body scope dV kV doc pm an cdv ct) ps sp := by
  refine ⟨len, fun A outer s H args us vs Q E hr e0 hb r hsp => ?_⟩
  have hl := len _ _ _ _ hsp
  have KX : K.In s.heap := e0.mod.kin.keeps fun b o e => (e0.bs b o e).1
  have lim : s.heap.NoLimit := e0.mod.nolimit.keeps fun b o e => (e0.bs b o e).1
  have hkind : ∀ y ∈ ps.zip us, scope.names.lookup y.1 = some .local ∨ (scope.names.lookup y.1 = some .cell ∧ ((cellsFrom (s.heap.objs.size + 1) scope.names []).lookup y.1).isSome = true) := fun ⟨n, v⟩ hy => by
    rcases S.par n (List.of_mem_zip hy).1 with q | q
    · exact .inl q
    · exact .inr ⟨q, PySem.W.cellsFrom_some _ _ _ (.inl q)⟩
  refine codeAny_call_function hr.depth (KX _ _ lk) rfl S.co S.gen rfl (PySem.W.codeRec_of KX hcd) (hb _ _ _ _ ?_)
  refine wpAny_newFunctionEnv_cells S.kind hkind fun env he s1 x => ?_
  subst he
  refine ⟨lim.keeps x.toInCall.keep, codeAny_func ?_⟩
  obtain ⟨t, ht, hq⟩ := hbody A outer s H vs Q E (hr.deeper _) hsp
  have I : Inv (cxOf CX P w K mg base N qual scope f cdv A outer s H E) [] (start N vs) H s1 := inv_start S hr.hd e0 hl r x
  refine wpAny_mono (ht [] s1 (start N vs) H _ I hq) (fun fl s' hs => ?_) fun e s' hs => hs
  have fin : ∀ {σ' : St} {H' : Hp} {v : V} {u : Value}, Inv (cxOf CX P w K mg base N qual scope f cdv A outer s H E) [] σ' H' s' → RelV v u → Q v H' → CE outer P w H s Q u s' :=
    fun {σ' H' v u} J rv q => ⟨v, H', J.os, J.bare, J.base, J.hok, rv, q⟩
  cases fl with
  | ret u =>
    obtain ⟨v, σ', H', J, rv, q⟩ := hs
    exact fin J rv q
  | next =>
    obtain ⟨σ', H', J, q⟩ := hs
    exact fin (v := V.non) (u := Value.none) J rfl q
  | brk =>
    obtain ⟨_, _, _, q⟩ := hs
    exact False.elim q
  | cont =>
    obtain ⟨_, _, _, q⟩ := hs
    exact False.elim q
end L2

namespace L2
open PySem PySem.Spec PyProof.Rows
section
variable {X : Cx} {x : Str} {p pos : Pos} {e : Expr} {es : List Expr} {t : TA} {id T : String} {r : List V → Hp → VK → Prop}

noncomputable def tCB (r : List V → Hp → VK → Prop) (t : TA) : TE := fun σ H Q => t σ H fun vs H1 => r vs H1 Q
theorem pe_callB (hc : CallR X (.builtin id) r) (hg : Gl X x) (hm : X.mg x = none) (hv : bootBuiltins x = some (.builtin id)) (ha : PA X (e :: es) t) (hn : x ≠ "__name__" := by decide) (hdb : (x == ("__debug__" : Str)) = false := by decide)
    (he : starEach (e :: es) X.env = (false, eval e X.env) :: starEach es X.env := by rfl) (hpl : (backTo pos (starEach es X.env)).any (·.1) = false := by rfl) : PE X (.Call (.Name x p) (e :: es) [] pos) (tCB r t) := by
  intro pins s σ H Q I h
  refine wpAny_Call_Name_kw (ld_blt I hg hm hv ?_ hn hdb)
  exact PyProof.Rows.callWith_builtin1 (thn (ha pos pins s σ H _ I h) fun us s1 ⟨vs, H1, I1, r1, q1⟩ => hc pins s1 σ H1 vs us Q I1 r1 q1) he hpl
theorem pe_callTy (hc : CallR X (.type T) r) (hg : Gl X x) (hm : X.mg x = none) (hv : bootBuiltins x = some (.type T)) (ha : PA X (e :: es) t) (hn : x ≠ "__name__" := by decide) (hdb : (x == ("__debug__" : Str)) = false := by decide)
    (he : starEach (e :: es) X.env = (false, eval e X.env) :: starEach es X.env := by rfl) (hpl : (backTo pos (starEach es X.env)).any (·.1) = false := by rfl) : PE X (.Call (.Name x p) (e :: es) [] pos) (tCB r t) := by
  intro pins s σ H Q I h
  refine wpAny_Call_Name_kw (ld_blt I hg hm hv ?_ hn hdb)
  exact PyProof.Rows.callWith_type1 (thn (ha pos pins s σ H _ I h) fun us s1 ⟨vs, H1, I1, r1, q1⟩ => hc pins s1 σ H1 vs us Q I1 r1 q1) he hpl
end
end L2

namespace HT
open PySem PyProof.Rows

section
open PySem.SeqAt
open PySem.AutoSeq1 (wpAny_loadPart')
open PySem.MeetsSeq PySem.MeetsSeq2 PySem.MeetsSeq3

end

section
variable {prog : Program} {w : World} {A : Around} {E : Value → Shared → Prop} {s : Shared}

noncomputable def sIx (n d : Nat) : Option Int → Nat
  | none => d
  | some v => if v < 0 then (v + (n : Int)).toNat else min v.toNat n
theorem sIx_none (n d : Nat) : sIx n d none = d := rfl
theorem sIx_nat (n d k : Nat) : sIx n d (some (k : Int)) = min k n := by
  show (if (k : Int) < 0 then ((k : Int) + (n : Int)).toNat else min (k : Int).toNat n) = min k n
  rw [if_neg (by omega), Int.toNat_natCast]
theorem sIx_le (n d : Nat) (hd : d ≤ n) (o : Option Int) : sIx n d o ≤ n := by
  cases o with
  | none => exact hd
  | some v =>
    show (if v < 0 then (v + (n : Int)).toNat else min v.toNat n) ≤ n
    by_cases hv : v < 0
    · rw [if_pos hv]; omega
    · rw [if_neg hv]; exact Nat.min_le_right _ _
end
end HT

namespace L2
open PySem PySem.Spec PyProof.Rows

noncomputable abbrev TO := St → Hp → (Option Int → Hp → Prop) → Prop
noncomputable def PO (X : Cx) (e : Option Expr) (t : TO) : Prop :=
  ∀ (pins : List (Addr × Obj)) (s : Shared) (σ : St) (H : Hp) (Q : Option Int → Hp → Prop), Inv X pins σ H s → t σ H Q →
    wpAny (model X.prog X.w) X.A (evalPart e X.env) (fun u s' => ∃ o H', Inv X pins σ H' s' ∧ IsPart u o ∧ Q o H') X.xe s
noncomputable def tNoPart : TO := fun _ H Q => Q none H
noncomputable def tPart (t : TE) : TO := fun σ H Q => t σ H fun x H1 => ∃ i, x = .int i ∧ Q (some i) H1

section
variable {X : Cx} {e : Expr} {te : TE} {lo hi : Option Expr} {tl th : TO} {pos p2 : Pos}

theorem po_none : PO X none tNoPart := by
  intro pins s σ H Q I h
  rw [evalPart_none]
  exact wpAny_pure ⟨none, H, I, .none, h⟩
theorem po_some (h : PE X e te) : PO X (some e) (tPart te) := by
  intro pins s σ H Q I hw
  rw [evalPart_some]
  refine thn (h pins s σ H _ I hw) fun u s1 ⟨x, H1, I1, r1, q1⟩ => ?_
  obtain ⟨i, rfl, q⟩ := q1
  obtain ⟨t, rfl⟩ := r1
  exact ⟨some i, H1, I1, .int i t, q⟩

noncomputable def SlR (X : Cx) (r : V → Option Int → Option Int → Hp → VK → Prop) : Prop :=
  ∀ (pins : List (Addr × Obj)) (s : Shared) (σ : St) (H : Hp) (x : V) (v vl vu : Value) (lo hi : Option Int) (sl : Addr) (Q : VK), Inv X pins σ H s → RelV x v → s.heap.IsSliceOf sl vl vu .none → IsPart vl lo → IsPart vu hi → r x lo hi H Q →
    ∃ T id, typeLookup (.type T) "__getitem__" = pure (some (.builtin id)) ∧ s.TypeIs v T ∧ wpAny (model X.prog X.w) X.A (getItem v (.ref sl)) (EP X pins σ Q) X.xe s
theorem SlR.or {r r' : V → Option Int → Option Int → Hp → VK → Prop} (h : SlR X r) (h' : SlR X r') : SlR X (fun x lo hi H Q => r x lo hi H Q ∨ r' x lo hi H Q) := by
  intro pins s σ H x v vl vu lo hi sl Q I rx hs pl pu q
  rcases q with q | q
  · exact h pins s σ H x v vl vu lo hi sl Q I rx hs pl pu q
  · exact h' pins s σ H x v vl vu lo hi sl Q I rx hs pl pu q
noncomputable def tSl (r : V → Option Int → Option Int → Hp → VK → Prop) (te : TE) (tl th : TO) : TE := fun σ H Q => te σ H fun x H1 => tl σ H1 fun l H2 => th σ H2 fun u H3 => r x l u H3 Q
theorem pe_slice {r : V → Option Int → Option Int → Hp → VK → Prop} (hr : SlR X r) (he : PE X e te) (hl : PO X lo tl) (hu : PO X hi th) : PE X (.Subscript e (.Slice lo hi none p2) pos) (tSl r te tl th) := by
  intro pins s σ H Q I h
  refine Subscript_ (thn (he pins s σ H _ I h) fun v s1 ⟨x, H1, I1, r1, q1⟩ => ?_)
  refine wpAny_Slice (thn (hl pins s1 σ H1 _ I1 q1) fun vl s2 ⟨l, H2, I2, pl, q2⟩ => thn (hu pins s2 σ H2 _ I2 q2) fun vu s3 ⟨u, H3, I3, pu, q3⟩ => ?_)
  rw [evalPart_none]
  refine wpAny_pure ?_
  have I4 : Inv X pins σ H3 { s3 with heap := s3.heap.push { cls := .type "slice", data := .fields #[vl, vu, .none] } } := I3.kept (t' := s3.toks) fun b ob q => Heap.get?_push_of_some _ q
  obtain ⟨T, id, hT, ht, hg⟩ := hr pins { s3 with heap := s3.heap.push { cls := .type "slice", data := .fields #[vl, vu, .none] } } σ H3 x v vl vu l u s3.heap.objs.size Q I4 r1 (Heap.IsSliceOf.new ..) pl pu q3
  show wpAny (model X.prog X.w) X.A (subscriptTail e (.Slice lo hi none p2) v (.ref s3.heap.objs.size)) (EP X pins σ Q) X.xe { s3 with heap := s3.heap.push { cls := .type "slice", data := .fields #[vl, vu, .none] } }
  exact tail_any (ops := [.ref s3.heap.objs.size, v]) ht hT hg (by with_unfolding_all rfl)

noncomputable def cutV (xs : List V) (lo hi : Option Int) : List V := (xs.drop (HT.sIx xs.length 0 lo)).take (HT.sIx xs.length xs.length hi - HT.sIx xs.length 0 lo)
theorem cutV_length (xs : List V) (lo hi : Option Int) : (cutV xs lo hi).length ≤ xs.length := by
  unfold cutV
  rw [List.length_take, List.length_drop]
  omega
end
end L2

namespace L2
open PySem PySem.Spec PyProof.Rows

noncomputable def ixN (n : Nat) (i : Int) : Option Nat := if 0 ≤ i then (if i < n then some i.toNat else none) else if -(n : Int) ≤ i then some (i + n).toNat else none
noncomputable def atI {α : Type} (xs : List α) (i : Int) : Option α := (ixN xs.length i).bind fun j => xs[j]?
theorem ixN_seq {n : Nat} {i : Int} {j : Nat} (h : ixN n i = some j) : seqIndex? i n = some j ∧ j < n ∧ -(n : Int) ≤ i ∧ i < n := by
  unfold ixN at h
  by_cases h0 : 0 ≤ i
  · rw [if_pos h0] at h
    by_cases h1 : i < n
    · rw [if_pos h1] at h
      have e : i.toNat = j := Option.some.inj h
      exact ⟨by rw [seqIndex_of h0 h1, e], by omega, by omega, h1⟩
    · rw [if_neg h1] at h; cases h
  · rw [if_neg h0] at h
    by_cases h1 : -(n : Int) ≤ i
    · rw [if_pos h1] at h
      have e : (i + n).toNat = j := Option.some.inj h
      exact ⟨by rw [seqIndex_neg (by omega) h1, e], by omega, h1, by omega⟩
    · rw [if_neg h1] at h; cases h
theorem atI_get {α : Type} {xs : List α} {i : Int} {v : α} (h : atI xs i = some v) : ∃ j, seqIndex? i xs.length = some j ∧ xs[j]? = some v ∧ j < xs.length ∧ -(xs.length : Int) ≤ i ∧ i < xs.length := by
  unfold atI at h
  cases e : ixN xs.length i with
  | none => rw [e] at h; cases h
  | some j =>
    rw [e] at h
    obtain ⟨h1, h2, h3, h4⟩ := ixN_seq e
    exact ⟨j, h1, h, h2, h3, h4⟩
theorem atI_nat {α : Type} {xs : List α} {j : Nat} {v : α} (h : xs[j]? = some v) : atI xs (j : Int) = some v := by
  have hj : j < xs.length := (List.getElem?_eq_some_iff.mp h).1
  have e : ixN xs.length (j : Int) = some j := by
    unfold ixN
    rw [if_pos (by omega), if_pos (by omega)]; simp
  unfold atI; rw [e]; exact h
noncomputable def PlainIx (b : Expr) : Prop := ∀ o i, subscripted b false o i = operate [o, i] (getItem o i)
noncomputable def IxR (X : Cx) (r : R2) : Prop :=
  ∀ (value slice : Expr) (pins : List (Addr × Obj)) (s : Shared) (σ : St) (H : Hp) (x y : V) (v u : Value) (Q : VK), Inv X pins σ H s → RelV x v → RelV y u → r x y H Q →
    subscripted slice false v u = operate [v, u] (getItem v u) → wpAny (model X.prog X.w) X.A (subscriptTail value slice v u) (EP X pins σ Q) X.xe s
noncomputable def MtR (X : Cx) (id : String) (r : V → List V → Hp → VK → Prop) : Prop :=
  ∀ (pins : List (Addr × Obj)) (s : Shared) (σ : St) (H : Hp) (x : V) (xs : List V) (v : Value) (us : List Value) (Q : VK), Inv X pins σ H s → RelV x v → Vals xs us → r x xs H Q →
    wpAny (model X.prog X.w) X.A (call (.builtin id) (v :: us)) (EP X pins σ Q) X.xe s
section
variable {X : Cx} {a b : Expr} {ta tb : TE} {pos : Pos}
theorem IxR.or {r r' : R2} (h : IxR X r) (h' : IxR X r') : IxR X (fun x y H Q => r x y H Q ∨ r' x y H Q) := by
  intro value slice pins s σ H x y v u Q I rx ry q hs
  rcases q with q | q
  · exact h value slice pins s σ H x y v u Q I rx ry q hs
  · exact h' value slice pins s σ H x y v u Q I rx ry q hs
theorem MtR.or {id : String} {r r' : V → List V → Hp → VK → Prop} (h : MtR X id r) (h' : MtR X id r') : MtR X id (fun x xs H Q => r x xs H Q ∨ r' x xs H Q) := by
  intro pins s σ H x xs v us Q I rx rs q
  rcases q with q | q
  · exact h pins s σ H x xs v us Q I rx rs q
  · exact h' pins s σ H x xs v us Q I rx rs q
theorem pe_ix {r : R2} (hr : IxR X r) (ha : PE X a ta) (hb : PE X b tb) (hs : PlainIx b) : PE X (.Subscript a b pos) (tOp r ta tb) := by
  intro pins s σ H Q I h
  exact Subscript_ (binT ha hb I h fun v u s2 x y H2 I2 rx ry q => hr a b pins s2 σ H2 x y v u Q I2 rx ry q (hs _ _))

noncomputable def rIxL (K : PySem.W.Frag) : R2 := fun x y H Q => ∃ p xs i v, x = .ref p ∧ y = .int i ∧ SqL K H p xs ∧ atI xs i = some v ∧ Q v H
noncomputable def rIxT (K : PySem.W.Frag) : R2 := fun x y H Q => ∃ p xs i v, x = .ref p ∧ y = .int i ∧ SqT K H p xs ∧ atI xs i = some v ∧ Q v H
noncomputable def rIxS : R2 := fun x y H Q => ∃ z i c, x = .str z ∧ y = .int i ∧ z.length ≤ sizeLine ∧ atI z.cps.toList i = some c ∧ Q (.str ⟨#[c]⟩) H
theorem ix_list : IxR X (rIxL X.K) := by
  intro value slice pins s σ H x y v u Q I rx ry h hs
  obtain ⟨p, xs, i, z, rfl, rfl, hq, he, q⟩ := h
  cases rx
  obtain ⟨t, rfl⟩ := ry
  obtain ⟨its, r, pl, hz⟩ := I.list hq
  obtain ⟨j, h1, h2, h3, h4, h5⟩ := atI_get he
  obtain ⟨w, ew, rw'⟩ := r.get h2
  have hl := r.length
  have hn := line63
  have fin : EP X pins σ Q w s := ⟨z, H, I, rw', q⟩
  by_cases h0 : 0 ≤ i
  · have hj : i.toNat = j := by
      rw [seqIndex_of h0 h5] at h1
      exact Option.some.inj h1
    exact item_listR pl.isList h0 (by omega) (by rw [hj]; simpa using ew) fin hs
  · have hj : (i + (its.toArray.size : Int)).toNat = j := by
      rw [seqIndex_neg (by omega) h4] at h1
      rw [List.size_toArray, ← hl]
      exact Option.some.inj h1
    exact subscriptTail_builtinR (x := w) pl.isList.typeIs slot_list_getitem.lookup
      (wpAny_getItem_list_neg (Q := fun r s' => r = w ∧ EP X pins σ Q r s') pl.isList (by omega) (by rw [List.size_toArray] <;> omega) (by omega) (by rw [hj]; simpa using ew) ⟨rfl, fin⟩) hs
theorem ix_tup : IxR X (rIxT X.K) := by
  intro value slice pins s σ H x y v u Q I rx ry h hs
  obtain ⟨p, xs, i, z, rfl, rfl, hq, he, q⟩ := h
  cases rx
  obtain ⟨t, rfl⟩ := ry
  obtain ⟨its, r, pl, hz⟩ := I.tuple hq
  obtain ⟨j, h1, h2, h3, h4, h5⟩ := atI_get he
  obtain ⟨w, ew, rw'⟩ := r.get h2
  have hl := r.length
  have hn := line63
  have fin : EP X pins σ Q w s := ⟨z, H, I, rw', q⟩
  exact subscriptTail_builtinR (x := w) pl.typeIs slot_tuple_getitem.lookup
    (getItem_tuple (j := j) (Q := fun r s' => r = w ∧ EP X pins σ Q r s') pl (by omega) (by omega) (by rw [List.size_toArray, ← hl]; exact h1) (by simpa using ew) ⟨rfl, fin⟩) hs
theorem ix_str : IxR X rIxS := by
  intro value slice pins s σ H x y v u Q I rx ry h hs
  obtain ⟨z, i, c, rfl, rfl, hz, he, q⟩ := h
  obtain ⟨t, rfl⟩ := rx
  obtain ⟨t', rfl⟩ := ry
  obtain ⟨j, h1, h2, h3, h4, h5⟩ := atI_get he
  have hl : z.cps.toList.length = z.length := by simp [Str.length]
  rw [hl] at h1 h4 h5
  have hn := line63
  exact tail_any (typeIs_str s z t) slot_str_getitem.lookup (getItem_str (c := c) (by
    have e1 : decide (i < -(2 ^ 63 : Int)) = false := decide_eq_false (by omega)
    have e2 : decide (i ≥ 2 ^ 63) = false := decide_eq_false (by omega)
    rw [e1, e2, Bool.or_false]) (by rw [h1]; simpa using h2) ⟨.str ⟨#[c]⟩, H, I.tok _, ⟨_, rfl⟩, q⟩) hs
noncomputable def rIx (K : PySem.W.Frag) : R2 := fun x y H Q => rIxL K x y H Q ∨ rIxT K x y H Q ∨ rIxS x y H Q
theorem ix_seq : IxR X (rIx X.K) := ix_list.or (ix_tup.or ix_str)

theorem mapSeq_set (its : List Value) (n j : Nat) (u : Value) : Obj.mapSeq (·.setIfInBounds j u) { cls := .type "list", data := .seq its.toArray n } = { cls := .type "list", data := .seq (its.set j u).toArray n } := by
  simp [Obj.mapSeq]
theorem Inv.lst {pins : List (Addr × Obj)} {σ : St} {H : Hp} {s : Shared} {p : Addr} {xs : List V} (I : Inv X pins σ H s) (h : H p = some (.lst xs)) :
    ∃ (its : List Value) (n : Nat), Vals xs its ∧ s.heap.get? p = some { cls := .type "list", data := .seq its.toArray n } ∧ xs.length ≤ sizeLine := by
  obtain ⟨z, its, n, r, e⟩ := I.hok p _ h
  exact ⟨its, n, r, e, z⟩
theorem Inv.lstUpd {pins : List (Addr × Obj)} {σ : St} {H : Hp} {s : Shared} {p : Addr} {xs ys : List V} {its its' : List Value} {n n' : Nat} {f : Obj → Obj} (I : Inv X pins σ H s) (h : H p = some (.lst xs))
    (ho : s.heap.get? p = some { cls := .type "list", data := .seq its.toArray n }) (hf : f { cls := .type "list", data := .seq its.toArray n } = { cls := .type "list", data := .seq its'.toArray n' }) (r : Vals ys its') (hz : ys.length ≤ sizeLine) (t : Nat) :
    Inv X pins σ (upd H p (.lst ys)) { s with heap := s.heap.update p f, toks := t } := by
  have e : (s.heap.update p f).get? p = some { cls := .type "list", data := .seq its'.toArray n' } := by
    rw [Heap.get?_update_self f ho (by rw [hf] <;> rfl), hf]
  refine I.write (x := p) (e := p) (by rw [h]; trivial) (.inl rfl) (fun b u hb q => (Heap.get?_update_other _ _ (Ne.symm hb)).trans q) ⟨_, e⟩ ?_
  exact ⟨hz, its', n', r, e⟩
noncomputable def rSetL : V → V → V → Hp → (Hp → Prop) → Prop := fun o i v H Q => ∃ p xs k j, o = .ref p ∧ i = .int k ∧ H p = some (.lst xs) ∧ ixN xs.length k = some j ∧ Q (upd H p (.lst (xs.set j v)))
theorem set_list : PSet X rSetL := by
  intro pins s σ H o i v ov iv u Q I ro ri rv h
  obtain ⟨p, xs, k, j, rfl, rfl, hp, hj, q⟩ := h
  cases ro
  obtain ⟨t, rfl⟩ := ri
  obtain ⟨its, n, r, ho, hz⟩ := I.lst hp
  obtain ⟨h1, h2, h3, h4⟩ := ixN_seq hj
  have hl := r.length
  have hn := line63
  have I' : Inv X pins σ (upd H p (.lst (xs.set j v))) { s with heap := s.heap.update p (Obj.mapSeq (·.setIfInBounds j u)) } :=
    I.lstUpd hp ho (mapSeq_set its n j u) (r.set rv j) (by rw [List.length_set]; exact hz) s.toks
  by_cases h0 : 0 ≤ k
  · have hk : k.toNat = j := by
      rw [seqIndex_of h0 h4] at h1
      exact Option.some.inj h1
    exact PySem.W.ki_setAt ho h0 (by omega) (by rw [List.size_toArray, ← hl]; exact h4) (by rw [hk]; exact ⟨_, I', q⟩)
  · have hk : (k + (its.toArray.size : Int)).toNat = j := by
      rw [seqIndex_neg (by omega) h3] at h1
      rw [List.size_toArray, ← hl]
      exact Option.some.inj h1
    exact PySem.W.ki_setBack ho (by omega) (by rw [List.size_toArray, ← hl]; exact h3) (by omega) (by rw [hk]; exact ⟨_, I', q⟩)

theorem slice_bounds (lo hi : Option Int) (n : Nat) : (sliceBounds lo hi none n).1 = ((HT.sIx n 0 lo : Nat) : Int) ∧ (sliceBounds lo hi none n).2.1 = ((HT.sIx n n hi : Nat) : Int) ∧ (sliceBounds lo hi none n).2.2 = 1 := by
  refine ⟨?_, ?_, rfl⟩
  · cases lo with
    | none => simp [sliceBounds, HT.sIx]
    | some i =>
      simp only [sliceBounds, HT.sIx, Option.getD_none, show (1 : Int) > 0 by decide, if_true]
      by_cases h : i < 0
      · simp only [h, if_true] <;> omega
      · simp only [h, if_false] <;> omega
  · cases hi with
    | none => simp [sliceBounds, HT.sIx]
    | some i =>
      simp only [sliceBounds, HT.sIx, Option.getD_none, show (1 : Int) > 0 by decide, if_true]
      by_cases h : i < 0
      · simp only [h, if_true] <;> omega
      · simp only [h, if_false] <;> omega
theorem slicePick_cut (its : List Value) (lo hi : Option Int) : slicePick its.toArray lo hi none = ((its.drop (HT.sIx its.length 0 lo)).take (HT.sIx its.length its.length hi - HT.sIx its.length 0 lo)).toArray := by
  obtain ⟨h1, h2, h3⟩ := slice_bounds lo hi its.toArray.size
  unfold slicePick
  rw [h1, h2, h3]
  simp only [sliceRange_one, pick_run, List.size_toArray] <;> rfl
noncomputable def rSlL (K : PySem.W.Frag) : V → Option Int → Option Int → Hp → VK → Prop := fun x lo hi H Q => ∃ a xs, x = .ref a ∧ SqL K H a xs ∧ ∀ p, H p = none → Q (.ref p) (upd H p (.lst (cutV xs lo hi)))
theorem sl_list : SlR X (rSlL X.K) := by
  intro pins s σ H x v vl vu lo hi sl Q I rx hs pl pu h
  obtain ⟨a, xs, rfl, hx, q⟩ := h
  cases rx
  obtain ⟨its, r, ht, hz⟩ := I.list hx
  have hlen := r.length
  refine ⟨"list", _, slot_list_getitem.lookup, ht.isList.typeIs, ?_⟩
  refine wpAny_getItem_list_slice ht.isList hs pl pu .none (by simp) ?_ (by rw [List.size_toArray] <;> omega)
  rw [slicePick_cut, ← hlen]
  refine ⟨.ref s.heap.objs.size, _, I.laid (t' := s.toks) (o := .lst (cutV xs lo hi)) (fun b ob q => Heap.get?_push_of_some _ q) (Nat.le_refl _) ?_, rfl, q _ (I.hok.fresh (Nat.le_refl _))⟩
  exact ⟨Nat.le_trans (cutV_length xs lo hi) hz, _, 0, (r.drop (HT.sIx xs.length 0 lo)).take (HT.sIx xs.length xs.length hi - HT.sIx xs.length 0 lo), Heap.get?_push_size _ rfl⟩

noncomputable def flatV : V → Bool
  | .non => true
  | .bl _ => true
  | .int _ => true
  | .str _ => true
  | _ => false
noncomputable def eqV : V → V → Bool
  | .non, .non => true
  | .bl a, .bl b => a == b
  | .bl a, .int b => (if a then 1 else 0) == b
  | .int a, .bl b => a == (if b then 1 else 0)
  | .int a, .int b => a == b
  | .str a, .str b => a == b
  | _, _ => false
theorem eqAt_V {A : Around} {s : Shared} {y x : V} {u v : Value} (ry : RelV y u) (rx : RelV x v) (fy : flatV y = true) (fx : flatV x = true) : SeqAt.EqAt A s u v (eqV y x) := by
  cases y with
  | non =>
    cases ry
    cases x with
    | non => cases rx; exact SeqAt.EqAt.same _
    | bl b => cases rx; exact SeqAt.EqAt.none_bool b
    | int b => obtain ⟨t, rfl⟩ := rx; exact SeqAt.EqAt.none_int b t
    | str b => obtain ⟨t, rfl⟩ := rx; exact SeqAt.EqAt.none_str b t
    | _ => exact absurd (show false = true from fx) Bool.false_ne_true
  | bl a =>
    cases ry
    cases x with
    | non => cases rx; exact SeqAt.EqAt.bool_none a
    | bl b => cases rx; exact SeqAt.EqAt.bool_bool a b
    | int b => obtain ⟨t, rfl⟩ := rx; exact SeqAt.EqAt.bool_int a b t
    | str b => obtain ⟨t, rfl⟩ := rx; exact SeqAt.EqAt.bool_str a b t
    | _ => exact absurd (show false = true from fx) Bool.false_ne_true
  | int a =>
    obtain ⟨t', rfl⟩ := ry
    cases x with
    | non => cases rx; exact SeqAt.EqAt.int_none a t'
    | bl b => cases rx; exact SeqAt.EqAt.int_bool a t' b
    | int b => obtain ⟨t, rfl⟩ := rx; exact SeqAt.EqAt.int_int a t' b t
    | str b => obtain ⟨t, rfl⟩ := rx; exact SeqAt.EqAt.int_str a t' b t
    | _ => exact absurd (show false = true from fx) Bool.false_ne_true
  | str a =>
    obtain ⟨t', rfl⟩ := ry
    cases x with
    | non => cases rx; exact SeqAt.EqAt.str_none a t'
    | bl b => cases rx; exact SeqAt.EqAt.str_bool a t' b
    | int b => obtain ⟨t, rfl⟩ := rx; exact SeqAt.EqAt.str_int a t' b t
    | str b => obtain ⟨t, rfl⟩ := rx; exact SeqAt.EqAt.str_str a t' b t
    | _ => exact absurd (show false = true from fx) Bool.false_ne_true
  | _ => exact absurd (show false = true from fy) Bool.false_ne_true
noncomputable def inV (x : V) (xs : List V) : Bool := xs.any fun y => eqV y x
noncomputable def rIn (K : PySem.W.Frag) (neg : Bool) : R2 := fun x y H Q => ∃ p xs, y = .ref p ∧ (SqL K H p xs ∨ SqT K H p xs) ∧ flatV x = true ∧ xs.all flatV = true ∧ Q (.bl (if neg then !inV x xs else inV x xs)) H
theorem call_len_seq : CallR X (.builtin "len") (fun xs H Q => ∃ p ys, xs = [.ref p] ∧ (SqL X.K H p ys ∨ SqT X.K H p ys) ∧ Q (.int ys.length) H) := by
  intro pins s σ H xs us Q I r h
  obtain ⟨p, ys, rfl, hq, q⟩ := h
  obtain ⟨u, rfl, rx⟩ := vals1 r
  cases rx
  have hn := line63
  rcases hq with hq | hq
  · obtain ⟨its, r', pl, hz⟩ := I.list hq
    have hlen := r'.length
    exact Calls.call_len_list pl.isList (by simp only [List.size_toArray] <;> omega) ⟨.int ys.length, H, I.tok _, ⟨s.toks + 1, by rw [List.size_toArray, hlen]⟩, q⟩
  · obtain ⟨its, r', pl, hz⟩ := I.tuple hq
    have hlen := r'.length
    exact len_tuple pl (by simp only [List.size_toArray] <;> omega) ⟨.int ys.length, H, I.tok _, ⟨s.toks + 1, by rw [List.size_toArray, hlen]⟩, q⟩
theorem call_len_str : CallR X (.builtin "len") (fun xs H Q => ∃ z, xs = [.str z] ∧ z.length ≤ sizeLine ∧ Q (.int z.length) H) := by
  intro pins s σ H xs us Q I r h
  obtain ⟨z, rfl, hz, q⟩ := h
  obtain ⟨u, rfl, t, rfl⟩ := vals1 r
  have hn := line63
  exact len_str (by omega) ⟨.int z.length, H, I.tok _, ⟨_, rfl⟩, q⟩
theorem CallR.or {f : Value} {r r' : List V → Hp → VK → Prop} (h : CallR X f r) (h' : CallR X f r') : CallR X f (fun xs H Q => r xs H Q ∨ r' xs H Q) := by
  intro pins s σ H xs us Q I rs q
  rcases q with q | q
  · exact h pins s σ H xs us Q I rs q
  · exact h' pins s σ H xs us Q I rs q
theorem call_list_of : CallR X (.type "list") (fun xs H Q => ∃ p ys, xs = [.ref p] ∧ (SqL X.K H p ys ∨ SqT X.K H p ys) ∧ ∀ l, H l = none → Q (.ref l) (upd H l (.lst ys))) := by
  intro pins s σ H xs us Q I r h
  obtain ⟨p, ys, rfl, hq, q⟩ := h
  obtain ⟨u, rfl, rx⟩ := vals1 r
  cases rx
  have fin : ∀ (its : List Value), Vals ys its → ys.length ≤ sizeLine → ∀ (h' : Heap) (c' : Nat), (∀ b o', s.heap.get? b = some o' → h'.get? b = some o') →
      h'.get? s.heap.objs.size = some { cls := .type "list", dict := none, data := .seq its.toArray c', slots := #[] } → EP X pins σ Q (.ref s.heap.objs.size) { s with heap := h' } := fun its r' hz h' c' kp e =>
    ⟨.ref s.heap.objs.size, _, I.laid (t' := s.toks) kp (Nat.le_refl _) (show ObjOk X.prog X.w _ h' _ (.lst ys) from ⟨hz, its, c', r', e⟩), rfl, q _ (I.hok.fresh (Nat.le_refl _))⟩
  rcases hq with hq | hq
  · obtain ⟨its, r', pl, hz⟩ := I.list hq
    have hlen := r'.length
    obtain ⟨o, ho, hc, n, hd⟩ := pl.isList
    exact call_list_seq p (.inl rfl) ho hc hd (fun h' c' kp e => fin its r' hz h' c' kp e) (by simp only [List.size_toArray] <;> omega)
  · obtain ⟨its, r', pl, hz⟩ := I.tuple hq
    have hlen := r'.length
    obtain ⟨o, ho, hc, n, hd⟩ := pl
    exact call_list_seq p (.inr rfl) ho hc hd (fun h' c' kp e => fin its r' hz h' c' kp e) (by simp only [List.size_toArray] <;> omega)
noncomputable def tyV (K : PySem.W.Frag) (T : String) (x : V) (H : Hp) : Prop := match x with
  | .str _ => T = "str"
  | .int _ => T = "int"
  | .ref p => (T = "list" ∧ ∃ xs, SqL K H p xs) ∨ (T = "tuple" ∧ ∃ o, K.lookup p = some o ∧ o.cls = .type "tuple" ∧ o.dict = none) ∨
      (T = "dict" ∧ ((∃ kvs, H p = some (.dK kvs)) ∨ ∃ kvs, H p = some (.dT kvs))) ∨ (T = "set" ∧ ∃ S n, H p = some (.set S n))
  | _ => False
theorem tyV_is {pins : List (Addr × Obj)} {σ : St} {H : Hp} {s : Shared} {T : String} {x : V} {v : Value} (I : Inv X pins σ H s) (r : RelV x v) (ty : tyV X.K T x H) :
    s.TypeIs v T ∧ ∀ a, v = .ref a → ∃ ob, s.heap.get? a = some ob ∧ ob.dict = none := by
  cases x with
  | str z =>
    obtain ⟨t, rfl⟩ := r
    cases (show T = "str" from ty)
    exact ⟨typeIs_str s z t, fun _ e => nomatch e⟩
  | int i =>
    obtain ⟨t, rfl⟩ := r
    cases (show T = "int" from ty)
    exact ⟨typeIs_int s i t, fun _ e => nomatch e⟩
  | ref p =>
    cases r
    rcases ty with ⟨rfl, xs, hq⟩ | ⟨rfl, o, hk, hc, hd⟩ | ⟨rfl, hk⟩ | ⟨rfl, S, n, hk⟩
    · obtain ⟨its, _, pl, _⟩ := I.list hq
      refine ⟨pl.isList.typeIs, fun a e => ?_⟩
      cases e
      obtain ⟨o, n, e, c, hd, _⟩ := pl
      exact ⟨o, e, hd⟩
    · refine ⟨⟨o, I.kIn p o hk, hc⟩, fun a e => ?_⟩
      cases e
      exact ⟨o, I.kIn _ o hk, hd⟩
    · have z : ∃ o, s.heap.get? p = some o ∧ o.ExactDict := by
        rcases hk with ⟨kvs, hk⟩ | ⟨kvs, hk⟩
        · obtain ⟨_, _, _, _, o, _, _, e, ex, _⟩ := I.hok p _ hk
          exact ⟨o, e, ex⟩
        · obtain ⟨_, _, _, _, o, _, _, e, ex, _⟩ := I.hok p _ hk
          exact ⟨o, e, ex⟩
      obtain ⟨o, e, ex⟩ := z
      refine ⟨⟨o, e, ex.1⟩, fun a e2 => ?_⟩
      cases e2
      exact ⟨o, e, ex.2.1⟩
    · obtain ⟨o, _, _, _, e, ex, _⟩ := I.hok p _ hk
      refine ⟨⟨o, e, ex.1⟩, fun a e2 => ?_⟩
      cases e2
      exact ⟨o, e, ex.2.1⟩
  | _ => exact False.elim ty
noncomputable def tBM0 (K : PySem.W.Frag) (T : String) (r : V → List V → Hp → VK → Prop) (to : TE) : TE := fun σ H Q => to σ H fun x H1 => tyV K T x H1 ∧ r x [] H1 Q
noncomputable def tBM (K : PySem.W.Frag) (T : String) (r : V → List V → Hp → VK → Prop) (to : TE) (t : TA) : TE := fun σ H Q => to σ H fun x H1 => tyV K T x H1 ∧ t σ H1 fun xs H2 => r x xs H2 Q
variable {o e : Expr} {es : List Expr} {to : TE} {t : TA} {name : Str} {apos cpos : Pos} {T id : String} {r : V → List V → Hp → VK → Prop}
theorem pe_bm0 (pa : PlainAttrs T) (slot : Slot T name id) (hty : typeOf (.builtin id) = pure (.type "method_descriptor")) (hm : MtR X id r) (ho : PE X o to)
    (hbase : attributeBase o name X.env (eval o X.env) = eval o X.env := by rfl) (hline : (apos.endLine == cpos.line) = true := by rfl) : PE X (.Call (.Attribute o name apos) [] [] cpos) (tBM0 X.K T r to) := by
  intro pins s σ H Q I h
  refine wpAny_Call_method0_late hbase hline (thn (ho pins s σ H _ I h) fun v s1 ⟨x, H1, I1, r1, ty, q1⟩ => ?_)
  obtain ⟨h1, h2⟩ := tyV_is I1 r1 ty
  exact ⟨T, id, pa, slot, hty, h1, h2, Calls.callWith_builtin rfl (PySem.evalArgs_none (hm pins s1 σ H1 x [] v [] Q I1 r1 .nil q1))⟩
theorem pe_bm (pa : PlainAttrs T) (slot : Slot T name id) (hty : typeOf (.builtin id) = pure (.type "method_descriptor")) (hm : MtR X id r) (ho : PE X o to) (ha : PA X (e :: es) t)
    (hbase : attributeBase o name X.env (eval o X.env) = eval o X.env := by rfl)
    (hfew : ((backTo cpos (starEach (e :: es) X.env)).all (fun x => !x.1) && (backToKw cpos (keywordEach [] X.env)).all (fun x => x.1.isSome)
      && decide ((e :: es).length + ([] : List Keyword).length + (if ([] : List Keyword).isEmpty then 0 else 1) < 30)) = true := by rfl)
    (hline : (apos.endLine == cpos.line) = true := by rfl) (hs : starEach (e :: es) X.env = (false, eval e X.env) :: starEach es X.env := by rfl) (hplain : (backTo cpos (starEach es X.env)).any (·.1) = false := by rfl) :
    PE X (.Call (.Attribute o name apos) (e :: es) [] cpos) (tBM X.K T r to t) := by
  intro pins s σ H Q I h
  refine wpAny_Call_method_late hbase hfew hline rfl (thn (ho pins s σ H _ I h) fun v s1 ⟨x, H1, I1, r1, ty, q1⟩ => ?_)
  obtain ⟨h1, h2⟩ := tyV_is I1 r1 ty
  refine ⟨T, id, pa, slot, hty, h1, h2, ?_⟩
  have hA := ha cpos pins s1 σ H1 _ I1 q1
  rw [hs] at hA ⊢
  refine Calls.callWith_builtin (by show (false || (backTo cpos (starEach es X.env)).any (·.1)) = false; rw [hplain] <;> rfl) (Calls.evalArgs_plain ?_)
  exact thn hA fun us s2 ⟨vs, H2, I2, r2, q2⟩ => hm pins s2 σ H2 x vs v us Q I2 r1 r2 q2
end
end L2

namespace L2
open PySem PySem.Spec PyProof.Rows

noncomputable def MtM (X : Cx) (id : String) (r : V → List V → Hp → VK → Prop) : Prop :=
  ∀ (pins : List (Addr × Obj)) (s : Shared) (σ : St) (H : Hp) (x : V) (xs : List V) (v : Value) (us : List Value) (Q : VK), Inv X pins σ H s → RelV x v → Vals xs us → r x xs H Q →
    wpAny (model X.prog X.w) X.A (call (.builtin id) (v :: us)) (EP X pins σ Q) X.xe s

theorem Vals.one : ∀ {x : V} {us : List Value}, Vals [x] us → ∃ u, us = [u] ∧ RelV x u
  | _, _, .cons r .nil => ⟨_, rfl, r⟩
theorem Vals.two : ∀ {x y : V} {us : List Value}, Vals [x, y] us → ∃ u v, us = [u, v] ∧ RelV x u ∧ RelV y v
  | _, _, _, .cons r (.cons q .nil) => ⟨_, _, rfl, r, q⟩
theorem Vals.zero : ∀ {us : List Value}, Vals [] us → us = []
  | _, .nil => rfl
theorem Vals.eraseIdx : ∀ {xs : List V} {us : List Value} (i : Nat), Vals xs us → Vals (xs.eraseIdx i) (us.eraseIdx i)
  | _, _, _, .nil => .nil
  | _, _, 0, .cons _ t => t
  | _, _, i + 1, .cons r t => .cons r (Vals.eraseIdx i t)
theorem Vals.rep {xs : List V} {us : List Value} (h : Vals xs us) : ∀ k : Nat, Vals (List.replicate k xs).flatten (List.replicate k us).flatten
  | 0 => .nil
  | k + 1 => by
    rw [List.replicate_succ, List.replicate_succ, List.flatten_cons, List.flatten_cons]
    exact Vals.append h (Vals.rep h k)
theorem foldl_rep (its : List Value) : ∀ (k : Nat) (acc : List Value),
    List.foldl (fun x1 x2 => x1 ++ x2) acc.toArray (List.replicate k its.toArray) = (acc ++ (List.replicate k its).flatten).toArray
  | 0, acc => by simp
  | k + 1, acc => by
    have e : acc.toArray ++ its.toArray = (acc ++ its).toArray := by simp
    have e2 : (acc ++ its) ++ (List.replicate k its).flatten = acc ++ (List.replicate (k + 1) its).flatten := by
      rw [List.replicate_succ, List.flatten_cons, List.append_assoc]
    rw [← e2, ← foldl_rep its k (acc ++ its), ← e, List.replicate_succ, List.foldl_cons]

section
variable {X : Cx} {pins : List (Addr × Obj)} {σ : St} {H : Hp} {s : Shared} {l b : Addr} {xs ys zs : List V}

theorem Inv.lset {its its' : List Value} {n : Nat} {f : Array Value → Array Value} {t' : Nat} (I : Inv X pins σ H s) (hH : H l = some (.lst xs))
    (e : s.heap.get? l = some { cls := .type "list", data := .seq its.toArray n }) (hf : f its.toArray = its'.toArray) (hv : Vals ys its') (hz : ys.length ≤ sizeLine) :
    Inv X pins σ (upd H l (.lst ys)) { s with heap := s.heap.update l (Obj.mapSeq f), toks := t' } := by
  have q := PySem.IsL.update e f
  rw [hf] at q
  refine I.write (x := l) (e := l) (by rw [hH]; exact trivial) (.inl rfl) (fun b' u hb hu => (Heap.get?_update_other s.heap (Obj.mapSeq f) (Ne.symm hb)).trans hu) ⟨_, q⟩ ?_
  exact ⟨hz, its', _, hv, q⟩
theorem Inv.lnew {its : List Value} {t' : Nat} (I : Inv X pins σ H s) (hv : Vals ys its) (hz : ys.length ≤ sizeLine) :
    Inv X pins σ (upd H s.heap.objs.size (.lst ys)) { s with heap := s.heap.push { cls := .type "list", data := .seq its.toArray }, toks := t' } :=
  I.laid (fun _ _ q => Heap.get?_push_of_some _ q) (Nat.le_refl _) ⟨hz, its, 0, hv, Heap.get?_push_size _ rfl⟩
theorem Inv.fresh (I : Inv X pins σ H s) : H s.heap.objs.size = none := I.hok.fresh (Nat.le_refl _)
theorem Inv.lstM (I : Inv X pins σ H s) (hH : H l = some (.lst xs)) : xs.length ≤ sizeLine ∧ ∃ (its : List Value) (n : Nat), Vals xs its ∧ xs.length = its.length ∧ s.heap.get? l = some { cls := .type "list", data := .seq its.toArray n } := by
  obtain ⟨z, its, n, r, e⟩ := I.hok l _ hH
  exact ⟨z, its, n, r, r.length, e⟩

theorem notLongL {n : Nat} (h : n ≤ sizeLine) : Builtin.List.listTooLong n = false := by
  unfold Builtin.List.listTooLong
  exact decide_eq_false (by omega)
end

section
variable {X : Cx}

noncomputable def rAppend : V → List V → Hp → VK → Prop := fun x vs H Q => ∃ l xs y, x = .ref l ∧ vs = [y] ∧ H l = some (.lst xs) ∧ xs.length < sizeLine ∧ Q .non (upd H l (.lst (xs ++ [y])))
theorem mt_append : MtM X "list.append" rAppend := by
  intro pins s σ H x vs v us Q I rx rv h
  obtain ⟨l, xs, y, rfl, rfl, hH, hz, q⟩ := h
  cases rx
  obtain ⟨u, rfl, ru⟩ := rv.one
  obtain ⟨z, its, n, r, hl, e⟩ := I.lstM hH
  refine call_meets F.slot_list_append ⟨_, e, rfl⟩ F.entry_list_append (F.args_list_append_2 _ _) (PySem.list_append l its.toArray n u (by rw [List.size_toArray]; omega)) ⟨e, ?_⟩
  refine ⟨.non, _, I.lset (its' := its ++ [u]) hH e (by simp) (r.append (.cons ru .nil)) ?_, rfl, q⟩
  rw [List.length_append, List.length_singleton]
  omega

noncomputable def rCat : R2 := fun x y H Q => ∃ l b xs zs, x = .ref l ∧ y = .ref b ∧ H l = some (.lst xs) ∧ H b = some (.lst zs) ∧ xs.length + zs.length ≤ sizeLine ∧ ∀ p, H p = none → Q (.ref p) (upd H p (.lst (xs ++ zs)))
theorem op_cat : OpR X (binaryOp .Add) rCat := by
  intro pins s σ H x y v u Q I rx ry h
  obtain ⟨l, b, xs, zs, rfl, rfl, hH, hB, hz, q⟩ := h
  cases rx
  cases ry
  obtain ⟨z, its, n, r, hl, e⟩ := I.lstM hH
  obtain ⟨z2, its2, n2, r2, hl2, e2⟩ := I.lstM hB
  refine PySem.P.add_list e e2 ?_ (by rw [List.size_toArray, List.size_toArray]; omega)
  have ea : its.toArray ++ its2.toArray = (its ++ its2).toArray := by simp
  rw [ea]
  exact ⟨.ref _, _, I.lnew (t' := s.toks) (r.append r2) (by rw [List.length_append]; omega), rfl, q _ I.fresh⟩
noncomputable def rRep : R2 := fun x y H Q => ∃ l k xs, x = .ref l ∧ y = .int k ∧ H l = some (.lst xs) ∧ -(2 ^ 63) ≤ k ∧ k < 2 ^ 63 ∧ xs.length * k.toNat ≤ sizeLine ∧
  ∀ p, H p = none → Q (.ref p) (upd H p (.lst (List.replicate k.toNat xs).flatten))
theorem len_rep {α : Type} (xs : List α) (k : Nat) : (List.replicate k xs).flatten.length = k * xs.length := by
  induction k with
  | zero => simp
  | succ k ih => rw [List.replicate_succ, List.flatten_cons, List.length_append, ih, Nat.succ_mul, Nat.add_comm]
theorem op_rep : OpR X (binaryOp .Mult) rRep := by
  intro pins s σ H x y v u Q I rx ry h
  obtain ⟨l, k, xs, rfl, rfl, hH, h1, h2, hz, q⟩ := h
  cases rx
  obtain ⟨t, rfl⟩ := ry
  obtain ⟨z, its, n, r, hl, e⟩ := I.lstM hH
  have hlen : its.toArray.size * k.toNat ≤ sizeLine := by rw [List.size_toArray, ← hl]; exact hz
  have hcap : ¬ its.toArray.size * k.toNat > (2 ^ 63 - 1) / 8 := by
    have : (sizeLine : Nat) ≤ (2 ^ 63 - 1) / 8 := by decide
    omega
  have hfit : ¬ (!Builtin.List.listFitsIndex k) = true := by
    rw [fitsIndex_both h1 h2]
    exact Bool.false_ne_true
  have hlong : ¬ Builtin.List.listTooLong (its.toArray.size * k.toNat) = true := by
    rw [notLongL hlen]
    exact Bool.false_ne_true
  have hnew : List.foldl (fun x1 x2 => x1 ++ x2) #[] (List.replicate (if its.toArray.isEmpty = true then 0 else k.toNat) its.toArray) = (List.replicate k.toNat its).flatten.toArray := by
    have f0 : ∀ m : Nat, List.foldl (fun x1 x2 => x1 ++ x2) #[] (List.replicate m its.toArray) = (List.replicate m its).flatten.toArray := fun m => by
      have := foldl_rep its m []
      rw [List.nil_append] at this
      exact this
    rw [f0]
    cases its with
    | nil => simp
    | cons a r' => rw [if_neg (by simp)]
  refine wpAny_binaryOp_repeat_ref (T := "list") (U := "int") (by decide) ⟨_, e, rfl⟩ (fun s' => typeIs_int s' k t) noFill_list_mul F.fills_int_mul F.slot_int_rmul repeat_list F.slot_int_index.lookup
    (call_meets F.slot_int_rmul (typeIs_int s k t) F.entry_int_rmul (F.args_int_rmul_2 _ _) (int___rmul___int_list k t l its.toArray n)
      ⟨e, rfl, ⟨_, e, rfl⟩, call_meets F.slot_list_mul ⟨_, e, rfl⟩ F.entry_list_mul (F.args_list_mul_2 _ _) (AutoListH.list___mul___list_int_3 l its.toArray n k t hfit hcap hlong) ⟨e, ?_⟩⟩)
  rw [hnew]
  exact ⟨.ref _, _, I.lnew (t' := s.toks) (r.rep k.toNat) (by rw [len_rep, Nat.mul_comm]; exact hz), rfl, q _ I.fresh⟩

end

section
variable {prog : Program} {w : World} {A : Around} {E : Value → Shared → Prop} {s : Shared}
end

section
variable {X : Cx}
end
end L2

namespace Att
open PySem PySem.W PySem.Calls PyProof.Rows

theorem ints_of_wellAll {P : Params} {h : Heap} : ∀ (ns : List Int) (vs : List Value), WellAll P h vs (ns.map WData.int) → IntsAre vs ns := by
  intro ns
  induction ns with
  | nil =>
    intro vs w
    rw [List.map_nil] at w
    cases w
    exact .nil
  | cons n ns ih =>
    intro vs w
    rw [List.map_cons] at w
    cases w with
    | cons a b =>
      cases a
      exact .cons _ _ (ih _ b)

theorem script_of {l : OpenLaw} {n : Nat} (hn : l.most = some n) {P : Params} {h : Heap} {args : List WData} {vals : List Value}
    (hpre : l.row.toRowW.claim.pre args = true) (hwl : WellAll P h vals args) :
    ∃ a vs ns, vals = [Value.ref a] ∧ args = [WData.list (ns.map WData.int)] ∧ h.get? a = some { cls := .type "list", data := .seq vs.toArray } ∧ IntsAre vs ns ∧ ns.length ≤ n := by
  have hsh : WShape.hasAll [] args [.list .int] = true := (pre_splitW hpre).1
  have hc : l.pre.holds [] { args := args } = true := (pre_splitW hpre).2
  obtain ⟨d, r, rfl, h1, h2⟩ := hasAllW_cons hsh
  obtain rfl := hasAllW_nil h2
  obtain ⟨xs, rfl, h3⟩ := hasW_list h1
  obtain ⟨ns, rfl⟩ := items_int h3
  have hlen : ns.length ≤ n := by
    unfold OpenLaw.pre at hc
    have h4 : (WTm.not (.lt (.lit (.int (n : Int))) (.len (.arg 0)))).holds [] { args := [.list (ns.map .int)] } = true := by
      have h4 := (holds_andW hc).1
      rw [hn] at h4
      exact h4
    have h5 := condW_of h4 (w_not (w_lt w_lit (w_len_list (w_arg rfl))))
    rw [List.length_map] at h5
    refine Nat.le_of_not_lt fun q => ?_
    have q' : (n : Int) < ((ns.length : Nat) : Int) := by omega
    first
      | (rw [decide_eq_true q'] at h5; exact absurd h5 (by decide))
      | (simp at h5; omega)
  cases hwl with
  | cons w1 w2 =>
    cases w2
    cases w1 with
    | list ho hall => exact ⟨_, _, ns, rfl, rfl, ho, ints_of_wellAll ns _ hall, hlen⟩

theorem post_true (l : OpenLaw) (args : List WData) : l.row.toRowW.claim.post args (.bool true) args = true :=
  postW_of (r := l.row.toRowW) (X := (true == true))
    (show WShape.has [] (.bool true) .bool = true by first | rfl | decide | simp [WShape.has, WShape.arms, WShape.armsAll])
    (show (WTm.eq .res (.lit (.bool true))).value [] { args := args, res := some (.bool true), after := args } = some (.bool (true == true)) from w_eq_bool (w_res rfl) w_lit) rfl

theorem attach_call {l : OpenLaw} {n : Nat} {q : Program} {loose : List Str} {XP : (Str → Option Value) → Heap → Prop} {YP : World → Heap → Prop} {d : DefRec}
    (hn : l.most = some n) (hdf : d.params.defaults = [])
    (call : ∀ (w : World) (s₀ s₁ : Shared) (mg mb : Str → Option Value) (fa : Addr) (o : Obj) (pm cd doc : Value) (a : Addr) (vs : List Value) (ns : List Int),
      Ground q loose [] XP w s₀ mg mb s₁.heap → YP w s₁.heap →
      s₁.heap.get? fa = some o → o.data = .func (docDef d.name d.params d.body d.scope pm cd doc) → s₁.heap.CodeRec cd d.name → mg d.name = some (.ref fa) →
      s₁.heap.get? a = some { cls := .type "list", data := .seq vs.toArray } → IntsAre vs ns → ns.length ≤ n → s₁.gens = #[] →
      codeAny (model l.prog w) callerA (.call (.ref fa) ⟨[.ref a], []⟩) (fun r s' => r = .ok (.ret (.bool true)) ∧ OldK s₁.heap s'.heap ∧ s'.os = s₁.os ∧ AllBare s'.gens) s₁) :
    WalkO q loose XP YP l.row.toRowW d [] (fun f vs => PySem.call f vs) := by
  intro w s₀ s₁ mg mb G Y fa o pm cd doc dV kV ho hd hcd hD hmg hg args vals as hpre hlay hrd hwl hlo
  obtain rfl : dV = .none := Dflts.none hD hdf
  obtain rfl : kV = .none := Dflts.noKw hD
  obtain ⟨a, vs, ns, rfl, rfl, hobj, hints, hlen⟩ := script_of hn hpre hwl
  refine enter_call (codeAny_mono (call w s₀ s₁ mg mb fa o pm cd doc a vs ns G Y ho (fd_plain hd) hcd hmg hobj hints hlen hg) fun r s' hq => ?_)
  obtain ⟨rfl, h2, h3, h4⟩ := hq
  exact ⟨.inl ⟨.bool true, .bool true, [], rfl, fun _ => rfl, .bool true, post_true l _, fun _ => ⟨List.Pairwise.nil, fun _ hm => (nomatch hm)⟩⟩, h2, h3, h4⟩

section
variable {prog : Program} {w : World} {A : Around} {E : Value → Shared → Prop} {s : Shared} {K : Frag}

end
end Att

namespace L2
open PySem PySem.Spec PyProof.Rows

theorem vals_ints : ∀ {vs : List Value} {ns : List Int}, IntsAre vs ns → Vals (ns.map V.int) vs
  | _, _, .nil => .nil
  | _, _, .cons n t h => .cons ⟨t, rfl⟩ (vals_ints h)

noncomputable def Only (H : Hp) : Prop := ∀ b, H b = none ∨ ∃ o xs, H b = some (.frz o (.lst xs))

theorem law_call {P : Program} {w : World} {K : PySem.W.Frag} {mg mb : Str → Option Value} {CX : CXT} {k : Nat} {fa a : Addr} {fd : FuncData} {x : Str} {sp : Sp} {s₁ : Shared} {vs : List Value} {ns : List Int}
    (KX : K.In s₁.heap) (hns : s₁.heap.Ns mainGlobals mg) (hb : s₁.heap.Ns builtinsNs mb) (hbb : ∀ x : Str, x ≠ "__name__" → mb x = bootBuiltins x) (hlim : s₁.heap.NoLimit) (hg : s₁.gens = #[])
    (ha : s₁.heap.get? a = some { cls := .type "list", data := .seq vs.toArray }) (hi : IntsAre vs ns) (hl : ns.length ≤ sizeLine) (hr : Room k callerA)
    (F : ∀ base : Heap, K.In base → base.Ns mainGlobals mg → FnOk P w K mg base CX k fa fd [x] sp) (hbind : ∀ (s : Shared) (u : Value), BindsTo s fd ⟨[u], []⟩ [(x, u)])
    (hsp : ∀ H : Hp, Only H → SqL K H a (ns.map V.int) → sp [.ref a] H (fun v _ => v = .bl true) fun _ _ _ => False)
    (hCX : ∀ H e s', CX [] H s₁ (fun _ _ _ => False) e s' → False) :
    codeAny (model P w) callerA (.call (.ref fa) ⟨[.ref a], []⟩) (fun r s' => r = .ok (.ret (.bool true)) ∧ OldK s₁.heap s'.heap ∧ s'.os = s₁.os ∧ AllBare s'.gens) s₁ := by
  have rv := vals_ints hi
  have lenV := hi.length
  -- from an abstract heap in which nothing but the script may be tracked
  have core : ∀ H : Hp, Only H → SqL K H a (ns.map V.int) → HOk P w H s₁.heap → (∀ b, H b ≠ none → b = a) → (H a ≠ none → K.lookup a = none) →
      codeAny (model P w) callerA (.call (.ref fa) ⟨[.ref a], []⟩) (fun r s' => r = .ok (.ret (.bool true)) ∧ OldK s₁.heap s'.heap ∧ s'.os = s₁.os ∧ AllBare s'.gens) s₁ := by
    intro H hO hS hok hA hK
    have base_of : ∀ {b : Addr} {o : Obj}, s₁.heap.get? b = some o → H b = none → (hidT s₁.heap H).get? b = some o := fun e n => hidT_get e n
    have noA : ∀ {b : Addr} {o : Obj} {es : Array DictEntry} {ep : Nat}, s₁.heap.get? b = some o → o.data = .dict es ep → H b = none := fun {b o es ep} e d => by
      cases q : H b with
      | none => rfl
      | some u =>
        have e' : b = a := hA b (by rw [q]; simp)
        subst e'
        rw [ha] at e; cases e
        have d' : Data.seq vs.toArray _ = Data.dict es ep := d
        cases d'
    have nsK : ∀ {b : Addr} {m : Str → Option Value}, s₁.heap.Ns b m → (hidT s₁.heap H).Ns b m := fun {b m} ⟨o, es, ep, e, d, r⟩ => ⟨o, es, ep, base_of e (noA e d), d, r⟩
    have hKb : K.In (hidT s₁.heap H) := fun b o e => base_of (KX b o e) (by
      cases q : H b with
      | none => rfl
      | some u =>
        have e' : b = a := hA b (by rw [q]; simp)
        subst e'
        rw [hK (by rw [q]; simp)] at e; cases e)
    have hM : Mod K mg (hidT s₁.heap H) := ⟨hKb, nsK hns, ⟨mb, nsK hb, hbb⟩, let ⟨mc, h1, h2⟩ := hlim; ⟨mc, nsK h1, h2⟩⟩
    have e0 : Env0 P w K mg (hidT s₁.heap H) callerA [] s₁ H := ⟨rfl, hM, fun b o e => of_hidT e, Nat.le_of_eq (hidT_size _ _), trivial, fun b hb => absurd (show b ∈ ([] : List Addr) from hb) (by simp), hok, .of_eq hg⟩
    refine codeAny_mono ((F _ hKb (nsK hns)).run callerA [] s₁ H ⟨[.ref a], []⟩ [.ref a] [.ref a] _ _ hr e0 (hbind s₁ (.ref a)) (.cons rfl .nil) (hsp H hO hS)) fun r s' h => ?_
    cases r with
    | error e => exact (hCX H e s' h).elim
    | ok fl =>
      cases fl with
      | next => exact False.elim h
      | brk => exact False.elim h
      | cont => exact False.elim h
      | ret u =>
        obtain ⟨v, H', os, bare, un, hok', r', q⟩ := h
        have q' : v = .bl true := q
        subst q'
        obtain rfl : u = Value.bool true := r'
        refine ⟨rfl, OldK.of_keep fun b o e => ?_, os, bare⟩
        cases q : H b with
        | none => exact un.keep b o e q (by intro z; exact absurd (show b ∈ ([] : List Addr) from z) (by simp)) (by simp)
        | some u =>
          rcases hO b with z | ⟨ob, xs, z⟩
          · rw [q] at z; cases z
          · have z2 := un.frzs b ob _ z
            obtain ⟨e1, _⟩ := hok b _ z
            obtain ⟨e2, _⟩ := hok' b _ z2
            rw [e] at e1; cases e1
            exact e2
  cases hk : K.lookup a with
  | some o =>
    -- the script is one of the module's own objects
    have e := KX a o hk
    rw [ha] at e
    cases e
    refine core (fun _ => none) (fun _ => .inl rfl) (.inr ⟨_, vs.toArray, _, hk, rfl, rfl, rfl, by rw [List.size_toArray, lenV]; exact hl, by simpa using rv⟩) (fun b u z => by have z' : (none : Option HO) = some u := z; cases z') (fun b z => absurd rfl z) fun z => absurd rfl z
  | none =>
    refine core (fun b => if b = a then some (.frz { cls := .type "list", data := .seq vs.toArray } (.lst (ns.map V.int))) else none) (fun b => ?_) (.inl (.inr ⟨{ cls := .type "list", data := .seq vs.toArray }, if_pos rfl⟩)) (fun b u z => ?_) (fun b z => ?_) fun _ => hk
    · by_cases hb : b = a
      · exact .inr ⟨_, _, if_pos hb⟩
      · exact .inl (if_neg hb)
    · by_cases hb : b = a
      · have z' := (if_pos hb).symm.trans z
        cases z'
        subst hb
        exact ⟨ha, by rw [List.length_map]; exact hl, vs, _, rv, ha⟩
      · have z' := (if_neg hb).symm.trans z
        cases z'
    · by_cases hb : b = a
      · exact hb
      · exact absurd (if_neg hb) z
end L2

namespace L2
open PySem PySem.Spec PyProof.Rows

theorem walk_of {l : PySem.W.OpenLaw} {n k : Nat} {q : Program} {loose : List Str} {XP : (Str → Option Value) → Heap → Prop} {YP : World → Heap → Prop} {d : DefRec} {K : Params → PySem.W.Frag} {CX : World → CXT} {sp : World → Sp} {x : Str}
    (hn : l.most = some n) (hn2 : n ≤ sizeLine) (hdf : d.params.defaults = []) (hr : Room k callerA)
    (hY : ∀ (w : World) (h : Heap), YP w h → (K w.params).In h)
    (F : ∀ (w : World) (mg : Str → Option Value) (fa : Addr) (h : Heap), (K w.params).In h → h.Ns mainGlobals mg → mg d.name = some (.ref fa) →
      ∃ fd : FuncData, (∀ (s : Shared) (u : Value), BindsTo s fd ⟨[u], []⟩ [(x, u)]) ∧
        ∀ base : Heap, (K w.params).In base → base.Ns mainGlobals mg → FnOk l.prog w (K w.params) mg base (CX w) k fa fd [x] (sp w))
    (hsp : ∀ (w : World) (H : Hp) (a : Addr) (ns : List Int), ns.length ≤ n → Only H → SqL (K w.params) H a (ns.map V.int) → sp w [.ref a] H (fun v _ => v = .bl true) fun _ _ _ => False)
    (hCX : ∀ (w : World) (H : Hp) (s : Shared) (e : Value) (s' : Shared), CX w [] H s (fun _ _ _ => False) e s' → False) :
    PySem.W.WalkO q loose XP YP l.row.toRowW d [] (fun f vs => PySem.call f vs) := by
  refine Att.attach_call hn hdf fun w s₀ s₁ mg mb fa o pm cd doc a vs ns G Y ho hd hcd hmg hobj hints hlen hg => ?_
  have KX := hY w _ Y
  obtain ⟨fd, hb, hF⟩ := F w mg fa _ KX G.T.g hmg
  exact law_call KX G.T.g G.T.b G.T.builtins G.T.nolimit hg hobj hints (Nat.le_trans hlen hn2) hr hF hb (fun H hO hS => hsp w H a ns hlen hO hS) fun H e s' => hCX w H s₁ e s'
end L2

namespace L2
open PySem PySem.Spec PyProof.Rows

noncomputable def defArgs (s : Stmt) : Arguments := match s with
  | .FunctionDef _ a _ _ _ _ _ _ _ _ => a
  | _ => { posonlyargs := [], args := [], vararg := none, kwonlyargs := [], kw_defaults := [], kwarg := none, defaults := [] }
noncomputable def defBody (s : Stmt) : List Stmt := match s with
  | .FunctionDef _ _ b _ _ _ _ _ _ _ => b
  | _ => []
noncomputable def defScope (s : Stmt) : Scope := match s with
  | .FunctionDef _ _ _ _ _ _ sc _ _ _ => sc
  | _ => { kind := .function, names := [], isGenerator := false, isCoroutine := false }

noncomputable abbrev CX0 : CXT := fun _ _ _ _ _ _ => False
noncomputable abbrev E0 : XK := fun _ _ _ => False
theorem pass0 {X : Cx} : Passes CX0 X E0 := fun _ _ _ _ _ _ _ h => h.elim

structure Fun (K : PySem.W.Frag) (x qual : Str) (st : Stmt) (f : Addr) (fd : FuncData) : Prop where
  ex : ∃ (oc : Value) (od : Option Addr) (kV doc pm : Value) (an : Option Addr) (cdv ct : Value) (osl : Array (Option Value)),
    fd = PySem.W.fnOf x qual (defArgs st) (defBody st) (defScope st) .none kV doc pm an cdv ct ∧ K.lookup f = some ⟨oc, od, .func fd, osl⟩ ∧ PySem.W.codeIn K cdv qual = true
  kp : PySem.W.keepIn K (.ref f) = true
section
variable {P : Program} {w : World} {K : PySem.W.Frag} {mg : Str → Option Value} {base : Heap}
theorem Fun.ok {x qual : Str} {st : Stmt} {f : Addr} {fd : FuncData} {N ps : List Str} {k : Nat} {sp : Sp} (F : Fun K x qual st f fd) (S : FnScope N ps (defScope st)) (len : ∀ vs H Q E, sp vs H Q E → vs.length = ps.length)
    (hbody : ∀ (cdv : Value) (A : Around) (outer : List Env) (s : Shared) (H : Hp) (vs : List V) (Q : VK) (E : XK), Room k (A.deeper (envOfC qual (defScope st) s.heap.objs.size f cdv)) → sp vs H Q E →
      ∃ t, PSs (cxOf CX0 P w K mg base N qual (defScope st) f cdv A outer s H E).nox (defBody st) t ∧ t { nx := fun _ H' => Q .non H', rt := Q } (start N vs) H) : FnOk P w K mg base CX0 (k + 1) f fd ps sp := by
  obtain ⟨oc, od, kV, doc, pm, an, cdv, ct, osl, rfl, lk, hcd⟩ := F.ex
  refine fn_of lk hcd S len fun A outer s H vs Q E hr hsp => ?_
  obtain ⟨t, h, q⟩ := hbody cdv A outer s H vs Q E hr hsp
  exact ⟨t, h.nox, q⟩
theorem Fun.binds {x qual : Str} {st : Stmt} {f : Addr} {fd : FuncData} {ps : List Str} (F : Fun K x qual st f fd)
    (h : ∀ (kV doc pm : Value) (an : Option Addr) (cdv ct : Value) (us : List Value), us.length = ps.length → bindArgs (PySem.W.fnOf x qual (defArgs st) (defBody st) (defScope st) .none kV doc pm an cdv ct) ⟨us, []⟩ = pure (ps.zip us)) : Binds K fd ps [] := by
  obtain ⟨oc, od, kV, doc, pm, an, cdv, ct, osl, rfl, lk, hcd⟩ := F.ex
  exact .all (h kV doc pm an cdv ct)
end
section
variable {X : Cx}
theorem pv (i : Nat) {x : Str} {pos : Pos} (hN : X.N[i]? = some x := by rfl) (hv : Vis X.env.scope x := by first | exact Or.inl rfl | exact Or.inr (Or.inl rfl) | exact Or.inr (Or.inr rfl)) (hd : (x == ("__debug__" : Str)) = false := by decide)
    (hcd : (x == ("__classdict__" : Str)) = false := by decide) : PE X (.Name x pos) (tVar i) := pe_var hN hv hd hcd
end

theorem iteF {A B : Prop} (h : B) : if false = true then A else B := by
  rw [if_neg Bool.false_ne_true]
  exact h
theorem iteT {A B : Prop} (h : A) : if true = true then A else B := by
  rw [if_pos rfl]
  exact h
theorem ite2 {c A B : Prop} [Decidable c] (h1 : c → A) (h2 : ¬ c → B) : if c then A else B := by
  by_cases h : c
  · rw [if_pos h]
    exact h1 h
  · rw [if_neg h]
    exact h2 h
noncomputable def Same (H H' : Hp) : Prop := ∀ b o, H b = some o → H' b = some o
theorem Same.refl (H : Hp) : Same H H := fun _ _ h => h
theorem Same.trans {H H1 H2 : Hp} (a : Same H H1) (b : Same H1 H2) : Same H H2 := fun c o h => b c o (a c o h)
theorem Same.free {H H' : Hp} (e : Same H H') {l : Addr} (h : H' l = Option.none) : H l = Option.none := by
  cases q : H l with
  | none => rfl
  | some o =>
    rw [e l o q] at h
    cases h
theorem Same.seq {K : PySem.W.Frag} {H H' : Hp} {a : Addr} {xs : List V} (e : Same H H') (h : SqL K H a xs) : SqL K H' a xs := by
  rcases h with (h | ⟨o, h⟩) | h
  · exact .inl (.inl (e _ _ h))
  · exact .inl (.inr ⟨o, e _ _ h⟩)
  · exact .inr h

end L2

namespace L2
open PySem PySem.Spec PyProof.Rows

end L2

namespace L2
open PySem PySem.Spec PyProof.Rows

section
variable (P : Program) (w : World)
end

section
variable {P : Program} {w : World} {H H' : Hp} {h h' : Heap} {a : Addr} {o : HO}
end

section
variable {P : Program} {w : World} {H : Hp} {h h' : Heap} {x e : Addr} {o' : HO}
end

section
variable {fs fs' ex ex' : List Addr} {H H1 H2 : Hp} {h h1 h2 h' : Heap} {a x e : Addr} {o : HO}
end

end L2

namespace L2
open PySem PySem.Spec PyProof.Rows

section
variable {X : Cx} {pins : List (Addr × Obj)} {σ : List (Option V)} {H H' : Hp} {s : Shared} {h' : Heap}

end

end L2

namespace L2
open PySem PySem.Spec PyProof.Rows
section
variable {X : Cx}

variable {a b : Expr} {ta tb : TE} {pos : Pos}
variable {tA tB' : TT} {rest : List Expr}
end
end L2

namespace L2
open PySem PySem.Spec PyProof.Rows

section
variable {X : Cx} {pins : List (Addr × Obj)} {σ : St} {H : Hp} {s : Shared} {a : Addr} {xs ys : List V}
end

section
variable {X : Cx} {pins : List (Addr × Obj)} {σ : St} {H : Hp} {s : Shared} {E : Value → Shared → Prop}
end

section
variable {X : Cx} {st : Stmt} {rest : List Stmt} {t u : TS} {e : Expr} {te : TE} {pos : Pos}
end

section
variable {X : Cx} {pos : Pos}
end

section
variable {X : Cx} {pos : Pos}
end

end L2

namespace L2
open PySem PySem.Spec PyProof.Rows
section
variable {X : Cx} {tg : Expr}
end

end L2

namespace L2
open PySem PySem.Spec PyProof.Rows

section
variable {X : Cx} {a b c : Expr} {ta tb tc : TE} {pos : Pos}

end

section
variable {X : Cx} {a b c : Expr} {ta tb tc : TE} {pos : Pos}
end
end L2

namespace L2
open PySem PySem.Spec PyProof.Rows

section
variable {prog : Program} {w : World} {A : Around} {E : Value → Shared → Prop} {s : Shared} {K : PySem.W.Frag} {x dx C f : Addr} {mA : Str → Option Value} {name : Str} {v : Value}

end

section
variable {P : Program} {w : World} {H H' : Hp} {h h' : Heap} {a C dx : Addr} {fs fs' : List (Str × V)}
end

section
variable {X : Cx} {pins : List (Addr × Obj)} {σ : St} {H : Hp} {s : Shared} {a C dx : Addr} {fs : List (Str × V)} {f : Str} {v : V} {A : Around} {E : Value → Shared → Prop}

end

section
variable {X : Cx} {o e value : Expr} {f : Str} {pos pos' tpos : Pos} {ta tv : TE}
end

section
variable {X : Cx} {pins : List (Addr × Obj)} {σ : St} {H : Hp} {s : Shared} {A : Around} {E : Value → Shared → Prop} {Q : Value → Shared → Prop} {c : Value} {b : Bool}
end
end L2

namespace L2
open PySem PySem.Spec PyProof.Rows

section
variable {X : Cx} {e : Expr} {es : List Expr} {te : TE} {t : TA} {pos : Pos}
end

section
variable {X : Cx} {pins : List (Addr × Obj)} {σ : St} {H : Hp} {s s' : Shared}
end

section
variable {X : Cx} {CX : CXT} {k : Nat} {f C : Addr} {fd : FuncData} {ps : List Str} {sp : Sp} {dvs : List V} {ds : List Value} {E : XK} {x m : Str} {p pos apos : Pos} {e o : Expr} {es : List Expr} {ta : TE} {t : TA}

end

section
variable {X : Cx} {CX : CXT} {k : Nat} {f C : Addr} {fd : FuncData} {ps ks : List Str} {sp : Sp} {E : XK} {x m : Str} {p pos apos kpos : Pos} {e o : Expr} {es : List Expr} {kws : List Keyword} {te ta : TE} {t tk : TA} {nm : Option Str}
variable {g : List Value → List Value → List Value} {gV : List V → List V → List V}
end

end L2

namespace L2
open PySem PySem.Spec PyProof.Rows
section
variable {X : Cx} {x : Str} {p pos : Pos} {e : Expr} {es : List Expr} {t : TA} {id T : String} {r : List V → Hp → VK → Prop}

end
end L2

namespace L2
open PySem PySem.Spec PyProof.Rows

section
variable {κ : Type} [DecidableEq κ]
noncomputable def valV (kvs : List (κ × V)) (k : κ) : Option V := (kvs.find? fun kv => decide (kv.1 = k)).map (·.2)
noncomputable def putK (kvs : List (κ × V)) (k : κ) (v : V) : List (κ × V) :=
  if (kvs.any fun kv => decide (kv.1 = k)) = true then kvs.map (fun kv => if kv.1 = k then (kv.1, v) else kv) else kvs ++ [(k, v)]
noncomputable def dropK (kvs : List (κ × V)) (k : κ) : List (κ × V) := kvs.filter fun kv => decide (kv.1 ≠ k)

theorem valV_pos {p : κ × V} {r : List (κ × V)} {k : κ} (e : p.1 = k) : valV (p :: r) k = some p.2 := by simp [valV, List.find?_cons, e]
theorem valV_neg {p : κ × V} {r : List (κ × V)} {k : κ} (e : ¬ p.1 = k) : valV (p :: r) k = valV r k := by simp [valV, List.find?_cons, e]
theorem valV_any (k : κ) : ∀ kvs : List (κ × V), (kvs.any fun kv => decide (kv.1 = k)) = (valV kvs k).isSome
  | [] => rfl
  | p :: r => by
    rw [List.any_cons]
    by_cases e : p.1 = k
    · simp only [valV_pos e, decide_eq_true e, Bool.true_or, Option.isSome_some]
    · rw [valV_neg e, decide_eq_false e, Bool.false_or]; exact valV_any k r
theorem RelO.isSome_eq {o : Option V} {u : Option Value} (r : RelO o u) : o.isSome = u.isSome := by
  cases o with
  | none => cases u with
    | none => rfl
    | some _ => exact (show False from r).elim
  | some _ => cases u with
    | none => exact (show False from r).elim
    | some _ => rfl
theorem RelO.getD {o : Option V} {u : Option Value} {d : V} {d' : Value} (r : RelO o u) (rd : RelV d d') : RelV (o.getD d) (u.getD d') := by
  cases o with
  | none => cases u with
    | none => exact rd
    | some _ => exact (show False from r).elim
  | some _ => cases u with
    | none => exact (show False from r).elim
    | some _ => exact r

theorem KV.val {kvs : List (κ × V)} {vs : List (κ × Value)} (r : KV kvs vs) (k : κ) : RelO (valV kvs k) (valueAt vs k) := by
  unfold KV at r
  induction r with
  | nil => exact True.intro
  | @cons p q ps qs h t ih =>
    obtain ⟨h1, h2⟩ := h
    by_cases e : p.1 = k
    · have e' : q.1 = k := h1.symm.trans e
      have b : valueAt (q :: qs) k = some q.2 := by simp [valueAt, List.find?_cons, e']
      rw [valV_pos e, b]; exact h2
    · have e' : ¬ q.1 = k := fun z => e (h1.trans z)
      have b : valueAt (q :: qs) k = valueAt qs k := by simp [valueAt, List.find?_cons, e']
      rw [valV_neg e, b]; exact ih
theorem KV.any {kvs : List (κ × V)} {vs : List (κ × Value)} (r : KV kvs vs) (k : κ) : (kvs.any fun kv => decide (kv.1 = k)) = vs.any fun kv => decide (kv.1 = k) := by
  unfold KV at r
  induction r with
  | nil => rfl
  | cons h t ih => rw [List.any_cons, List.any_cons, ih, h.1]
theorem KV.repl {kvs : List (κ × V)} {vs : List (κ × Value)} (r : KV kvs vs) (k : κ) {y : V} {u : Value} (ry : RelV y u) :
    KV (kvs.map fun kv => if kv.1 = k then (kv.1, y) else kv) (vs.map fun kv => if kv.1 = k then (kv.1, u) else kv) := by
  unfold KV at r ⊢
  induction r with
  | nil => exact .nil
  | @cons p q ps qs h t ih =>
    rw [List.map_cons, List.map_cons]
    refine .cons ?_ ih
    obtain ⟨h1, h2⟩ := h
    by_cases e : p.1 = k
    · rw [if_pos e, if_pos (h1.symm.trans e)]; exact ⟨h1, ry⟩
    · rw [if_neg e, if_neg (fun z => e (h1.trans z))]; exact ⟨h1, h2⟩
theorem KV.put {kvs : List (κ × V)} {vs : List (κ × Value)} (r : KV kvs vs) (k : κ) {y : V} {u : Value} (ry : RelV y u) : KV (putK kvs k y) (stored vs k u) := by
  unfold putK stored
  rw [r.any k]
  by_cases e : (vs.any fun kv => decide (kv.1 = k)) = true
  · rw [if_pos e, if_pos e]; exact r.repl k ry
  · rw [if_neg e, if_neg e]; exact Paired.snoc r ⟨rfl, ry⟩
theorem KV.drop {kvs : List (κ × V)} {vs : List (κ × Value)} (r : KV kvs vs) (k : κ) : KV (dropK kvs k) (without vs k) := by
  unfold KV at r ⊢
  unfold dropK without
  induction r with
  | nil => exact .nil
  | @cons p q ps qs h t ih =>
    obtain ⟨h1, h2⟩ := h
    rw [List.filter_cons, List.filter_cons]
    by_cases e : p.1 = k
    · have a : ¬ decide (p.1 ≠ k) = true := by simp [e]
      have b : ¬ decide (q.1 ≠ k) = true := by simp [h1.symm.trans e]
      rw [if_neg a, if_neg b]; exact ih
    · have e' : ¬ q.1 = k := fun z => e (h1.trans z)
      have a : decide (p.1 ≠ k) = true := by simp [e]
      have b : decide (q.1 ≠ k) = true := by simp [e']
      rw [if_pos a, if_pos b]; exact .cons ⟨h1, h2⟩ ih
theorem KV.keys {kvs : List (κ × V)} {vs : List (κ × Value)} (r : KV kvs vs) : kvs.map (·.1) = vs.map (·.1) := by
  unfold KV at r
  induction r with
  | nil => rfl
  | cons h t ih => rw [List.map_cons, List.map_cons, ih, h.1]
theorem KV.length {kvs : List (κ × V)} {vs : List (κ × Value)} (r : KV kvs vs) : kvs.length = vs.length := Paired.length r
end


noncomputable abbrev KT (H : Hp) : List (List Key × V) → List (List Key × Addr × Value) → Prop := Paired fun p q => p.1 = q.1 ∧ H q.2.1 = some (.tup (p.1.map kV)) ∧ RelV p.2 q.2.2
theorem KT.val {H : Hp} {kvs : List (List Key × V)} {xs : List (List Key × Addr × Value)} (r : KT H kvs xs) (k : List Key) : RelO (valV kvs k) ((atKey xs k).map (·.2)) := by
  induction r with
  | nil => exact True.intro
  | @cons p q ps qs h t ih =>
    obtain ⟨h1, _, h2⟩ := h
    by_cases e : p.1 = k
    · have e' : q.1 = k := h1.symm.trans e
      have b : atKey (q :: qs) k = some q.2 := by simp [atKey, List.find?_cons, e']
      rw [valV_pos e, b]; exact h2
    · have e' : ¬ q.1 = k := fun z => e (h1.trans z)
      have b : atKey (q :: qs) k = atKey qs k := by simp [atKey, List.find?_cons, e']
      rw [valV_neg e, b]; exact ih
theorem KT.repl {H : Hp} {kvs : List (List Key × V)} {xs : List (List Key × Addr × Value)} (r : KT H kvs xs) (k : List Key) {y : V} {u : Value} (ry : RelV y u) :
    KT H (kvs.map fun kv => if kv.1 = k then (kv.1, y) else kv) (xs.map (putAt k u)) := by
  induction r with
  | nil => exact .nil
  | @cons p q ps qs h t ih =>
    rw [List.map_cons, List.map_cons]
    refine .cons ?_ ih
    obtain ⟨h1, h2, h3⟩ := h
    unfold putAt
    by_cases e : p.1 = k
    · rw [if_pos e, if_pos (h1.symm.trans e)]; exact ⟨h1, h2, ry⟩
    · rw [if_neg e, if_neg (fun z => e (h1.trans z))]; exact ⟨h1, h2, h3⟩
theorem KT.put {H : Hp} {kvs : List (List Key × V)} {xs : List (List Key × Addr × Value)} (r : KT H kvs xs) (k : List Key) {b : Addr} {y : V} {u : Value} (hb : H b = some (.tup (k.map kV))) (ry : RelV y u) :
    KT H (putK kvs k y) (storedH xs k b u) := by
  have e : (kvs.any fun kv => decide (kv.1 = k)) = (atKey xs k).isSome := by
    rw [valV_any, (r.val k).isSome_eq, Option.isSome_map]
  unfold putK storedH
  rw [e]
  by_cases q : (atKey xs k).isSome = true
  · rw [if_pos q, if_pos q]; exact r.repl k ry
  · rw [if_neg q, if_neg q]; exact Paired.snoc r ⟨rfl, hb, ry⟩
theorem KT.keeps {H H' : Hp} {kvs : List (List Key × V)} {xs : List (List Key × Addr × Value)} (r : KT H kvs xs) (ht : ∀ b ys, H b = some (.tup ys) → H' b = some (.tup ys)) : KT H' kvs xs :=
  Paired.mapP r fun _ _ z => ⟨z.1, ht _ _ z.2.1, z.2.2⟩

section
variable {P : Program} {w : World} {H : Hp} {h : Heap} {a : Addr}
end

noncomputable def DGet (H : Hp) (a : Addr) (y : V) (r : Option V) : Prop :=
  (∃ kvs k, Rd H a (.dK kvs) ∧ y = kV k ∧ r = valV kvs k) ∨ ∃ kvs k b, Rd H a (.dT kvs) ∧ y = .ref b ∧ H b = some (.tup (k.map kV)) ∧ r = valV kvs k
noncomputable def DPut (H : Hp) (a : Addr) (y v : V) (H' : Hp) : Prop :=
  (∃ kvs k, H a = some (.dK kvs) ∧ y = kV k ∧ kvs.length < sizeLine ∧ H' = upd H a (.dK (putK kvs k v))) ∨
  ∃ kvs k b, H a = some (.dT kvs) ∧ y = .ref b ∧ H b = some (.tup (k.map kV)) ∧ kvs.length < sizeLine ∧ H' = upd H a (.dT (putK kvs k v))
theorem DGet.k {H : Hp} {a : Addr} {kvs : List (Key × V)} {k : Key} (e : H a = some (.dK kvs)) : DGet H a (kV k) (valV kvs k) := .inl ⟨kvs, k, .inl e, rfl, rfl⟩
theorem DGet.t {H : Hp} {a b : Addr} {kvs : List (List Key × V)} {k : List Key} (e : H a = some (.dT kvs)) (eb : H b = some (.tup (k.map kV))) : DGet H a (.ref b) (valV kvs k) := .inr ⟨kvs, k, b, .inl e, rfl, eb, rfl⟩
theorem DPut.k {H : Hp} {a : Addr} {kvs : List (Key × V)} {k : Key} {v : V} (e : H a = some (.dK kvs)) (hl : kvs.length < sizeLine) : DPut H a (kV k) v (upd H a (.dK (putK kvs k v))) := .inl ⟨kvs, k, e, rfl, hl, rfl⟩
theorem DPut.t {H : Hp} {a b : Addr} {kvs : List (List Key × V)} {k : List Key} {v : V} (e : H a = some (.dT kvs)) (eb : H b = some (.tup (k.map kV))) (hl : kvs.length < sizeLine) :
    DPut H a (.ref b) v (upd H a (.dT (putK kvs k v))) := .inr ⟨kvs, k, b, e, rfl, eb, hl, rfl⟩


section
variable {X : Cx} {pins : List (Addr × Obj)} {σ : St} {H : Hp} {s : Shared} {a : Addr} {y v : V} {u r : Value} {o : Option V} {A : Around} {E : Value → Shared → Prop}

end

section
variable {X : Cx} {pins : List (Addr × Obj)} {σ : St} {H : Hp} {s : Shared} {a : Addr} {kvs : List (Key × V)} {k : Key} {u : Value} {A : Around} {E : Value → Shared → Prop}
end


section
variable {X : Cx} {o i e value : Expr} {pos pos' tpos : Pos} {td ty tv : TE}
end


noncomputable def tDNewK : TE := fun _ H Q => ∀ p, H p = none → Q (.ref p) (upd H p (.dK []))
section
variable {X : Cx} {pos : Pos}
end

noncomputable def tPairs : List (TE × TE) → St → Hp → (List (V × V) → Hp → Prop) → Prop
  | [], _, H, Q => Q [] H
  | (tk, tv) :: r, σ, H, Q => tk σ H fun x H1 => tv σ H1 fun y H2 => tPairs r σ H2 fun ps H3 => Q ((x, y) :: ps) H3
noncomputable abbrev VV : List (V × V) → List (Value × Value) → Prop := Paired fun p q => RelV p.1 q.1 ∧ RelV p.2 q.2
noncomputable def PPs (X : Cx) (pos : Pos) (keys : List (Option Expr)) (values : List Expr) (trs : List (TE × TE)) : Prop :=
  ∀ (pins : List (Addr × Obj)) (s : Shared) (σ : St) (H : Hp) (Q : List (V × V) → Hp → Prop), Inv X pins σ H s → tPairs trs σ H Q →
    wpAny (model X.prog X.w) X.A (evalPairs (pairTrees keys values X.env pos)) (fun vs s' => ∃ ps H', Inv X pins σ H' s' ∧ VV ps vs ∧ Q ps H') X.xe s
noncomputable def mergeK (kvs more : List (Key × V)) : List (Key × V) := more.foldl (fun acc kv => putK acc kv.1 kv.2) kvs
noncomputable def tDisp (trs : List (TE × TE)) : TE := fun σ H Q => ∀ p, H p = none → tPairs trs σ (upd H p (.dK [])) fun ps H2 => H2 p = some (.dK []) ∧ ∃ kvs : List (Key × V), ps = kvs.map (fun kv => (kV kv.1, kv.2)) ∧ kvs.length ≤ 15 ∧ Q (.ref p) (upd H2 p (.dK (mergeK [] kvs)))
section
variable {X : Cx} {pins : List (Addr × Obj)} {σ : St} {H : Hp} {s : Shared} {a : Addr} {y d : V} {u r : Value} {o : Option V} {A : Around} {E : Value → Shared → Prop}
end

section
variable {X : Cx} {o e f : Expr} {apos cpos : Pos} {td ty tx : TE}
end

section
variable {X : Cx} {pins : List (Addr × Obj)} {σ : St} {H : Hp} {s : Shared} {a : Addr} {kvs : List (Key × V)} {A : Around} {E : Value → Shared → Prop}
end


section
variable {X : Cx} {pins : List (Addr × Obj)} {σ : St} {H : Hp} {s : Shared} {a : Addr} {y : V} {u : Value} {A : Around} {E : Value → Shared → Prop}
end
end L2

namespace Att
open PySem PySem.W PySem.Calls PyProof.Rows

section
variable {prog : Program} {w : World} {A : Around} {E : Value → Shared → Prop} {s : Shared} {K : Frag}

end
end Att

namespace L2
open PySem PySem.Spec PyProof.Rows

end L2

namespace L2
open PySem PySem.Spec PyProof.Rows

end L2

namespace L2
open PySem PySem.Spec PyProof.Rows

section
variable {P : Program} {w : World} {K : PySem.W.Frag} {mg : Str → Option Value} {base : Heap}
end
section
variable {X : Cx}
end

section
variable {κ : Type} [DecidableEq κ]
end
end L2


namespace L2
open PySem PySem.Spec PyProof.Rows

theorem clo_forIn {env : Env} {f : Str × NameKind → List (Str × Addr) → Sem (ForInStep (List (Str × Addr)))}
    (f1 : ∀ n k cs, k ≠ NameKind.free → f (n, k) cs = pure (.yield cs)) (f2 : ∀ n cs c, env.cells.lookup n = some c → f (n, .free) cs = pure (.yield ((n, c) :: cs))) :
    ∀ (names : List (Str × NameKind)) (acc : List (Str × Addr)), (∀ x ∈ names, x.2 = .free → ∃ c, env.cells.lookup x.1 = some c) → (∀ p ∈ acc, env.cells.lookup p.1 = some p.2) →
      ∃ cl, forIn names acc f = pure cl ∧ (∀ p ∈ cl, env.cells.lookup p.1 = some p.2) ∧ (∀ p ∈ acc, p ∈ cl) ∧ ∀ x ∈ names, x.2 = .free → ∃ c, (x.1, c) ∈ cl
  | [], acc, _, ha => ⟨acc, rfl, ha, fun _ h => h, fun x hx => nomatch hx⟩
  | (n, k) :: r, acc, hn, ha => by
    by_cases hk : k = .free
    · subst hk
      obtain ⟨c, hc⟩ := hn (n, .free) List.mem_cons_self rfl
      obtain ⟨cl, e, h1, h2, h3⟩ := clo_forIn f1 f2 r ((n, c) :: acc) (fun x hx => hn x (List.mem_cons_of_mem _ hx)) (fun p hp => by
        rcases List.mem_cons.mp hp with z | z
        · subst z; exact hc
        · exact ha p z)
      refine ⟨cl, ?_, h1, fun p hp => h2 p (List.mem_cons_of_mem _ hp), fun x hx hf => ?_⟩
      · rw [List.forIn_cons, f2 n acc c hc, pure_bind]
        exact e
      · rcases List.mem_cons.mp hx with z | z
        · subst z; exact ⟨c, h2 _ List.mem_cons_self⟩
        · exact h3 x z hf
    · obtain ⟨cl, e, h1, h2, h3⟩ := clo_forIn f1 f2 r acc (fun x hx => hn x (List.mem_cons_of_mem _ hx)) ha
      refine ⟨cl, ?_, h1, h2, fun x hx hf => ?_⟩
      · rw [List.forIn_cons, f1 n k acc hk, pure_bind]
        exact e
      · rcases List.mem_cons.mp hx with z | z
        · subst z; exact absurd hf hk
        · exact h3 x z hf
theorem closure_ok {scope : Scope} {env : Env} (h : ∀ x ∈ scope.names, x.2 = .free → ∃ c, env.cells.lookup x.1 = some c) :
    ∃ cl, closureFor scope env = pure cl ∧ (∀ p ∈ cl, env.cells.lookup p.1 = some p.2) ∧ ∀ x ∈ scope.names, x.2 = .free → ∃ c, (x.1, c) ∈ cl := by
  obtain ⟨cl, e, h1, _, h3⟩ := clo_forIn (env := env) (f := fun (x : Str × NameKind) (cs : List (Str × Addr)) => if (x.2 == NameKind.free) = true then (do let a ← cellOf env x.1; pure (ForInStep.yield ((x.1, a) :: cs))) else pure (ForInStep.yield cs)) (fun n k cs hk => by
    have hk' : (k == NameKind.free) = false := by simpa using hk
    simp only [hk', Bool.false_eq_true, if_false]) (fun n cs c hc => by
    simp only [beq_self_eq_true, if_true, cellOf, hc, pure_bind]) scope.names [] h (fun p hp => nomatch hp)
  refine ⟨cl, ?_, h1, h3⟩
  rw [← e]
  simp only [closureFor]
  simp
theorem lookup_has {cl : List (Str × Addr)} {n : Str} {c : Addr} (h : (n, c) ∈ cl) : ∃ d, cl.lookup n = some d := by
  induction cl with
  | nil => exact nomatch h
  | cons p r ih =>
    obtain ⟨m, d⟩ := p
    rw [List.lookup_cons]
    cases e : n == m with
    | true => exact ⟨d, rfl⟩
    | false =>
      rcases List.mem_cons.mp h with z | z
      · cases z; simp at e
      · exact ih z

noncomputable def relS (scope sc : Scope) : List (Str × NameKind) := scope.names.map fun (n, k) => if (k == .free && sc.kind == .function && sc.names.lookup n == some .cell) then (n, .cell) else (n, k)
noncomputable def compChk (sc scope : Scope) (NX N' : List Str) (src : List (Option Nat)) : Bool :=
  decide (scope.kind = .function) && scope.names.all (fun y => decide (y.2 ≠ .cell)) && scope.names.all (fun y => decide (y.2 ≠ .local) || decide (scope.names.lookup y.1 = some .local)) &&
  scope.names.all (fun y => decide (y.2 ≠ .free) || decide (sc.names.lookup y.1 = some .cell) || decide (sc.names.lookup y.1 = some .free)) && decide (src.length = N'.length) &&
  (N'.zip src).all (fun p => match p.2 with
    | none => true
    | some j => decide (NX[j]? = some p.1) && (decide (sc.names.lookup p.1 = some .cell) || decide (sc.names.lookup p.1 = some .free)) && (decide ((relS scope sc).lookup p.1 = some .cell) || decide ((relS scope sc).lookup p.1 = some .free)))
structure CompScope (sc scope : Scope) (NX N' : List Str) (src : List (Option Nat)) : Prop where
  kind : scope.kind = .function
  nocell : ∀ y ∈ scope.names, y.2 ≠ .cell
  names : ∀ y ∈ scope.names, y.2 = .local → scope.names.lookup y.1 = some .local
  free : ∀ y ∈ scope.names, y.2 = .free → sc.names.lookup y.1 = some .cell ∨ sc.names.lookup y.1 = some .free
  len : src.length = N'.length
  at_ : ∀ (i j : Nat) (x : Str), src[i]? = some (some j) → N'[i]? = some x → NX[j]? = some x ∧ (sc.names.lookup x = some .cell ∨ sc.names.lookup x = some .free) ∧ ((relS scope sc).lookup x = some .cell ∨ (relS scope sc).lookup x = some .free)
theorem CompScope.of {sc scope : Scope} {NX N' : List Str} {src : List (Option Nat)} (h : compChk sc scope NX N' src = true) : CompScope sc scope NX N' src := by
  unfold compChk at h
  simp only [Bool.and_eq_true, List.all_eq_true, decide_eq_true_eq, Bool.or_eq_true] at h
  obtain ⟨⟨⟨⟨⟨h1, h2⟩, h3⟩, h4⟩, h5⟩, h6⟩ := h
  refine ⟨h1, h2, fun y hy e => ?_, fun y hy e => ?_, h5, fun i j x e1 e2 => ?_⟩
  · rcases h3 y hy with z | z
    · exact absurd e z
    · exact z
  · rcases h4 y hy with (z | z) | z
    · exact absurd e z
    · exact .inl z
    · exact .inr z
  · have hm : (x, some j) ∈ N'.zip src := by
      refine List.mem_of_getElem? (i := i) ?_
      rw [List.getElem?_zip_eq_some]
      exact ⟨e2, e1⟩
    have q := h6 _ hm
    simp only [Bool.and_eq_true, Bool.or_eq_true, decide_eq_true_eq] at q
    exact ⟨q.1.1, q.1.2, q.2⟩

noncomputable def cxComp (X : Cx) (N' : List Str) (scope : Scope) (cl : List (Str × Addr)) (C : Addr) (fp : List Addr) (pn : List (Addr × Obj)) (s₂ : Shared) (H₂ : Hp) : Cx where
  prog := X.prog
  w := X.w
  K := X.K
  mg := X.mg
  base := X.base
  A := X.A
  N := N'
  s₀ := s₂
  H₀ := H₂
  env := compEnvC scope cl C X.env
  outer := X.stack
  stack := X.stack
  ex := fp
  fn := fun _ => false
  calm := X.calm
  pn := pn
  xe := fun _ _ => False
noncomputable def stComp (src : List (Option Nat)) (σ : St) : St := src.map fun o => match o with
  | none => none
  | some j => (σ[j]?).join
theorem stComp_get {src : List (Option Nat)} {σ : St} {i : Nat} {v : V} (h : (stComp src σ)[i]? = some (some v)) : ∃ j, src[i]? = some (some j) ∧ σ[j]? = some (some v) := by
  unfold stComp at h
  rw [List.getElem?_map] at h
  cases e : src[i]? with
  | none => rw [e] at h; cases h
  | some o =>
    rw [e] at h
    cases o with
    | none => cases h
    | some j =>
      refine ⟨j, rfl, ?_⟩
      have h' : (σ[j]?).join = some v := Option.some.inj h
      cases q : σ[j]? with
      | none => rw [q] at h'; cases h'
      | some z => rw [q] at h'; rw [show z = some v from h']

noncomputable def PIf (X : Cx) (ifs : List Expr) (t : TT) : Prop :=
  ∀ (pins : List (Addr × Obj)) (s : Shared) (σ : St) (H : Hp) (Q : Bool → Hp → Prop), Inv X pins σ H s → t σ H Q →
    wpAny (model X.prog X.w) X.A (forIn ifs true fun c r => if r = true then do let ok ← isTrue c X.env (eval c X.env); pure (ForInStep.yield ok) else pure (ForInStep.yield r)) (TP X pins σ Q) X.xe s
noncomputable def tYes : TT := fun _ H Q => Q true H
theorem pif_nil {X : Cx} : PIf X [] tYes := fun pins s σ H Q I h => wpAny_tests_nil ⟨H, I, h⟩
theorem pif_one {X : Cx} {c : Expr} {t : TT} (h : PT X c t) : PIf X [c] t := fun pins s σ H Q I q => wpAny_tests_one (h pins s σ H Q I q)

noncomputable def KeepSt (σ σ' : St) : Prop := σ'.length = σ.length ∧ ∀ (i : Nat) v, σ[i]? = some (some v) → σ'[i]? = some (some v)
theorem KeepSt.set {src : List (Option Nat)} {σ : St} {i : Nat} {x : V} (h : src[i]? = some none) : KeepSt (stComp src σ) ((stComp src σ).set i (some x)) := by
  refine ⟨List.length_set, fun j v e => ?_⟩
  have ne : i ≠ j := by
    rintro rfl
    obtain ⟨k, e1, _⟩ := stComp_get e
    rw [h] at e1; cases e1
  rw [List.getElem?_set_ne ne]
  exact e
noncomputable def tComp (src : List (Option Nat)) (wi : TI) (g : TG) (tc : TT) (te : TE) : TE := fun σ H Q => wi σ H fun J H1 => ∃ W : Nat → Nat → List V → Hp → Prop, (∃ m, W 0 m [] H1) ∧ ∀ i m ys H, W i m ys H →
  (J.stop i H ∧ ∀ l, H l = none → Q (.ref l) (upd H l (.lst ys))) ∨
  (J.go i H ∧ ys.length < sizeLine ∧ ∀ x H', J.yld i H x H' → g x (stComp src σ) H' fun σ2 H2 => KeepSt (stComp src σ) σ2 ∧ tc σ2 H2 fun b H3 => if b = true then te σ2 H3 fun y H4 => ∃ m', m' < m ∧ W (i + 1) m' (ys ++ [y]) H4 else ∃ m', m' < m ∧ W (i + 1) m' ys H3)

section
variable {prog : Program} {w : World} {A : Around} {R : Result → Shared → Prop} {s : Shared}
theorem compLoop_go {elt target iter : Expr} {ifs : List Expr} {scope : Scope} {pos : Pos} {it acc : Value} {env : Env} (I : Nat → Shared → Prop)
    (turn : ∀ n s, I n s → wpAny (model prog w) A (pyNext it) (fun r s₁ => match r with
      | none => R (.ok .next) s₁
      | some v => wpAny (model prog w) A (letOwnedTupleGo target it v) (fun _ s₀ => wpAny (model prog w) A (assign target env v) (fun _ s₂ =>
          wpAny (model prog w) A (forIn ifs true fun c r => if r = true then do let ok ← isTrue c env (eval c env); pure (ForInStep.yield ok) else pure (ForInStep.yield r)) (fun ok s₃ =>
            if ok = true then wpAny (model prog w) A (eval elt env) (fun x s₄ =>
              wpAny (model prog w) A (call (.builtin "list.append") [acc, x]) (fun _ s₅ => ∃ m, m < n ∧ I m s₅) (fun _ _ => False) s₄) (fun _ _ => False) s₃
            else ∃ m, m < n ∧ I m s₃) (fun _ _ => False) s₂) (fun _ _ => False) s₀) (fun _ _ => False) s₁) (fun _ _ => False) s)
    (n : Nat) (h : I n s) : codeAny (model prog w) A (.compLoop (.ListComp elt [⟨target, iter, ifs, 0⟩] scope pos) 0 it acc env) R s := by
  refine codeAny_loop rfl I (fun n s hI => ?_) n h
  show wpAny _ A ((compTurn (.ListComp elt [⟨target, iter, ifs, 0⟩] scope pos) 0 it acc env).onRaise (fun x => do noteFrame x env; theTreesLotGoes x)) _ _ s
  refine wpAny_noted ?_
  rw [compTurn_list]
  refine wpAny_bind (wpAny_standAt (wpAny_bind (wpAny_mono (turn n s hI) (fun r s₁ h₁ => ?_) fun _ _ h' => h'.elim)))
  cases r with
  | none => exact wpAny_pure h₁
  | some v =>
    refine wpAny_bind (wpAny_mono h₁ (fun _ s₀ h₀ => ?_) fun _ _ h' => h'.elim)
    refine wpAny_bind (wpAny_mono h₀ (fun _ s₂ h₂ => wpAny_bind (wpAny_mono h₂ (fun ok s₃ h₃ => ?_) fun _ _ h' => h'.elim)) fun _ _ h' => h'.elim)
    cases ok with
    | false => exact wpAny_pure ⟨rfl, h₃⟩
    | true =>
      exact wpAny_bind (wpAny_bind (wpAny_mono h₃ (fun x s₄ h₄ => wpAny_bind (wpAny_mono h₄ (fun _ s₅ h₅ => wpAny_pure (wpAny_pure ⟨rfl, h₅⟩)) fun _ _ h' => h'.elim)) fun _ _ h' => h'.elim))
end

section
variable {X : Cx}
theorem rel_free {scope : Scope} {env : Env} (hn : ∀ y ∈ scope.names, y.2 ≠ .cell) {x : Str} (h : (relabel scope env).names.lookup x = some .cell ∨ (relabel scope env).names.lookup x = some .free) : (x, NameKind.free) ∈ scope.names := by
  have key : ∀ k, (k = NameKind.cell ∨ k = .free) → (relabel scope env).names.lookup x = some k → (x, NameKind.free) ∈ scope.names := fun k hk e => by
    have hm := mem_of_lookup_some e
    obtain ⟨⟨n, k0⟩, h1, h2⟩ := List.mem_map.mp hm
    dsimp only at h2
    split at h2
    · rename_i hc
      simp only [Bool.and_eq_true, beq_iff_eq] at hc
      cases h2
      rw [hc.1.1] at h1
      exact h1
    · cases h2
      rcases hk with z | z
      · subst z; exact absurd rfl (hn _ h1)
      · subst z; exact h1
  rcases h with h | h
  · exact key _ (.inl rfl) h
  · exact key _ (.inr rfl) h
theorem Inv.compOk {pins : List (Addr × Obj)} {σ : St} {H₂ : Hp} {s₂ : Shared} {scope : Scope} {N' : List Str} {src : List (Option Nat)} {cl : List (Str × Addr)} {C : Addr} {fp : List Addr} (I : Inv X pins σ H₂ s₂) (S : CompScope X.env.scope scope X.N N' src)
    (hcl1 : ∀ p ∈ cl, X.env.cells.lookup p.1 = some p.2) (hcl2 : ∀ x ∈ scope.names, x.2 = .free → ∃ c, (x.1, c) ∈ cl) (hC : s₂.heap.objs.size ≤ C) (f2 : ∀ b ∈ fp, FpOk X pins H₂ b) (fo : ∀ b ∈ fp, ∃ o, s₂.heap.get? b = some o) :
    (cxComp X N' scope cl C fp (X.pn ++ pins) s₂ H₂).Ok := by
  have cells : ∀ x c, cl.lookup x = some c → X.env.cells.lookup x = some c := fun x c e => hcl1 (x, c) (mem_of_lookup_some e)
  refine ⟨I.ok.mod, S.kind, I.ok.glob, I.ok.blt, hC, fun x y c h1 h2 => I.ok.inj x y c (cells x c h1) (cells y c h2), fun x hx => ?_, (fun _ _ h _ => nomatch h), I.ok.hd, I.ok.frames, .inl rfl, fun b hb => ⟨?_, fun x c e => ?_⟩, I.bs, ?_, fun b o e hb => ?_, fun b hb z => ?_, I.stack, I.stkFree⟩
  · obtain ⟨c, hc⟩ := hcl2 _ (rel_free S.nocell hx) rfl
    exact lookup_has hc
  · obtain ⟨o, e⟩ := fo b hb
    exact Nat.ne_of_lt (Nat.lt_of_lt_of_le (Heap.lt_size e) hC)
  · exact (f2 b hb).2.2.2.2.1 x c (cells x c e)
  · exact Nat.le_trans I.ok.bsz I.sz
  · rcases (f2 b hb).2.2.2.1 with z | z
    · exact I.ok.noex b o e z
    · exact absurd (Nat.lt_of_lt_of_le (Heap.lt_size e) (Nat.le_trans I.ok.bsz z)) (Nat.lt_irrefl _)
  · rcases List.mem_cons.mp (I.stkSub b z) with z | z
    · exact (f2 b hb).2.1 z
    · exact (f2 b hb).2.2.1 z

structure TurnC (cal : Cx → Prop) (P : Program) (w : World) (K : PySem.W.Frag) (tg : Expr) (J : It) (fp : List Addr) (it : Addr) (tn : Nat → Heap → Prop) : Prop where
  mem : it ∈ fp
  obj : ∀ i h, tn i h → ∀ b ∈ fp, ∃ o, h.get? b = some o ∧ ∀ v, o.data ≠ .cell v
  keep : ∀ i h h', tn i h → (∀ b ∈ fp, ∀ o, h.get? b = some o → h'.get? b = some o) → tn i h'
  item : ∀ (X : Cx), X.prog = P → X.w = w → X.K = K → cal X → ∀ (i : Nat) (pins : List (Addr × Obj)) (s : Shared) (σ : St) (H : Hp) (E : Value → Shared → Prop), Inv X pins σ H s → (∀ b ∈ fp, FpOk X pins H b) → tn i s.heap → J.go i H →
    wpAny (model P w) X.A (pyNext (.ref it)) (fun r s1 => ∃ u, r = some u ∧
      wpAny (model P w) X.A (letOwnedTupleGo tg (.ref it) u) (fun _ s2 => ∃ x H', Inv X pins σ H' s2 ∧ RelV x u ∧ J.yld i H x H' ∧ tn (i + 1) s2.heap ∧ ∀ b ∈ fp, H' b = none) E s1) E s
  done : ∀ (X : Cx), X.prog = P → X.w = w → X.K = K → cal X → ∀ (i : Nat) (pins : List (Addr × Obj)) (s : Shared) (σ : St) (H : Hp) (E : Value → Shared → Prop), Inv X pins σ H s → (∀ b ∈ fp, FpOk X pins H b) → tn i s.heap → J.stop i H →
    wpAny (model P w) X.A (pyNext (.ref it)) (fun r s1 => r = none ∧ Inv X pins σ H s1) E s
  self : ∀ (A : Around) (i : Nat) (s : Shared) (Q : Value → Shared → Prop) (E : Value → Shared → Prop), tn i s.heap → Q (.ref it) s → wpAny (model P w) A (pyIter (.ref it)) Q E s
theorem Turn.c {P : Program} {w : World} {K : PySem.W.Frag} {tg : Expr} {J : It} {fp : List Addr} {it : Addr} {tn : Nat → Heap → Prop} (T : Turn P w K tg J fp it tn) : TurnC (fun X => X.calm = true) P w K tg J fp it tn := ⟨T.mem, T.obj, T.keep, T.item, T.done, T.self⟩
noncomputable def PIEC (cal : Cx → Prop) (X : Cx) (pins : List (Addr × Obj)) (σ : St) (tg : Expr) (R : It → Hp → Prop) (itv : Value) (s2 : Shared) : Prop :=
  ∃ (it : Addr) (fp : List Addr) (tn : Nat → Heap → Prop) (J : It) (H' : Hp), itv = .ref it ∧ Inv X pins σ H' s2 ∧ TurnC cal X.prog X.w X.K tg J fp it tn ∧ tn 0 s2.heap ∧ (∀ b ∈ fp, FpOk X pins H' b) ∧ R J H'
noncomputable def PIC (cal : Cx → Prop) (X : Cx) (tg iter : Expr) (wi : TI) : Prop :=
  ∀ (pins : List (Addr × Obj)) (s : Shared) (σ : St) (H : Hp) (R : It → Hp → Prop), Inv X pins σ H s → wi σ H R →
    wpAny (model X.prog X.w) X.A (eval iter X.env) (fun v s1 => wpAny (model X.prog X.w) X.A (pyIter v) (PIEC cal X pins σ tg R) X.xe s1) X.xe s
theorem PI.c {X : Cx} {tg iter : Expr} {wi : TI} (h : PI X tg iter wi) : PIC (fun X => X.calm = true) X tg iter wi := fun pins s σ H R I q =>
  thn (h pins s σ H R I q) fun v s1 q1 => thn q1 fun u s2 ⟨it, fp, tn, J, H', e, I', T, t0, f, r⟩ => ⟨it, fp, tn, J, H', e, I', T.c, t0, f, r⟩
theorem lcomp_core {elt tg iter : Expr} {ifs : List Expr} {scope : Scope} {pos : Pos} {wi : TI} {g : TG} {tc : TT} {te : TE} {N' : List Str} {src : List (Option Nat)} {cal : Cx → Prop} (hc : ∀ {pins : List (Addr × Obj)} {σ : St} {H₂ : Hp} {s₂ : Shared} (cl : List (Str × Addr)) (C : Addr) (fp : List Addr) (pn : List (Addr × Obj)), Inv X pins σ H₂ s₂ → cal (cxComp X N' scope cl C fp pn s₂ H₂)) (S : CompScope X.env.scope scope X.N N' src)
    (hi : PIC cal X tg iter wi) (hg : ∀ cl C fp pn s₂ H₂, cal (cxComp X N' scope cl C fp pn s₂ H₂) → PG (cxComp X N' scope cl C fp pn s₂ H₂) tg g) (ht : ∀ cl C fp pn s₂ H₂, cal (cxComp X N' scope cl C fp pn s₂ H₂) → PIf (cxComp X N' scope cl C fp pn s₂ H₂) ifs tc) (he : ∀ cl C fp pn s₂ H₂, cal (cxComp X N' scope cl C fp pn s₂ H₂) → PE (cxComp X N' scope cl C fp pn s₂ H₂) elt te)
    (hs : ∀ x, foldedSetIterable iter X.env x = pure x) {use : Option (Value → Sem Unit)} {Qc : Value → Shared → Prop} {pins : List (Addr × Obj)} {s : Shared} {σ : St} {H : Hp} {Q : VK} {cpos : Pos} (I : Inv X pins σ H s) (hq : tComp src wi g tc te σ H Q)
    (hfin : ∀ (D C : Addr) (oC : Obj) (ys : List V) (H' : Hp) (s4 : Shared), Inv X (pins ++ [(C, oC)]) σ (upd H' D (.lst ys)) s4 → (∃ m, s4.heap.Ns C m) → FpOk X pins (upd H' D (.lst ys)) C → Q (.ref D) (upd H' D (.lst ys)) →
      compPost (model X.prog X.w) X.A X.xe use Qc (.ref D) C (.ok .next) s4) :
    wpAny (model X.prog X.w) X.A (comprehension (.ListComp elt [⟨tg, iter, ifs, 0⟩] scope pos) scope X.env cpos (newList []) false (eval iter X.env) use) Qc X.xe s := by
  obtain ⟨cl, hcl, hcl1, hcl2⟩ := closure_ok (scope := scope) (env := X.env) fun x hx hf => I.ok.has x.1 (S.free x hx hf)
  refine wpAny_comprehension_free (use := use) rfl hs hcl S.kind S.names (thn (hi pins s σ H _ I hq) fun v s1 h1 => thn h1 fun itv s2 h2 => ?_)
  obtain ⟨it, fp, tn, J, H2, e, I2, T, st2, f2, W, ⟨m0, w0⟩, turn⟩ := h2
  subst e
  refine wpAny_newObj_type (wpAny_newFunctionEnv S.nocell (by intro y hy; simp at hy) (fun h₁ hns₁ hsb₁ => ?_) S.kind)
  dsimp only at hns₁ hsb₁ ⊢
  generalize hP : s2.heap.push { cls := .type "list", dict := none, data := .seq ([] : List Value).toArray } = P2 at hns₁ hsb₁ ⊢
  have hC : P2.objs.size = s2.heap.objs.size + 1 := by rw [← hP, Heap.size_push]
  have hCle : s2.heap.objs.size ≤ P2.objs.size := by rw [hC]; exact Nat.le_succ _
  have hDC : s2.heap.objs.size ≠ P2.objs.size := by rw [hC]; exact Nat.ne_of_lt (Nat.lt_succ_self _)
  have old : ∀ b o, s2.heap.get? b = some o → h₁.get? b = some o := fun b o e =>
    hsb₁.extBut b o (Nat.ne_of_lt (Nat.lt_of_lt_of_le (Heap.lt_size e) hCle)) (Heap.get?_push_of_some _ (hP ▸ Heap.get?_push_of_some _ e))
  have oldD : h₁.get? s2.heap.objs.size = some { cls := .type "list", data := .seq ([] : List Value).toArray } := hsb₁.extBut _ _ hDC (Heap.get?_push_of_some _ (hP ▸ Heap.get?_push_size _ rfl))
  have fo : ∀ b ∈ fp, ∃ o, s2.heap.get? b = some o := fun b hb => let ⟨o, e, _⟩ := T.obj _ _ st2 b hb; ⟨o, e⟩
  have fpD : ∀ b ∈ fp, s2.heap.objs.size ≠ b := fun b hb z => by
    obtain ⟨o, e⟩ := fo b hb
    exact absurd (Heap.lt_size e) (by rw [← z]; exact Nat.lt_irrefl _)
  have fpC : ∀ b ∈ fp, b ≠ P2.objs.size := fun b hb => by
    obtain ⟨o, e⟩ := fo b hb
    exact Nat.ne_of_lt (Nat.lt_of_lt_of_le (Heap.lt_size e) hCle)
  have ok' := I2.compOk (C := P2.objs.size) S hcl1 hcl2 hCle f2 fo
  have cells : ∀ x c, cl.lookup x = some c → X.env.cells.lookup x = some c := fun x c e => hcl1 (x, c) (mem_of_lookup_some e)
  have stkne : ∀ p ∈ X.pn ++ pins, p.1 ∉ frs X.stack := fun p hp z => by
    obtain ⟨_, _, n1, n2, _⟩ := I2.pin p hp
    rcases List.mem_cons.mp (I2.stkSub _ z) with z | z
    · exact n1 z
    · exact n2 z
  have stkD : ∀ b, s2.heap.objs.size ≤ b → b ∉ frs X.stack := fun b hb z => by
    rcases List.mem_cons.mp (I2.stkSub _ z) with z | z
    · exact absurd I2.lt (by rw [← z]; exact Nat.not_lt.mpr hb)
    · exact I2.nofs hb z
  -- the state at the block's beginning
  have I4 : Inv (cxComp X N' scope cl P2.objs.size fp (X.pn ++ pins) s2 H2) [(s2.heap.objs.size, { cls := .type "list", data := .seq ([] : List Value).toArray })] (stComp src σ) H2 { s2 with heap := h₁, toks := s2.toks + ([] : List (Str × Value)).length } := by
    refine ⟨ok', rfl, I2.bare, Un.kept old, ⟨_, hns₁, fun i x v e1 e2 e3 => ?_⟩, fun x c e => ?_, I2.hok.fresh hCle, fun x c e => I2.freeC x c (cells x c e), fun p hp => ?_, I2.hok.kept old, ?_⟩
    · obtain ⟨j, q1, q2⟩ := stComp_get e2
      obtain ⟨a1, a2, a3⟩ := S.at_ i j x q1 e1
      obtain ⟨m, hm, hl⟩ := I2.loc
      have vis : Vis X.env.scope x := a2.elim (fun z => .inr (.inl z)) fun z => .inr (.inr z)
      obtain ⟨u, r, l⟩ := hl j x v a1 q2 vis
      refine ⟨u, r, ?_⟩
      rcases l with ⟨k, _⟩ | ⟨_, c, hcx, z⟩
      · have k' : X.env.scope.names.lookup x = some .local := k
        rcases a2 with a2 | a2 <;> (rw [a2] at k'; cases k')
      · have hfree := rel_free (env := X.env) S.nocell a3
        obtain ⟨c', hc'⟩ := hcl2 _ hfree rfl
        obtain ⟨d, hd⟩ := lookup_has hc'
        have ed : d = c := by
          have := cells x d hd
          rw [hcx] at this; exact (Option.some.inj this).symm
        subst ed
        refine .inr ⟨a3, d, hd, ?_⟩
        obtain ⟨o, ho, hod⟩ := z
        exact ⟨o, old _ _ ho, hod⟩
    · obtain ⟨v, o, ho, hod⟩ := I2.cell x c (cells x c e)
      exact ⟨v, o, old _ _ ho, hod⟩
    · rcases List.mem_append.mp hp with hp | hp
      · obtain ⟨a1, a2, a3, a4, a5⟩ := I2.pin p hp
        exact ⟨old _ _ a1, a2, Nat.ne_of_lt (Nat.lt_of_lt_of_le (Heap.lt_size a1) hCle), stkne p hp, a5⟩
      · obtain rfl := List.mem_singleton.mp hp
        exact ⟨oldD, I2.hok.fresh (Nat.le_refl _), hDC, stkD _ (Nat.le_refl _), fun v z => by cases z⟩
    · show (stComp src σ).length = N'.length
      unfold stComp
      rw [List.length_map]; exact S.len
  have pinD : ∀ {o : Obj} {H' : Hp} {σ' : St} {s' : Shared} {pl : List (Addr × Obj)}, Inv (cxComp X N' scope cl P2.objs.size fp (X.pn ++ pins) s2 H2) pl σ' H' s' → (s2.heap.objs.size, o) ∈ pl → s'.heap.get? s2.heap.objs.size = some o ∧ H' s2.heap.objs.size = none :=
    fun {o H' σ' s' pl} J hm => let q := J.pin _ (List.mem_append_right _ hm); ⟨q.1, q.2.1⟩
  have stat : ∀ {H' : Hp} {o : Obj}, (∀ b ∈ fp, H' b = none) → ∀ b ∈ fp, FpOk (cxComp X N' scope cl P2.objs.size fp (X.pn ++ pins) s2 H2) [(s2.heap.objs.size, o)] H' b := fun {H' o} hn b hb => by
    refine ⟨hn b hb, fpC b hb, fun z => ?_, .inl hb, fun x c e => (f2 b hb).2.2.2.2.1 x c (cells x c e), fun p hp => ?_⟩
    · rcases List.mem_cons.mp (I2.stkSub b z) with z | z
      · exact (f2 b hb).2.1 z
      · exact (f2 b hb).2.2.1 z
    · rcases List.mem_append.mp hp with hp | hp
      · exact (f2 b hb).2.2.2.2.2 p hp
      · obtain rfl := List.mem_singleton.mp hp
        exact fpD b hb
  -- the loop
  have loop : ∀ s₃ : Shared, s₃ = { s2 with heap := h₁, toks := s2.toks + ([] : List (Str × Value)).length } →
      codeAny (model X.prog X.w) X.A (.compLoop (.ListComp elt [⟨tg, iter, ifs, 0⟩] scope pos) 0 (.ref it) (.ref s2.heap.objs.size) (compEnvC scope cl P2.objs.size X.env)) (compPost (model X.prog X.w) X.A X.xe use Qc (.ref s2.heap.objs.size) P2.objs.size) s₃ := by
    rintro s₃ rfl
    refine compLoop_go (fun n s' => ∃ i ys H' its k, Inv (cxComp X N' scope cl P2.objs.size fp (X.pn ++ pins) s2 H2) [(s2.heap.objs.size, { cls := .type "list", data := .seq (its : List Value).toArray k })] (stComp src σ) H' s' ∧ tn i s'.heap ∧ (∀ b ∈ fp, H' b = none) ∧ Vals ys its ∧ ys.length ≤ sizeLine ∧ W i n ys H') ?_ m0
      ⟨0, [], H2, [], _, I4, T.keep _ _ _ st2 fun b hb o e => old b o e, fun b hb => (f2 b hb).1, .nil, Nat.zero_le _, w0⟩
    rintro n s3 ⟨i, ys, H3, its, k, I3, st3, fr3, rv, hz, w3⟩
    rcases turn i n ys H3 w3 with ⟨stop, qn⟩ | ⟨go, hlt, step⟩
    · refine thn (T.done (cxComp X N' scope cl P2.objs.size fp (X.pn ++ pins) s2 H2) rfl rfl rfl (hc _ _ _ _ I2) i _ s3 _ H3 _ I3 (stat fr3) st3 stop) fun r s4 ⟨hr, I4'⟩ => ?_
      subst hr
      obtain ⟨gD, nD⟩ := pinD I4' List.mem_cons_self
      obtain ⟨m, hm, _⟩ := id I4'.loc
      obtain ⟨oC, es, ep, hoC, hdC, hrC⟩ := id hm
      have ltC : ∀ b o, s2.heap.get? b = some o → b ≠ P2.objs.size := fun b o e => Nat.ne_of_lt (Nat.lt_of_lt_of_le (Heap.lt_size e) hCle)
      have ltD : ∀ b o, s2.heap.get? b = some o → b ≠ s2.heap.objs.size := fun b o e => Nat.ne_of_lt (Heap.lt_size e)
      have hC' : H3 P2.objs.size = none := I4'.free
      have hC'' : upd H3 s2.heap.objs.size (.lst ys) P2.objs.size = none := by rw [upd_ne (Ne.symm hDC)]; exact hC'
      have J : Inv X pins σ (upd H3 s2.heap.objs.size (.lst ys)) s4 := by
        refine I2.call' (ch := fp) I4'.os ⟨fun b o e n hb hx => I4'.base.keep b o e n hb hx, fun b o e n hb hx => I4'.base.slot b o e n hb hx, fun b o e n hx => ?_, fun b o e hx => I4'.base.there b o e hx, fun b xs e => ?_, fun b o xs e => ?_, fun b ps e => ?_⟩ (fun b u e => ?_) I4'.bare fun b hb => ?_
        · rw [upd_ne (ltD b o e)]
          exact I4'.base.free b o e n hx
        · have q := I4'.base.tups b xs e
          rw [upd_ne (ne_of_none q nD)]; exact q
        · have q := I4'.base.frzs b o xs e
          rw [upd_ne (ne_of_none q nD)]; exact q
        · obtain ⟨more, q⟩ := I4'.base.tbls b ps e
          exact ⟨more, by rw [upd_ne (ne_of_none q nD)]; exact q⟩
        · by_cases hb : b = s2.heap.objs.size
          · subst hb
            rw [upd_same] at e
            cases e
            exact ⟨hz, its, k, rv, gD⟩
          · rw [upd_ne hb] at e
            exact (I4'.hok b u e).stay (fun c v _ q => q) (fun c q => by rw [upd_ne (ne_of_none q nD)]; exact q) fun c xs q => by rw [upd_ne (ne_of_none q nD)]; exact q
        · exact ⟨(f2 b hb).2.2.2.1, (f2 b hb).2.1, (f2 b hb).2.2.2.2.1, (f2 b hb).2.2.2.2.2⟩
      have fC : FpOk X pins (upd H3 s2.heap.objs.size (.lst ys)) P2.objs.size := I2.fpOk hCle hC''
      have J' : Inv X (pins ++ [(P2.objs.size, oC)]) σ (upd H3 s2.heap.objs.size (.lst ys)) s4 := J.pins_of fun p hp => by
        rcases List.mem_append.mp hp with hp | hp
        · exact J.pin p (List.mem_append_right _ hp)
        · obtain rfl := List.mem_singleton.mp hp
          exact ⟨hoC, hC'', fC.2.1, fC.2.2.1, fun v z => by rw [hdC] at z; cases z⟩
      exact hfin _ _ oC ys H3 s4 J' ⟨m, hm⟩ fC (qn _ nD)
    · refine thn (T.item (cxComp X N' scope cl P2.objs.size fp (X.pn ++ pins) s2 H2) rfl rfl rfl (hc _ _ _ _ I2) i _ s3 _ H3 _ I3 (stat fr3) st3 go) fun r s4 ⟨u, hr, h4⟩ => ?_
      subst hr
      refine thn h4 fun _ s5 ⟨x, H5, I5, r5, y5, st5, fr5⟩ => ?_
      have I5' := I5.pinned (stat fr5) (T.obj _ _ st5)
      refine thn (hg cl P2.objs.size fp (X.pn ++ pins) s2 H2 (hc _ _ _ _ I2) _ s5 _ H5 x u _ I5' r5 (step x H5 y5)) fun _ s6 ⟨σ6, H6, I6, ks6, q6⟩ => ?_
      refine thn (ht cl P2.objs.size fp (X.pn ++ pins) s2 H2 (hc _ _ _ _ I2) _ s6 σ6 H6 _ I6 q6) fun okb s7 ⟨H7, I7, q7⟩ => ?_
      have again : ∀ {s8 : Shared} {H8 : Hp}, Inv (cxComp X N' scope cl P2.objs.size fp (X.pn ++ pins) s2 H2) ([(s2.heap.objs.size, ({ cls := .type "list", data := .seq (its : List Value).toArray k } : Obj))] ++ pinsAt fp s5.heap) σ6 H8 s8 → tn (i + 1) s8.heap ∧ (∀ b ∈ fp, H8 b = none) := fun {s8 H8} I8 => by
        refine ⟨T.keep _ _ _ st5 fun b hb o e => (I8.pin (b, o) (List.mem_append_right _ (List.mem_append_right _ (mem_pinsAt hb e)))).1, fun b hb => ?_⟩
        obtain ⟨o, e, d⟩ := T.obj _ _ st5 b hb
        exact (I8.pin (b, o) (List.mem_append_right _ (List.mem_append_right _ (mem_pinsAt hb e)))).2.1
      cases okb with
      | false =>
        simp only [Bool.false_eq_true, if_false] at q7 ⊢
        obtain ⟨m', hm', w7⟩ := q7
        obtain ⟨t7, n7⟩ := again I7
        exact ⟨m', hm', i + 1, ys, H7, its, k, (I7.unpinned).weak ks6.1.symm ks6.2, t7, n7, rv, hz, w7⟩
      | true =>
        simp only [if_true] at q7 ⊢
        refine thn (he cl P2.objs.size fp (X.pn ++ pins) s2 H2 (hc _ _ _ _ I2) _ s7 σ6 H7 _ I7 q7) fun yv s8 ⟨y, H8, I8, r8, m', hm', w8⟩ => ?_
        obtain ⟨t8, n8⟩ := again I8
        obtain ⟨gD, nD⟩ := pinD I8 (List.mem_append_left _ List.mem_cons_self)
        have hsz : its.toArray.size ≤ sizeLine := by
          have := rv.length
          rw [List.size_toArray]
          omega
        refine wpAny_list_append_plain (hsz := hsz) ⟨_, gD⟩ fun h9 hl9 hs9 => ?_
        obtain ⟨k9, g9⟩ := hl9
        have I8n : Inv (cxComp X N' scope cl P2.objs.size fp (X.pn ++ pins) s2 H2) [] σ6 H8 s8 := I8.pins_of fun p hp => nomatch hp
        have fo' : ∀ p ∈ (cxComp X N' scope cl P2.objs.size fp (X.pn ++ pins) s2 H2).pn ++ ([] : List (Addr × Obj)), p.1 ≠ s2.heap.objs.size := fun p hp => by
          rw [List.append_nil] at hp
          exact Nat.ne_of_lt (Heap.lt_size (I2.pin p hp).1)
        have I9 : Inv (cxComp X N' scope cl P2.objs.size fp (X.pn ++ pins) s2 H2) [] σ6 H8 { s8 with heap := h9 } := I8n.turned (t' := s8.toks) (it := s2.heap.objs.size) (fun b o hb e => (hs9.2 b hb).trans e) nD hDC (.inr (Nat.le_refl _))
          (fun x c e z => by
            obtain ⟨v, q⟩ := I2.cell x c (cells x c e)
            exact absurd q.lt (by rw [z]; exact Nat.lt_irrefl _)) fo'
        have I9' : Inv (cxComp X N' scope cl P2.objs.size fp (X.pn ++ pins) s2 H2) [(s2.heap.objs.size, ({ cls := .type "list", data := .seq (its ++ [yv]).toArray k9 } : Obj))] σ6 H8 { s8 with heap := h9 } := I9.pins_of fun p hp => by
          obtain rfl := List.mem_singleton.mp hp
          refine ⟨?_, nD, hDC, stkD _ (Nat.le_refl _), fun v z => by cases z⟩
          show h9.get? s2.heap.objs.size = _
          rw [g9]
          simp
        refine ⟨m', hm', i + 1, ys ++ [y], H8, its ++ [yv], k9, I9'.weak ks6.1.symm ks6.2, T.keep _ _ _ t8 fun b hb o e => (hs9.2 b (Ne.symm (fpD b hb))).trans e, n8, rv.append (.cons r8 .nil), ?_, w8⟩
        rw [List.length_append, List.length_singleton]
        exact hlt
  have st1 : tn 0 h₁ := T.keep _ _ _ st2 fun b hb o e => old b o e
  exact codeAny_compStart_list (loop _ rfl) (T.self X.A 0 _ _ _ st1 (loop _ rfl))

theorem pe_lcomp {elt tg iter : Expr} {ifs : List Expr} {scope : Scope} {pos : Pos} {wi : TI} {g : TG} {tc : TT} {te : TE} {N' : List Str} {src : List (Option Nat)} (hc : X.calm = true) (S : CompScope X.env.scope scope X.N N' src)
    (hi : PI X tg iter wi) (hg : ∀ cl C fp pn s₂ H₂, PG (cxComp X N' scope cl C fp pn s₂ H₂) tg g) (ht : ∀ cl C fp pn s₂ H₂, PIf (cxComp X N' scope cl C fp pn s₂ H₂) ifs tc) (he : ∀ cl C fp pn s₂ H₂, PE (cxComp X N' scope cl C fp pn s₂ H₂) elt te)
    (hs : ∀ x, foldedSetIterable iter X.env x = pure x := by intro _; rfl) : PE X (.ListComp elt [⟨tg, iter, ifs, 0⟩] scope pos) (tComp src wi g tc te) := by
  intro pins s σ H Q I hq
  rw [eval_ListComp]
  refine lcomp_core (use := none) (cal := fun Y => Y.calm = true) (fun _ _ _ _ _ => hc) S hi.c (fun cl C fp pn s₂ H₂ _ => hg cl C fp pn s₂ H₂) (fun cl C fp pn s₂ H₂ _ => ht cl C fp pn s₂ H₂) (fun cl C fp pn s₂ H₂ _ => he cl C fp pn s₂ H₂) hs I hq fun D C oC ys H' s4 J hm fC q => ?_
  obtain ⟨m, hm⟩ := hm
  refine ⟨m, hm, fun h' hs' => ⟨.ref D, _, (J.unpinned).turned (t' := s4.toks) (it := C) (fun b o hb e => (hs'.2 b hb).trans e) fC.1 fC.2.1 fC.2.2.2.1 fC.2.2.2.2.1 fC.2.2.2.2.2, rfl, q⟩⟩
theorem pe_lcompC {elt tg iter : Expr} {ifs : List Expr} {scope : Scope} {pos : Pos} {wi : TI} {g : TG} {tc : TT} {te : TE} {N' : List Str} {src : List (Option Nat)} {cal : Cx → Prop} (hc : ∀ {pins : List (Addr × Obj)} {σ : St} {H₂ : Hp} {s₂ : Shared} (cl : List (Str × Addr)) (C : Addr) (fp : List Addr) (pn : List (Addr × Obj)), Inv X pins σ H₂ s₂ → cal (cxComp X N' scope cl C fp pn s₂ H₂)) (S : CompScope X.env.scope scope X.N N' src)
    (hi : PIC cal X tg iter wi) (hg : ∀ cl C fp pn s₂ H₂, cal (cxComp X N' scope cl C fp pn s₂ H₂) → PG (cxComp X N' scope cl C fp pn s₂ H₂) tg g) (ht : ∀ cl C fp pn s₂ H₂, cal (cxComp X N' scope cl C fp pn s₂ H₂) → PIf (cxComp X N' scope cl C fp pn s₂ H₂) ifs tc) (he : ∀ cl C fp pn s₂ H₂, cal (cxComp X N' scope cl C fp pn s₂ H₂) → PE (cxComp X N' scope cl C fp pn s₂ H₂) elt te)
    (hs : ∀ x, foldedSetIterable iter X.env x = pure x := by intro _; rfl) : PE X (.ListComp elt [⟨tg, iter, ifs, 0⟩] scope pos) (tComp src wi g tc te) := by
  intro pins s σ H Q I hq
  rw [eval_ListComp]
  refine lcomp_core (use := none) hc S hi hg ht he hs I hq fun D C oC ys H' s4 J hm fC q => ?_
  obtain ⟨m, hm⟩ := hm
  exact ⟨m, hm, fun h' hs' => ⟨.ref D, _, (J.unpinned).turned (t' := s4.toks) (it := C) (fun b o hb e => (hs'.2 b hb).trans e) fC.1 fC.2.1 fC.2.2.2.1 fC.2.2.2.2.1 fC.2.2.2.2.2, rfl, q⟩⟩
noncomputable def tAsgC (i : Nat) (t : TE) : TS := fun D σ H => t σ H fun v H1 => D.nx (σ.set i (some v)) H1
theorem ps_set_lcomp {i : Nat} {y : Str} {py spos : Pos} {elt tg iter : Expr} {ifs : List Expr} {scope : Scope} {pos : Pos} {wi : TI} {g : TG} {tc : TT} {te : TE} {N' : List Str} {src : List (Option Nat)} (hN : X.N.Nodup) (hy : X.N[i]? = some y) (hl : X.env.scope.names.lookup y = some .local)
    (hc : X.calm = true) (S : CompScope X.env.scope scope X.N N' src)
    (hi : PI X tg iter wi) (hg : ∀ cl C fp pn s₂ H₂, PG (cxComp X N' scope cl C fp pn s₂ H₂) tg g) (ht : ∀ cl C fp pn s₂ H₂, PIf (cxComp X N' scope cl C fp pn s₂ H₂) ifs tc) (he : ∀ cl C fp pn s₂ H₂, PE (cxComp X N' scope cl C fp pn s₂ H₂) elt te)
    (hsw : swapsWith (.ListComp elt [⟨tg, iter, ifs, 0⟩] scope pos) (some (.Name y py)) spos.line X.env = pure true := by rfl)
    (hs : ∀ x, foldedSetIterable iter X.env x = pure x := by intro _; rfl) : PS X (.Assign [.Name y py] (.ListComp elt [⟨tg, iter, ifs, 0⟩] scope pos) spos) (tAsgC i (tComp src wi g tc te)) := by
  intro pins s σ H D I hq
  rw [exec_Assign_Name_used _ _ _ _ hsw]
  refine wpAny_bind (wpAny_standAt (wpAny_bind ?_))
  show wpAny _ X.A (do let _ ← comprehension (.ListComp elt [⟨tg, iter, ifs, 0⟩] scope pos) scope X.env _ (newList []) false (eval iter X.env) (some (assign (.Name y py) X.env))) _ _ s
  refine wpAny_bind (wpAny_mono (lcomp_core (use := some (assign (.Name y py) X.env)) (Qc := fun _ s' => SP X pins D .next s') (cal := fun Y => Y.calm = true) (fun _ _ _ _ _ => hc) S hi.c (fun cl C fp pn s₂ H₂ _ => hg cl C fp pn s₂ H₂) (fun cl C fp pn s₂ H₂ _ => ht cl C fp pn s₂ H₂) (fun cl C fp pn s₂ H₂ _ => he cl C fp pn s₂ H₂) hs I hq fun Dl C oC ys H' s4 J hm fC q => ?_) (fun _ s' hq => wpAny_pure (wpAny_pure hq)) fun _ _ e => e)
  obtain ⟨m, hm⟩ := hm
  show wpAny _ X.A (assign (.Name y py) X.env (.ref Dl)) _ _ s4
  refine thn ((pg_name (i := i) (pos := py) hN hy (.inl hl) (.inr hl)) _ s4 σ _ (.ref Dl) (.ref Dl) (fun σ' H' => D.nx σ' H' ∧ H' C = none) J rfl ⟨q, fC.1⟩) fun _ s5 ⟨σ5, H5, J5, q5, n5⟩ => ?_
  obtain ⟨p1, _⟩ := J5.pin (C, oC) (List.mem_append_right _ (List.mem_append_right _ List.mem_cons_self))
  obtain ⟨p2, _⟩ := J.pin (C, oC) (List.mem_append_right _ (List.mem_append_right _ List.mem_cons_self))
  obtain ⟨o, es, ep, ho, r⟩ := hm
  have eo : o = oC := by
    have z : s4.heap.get? C = some oC := p2
    rw [ho] at z; exact Option.some.inj z
  subst eo
  refine ⟨m, ⟨o, es, ep, p1, r⟩, fun h' hs' => ⟨σ5, H5, (J5.unpinned).turned (t' := s5.toks) (it := C) (fun b o hb e => (hs'.2 b hb).trans e) n5 fC.2.1 fC.2.2.2.1 fC.2.2.2.2.1 fC.2.2.2.2.2, q5⟩⟩
end

noncomputable def Wk (J : It) (xs : List V) (Pv : Hp → Prop) : Prop := ∀ i H, Pv H → (i < xs.length → J.go i H) ∧ (xs.length ≤ i → J.stop i H) ∧ (i < xs.length → ∀ x H', J.yld i H x H' → H' = H ∧ xs[i]? = some x)
theorem wk_list {K : PySem.W.Frag} {a : Addr} {xs : List V} {Pv : Hp → Prop} (hl : ∀ H, Pv H → SqL K H a xs) : Wk (Itl K a) xs Pv := fun i H p =>
  ⟨fun h => ⟨xs, xs[i], hl H p, by simp [h]⟩, fun h => ⟨xs, hl H p, h⟩, fun _ _ _ y => ⟨y.1, y.2 xs (hl H p)⟩⟩
noncomputable def rngV (lo : Int) (n : Nat) : List V := (List.range n).map fun i : Nat => V.int (lo + (i : Int))
theorem rngV_length (lo : Int) (n : Nat) : (rngV lo n).length = n := by simp [rngV]
theorem rngV_get {lo : Int} {n i : Nat} (h : i < n) : (rngV lo n)[i]? = some (V.int (lo + (i : Int))) := by simp [rngV, h]
theorem wk_range {lo : Int} {n : Nat} {Pv : Hp → Prop} : Wk (Itr lo n) (rngV lo n) Pv := fun i H p =>
  ⟨fun h => by rw [rngV_length] at h; exact h, fun h => by rw [rngV_length] at h; exact h, fun h x H' y => ⟨y.1, by rw [rngV_length] at h; rw [rngV_get h, y.2]⟩⟩
theorem comp_walk {J : It} {xs : List V} {src : List (Option Nat)} {tc : TT} {te : TE} {σ : St} {H : Hp} {Q : VK} {k : Nat} (F : V → List V) (Pv : Hp → Prop) (hsrc : src[k]? = some none) (h0 : Pv H) (hw : Wk J xs Pv) (hz : xs.length ≤ sizeLine)
    (hs : ∀ (i : Nat) (x : V) (H' : Hp) (Cy : VK) (Cn : Hp → Prop), xs[i]? = some x → Pv H' → (∀ y H4, F x = [y] → Pv H4 → Cy y H4) → (∀ H3, F x = [] → Pv H3 → Cn H3) →
      tc ((stComp src σ).set k (some x)) H' fun b H3 => if b = true then te ((stComp src σ).set k (some x)) H3 Cy else Cn H3)
    (hd : ∀ H' l, Pv H' → H' l = none → Q (.ref l) (upd H' l (.lst (xs.flatMap F)))) :
    ∃ W : Nat → Nat → List V → Hp → Prop, (∃ m, W 0 m [] H) ∧ ∀ i m ys H, W i m ys H →
      (J.stop i H ∧ ∀ l, H l = none → Q (.ref l) (upd H l (.lst ys))) ∨
      (J.go i H ∧ ys.length < sizeLine ∧ ∀ x H', J.yld i H x H' → gName k x (stComp src σ) H' fun σ2 H2 => KeepSt (stComp src σ) σ2 ∧ tc σ2 H2 fun b H3 => if b = true then te σ2 H3 fun y H4 => ∃ m', m' < m ∧ W (i + 1) m' (ys ++ [y]) H4 else ∃ m', m' < m ∧ W (i + 1) m' ys H3) := by
  have flen : ∀ (l : List V) (i : Nat), (∀ j x, l[j]? = some x → j < i → (F x).length ≤ 1) → ((l.take i).flatMap F).length ≤ min i l.length := by
    intro l
    induction l with
    | nil => intro i _; simp
    | cons y r ih =>
      intro i hF
      cases i with
      | zero => simp
      | succ i =>
        have a1 := hF 0 y rfl (Nat.succ_pos _)
        have a2 := ih i fun j x e hj => hF (j + 1) x (by simpa using e) (by omega)
        simp only [List.take_succ_cons, List.flatMap_cons, List.length_append, List.length_cons]
        omega
  refine ⟨fun i m ys H => m = xs.length - i ∧ i ≤ xs.length ∧ ys = (xs.take i).flatMap F ∧ (∀ j x, xs[j]? = some x → j < i → (F x).length ≤ 1) ∧ Pv H, ⟨xs.length, rfl, Nat.zero_le _, by simp, fun j x _ h => absurd h (Nat.not_lt_zero _), h0⟩, ?_⟩
  rintro i m ys H1 ⟨rfl, hi, rfl, hF, p⟩
  obtain ⟨g1, g2, g3⟩ := hw i H1 p
  by_cases hlt : i < xs.length
  · have hL := flen xs i hF
    refine .inr ⟨g1 hlt, by omega, fun x H' y => ?_⟩
    obtain ⟨e, hx⟩ := g3 hlt x H' y
    subst e
    have tk : ∀ z, F x = z → z.length ≤ 1 → (xs.take i).flatMap F ++ z = (xs.take (i + 1)).flatMap F ∧ ∀ j x', xs[j]? = some x' → j < i + 1 → (F x').length ≤ 1 := fun z ez hz => by
      constructor
      · rw [List.take_add_one, hx, List.flatMap_append]
        simp [ez]
      · intro j x' e hj
        by_cases hji : j = i
        · subst hji
          rw [hx] at e; cases e
          rw [ez]; exact hz
        · exact hF j x' e (by omega)
    refine ⟨KeepSt.set hsrc, hs i x H' _ _ hx p (fun y' H4 h4 p4 => ?_) (fun H3 h3 p3 => ?_)⟩
    · obtain ⟨t1, t2⟩ := tk [y'] h4 (Nat.le_refl _)
      exact ⟨xs.length - (i + 1), by omega, rfl, hlt, t1, t2, p4⟩
    · obtain ⟨t1, t2⟩ := tk [] h3 (Nat.zero_le _)
      exact ⟨xs.length - (i + 1), by omega, rfl, hlt, by rw [← t1, List.append_nil], t2, p3⟩
  · have e : i = xs.length := by omega
    subst e
    refine .inl ⟨g2 (Nat.le_refl _), fun l hn => ?_⟩
    have := hd H1 l p hn
    rw [List.take_length]
    exact this
end L2

namespace L2
open PySem PySem.Spec PyProof.Rows

noncomputable abbrev sg (x : Str) : List Nat := x.cps.toList
noncomputable def mkS (l : List Nat) : Str := ⟨l.toArray⟩
theorem sg_mk (l : List Nat) : sg (mkS l) = l := by simp [mkS]
theorem mk_sg (x : Str) : mkS (sg x) = x := by
  cases x
  simp [mkS]
theorem sg_len (x : Str) : (sg x).length = x.length := by simp [Str.length]
theorem mk_len (l : List Nat) : (mkS l).length = l.length := by simp [mkS, Str.length]
theorem sg_inj {x y : Str} (h : sg x = sg y) : x = y := by rw [← mk_sg x, ← mk_sg y, h]
theorem sg_app (x y : Str) : sg (x ++ y) = sg x ++ sg y := PySem.W.KT.app_list x y
theorem mk_app (a b : List Nat) : mkS a ++ mkS b = mkS (a ++ b) := sg_inj (by rw [sg_app, sg_mk, sg_mk, sg_mk])
theorem mk_one (c : Nat) : (⟨#[c]⟩ : Str) = mkS [c] := rfl
theorem mk_inj {a b : List Nat} (h : mkS a = mkS b) : a = b := by rw [← sg_mk a, ← sg_mk b, h]
noncomputable def cutL {α : Type} (xs : List α) (lo hi : Option Int) : List α := (xs.drop (HT.sIx xs.length 0 lo)).take (HT.sIx xs.length xs.length hi - HT.sIx xs.length 0 lo)
theorem pickN (l : List Nat) (a : Nat) : ∀ k : Nat, ((List.range k).map (a + ·)).filterMap (l.toArray[·]?) = (l.drop a).take k
  | 0 => by simp
  | k + 1 => by
    rw [List.range_succ, List.map_append, List.filterMap_append, pickN l a k, List.take_add_one, List.getElem?_drop]
    cases h : l[a + k]? with
    | none => simp [h]
    | some v => simp [h]
theorem slice_idx (lo hi : Option Int) (n : Nat) : Builtin.Str.strSliceIndices lo hi 1 n = (List.range (HT.sIx n n hi - HT.sIx n 0 lo)).map (HT.sIx n 0 lo + ·) := by
  obtain ⟨h1, h2, h3⟩ := slice_bounds lo hi n
  have e : Builtin.Str.strSliceIndices lo hi 1 n = sliceRange (sliceBounds lo hi none n).1 (sliceBounds lo hi none n).2.1 1 := by
    cases lo <;> cases hi <;> rfl
  rw [e, h1, h2, sliceRange_one]
theorem slice_cut (x : Str) (lo hi : Option Int) : Txt.slice x lo hi = mkS (cutL (sg x) lo hi) := by
  have hl := sg_len x
  unfold Txt.slice
  rw [slice_idx]
  split
  · rename_i hc
    simp only [beq_self_eq_true, Bool.true_and, List.length_map, List.length_range, beq_iff_eq] at hc
    have b1 := HT.sIx_le x.length 0 (Nat.zero_le _) lo
    have b2 := HT.sIx_le x.length x.length (Nat.le_refl _) hi
    have a0 : HT.sIx x.length 0 lo = 0 := by omega
    have a1 : HT.sIx x.length x.length hi = x.length := by omega
    unfold cutL
    rw [hl, a0, a1, List.drop_zero, Nat.sub_zero, List.take_of_length_le (by rw [hl]; exact Nat.le_refl _), mk_sg]
  · unfold cutL mkS
    rw [hl]
    have := pickN (sg x) (HT.sIx x.length 0 lo) (HT.sIx x.length x.length hi - HT.sIx x.length 0 lo)
    rw [← this]
section
variable {X : Cx}
noncomputable def rSlS : V → Option Int → Option Int → Hp → VK → Prop := fun x lo hi H Q => ∃ z, x = .str z ∧ z.length ≤ sizeLine ∧ Q (.str (mkS (cutL (sg z) lo hi))) H
theorem sl_str : SlR X rSlS := by
  intro pins s σ H x v vl vu lo hi sl Q I rx hs pl pu h
  obtain ⟨z, rfl, hz, q⟩ := h
  obtain ⟨t, rfl⟩ := rx
  refine ⟨"str", _, F.slot_str_getitem.lookup, typeIs_str _ _ _, ?_⟩
  have fin : ∀ (lo hi : Option Int), Q (.str (mkS (cutL (sg z) lo hi))) H → (Txt.slice z lo hi).length ≤ sizeLine ∧ ∀ t' k, EP X pins σ Q (.str (Txt.slice z lo hi) t') { s with toks := k } := fun lo hi q =>
    ⟨Nat.le_trans (Txt.slice_le z _ _) hz, fun t' k => ⟨.str (Txt.slice z lo hi), H, I.tok k, ⟨t', rfl⟩, by rw [slice_cut]; exact q⟩⟩
  cases pl with
  | none =>
    cases pu with
    | none => exact wpAny_getItem_str_slice (l := none) (u := none) (st := none) hs rfl (post_val_or_str (fin none none q))
    | int j uj => exact wpAny_getItem_str_slice (l := none) (u := some (j, uj)) (st := none) hs rfl (post_val_or_str (fin none (some j) q))
  | int i ui =>
    cases pu with
    | none => exact wpAny_getItem_str_slice (l := some (i, ui)) (u := none) (st := none) hs rfl (post_val_or_str (fin (some i) none q))
    | int j uj => exact wpAny_getItem_str_slice (l := some (i, ui)) (u := some (j, uj)) (st := none) hs rfl (post_val_or_str (fin (some i) (some j) q))

theorem op_mul_str : OpR X (binaryOp .Mult) (fun x y H Q => ∃ a n, x = .str a ∧ y = .int n ∧ MulOk a n ∧ Q (.str (Txt.mul a n)) H) := by
  intro pins s σ H x y v u Q I rx ry h
  obtain ⟨a, n, rfl, rfl, hm, q⟩ := h
  obtain ⟨t, rfl⟩ := rx
  obtain ⟨t', rfl⟩ := ry
  exact SB.mul hm fun t'' k => ⟨.str (Txt.mul a n), H, I.tok k, ⟨t'', rfl⟩, q⟩

noncomputable def hasS (fig : List Nat) (c : Nat) : Bool := decide (c ∈ fig)
theorem for_walk {J : It} {xs : List V} {g : TG} {tb : TS} {D : Ends} {σ : St} {H : Hp} (Pv : Nat → St → Hp → Prop) (h0 : Pv 0 σ H) (hw : Wk J xs fun H => ∃ i σ, Pv i σ H)
    (hs : ∀ i x σ H, xs[i]? = some x → Pv i σ H → g x σ H fun σ2 H2 => tb { D with nx := Pv (i + 1), ct := Pv (i + 1), bk := D.nx } σ2 H2) (hd : ∀ σ H, Pv xs.length σ H → D.nx σ H) :
    ∃ W : Nat → Nat → St → Hp → Prop, (∃ m, W 0 m σ H) ∧ ∀ i m σ H, W i m σ H →
      (J.stop i H ∧ D.nx σ H) ∨ (J.go i H ∧ ∃ N : St → Hp → Prop, (∀ σ' H', N σ' H' → ∃ m', m' < m ∧ W (i + 1) m' σ' H') ∧ ∀ x H', J.yld i H x H' → g x σ H' fun σ2 H2 => tb { D with nx := N, ct := N, bk := D.nx } σ2 H2) := by
  refine ⟨fun i m σ H => m = xs.length - i ∧ i ≤ xs.length ∧ Pv i σ H, ⟨xs.length, rfl, Nat.zero_le _, h0⟩, ?_⟩
  rintro i m σ H ⟨rfl, hi, p⟩
  obtain ⟨g1, g2, g3⟩ := hw i H ⟨i, σ, p⟩
  by_cases hlt : i < xs.length
  · refine .inr ⟨g1 hlt, Pv (i + 1), fun σ' H' p' => ⟨xs.length - (i + 1), by omega, rfl, hlt, p'⟩, fun x H' y => ?_⟩
    obtain ⟨e, hx⟩ := g3 hlt x H' y
    subst e
    exact hs i x σ _ hx p
  · have e : i = xs.length := by omega
    subst e
    exact .inl ⟨g2 (Nat.le_refl _), hd σ H p⟩

noncomputable def kitB (T T' : String) : Option Bool := if (Value.type T == Value.type T') = true then some true else if PySem.W.kitMeta T' = true then (fastBuiltinMro T).map (·.contains (Value.type T')) else none
theorem kitOne_b (K : PySem.W.Frag) (T T' : String) : PySem.W.kitOne K (.type T) (.type T') = kitB T T' := rfl
theorem call_isiB : CallR X (.builtin "isinstance") (fun xs H Q => ∃ x T T' b, xs = [x, .ty T'] ∧ TyOf X.K H x (.type T) ∧ kitB T T' = some b ∧ Q (.bl b) H) := by
  intro pins s σ H xs us Q I r h
  obtain ⟨x, T, T', b, rfl, ty, e, q⟩ := h
  obtain ⟨u1, u2, rfl, r1, r2⟩ := vals2 r
  cases r2
  exact isinst_ok I r1 ty (by rw [kitOne_b]; exact e) fun tk => ⟨.bl b, H, I.tok tk, rfl, q⟩

noncomputable def eqL : List V → List V → Bool
  | [], [] => true
  | x :: xs, y :: ys => eqV x y && eqL xs ys
  | _, _ => false
theorem eqL_len : ∀ {xs ys : List V}, xs.length ≠ ys.length → eqL xs ys = false
  | [], [], h => absurd rfl h
  | [], _ :: _, _ => rfl
  | _ :: _, [], _ => rfl
  | x :: xs, y :: ys, h => by
    unfold eqL
    rw [eqL_len (by simpa using h), Bool.and_false]
theorem eqL_range : ∀ {xs ys : List V}, xs.length = ys.length → eqL xs ys = (List.range xs.length).all fun j => eqV (xs.getD j .non) (ys.getD j .non)
  | [], [], _ => rfl
  | [], _ :: _, h => by cases h
  | _ :: _, [], h => by cases h
  | x :: xs, y :: ys, h => by
    unfold eqL
    rw [eqL_range (by simpa using h), List.length_cons, List.range_succ_eq_map, List.all_cons, List.all_map]
    rfl
theorem eqV_self : ∀ x : V, flatV x = true → eqV x x = true := fun x h => by
  cases x <;> simp [eqV, flatV] at h ⊢
theorem eqL_self : ∀ xs : List V, xs.all flatV = true → eqL xs xs = true
  | [], _ => rfl
  | x :: xs, h => by
    rw [List.all_cons, Bool.and_eq_true] at h
    unfold eqL
    rw [eqV_self x h.1, eqL_self xs h.2]
    rfl
theorem eqs_of {A : Around} {s : Shared} {xs ys : List V} {us ws : List Value} (r1 : Vals xs us) (r2 : Vals ys ws) (f1 : xs.all flatV = true) (f2 : ys.all flatV = true) (j : Nat) (h1 : j < us.toArray.size) (h2 : j < ws.toArray.size) :
    SeqAt.EqAt A s us.toArray[j] ws.toArray[j] (eqV (xs.getD j .non) (ys.getD j .non)) := by
  have l1 := r1.length
  have l2 := r2.length
  rw [List.size_toArray] at h1 h2
  have g1 : xs[j]? = some xs[j] := by simp [l1, h1]
  have g2 : ys[j]? = some ys[j] := by simp [l2, h2]
  obtain ⟨u, e1, q1⟩ := r1.get g1
  obtain ⟨w, e2, q2⟩ := r2.get g2
  have e1' : us.toArray[j] = u := by
    have := List.getElem?_eq_some_iff.mp e1
    obtain ⟨_, z⟩ := this
    simpa using z
  have e2' : ws.toArray[j] = w := by
    have := List.getElem?_eq_some_iff.mp e2
    obtain ⟨_, z⟩ := this
    simpa using z
  rw [e1', e2', show xs.getD j .non = xs[j] by simp [List.getD, g1], show ys.getD j .non = ys[j] by simp [List.getD, g2]]
  exact eqAt_V q1 q2 (List.all_eq_true.mp f1 _ (List.getElem_mem _)) (List.all_eq_true.mp f2 _ (List.getElem_mem _))
noncomputable def rEqL (K : PySem.W.Frag) (neg : Bool) : R2 := fun x y H Q => ∃ a b xs ys, x = .ref a ∧ y = .ref b ∧ SqL K H a xs ∧ SqL K H b ys ∧ xs.all flatV = true ∧ ys.all flatV = true ∧ Q (.bl (if neg then !eqL xs ys else eqL xs ys)) H
theorem op_eqL (hu : X.A.units < cLine) : OpR X (compareOp .Eq) (rEqL X.K false) := by
  intro pins s σ H x y v u Q I rx ry h
  obtain ⟨a, b, xs, ys, rfl, rfl, ha, hb, f1, f2, q⟩ := h
  cases rx
  cases ry
  obtain ⟨us, r1, p1, _⟩ := I.list ha
  obtain ⟨ws, r2, p2, _⟩ := I.list hb
  have l1 := r1.length
  have l2 := r2.length
  by_cases hl : xs.length = ys.length
  · have hsz : us.toArray.size = ws.toArray.size := by simp only [List.size_toArray]; omega
    refine SeqAt.eq_listAt p1.isList p2.isList hsz hu (fun j h1 h2 => eqs_of r1 r2 f1 f2 j h1 h2) ⟨.bl _, H, I, rfl, ?_⟩
    rw [List.size_toArray, ← l1, ← eqL_range hl]
    exact q
  · have hsz : (us.toArray.size != ws.toArray.size) = true := by simp only [List.size_toArray, bne_iff_ne]; omega
    refine SeqAt.eq_list_lengthsAt p1.isList p2.isList hsz hu ⟨.bl _, H, I, rfl, ?_⟩
    have e := eqL_len hl
    simp only [Bool.false_eq_true, if_false, e] at q
    exact q
theorem op_neL (hu : X.A.units < cLine) : OpR X (compareOp .NotEq) (rEqL X.K true) := by
  intro pins s σ H x y v u Q I rx ry h
  obtain ⟨a, b, xs, ys, rfl, rfl, ha, hb, f1, f2, q⟩ := h
  cases rx
  cases ry
  obtain ⟨us, r1, p1, _⟩ := I.list ha
  obtain ⟨ws, r2, p2, _⟩ := I.list hb
  have l1 := r1.length
  have l2 := r2.length
  by_cases hl : xs.length = ys.length
  · have hsz : us.toArray.size = ws.toArray.size := by simp only [List.size_toArray]; omega
    refine SeqAt.RcNeAt.lists p1.isList p2.isList hsz hu (fun j h1 h2 => eqs_of r1 r2 f1 f2 j h1 h2) _ _ _ _ ⟨.bl _, H, I, rfl, ?_⟩
    rw [List.size_toArray, ← l1, ← eqL_range hl]
    exact q
  · have hsz : (us.toArray.size != ws.toArray.size) = true := by simp only [List.size_toArray, bne_iff_ne]; omega
    refine SeqAt.RcNeAt.lists_lengths p1.isList p2.isList hsz hu _ _ _ _ ⟨.bl _, H, I, rfl, ?_⟩
    have e := eqL_len hl
    simp only [if_true, e] at q
    exact q

theorem call_all (hh : X.calm = true) : CallR X (.builtin "all") (fun xs H Q => ∃ (p : Addr) (bs : List Bool), xs = [.ref p] ∧ SqL X.K H p (bs.map V.bl) ∧ Q (.bl (bs.all id)) H) := by
  intro pins s σ H xs us Q I r h
  obtain ⟨p, bs, rfl, hq, q⟩ := h
  obtain ⟨u, rfl, rp⟩ := vals1 r
  cases rp
  obtain ⟨its, rv, pl, hz⟩ := I.list hq
  have hlen := rv.length
  rw [List.length_map] at hlen
  have hA : X.A.in1.handled = none := I.ok.hd hh
  obtain ⟨ob, ho, hoc, hn⟩ := id pl.isList
  have hne : p ≠ s.heap.objs.size := Nat.ne_of_lt (Heap.lt_size ho)
  refine call_all_walk (wpAny_pyIter_list pl.isList ?_)
  refine ⟨s.heap.objs.size, _, _, _, _, _, fun i => bs.getD i true, rfl, Walks.list hA s.heap.objs.size p hne its.toArray, ⟨⟨_, Heap.get?_push_size _ rfl, rfl, rfl⟩, ⟨ob, Heap.get?_push_of_some _ ho, hoc, hn⟩⟩, fun i v s' Q' E' hP hQ => ?_, fun h' tk kk => ?_⟩
  · have hP' : its[i]? = some v := by simpa using hP
    have hi : i < bs.length := by
      have := (List.getElem?_eq_some_iff.mp hP').1
      omega
    have g : (bs.map V.bl)[i]? = some (V.bl bs[i]) := by simp [hi]
    obtain ⟨u, e1, q1⟩ := rv.get g
    rw [hP'] at e1
    cases e1
    cases q1
    have e : bs.getD i true = bs[i] := by simp [List.getD, hi]
    dsimp only at hQ
    rw [e] at hQ
    exact wpAny_truthy_bool hQ
  · have I1 : Inv X pins σ H { s with heap := h', toks := tk } := I.kept fun b o e => kk b o (by
      simp only [List.mem_singleton]
      exact Nat.ne_of_lt (Heap.lt_size e)) (Heap.get?_push_of_some _ e)
    refine ⟨.bl (bs.all id), H, I1, ?_, q⟩
    have e : (List.range its.toArray.size).all (fun i => bs.getD i true) = bs.all id := by
      rw [List.size_toArray, ← hlen]
      clear hlen rv pl hz ho hn I1 q hq I
      induction bs with
      | nil => rfl
      | cons b bs ih =>
        rw [List.length_cons, List.range_succ_eq_map, List.all_cons, List.all_map, List.all_cons]
        show (b && _) = (b && _)
        rw [← ih]
        rfl
    rw [e]
    rfl
end
end L2

namespace L2
open PySem PySem.Spec PyProof.Rows
section
variable {X : Cx}
noncomputable def rAddA : R2 := fun x y H Q => rI0 (fun i j => .int (i + j)) x y H Q ∨ (∃ i j, x = .str i ∧ y = .str j ∧ i.length + j.length ≤ sizeLine ∧ Q (.str (i ++ j)) H) ∨ rCat x y H Q
theorem o_add : OpR X (binaryOp .Add) rAddA := op_add.or (op_add_str.or op_cat)
noncomputable def rMulA : R2 := fun x y H Q => rI CMul (fun i j => .int (i * j)) x y H Q ∨ (∃ a n, x = .str a ∧ y = .int n ∧ MulOk a n ∧ Q (.str (Txt.mul a n)) H) ∨ rRep x y H Q
theorem o_mul : OpR X (binaryOp .Mult) rMulA := op_mul.or (op_mul_str.or op_rep)
noncomputable def rEqA (K : PySem.W.Frag) : R2 := fun x y H Q => rEq x y H Q ∨ rEqL K false x y H Q
theorem o_eq {K : PySem.W.Frag} (hu : X.A.units < cLine) (hK : X.K = K := by rfl) : OpR X (compareOp .Eq) (rEqA K) := by subst hK; exact op_eq.or (op_eqL hu)
noncomputable def rNeA (K : PySem.W.Frag) : R2 := fun x y H Q => rNe x y H Q ∨ rEqL K true x y H Q
theorem o_ne {K : PySem.W.Frag} (hu : X.A.units < cLine) (hK : X.K = K := by rfl) : OpR X (compareOp .NotEq) (rNeA K) := by subst hK; exact op_ne.or (op_neL hu)
noncomputable def rInA (K : PySem.W.Frag) : R2 := fun x y H Q => (∃ c l, x = .str (mkS [c]) ∧ y = .str (mkS l) ∧ Q (.bl (hasS l c)) H) ∨ rIn K false x y H Q
noncomputable def rNotInA (K : PySem.W.Frag) : R2 := fun x y H Q => (∃ c l, x = .str (mkS [c]) ∧ y = .str (mkS l) ∧ Q (.bl (!hasS l c)) H) ∨ rIn K true x y H Q
noncomputable def rIsA : R2 := fun x y H Q => (y = .non ∧ Q (.bl (decide (x = .non))) H) ∨ ∃ a b, x = .bl a ∧ y = .bl b ∧ Q (.bl (a == b)) H
noncomputable def rIsNotA : R2 := fun x y H Q => (y = .non ∧ Q (.bl (!decide (x = .non))) H) ∨ ∃ a b, x = .bl a ∧ y = .bl b ∧ Q (.bl (a != b)) H
noncomputable def rSlA (K : PySem.W.Frag) : V → Option Int → Option Int → Hp → VK → Prop := fun x lo hi H Q => rSlL K x lo hi H Q ∨ rSlS x lo hi H Q
theorem o_sl {K : PySem.W.Frag} (hK : X.K = K := by rfl) : SlR X (rSlA K) := by subst hK; exact sl_list.or sl_str
theorem o_ix {K : PySem.W.Frag} (hK : X.K = K := by rfl) : IxR X (rIx K) := by subst hK; exact ix_seq
noncomputable def rLenA (K : PySem.W.Frag) : List V → Hp → VK → Prop := fun xs H Q => (∃ p ys, xs = [.ref p] ∧ (SqL K H p ys ∨ SqT K H p ys) ∧ Q (.int ys.length) H) ∨ ∃ z, xs = [.str z] ∧ z.length ≤ sizeLine ∧ Q (.int z.length) H
theorem o_len {K : PySem.W.Frag} (hK : X.K = K := by rfl) : CallR X (.builtin "len") (rLenA K) := by subst hK; exact call_len_seq.or call_len_str
noncomputable def rIsi (K : PySem.W.Frag) : List V → Hp → VK → Prop := fun xs H Q => ∃ x T T' b, xs = [x, .ty T'] ∧ TyOf K H x (.type T) ∧ kitB T T' = some b ∧ Q (.bl b) H
theorem o_isinstance {K : PySem.W.Frag} (hK : X.K = K := by rfl) : CallR X (.builtin "isinstance") (rIsi K) := by subst hK; exact call_isiB
noncomputable def rAll (K : PySem.W.Frag) : List V → Hp → VK → Prop := fun xs H Q => ∃ (p : Addr) (bs : List Bool), xs = [.ref p] ∧ SqL K H p (bs.map V.bl) ∧ Q (.bl (bs.all id)) H
theorem o_all {K : PySem.W.Frag} (hh : X.calm = true := by rfl) (hK : X.K = K := by rfl) : CallR X (.builtin "all") (rAll K) := by subst hK; exact call_all hh
noncomputable def rAbs : List V → Hp → VK → Prop := fun xs H Q => ∃ i, xs = [.int i] ∧ Q (.int (if i < 0 then -i else i)) H
noncomputable def rIntT : List V → Hp → VK → Prop := fun xs H Q => (∃ i, xs = [.int i] ∧ Q (.int i) H) ∨ ∃ k, xs = [.bl k] ∧ Q (.int (if k then 1 else 0)) H
theorem call_int : CallR X (.type "int") rIntT := call_int1
noncomputable def rFind : V → List V → Hp → VK → Prop := fun x xs H Q => ∃ a b, x = .str a ∧ xs = [.str b] ∧ Q (.int (Txt.find a b)) H
noncomputable def rIndex : V → List V → Hp → VK → Prop := fun x xs H Q => ∃ a b, x = .str a ∧ xs = [.str b] ∧ 0 ≤ Txt.find a b ∧ Q (.int (Txt.find a b)) H
theorem o_append : MtR X "list.append" rAppend := mt_append
theorem pe_bmK {K : PySem.W.Frag} {o e : Expr} {es : List Expr} {to : TE} {t : TA} {name : Str} {apos cpos : Pos} {T id : String} {r : V → List V → Hp → VK → Prop} (pa : PlainAttrs T) (slot : Slot T name id) (hty : typeOf (.builtin id) = pure (.type "method_descriptor")) (hm : MtR X id r) (ho : PE X o to) (ha : PA X (e :: es) t) (hK : X.K = K := by rfl)
    (hbase : attributeBase o name X.env (eval o X.env) = eval o X.env := by rfl)
    (hfew : ((backTo cpos (starEach (e :: es) X.env)).all (fun x => !x.1) && (backToKw cpos (keywordEach [] X.env)).all (fun x => x.1.isSome)
      && decide ((e :: es).length + ([] : List Keyword).length + (if ([] : List Keyword).isEmpty then 0 else 1) < 30)) = true := by rfl)
    (hline : (apos.endLine == cpos.line) = true := by rfl) (hs : starEach (e :: es) X.env = (false, eval e X.env) :: starEach es X.env := by rfl) (hplain : (backTo cpos (starEach es X.env)).any (·.1) = false := by rfl) :
    PE X (.Call (.Attribute o name apos) (e :: es) [] cpos) (tBM K T r to t) := by
  subst hK
  exact pe_bm pa slot hty hm ho ha hbase hfew hline hs hplain
theorem pi_listK {K : PySem.W.Frag} {tg l : Expr} {tl : TE} (hl : PE X l tl) (hK : X.K = K := by rfl) : PI X tg l (iList K tl) := by subst hK; exact pi_list hl
theorem pe_gl {x : Str} {v : V} {pos : Pos} (hg : Gl X x) (h : ∃ u, X.mg x = some u ∧ RelV v u) (hd : (x == ("__debug__" : Str)) = false := by decide) : PE X (.Name x pos) (tC v) := by
  obtain ⟨u, hm, r⟩ := h
  exact pe_glob hg hm r hd
end

structure Fn (K : PySem.W.Frag) (x qual : Str) (st : Stmt) (f : Addr) (fd : FuncData) : Prop where
  ex : ∃ (oc : Value) (od : Option Addr) (dV kV doc pm : Value) (an : Option Addr) (cdv ct : Value) (osl : Array (Option Value)),
    fd = PySem.W.fnOf x qual (defArgs st) (defBody st) (defScope st) dV kV doc pm an cdv ct ∧ K.lookup f = some ⟨oc, od, .func fd, osl⟩ ∧ PySem.W.codeIn K cdv qual = true
  kp : PySem.W.keepIn K (.ref f) = true
section
variable {P : Program} {w : World} {K : PySem.W.Frag} {mg : Str → Option Value} {base : Heap}
theorem Fn.ok {x qual : Str} {st : Stmt} {f : Addr} {fd : FuncData} {N ps : List Str} {k : Nat} {sp : Sp} (F : Fn K x qual st f fd) (S : FnScope N ps (defScope st)) (len : ∀ vs H Q E, sp vs H Q E → vs.length = ps.length)
    (hbody : ∀ (cdv : Value) (A : Around) (outer : List Env) (s : Shared) (H : Hp) (vs : List V) (Q : VK) (E : XK), Room k (A.deeper (envOfC qual (defScope st) s.heap.objs.size f cdv)) → sp vs H Q E →
      ∃ t, PSs (cxOf CX0 P w K mg base N qual (defScope st) f cdv A outer s H E).nox (defBody st) t ∧ t { nx := fun _ H' => Q .non H', rt := Q } (start N vs) H) : FnOk P w K mg base CX0 (k + 1) f fd ps sp := by
  obtain ⟨oc, od, dV, kV, doc, pm, an, cdv, ct, osl, rfl, lk, hcd⟩ := F.ex
  refine fn_of lk hcd S len fun A outer s H vs Q E hr hsp => ?_
  obtain ⟨t, h, q⟩ := hbody cdv A outer s H vs Q E hr hsp
  exact ⟨t, h.nox, q⟩
theorem fn_mk {x qual : Str} {st : Stmt} {f : Addr} {oc : Value} {od an : Option Addr} {osl : Array (Option Value)} {dV kV doc pm cdv ct : Value} (l : K.lookup f = some ⟨oc, od, .func (PySem.W.fnOf x qual (defArgs st) (defBody st) (defScope st) dV kV doc pm an cdv ct), osl⟩)
    (c : PySem.W.codeIn K cdv qual = true) (k : PySem.W.keepIn K (.ref f) = true) : Fn K x qual st f (PySem.W.fnOf x qual (defArgs st) (defBody st) (defScope st) dV kV doc pm an cdv ct) := ⟨⟨oc, od, dV, kV, doc, pm, an, cdv, ct, osl, rfl, l, c⟩, k⟩
end
structure DefAt (K : PySem.W.Frag) (mg : Str → Option Value) (x : Str) (st : Stmt) (ps : List Str) where
  f : Addr
  fd : FuncData
  F : Fn K x x st f fd
  b : Binds K fd ps []
  m : mg x = some (.ref f)
section
variable {X : Cx} {k : Nat} {ps : List Str} {sp : Sp} {x : Str} {st : Stmt} {p pos : Pos} {e : Expr} {es : List Expr} {t : TA}
theorem pc (D : DefAt X.K X.mg x st ps) (G : FnOk X.prog X.w X.K X.mg X.base CX0 k D.f D.fd ps sp) (hr : Room k X.A) (ha : PA X (e :: es) t) (hg : Gl X x := by rfl) (hdb : (x == ("__debug__" : Str)) = false := by decide)
    (he : starEach (e :: es) X.env = (false, eval e X.env) :: starEach es X.env := by rfl) (hpl : (backTo pos (starEach es X.env)).any (·.1) = false := by rfl) : PE X (.Call (.Name x p) (e :: es) [] pos) (tCall sp [] E0 t) :=
  pe_call G hr hg D.m D.F.kp D.b .nil pass0 ha hdb he hpl
end
noncomputable def Knw (K : PySem.W.Frag) (H : Hp) (x : V) : Prop := ∃ T, TyOf K H x (.type T)
theorem Same.upd {H H' : Hp} {l : Addr} {o : HO} (e : Same H H') (h : H' l = none) : Same H (upd H' l o) := fun b u q => by
  rw [upd_ne (ne_of_none (e b u q) h)]
  exact e b u q
theorem Knw.same {K : PySem.W.Frag} {H H' : Hp} {x : V} (e : Same H H') (k : Knw K H x) : Knw K H' x := by
  obtain ⟨T, k⟩ := k
  cases k with
  | non => exact ⟨_, .non⟩
  | bl b => exact ⟨_, .bl b⟩
  | int i => exact ⟨_, .int i⟩
  | str z => exact ⟨_, .str z⟩
  | flt z => exact ⟨_, .flt z⟩
  | lst h => exact ⟨_, .lst (e _ _ h)⟩
  | frz h => exact ⟨_, .frz (e _ _ h)⟩
  | tup h => exact ⟨_, .tup (e _ _ h)⟩
  | dK h => exact ⟨_, .dK (e _ _ h)⟩
  | dT h => exact ⟨_, .dT (e _ _ h)⟩
end L2

namespace L2
open PySem PySem.Spec PyProof.Rows
theorem mk_iff (a b : List Nat) : mkS a = mkS b ↔ a = b := ⟨mk_inj, fun h => by rw [h]⟩
theorem tyV_str {K : PySem.W.Frag} {z : Str} {H : Hp} : tyV K "str" (.str z) H ↔ True := by simp [tyV]
theorem tyV_lst {K : PySem.W.Frag} {p : Addr} {xs : List V} {H : Hp} (h : SqL K H p xs) : tyV K "list" (.ref p) H := Or.inl ⟨rfl, xs, h⟩
theorem fm_one {α β : Type} (f : α → β) : ∀ l : List α, l.flatMap (fun c => [f c]) = l.map f
  | [] => rfl
  | a :: l => by rw [List.flatMap_cons, fm_one f l]; rfl
section
variable {tb : TS} {D : Ends} {σ : St} {H : Hp} {k : Nat}
theorem tfor_list {K : PySem.W.Frag} {a : Addr} {xs : List V} {te : TE} (hte : ∀ R : VK, R (.ref a) H → te σ H R) (hq : SqL K H a xs) (Pv : Nat → St → Hp → Prop) (h0 : Pv 0 σ H) (hl : ∀ i σ H, Pv i σ H → SqL K H a xs)
    (hs : ∀ (i : Nat) (x : V) (σ : St) (H : Hp), xs[i]? = some x → Pv i σ H → tb { D with nx := Pv (i + 1), ct := Pv (i + 1), bk := D.nx } (σ.set k (some x)) H) (hd : ∀ σ H, Pv xs.length σ H → D.nx σ H) :
    tFor (iList K te) (gName k) tb D σ H :=
  hte _ ⟨a, rfl, ⟨xs, hq⟩, for_walk (xs := xs) Pv h0 (wk_list fun H ⟨i, σ, p⟩ => hl i σ H p) (fun i x σ H hx p => hs i x σ H hx p) hd⟩
theorem tfor_rng {te : TE} (j : Int) (h1 : 0 ≤ j) (h2 : j < 1073741824) (hte : ∀ R : VK, R (.int j) H → te σ H R) (Pv : Nat → St → Hp → Prop) (h0 : Pv 0 σ H)
    (hs : ∀ (i : Nat) (σ : St) (H : Hp), (i : Int) < j → Pv i σ H → tb { D with nx := Pv (i + 1), ct := Pv (i + 1), bk := D.nx } (σ.set k (some (.int (i : Int)))) H) (hd : ∀ σ H, Pv j.toNat σ H → D.nx σ H) :
    tFor (iRng1 (tCons te tNil)) (gName k) tb D σ H := by
  refine hte _ ⟨j, rfl, by omega, by omega, for_range (n := j.toNat) Pv h0 (fun i σ H hi p => ?_) hd⟩
  rw [Int.zero_add]
  exact hs i σ H (by omega) p
end
section
variable {tc : TT} {te : TE} {src : List (Option Nat)} {σ : St} {H : Hp} {Q : VK} {k : Nat}
theorem tcomp_list {K : PySem.W.Frag} {a : Addr} {xs : List V} {tl : TE} (H0 : Hp) (hte : ∀ R : VK, R (.ref a) H0 → tl σ H R) (hq : SqL K H0 a xs) (F : V → List V) (Pv : Hp → Prop) (hsrc : src[k]? = some none) (h0 : Pv H0) (hl : ∀ H, Pv H → SqL K H a xs) (hz : xs.length ≤ sizeLine)
    (hs : ∀ (i : Nat) (x : V) (H' : Hp) (Cy : VK) (Cn : Hp → Prop), xs[i]? = some x → Pv H' → (∀ y H4, F x = [y] → Pv H4 → Cy y H4) → (∀ H3, F x = [] → Pv H3 → Cn H3) →
      tc ((stComp src σ).set k (some x)) H' fun b H3 => if b = true then te ((stComp src σ).set k (some x)) H3 Cy else Cn H3)
    (hd : ∀ H' l, Pv H' → H' l = none → Q (.ref l) (upd H' l (.lst (xs.flatMap F)))) : tComp src (iList K tl) (gName k) tc te σ H Q :=
  hte _ ⟨a, rfl, ⟨xs, hq⟩, comp_walk F Pv hsrc h0 (wk_list hl) hz hs hd⟩
end
end L2

namespace L2
open PySem PySem.Spec PyProof.Rows
section
variable {K : PySem.W.Frag} {H : Hp} {Q : VK} {a b : Int} {x y : Str} {p q : Bool} {l : List Nat} {c : Nat} {v : V}
theorem add_ii : rAddA (.int a) (.int b) H Q ↔ Q (.int (a + b)) H := by simp [rAddA, rI0, rCat]
theorem add_ss : rAddA (.str x) (.str y) H Q ↔ x.length + y.length ≤ sizeLine ∧ Q (.str (x ++ y)) H := by simp [rAddA, rI0, rCat]
theorem mul_ii : rMulA (.int a) (.int b) H Q ↔ CMul a b ∧ Q (.int (a * b)) H := by simp [rMulA, rI, rRep]
theorem mul_si : rMulA (.str x) (.int b) H Q ↔ MulOk x b ∧ Q (.str (Txt.mul x b)) H := by simp [rMulA, rI, rRep]
theorem ix_si : rIx K (.str x) (.int a) H Q ↔ x.length ≤ sizeLine ∧ ∃ c, atI x.cps.toList a = some c ∧ Q (.str (mkS [c])) H := by
  simp [rIx, rIxL, rIxT, rIxS, mk_one]
theorem eq_ii : rEqA K (.int a) (.int b) H Q ↔ Q (.bl (decide (a = b))) H := by
  have s : scal (V.int a) (V.int b) = true := rfl
  simp [rEqA, rEq, rEqL, s]
theorem eq_ss : rEqA K (.str x) (.str y) H Q ↔ Q (.bl (decide (x = y))) H := by
  have s : scal (V.str x) (V.str y) = true := rfl
  simp [rEqA, rEq, rEqL, s]
theorem eq_bb : rEqA K (.bl p) (.bl q) H Q ↔ Q (.bl (decide (p = q))) H := by
  have s : scal (V.bl p) (V.bl q) = true := rfl
  simp [rEqA, rEq, rEqL, s]
theorem ne_ii : rNeA K (.int a) (.int b) H Q ↔ Q (.bl (!decide (a = b))) H := by
  have s : scal (V.int a) (V.int b) = true := rfl
  simp [rNeA, rNe, rEqL, s]
theorem ne_ss : rNeA K (.str x) (.str y) H Q ↔ Q (.bl (!decide (x = y))) H := by
  have s : scal (V.str x) (V.str y) = true := rfl
  simp [rNeA, rNe, rEqL, s]
theorem ne_ni : rNeA K .non (.int a) H Q ↔ Q (.bl true) H := by
  have s : scal (V.non) (V.int a) = true := rfl
  simp [rNeA, rNe, rEqL, s]
theorem ne_in : rNeA K (.int a) .non H Q ↔ Q (.bl true) H := by
  have s : scal (V.int a) (V.non) = true := rfl
  simp [rNeA, rNe, rEqL, s]
theorem in_s1 : rInA K (.str (mkS [c])) (.str (mkS l)) H Q ↔ Q (.bl (hasS l c)) H := by
  simp only [rInA, rIn, V.str.injEq, mk_iff, List.cons.injEq, and_true, reduceCtorEq, false_and, exists_false, or_false]
  exact ⟨fun ⟨_, _, e1, e2, z⟩ => by subst e1 e2; exact z, fun z => ⟨_, _, rfl, rfl, z⟩⟩
theorem notin_s1 : rNotInA K (.str (mkS [c])) (.str (mkS l)) H Q ↔ Q (.bl (!hasS l c)) H := by
  simp only [rNotInA, rIn, V.str.injEq, mk_iff, List.cons.injEq, and_true, reduceCtorEq, false_and, exists_false, or_false]
  exact ⟨fun ⟨_, _, e1, e2, z⟩ => by subst e1 e2; exact z, fun z => ⟨_, _, rfl, rfl, z⟩⟩
theorem is_xn : rIsA v .non H Q ↔ Q (.bl (decide (v = .non))) H := by simp [rIsA]
theorem is_bb : rIsA (.bl p) (.bl q) H Q ↔ Q (.bl (p == q)) H := by simp [rIsA]
theorem isnot_xn : rIsNotA v .non H Q ↔ Q (.bl (!decide (v = .non))) H := by simp [rIsNotA]
theorem isnot_bb : rIsNotA (.bl p) (.bl q) H Q ↔ Q (.bl (p != q)) H := by simp [rIsNotA]
theorem sl_s {lo hi : Option Int} : rSlA K (.str x) lo hi H Q ↔ x.length ≤ sizeLine ∧ Q (.str (mkS (cutL (sg x) lo hi))) H := by simp [rSlA, rSlL, rSlS]
theorem len_s : rLenA K [.str x] H Q ↔ x.length ≤ sizeLine ∧ Q (.int x.length) H := by simp [rLenA]
theorem find_ss : rFind (.str x) [.str y] H Q ↔ Q (.int (Txt.find x y)) H := by simp [rFind]
theorem index_ss : rIndex (.str x) [.str y] H Q ↔ 0 ≤ Txt.find x y ∧ Q (.int (Txt.find x y)) H := by simp [rIndex]
variable {r s t : Addr} {xs ys : List V}
theorem ixL (h : SqL K H r xs) (e : atI xs a = some v) (z : Q v H) : rIx K (.ref r) (.int a) H Q := .inl ⟨r, xs, a, v, rfl, rfl, h, e, z⟩
theorem eqLL (h1 : SqL K H r xs) (h2 : SqL K H s ys) (f1 : xs.all flatV = true) (f2 : ys.all flatV = true) (z : Q (.bl (eqL xs ys)) H) : rEqA K (.ref r) (.ref s) H Q := .inr ⟨r, s, xs, ys, rfl, rfl, h1, h2, f1, f2, z⟩
theorem neLL (h1 : SqL K H r xs) (h2 : SqL K H s ys) (f1 : xs.all flatV = true) (f2 : ys.all flatV = true) (z : Q (.bl (!eqL xs ys)) H) : rNeA K (.ref r) (.ref s) H Q := .inr ⟨r, s, xs, ys, rfl, rfl, h1, h2, f1, f2, z⟩
theorem lenL (h : SqL K H r xs) (z : Q (.int xs.length) H) : rLenA K [.ref r] H Q := .inl ⟨r, xs, rfl, .inl h, z⟩
theorem catL (h1 : H r = some (.lst xs)) (h2 : H s = some (.lst ys)) (hz : xs.length + ys.length ≤ sizeLine) (z : ∀ p, H p = none → Q (.ref p) (upd H p (.lst (xs ++ ys)))) : rAddA (.ref r) (.ref s) H Q := .inr (.inr ⟨r, s, xs, ys, rfl, rfl, h1, h2, hz, z⟩)
theorem slL {lo hi : Option Int} (h : SqL K H r xs) (z : ∀ p, H p = none → Q (.ref p) (upd H p (.lst (cutL xs lo hi)))) : rSlA K (.ref r) lo hi H Q := .inl ⟨r, xs, rfl, h, z⟩
theorem appL (h : H r = some (.lst xs)) (hz : xs.length < sizeLine) (z : Q .non (upd H r (.lst (xs ++ [v])))) : rAppend (.ref r) [v] H Q := ⟨r, xs, v, rfl, rfl, h, hz, z⟩
theorem allL {bs : List Bool} (h : SqL K H r (bs.map V.bl)) (z : Q (.bl (bs.all id)) H) : rAll K [.ref r] H Q := ⟨r, bs, rfl, h, z⟩
theorem isi_t {v : V} {T0 T' : String} (k : TyOf K H v (.type T0)) (q : Q (.bl true) H) (e : kitB T0 T' = some true := by decide +kernel) : rIsi K [v, .ty T'] H Q := ⟨v, T0, T', true, rfl, k, e, q⟩
theorem isi_f {v : V} {T0 T' : String} (k : TyOf K H v (.type T0)) (q : Q (.bl false) H) (e : kitB T0 T' = some false := by decide +kernel) : rIsi K [v, .ty T'] H Q := ⟨v, T0, T', false, rfl, k, e, q⟩
theorem atIn {α : Type} {xs : List α} {i : Int} {c : α} (h0 : 0 ≤ i) (h : xs[i.toNat]? = some c) : atI xs i = some c := by
  have := atI_nat (j := i.toNat) h
  rw [Int.toNat_of_nonneg h0] at this
  exact this
end
end L2

namespace L2
open PySem PySem.Spec PyProof.Rows
section
variable {tb : TS} {D : Ends} {σ : St} {H : Hp} {k : Nat}
end
end L2

namespace L2
open PySem PySem.Spec PyProof.Rows
end L2

namespace L2
open PySem PySem.Spec PyProof.Rows
noncomputable def plE : Expr → Bool
  | .Starred .. => false
  | _ => true
theorem star_cons {e : Expr} {es : List Expr} {env : Env} (h : plE e = true) : starEach (e :: es) env = (false, eval e env) :: starEach es env := by
  cases e <;> first
    | rfl
    | cases h
theorem star_any {pos : Pos} {env : Env} : ∀ {es : List Expr}, es.all plE = true → (backTo pos (starEach es env)).any (·.1) = false
  | [], _ => rfl
  | e :: es, h => by
    rw [List.all_cons, Bool.and_eq_true] at h
    rw [star_cons h.1]
    show (false || (backTo pos (starEach es env)).any (·.1)) = false
    rw [star_any h.2]
    rfl
theorem star_all {pos : Pos} {env : Env} : ∀ {es : List Expr}, es.all plE = true → (backTo pos (starEach es env)).all (fun x => !x.1) = true
  | [], _ => rfl
  | e :: es, h => by
    rw [List.all_cons, Bool.and_eq_true] at h
    rw [star_cons h.1]
    show (true && (backTo pos (starEach es env)).all (fun x => !x.1)) = true
    rw [star_all h.2]
    rfl
section
variable {X : Cx} {k : Nat} {ps : List Str} {sp : Sp} {x : Str} {st : Stmt} {p pos : Pos} {e : Expr} {es : List Expr} {t : TA} {te : TE} {id T : String} {r : List V → Hp → VK → Prop}
theorem pa1 (ha : PE X e te) (hr : PA X es t) (h : plE e = true := by rfl) : PA X (e :: es) (tCons te t) := pa_cons ha hr (star_cons h)
theorem pcB (hc : CallR X (.builtin id) r) (hg : Gl X x) (hm : X.mg x = none) (hv : bootBuiltins x = some (.builtin id)) (ha : PA X (e :: es) t) (h : plE e = true := by rfl) (h2 : es.all plE = true := by rfl) (hn : x ≠ "__name__" := by decide) (hdb : (x == ("__debug__" : Str)) = false := by decide) : PE X (.Call (.Name x p) (e :: es) [] pos) (tCB r t) :=
  pe_callB hc hg hm hv ha hn hdb (star_cons h) (star_any h2)
theorem pcT (hc : CallR X (.type T) r) (hg : Gl X x) (hm : X.mg x = none) (hv : bootBuiltins x = some (.type T)) (ha : PA X (e :: es) t) (h : plE e = true := by rfl) (h2 : es.all plE = true := by rfl) (hn : x ≠ "__name__" := by decide) (hdb : (x == ("__debug__" : Str)) = false := by decide) : PE X (.Call (.Name x p) (e :: es) [] pos) (tCB r t) :=
  pe_callTy hc hg hm hv ha hn hdb (star_cons h) (star_any h2)
theorem pc1 (D : DefAt X.K X.mg x st ps) (G : FnOk X.prog X.w X.K X.mg X.base CX0 k D.f D.fd ps sp) (hr : Room k X.A) (ha : PA X (e :: es) t) (h : plE e = true := by rfl) (h2 : es.all plE = true := by rfl) (hg : Gl X x := by rfl) (hdb : (x == ("__debug__" : Str)) = false := by decide) : PE X (.Call (.Name x p) (e :: es) [] pos) (tCall sp [] E0 t) :=
  pc D G hr ha hg hdb (star_cons h) (star_any h2)
theorem pm1 {K : PySem.W.Frag} {o : Expr} {to : TE} {name : Str} {apos cpos : Pos} {r : V → List V → Hp → VK → Prop} (pa : PlainAttrs T) (slot : Slot T name id) (hty : typeOf (.builtin id) = pure (.type "method_descriptor")) (hm : MtR X id r) (ho : PE X o to) (ha : PA X (e :: es) t) (h : plE e = true := by rfl) (h2 : es.all plE = true := by rfl) (h3 : es.length < 20 := by decide) (hK : X.K = K := by rfl)
    (hbase : attributeBase o name X.env (eval o X.env) = eval o X.env := by rfl) (hline : (apos.endLine == cpos.line) = true := by rfl) : PE X (.Call (.Attribute o name apos) (e :: es) [] cpos) (tBM K T r to t) :=
  pe_bmK pa slot hty hm ho ha hK hbase (by
    rw [star_all (by rw [List.all_cons, h, h2]; rfl)]
    have : decide ((e :: es).length + ([] : List Keyword).length + (if ([] : List Keyword).isEmpty then 0 else 1) < 30) = true := decide_eq_true (by
      show es.length + 1 + 0 + 0 < 30
      omega)
    rw [this]
    rfl) hline (star_cons h) (star_any h2)
end
end L2

namespace L2
open PySem
noncomputable def ExAt (h : Heap) (x : Addr) (cls a0 : Value) (T : Addr) (fl : Value) : Prop :=
  ∃ ox vs oT ts, h.get? x = some ox ∧ (ox.cls = cls ∧ ox.dict = none) ∧ ox.data = .fields vs ∧ vs[0]? = some a0 ∧ vs[1]? = some (.ref T) ∧ vs[2]? = some .none ∧ T ≠ x ∧ h.get? T = some oT ∧ oT.data = .fields ts ∧ ts[3]? = some fl
noncomputable def ExNew (h : Heap) (x : Addr) (cls a0 : Value) : Prop := ∃ ox vs, h.get? x = some ox ∧ (ox.cls = cls ∧ ox.dict = none) ∧ ox.data = .fields vs ∧ vs[0]? = some a0 ∧ vs[1]? = some .none ∧ vs[2]? = some .none
theorem dict_map (f : Array Value → Array Value) (o : Obj) : (Obj.mapFields f o).dict = o.dict := by
  unfold Obj.mapFields
  split <;> rfl
structure KeepBut (l fs : List Addr) (h h' : Heap) : Prop where
  keep : ∀ b o, b ∉ l → b ∉ fs → h.get? b = some o → h'.get? b = some o
  slot : ∀ b o, b ∉ l → h.get? b = some o → ∃ sl, h'.get? b = some { o with slots := sl }
  there : ∀ b o, h.get? b = some o → ∃ o', h'.get? b = some o'
theorem KeepBut.trans {l fs : List Addr} {h h1 h2 : Heap} (a : KeepBut l fs h h1) (b : KeepBut l fs h1 h2) : KeepBut l fs h h2 where
  keep := fun c o n m e => b.keep c o n m (a.keep c o n m e)
  slot := fun c o n e => by
    obtain ⟨_, e1⟩ := a.slot c o n e
    obtain ⟨sl, e2⟩ := b.slot c _ n e1
    exact ⟨sl, e2⟩
  there := fun c o e => by
    obtain ⟨o1, e1⟩ := a.there c o e
    exact b.there c o1 e1
theorem KeepBut.mono {l l' fs fs' : List Addr} {h h' : Heap} (a : KeepBut l fs h h') (m : ∀ b ∈ l, b ∈ l') (n : ∀ b ∈ fs, b ∈ fs') : KeepBut l' fs' h h' :=
  ⟨fun b o x y => a.keep b o (fun z => x (m b z)) (fun z => y (n b z)), fun b o x => a.slot b o fun z => x (m b z), a.there⟩
theorem KeepBut.upd {h : Heap} {x : Addr} {fs : List Addr} {f : Obj → Obj} {o : Obj} (e : h.get? x = some o) (nf : (f o).isFreed = false) : KeepBut [x] fs h (h.update x f) where
  keep := fun b u n _ q => by
    rw [Heap.get?_update_other _ _ (fun z => n (by simp [z]))]
    exact q
  slot := fun b u n q => ⟨u.slots, by
    rw [Heap.get?_update_other _ _ (fun z => n (by simp [z]))]
    exact q⟩
  there := fun b u q => by
    by_cases z : x = b
    · subst z
      exact ⟨_, Heap.get?_update_self f e nf⟩
    · exact ⟨u, by rw [Heap.get?_update_other _ _ z]; exact q⟩
theorem KeepBut.push {h : Heap} {l fs : List Addr} (o : Obj) : KeepBut l fs h (h.push o) :=
  ⟨fun _ _ _ _ q => Heap.get?_push_of_some _ q, fun _ u _ q => ⟨u.slots, Heap.get?_push_of_some _ q⟩, fun _ u q => ⟨u, Heap.get?_push_of_some _ q⟩⟩
theorem KeepBut.slots {h h' : Heap} {l fs : List Addr} (k : Heap.SlotsOnly fs h h') : KeepBut l fs h h' :=
  ⟨fun b o _ n q => (k.2.1 b n).trans q, fun b o _ q => k.2.2 b o q, fun b o q => let ⟨_, e⟩ := k.2.2 b o q; ⟨_, e⟩⟩
section
variable {M : Model} {A : Around} {E : Value → Shared → Prop} {s : Shared}
theorem entry_rule {base : Heap} {env : Env} {outer : List Env} {L x : Addr} {ox : Obj} {vs : Array Value} {hd' a0 : Value} {nx : Bool} {Q : Unit → Shared → Prop}
    (fr : A.frames = some (env :: outer)) (fl : s.heap.FunFrames base (env :: outer)) (f : env.frame = some L) (ex : s.heap.get? x = some ox) (nd : ox.dict = none) (dx : ox.data = .fields vs) (v0 : vs[0]? = some a0) (v1 : 1 < vs.size) (v2 : vs[2]? = some .none)
    (q : ∀ (h' : Heap) (T : Addr), ExAt h' x ox.cls a0 T (rawInt L) → s.heap.get? T = none → KeepBut [x] ((env :: outer).filterMap (·.frame)) s.heap h' → Q () { s with heap := h' }) :
    wpAny M A (do
      let a ← frameOf env
      let p ← entryPlaceOf L nx
      let b ← EntryCells.newEntry hd' a .none (rawInt L) .none p
      setField (.ref x) 1 b) Q E s := by
  have nx' : x ∉ (env :: outer).filterMap (·.frame) := fun z => by
    obtain ⟨_, o, ho, hn⟩ := fl.mem z
    rw [ex] at ho
    injection ho with ho
    subst ho
    exact hn vs dx
  refine wpAny_bind (wpAny_frameOf_fun fr fl f fun g1 only => ?_)
  refine wpAny_bind (wpAny_entryPlaceOf fun p hp => ?_)
  unfold EntryCells.newEntry newFields
  refine wpAny_bind (wpAny_newObj_type ?_ (hp.sizeOk5 _ _ _ _ _))
  have x1 : g1.get? x = some ox := (only.2.1 x nx').trans ex
  have x2 := Heap.get?_push_of_some (h := g1) { cls := .type "traceback", dict := none, data := .fields ([hd', .ref L, .none, rawInt L, .none] ++ (if p.isEmpty then List.replicate 6 Value.none else p)).toArray } x1
  refine wpAny_setField x2 dx v1 (q _ g1.objs.size ?_ ?_ ?_)
  · have dT := Obj.data_mapFields dx (·.setIfInBounds 1 (Value.ref g1.objs.size))
    have hT : g1.objs.size ≠ x := Nat.ne_of_gt (Heap.lt_size x1)
    have gT := (Heap.get?_update_other (g1.push { cls := .type "traceback", dict := none, data := .fields ([hd', .ref L, .none, rawInt L, .none] ++ (if p.isEmpty then List.replicate 6 Value.none else p)).toArray }) (Obj.mapFields (·.setIfInBounds 1 (Value.ref g1.objs.size))) (Ne.symm hT)).trans (Heap.get?_push_size g1 rfl)
    refine ⟨_, _, _, _, Heap.get?_update_self _ x2 (Obj.isFreed_of_fields dT), ⟨Obj.cls_mapFields _ _, by rw [dict_map]; exact nd⟩, dT, ?_, ?_, ?_, hT, gT, rfl, ?_⟩
    · rw [Array.getElem?_setIfInBounds_ne (by decide)]
      exact v0
    · simp [v1]
    · rw [Array.getElem?_setIfInBounds_ne (by decide)]
      exact v2
    · first
        | (simp; done)
        | (rcases hp with rfl | ⟨_, _, _, _, _, _, _, rfl⟩ <;> simp)
  · exact Heap.get?_none_of_le (Nat.le_of_eq only.1.symm)
  · exact ((KeepBut.slots only).trans (KeepBut.push _)).trans (KeepBut.upd x2 (Obj.isFreed_of_fields (Obj.data_mapFields dx _)))
theorem note_first {base : Heap} {env : Env} {outer : List Env} {L x : Addr} {cls a0 : Value} {Q : Unit → Shared → Prop} (fr : A.frames = some (env :: outer)) (fl : s.heap.FunFrames base (env :: outer)) (f : env.frame = some L) (ex : ExNew s.heap x cls a0)
    (q : ∀ (h' : Heap) (T : Addr), ExAt h' x cls a0 T (rawInt L) → s.heap.get? T = none → KeepBut [x] ((env :: outer).filterMap (·.frame)) s.heap h' → Q () { s with heap := h' }) : wpAny M A (noteFrame (.ref x) env) Q E s := by
  obtain ⟨ox, vs, e, ⟨rfl, nd⟩, d, v0, v1, v2⟩ := ex
  unfold noteFrame
  simp only [f]
  refine wpAny_bind (wpAny_field e d v1 ?_)
  rw [if_neg (by decide)]
  exact entry_rule fr fl f e nd d v0 (Array.getElem?_eq_some_iff.mp v1).1 v2 q
theorem note_next {base : Heap} {env : Env} {outer : List Env} {L x T : Addr} {cls a0 : Value} {Q : Unit → Shared → Prop} (fr : A.frames = some (env :: outer)) (fl : s.heap.FunFrames base (env :: outer)) (f : env.frame = some L) (ex : ExAt s.heap x cls a0 T .none)
    (q : ∀ (h' : Heap) (T' : Addr), ExAt h' x cls a0 T' (rawInt L) → s.heap.get? T' = none → KeepBut [x, T] ((env :: outer).filterMap (·.frame)) s.heap h' → Q () { s with heap := h' }) : wpAny M A (noteFrame (.ref x) env) Q E s := by
  obtain ⟨ox, vs, oT, ts, e, ⟨rfl, nd⟩, d, v0, v1, v2, ne, eT, dT, t3⟩ := ex
  unfold noteFrame
  simp only [f]
  refine wpAny_bind (wpAny_field e d v1 ?_)
  rw [if_pos (show (Value.ref T != Value.none) = true by simp)]
  refine wpAny_bind (wpAny_field eT dT t3 ?_)
  rw [if_neg (show ¬ ((Value.none == rawInt L) = true) by simp [rawInt])]
  refine wpAny_bind (wpAny_setField eT dT (Array.getElem?_eq_some_iff.mp t3).1 ?_)
  have nT : (Obj.mapFields (·.setIfInBounds 3 Value.none) oT).isFreed = false := Obj.isFreed_of_fields (Obj.data_mapFields dT _)
  have k1 : KeepBut [T] ((env :: outer).filterMap (·.frame)) s.heap (s.heap.update T (Obj.mapFields (·.setIfInBounds 3 Value.none))) := KeepBut.upd eT nT
  refine entry_rule fr (fl.of_keeps fun b o hb hn => ?_) f ((Heap.get?_update_other _ _ ne).trans e) nd d v0 (Array.getElem?_eq_some_iff.mp v1).1 v2 fun h' T' z zn k2 => q h' T' z ?_ ?_
  · refine ⟨o, (Heap.get?_update_other _ _ fun z => ?_).trans hb, rfl⟩
    rw [← z, eT] at hb
    injection hb with hb
    subst hb
    exact hn ts dT
  · cases hq : s.heap.get? T' with
    | none => rfl
    | some o =>
      obtain ⟨o', e'⟩ := k1.there T' o hq
      rw [e'] at zn
      cases zn
  · exact (k1.mono (by simp) fun _ z => z).trans (k2.mono (by simp) fun _ z => z)
theorem flight_rule {x T : Addr} {cls a0 fl : Value} {fr : Option Addr} {fs : List Addr} {Q : Unit → Shared → Prop} (ex : ExAt s.heap x cls a0 T fl)
    (q : ∀ h', ExAt h' x cls a0 T (fr.elim .none fun f => rawInt f) → KeepBut [T] fs s.heap h' → Q () { s with heap := h' }) : wpAny M A (setFlight (.ref x) fr) Q E s := by
  obtain ⟨ox, vs, oT, ts, e, ⟨rfl, nd⟩, d, v0, v1, v2, ne, eT, dT, t3⟩ := ex
  unfold setFlight
  refine wpAny_bind (wpAny_field e d v1 ?_)
  rw [if_pos (show (Value.ref T != Value.none) = true by simp)]
  have nT := Obj.data_mapFields dT (·.setIfInBounds 3 (fr.elim Value.none fun f => rawInt f))
  have s3 := (Array.getElem?_eq_some_iff.mp t3).1
  refine wpAny_setField eT dT s3 (q _ ⟨_, _, _, _, (Heap.get?_update_other _ _ ne).trans e, ⟨rfl, nd⟩, d, v0, v1, v2, ne, Heap.get?_update_self _ eT (Obj.isFreed_of_fields nT), nT, ?_⟩ (KeepBut.upd eT (Obj.isFreed_of_fields nT)))
  simp [s3]
theorem leave_first {base : Heap} {env : Env} {outer : List Env} {L x : Addr} {cls a0 : Value} {Q : Unit → Shared → Prop} (fr : A.frames = some (env :: outer)) (fl : s.heap.FunFrames base (env :: outer)) (f : env.frame = some L) (ex : ExNew s.heap x cls a0)
    (q : ∀ (h' : Heap) (T : Addr), ExAt h' x cls a0 T .none → s.heap.get? T = none → KeepBut [x] ((env :: outer).filterMap (·.frame)) s.heap h' → Q () { s with heap := h' }) : wpAny M A (leaving env (.ref x)) Q E s := by
  unfold leaving
  refine wpAny_bind (note_first fr fl f ex fun h1 T e1 n1 k1 => flight_rule (s := { s with heap := h1 }) (fr := none) (fs := (env :: outer).filterMap (·.frame)) e1 fun h2 e2 k2 => q h2 T e2 n1 ⟨fun b o n m e => ?_, fun b o n e => ?_, fun b o e => ?_⟩)
  · exact k2.keep b o (fun z => by rw [List.mem_singleton.mp z, n1] at e; cases e) m (k1.keep b o n m e)
  · obtain ⟨sl, e'⟩ := k1.slot b o n e
    obtain ⟨sl2, e2⟩ := k2.slot b _ (fun z => by rw [List.mem_singleton.mp z, n1] at e; cases e) e'
    exact ⟨sl2, e2⟩
  · obtain ⟨o', e'⟩ := k1.there b o e
    exact k2.there b o' e'
theorem leave_next {base : Heap} {env : Env} {outer : List Env} {L x T : Addr} {cls a0 : Value} {Q : Unit → Shared → Prop} (fr : A.frames = some (env :: outer)) (fl : s.heap.FunFrames base (env :: outer)) (f : env.frame = some L) (ex : ExAt s.heap x cls a0 T .none)
    (q : ∀ (h' : Heap) (T' : Addr), ExAt h' x cls a0 T' .none → s.heap.get? T' = none → KeepBut [x, T] ((env :: outer).filterMap (·.frame)) s.heap h' → Q () { s with heap := h' }) : wpAny M A (leaving env (.ref x)) Q E s := by
  unfold leaving
  refine wpAny_bind (note_next fr fl f ex fun h1 T1 e1 n1 k1 => flight_rule (s := { s with heap := h1 }) (fr := none) (fs := (env :: outer).filterMap (·.frame)) e1 fun h2 e2 k2 => q h2 T1 e2 n1 ⟨fun b o n m e => ?_, fun b o n e => ?_, fun b o e => ?_⟩)
  · exact k2.keep b o (fun z => by rw [List.mem_singleton.mp z, n1] at e; cases e) m (k1.keep b o n m e)
  · obtain ⟨sl, e'⟩ := k1.slot b o n e
    obtain ⟨sl2, e2⟩ := k2.slot b _ (fun z => by rw [List.mem_singleton.mp z, n1] at e; cases e) e'
    exact ⟨sl2, e2⟩
  · obtain ⟨o', e'⟩ := k1.there b o e
    exact k2.there b o' e'
end
end L2

namespace L2
open PySem PyProof.Rows
theorem entry_unchain : entryFor table "proto.unchain" = some Builtin.«proto.unchain» := entryFor_of_fast (by kernel_rfl)
section
variable {prog : Program} {w : World} {A : Around} {E : Value → Shared → Prop} {s : Shared}
theorem raise_within {α : Type} {x a : Addr} {ox oa : Obj} {vs ws : Array Value} {Q : α → Shared → Prop} (hh : A.handled = some (.ref x)) (ne : a ≠ x) (ex : s.heap.get? x = some ox) (dx : ox.data = .fields vs) (v2 : vs[2]? = some .none)
    (ea : s.heap.get? a = some oa) (da : oa.data = .fields ws) (w2 : 2 < ws.size) (q : E (.ref a) { s with heap := s.heap.update a (Obj.mapFields (·.setIfInBounds 2 (.ref x))) }) : wpAny (model prog w) A (raiseNew (.ref a) : Sem α) Q E s := by
  unfold raiseNew
  refine wpAny_bind (wpAny_handled ?_)
  rw [hh]
  dsimp only
  rw [if_pos (show (Value.ref x != Value.ref a) = true by simp; exact fun z => ne z.symm)]
  refine wpAny_bind (wpAny_holding (wpAny_runValue ?_))
  refine codeAny_builtin entry_unchain ?_
  unfold Builtin.«proto.unchain»
  dsimp only
  refine wpAny_bind (wpAny_field ex dx v2 ?_)
  rw [if_pos (show (Value.none == Value.none) = true by rfl)]
  refine wpAny_pure ?_
  show wpAny (model prog w) A (updateField a 2 (Value.ref x) >>= fun _ => throw (Value.ref a)) Q E s
  refine wpAny_bind ?_
  unfold updateField
  refine wpAny_bind (wpAny_load ea ?_)
  rw [da]
  dsimp only
  rw [if_pos w2]
  refine wpAny_update ea (wpAny_throw q)
theorem next_end_within {x it l : Addr} {ox : Obj} {vs : Array Value} {i : Nat} {items : Array Value} {Q : Option Value → Shared → Prop} (hh : A.handled = some (.ref x)) (ex : s.heap.get? x = some ox) (dx : ox.data = .fields vs) (v2 : vs[2]? = some .none) (nit : it ≠ x)
    (hit : s.heap.IsListIter it l i) (hl : s.heap.IsList l items) (hi : items[i]? = none) (q : ∀ h', Heap.ExtBut it s.heap h' → Q none { s with heap := h' }) : wpAny (model prog w) A (pyNext (.ref it)) Q E s := by
  obtain ⟨o, ho, hc, hd⟩ := id hit
  obtain ⟨ol, hol, _, nl, hdl⟩ := hl
  unfold pyNext
  refine wpAny_bind (wpAny_attempt (wpAny_callSpecial?_slot (name := Str.ofString "__next__") hit.typeIs slot_listiter_next (wpAny_call_entry slot_listiter_next hit.typeIs entry_listiter_next ?_ (args_listiter_next _))))
  show wpAny _ _ (field (.ref it) 0 >>= _) _ _ s
  refine wpAny_bind (wpAny_field ho hd (x := .ref l) rfl ?_)
  show wpAny _ _ (if (Value.ref l == Value.none) = true then _ else _) _ _ s
  rw [if_neg (show ¬ ((Value.ref l == Value.none) = true) from Bool.false_ne_true)]
  show wpAny _ _ (field (.ref it) 1 >>= _) _ _ s
  refine wpAny_bind (wpAny_field ho hd (x := .int i 0) rfl ?_)
  show wpAny _ _ (seqItems? (.ref l) >>= _) _ _ s
  refine wpAny_bind (wpAny_seqItems hol hdl ?_)
  simp only [Int.toNat_natCast, hi]
  refine wpAny_bind (wpAny_rule (wpAny_bind (wpAny_setField ho hd (by simp) ?_)))
  show wpAny _ _ (newExc (.type "StopIteration") [] >>= _) _ _ _
  refine wpAny_bind ?_
  simp only [newExc, newTuple]
  refine wpAny_bind (wpAny_newObj_type ?_ (by size_fits))
  refine wpAny_bind (m := firstArgMember _ _) (wpAny_of_eq (a := Value.none) (by first | rfl | (simp only [firstArgMember]; rfl)) ?_)
  refine wpAny_newObj_type ?_ (by size_fits)
  have lx := Heap.lt_size ex
  refine raise_within (A := A.in1) hh ?_ (Heap.get?_push_of_some _ (Heap.get?_push_of_some _ ((Heap.get?_update_other _ _ nit).trans ex))) dx v2 (Heap.get?_push_size _ rfl) rfl (by simp <;> omega) ?_
  · exact Nat.ne_of_gt (Heap.lt_size (Heap.get?_push_of_some _ ((Heap.get?_update_other _ _ nit).trans ex)))
  · refine wpAny_bind (wpAny_isInstance (T := "StopIteration") (b := true) ⟨_, Heap.get?_update_self _ (Heap.get?_push_size _ rfl) (Obj.isFreed_of_fields (Obj.data_mapFields rfl _)), Obj.cls_mapFields _ _⟩ isSubtype_stop ?_)
    refine wpAny_pure (q _ fun b u nb e => ?_)
    have e1 := Heap.get?_push_of_some { cls := .type "tuple", data := .seq ([] : List Value).toArray } ((Heap.get?_update_other s.heap (Obj.mapFields (·.setIfInBounds 0 Value.none)) (Ne.symm nb)).trans e)
    exact (Heap.get?_update_other _ _ (Nat.ne_of_gt (Heap.lt_size e1))).trans (Heap.get?_push_of_some _ e1)
theorem next_tup_within {x it l : Addr} {ox : Obj} {vs : Array Value} {i : Nat} {items : Array Value} {Q : Option Value → Shared → Prop} (hh : A.handled = some (.ref x)) (ex : s.heap.get? x = some ox) (dx : ox.data = .fields vs) (v2 : vs[2]? = some .none) (nit : it ≠ x)
    (hit : IsTupIter s.heap it l i) (hl : IsTup s.heap l items) (hi : items[i]? = none) (q : ∀ h', Heap.ExtBut it s.heap h' → Q none { s with heap := h' }) : wpAny (model prog w) A (pyNext (.ref it)) Q E s := by
  obtain ⟨o, ho, hc, hd⟩ := id hit
  obtain ⟨ol, hol, _, nl, hdl⟩ := hl
  unfold pyNext
  refine wpAny_bind (wpAny_attempt (wpAny_callSpecial?_slot (name := Str.ofString "__next__") hit.typeIs slot_tupleiter_next (wpAny_call_entry slot_tupleiter_next hit.typeIs entry_tupleiter_next ?_ (args_tupleiter_next _))))
  show wpAny _ _ (field (.ref it) 0 >>= _) _ _ s
  refine wpAny_bind (wpAny_field ho hd (x := .ref l) rfl ?_)
  show wpAny _ _ (if (Value.ref l == Value.none) = true then _ else _) _ _ s
  rw [if_neg (show ¬ ((Value.ref l == Value.none) = true) from Bool.false_ne_true)]
  show wpAny _ _ (field (.ref it) 1 >>= _) _ _ s
  refine wpAny_bind (wpAny_field ho hd (x := .int i 0) rfl ?_)
  show wpAny _ _ (seqItems? (.ref l) >>= _) _ _ s
  refine wpAny_bind (wpAny_seqItems hol hdl ?_)
  simp only [Int.toNat_natCast, hi]
  refine wpAny_bind (wpAny_rule (wpAny_bind (wpAny_setField ho hd (by simp) ?_)))
  show wpAny _ _ (newExc (.type "StopIteration") [] >>= _) _ _ _
  refine wpAny_bind ?_
  simp only [newExc, newTuple]
  refine wpAny_bind (wpAny_newObj_type ?_ (by size_fits))
  refine wpAny_bind (m := firstArgMember _ _) (wpAny_of_eq (a := Value.none) (by first | rfl | (simp only [firstArgMember]; rfl)) ?_)
  refine wpAny_newObj_type ?_ (by size_fits)
  have lx := Heap.lt_size ex
  refine raise_within (A := A.in1) hh ?_ (Heap.get?_push_of_some _ (Heap.get?_push_of_some _ ((Heap.get?_update_other _ _ nit).trans ex))) dx v2 (Heap.get?_push_size _ rfl) rfl (by simp <;> omega) ?_
  · exact Nat.ne_of_gt (Heap.lt_size (Heap.get?_push_of_some _ ((Heap.get?_update_other _ _ nit).trans ex)))
  · refine wpAny_bind (wpAny_isInstance (T := "StopIteration") (b := true) ⟨_, Heap.get?_update_self _ (Heap.get?_push_size _ rfl) (Obj.isFreed_of_fields (Obj.data_mapFields rfl _)), Obj.cls_mapFields _ _⟩ isSubtype_stop ?_)
    refine wpAny_pure (q _ fun b u nb e => ?_)
    have e1 := Heap.get?_push_of_some { cls := .type "tuple", data := .seq ([] : List Value).toArray } ((Heap.get?_update_other s.heap (Obj.mapFields (·.setIfInBounds 0 Value.none)) (Ne.symm nb)).trans e)
    exact (Heap.get?_update_other _ _ (Nat.ne_of_gt (Heap.lt_size e1))).trans (Heap.get?_push_of_some _ e1)
theorem unpack_within {x t : Addr} {ox : Obj} {vs : Array Value} {items : Array Value} {Q : List Value → Shared → Prop} (hh : A.handled = some (.ref x)) (ex : s.heap.get? x = some ox) (dx : ox.data = .fields vs) (v2 : vs[2]? = some .none) (ht : IsTup s.heap t items)
    (q : ∀ h', Heap.ExtBut s.heap.objs.size s.heap h' → Q items.toList { s with heap := h' }) : wpAny (model prog w) A (unpackItems (.ref t) items.size none) Q E s := by
  have hlt : t ≠ s.heap.objs.size := by
    obtain ⟨o, ho, _⟩ := ht
    exact Nat.ne_of_lt (Heap.lt_size ho)
  unfold unpackItems
  refine wpAny_bind ?_
  unfold notIterableAtAll
  refine wpAny_bind (wpAny_specialOf ht.typeIs slot_tuple_iter.lookup (wpAny_pure ?_))
  simp only [Bool.false_eq_true, if_false]
  refine wpAny_bind (wpAny_holding (iter_tuple ht ?_))
  refine wpAny_bind (wpAny_holding (draw_tuple hlt items.size 0 _ _ ⟨_, Heap.get?_push_size _ rfl, rfl, rfl⟩ (ht.push _) (by omega) fun h1 hit1 hs1 => ?_))
  rw [show List.take items.size (List.drop 0 items.toList) = items.toList by rw [List.drop_zero]; exact List.take_of_length_le (by simp)]
  rw [if_neg (by simp)]
  have ht1 : IsTup h1 t items := (ht.push _).extBut hs1.extBut hlt
  have nx : s.heap.objs.size ≠ x := Nat.ne_of_gt (Heap.lt_size ex)
  refine wpAny_bind (wpAny_holding (next_tup_within hh (hs1.extBut x ox (Ne.symm nx) (Heap.get?_push_of_some _ ex)) dx v2 nx hit1 ht1 (by simp) fun h2 he2 => ?_))
  simp only [Option.isSome_none, Bool.false_eq_true, if_false]
  exact wpAny_pure (q h2 fun b o hb e => he2 b o hb (hs1.extBut b o hb (Heap.get?_push_of_some _ e)))
theorem assign_within {env : Env} {elts : List Expr} {x1 : Nat} {pos : Pos} {x t : Addr} {ox : Obj} {vs : Array Value} {items : Array Value} {Q : Unit → Shared → Prop} (hh : A.handled = some (.ref x)) (ex : s.heap.get? x = some ox) (dx : ox.data = .fields vs) (v2 : vs[2]? = some .none) (ht : IsTup s.heap t items)
    (hn : (assignEach elts env).length = items.size) (hst : (assignEach elts env).findIdx? (·.1) = none)
    (q : ∀ h', Heap.ExtBut s.heap.objs.size s.heap h' → wpAny (model prog w) A (assignInOrder ((assignEach elts env).map (·.2)) items.toList) Q E { s with heap := h' }) : wpAny (model prog w) A (assign (.Tuple elts x1 pos) env (.ref t)) Q E s := by
  rw [assign_Tuple]
  refine wpAny_bind (wpAny_standAt ?_)
  unfold unpack
  rw [hn, hst]
  exact wpAny_bind (wpAny_holding (unpack_within hh ex dx v2 ht q))
end
end L2

namespace L2
open PySem PySem.W PyProof.Rows
section
variable {K : Frag} {prog : Program} {w : World} {A : Around} {E : Value → Shared → Prop} {s : Shared} {x D : Addr} {ox : Obj} {odo : Option Obj}
theorem kinx_class {Q : Option Value → Shared → Prop} (X : K.In s.heap) (I : InstAt s.heap x ox D odo) (hga : findIn K (.ref D) "__getattribute__" = some (some (.builtin "BaseException.__getattribute__"))) (hgt : findIn K (.ref D) "__getattr__" = some none)
    (hf : findObj K D odo "__class__" = some (.bind (.builtin "getset_descriptor.__get__") (.builtin "object.__class__"))) (hm : mroIn K D (.type "object") = some true) (hme : mroIn K D (.type "BaseException") = some true) (h : Q (some (.ref D)) { s with toks := s.toks + 1 }) :
    wpAny (model prog w) A (getAttr? (.ref x) "__class__") Q E s := by
  obtain ⟨hh, g, d, t, os⟩ := s
  have L0 := I.type (M := model prog w)
  have L1 := looks_findIn (M := model prog w) X hga
  have L2 := looks_findIn (M := model prog w) X hgt
  have L3 := looks_find (M := model prog w) X I hf
  have L4 := looks_mroIn (M := model prog w) X hme
  have hx2 : (Value.builtin "BaseException.__getattribute__" == Value.builtin "object.__getattribute__") = false := by decide +kernel
  unfold getAttr? getAttrBy? getAttrBy
  refine wpAny_bind (wpAny_mkText (wpAny_bind (wpAny_attempt (wpAny_holding (wpAny_bind (L0.at (wpAny_bind (L1.at ?_))))))))
  have hx1 : (onTheHeap (Value.ref D) && Value.builtin "BaseException.__getattribute__" == Value.builtin "object.__getattribute__") = false := by rw [hx2]; rfl
  dsimp only
  rw [if_neg (by rw [hx1]; exact Bool.false_ne_true)]
  unfold getAttrByItsOwn hookBefore callGetattribute
  rw [if_pos (show onTheHeap (Value.ref D) = true from rfl)]
  refine wpAny_bind (L2.at ?_)
  refine wpAny_bind (wpAny_attempt (wpAny_holding ?_))
  rw [if_neg (by exact Bool.false_ne_true)]
  unfold boundAndCalled
  have hb : bindSpecial (.builtin "BaseException.__getattribute__") (.ref x) = pure (.builtin "BaseException.__getattribute__", [.ref x]) := by
    have hop : withoutEnding? "BaseException.__getattribute__" "#opaque" = none := by decide +kernel
    have hdat : withoutEnding? "BaseException.__getattribute__" "#data" = none := by decide +kernel
    have hk : builtinKind "BaseException.__getattribute__" = some .slot := by decide +kernel
    simp only [bindSpecial, typeOf, builtinType, hop, hdat, hk]; rfl
  rw [hb]
  refine wpAny_bind (wpAny_pure ?_)
  dsimp only
  have hk : builtinKind "BaseException.__getattribute__" = some .slot := by decide +kernel
  have hsplit : splitId "BaseException.__getattribute__" = some ("BaseException", "__getattribute__") := by decide +kernel
  have ha := F.args_bexc_ga (.ref x) (.str (Str.ofString "__class__") t)
  refine wpAny_call (codeAny_call_builtin (by decide +kernel) F.entry_bexc_ga ?_)
  have body : ∀ {A' : Around} {P : Fin → Shared → Prop} {E' : Value → Shared → Prop}, (wpAny (model prog w) A' (call (.builtin "getset_descriptor.__get__") [.builtin "object.__class__", .ref x, .ref D]) (fun v s' => P (.done (.ret v)) s') E' ⟨hh, g, d, t + 1, os⟩) →
      wpAny (model prog w) A' (Builtin.«object.__getattribute__» ⟨[.ref x, .str (Str.ofString "__class__") t], []⟩) P E' ⟨hh, g, d, t + 1, os⟩ := by
    intro A' P E' q
    unfold Builtin.«object.__getattribute__»
    refine wpAny_bind (wpAny_pure ?_)
    refine wpAny_bind (wpAny_pure (wpAny_bind (L0.at (wpAny_bind (L3.at ?_)))))
    show wpAny (model prog w) A' (holding [.builtin "object.__class__"] (call (.builtin "getset_descriptor.__get__") [.builtin "object.__class__", .ref x, .ref D]) >>= ret) P E' _
    exact wpAny_bind (wpAny_holding (wpAny_mono q (fun v s' z => wpAny_pure z) fun _ _ z => z))
  simp only [checkBuiltinCall, hk, hsplit]
  refine wpAny_bind ?_
  unfold isInstance
  refine wpAny_bind (L0.at (L4.at ?_))
  rw [if_neg (by decide)]
  refine wpAny_of_eq (a := ()) ha ?_
  refine body (wpAny_call (class_get (s := ⟨hh, g, d, t + 1, os⟩) (ox := ox) (od := odo) X I hm (handed_on rfl ?_)))
  exact wpAny_pure h
end
end L2

namespace L2
open PySem PySem.Spec PyProof.Rows
theorem ObjOk.has {P : Program} {w : World} {H : Hp} {h : Heap} {a : Addr} : ∀ {o : HO}, ObjOk P w H h a o → ∃ ob, h.get? a = some ob
  | .lst _, x => by obtain ⟨_, _, _, _, e⟩ := x; exact ⟨_, e⟩
  | .tup _, x => by obtain ⟨_, _, _, o, e, _⟩ := x; exact ⟨o, e⟩
  | .dK _, x => by obtain ⟨_, _, _, _, o, _, _, e, _⟩ := x; exact ⟨o, e⟩
  | .dT _, x => by obtain ⟨_, _, _, _, o, _, _, e, _⟩ := x; exact ⟨o, e⟩
  | .set _ _, x => by
    obtain ⟨o, e⟩ : ∃ o, h.get? a = some o := by
      have z : h.SetOf (intKind P w) a _ _ := x
      obtain ⟨o, _, _, _, e, _⟩ := z
      exact ⟨o, e⟩
    exact ⟨o, e⟩
  | .ins _ _ _, x => by obtain ⟨_, _, _, e, _⟩ := x; exact ⟨_, e⟩
  | .own _, x => x
  | .xd _, x => by obtain ⟨_, ⟨o, _, _, e, _⟩, _⟩ := x; exact ⟨o, e⟩
  | .met _ _, e => ⟨_, e⟩
  | .rng _ _, ⟨_, _, _, e⟩ => ⟨_, e⟩
  | .frz o _, ⟨e, _⟩ => ⟨o, e⟩
  | .tbl _, e => ⟨_, e⟩
  | .ext _, ⟨_, e, _⟩ => e
theorem HOk.no {P : Program} {w : World} {H : Hp} {h : Heap} (ok : HOk P w H h) {a : Addr} (n : h.get? a = none) : H a = none := by
  cases e : H a with
  | none => rfl
  | some o =>
    obtain ⟨ob, z⟩ := (ok a o e).has
    rw [n] at z
    cases z
noncomputable def CX1 (P : Program) (w : World) : CXT := fun outer H s E e s' => ∃ (x C T : Addr) (a0 : Value) (H' : Hp), e = .ref x ∧ s'.os = s.os ∧ AllBare s'.gens ∧ Un (frs outer) [] H H' s.heap s'.heap ∧ HOk P w H' s'.heap ∧
  ExAt s'.heap x (.ref C) a0 T .none ∧ s.heap.get? x = none ∧ s.heap.get? T = none ∧ H' x = none ∧ H' T = none ∧ E (.ref C) none H'
section
variable {P : Program} {w : World} {H H' : Hp} {h h1 h2 : Heap} {l fs : List Addr}
theorem hok_but (ok : HOk P w H h1) (kb : KeepBut l fs h1 h2) (hl : ∀ b ∈ l, H b = none) (hf : ∀ b ∈ fs, H b = none) : HOk P w H h2 := fun b u e => by
  have key : ∀ c v, H c ≠ none → h1.get? c = some v → h2.get? c = some v := fun c v n q => kb.keep c v (fun z => n (hl c z)) (fun z => n (hf c z)) q
  refine (ok b u e).stay (fun c v hc q => key c v ?_ q) (fun _ q => q) fun _ _ q => q
  rcases hc with z | z
  · rw [z, e]; exact fun q => nomatch q
  · rw [z]; exact fun q => nomatch q
theorem un_but (u : Un fs [] H H' h h1) (kb : KeepBut l fs h1 h2) (hl : ∀ b ∈ l, h.get? b = none) : Un fs [] H H' h h2 where
  keep := fun b o e n hb hx => kb.keep b o (fun z => by rw [hl b z] at e; cases e) hb (u.keep b o e n hb hx)
  slot := fun b o e n hb hx => by
    obtain ⟨sl, e1⟩ := u.slot b o e n hb hx
    obtain ⟨sl2, e2⟩ := kb.slot b _ (fun z => by rw [hl b z] at e; cases e) e1
    exact ⟨sl2, e2⟩
  free := u.free
  there := fun b o e hx => by
    obtain ⟨o1, e1⟩ := u.there b o e hx
    exact kb.there b o1 e1
  tups := u.tups
  frzs := u.frzs
  tbls := u.tbls
end
section
variable {X : Cx} {pins : List (Addr × Obj)} {σ : St} {H H' : Hp} {s s' : Shared}
theorem Inv.none0 (I : Inv X pins σ H s) {b : Addr} (hx : X.ex = []) (n : s.heap.get? b = none) : X.s₀.heap.get? b = none := by
  cases e : X.s₀.heap.get? b with
  | none => rfl
  | some o =>
    obtain ⟨o', e'⟩ := I.base.there b o e (by rw [hx]; simp)
    rw [n] at e'
    cases e'
theorem Inv.outer (I : Inv X pins σ H s) (hx : X.ex = []) (hs : X.stack = X.env :: X.outer) (hf : X.env.frame = some X.env.locals) (u : Un (frs X.stack) [] H H' s.heap s'.heap) : Un (frs X.outer) [] X.H₀ H' X.s₀.heap s'.heap := by
  have hsub : ∀ b, b ∈ frs X.stack ↔ b = X.env.locals ∨ b ∈ frs X.outer := fun b => by
    rw [hs]
    unfold frs
    rw [List.filterMap_cons, hf]
    simp
  have B := I.base
  rw [hx] at B
  have neL : ∀ b o, X.s₀.heap.get? b = some o → b ≠ X.env.locals := fun b o e => Nat.ne_of_lt (Nat.lt_of_lt_of_le (Heap.lt_size e) I.ok.above)
  refine ⟨fun b o e n hb hx' => ?_, fun b o e n hb hx' => ?_, fun b o e n hx' => ?_, fun b o e hx' => ?_, fun b xs e => u.tups b xs (B.tups b xs e), fun b o v e => u.frzs b o v (B.frzs b o v e), fun b ps e => ?_⟩
  · exact u.keep b o (B.keep b o e n hb hx') (B.free b o e n hx') (fun z => ((hsub b).mp z).elim (neL b o e) hb) (by simp)
  · obtain ⟨sl, e1⟩ := B.slot b o e n hb hx'
    obtain ⟨sl2, e2⟩ := u.any e1 (B.free b o e n hx') (by simp)
    exact ⟨sl2, e2⟩
  · obtain ⟨o1, e1⟩ := B.there b o e hx'
    exact u.free b o1 e1 (B.free b o e n hx') (by simp)
  · obtain ⟨o1, e1⟩ := B.there b o e hx'
    exact u.there b o1 e1 (by simp)
  · obtain ⟨m1, e1⟩ := B.tbls b ps e
    obtain ⟨m2, e2⟩ := u.tbls b _ e1
    exact ⟨m1 ++ m2, by rw [e2, Array.append_assoc]⟩
theorem un_stack_free (I : Inv X pins σ H s) (u : Un (frs X.stack) [] H H' s.heap s'.heap) : ∀ b ∈ frs X.stack, H' b = none := fun b hb => by
  obtain ⟨_, o, ho, _⟩ := I.stack.mem hb
  exact u.free b o ho (I.stkFree b hb) (by simp)
theorem un_frames (I : Inv X pins σ H s) (u : Un (frs X.stack) [] H H' s.heap s'.heap) : s'.heap.FunFrames X.base X.stack := by
  have all : ∀ (l : List Env), (∀ b ∈ frs l, b ∈ frs X.stack) → s.heap.FunFrames X.base l → s'.heap.FunFrames X.base l := by
    intro l
    induction l with
    | nil => intro _ _; trivial
    | cons env r ih =>
      intro hs hl
      obtain ⟨hk, ⟨L, o, hf, hn, ho, hd⟩, hr⟩ := hl
      have hL : L ∈ frs X.stack := hs L (by unfold frs; rw [List.filterMap_cons, hf]; exact List.mem_cons_self)
      obtain ⟨sl, e⟩ := u.any ho (I.stkFree L hL) (by simp)
      exact ⟨hk, ⟨L, _, hf, hn, e, hd⟩, ih (fun b hb => hs b (by unfold frs; rw [List.filterMap_cons, hf]; exact List.mem_cons_of_mem _ hb)) hr⟩
  exact all X.stack (fun _ hb => hb) I.stack
end
section
variable {P : Program} {w : World} {K : PySem.W.Frag} {mg : Str → Option Value} {base : Heap} {N : List Str} {qual : Str} {scope : Scope} {f : Addr} {cd : Value} {A : Around} {outer : List Env} {s₀ : Shared} {H₀ : Hp} {E : XK}
theorem pass1 : Passes (CX1 P w) (cxOf (CX1 P w) P w K mg base N qual scope f cd A outer s₀ H₀ E) E := by
  intro pins σ H s e s' I h
  obtain ⟨x, C, T, a0, H', rfl, os, bare, un, hok, ex, nx, nT, hx, hT, q⟩ := h
  show wpAny (model P w) _ (leaving _ (.ref x)) _ _ s'
  refine leave_next (base := base) (outer := outer) I.ok.frames (un_frames I un) rfl ex fun h2 T2 ex2 nT2 kb => ?_
  have kb' : KeepBut [x, T] (frs (envOfC qual scope s₀.heap.objs.size f cd :: outer)) s'.heap h2 := kb
  have mem : ∀ b ∈ [x, T], s.heap.get? b = none ∧ H' b = none := fun b hb => by
    rcases List.mem_cons.mp hb with z | z
    · rw [z]; exact ⟨nx, hx⟩
    · rw [List.mem_singleton.mp z]; exact ⟨nT, hT⟩
  have un2 : Un (frs (envOfC qual scope s₀.heap.objs.size f cd :: outer)) [] H H' s.heap h2 := un_but un kb' fun b hb => (mem b hb).1
  have nT0 : s.heap.get? T2 = none := by
    cases e : s.heap.get? T2 with
    | none => rfl
    | some o =>
      obtain ⟨o', e'⟩ := un.there T2 o e (by simp)
      rw [nT2] at e'; cases e'
  refine ⟨x, C, T2, a0, H', rfl, os.trans I.os, bare, I.outer (s' := { s' with heap := h2 }) rfl rfl rfl un2, hok_but hok kb' (fun b hb => (mem b hb).2) (un_stack_free I un), ex2, I.none0 rfl nx, I.none0 rfl nT0, hx, hok.no nT2, q⟩
theorem made1 {pins : List (Addr × Obj)} {σ : St} {H : Hp} {s : Shared} {x C : Addr} {args : List Value} {h1 : Heap} (I : Inv (cxOf (CX1 P w) P w K mg base N qual scope f cd A outer s₀ H₀ E) pins σ H s) (mk : Heap.MadeExcOf s.heap h1 x (.ref C) args) (q : E (.ref C) none H) :
    (cxOf (CX1 P w) P w K mg base N qual scope f cd A outer s₀ H₀ E).xe (.ref x) { s with heap := h1 } := by
  obtain ⟨t, ht, _, _⟩ := mk.there
  have I1 : Inv (cxOf (CX1 P w) P w K mg base N qual scope f cd A outer s₀ H₀ E) pins σ H { s with heap := h1 } := I.kept (t' := s.toks) mk.keeps
  show wpAny (model P w) _ (leaving _ (.ref x)) _ _ _
  refine leave_first (base := base) (outer := outer) (s := { s with heap := h1 }) (cls := .ref C) (a0 := .ref t) I.ok.frames I1.stack rfl ⟨_, _, ht, ⟨rfl, rfl⟩, rfl, rfl, rfl, rfl⟩ fun h2 T ex2 nT2 kb => ?_
  have kb' : KeepBut [x] (frs (envOfC qual scope s₀.heap.objs.size f cd :: outer)) h1 h2 := kb
  have un : Un (frs (envOfC qual scope s₀.heap.objs.size f cd :: outer)) [] H H s.heap h1 := Un.kept mk.keeps
  have hx : H x = none := I.hok.no mk.new
  have un2 : Un (frs (envOfC qual scope s₀.heap.objs.size f cd :: outer)) [] H H s.heap h2 := un_but un kb' fun b hb => by rw [List.mem_singleton.mp hb]; exact mk.new
  have nT0 : s.heap.get? T = none := by
    cases e : s.heap.get? T with
    | none => rfl
    | some o =>
      have e' := mk.keeps T o e
      rw [nT2] at e'; cases e'
  exact ⟨x, C, T, .ref t, H, rfl, I.os, I.bare, I.outer (s' := { s with heap := h2 }) rfl rfl rfl un2, hok_but I1.hok kb' (fun b hb => by rw [List.mem_singleton.mp hb]; exact hx) I.stkFree, ex2, I.none0 rfl mk.new, I.none0 rfl nT0, hx, I.hok.no nT0, q⟩
end
end L2

namespace L2
open PySem PySem.Spec PyProof.Rows
abbrev bmV : List Value := [.type "ValueError", .type "Exception", .type "BaseException", .type "object"]
theorem exc_K {K : PySem.W.Frag} {C : Addr} {bmB : List Value} {newId : String} (q : PySem.W.excIn K C bmB newId = true) : ∃ (bm : List Value) (N : Addr) (nm qn : Str) (bs : List Value) (hd : Bool) (sn : List Str) (sub : List Value) (ab : Bool) (col : Option Bool) (dd : Option Addr) (k0 k1 k2 k3 k5 : Option Value),
    K.lookup C = some (excClassObj nm qn C N bs bm hd sn sub ab col dd k0 k1 k2 k3 k5 newId) ∧ PySem.W.nsOkIn K N = true ∧ PySem.W.nsIn K N "__init__" = some none ∧ PySem.W.tailIn K bmB bm = true := by
  unfold PySem.W.excIn at q
  split at q
  · rename_i dd cd sl ho
    split at q
    · rename_i C' bm k0 k1 k2 k3 n k5 hm hs
      simp only [Bool.and_eq_true, beq_iff_eq, Bool.not_eq_true'] at q
      obtain ⟨⟨⟨⟨⟨rfl, rfl⟩, hdel⟩, ht⟩, hok⟩, hni⟩ := q
      obtain ⟨nm, bs, mro, ns, qn, hd, sn, sub, ab, col, del⟩ := cd
      dsimp only at hm hdel hok hni
      subst hm hdel
      have hsl : sl = #[k0, k1, k2, k3, some (.builtin n), k5] := by
        obtain ⟨l⟩ := sl
        simp only at hs
        rw [hs]
      subst hsl
      exact ⟨bm, ns, nm, qn, bs, hd, sn, sub, ab, col, dd, k0, k1, k2, k3, k5, ho, hok, hni, ht⟩
    · cases q
  · cases q
noncomputable def Rz (X : Cx) (E : XK) : Prop := ∀ {pins : List (Addr × Obj)} {σ : St} {H : Hp} {s : Shared} {x C : Addr} {args : List Value} {h1 : Heap}, Inv X pins σ H s → Heap.MadeExcOf s.heap h1 x (.ref C) args → E (.ref C) none H → X.xe (.ref x) { s with heap := h1 }
noncomputable def tRaise (C : Addr) (E : XK) (t : TA) : TS := fun _ σ H => t σ H fun vs H1 => vs.length ≤ sizeLine ∧ E (.ref C) none H1
section
variable {X : Cx} {E : XK} {x : Str} {C : Addr} {np cpos pos : Pos} {e : Expr} {es : List Expr} {t : TA}
theorem ps_raise (hz : Rz X E) (hc : X.calm = true) (hg : Gl X x) (hm : X.mg x = some (.ref C)) (hk : PySem.W.excIn X.K C bmV "ValueError.__new__" = true) (ha : PA X (e :: es) t) (h : plE e = true := by rfl) (h2 : es.all plE = true := by rfl) (hdb : (x == ("__debug__" : Str)) = false := by decide) :
    PS X (.Raise (some (.Call (.Name x np) (e :: es) [] cpos)) none pos) (tRaise C E t) := by
  intro pins s σ H D I hq
  obtain ⟨bm, Nn, nm, qn, bs, hd, sn, sub, ab, col, dd, k0, k1, k2, k3, k5, hl, hok, hni, ht⟩ := exc_K hk
  have hN : ∀ {g : Heap}, X.K.In g → g.Ns Nn (g.nsMap Nn) ∧ g.nsMap Nn "__init__" = none ∧ OwnTail g bmV bm := fun {g} KX => ⟨.of_isNs (PySem.W.isNs_of_in KX hok), PySem.W.nsMap_none_of_in KX hok hni, PySem.W.tail_of_in KX ht⟩
  have hbase : bm.contains (.type "BaseException") = true := (hN I.kIn).2.2.hasType (by decide +kernel)
  have any : (backTo cpos (starEach (e :: es) X.env)).any (·.1) = false := star_any (by rw [List.all_cons, h, h2]; rfl)
  rw [arm_exec_Raise]
  refine wpAny_bind (wpAny_standAt (wpAny_raiseStmt_made_sub (C := C) (nm := nm) (q := qn) (N := Nn) (bs := bs) (bm := bm) (hdct := hd) (sn := sn) (sub := sub) (ab := ab) (col := col) (dd := dd) (k0 := k0) (k1 := k1) (k2 := k2) (k3 := k3) (k5 := k5) (newId := "ValueError.__new__") hbase (I.ok.hd hc) ?_))
  refine wpAny_bind (wpAny_mono (wpAny_Call_ofName (wpAny_mono ((pe_glob (v := .ref C) hg hm rfl hdb) pins s σ H (fun v H1 => v = .ref C ∧ t σ H1 fun vs H2 => vs.length ≤ sizeLine ∧ E (.ref C) none H2) I ⟨rfl, hq⟩) (fun u s1 ⟨v, H1, I1, r, ev, q⟩ => ?_) fun _ _ z => z)) (fun v s3 h3 => wpAny_bind (wpAny_standAt (wpAny_pure h3))) fun _ _ z => z)
  · subst ev
    obtain rfl : u = Value.ref C := r
    unfold callWith
    refine wpAny_bind (wpAny_holding (wpAny_mono (Q := fun a s2 => ∃ us H2, a = ⟨us, []⟩ ∧ us.length ≤ sizeLine ∧ Inv X pins σ H2 s2 ∧ E (.ref C) none H2) ?_ (fun a s2 h2 => wpAny_bind (wpAny_standAt ?_)) fun _ _ z => z))
    · rw [star_cons h]
      refine PySem.Calls.evalArgs_plain ?_
      have z := ha cpos pins s1 σ H1 _ I1 q
      rw [star_cons h] at z
      exact thn z fun us s2 ⟨vs, H2, I2, rv, hz2, q2⟩ => ⟨us, H2, rfl, by rw [← rv.length]; exact hz2, I2, q2⟩
    · obtain ⟨us, H2, rfl, hlen, I2, q2⟩ := h2
      obtain ⟨hp, gg, dr, tk, os⟩ := s2
      simp only [any]
      have KX : X.K.In hp := I2.kIn
      have hC := KX _ _ hl
      refine wpAny_bind (wpAny_keeperOf_exc hC ?_)
      refine wpAny_bind (wpAny_call_exc_subT (hrest := hlen) F.excBase_ValueError (hN KX).2.2 hC (hN KX).1 (hN KX).2.1 fun h' x' mk => wpAny_bind (wpAny_holding (wpAny_point (wpAny_pure ?_))))
      obtain ⟨t', ht', _, _⟩ := mk.there
      exact ⟨x', t', rfl, mk.keeps _ _ hC, ht', hz I2 mk q2⟩
end
end L2

namespace L2
open PySem PySem.Spec PyProof.Rows
section
variable {P : Program} {w : World} {K : PySem.W.Frag} {mg : Str → Option Value} {base : Heap}
theorem Fn.ok1 {x qual : Str} {st : Stmt} {f : Addr} {fd : FuncData} {N ps : List Str} {k : Nat} {sp : Sp} (F : Fn K x qual st f fd) (S : FnScope N ps (defScope st)) (len : ∀ vs H Q E, sp vs H Q E → vs.length = ps.length)
    (hbody : ∀ (cdv : Value) (A : Around) (outer : List Env) (s : Shared) (H : Hp) (vs : List V) (Q : VK) (E : XK), Room k (A.deeper (envOfC qual (defScope st) s.heap.objs.size f cdv)) → sp vs H Q E →
      ∃ t, PSs (cxOf (CX1 P w) P w K mg base N qual (defScope st) f cdv A outer s H E) (defBody st) t ∧ t { nx := fun _ H' => Q .non H', rt := Q } (start N vs) H) : FnOk P w K mg base (CX1 P w) (k + 1) f fd ps sp := by
  obtain ⟨oc, od, dV, kV, doc, pm, an, cdv, ct, osl, rfl, lk, hcd⟩ := F.ex
  exact fn_of lk hcd S len fun A outer s H vs Q E hr hsp => hbody cdv A outer s H vs Q E hr hsp
end
section
variable {X : Cx} {k : Nat} {ps : List Str} {sp : Sp} {x : Str} {st : Stmt} {p pos : Pos} {e : Expr} {es : List Expr} {t : TA} {E : XK}
theorem pcX (D : DefAt X.K X.mg x st ps) (G : FnOk X.prog X.w X.K X.mg X.base (CX1 X.prog X.w) k D.f D.fd ps sp) (hr : Room k X.A) (hx : Passes (CX1 X.prog X.w) X E) (ha : PA X (e :: es) t) (h : plE e = true := by rfl) (h2 : es.all plE = true := by rfl) (hg : Gl X x := by rfl) (hdb : (x == ("__debug__" : Str)) = false := by decide) :
    PE X (.Call (.Name x p) (e :: es) [] pos) (tCall sp [] E t) := pe_call G hr hg D.m D.F.kp D.b .nil hx ha hdb (star_cons h) (star_any h2)
end
noncomputable def XP (X : Cx) (pins : List (Addr × Obj)) (σ : St) (Ex : XK) (e : Value) (s' : Shared) : Prop := ∃ (x C T : Addr) (a0 : Value) (H' : Hp), e = .ref x ∧ Inv X pins σ H' s' ∧ ExAt s'.heap x (.ref C) a0 T .none ∧ X.s₀.heap.get? x = none ∧ X.s₀.heap.get? T = none ∧
  (∀ p ∈ X.pn ++ pins, p.1 ≠ x ∧ p.1 ≠ T) ∧ H' x = none ∧ H' T = none ∧ Ex (.ref C) none H'
noncomputable def PEX (X : Cx) (e : Expr) (tx : XK → TE) : Prop := ∀ (pins : List (Addr × Obj)) (s : Shared) (σ : St) (H : Hp) (Q : VK) (Ex : XK), Inv X pins σ H s → tx Ex σ H Q → wpAny (model X.prog X.w) X.A (eval e X.env) (EP X pins σ Q) (XP X pins σ Ex) s
section
variable {X : Cx} {pins : List (Addr × Obj)} {σ : St} {H H' : Hp} {s s' : Shared}
theorem Inv.afterX {Ex : XK} {e : Value} (I : Inv X pins σ H s) (hx : X.ex = []) (h : CX1 X.prog X.w X.stack H s Ex e s') : XP X pins σ Ex e s' := by
  obtain ⟨x, C, T, a0, H', rfl, os, bare, un, hok, ex, nx, nT, nHx, nHT, q⟩ := h
  refine ⟨x, C, T, a0, H', rfl, I.call' os un hok bare (fun b z => absurd z (by simp)), ex, I.none0 hx nx, I.none0 hx nT, fun p hp => ?_, nHx, nHT, q⟩
  have e := (I.pin p hp).1
  exact ⟨(fun z => by rw [z, nx] at e; cases e), (fun z => by rw [z, nT] at e; cases e)⟩
theorem pex_call {k : Nat} {ps : List Str} {sp : Sp} {x : Str} {st : Stmt} {p pos : Pos} {e : Expr} {es : List Expr} {t : TA} (hX : X.ex = []) (D : DefAt X.K X.mg x st ps) (G : FnOk X.prog X.w X.K X.mg X.base (CX1 X.prog X.w) k D.f D.fd ps sp) (hr : Room k X.A) (ha : PA X.nox (e :: es) t)
    (h : plE e = true := by rfl) (h2 : es.all plE = true := by rfl) (hg : Gl X x := by rfl) (hdb : (x == ("__debug__" : Str)) = false := by decide) : PEX X (.Call (.Name x p) (e :: es) [] pos) (fun Ex => tCall sp [] Ex t) := by
  intro pins s σ H Q Ex I hq
  refine wpAny_Call_Name_kw (ld_glob I hg D.m ?_ hdb)
  refine PySem.W.callWith_K (h₀ := X.base) I.ok.mod.kin D.F.kp (wpAny_mono (ha pos pins s σ H _ (I.wish _) hq) (fun us s1 ⟨vs, H1, I1, r, q⟩ => ⟨I1.unwish.kIn, ?_⟩) fun _ _ z => z.elim) (star_cons h) (star_any h2)
  have I1 := I1.unwish
  have r2 : Vals (vs ++ []) (us ++ []) := r.append .nil
  have hl : (us ++ []).length = ps.length := by rw [← r2.length]; exact G.len _ _ _ _ q
  refine wpAny_call (codeAny_mono (G.run X.A X.stack s1 H1 ⟨us, []⟩ (us ++ []) (vs ++ []) Q Ex hr I1.env0 (D.b s1 us I1.kIn hl) r2 q) fun r s' hq => ?_)
  cases r with
  | error e => exact I1.afterX hX hq
  | ok fl =>
    cases fl with
    | ret u => exact I1.after hq
    | next => exact False.elim hq
    | brk => exact False.elim hq
    | cont => exact False.elim hq
theorem Inv.but {h' : Heap} {l : List Addr} (I : Inv X pins σ H s) (hx : X.ex = []) (kb : KeepBut l (frs X.stack) s.heap h') (hl : ∀ b ∈ l, X.s₀.heap.get? b = none ∧ H b = none ∧ (∀ p ∈ X.pn ++ pins, p.1 ≠ b) ∧ ∃ vs, ∀ o, s.heap.get? b = some o → o.data = .fields vs) : Inv X pins σ H { s with heap := h' } := by
  have neL : X.env.locals ∉ l := fun z => by
    obtain ⟨m, ⟨o, es, ep, ho, hd, _⟩, _⟩ := I.loc
    obtain ⟨_, _, _, vs, hv⟩ := hl _ z
    have := hv o ho
    rw [hd] at this; cases this
  have neC : ∀ x c, X.env.cells.lookup x = some c → c ∉ l := fun x c e z => by
    obtain ⟨v, o, ho, hd⟩ := I.cell x c e
    obtain ⟨_, _, _, vs, hv⟩ := hl _ z
    have := hv o ho
    rw [hd] at this; cases this
  have nl : ∀ b o, X.s₀.heap.get? b = some o → b ∉ l := fun b o e z => by rw [(hl b z).1] at e; cases e
  have sub : ∀ b o, X.s₀.heap.get? b = some o → b ∈ frs X.stack → b ∈ X.fs := fun b o e z => by
    rcases List.mem_cons.mp (I.stkSub b z) with y | y
    · exact absurd y (Nat.ne_of_lt (Nat.lt_of_lt_of_le (Heap.lt_size e) I.ok.above))
    · exact y
  refine ⟨I.ok, I.os, I.bare, ⟨fun b o e n hb he => ?_, fun b o e n hb he => ?_, I.base.free, fun b o e he => ?_, I.base.tups, I.base.frzs, I.base.tbls⟩, ?_, fun x c e => ?_, I.free, I.freeC, fun p hp => ?_, hok_but I.hok kb (fun b hb => (hl b hb).2.1) I.stkFree, I.len⟩
  · exact kb.keep b o (nl b o e) (fun z => hb (sub b o e z)) (I.base.keep b o e n hb he)
  · obtain ⟨sl, e1⟩ := I.base.slot b o e n hb he
    obtain ⟨sl2, e2⟩ := kb.slot b _ (nl b o e) e1
    exact ⟨sl2, e2⟩
  · obtain ⟨o1, e1⟩ := I.base.there b o e he
    exact kb.there b o1 e1
  · obtain ⟨m, ⟨o, es, ep, ho, r⟩, hm⟩ := I.loc
    obtain ⟨sl, e⟩ := kb.slot _ o neL ho
    refine ⟨m, ⟨_, es, ep, e, r⟩, fun i x v e1 e2 e3 => ?_⟩
    obtain ⟨u, ru, lk⟩ := hm i x v e1 e2 e3
    refine ⟨u, ru, ?_⟩
    rcases lk with lk | ⟨kk, c, ec, oc, hoc, hdc⟩
    · exact .inl lk
    · obtain ⟨sl2, e'⟩ := kb.slot c oc (neC x c ec) hoc
      exact .inr ⟨kk, c, ec, _, e', hdc⟩
  · obtain ⟨v, o, ho, hd⟩ := I.cell x c e
    obtain ⟨sl, e'⟩ := kb.slot c o (neC x c e) ho
    exact ⟨v, _, e', hd⟩
  · obtain ⟨e, n, ne, nf, d⟩ := I.pin p hp
    refine ⟨kb.keep p.1 p.2 (fun z => (hl p.1 z).2.2.1 p hp rfl) (fun z => ?_) e, n, ne, nf, d⟩
    rcases List.mem_cons.mp (I.stkSub _ z) with y | y
    · exact ne y
    · exact nf y
noncomputable abbrev Cx.han (X : Cx) (x : Addr) : Cx := { X with A := X.A.mark (some (.ref x)), calm := false, xe := fun _ _ => False }
theorem Cx.Ok.han (ok : X.Ok) (x : Addr) : (X.han x).Ok :=
  ⟨ok.mod, ok.kind, ok.glob, ok.blt, ok.above, ok.inj, ok.has, ok.cab, (fun z => nomatch z), ok.frames, ok.stk, ok.exf, ok.bs, ok.bsz, ok.noex, ok.exfs, ok.funs, ok.frf⟩
theorem Inv.han {x : Addr} {ox : Obj} {vs : Array Value} (I : Inv X pins σ H s) (hx : H x = none) (n0 : X.s₀.heap.get? x = none) (np : ∀ p ∈ X.pn ++ pins, p.1 ≠ x) (e : s.heap.get? x = some ox) (d : ox.data = .fields vs) : Inv (X.han x) pins σ (upd H x (.frz ox (.own x))) s := by
  have neL : X.env.locals ≠ x := fun z => by
    obtain ⟨m, ⟨o, es, ep, ho, hd, _⟩, _⟩ := I.loc
    rw [z, e] at ho; cases ho; rw [d] at hd; cases hd
  have neC : ∀ y c, X.env.cells.lookup y = some c → c ≠ x := fun y c ec z => by
    obtain ⟨v, o, ho, hd⟩ := I.cell y c ec
    rw [z, e] at ho; cases ho; rw [d] at hd; cases hd
  have nt : ∀ {b : Addr} {u : HO}, H b = some u → b ≠ x := fun {b u} q z => by rw [z, hx] at q; cases q
  refine ⟨I.ok.han x, I.os, I.bare, ⟨I.base.keep, I.base.slot, fun b o eb n he => ?_, I.base.there, fun b xs q => ?_, fun b o u q => ?_, fun b ps q => ?_⟩, I.loc, I.cell, ?_, fun y c ec => ?_, fun p hp => ?_, fun b u q => ?_, I.len⟩
  · rw [upd_ne (fun z => by rw [z, n0] at eb; cases eb)]
    exact I.base.free b o eb n he
  · have z := I.base.tups b xs q
    rw [upd_ne (nt z)]; exact z
  · have z := I.base.frzs b o u q
    rw [upd_ne (nt z)]; exact z
  · obtain ⟨m, z⟩ := I.base.tbls b ps q
    exact ⟨m, by rw [upd_ne (nt z)]; exact z⟩
  · rw [upd_ne neL]; exact I.free
  · rw [upd_ne (neC y c ec)]; exact I.freeC y c ec
  · obtain ⟨a1, a2, a3⟩ := I.pin p hp
    exact ⟨a1, by rw [upd_ne (np p hp)]; exact a2, a3⟩
  · by_cases hb : b = x
    · subst hb
      rw [upd_same] at q
      cases q
      exact ⟨e, ox, e⟩
    · rw [upd_ne hb] at q
      exact (I.hok b u q).stay (fun _ _ _ z => z) (fun c z => by rw [upd_ne (nt z)]; exact z) fun c xs z => by rw [upd_ne (nt z)]; exact z
theorem Inv.goes {x : Addr} {h' : Heap} {m' : Str → Option Value} {t' : Nat} (I : Inv (X.han x) pins σ H s) (ok : X.Ok) (hn : h'.Ns X.env.locals m') (sb : Heap.SameBut X.env.locals s.heap h') : Inv X pins (List.replicate X.N.length none) H { s with heap := h', toks := t' } := by
  have ne0 : ∀ b o, X.s₀.heap.get? b = some o → b ≠ X.env.locals := fun b o e => Nat.ne_of_lt (Nat.lt_of_lt_of_le (Heap.lt_size e) ok.above)
  refine ⟨ok, I.os, I.bare, ⟨fun b o e n hb he => ?_, fun b o e n hb he => ?_, I.base.free, fun b o e he => ?_, I.base.tups, I.base.frzs, I.base.tbls⟩, ⟨m', hn, fun i y v e1 e2 => ?_⟩, fun y c e => ?_, I.free, I.freeC, fun p hp => ?_, fun b u q => ?_, by simp⟩
  · exact (sb.2 b (ne0 b o e)).trans (I.base.keep b o e n hb he)
  · obtain ⟨sl, e1⟩ := I.base.slot b o e n hb he
    exact ⟨sl, (sb.2 b (ne0 b o e)).trans e1⟩
  · obtain ⟨o1, e1⟩ := I.base.there b o e he
    exact ⟨o1, (sb.2 b (ne0 b o e)).trans e1⟩
  · rw [List.getElem?_replicate] at e2
    split at e2 <;> cases e2
  · obtain ⟨v, z⟩ := I.cell y c e
    exact ⟨v, z.sameBut sb (I.cne y c e)⟩
  · obtain ⟨a1, a2, a3, a4⟩ := I.pin p hp
    exact ⟨(sb.2 p.1 a3).trans a1, a2, a3, a4⟩
  · have nl : ∀ c, H c ≠ none → c ≠ X.env.locals := fun c n z => n (by rw [z]; exact I.free)
    refine (I.hok b u q).stay (fun c v hc z => (sb.2 c (nl c ?_)).trans z) (fun _ z => z) fun _ _ z => z
    rcases hc with y | y
    · rw [y, q]; exact fun z => nomatch z
    · rw [y]; exact fun z => nomatch z
end
end L2

namespace L2
open PySem PySem.Spec PyProof.Rows
noncomputable def HX (H : Hp) (x : Addr) (ox : Obj) : Prop := H x = some (.frz ox (.own x)) ∧ ∃ vs, ox.data = .fields vs ∧ vs[2]? = some .none
structure RoomH (k : Nat) (A : Around) (x : Addr) : Prop where
  hd : A.handled = some (.ref x)
  dp : A.depth + 3 * k + 5 < recursionLimit
  un : A.units + 16 * k + 200 < cLine
theorem RoomH.mono {j k : Nat} {A : Around} {x : Addr} (r : RoomH k A x) (h : j ≤ k) : RoomH j A x := ⟨r.hd, by have := r.dp; omega, by have := r.un; omega⟩
theorem RoomH.deeper {k : Nat} {A : Around} {x : Addr} (r : RoomH (k + 1) A x) (env : Env) : RoomH k (A.deeper env) x :=
  ⟨r.hd, by have := r.dp; show A.depth + 1 + 3 * k + 5 < _; omega, by have := r.un; show A.units + 3 + 16 * k + 200 < _; omega⟩
theorem Room.mark {k : Nat} {A : Around} (r : Room k A) (x : Addr) : RoomH k (A.mark (some (.ref x))) x := ⟨rfl, r.dp, r.un⟩
theorem RoomH.units0 {k : Nat} {A : Around} {x : Addr} (r : RoomH k A x) : A.units < cLine := by have := r.un; omega
noncomputable def Hdl (X : Cx) : Prop := ∃ x ox, X.A.handled = some (.ref x) ∧ HX X.H₀ x ox
structure FnOkH (P : Program) (w : World) (K : PySem.W.Frag) (mg : Str → Option Value) (base : Heap) (k : Nat) (f : Addr) (fd : FuncData) (ps : List Str) (sp : Sp) : Prop where
  len : ∀ vs H Q E, sp vs H Q E → vs.length = ps.length
  run : ∀ (A : Around) (outer : List Env) (s : Shared) (H : Hp) (args : Args) (us : List Value) (vs : List V) (Q : VK) (x : Addr) (ox : Obj), RoomH k A x → HX H x ox → Env0 P w K mg base A outer s H → BindsTo s fd args (ps.zip us) → Vals vs us → sp vs H Q E0 →
    codeAny (model P w) A (.call (.ref f) args) (CR CX0 outer P w H s Q E0) s
noncomputable abbrev cxOfH (P : Program) (w : World) (K : PySem.W.Frag) (mg : Str → Option Value) (base : Heap) (N : List Str) (qual : Str) (scope : Scope) (f : Addr) (cd : Value) (A : Around) (outer : List Env) (s : Shared) (H : Hp) : Cx :=
  { cxOf CX0 P w K mg base N qual scope f cd A outer s H E0 with calm := false, xe := fun _ _ => False }
section
variable {P : Program} {w : World} {K : PySem.W.Frag} {mg : Str → Option Value} {base : Heap}
theorem fn_ofH {k : Nat} {f : Addr} {name qual : Str} {params : Arguments} {body : List Stmt} {scope : Scope} {dV kV doc pm cdv ct oc : Value} {an od : Option Addr} {osl : Array (Option Value)} {N ps : List Str} {sp : Sp}
    (lk : K.lookup f = some ⟨oc, od, .func (PySem.W.fnOf name qual params body scope dV kV doc pm an cdv ct), osl⟩) (hcd : PySem.W.codeIn K cdv qual = true) (S : FnScope N ps scope) (len : ∀ vs H Q E, sp vs H Q E → vs.length = ps.length)
    (hbody : ∀ (A : Around) (outer : List Env) (s : Shared) (H : Hp) (vs : List V) (Q : VK) (x : Addr) (ox : Obj), RoomH k (A.deeper (envOfC qual scope s.heap.objs.size f cdv)) x → HX H x ox → sp vs H Q E0 →
      ∃ t, PSs (cxOfH P w K mg base N qual scope f cdv A outer s H) body t ∧ t { nx := fun _ H' => Q .non H', rt := Q } (start N vs) H) :
    FnOkH P w K mg base (k + 1) f (PySem.W.fnOf name qual params body scope dV kV doc pm an cdv ct) ps sp := by
  refine ⟨len, fun A outer s H args us vs Q x ox hr hx e0 hb r hsp => ?_⟩
  have hl := len _ _ _ _ hsp
  have KX : K.In s.heap := e0.mod.kin.keeps fun b o e => (e0.bs b o e).1
  have lim : s.heap.NoLimit := e0.mod.nolimit.keeps fun b o e => (e0.bs b o e).1
  have hkind : ∀ y ∈ ps.zip us, scope.names.lookup y.1 = some .local ∨ (scope.names.lookup y.1 = some .cell ∧ ((cellsFrom (s.heap.objs.size + 1) scope.names []).lookup y.1).isSome = true) := fun ⟨n, v⟩ hy => by
    rcases S.par n (List.of_mem_zip hy).1 with q | q
    · exact .inl q
    · exact .inr ⟨q, PySem.W.cellsFrom_some _ _ _ (.inl q)⟩
  have hdepth : A.depth < recursionLimit := by have := hr.dp; omega
  refine codeAny_call_function hdepth (KX _ _ lk) rfl S.co S.gen rfl (PySem.W.codeRec_of KX hcd) (hb _ _ _ _ ?_)
  refine wpAny_newFunctionEnv_cells S.kind hkind fun env he s1 y => ?_
  subst he
  refine ⟨lim.keeps y.toInCall.keep, codeAny_func ?_⟩
  obtain ⟨t, ht, hq⟩ := hbody A outer s H vs Q x ox (hr.deeper _) hx hsp
  have e0' : Env0 P w K mg base { A with handled := none } outer s H := ⟨e0.frames, e0.mod, e0.bs, e0.bsz, e0.funs, e0.frf, e0.hok, e0.bare⟩
  have I0 : Inv (cxOf CX0 P w K mg base N qual scope f cdv { A with handled := none } outer s H E0) [] (start N vs) H s1 := inv_start S rfl e0' hl r y
  have ok := I0.ok
  have I : Inv (cxOfH P w K mg base N qual scope f cdv A outer s H) [] (start N vs) H s1 :=
    ⟨⟨ok.mod, ok.kind, ok.glob, ok.blt, ok.above, ok.inj, ok.has, ok.cab, (fun z => nomatch z), ok.frames, ok.stk, ok.exf, ok.bs, ok.bsz, ok.noex, ok.exfs, ok.funs, ok.frf⟩, I0.os, I0.bare, I0.base, I0.loc, I0.cell, I0.free, I0.freeC, I0.pin, I0.hok, I0.len⟩
  refine wpAny_mono (ht [] s1 (start N vs) H _ I hq) (fun fl s' hs => ?_) fun e s' hs => False.elim hs
  have fin : ∀ {σ' : St} {H' : Hp} {v : V} {u : Value}, Inv (cxOfH P w K mg base N qual scope f cdv A outer s H) [] σ' H' s' → RelV v u → Q v H' → CE outer P w H s Q u s' :=
    fun {σ' H' v u} J rv q => ⟨v, H', J.os, J.bare, J.base, J.hok, rv, q⟩
  cases fl with
  | ret u =>
    obtain ⟨v, σ', H', J, rv, q⟩ := hs
    exact fin J rv q
  | next =>
    obtain ⟨σ', H', J, q⟩ := hs
    exact fin (v := V.non) (u := Value.none) J rfl q
  | brk =>
    obtain ⟨_, _, _, q⟩ := hs
    exact False.elim q
  | cont =>
    obtain ⟨_, _, _, q⟩ := hs
    exact False.elim q
theorem Fn.okH {x qual : Str} {st : Stmt} {f : Addr} {fd : FuncData} {N ps : List Str} {k : Nat} {sp : Sp} (F : Fn K x qual st f fd) (S : FnScope N ps (defScope st)) (len : ∀ vs H Q E, sp vs H Q E → vs.length = ps.length)
    (hbody : ∀ (cdv : Value) (A : Around) (outer : List Env) (s : Shared) (H : Hp) (vs : List V) (Q : VK) (y : Addr) (oy : Obj), RoomH k (A.deeper (envOfC qual (defScope st) s.heap.objs.size f cdv)) y → HX H y oy → sp vs H Q E0 →
      ∃ t, PSs (cxOfH P w K mg base N qual (defScope st) f cdv A outer s H) (defBody st) t ∧ t { nx := fun _ H' => Q .non H', rt := Q } (start N vs) H) : FnOkH P w K mg base (k + 1) f fd ps sp := by
  obtain ⟨oc, od, dV, kV, doc, pm, an, cdv, ct, osl, rfl, lk, hcd⟩ := F.ex
  exact fn_ofH lk hcd S len fun A outer s H vs Q y oy hr hx hsp => hbody cdv A outer s H vs Q y oy hr hx hsp
end
noncomputable def tCallH (x : Addr) (sp : Sp) (t : TA) : TE := fun σ H Q => t σ H fun vs H1 => (∃ ox, HX H1 x ox) ∧ sp (vs ++ []) H1 Q E0
section
variable {X : Cx} {k : Nat} {ps : List Str} {sp : Sp} {x : Str} {st : Stmt} {p pos : Pos} {e : Expr} {es : List Expr} {t : TA} {y : Addr}
theorem pcH (D : DefAt X.K X.mg x st ps) (G : FnOkH X.prog X.w X.K X.mg X.base k D.f D.fd ps sp) (hr : RoomH k X.A y) (ha : PA X (e :: es) t) (h : plE e = true := by rfl) (h2 : es.all plE = true := by rfl) (hg : Gl X x := by rfl) (hdb : (x == ("__debug__" : Str)) = false := by decide) :
    PE X (.Call (.Name x p) (e :: es) [] pos) (tCallH y sp t) := by
  intro pins s σ H Q I hq
  refine wpAny_Call_Name_kw (ld_glob I hg D.m ?_ hdb)
  refine PySem.W.callWith_K (h₀ := X.base) I.ok.mod.kin D.F.kp (thn (ha pos pins s σ H _ I hq) fun us s1 ⟨vs, H1, I1, r, hx, q⟩ => ⟨I1.kIn, ?_⟩) (star_cons h) (star_any h2)
  obtain ⟨ox, hx⟩ := hx
  have r2 : Vals (vs ++ []) (us ++ []) := r.append .nil
  have hl : (us ++ []).length = ps.length := by rw [← r2.length]; exact G.len _ _ _ _ q
  refine wpAny_call (codeAny_mono (G.run X.A X.stack s1 H1 ⟨us, []⟩ (us ++ []) (vs ++ []) Q y ox hr hx I1.env0 (D.b s1 us I1.kIn hl) r2 q) fun r s' hq => ?_)
  cases r with
  | error e => exact False.elim hq
  | ok fl =>
    cases fl with
    | ret u => exact I1.after hq
    | next => exact False.elim hq
    | brk => exact False.elim hq
    | cont => exact False.elim hq
end
theorem Hdl.now {X : Cx} {pins : List (Addr × Obj)} {σ : St} {H : Hp} {s : Shared} (h : Hdl X) (I : Inv X pins σ H s) : ∃ x ox vs, X.A.handled = some (.ref x) ∧ H x = some (.frz ox (.own x)) ∧ s.heap.get? x = some ox ∧ ox.data = .fields vs ∧ vs[2]? = some .none := by
  obtain ⟨x, ox, hh, hx, vs, d, v2⟩ := h
  have z := I.base.frzs x ox _ hx
  exact ⟨x, ox, vs, hh, z, (I.hok x _ z).1, d, v2⟩
theorem Hdl.comp {X : Cx} (h : Hdl X) {N' : List Str} {scope : Scope} {pins : List (Addr × Obj)} {σ : St} {H₂ : Hp} {s₂ : Shared} (cl : List (Str × Addr)) (C : Addr) (fp : List Addr) (pn : List (Addr × Obj)) (I : Inv X pins σ H₂ s₂) : Hdl (cxComp X N' scope cl C fp pn s₂ H₂) := by
  obtain ⟨x, ox, hh, hx, r⟩ := h
  exact ⟨x, ox, hh, I.base.frzs x ox _ hx, r⟩
theorem turn_listH {P : Program} {w : World} {K : PySem.W.Frag} {tg : Expr} (a it : Addr) : TurnC Hdl P w K tg (Itl K a) [it] it (fun i h => h.IsListIter it a i) where
  mem := by simp
  obj := (turn_list (P := P) (w := w) (K := K) (tg := tg) a it).obj
  keep := (turn_list (P := P) (w := w) (K := K) (tg := tg) a it).keep
  item := by
    intro X hP hw hK hc i pins s σ H E I hf st hg
    subst hP hw hK
    obtain ⟨xs, x, hq, hx⟩ := hg
    obtain ⟨its, rv, p, hz⟩ := I.list hq
    obtain ⟨u, hu, ru⟩ := rv.get hx
    obtain ⟨f0, f1, f2, f3, f4, f5⟩ := hf it (by simp)
    refine wpAny_pyNext_list_item st p.isList (x := u) (by simpa using hu) fun h' st' sb => ?_
    have I1 : Inv X pins σ H { s with heap := h' } := I.turned (t' := s.toks) (fun b o hb e => (sb.2 b hb).trans e) f0 f1 f3 f4 f5
    obtain ⟨o, e, c, d⟩ := id st'
    exact ⟨u, rfl, go_of (s := { s with heap := h' }) e c d (by decide) ⟨x, H, I1, ru, ⟨rfl, fun ys hy => by rw [I.list_inj hy hq]; exact hx⟩, st', fun b hb => (hf b hb).1⟩⟩
  done := by
    intro X hP hw hK hc i pins s σ H E I hf st hg
    subst hP hw hK
    obtain ⟨xs, hq, hx⟩ := hg
    obtain ⟨its, rv, p, hz⟩ := I.list hq
    obtain ⟨f0, f1, f2, f3, f4, f5⟩ := hf it (by simp)
    have hl := rv.length
    obtain ⟨y, oy, vs, hh, hy, ey, dy, v2⟩ := hc.now I
    have ne : it ≠ y := fun z => by rw [z, hy] at f0; cases f0
    exact next_end_within hh ey dy v2 ne st p.isList (by simp; omega) fun h' eb => ⟨rfl, I.turned (t' := s.toks) (fun b o hb e => eb b o hb e) f0 f1 f3 f4 f5⟩
  self := (turn_list (P := P) (w := w) (K := K) (tg := tg) a it).self
theorem pi_listH {X : Cx} {K : PySem.W.Frag} {tg l : Expr} {tl : TE} (hl : PE X l tl) (hK : X.K = K := by rfl) : PIC Hdl X tg l (iList K tl) := by
  subst hK
  intro pins s σ H R I h
  refine thn (hl pins s σ H _ I h) fun v s1 ⟨x, H1, I1, r1, q1⟩ => ?_
  obtain ⟨a, e, ⟨xs, hq⟩, q⟩ := q1
  subst e
  cases r1
  obtain ⟨its, rv, p, hz⟩ := I1.list hq
  refine wpAny_pyIter_list p.isList ?_
  refine ⟨s1.heap.objs.size, [s1.heap.objs.size], _, _, H1, rfl, I1.kept (t' := s1.toks) fun b o e => Heap.get?_push_of_some _ e, turn_listH a _, ⟨_, Heap.get?_push_size _ rfl, rfl, rfl⟩, fun b hb => ?_, q⟩
  have e : b = s1.heap.objs.size := by simpa using hb
  subst e
  exact I1.fpOk (Nat.le_refl _) (I1.hok.fresh (Nat.le_refl _))
theorem pg_tupH {X : Cx} {K : PySem.W.Frag} {es : List Expr} {k : Nat} {t : TGs} {n : Nat} {pos : Pos} (hd : Hdl X) (h : PGs X es t) (hK : X.K = K := by rfl)
    (hn : (assignEach es X.env).length = n := by rfl) (hst : (assignEach es X.env).findIdx? (·.1) = none := by rfl) : PG X (.Tuple es k pos) (gTup K n t) := by
  subst hK
  intro pins s σ H v u Q I r hw
  obtain ⟨a, xs, e1, hq, hl, hw⟩ := hw
  subst e1
  cases r
  obtain ⟨its, rv, ht, hz⟩ := I.tuple hq
  obtain ⟨y, oy, vs, hh, hy, ey, dy, v2⟩ := hd.now I
  refine assign_within hh ey dy v2 ht (by simp [hn, ← hl, rv.length]) hst fun h' hx => ?_
  have I1 : Inv X pins σ H { s with heap := h' } := I.kept (t' := s.toks) fun b o e => hx b o (Nat.ne_of_lt (Heap.lt_size e)) e
  exact h pins _ σ H xs _ Q I1 (by simpa using rv) hw
structure ExCls (K : PySem.W.Frag) (D : Addr) : Prop where
  ga : PySem.W.findIn K (.ref D) "__getattribute__" = some (some (.builtin "BaseException.__getattribute__"))
  gt : PySem.W.findIn K (.ref D) "__getattr__" = some none
  cl : (PySem.W.clsIn K D).isSome = true
  ha : PySem.W.findIn K (.ref D) "__class__" = some (some (.builtin "object.__class__"))
  hn : PySem.W.specialIn K (.builtin "object.__class__") "__get__" = some (some (.builtin "getset_descriptor.__get__"))
  tk : PySem.W.takesIn K (.builtin "object.__class__") = some true
  hm : PySem.W.mroIn K D (.type "object") = some true
  me : PySem.W.mroIn K D (.type "BaseException") = some true
theorem find_data {K : PySem.W.Frag} {C : Addr} {od : Option Obj} {name : Str} {a g : Value} (hc : (PySem.W.clsIn K C).isSome = true) (ha : PySem.W.findIn K (.ref C) name = some (some a)) (hg : PySem.W.specialIn K a "__get__" = some (some g)) (ht : PySem.W.takesIn K a = some true) : PySem.W.findObj K C od name = some (.bind g a) := by
  obtain ⟨cd, hc⟩ := Option.isSome_iff_exists.mp hc
  unfold PySem.W.findObj
  rw [hc, Option.bind_some, ha, Option.bind_some]
  simp only [hg, ht, Option.bind_some]
  try rfl
theorem kitx_exc {K : PySem.W.Frag} {x D : Addr} {ox : Obj} (c : ExCls K D) : PySem.W.KitX K (.ref x) (.ref D) (fun h => PySem.W.InstAt h x ox D none) where
  ty := fun _ _ _ I => I.type
  it := fun _ _ X _ => by
    have hcD := c.cl
    unfold PySem.W.clsIn at hcD
    split at hcD
    · rename_i c' d' cd' sl' ho
      intro A' Q' E' s' k q
      unfold isType loadHead
      exact wpAny_bind (wpAny_loadPart (k _ _ (X _ _ ho)) (wpAny_pure q))
    · cases hcD
  ne := fun h tp dd its n sl X htp => by
    refine Bool.eq_false_iff.mpr fun q => ?_
    have e : D = tp := Value.ref.inj (beq_iff_eq.mp q)
    subst e
    have hcD := c.cl
    unfold PySem.W.clsIn at hcD
    split at hcD
    · rename_i c' d' cd' sl' ho
      have z := (X _ _ ho).symm.trans htp
      cases z
    · cases hcD
  ca := fun X I k => kinx_class X I c.ga c.gt (find_data c.cl c.ha c.hn c.tk) c.hm c.me k
noncomputable def ExOb (ox : Obj) (D : Addr) : Prop := ox.cls = .ref D ∧ ox.dict = none ∧ ∃ vs, ox.data = .fields vs ∧ vs[2]? = some .none
noncomputable def vTy : V → Value
  | .ref a => .ref a
  | .ty T => .type T
  | _ => .none
noncomputable def rIsiX (K : PySem.W.Frag) : List V → Hp → VK → Prop := fun xs H Q => ∃ x ox D c b, xs = [.ref x, c] ∧ H x = some (.frz ox (.own x)) ∧ ExOb ox D ∧ ExCls K D ∧ ((∃ a, c = .ref a) ∨ ∃ T, c = .ty T) ∧ PySem.W.kitOne K (.ref D) (vTy c) = some b ∧ Q (.bl b) H
theorem o_isiX {X : Cx} {K : PySem.W.Frag} (hK : X.K = K := by rfl) : CallR X (.builtin "isinstance") (rIsiX K) := by
  subst hK
  intro pins s σ H xs us Q I r h
  obtain ⟨x, ox, D, c, b, rfl, hx, ⟨oc, od, vs, dv, _⟩, cl, hc, e, q⟩ := h
  obtain ⟨u1, u2, rfl, r1, r2⟩ := vals2 r
  cases r1
  have ex : s.heap.get? x = some ox := (I.hok x _ hx).1
  have inst : PySem.W.InstAt s.heap x ox D none := by
    refine ⟨ex, oc, ?_, by rw [od]; trivial⟩
    unfold PySem.W.notCls
    rw [dv]
  have go : PySem.W.kitOne X.K (.ref D) u2 = some b := by
    rcases hc with ⟨a, rfl⟩ | ⟨T, rfl⟩
    · cases r2; exact e
    · cases r2; exact e
  exact PySem.W.kia_one (kitx_exc cl) I.kIn inst go (fun z => nomatch z) fun tk => ⟨.bl b, H, I.tok tk, rfl, q⟩
end L2

namespace L2
open PySem PySem.Spec PyProof.Rows
theorem KeepBut.skip {l fs : List Addr} {T : Addr} {h h1 h2 : Heap} (a : KeepBut l fs h h1) (b : KeepBut [T] fs h1 h2) (n : h.get? T = none) : KeepBut l fs h h2 where
  keep := fun c o x y e => b.keep c o (fun z => by rw [List.mem_singleton.mp z, n] at e; cases e) y (a.keep c o x y e)
  slot := fun c o x e => by
    obtain ⟨sl, e1⟩ := a.slot c o x e
    obtain ⟨sl2, e2⟩ := b.slot c _ (fun z => by rw [List.mem_singleton.mp z, n] at e; cases e) e1
    exact ⟨sl2, e2⟩
  there := fun c o e => by
    obtain ⟨o1, e1⟩ := a.there c o e
    exact b.there c o1 e1
section
variable {prog : Program} {w : World} {A : Around} {E : Value → Shared → Prop} {s : Shared} {env : Env}
theorem handle_as {e : Addr} {t : Expr} {n : Str} {b₀ : Stmt} {suite : List Stmt} {pos : Pos} {rest : List ExceptHandler} {Q : Flow → Shared → Prop}
    (h : wpAny (model prog w) (A.mark (some (.ref e))) (eval t env) (fun c s1 => wpAny (model prog w) (A.mark (some (.ref e))) (excMatches (.ref e) c) (fun b s2 => b = true ∧
      wpAny (model prog w) (A.mark (some (.ref e))) (setFlight (.ref e) none) (fun _ s3 => wpAny (model prog w) (A.mark (some (.ref e))) (storeName env n (.ref e)) (fun _ s4 =>
        wpAny (model prog w) (A.mark (some (.ref e))) (execs (b₀ :: suite) env) (fun f s5 => wpAny (model prog w) A (do bindName env n .none; unbindBehindTheSuite env n pos) (fun _ s6 => Q f s6) E s5)
          (fun _ _ => False) s4) (fun _ _ => False) s3) (fun _ _ => False) s2) (fun _ _ => False) s1) (fun _ _ => False) s) :
    wpAny (model prog w) A (handleBy (.ref e) env (.ExceptHandler (some t) (some n) (b₀ :: suite) pos :: rest)) Q E s := by
  refine wpAny_handleBy_cons (codeAny_handlers_test (wpAny_mono h (fun c s1 h1 => wpAny_mono h1 (fun b s2 h2 => ?_) fun _ _ z => z.elim) fun _ _ z => z.elim)) (by intro q; cases q)
  obtain ⟨rfl, k⟩ := h2
  refine codeAny_handlers_suite_as (wpAny_mono k (fun _ s3 h3 => wpAny_mono h3 (fun _ s4 h4 => wpAny_mono h4 (fun f s5 h5 => h5) fun _ _ z => z.elim) fun _ _ z => z.elim) fun _ _ z => z.elim)
end
noncomputable def tTryR (K : PySem.W.Frag) (C : Addr) (i : Nat) (tx : XK → TE) (ts : Addr → TS) : TS := fun D σ H => tx (fun cls _ H1 => ∃ C', cls = .ref C' ∧ PySem.W.exmOne K (.ref C') (.ref C) = some true ∧
  ∀ x ox, H1 x = none → ExOb ox C' → ts x { nx := fun _ _ => False, rt := D.rt } (σ.set i (some (.ref x))) (upd H1 x (.frz ox (.own x)))) σ H D.rt
section
variable {X : Cx} {K : PySem.W.Frag} {e : Expr} {tx : XK → TE} {cn n : Str} {C : Addr} {i : Nat} {b₀ : Stmt} {suite : List Stmt} {rpos np hpos pos : Pos} {ts : Addr → TS}
theorem ps_tryR (hX : X.ex = []) (hst : X.stack = X.env :: X.outer) (hfr : X.env.frame = some X.env.locals) (hN : X.N.Nodup) (hi : X.N[i]? = some n) (hl : X.env.scope.names.lookup n = some .local) (hg : Gl X cn) (hm : X.mg cn = some (.ref C)) (he : PEX X e tx) (hs : ∀ x, PSs (X.han x) (b₀ :: suite) (ts x))
    (hK : X.K = K := by rfl) (hdb : (cn == ("__debug__" : Str)) = false := by decide) : PS X (.Try [.Return (some e) rpos] [.ExceptHandler (some (.Name cn np)) (some n) (b₀ :: suite) hpos] [] [] pos) (tTryR K C i tx ts) := by
  subst hK
  intro pins s σ H D I hq
  refine wpAny_Try_except (wpAny_execs_cons (wpAny_Return_some (wpAny_mono (he pins s σ H D.rt _ I hq) (fun v s1 ⟨y, H1, I1, r1, q1⟩ => ⟨y, σ, H1, I1, r1, q1⟩) fun ev s1 h1 => ?_)))
  obtain ⟨x, C', T, a0, H1, rfl, I1, ex, n0, nT0, np', hx, hT, C'', ec, hex, q⟩ := h1
  cases ec
  have hframes : X.A.frames = some (X.env :: X.outer) := by rw [← hst]; exact I1.ok.frames
  have hstack : s1.heap.FunFrames X.base (X.env :: X.outer) := by rw [← hst]; exact I1.stack
  refine note_next (base := X.base) (outer := X.outer) hframes hstack hfr ex fun h2 T2 ex2 nT2 kb2 => ?_
  refine flight_rule (s := { s1 with heap := h2 }) (fr := none) (fs := (X.env :: X.outer).filterMap (·.frame)) ex2 fun h3 ex3 kb3 => ?_
  have kb : KeepBut [x, T] (frs X.stack) s1.heap h3 := by
    have z := kb2.skip kb3 nT2
    rw [hst]
    exact z
  obtain ⟨ox1, vs1, oT1, ts1, g1, ⟨c1, d1⟩, f1, v0, v1, v2, ne1, gT, fT, t3⟩ := ex
  have I3 : Inv X pins σ H1 { s1 with heap := h3 } := I1.but hX kb fun b hb => by
    rcases List.mem_cons.mp hb with z | z
    · subst z
      exact ⟨n0, hx, (fun p hp => (np' p hp).1), vs1, fun o e => by rw [g1] at e; cases e; exact f1⟩
    · rw [List.mem_singleton.mp z]
      exact ⟨nT0, hT, (fun p hp => (np' p hp).2), ts1, fun o e => by rw [gT] at e; cases e; exact fT⟩
  obtain ⟨ox, vs, oT, tt, g3, ⟨c3, d3⟩, f3, w0, w1, w2, ne3, gT3, fT3, u3⟩ := id ex3
  have I4 : Inv (X.han x) pins σ (upd H1 x (.frz ox (.own x))) { s1 with heap := h3 } := I3.han hx n0 (fun p hp => (np' p hp).1) g3 f3
  have hT2 : H1 T2 = none := I1.hok.no nT2
  have nT20 : X.s₀.heap.get? T2 = none := I1.none0 hX nT2
  refine handle_as (ld_glob (X := X.han x) I4 hg hm ?_ hdb)
  have LT : PySem.W.Looks (model X.prog X.w) h3 (typeOf (.ref x)) (.ref C') := (PySem.W.InstAt.type (od := none) ⟨g3, c3, by unfold PySem.W.notCls; rw [f3], by rw [d3]; trivial⟩)
  refine (PySem.W.exm_one (M := model X.prog X.w) (h := h3) I3.kIn LT hex).at ⟨rfl, ?_⟩
  refine flight_rule (s := { s1 with heap := h3 }) (fr := none) (fs := frs X.stack) ex3 fun h5 ex5 kb5 => ?_
  have I5 : Inv (X.han x) pins σ (upd H1 x (.frz ox (.own x))) { s1 with heap := h5 } := I4.but (s := { s1 with heap := h3 }) (l := [T2]) hX kb5 fun b hb => by
    rw [List.mem_singleton.mp hb]
    refine ⟨nT20, by rw [upd_ne ne3]; exact hT2, (fun p hp z => ?_), tt, fun o e => by
      have e' : h3.get? T2 = some o := e
      rw [gT3] at e'; cases e'; exact fT3⟩
    have e := (I1.pin p hp).1
    rw [z, nT2] at e; cases e
  refine store_ok (X := X.han x) (i := i) (v := .ref x) I5 hN hi (.inl hl) rfl (fun s6 I6 => ?_) (.inr hl)
  refine wpAny_mono (hs x pins s6 _ _ { nx := fun _ _ => False, rt := D.rt } I6 (q x ox hx ⟨c3, d3, vs, f3, w2⟩)) (fun f s7 h7 => ?_) fun _ _ z => z
  cases f with
  | next => obtain ⟨_, _, _, z⟩ := h7; exact False.elim z
  | brk => obtain ⟨_, _, _, z⟩ := h7; exact False.elim z
  | cont => obtain ⟨_, _, _, z⟩ := h7; exact False.elim z
  | ret u =>
    obtain ⟨v, σ', H7, I7, r, q7⟩ := h7
    obtain ⟨m, hm7, _⟩ := id I7.loc
    have hcls : (X.env.scope.kind == .class || (X.env.scope.kind == .module && X.env.locals != X.env.globals)) = false := by rw [I.ok.kind]; rfl
    refine wpAny_nameGoes (m := m) (show X.env.kindOf n = some .local from hl) hm7 hcls fun h8 m8 hn8 sb8 => ?_
    exact ⟨v, _, H7, I7.goes I.ok hn8 sb8, r, q7⟩
end
end L2

namespace L2
open PySem
noncomputable def numUp : V → Int → Bool
  | .int i, m => decide (0 ≤ i ∧ i ≤ m)
  | _, _ => false
noncomputable def isInt : V → Bool
  | .int _ => true
  | _ => false
theorem sl1000 {n : Nat} (h : n ≤ 100000) : n ≤ sizeLine := by rw [sizeLine_eq]; omega
theorem cxK {CX : CXT} {P : Program} {w : World} {K : PySem.W.Frag} {mg : Str → Option Value} {base : Heap} {N : List Str} {qual : Str} {scope : Scope} {f : Addr} {cd : Value} {A : Around} {outer : List Env} {s : Shared} {H : Hp} {E : XK} : (cxOf CX P w K mg base N qual scope f cd A outer s H E).K = K := rfl
theorem cutTo1 (l : List Nat) : cutL l none (some 1) = l.take 1 := by
  unfold cutL
  rw [HT.sIx_none, show (some (1 : Int)) = some ((1 : Nat) : Int) from rfl, HT.sIx_nat, List.drop_zero, Nat.sub_zero]
  rcases Nat.lt_or_ge l.length 1 with h | h
  · rw [Nat.min_eq_right (by omega), List.take_of_length_le (Nat.le_refl _), List.take_of_length_le (by omega)]
  · rw [Nat.min_eq_left h]
theorem cutFrom (l : List Nat) (k : Nat) : cutL l (some (k : Int)) none = l.drop k := by
  unfold cutL
  rw [HT.sIx_none, HT.sIx_nat, List.take_of_length_le (by rw [List.length_drop]; omega)]
  rcases Nat.lt_or_ge l.length k with h | h
  · rw [Nat.min_eq_right (by omega), List.drop_of_length_le (Nat.le_refl _), List.drop_of_length_le (by omega)]
  · rw [Nat.min_eq_left h]
theorem cutFrom1 (l : List Nat) : cutL l (some 1) none = l.drop 1 := cutFrom l 1
theorem ifN {c : Bool} {A B : Prop} (h : c = false) (b : B) : if c = true then A else B := by
  subst h
  exact iteF b
theorem ifY {c : Bool} {A B : Prop} (h : c = true) (a : A) : if c = true then A else B := by
  subst h
  exact iteT a
noncomputable def cellF (ns : List Int) (k : Int) : Int := ns.getD k.toNat 0
noncomputable def mixF (ns : List Int) (k : Int) : Int := (cellF ns k * 48271 + 7919 * k * k * k + 104729) % 2147483647 * 16807 % 2147483629
noncomputable def nextF (n k : Int) : Int := (n * (k * k + 1) + 1009 * k + 11) * 69621 % 2147483629
theorem mix_b (ns : List Int) (k : Int) : 0 ≤ mixF ns k ∧ mixF ns k < 2147483629 := ⟨Int.emod_nonneg _ (by decide), Int.emod_lt_of_pos _ (by decide)⟩
theorem next_b (n k : Int) : 0 ≤ nextF n k ∧ nextF n k < 2147483629 := ⟨Int.emod_nonneg _ (by decide), Int.emod_lt_of_pos _ (by decide)⟩

theorem Same.set {H H' : Hp} {l : Addr} {o : HO} (e : Same H H') (h : H l = none) : Same H (L2.upd H' l o) := fun b u q => by
  rw [upd_ne (ne_of_none q h)]
  exact e b u q
theorem Same.no {H H' : Hp} (e : Same H H') {l : Addr} (h : H' l = none) : H l = none := e.free h
noncomputable def NoL (K : PySem.W.Frag) (H : Hp) (x : V) : Prop := ∃ T0, TyOf K H x (.type T0) ∧ kitB T0 "list" = some false
theorem TyOf.same {K : PySem.W.Frag} {H H' : Hp} {x : V} {T : String} (e : Same H H') (k : TyOf K H x (.type T)) : TyOf K H' x (.type T) := by
  cases k with
  | non => exact .non
  | bl b => exact .bl b
  | int i => exact .int i
  | str z => exact .str z
  | flt z => exact .flt z
  | lst h => exact .lst (e _ _ h)
  | frz h => exact .frz (e _ _ h)
  | tup h => exact .tup (e _ _ h)
  | dK h => exact .dK (e _ _ h)
  | dT h => exact .dT (e _ _ h)
theorem NoL.same {K : PySem.W.Frag} {H H' : Hp} {x : V} (e : Same H H') (k : NoL K H x) : NoL K H' x := let ⟨T, a, b⟩ := k; ⟨T, a.same e, b⟩
theorem NoL.non {K : PySem.W.Frag} {H : Hp} : NoL K H .non := ⟨_, .non, by decide +kernel⟩
theorem NoL.bl {K : PySem.W.Frag} {H : Hp} {b : Bool} : NoL K H (.bl b) := ⟨_, .bl b, by decide +kernel⟩
theorem NoL.int {K : PySem.W.Frag} {H : Hp} {i : Int} : NoL K H (.int i) := ⟨_, .int i, by decide +kernel⟩
theorem NoL.str {K : PySem.W.Frag} {H : Hp} {z : Str} : NoL K H (.str z) := ⟨_, .str z, by decide +kernel⟩
theorem NoL.tup {K : PySem.W.Frag} {H : Hp} {a : Addr} {xs : List V} (e : H a = some (.tup xs)) : NoL K H (.ref a) := ⟨_, .tup e, by decide +kernel⟩
theorem NoL.dK {K : PySem.W.Frag} {H : Hp} {a : Addr} {xs : List (Key × V)} (e : H a = some (.dK xs)) : NoL K H (.ref a) := ⟨_, .dK e, by decide +kernel⟩
theorem isi_nl {K : PySem.W.Frag} {H : Hp} {x : V} {Q : VK} (k : NoL K H x) (q : Q (.bl false) H) : rIsi K [x, .ty "list"] H Q := let ⟨T0, a, b⟩ := k; ⟨x, T0, "list", false, rfl, a, b, q⟩
theorem isi_l {K : PySem.W.Frag} {H : Hp} {a : Addr} {xs : List V} {Q : VK} (k : H a = some (.lst xs)) (q : Q (.bl true) H) : rIsi K [.ref a, .ty "list"] H Q := isi_t (.lst k) q
theorem and_m2 (a b : Nat) : (a &&& b) % 2 = (a % 2) * (b % 2) := by
  have := @Nat.and_mod_two_pow a b 1
  simp only [Nat.pow_one] at this
  rw [this]
  rcases Nat.mod_two_eq_zero_or_one a with h | h <;> rcases Nat.mod_two_eq_zero_or_one b with h' | h' <;> rw [h, h'] <;> rfl
theorem xor_m2 (a b : Nat) : (a ^^^ b) % 2 = (a % 2 + b % 2) % 2 := by
  have := @Nat.xor_mod_two_pow a b 1
  simp only [Nat.pow_one] at this
  rw [this]
  rcases Nat.mod_two_eq_zero_or_one a with h | h <;> rcases Nat.mod_two_eq_zero_or_one b with h' | h' <;> rw [h, h'] <;> rfl
theorem xor_and : ∀ a b : Nat, (a ^^^ b) + 2 * (a &&& b) = a + b := by
  intro a
  induction a using Nat.strongRecOn with
  | _ a ih =>
    intro b
    by_cases h0 : a = 0
    · subst h0; simp
    · have h := ih (a / 2) (by omega) (b / 2)
      rw [← Nat.xor_div_two, ← Nat.and_div_two] at h
      rcases Nat.mod_two_eq_zero_or_one a with ha | ha <;> rcases Nat.mod_two_eq_zero_or_one b with hb | hb
      · have m1 : (a &&& b) % 2 = 0 := by rw [and_m2, ha, hb]
        have m2 : (a ^^^ b) % 2 = 0 := by rw [xor_m2, ha, hb]
        omega
      · have m1 : (a &&& b) % 2 = 0 := by rw [and_m2, ha, hb]
        have m2 : (a ^^^ b) % 2 = 1 := by rw [xor_m2, ha, hb]
        omega
      · have m1 : (a &&& b) % 2 = 0 := by rw [and_m2, ha, hb]
        have m2 : (a ^^^ b) % 2 = 1 := by rw [xor_m2, ha, hb]
        omega
      · have m1 : (a &&& b) % 2 = 1 := by rw [and_m2, ha, hb]
        have m2 : (a ^^^ b) % 2 = 0 := by rw [xor_m2, ha, hb]
        omega
theorem bx (a b : Nat) : Builtin.bitXor (a : Int) (b : Int) = ((a ^^^ b : Nat) : Int) := by
  have h : Builtin.bitAnd (a : Int) (b : Int) = ((a &&& b : Nat) : Int) := by simp [Builtin.bitAnd]
  rw [PyProof.Rows.bitXor_and, h]
  have := xor_and a b
  omega
end L2
namespace L2
open PySem
section
variable {X : Cx} {K : PySem.W.Frag}
noncomputable def rList (K : PySem.W.Frag) : List V → Hp → VK → Prop := fun xs H Q => ∃ p ys, xs = [.ref p] ∧ (SqL K H p ys ∨ SqT K H p ys) ∧ ∀ l, H l = none → Q (.ref l) (upd H l (.lst ys))
theorem call_listK (hK : X.K = K := by rfl) : CallR X (.type "list") (rList K) := by subst hK; exact call_list_of
end
theorem listL {K : PySem.W.Frag} {H : Hp} {Q : VK} {p : Addr} {ys : List V} (h : SqL K H p ys) (q : ∀ l, H l = none → Q (.ref l) (upd H l (.lst ys))) : rList K [.ref p] H Q := ⟨p, ys, rfl, .inl h, q⟩
end L2
namespace L2
open PySem
theorem comp_walkG {J : It} {xs : List V} {src : List (Option Nat)} {g : TG} {tc : TT} {te : TE} {σ : St} {H : Hp} {Q : VK} (F : Nat → List V) (Pv : Hp → Prop) (h0 : Pv H) (hw : Wk J xs Pv) (hz : xs.length ≤ sizeLine)
    (hs : ∀ (i : Nat) (x : V) (H' : Hp) (Cy : VK) (Cn : Hp → Prop), xs[i]? = some x → Pv H' → (∀ y H4, F i = [y] → Pv H4 → Cy y H4) → (∀ H3, F i = [] → Pv H3 → Cn H3) →
      g x (stComp src σ) H' fun σ2 H2 => KeepSt (stComp src σ) σ2 ∧ tc σ2 H2 fun b H3 => if b = true then te σ2 H3 Cy else Cn H3)
    (hd : ∀ H' l, Pv H' → H' l = none → Q (.ref l) (upd H' l (.lst ((List.range xs.length).flatMap F)))) :
    ∃ W : Nat → Nat → List V → Hp → Prop, (∃ m, W 0 m [] H) ∧ ∀ i m ys H, W i m ys H →
      (J.stop i H ∧ ∀ l, H l = none → Q (.ref l) (upd H l (.lst ys))) ∨
      (J.go i H ∧ ys.length < sizeLine ∧ ∀ x H', J.yld i H x H' → g x (stComp src σ) H' fun σ2 H2 => KeepSt (stComp src σ) σ2 ∧ tc σ2 H2 fun b H3 => if b = true then te σ2 H3 fun y H4 => ∃ m', m' < m ∧ W (i + 1) m' (ys ++ [y]) H4 else ∃ m', m' < m ∧ W (i + 1) m' ys H3) := by
  have flen : ∀ i : Nat, (∀ j, j < i → (F j).length ≤ 1) → ((List.range i).flatMap F).length ≤ i := by
    intro i
    induction i with
    | zero => intro _; simp
    | succ i ih =>
      intro hF
      have a1 := hF i (Nat.lt_succ_self _)
      have a2 := ih fun j hj => hF j (by omega)
      rw [List.range_succ, List.flatMap_append]
      simp only [List.length_append, List.flatMap_cons, List.flatMap_nil, List.append_nil]
      omega
  refine ⟨fun i m ys H => m = xs.length - i ∧ i ≤ xs.length ∧ ys = (List.range i).flatMap F ∧ (∀ j, j < i → (F j).length ≤ 1) ∧ Pv H, ⟨xs.length, rfl, Nat.zero_le _, by simp, fun j h => absurd h (Nat.not_lt_zero _), h0⟩, ?_⟩
  rintro i m ys H1 ⟨rfl, hi, rfl, hF, p⟩
  obtain ⟨g1, g2, g3⟩ := hw i H1 p
  by_cases hlt : i < xs.length
  · have hL := flen i hF
    refine .inr ⟨g1 hlt, by omega, fun x H' y => ?_⟩
    obtain ⟨e, hx⟩ := g3 hlt x H' y
    subst e
    have tk : ∀ z, F i = z → z.length ≤ 1 → (List.range i).flatMap F ++ z = (List.range (i + 1)).flatMap F ∧ ∀ j, j < i + 1 → (F j).length ≤ 1 := fun z ez hz => by
      constructor
      · rw [List.range_succ, List.flatMap_append]
        simp [ez]
      · intro j hj
        by_cases hji : j = i
        · subst hji
          rw [ez]; exact hz
        · exact hF j (by omega)
    refine hs i x H' _ _ hx p (fun y' H4 h4 p4 => ?_) (fun H3 h3 p3 => ?_)
    · obtain ⟨t1, t2⟩ := tk [y'] h4 (Nat.le_refl _)
      exact ⟨xs.length - (i + 1), by omega, rfl, hlt, t1, t2, p4⟩
    · obtain ⟨t1, t2⟩ := tk [] h3 (Nat.zero_le _)
      exact ⟨xs.length - (i + 1), by omega, rfl, hlt, by rw [← t1, List.append_nil], t2, p3⟩
  · have e : i = xs.length := by omega
    subst e
    exact .inl ⟨g2 (Nat.le_refl _), fun l hn => hd H1 l p hn⟩
theorem tcomp_listG {K : PySem.W.Frag} {a : Addr} {xs : List V} {tl : TE} {src : List (Option Nat)} {g : TG} {tc : TT} {te : TE} {σ : St} {H : Hp} {Q : VK} (H0 : Hp) (hte : ∀ R : VK, R (.ref a) H0 → tl σ H R) (hq : SqL K H0 a xs) (F : Nat → List V) (Pv : Hp → Prop) (h0 : Pv H0) (hl : ∀ H, Pv H → SqL K H a xs) (hz : xs.length ≤ sizeLine)
    (hs : ∀ (i : Nat) (x : V) (H' : Hp) (Cy : VK) (Cn : Hp → Prop), xs[i]? = some x → Pv H' → (∀ y H4, F i = [y] → Pv H4 → Cy y H4) → (∀ H3, F i = [] → Pv H3 → Cn H3) →
      g x (stComp src σ) H' fun σ2 H2 => KeepSt (stComp src σ) σ2 ∧ tc σ2 H2 fun b H3 => if b = true then te σ2 H3 Cy else Cn H3)
    (hd : ∀ H' l, Pv H' → H' l = none → Q (.ref l) (upd H' l (.lst ((List.range xs.length).flatMap F)))) : tComp src (iList K tl) g tc te σ H Q :=
  hte _ ⟨a, rfl, ⟨xs, hq⟩, comp_walkG F Pv h0 (wk_list hl) hz hs hd⟩
theorem KeepSt.refl (σ : St) : KeepSt σ σ := ⟨rfl, fun _ _ h => h⟩
theorem KeepSt.two {x y : V} : KeepSt [none, none] [some x, some y] := ⟨rfl, fun i v h => by
  match i with
  | 0 => cases h
  | 1 => cases h
  | i + 2 => cases h⟩
theorem tupT {K : PySem.W.Frag} {H : Hp} {p : Addr} {x y : V} {σ : St} {Q : St → Hp → Prop} {i j : Nat} (h : H p = some (.tup [x, y])) (q : Q ((σ.set i (some x)).set j (some y)) H) : gTup K 2 (gCons (gName i) (gCons (gName j) gNil)) (.ref p) σ H Q :=
  ⟨p, [x, y], rfl, SqT.of h, rfl, x, [y], rfl, y, [], rfl, rfl, q⟩
end L2
namespace L2
open PySem
theorem isiX1 {K : PySem.W.Frag} {H : Hp} {Q : VK} {x D : Addr} {ox : Obj} {c : V} {b : Bool} (hx : H x = some (.frz ox (.own x))) (ho : ExOb ox D) (hc : ExCls K D) (hv : (∃ a, c = .ref a) ∨ ∃ T, c = .ty T) (k : PySem.W.kitOne K (.ref D) (vTy c) = some b) (q : Q (.bl b) H) : rIsiX K [.ref x, c] H Q := ⟨x, ox, D, c, b, rfl, hx, ho, hc, hv, k, q⟩
end L2
namespace L2
open PySem
end L2
namespace L2
open PySem
theorem flat_ints (l : List Int) : (l.map V.int).all flatV = true := by simp [List.all_map, flatV]
theorem neLL_same {K : PySem.W.Frag} {H : Hp} {Q : VK} {r s : Addr} {xs : List V} (h1 : H r = some (.lst xs)) (h2 : H s = some (.lst xs)) (f : xs.all flatV = true) (z : Q (.bl false) H) : rNeA K (.ref r) (.ref s) H Q :=
  neLL (SqL.of h1) (SqL.of h2) f f (by rw [eqL_self xs f]; exact z)
theorem eqLL_same {K : PySem.W.Frag} {H : Hp} {Q : VK} {r s : Addr} {xs : List V} (h1 : H r = some (.lst xs)) (h2 : H s = some (.lst xs)) (f : xs.all flatV = true) (z : Q (.bl true) H) : rEqA K (.ref r) (.ref s) H Q :=
  eqLL (SqL.of h1) (SqL.of h2) f f (by rw [eqL_self xs f]; exact z)
end L2

namespace L2
open PySem PySem.Spec PyProof.Rows
section
variable {X : Cx} {tg : Expr}
end
section
variable {X : Cx} {elts : List Expr} {x1 : Nat} {tpos : Pos}
end
end L2

namespace L2
open PySem PySem.Spec PyProof.Rows Builtin Builtin.Str
variable {X : Cx}
end L2

namespace L2
open PySem PySem.Spec PyProof.Rows
section
variable {X : Cx} {pins : List (Addr × Obj)} {σ : St} {H : Hp} {s : Shared}
end
end L2

namespace L2
open PySem
theorem comp_walkP {J : It} {xs : List V} {src : List (Option Nat)} {g : TG} {tc : TT} {te : TE} {σ : St} {H : Hp} {Q : VK} (Pv : Nat → List V → Hp → Prop) (h0 : Pv 0 [] H) (hw : Wk J xs fun H => ∃ i ys, Pv i ys H) (hz : xs.length ≤ sizeLine)
    (hs : ∀ (i : Nat) (x : V) (ys : List V) (H' : Hp) (Cy : VK) (Cn : Hp → Prop), xs[i]? = some x → Pv i ys H' → (∀ y H4, Pv (i + 1) (ys ++ [y]) H4 → Cy y H4) → (∀ H3, Pv (i + 1) ys H3 → Cn H3) →
      g x (stComp src σ) H' fun σ2 H2 => KeepSt (stComp src σ) σ2 ∧ tc σ2 H2 fun b H3 => if b = true then te σ2 H3 Cy else Cn H3)
    (hd : ∀ ys H' l, Pv xs.length ys H' → H' l = none → Q (.ref l) (upd H' l (.lst ys))) :
    ∃ W : Nat → Nat → List V → Hp → Prop, (∃ m, W 0 m [] H) ∧ ∀ i m ys H, W i m ys H →
      (J.stop i H ∧ ∀ l, H l = none → Q (.ref l) (upd H l (.lst ys))) ∨
      (J.go i H ∧ ys.length < sizeLine ∧ ∀ x H', J.yld i H x H' → g x (stComp src σ) H' fun σ2 H2 => KeepSt (stComp src σ) σ2 ∧ tc σ2 H2 fun b H3 => if b = true then te σ2 H3 fun y H4 => ∃ m', m' < m ∧ W (i + 1) m' (ys ++ [y]) H4 else ∃ m', m' < m ∧ W (i + 1) m' ys H3) := by
  refine ⟨fun i m ys H => m = xs.length - i ∧ i ≤ xs.length ∧ ys.length ≤ i ∧ Pv i ys H, ⟨xs.length, rfl, Nat.zero_le _, Nat.le_refl _, h0⟩, ?_⟩
  rintro i m ys H1 ⟨rfl, hi, hl, p⟩
  obtain ⟨g1, g2, g3⟩ := hw i H1 ⟨i, ys, p⟩
  by_cases hlt : i < xs.length
  · refine .inr ⟨g1 hlt, by omega, fun x H' y => ?_⟩
    obtain ⟨e, hx⟩ := g3 hlt x H' y
    subst e
    exact hs i x ys _ _ _ hx p (fun y' H4 p4 => ⟨xs.length - (i + 1), by omega, rfl, hlt, by rw [List.length_append]; simp; omega, p4⟩) fun H3 p3 => ⟨xs.length - (i + 1), by omega, rfl, hlt, by omega, p3⟩
  · have e : i = xs.length := by omega
    subst e
    exact .inl ⟨g2 (Nat.le_refl _), fun l hn => hd ys H1 l p hn⟩
section
variable {tc : TT} {te ta tb' td : TE} {src : List (Option Nat)} {σ : St} {H : Hp} {Q : VK} {k : Nat}
end
section
variable {tb : TS} {D : Ends} {σ : St} {H : Hp} {k : Nat}
end
end L2

namespace L2
open PySem PySem.Spec PyProof.Rows Builtin Builtin.Str
section
variable {X : Cx} {e a b o : Expr} {te ta tb to : TE} {lo hi : Option Expr} {tl th : TO} {pos p2 : Pos}
end
end L2

namespace L2
open PySem PySem.Spec PyProof.Rows
mutual
def RdD (K : PySem.W.Frag) (H : Hp) : PyData → V → Prop
  | .none, x => x = .non
  | .bool b, x => x = .bl b
  | .int i, x => x = .int i
  | .str z, x => x = .str z
  | .list ds, x => ∃ a xs, x = .ref a ∧ SqL K H a xs ∧ RdDs K H ds xs
  | .tuple ds, x => ∃ a xs, x = .ref a ∧ SqT K H a xs ∧ RdDs K H ds xs
  | .dict _, _ => False
def RdDs (K : PySem.W.Frag) (H : Hp) : List PyData → List V → Prop
  | [], xs => xs = []
  | d :: ds, xs => ∃ y ys, xs = y :: ys ∧ RdD K H d y ∧ RdDs K H ds ys
end
section
variable {X : Cx} {pins : List (Addr × Obj)} {σ : St} {H : Hp} {s : Shared}
end
section
variable {X : Cx} {K : PySem.W.Frag} {e : Expr} {tx : XK → TE} {cn n : Str} {C : Addr} {i : Nat} {b₀ : Stmt} {suite : List Stmt} {rpos np hpos pos : Pos} {ts : Addr → TS}
end
end L2

namespace L2
open PySem PySem.Spec PyProof.Rows
section
variable {X : Cx} {K : PySem.W.Frag} {k : Nat} {ps : List Str} {sp : Sp} {x m qual : Str} {st : Stmt} {p pos apos : Pos} {e o value : Expr} {es : List Expr} {t : TA} {ta tv : TE} {E : XK} {C : Addr} {f : Str} {pos' : Pos}
theorem PS.nox {st : Stmt} {t : TS} (h : PS X.nox st t) : PS X st t := fun pins s σ H D I hw =>
  wpAny_mono (h pins s σ H D (I.wish _) hw) (fun _ _ q => q.unwish) fun _ _ z => False.elim z
end
end L2

namespace L2
open PySem PySem.Spec PyProof.Rows
theorem Same.seqT {K : PySem.W.Frag} {H H' : Hp} {a : Addr} {xs : List V} (e : Same H H') (h : SqT K H a xs) : SqT K H' a xs := by
  rcases h with (h | ⟨o, h⟩) | h
  · exact .inl (.inl (e _ _ h))
  · exact .inl (.inr ⟨o, e _ _ h⟩)
  · exact .inr h
mutual
theorem RdD.same {K : PySem.W.Frag} {H H' : Hp} (e : Same H H') : ∀ (d : PyData) (x : V), RdD K H d x → RdD K H' d x
  | .none, x, h => by rw [RdD] at h ⊢; exact h
  | .bool b, x, h => by rw [RdD] at h ⊢; exact h
  | .int i, x, h => by rw [RdD] at h ⊢; exact h
  | .str z, x, h => by rw [RdD] at h ⊢; exact h
  | .list ds, x, h => by
    rw [RdD] at h ⊢
    obtain ⟨a, xs, rfl, hq, hd⟩ := h
    exact ⟨a, xs, rfl, e.seq hq, RdDs.same e ds xs hd⟩
  | .tuple ds, x, h => by
    rw [RdD] at h ⊢
    obtain ⟨a, xs, rfl, hq, hd⟩ := h
    exact ⟨a, xs, rfl, e.seqT hq, RdDs.same e ds xs hd⟩
  | .dict _, x, h => by rw [RdD] at h; exact h.elim
theorem RdDs.same {K : PySem.W.Frag} {H H' : Hp} (e : Same H H') : ∀ (ds : List PyData) (xs : List V), RdDs K H ds xs → RdDs K H' ds xs
  | [], xs, h => by rw [RdDs] at h ⊢; exact h
  | d :: ds, xs, h => by
    rw [RdDs] at h ⊢
    obtain ⟨y, ys, rfl, h1, h2⟩ := h
    exact ⟨y, ys, rfl, RdD.same e d y h1, RdDs.same e ds ys h2⟩
end
section
variable {σ : St} {H : Hp} {D : Ends} {k : Nat} {tb : TS}
end
section
variable {tc : TT} {te : TE} {src : List (Option Nat)} {σ : St} {H : Hp} {Q : VK} {k : Nat}
end
end L2

namespace L2
open PySem PySem.Spec PyProof.Rows
section
variable {X : Cx}
end
end L2

namespace PySem.SeqAt
open AutoSeq1 (wpAny_loadPart')
open MeetsSeq MeetsSeq2 MeetsSeq3 SeqRoads2
end PySem.SeqAt
namespace L2
open PySem PySem.Spec PyProof.Rows
section
variable {X : Cx}
theorem pm0 {K : PySem.W.Frag} {T id : String} {o : Expr} {to : TE} {name : Str} {apos cpos : Pos} {r : V → List V → Hp → VK → Prop} (pa : PlainAttrs T) (slot : Slot T name id) (hty : typeOf (.builtin id) = pure (.type "method_descriptor")) (hm : MtR X id r) (ho : PE X o to) (hK : X.K = K := by rfl)
    (hbase : attributeBase o name X.env (eval o X.env) = eval o X.env := by rfl) (hline : (apos.endLine == cpos.line) = true := by rfl) : PE X (.Call (.Attribute o name apos) [] [] cpos) (tBM0 K T r to) := by
  subst hK
  exact pe_bm0 pa slot hty hm ho hbase hline
noncomputable def KTup (K : PySem.W.Frag) (a : Addr) (xs : List V) : Prop := ∃ (o : Obj) (its : Array Value) (n : Nat), K.lookup a = some o ∧ o.cls = .type "tuple" ∧ o.dict = none ∧ o.data = .seq its n ∧ its.size ≤ sizeLine ∧ Vals xs its.toList
theorem KTup.ty {K : PySem.W.Frag} {a : Addr} {xs : List V} (h : KTup K a xs) {H : Hp} : tyV K "tuple" (.ref a) H := let ⟨o, _, _, h1, h2, h3, _⟩ := h; .inr (.inl ⟨rfl, o, h1, h2, h3⟩)
end
section
variable {tb : TS} {D : Ends} {σ : St} {H : Hp}
end
section
variable {tc : TT} {te : TE} {src : List (Option Nat)} {σ : St} {H : Hp} {Q : VK} {k : Nat}
end
noncomputable def Stp (p : Addr) (H H' : Hp) : Prop := (∀ a o, H a = some o → a ≠ p → H' a = some o) ∧ ∀ a, H' a = none → H a = none
theorem Stp.refl (p : Addr) (H : Hp) : Stp p H H := ⟨fun _ _ h _ => h, fun _ h => h⟩
theorem Stp.trans {p : Addr} {H H' H'' : Hp} (h : Stp p H H') (h' : Stp p H' H'') : Stp p H H'' := ⟨fun a o e n => h'.1 a o (h.1 a o e n) n, fun a e => h.2 a (h'.2 a e)⟩
theorem Stp.new {p l : Addr} {H H' : Hp} {o : HO} (h : Stp p H H') (n : H' l = none) : Stp p H (upd H' l o) := h.trans ⟨fun a u e _ => by
  rw [upd_ne (fun z => by rw [z, n] at e; cases e)]
  exact e, fun a e => by
  by_cases z : a = l
  · rw [z]; exact n
  · rw [upd_ne z] at e; exact e⟩
theorem Stp.own {p : Addr} {H H' : Hp} {o u : HO} (h : Stp p H H') (n : H' p = some u) : Stp p H (upd H' p o) := h.trans ⟨fun a u e z => by rw [upd_ne z]; exact e, fun a e => by
  by_cases z : a = p
  · rw [z, upd_same] at e; cases e
  · rw [upd_ne z] at e; exact e⟩
theorem Stp.same {p : Addr} {H0 H H' : Hp} (s : Same H0 H) (n : H0 p = none) (h : Stp p H H') : Same H0 H' := fun a o e => h.1 a o (s a o e) (fun z => by rw [z, n] at e; cases e)
theorem Stp.of {p : Addr} {H H' : Hp} (s : Same H H') : Stp p H H' := ⟨fun a o e _ => s a o e, fun a e => s.no e⟩
end L2

namespace L2
open PySem PySem.Spec PyProof.Rows
inductive Ents (K : PySem.W.Frag) : List DictEntry → List (Int × List V) → Prop
  | nil : Ents K [] []
  | cons {e : DictEntry} {k : Int} {t : Tok} {b : Addr} {xs : List V} {es : List DictEntry} {tbl : List (Int × List V)} : e.key = .int k t → e.hash = hashInt k → e.val = .ref b → KTup K b xs → Ents K es tbl → Ents K (e :: es) ((k, xs) :: tbl)
noncomputable def KTabE (K : PySem.W.Frag) (a : Addr) (tbl : List (Int × List V)) (ep : Nat) : Prop := (a == sysModules) = false ∧ (tbl.map (·.1)).Nodup ∧ ∃ (o : Obj) (es : Array DictEntry), K.lookup a = some o ∧ o.ExactDict ∧ o.data = .dict es ep ∧ Ents K es.toList tbl
theorem Ents.kvs {K : PySem.W.Frag} {P : Program} {w : World} {es : List DictEntry} {tbl : List (Int × List V)} (h : Ents K es tbl) : ∃ kvs : List (Int × Value), Pairs (PySem.intKind P w) es kvs ∧ (∀ e ∈ es, ∃ k, (PySem.intKind P w).is k e.key = true ∧ e.hash = (PySem.intKind P w).hash k) ∧ kvs.map (·.1) = tbl.map (·.1) ∧ ∀ (i : Nat) k xs, tbl[i]? = some (k, xs) → ∃ b, kvs[i]? = some (k, .ref b) ∧ KTup K b xs := by
  induction h with
  | nil => exact ⟨[], .nil, (by intro e he; cases he), rfl, (by intro i k xs h; cases h)⟩
  | @cons e k t b xs es tbl h1 h2 h3 h4 h5 ih =>
    obtain ⟨kvs, p, q, r, z⟩ := ih
    refine ⟨(k, .ref b) :: kvs, .cons (by rw [h1]; exact intKind_is _ _ _ _) h3 p, fun e' he => ?_, by simp [r], fun i k' xs' h => ?_⟩
    · rcases List.mem_cons.mp he with z | z
      · subst z
        exact ⟨k, by rw [h1]; exact intKind_is _ _ _ _, h2⟩
      · exact q e' z
    · cases i with
      | zero => cases h; exact ⟨b, rfl, h4⟩
      | succ i => exact z i k' xs' h
theorem KTabE.at {X : Cx} {pins : List (Addr × Obj)} {σ : St} {H : Hp} {s : Shared} {a : Addr} {tbl : List (Int × List V)} {ep : Nat} (h : KTabE X.K a tbl ep) (I : Inv X pins σ H s) : ∃ kvs : List (Int × Value), s.heap.DictAt (PySem.intKind X.prog X.w) a kvs ep ∧ kvs.length = tbl.length ∧ ∀ (i : Nat) k xs, tbl[i]? = some (k, xs) → ∃ b, kvs[i]? = some (k, .ref b) ∧ KTup X.K b xs := by
  obtain ⟨_, nd, o, es, ho, hx, hd, he⟩ := h
  obtain ⟨kvs, p, q, r, z⟩ := he.kvs (P := X.prog) (w := X.w)
  refine ⟨kvs, ⟨o, es, I.kIn a o ho, hx, hd, fun e hm => q e (by simpa using hm), p, by rw [r]; exact nd⟩, ?_, z⟩
  have := congrArg List.length r
  simpa using this
section
variable {X : Cx}
end
section
variable {tb : TS} {D : Ends} {σ : St} {H : Hp} {k : Nat}
end
section
variable {X : Cx} {k : Nat} {ps : List Str} {sp : Sp} {x : Str} {st : Stmt} {p pos : Pos}
end
end L2

namespace PySem
open Sem (wp)
section
variable {prog : Program} {w : World} {A : Around} {R : Result → Shared → Prop} {I : Addr} {fp wr : List Addr} {n : Nat} {P : Nat → Value → Prop} {St : Nat → Heap → Prop}
end
section
variable {prog : Program} {w : World} {A : Around} {E : Value → Shared → Prop} {s : Shared}
end
end PySem
namespace L2
open PySem PySem.Spec PyProof.Rows
section
variable {X : Cx}
end
section
variable {X : Cx}
end
section
variable {X : Cx}
end
end L2

namespace L2
open PySem PySem.Spec PyProof.Rows
noncomputable def Rise (l : List Nat) : Prop := l.Pairwise (· < ·)
theorem Rise.lt {l : List Nat} (h : Rise l) {i j : Nat} (hij : i < j) (hj : j < l.length) : l[i]'(by omega) < l[j] := List.pairwise_iff_getElem.mp h i j (by omega) hj hij
theorem below_go (xs : Array Nat) (j : Nat) (hr : Rise xs.toList) : ∀ (fuel lo hi : Nat), hi ≤ xs.size → lo ≤ hi → hi - lo ≤ fuel →
    (∀ i, (h : i < xs.size) → i < lo → xs[i] < j) → (∀ i, (h : i < xs.size) → hi ≤ i → j ≤ xs[i]) →
    ∃ p, SetTable.below.go xs j fuel lo hi = p ∧ p ≤ xs.size ∧ (∀ i, (h : i < xs.size) → i < p → xs[i] < j) ∧ (∀ i, (h : i < xs.size) → p ≤ i → j ≤ xs[i]) := by
  intro fuel
  induction fuel with
  | zero => intro lo hi h1 h2 h3 h4 h5; exact ⟨lo, rfl, by omega, h4, fun i h hi' => h5 i h (by omega)⟩
  | succ f ih =>
    intro lo hi h1 h2 h3 h4 h5
    unfold SetTable.below.go
    by_cases hlt : lo < hi
    · rw [if_pos hlt]
      have hm : (lo + hi) / 2 < xs.size := by omega
      have hg : xs.getD ((lo + hi) / 2) j = xs[(lo + hi) / 2] := by simp [Array.getD, hm]
      dsimp only
      rw [hg]
      have mono : ∀ a b (ha : a < xs.size) (hb : b < xs.size), a ≤ b → xs[a] ≤ xs[b] := fun a b ha hb hab => by
        rcases Nat.lt_or_eq_of_le hab with h | h
        · have := Rise.lt hr (i := a) (j := b) h (by simpa using hb)
          simpa using Nat.le_of_lt this
        · subst h; exact Nat.le_refl _
      by_cases hc : xs[(lo + hi) / 2] < j
      · rw [if_pos hc]
        exact ih _ _ h1 (by omega) (by omega) (fun i h hi' => Nat.lt_of_le_of_lt (mono i ((lo + hi) / 2) h hm (by omega)) hc) h5
      · rw [if_neg hc]
        exact ih _ _ (by omega) (by omega) (by omega) h4 (fun i h hi' => Nat.le_trans (Nat.le_of_not_lt hc) (mono ((lo + hi) / 2) i hm h hi'))
    · rw [if_neg hlt]; exact ⟨lo, rfl, by omega, h4, fun i h hi' => h5 i h (by omega)⟩
theorem below_of (xs : Array Nat) (j : Nat) (hr : Rise xs.toList) : SetTable.below xs j ≤ xs.size ∧ (∀ i, (h : i < xs.size) → i < SetTable.below xs j → xs[i] < j) ∧ (∀ i, (h : i < xs.size) → SetTable.below xs j ≤ i → j ≤ xs[i]) := by
  obtain ⟨p, e, h⟩ := below_go xs j hr xs.size 0 xs.size (Nat.le_refl _) (Nat.zero_le _) (by omega) (fun _ _ h => absurd h (Nat.not_lt_zero _)) (fun i h h' => absurd h' (by omega))
  unfold SetTable.below
  rw [e]; exact h
noncomputable def slotAt (xs : Array Nat) : Nat → Nat
  | 0 => 0
  | i + 1 => xs.getD i 0 + 1
theorem below_slot (xs : Array Nat) (hr : Rise xs.toList) {i : Nat} (hi : i ≤ xs.size) : SetTable.below xs (slotAt xs i) = i := by
  obtain ⟨h0, h1, h2⟩ := below_of xs (slotAt xs i) hr
  cases i with
  | zero =>
    cases e : SetTable.below xs (slotAt xs 0) with
    | zero => rfl
    | succ k =>
      have := h1 0 (by omega) (by omega)
      exact absurd this (Nat.not_lt_zero _)
  | succ i =>
    have hg : slotAt xs (i + 1) = xs[i] + 1 := by simp [slotAt, Array.getD, show i < xs.size by omega]
    rcases Nat.lt_trichotomy (SetTable.below xs (slotAt xs (i + 1))) (i + 1) with h | h | h
    · have := h2 i (by omega) (by omega)
      rw [hg] at this
      omega
    · exact h
    · have := h1 (i + 1) (by omega) h
      rw [hg] at this
      have r := Rise.lt hr (i := i) (j := i + 1) (by omega) (by simp; omega)
      simp at r
      omega
structure Good (b : Bool) (t : SetTable) : Prop where
  led : t.led = b
  rise : Rise t.place.toList
  dum : t.dummies = #[]
theorem slot_live_or {t : SetTable} {b : Bool} (g : Good b t) {j : Nat} : t.slot j ≠ .dummy := by
  unfold SetTable.slot
  dsimp only
  split
  · exact fun h => nomatch h
  · rw [g.dum]
    have : SetTable.has #[] j = false := rfl
    rw [this]
    exact fun h => nomatch h
theorem slot_empty {t : SetTable} {j : Nat} (h : t.slot j = .empty) : t.place[SetTable.below t.place j]? ≠ some j := by
  unfold SetTable.slot at h
  dsimp only at h
  intro e
  rw [e] at h
  simp at h
theorem probe_free {t : SetTable} {b : Bool} (g : Good b t) (h : Int) : ∀ (fuel : Nat) (p : SetTable.Probe) (m : SetTable.Met), p.dummy = none → SetTable.probe.go t (fun _ => h + 1) h fuel p = some m → ∃ j, m = .empty j none ∧ t.slot j = .empty := by
  intro fuel
  induction fuel with
  | zero => intro p m _ e; cases e
  | succ f ih =>
    intro p m hp e
    unfold SetTable.probe.go at e
    split at e
    · rename_i hs
      cases e
      exact ⟨p.j, by rw [hp], hs⟩
    · rename_i hs
      exact absurd hs (slot_live_or g)
    · have hne : (h + 1 == h) = false := by
        rw [beq_eq_false_iff_ne]; omega
      rw [hne] at e
      refine ih _ m ?_ e
      unfold SetTable.advance
      split
      · exact hp
      · exact hp
theorem free_of {t : SetTable} {b : Bool} (g : Good b t) {h : Int} {sl : Nat} {d : Bool} (e : t.freeSlot h = some (sl, d)) : d = false ∧ t.slot sl = .empty := by
  unfold SetTable.freeSlot at e
  split at e
  · rename_i j dummy hm
    obtain ⟨j', e1, e2⟩ := probe_free g h _ _ _ rfl hm
    cases e1
    cases e
    exact ⟨rfl, e2⟩
  · cases e
theorem put_good {t : SetTable} {b : Bool} (g : Good b t) {j : Nat} (h : t.slot j = .empty) : Good b (t.put j).1 := by
  have hd : SetTable.has t.dummies j = false := by rw [g.dum]; rfl
  refine ⟨g.led, ?_, ?_⟩
  · show Rise (SetTable.insertAt t.place (SetTable.below t.place j) j).toList
    obtain ⟨h0, h1, h2⟩ := below_of t.place j g.rise
    have hne := slot_empty h
    have e : (SetTable.insertAt t.place (SetTable.below t.place j) j).toList = t.place.toList.take (SetTable.below t.place j) ++ j :: t.place.toList.drop (SetTable.below t.place j) := by
      simp [SetTable.insertAt, List.extract_eq_take_drop, List.take_of_length_le]
    rw [e]
    generalize SetTable.below t.place j = p at *
    have hr : Rise (t.place.toList.take p ++ t.place.toList.drop p) := by rw [List.take_append_drop]; exact g.rise
    obtain ⟨r1, r2, r3⟩ := List.pairwise_append.mp hr
    have up : ∀ x ∈ t.place.toList.drop p, j < x := fun x hx => by
      obtain ⟨i, hi, rfl⟩ := List.mem_iff_getElem.mp hx
      rw [List.getElem_drop]
      rw [List.length_drop, Array.length_toList] at hi
      have ge := h2 (p + i) (by omega) (by omega)
      have : t.place[p + i]'(by omega) ≠ j := by
        intro e'
        cases i with
        | zero => exact hne (by rw [Array.getElem?_eq_getElem (by omega)]; exact congrArg some e')
        | succ i =>
          have r := Rise.lt g.rise (i := p) (j := p + (i + 1)) (by omega) (by simp; omega)
          simp at r
          have := h2 p (by omega) (Nat.le_refl _)
          omega
      simp
      omega
    refine List.pairwise_append.mpr ⟨r1, List.pairwise_cons.mpr ⟨up, r2⟩, fun x hx y hy => ?_⟩
    have hxj : x < j := by
      obtain ⟨i, hi, rfl⟩ := List.mem_iff_getElem.mp hx
      rw [List.getElem_take]
      rw [List.length_take] at hi
      have := h1 i (by omega) (by omega)
      simpa using this
    rcases List.mem_cons.mp hy with h | h
    · rw [h]; exact hxj
    · exact Nat.lt_trans hxj (up y h)
  · show (if SetTable.has t.dummies j = true then _ else _) = _
    rw [hd]; exact g.dum
theorem standIn_good {t : SetTable} {b : Bool} (h : t.led = b) (n : Nat) : Good b (t.standIn n) := by
  refine ⟨h, ?_, rfl⟩
  show Rise (Array.range n).toList
  rw [Array.toList_range]
  exact List.pairwise_lt_range
theorem orStandIn_good {t : SetTable} {b : Bool} (g : Good b t) (n : Nat) : Good b (t.orStandIn n) := by
  unfold SetTable.orStandIn
  split
  · exact g
  · exact standIn_good g.led n
theorem layNew_good {t : SetTable} {b : Bool} (g : Good b t) (es : Array (Int × Value)) (h : Int) (x : Value) : Good b (layNew t es h x).2.1 ∧ (layNew t es h x).2.2.1 = false := by
  unfold layNew
  split
  · rename_i sl d e
    obtain ⟨e1, e2⟩ := free_of g e
    exact ⟨orStandIn_good (put_good g e2) _, e1⟩
  · exact ⟨standIn_good g.led _, rfl⟩
theorem laid_good {mask finger moves : Nat} {led plain : Bool} {hs : Array Int} {t : SetTable} {o : Array Nat} (e : SetTable.laid mask finger moves led plain hs = some (t, o)) : Good led t := by
  unfold SetTable.laid at e
  cases hc : SetTable.layClean mask hs with
  | none => rw [hc] at e; cases e
  | some owner =>
    rw [hc] at e
    cases e
    refine ⟨rfl, ?_, rfl⟩
    show List.Pairwise (· < ·) (List.map (fun p : Nat × Nat => p.1) _)
    refine List.pairwise_map.mpr ?_
    refine List.Pairwise.filterMap _ (fun a a' h b hb b' hb' => ?_) (List.pairwise_lt_range (n := mask + 1))
    cases h1 : owner.getD a none with
    | none => rw [h1] at hb; cases hb
    | some x =>
      cases h2 : owner.getD a' none with
      | none => rw [h2] at hb'; cases hb'
      | some y => rw [h1] at hb; rw [h2] at hb'; cases hb; cases hb'; exact h
theorem relayAll_good {t : SetTable} {b : Bool} (g : Good b t) (es : Array (Int × Value)) (n : Nat) : Good b (relayAll t es n).2.1 := by
  unfold relayAll
  split
  · rename_i t' order e
    have := laid_good (show SetTable.laid _ _ _ _ _ _ = some (t', order) from e)
    rw [g.led] at this
    dsimp only
    split
    · exact this
    · exact standIn_good g.led _
  · exact standIn_good g.led _
theorem plain_good {t : SetTable} {b : Bool} (g : Good b t) : Good b { t with plain := false } := ⟨g.led, g.rise, g.dum⟩
theorem fresh_good (b : Bool) : Good b (.fresh 0 0 b) := ⟨rfl, List.Pairwise.nil, rfl⟩
theorem erase_perm {α : Type} : ∀ (l : List α) (i : Nat) (h : i < l.length), (l[i] :: l.eraseIdx i).Perm l
  | a :: l, 0, _ => .refl _
  | a :: l, i + 1, h => (List.Perm.swap _ _ _).trans ((erase_perm l i (by simpa using h)).cons a)
theorem pick_perm {α : Type} (next : Nat → Nat) : ∀ (n k : Nat) (l : List α) (out : Array α), l.length ≤ n → (pickOrder.go next n k l out).toList.Perm (out.toList ++ l) := by
  intro n
  induction n with
  | zero => intro k l out h; have : l = [] := List.length_eq_zero_iff.mp (by omega); subst this; simp [pickOrder.go]
  | succ n ih =>
    intro k l out h
    unfold pickOrder.go
    cases l with
    | nil => simp
    | cons a l =>
      have hlt : next k % (a :: l).length < (a :: l).length := Nat.mod_lt _ (by simp)
      rw [List.getElem?_eq_getElem hlt]
      dsimp only
      refine (ih _ _ _ (by rw [List.length_eraseIdx_of_lt hlt]; omega)).trans ?_
      rw [Array.toList_push, List.append_assoc]
      refine List.Perm.append_left _ ?_
      exact erase_perm _ _ hlt
theorem pickOrder_perm {α : Type} (next : Nat → Nat) (xs : Array α) : (pickOrder next xs).toList.Perm xs.toList := by
  have := pick_perm next xs.size 0 xs.toList #[] (by simp)
  simpa [pickOrder] using this
end L2

namespace L2
open PySem PySem.Spec PyProof.Rows
noncomputable def intOf (e : Int × Value) : Int := match e.2 with | .int k _ => k | _ => 0
noncomputable def IntE (es : List (Int × Value)) : Prop := ∀ e ∈ es, ∃ k t, e = (hashInt k, Value.int k t)
structure SetG (b : Bool) (ms : List Int) (h : Heap) (a : Addr) : Prop where
  ex : ∃ es ep t, h.get? a = some { cls := .type "set", dict := none, data := .set es ep t } ∧ IntE es.toList ∧ (es.toList.map intOf).Perm ms ∧ es.size < scanBound ∧ t.fits es.size = true ∧ Good b t
section
variable {prog : Program} {w : World} {A : Around} {E : Value → Shared → Prop} {s : Shared} {a : Addr} {b : Bool} {ms : List Int}
theorem SetG.at {h h' : Heap} (g : SetG b ms h a) (k : ∀ o, h.get? a = some o → h'.get? a = some o) : SetG b ms h' a := by
  obtain ⟨es, ep, t, e, r⟩ := g.ex
  exact ⟨es, ep, t, k _ e, r⟩
theorem IntE.elems {es : List (Int × Value)} (h : IntE es) : ElemsOf (intKind prog w) es := fun e he => by
  obtain ⟨k, t, rfl⟩ := h e he
  exact ⟨⟨k, intKind_is _ _ _ _, rfl⟩, rfl⟩
theorem int_is (k m : Int) (t : Tok) : (intKind prog w).is k (.int m t) = true ↔ k = m := by
  show (m == k) = true ↔ k = m
  rw [beq_iff_eq]
  exact eq_comm
theorem IntE.find {es : List (Int × Value)} (h : IntE es) (k : Int) : (∃ e ∈ es, (intKind prog w).is k e.2 = true) ↔ k ∈ es.map intOf := by
  rw [List.mem_map]
  constructor
  · rintro ⟨e, he, q⟩
    obtain ⟨m, t, rfl⟩ := h e he
    exact ⟨_, he, ((int_is (prog := prog) (w := w) k m t).mp q).symm⟩
  · rintro ⟨e, he, q⟩
    obtain ⟨m, t, rfl⟩ := h e he
    exact ⟨_, he, (int_is (prog := prog) (w := w) k m t).mpr q.symm⟩
theorem putG {h : Heap} {es es' : Array (Int × Value)} {ep : Nat} {t t' : SetTable} (ho : h.get? a = some { cls := .type "set", dict := none, data := .set es ep t }) :
    (h.update a (Obj.putSet es' t')).get? a = some { cls := .type "set", dict := none, data := .set es' (ep + 1) t' } := by
  have := Heap.get?_update_self (Obj.putSet es' t') ho rfl
  exact this
theorem tailG {g : Bool → Sem Unit} (hg : ∀ (b : Bool) (s₁ : Shared) (Q' : Unit → Shared → Prop), Q' () s₁ → wpAny (model prog w) A (g b) Q' E s₁)
    {es : Array (Int × Value)} {ep : Nat} {t : SetTable} (ho : s.heap.get? a = some { cls := .type "set", dict := none, data := .set es ep t })
    {es1 : Array (Int × Value)} {t2 : SetTable} (hi : IntE es1.toList) (hp : (es1.toList.map intOf).Perm ms) (hb1 : es1.size < scanBound) (hf2 : t2.fits es1.size = true) (hg2 : Good b t2) {wasDummy : Bool} {R : Option Bool → Shared → Prop}
    (h : ∀ h', Heap.SameBut a s.heap h' → SetG b ms h' a → R (some true) { s with heap := h' }) :
    wpAny (model prog w) A (do
        storeSet a es1 t2
        if (!wasDummy && t2.tooFull) = true then do
            g (relayAll t2 es1 (SetTable.grown es1.size)).2.2
            storeSet a (relayAll t2 es1 (SetTable.grown es1.size)).1 (relayAll t2 es1 (SetTable.grown es1.size)).2.1
            pure (some true)
          else pure (some true)) R E s := by
  refine wpAny_bind (wpAny_storeSet_of ho rfl ?_ (fits_of_scanBound hb1))
  have ho1 := putG (es' := es1) (t' := t2) ho
  have hsb1 := Heap.SameBut.update s.heap a (Obj.putSet es1 t2)
  split
  · have hpr := relayAll_perm t2 es1 (SetTable.grown es1.size)
    have hfr := relayAll_fits t2 es1 (SetTable.grown es1.size)
    have hgr := relayAll_good hg2 es1 (SetTable.grown es1.size)
    generalize hRl : relayAll t2 es1 (SetTable.grown es1.size) = Rl at hpr hfr hgr ⊢
    obtain ⟨es2, t3, gave2⟩ := Rl
    dsimp only at hpr hfr hgr ⊢
    have hsz : es2.size = es1.size := by rw [← Array.length_toList, hpr.length_eq, Array.length_toList]
    have hb2 : es2.size < scanBound := by rw [hsz]; exact hb1
    refine wpAny_bind (hg _ _ _ ?_)
    refine wpAny_bind (wpAny_storeSet_of ho1 rfl ?_ (fits_of_scanBound hb2))
    exact wpAny_pure (h _ (hsb1.trans (Heap.SameBut.update _ a _)) ⟨es2, _, t3, putG ho1, fun e he => hi e (hpr.mem_iff.mp he), (hpr.map _).trans hp, hb2, hfr, hgr⟩)
  · exact wpAny_pure (h _ hsb1 ⟨es1, _, t2, ho1, hi, hp, hb1, hf2, hg2⟩)
theorem addG {k : Int} {tk : Tok} {Q : Bool → Shared → Prop} (hS : SetG b ms s.heap a) (hroom : ms.length + 1 < scanBound)
    (h : ∀ h' r, Heap.SameBut a s.heap h' → SetG b (step_dedup ms k) h' a → Q r { s with heap := h' }) :
    wpAny (model prog w) A (setAddHashed a (.int k tk) ((intKind prog w).hash k)) Q E s := by
  obtain ⟨es, ep, t, ho, hi, hp, hb, hf, hg⟩ := hS.ex
  have hel : ElemsOf (intKind prog w) es.toList := hi.elems
  have hlen : es.size = ms.length := by rw [← Array.length_toList, ← List.length_map (as := es.toList) intOf, hp.length_eq]
  have hb1 : es.size + 1 < scanBound := by rw [hlen]; exact hroom
  have hkey : (intKind prog w).is k (.int k tk) = true := intKind_is _ _ _ _
  have hsc : (Value.int k tk).scannable = true := rfl
  have hany : ms.any (· == k) = true ↔ k ∈ es.toList.map intOf := by
    rw [hp.mem_iff, List.any_eq_true]
    constructor
    · rintro ⟨x, hx, e⟩; rw [← eq_of_beq e]; exact hx
    · intro hx; exact ⟨k, hx, beq_self_eq_true _⟩
  unfold setAddHashed setAddHashedIn
  refine wpAny_holding (wpAny_bind (wpAny_setState_of ho rfl hf ?_))
  dsimp only
  rw [byScan_of hsc hb hel]
  simp only [↓reduceIte]
  unfold setAddByScan
  refine wpAny_bind ?_
  refine wpAny_bind (wpAny_rule ?_)
  refine wpAny_bind (wpAny_setScan_of hkey ho rfl hf hel ?_)
  cases hr : List.findIdx? (fun e => (intKind prog w).is k e.2) es.toList with
  | some j =>
    dsimp only
    obtain ⟨hj, hpj, _⟩ := List.findIdx?_eq_some_iff_getElem.mp hr
    have hin : ms.any (· == k) = true := hany.mpr ((hi.find (prog := prog) (w := w) k).mp ⟨es.toList[j], List.getElem_mem hj, hpj⟩)
    refine wpAny_pure (wpAny_pure ?_)
    have e : s = { s with heap := s.heap } := by cases s; rfl
    rw [e]
    refine h s.heap _ (Heap.SameBut.refl a s.heap) ?_
    rw [step_dedup, if_pos hin]
    exact hS
  | none =>
    dsimp only
    have hout : ¬ ms.any (· == k) = true := fun hin => by
      obtain ⟨e, he, q⟩ := (hi.find (prog := prog) (w := w) k).mpr (hany.mp hin)
      have := List.findIdx?_eq_none_iff.mp hr e he
      rw [q] at this; exact Bool.noConfusion this
    have hgw : ∀ (b : Bool) {s₁ : Shared} {Q' : Unit → Shared → Prop}, Q' () s₁ → wpAny (model prog w) A (match b with | true => rule "set.scan.the-table-gave-way" | false => pure ()) Q' E s₁ :=
      fun b s₁ Q' hq => by cases b <;> first | exact wpAny_pure hq | exact wpAny_rule hq
    have hperm := layNew_perm t es ((intKind prog w).hash k) (.int k tk)
    have hfits := layNew_fits t es ((intKind prog w).hash k) (.int k tk)
    have hgood := layNew_good hg es ((intKind prog w).hash k) (.int k tk)
    generalize hL : layNew t es ((intKind prog w).hash k) (.int k tk) = L at hperm hfits hgood ⊢
    obtain ⟨es1, t1, wasDummy, gave⟩ := L
    dsimp only at hperm hfits hgood ⊢
    rw [Array.toList_push] at hperm
    have hi1 : IntE es1.toList := fun e he => by
      rcases List.mem_append.mp (hperm.mem_iff.mp he) with he | he
      · exact hi e he
      · rw [List.mem_singleton] at he; exact ⟨k, tk, he⟩
    have hp1 : (es1.toList.map intOf).Perm (step_dedup ms k) := by
      rw [step_dedup, if_neg hout]
      refine (hperm.map _).trans ?_
      rw [List.map_append]
      exact hp.append_right _
    have hb1' : es1.size < scanBound := by rw [← Array.length_toList, hperm.length_eq, List.length_append, Array.length_toList]; simpa using hb1
    refine wpAny_bind (hgw _ ?_)
    split
    · refine wpAny_bind ?_
      rw [hashByValue_scannable 8 hsc]
      refine wpAny_pure ?_
      refine tailG ?_ ho hi1 hp1 hb1' ?_ ?_ ?_ (b := b)
      · intro b s₁ Q' hq; cases b <;> first | exact wpAny_pure hq | exact wpAny_rule hq
      · split
        · exact hfits
        · exact SetTable.fits_plain_off hfits
      · split
        · exact hgood.1
        · exact plain_good hgood.1
      · intro h' hsb hS'; dsimp only; exact wpAny_pure (h h' _ hsb hS')
    · refine wpAny_bind (wpAny_pure ?_)
      simp only [↓reduceIte]
      refine tailG ?_ ho hi1 hp1 hb1' hfits hgood.1 ?_ (b := b)
      · intro b s₁ Q' hq; cases b <;> first | exact wpAny_pure hq | exact wpAny_rule hq
      · intro h' hsb hS'; dsimp only; exact wpAny_pure (h h' _ hsb hS')
end
end L2

namespace L2
open PySem PySem.Spec PyProof.Rows
section
variable {prog : Program} {w : World} {A : Around} {R : Result → Shared → Prop} {I : Addr} {fp wr : List Addr} {G : Array GenState → Array GenState → Prop} {n : Nat} {P : Nat → Value → Prop} {St : Nat → Shared → Prop} {b : Bool}
theorem updG (W : WalksS prog w A.in1 I fp wr G n P St) (S : Addr) (hSf : S ∉ fp) (val : Nat → Int) (hval : ∀ i v, P i v → ∃ t, v = .int (val i) t) (hb : n + 1 < scanBound) :
    ∀ (k i : Nat) (s : Shared), n - i = k → i ≤ n → St i s → SetG b (firstMet val i) s.heap S →
      (∀ s', Moved (S :: wr) G s s' → SetG b (firstMet val n) s'.heap S → R (.ok (.ret .none)) s') →
      codeAny (model prog w) A (.builtin "set.update.loop" ⟨[.ref S, .ref I], []⟩) R s := by
  have hSw : S ∉ wr := fun h => hSf (W.sub _ h)
  have hsub : ∀ b ∈ wr, b ∈ S :: wr := fun b hb => List.mem_cons_of_mem _ hb
  intro k
  induction k with
  | zero =>
    intro i s hk hi hst hS hR
    have hin : i = n := by omega
    subst hin
    refine codeAny_builtin F.entry_set_update_loop ?_
    rw [Around.under_plainId F.plain_set_update_loop _]
    show wpAny _ A.in1 (pyNext (.ref I) >>= _) _ _ s
    refine wpAny_bind (W.done s _ _ hst fun s' hm => ?_)
    show wpAny _ A.in1 (ret Value.none) _ _ s'
    exact wpAny_pure (hR s' (hm.mono hsub) (hS.at fun o e => hm.heap S _ hSw e))
  | succ k ih =>
    intro i s hk hi hst hS hR
    have hlt : i < n := by omega
    refine codeAny_builtin F.entry_set_update_loop ?_
    rw [Around.under_plainId F.plain_set_update_loop _]
    show wpAny _ A.in1 (pyNext (.ref I) >>= _) _ _ s
    refine wpAny_bind (W.item i s _ _ hlt hst fun v s' hP hst' hm => ?_)
    obtain ⟨t, rfl⟩ := hval i v hP
    have hS' : SetG b (firstMet val i) s'.heap S := hS.at fun o e => hm.heap S _ hSw e
    show wpAny _ A.in1 (holding [Value.int (val i) t] (setAdd S (.int (val i) t)) >>= _) _ _ s'
    refine wpAny_bind (wpAny_holding ?_)
    unfold setAdd
    refine wpAny_holding ?_
    refine wpAny_bind ((intKind prog w).pyHash (k := val i) (intKind_is _ _ _ _) ?_)
    have hroom : (firstMet val i).length + 1 < scanBound := by have := firstMet_length_le val i; omega
    refine addG (s := { s' with toks := s'.toks + 1 }) hS' hroom fun h' r hsb hS2 => ?_
    rw [← firstMet_succ] at hS2
    refine wpAny_pure ⟨plainId_quiet F.plain_set_update_loop _, ih (i + 1) _ (by omega) hlt (W.frame _ s' _ _ hst' (Nat.le_succ _) fun b hb o e => ?_) hS2 fun s'' hm'' hS'' => ?_⟩
    · rw [hsb.2 b (fun h : b = S => hSf (by rw [← h]; exact hb))]; exact e
    · refine hR s'' (Moved.trans W.gtrans ((hm.mono hsub).then_heap (Nat.le_succ _) fun b o hb e => ?_) hm'') hS''
      rw [hsb.2 b (fun h : b = S => hb (by rw [h]; exact List.mem_cons_self))]; exact e
end
noncomputable abbrev ledW (w : World) : Bool := !w.params.followText "set-order"
noncomputable abbrev new0 (w : World) : Obj := { cls := .type "set", dict := none, data := .set #[] 0 (.fresh 0 0 (ledW w)) }
section
variable {prog : Program} {w : World} {A : Around} {E : Value → Shared → Prop} {s : Shared}
theorem newG (a : Value) {Q₁ : Value → Shared → Prop} (h : Q₁ (.ref s.heap.objs.size) { s with heap := s.heap.push (new0 w) }) :
    codeAny (model prog w) A (.call (.builtin "set.__new__") ⟨[.type "set", a], []⟩) (wants Q₁ E) s := by
  refine codeAny_of_tree ?_
  show wpAny _ A.in1 (do checkBuiltinCall "set.__new__" ⟨[.type "set", a], []⟩; again (.builtin "set.__new__" ⟨[.type "set", a], []⟩)) _ _ s
  refine wpAny_bind (wpAny_of_eq (F.newCall_set_1 a) (wpAny_pure ⟨plainId_quiet F.plain_set_new _, codeAny_builtin F.entry_set_new ?_⟩))
  rw [Around.under_plainId F.plain_set_new _]
  unfold Builtin.«set.__new__» Builtin.Frozenset.newClass
  have hsub := sub_set_self
  obtain ⟨hp, g, d, tk, os⟩ := s
  dsimp only
  wp_walk
  refine wpAny_askSetting (wpAny_pure ?_)
  dsimp only
  simp only [newObj]
  refine wpAny_bind (wpAny_alloc (wpAny_pure ?_))
  exact wpAny_pure h
set_option maxHeartbeats 3200000 in
theorem callG {l : Addr} {items : Array Value} {ns : List Int} {Q : Value → Shared → Prop}
    (hh : A.handled = none) (hl : s.heap.IsList l items) (hi : IntsAre items.toList ns) (hb : items.size + 1 < scanBound)
    (h : ∀ (h' : Heap) (tk : Nat), SetG (ledW w) (firstMet (fun i => ns.getD i 0) items.size) h' s.heap.objs.size →
      (∀ b o, s.heap.get? b = some o → h'.get? b = some o) → Q (.ref s.heap.objs.size) { s with heap := h', toks := tk }) :
    wpAny (model prog w) A (call (.type "set") [.ref l]) Q E s := by
  obtain ⟨c, tl, hmro⟩ := F.called_set.mro
  have hmade := F.called_set.made
  have hsub := F.called_set.sub
  refine wpAny_call (codeAny_of_tree ?_)
  show wpAny _ _ (callAny (.type "set") _) _ _ _
  refine wpAny_pure ⟨Code.quiet_builtin _ (by decide +kernel), codeAny_builtin F.entry_type_call ?_⟩
  rw [Around.under_plain (weight_type_call_type "set" [.ref l] []) rfl]
  have h1 := F.called_set.notType
  have h2 := F.called_set.canCreate
  have hct := F.typeCall_set_1 (.ref l)
  repeat (any_goals (first | assumption | wp_step))
  refine codeAny_mono (newG (.ref l) (E := E) (Q₁ := fun obj s₁ => obj = .ref s.heap.objs.size ∧ s₁ = { s with heap := s.heap.push (new0 w) }) ⟨rfl, rfl⟩) fun r s₁ hr => ?_
  cases r with
  | error e => exact hr
  | ok fl =>
    cases fl with
    | ret obj =>
      obtain ⟨rfl, rfl⟩ := hr
      have hS : (s.heap.push (new0 w)).get? s.heap.objs.size = some (new0 w) := Heap.get?_push_size _ rfl
      have hT : Shared.TypeIs { s with heap := s.heap.push (new0 w) } (.ref s.heap.objs.size) "set" := ⟨_, hS, rfl⟩
      have hli := F.called_set.init.lookup
      have hbi := F.called_set.init.bind (.ref s.heap.objs.size)
      repeat (any_goals (first | assumption | wp_step))
      refine codeAny_mono (codeAny_call_builtin (R := wants (fun r s₂ => r = .none ∧ ∃ h' tk, s₂ = { s with heap := h', toks := tk } ∧
          SetG (ledW w) (firstMet (fun i => ns.getD i 0) items.size) h' s.heap.objs.size ∧
          (∀ b o, s.heap.get? b = some o → h'.get? b = some o)) E) F.called_set.init.plain F.entry_set_init (check_set_init_1 hT ?_)) fun r₂ s₂ hr₂ => ?_
      · obtain ⟨ol, hol, hcl, nl, hdl⟩ := hl
        obtain ⟨ocls, odict, odata, oslots⟩ := ol
        simp only at hcl hdl
        subst hcl; subst hdl
        have hol' : (s.heap.push (new0 w)).get? l = some { cls := .type "list", dict := odict, data := .seq items nl, slots := oslots } := Heap.get?_push_of_some _ hol
        have hsls := F.sub_list_set
        have hslf := F.sub_list_frozenset
        have hne : (Value.type "list" == Value.type "dict") = false := by decide
        have hl1 : (s.heap.push (new0 w)).IsList l items := ⟨_, hol', rfl, nl, rfl⟩
        unfold Builtin.«set.__init__» noKeywords Builtin.Frozenset.updateFrom
        generalize hPI : pyIter = PI
        wp_walk
        subst hPI
        refine wpAny_pyIter_list hl1 ?_
        refine wpAny_bind (wpAny_runValue ?_)
        have hlS : l < s.heap.objs.size := Heap.lt_size hol
        have hh3 : A.in1.in1.in1.handled = none := by simp [hh]
        have hsz : (s.heap.push (new0 w)).objs.size = s.heap.objs.size + 1 := Heap.size_push _ _
        have hneI : l ≠ (s.heap.push (new0 w)).objs.size := by rw [hsz]; exact Nat.ne_of_lt (Nat.lt_succ_of_lt hlS)
        have hSf : s.heap.objs.size ∉ [(s.heap.push (new0 w)).objs.size, l] := by
          rw [hsz]; simp only [List.mem_cons, List.not_mem_nil, or_false, not_or]; exact ⟨Nat.ne_of_lt (Nat.lt_succ_self _), Nat.ne_of_gt hlS⟩
        have hval : ∀ (i : Nat) (v : Value), items[i]? = some v → ∃ t, v = .int ((fun i => ns.getD i 0) i) t := fun i v hv =>
          IntsAre.int_at hi i v (by rw [Array.getElem?_toList]; exact hv)
        refine updG (b := ledW w) ((Walks.list hh3 _ l hneI items).toS) s.heap.objs.size hSf (fun i => ns.getD i 0) hval hb (items.size - 0) 0 _ (by omega) (Nat.zero_le _)
          ⟨⟨_, Heap.get?_push_size _ rfl, rfl, rfl⟩, (hl1.push _)⟩ ?hS0 ?hR
        case hS0 =>
          exact ⟨#[], 0, _, Heap.get?_push_of_some _ hS, fun e he => by simp at he, .nil, by decide, rfl, fresh_good _⟩
        case hR =>
          intro s' hm hS'
          obtain ⟨h', g', d', tk', os'⟩ := s'
          have eg : g' = s.gens := hm.gens
          have ed : d' = s.drawn := hm.drawn
          have eo : os' = s.os := hm.os
          subst eg; subst ed; subst eo
          show wpAny _ _ _ _ _ _
          refine wpAny_pure ?_
          show wpAny _ _ (ret Value.none) _ _ _
          refine wpAny_pure ⟨rfl, h', tk', rfl, hS', fun b o e => ?_⟩
          have hb := Heap.lt_size e
          exact hm.heap b o (by simp only [List.mem_cons, List.not_mem_nil, or_false, not_or, hsz]; exact ⟨Nat.ne_of_lt hb, Nat.ne_of_lt (Nat.lt_succ_of_lt hb)⟩) (Heap.get?_push_of_some _ (Heap.get?_push_of_some _ e))
      · cases r₂ with
        | error e => exact hr₂
        | ok fl₂ =>
          cases fl₂ with
          | ret r =>
            obtain ⟨rfl, h', tk, rfl, hS', hk'⟩ := hr₂
            repeat (any_goals (first | assumption | wp_step))
            exact h _ _ hS' hk'
          | _ => exact hr₂.elim
    | _ => exact hr.elim
end
noncomputable abbrev setO (es : Array (Int × Value)) (ep : Nat) (t : SetTable) : Obj := { cls := .type "set", dict := none, data := .set es ep t }
noncomputable abbrev itO (f : Value) (i : Nat) (S : Addr) (n ep : Nat) : Obj := { cls := .type "set_iterator", dict := none, data := .fields #[f, .int i 0, .ref S, .int n 0, .int ep 0] }
namespace SF
theorem entry_set_iter : entryFor table "set.__iter__" = some Builtin.«frozenset.__iter__» :=
  entryFor_alias (id' := "frozenset.__iter__") (by kernel_rfl) rfl (by decide +kernel) (by kernel_rfl)
theorem slot_next : Slot "set_iterator" "__next__" "set_iterator.__next__" :=
  .of (owner := "set_iterator") (n := "__next__") (by rw [typeLookup_type, builtinLookup_eq_fast]; kernel_rfl) (by decide +kernel) (by decide +kernel) (by decide +kernel)
    (by first | exact .inl (by decide +kernel) | exact .inr (by decide +kernel)) (by rw [isSubtype_type]; kernel_rfl)
theorem entry_next : entryFor table "set_iterator.__next__" = some Builtin.«set_iterator.__next__» := entryFor_of_fast (by kernel_rfl)
theorem args_next (a : Value) : argsOk "set_iterator.__next__" ⟨[a], []⟩ := by unfold argsOk; kernel_rfl
theorem slot_iter : Slot "set_iterator" "__iter__" "set_iterator.__iter__" :=
  .of (owner := "set_iterator") (n := "__iter__") (by rw [typeLookup_type, builtinLookup_eq_fast]; kernel_rfl) (by decide +kernel) (by decide +kernel) (by decide +kernel)
    (by first | exact .inl (by decide +kernel) | exact .inr (by decide +kernel)) (by rw [isSubtype_type]; kernel_rfl)
theorem entry_iter : entryFor table "set_iterator.__iter__" = some Builtin.«dict_keyiterator.__iter__» :=
  entryFor_alias (id' := "dict_keyiterator.__iter__") (by kernel_rfl) rfl (by decide +kernel) (by kernel_rfl)
theorem args_iter (a : Value) : argsOk "set_iterator.__iter__" ⟨[a], []⟩ := by unfold argsOk; kernel_rfl
end SF
section
variable {prog : Program} {w : World} {A : Around} {E : Value → Shared → Prop} {s : Shared} {I S T : Addr} {es : Array (Int × Value)} {ep : Nat} {t : SetTable} {i : Nat}
theorem choose_any {M : Model} {src : Source} {n : Nat} {Q : Nat → Shared → Prop} (hn : n ≠ 0) (h : ∀ d', Q (M.w.draws src (s.drawn.get src) % n) { s with drawn := d' }) : wpAny M A (choose src n) Q E s :=
  fun Γ p hΓ => ⟨hn, h _⟩
theorem drawOrder_any {α : Type} : ∀ (n : Nat) (l : List α) (s : Shared) (Q : List α → Shared → Prop), l.length ≤ n → (∀ l' d', l'.Perm l → Q l' { s with drawn := d' }) → wpAny (model prog w) A (drawOrder n l) Q E s := by
  intro n
  induction n with
  | zero =>
    intro l s Q hl h
    have : l = [] := List.length_eq_zero_iff.mp (by omega)
    subst this
    unfold drawOrder
    exact wpAny_pure (h [] s.drawn .nil)
  | succ n ih =>
    intro l s Q hl h
    cases l with
    | nil => unfold drawOrder; exact wpAny_pure (h [] s.drawn .nil)
    | cons x l =>
      unfold drawOrder
      refine wpAny_bind (choose_any (by simp) fun d => ?_)
      generalize hj : (model prog w).w.draws Source.order (s.drawn.get Source.order) % (x :: l).length = j
      have hlt : j < (x :: l).length := by rw [← hj]; exact Nat.mod_lt _ (by simp)
      rw [List.getElem?_eq_getElem hlt]
      dsimp only
      refine wpAny_bind (ih _ _ _ (by rw [List.length_eraseIdx_of_lt hlt]; simp at hl ⊢; omega) fun l' d' hp => ?_)
      exact wpAny_pure (h _ d' ((hp.cons _).trans (erase_perm _ _ hlt)))
theorem next_int {sl : Int} {x : Value} {nx : Nat} {Q : Option Value → Shared → Prop} (hI : s.heap.get? I = some (itO (.int sl 0) i S es.size ep)) (hS : s.heap.get? S = some (setO es ep t)) (hf : t.fits es.size = true)
    (hN : ∀ (A' : Around) (E' : Value → Shared → Prop) (Q' : Option (Value × Nat) → Shared → Prop), Q' (some (x, nx)) s → wpAny (model prog w) A' (setNext S sl.toNat i ep) Q' E' s)
    (hQ : ∀ h', h'.get? I = some (itO (.int nx 0) (i + 1) S es.size ep) → Heap.SameBut I s.heap h' → Q (some x) { s with heap := h' }) : wpAny (model prog w) A (pyNext (.ref I)) Q E s := by
  have hT : s.TypeIs (.ref I) "set_iterator" := ⟨_, hI, rfl⟩
  unfold pyNext
  refine wpAny_bind (wpAny_attempt (wpAny_callSpecial?_slot (name := Str.ofString "__next__") hT SF.slot_next (wpAny_call_entry SF.slot_next hT SF.entry_next ?_ (SF.args_next _))))
  unfold Builtin.«set_iterator.__next__»
  refine wpAny_bind (m := slotArgs "__next__" 0 _) (wpAny_pure ?_)
  refine wpAny_bind (wpAny_fieldsOf hI rfl ?_)
  dsimp only
  refine wpAny_bind (wpAny_setEntries_of hS rfl hf ?_)
  rw [if_neg (by simp)]
  simp only [Int.toNat_natCast]
  refine wpAny_bind (hN _ _ _ ?_)
  dsimp only
  refine wpAny_bind (wpAny_setField hI rfl (by simp) ?_)
  have hI1 := Heap.get?_update_self (Obj.mapFields (·.setIfInBounds 0 (rawInt nx))) hI rfl
  refine wpAny_bind (wpAny_setField hI1 rfl (by simp [Obj.mapFields]) ?_)
  have hI2 := Heap.get?_update_self (Obj.mapFields (·.setIfInBounds 1 (rawInt (i + 1)))) hI1 rfl
  exact wpAny_pure ⟨x, rfl, wpAny_pure (hQ _ hI2 ((Heap.SameBut.update ..).trans (Heap.SameBut.update ..)))⟩
theorem done_int {sl : Int} {Q : Option Value → Shared → Prop} (hh : A.handled = none) (hI : s.heap.get? I = some (itO (.int sl 0) i S es.size ep)) (hS : s.heap.get? S = some (setO es ep t)) (hf : t.fits es.size = true)
    (hN : ∀ (A' : Around) (E' : Value → Shared → Prop) (Q' : Option (Value × Nat) → Shared → Prop), Q' none s → wpAny (model prog w) A' (setNext S sl.toNat i ep) Q' E' s)
    (hQ : ∀ h', Heap.ExtBut I s.heap h' → Q none { s with heap := h' }) : wpAny (model prog w) A (pyNext (.ref I)) Q E s := by
  have hT : s.TypeIs (.ref I) "set_iterator" := ⟨_, hI, rfl⟩
  unfold pyNext
  refine wpAny_bind (wpAny_attempt (wpAny_callSpecial?_slot (name := Str.ofString "__next__") hT SF.slot_next (wpAny_call_entry SF.slot_next hT SF.entry_next ?_ (SF.args_next _))))
  unfold Builtin.«set_iterator.__next__»
  refine wpAny_bind (m := slotArgs "__next__" 0 _) (wpAny_pure ?_)
  refine wpAny_bind (wpAny_fieldsOf hI rfl ?_)
  dsimp only
  refine wpAny_bind (wpAny_setEntries_of hS rfl hf ?_)
  rw [if_neg (by simp)]
  simp only [Int.toNat_natCast]
  refine wpAny_bind (hN _ _ _ ?_)
  dsimp only
  refine wpAny_bind (wpAny_setField hI rfl (by simp) ?_)
  show wpAny _ _ (newExc (.type "StopIteration") [] >>= _) _ _ _
  refine wpAny_bind ?_
  simp only [newExc, newTuple]
  refine wpAny_bind (wpAny_newObj_type ?_ (by size_fits))
  refine wpAny_bind (m := firstArgMember _ _) (wpAny_of_eq (a := Value.none) (by first | rfl | (simp only [firstArgMember]; rfl)) ?_)
  refine wpAny_newObj_type ?_ (by size_fits)
  simp only [raiseNew]
  refine wpAny_bind (wpAny_handled ?_)
  rw [show A.in1.handled = none from hh]
  refine wpAny_bind (wpAny_pure (wpAny_throw ?_))
  refine wpAny_bind (wpAny_isInstance (T := "StopIteration") (b := true) ⟨_, Heap.get?_push_size _ rfl, rfl⟩ isSubtype_stop ?_)
  exact wpAny_pure (hQ _ (((Heap.SameBut.update ..).extBut.push _).push _))
theorem next_drawn {pl : Array Value} {c : Nat} {p : Int} {u : Tok} {h0 : Int} {x : Value} {Q : Option Value → Shared → Prop} (hI : s.heap.get? I = some (itO (.ref T) i S es.size ep)) (hS : s.heap.get? S = some (setO es ep t)) (hf : t.fits es.size = true)
    (hT' : s.heap.get? T = some { cls := .type "tuple", data := .seq pl c }) (hp : pl[i]? = some (.int p u)) (hx : es[p.toNat]? = some (h0, x))
    (hQ : ∀ h', h'.get? I = some (itO (.ref T) (i + 1) S es.size ep) → Heap.SameBut I s.heap h' → Q (some x) { s with heap := h' }) : wpAny (model prog w) A (pyNext (.ref I)) Q E s := by
  have hT : s.TypeIs (.ref I) "set_iterator" := ⟨_, hI, rfl⟩
  unfold pyNext
  refine wpAny_bind (wpAny_attempt (wpAny_callSpecial?_slot (name := Str.ofString "__next__") hT SF.slot_next (wpAny_call_entry SF.slot_next hT SF.entry_next ?_ (SF.args_next _))))
  unfold Builtin.«set_iterator.__next__»
  refine wpAny_bind (m := slotArgs "__next__" 0 _) (wpAny_pure ?_)
  refine wpAny_bind (wpAny_fieldsOf hI rfl ?_)
  dsimp only
  refine wpAny_bind (wpAny_setEntries_of hS rfl hf ?_)
  rw [if_neg (by simp)]
  refine wpAny_bind (wpAny_seqItems hT' rfl ?_)
  simp only [Int.toNat_natCast, hp]
  refine wpAny_bind ?_
  unfold setNextDrawn
  refine wpAny_bind (wpAny_setState_of hS rfl hf ?_)
  dsimp only
  rw [if_neg (by simp), hx]
  refine wpAny_pure ?_
  refine wpAny_bind (wpAny_setField hI rfl (by simp) ?_)
  have hI2 := Heap.get?_update_self (Obj.mapFields (·.setIfInBounds 1 (rawInt (i + 1)))) hI rfl
  exact wpAny_pure ⟨x, rfl, wpAny_pure (hQ _ hI2 (Heap.SameBut.update ..))⟩
theorem done_drawn {pl : Array Value} {c : Nat} {Q : Option Value → Shared → Prop} (hh : A.handled = none) (hI : s.heap.get? I = some (itO (.ref T) i S es.size ep)) (hS : s.heap.get? S = some (setO es ep t)) (hf : t.fits es.size = true)
    (hT' : s.heap.get? T = some { cls := .type "tuple", data := .seq pl c }) (hp : pl[i]? = none)
    (hQ : ∀ h', Heap.ExtBut I s.heap h' → Q none { s with heap := h' }) : wpAny (model prog w) A (pyNext (.ref I)) Q E s := by
  have hT : s.TypeIs (.ref I) "set_iterator" := ⟨_, hI, rfl⟩
  unfold pyNext
  refine wpAny_bind (wpAny_attempt (wpAny_callSpecial?_slot (name := Str.ofString "__next__") hT SF.slot_next (wpAny_call_entry SF.slot_next hT SF.entry_next ?_ (SF.args_next _))))
  unfold Builtin.«set_iterator.__next__»
  refine wpAny_bind (m := slotArgs "__next__" 0 _) (wpAny_pure ?_)
  refine wpAny_bind (wpAny_fieldsOf hI rfl ?_)
  dsimp only
  refine wpAny_bind (wpAny_setEntries_of hS rfl hf ?_)
  rw [if_neg (by simp)]
  refine wpAny_bind (wpAny_seqItems hT' rfl ?_)
  simp only [Int.toNat_natCast, hp]
  refine wpAny_bind (wpAny_setField hI rfl (by simp) ?_)
  have hI1 := Heap.get?_update_self (Obj.mapFields (·.setIfInBounds 0 (rawInt 0))) hI rfl
  refine wpAny_bind (wpAny_setField hI1 rfl (by simp [Obj.mapFields]) ?_)
  show wpAny _ _ (newExc (.type "StopIteration") [] >>= _) _ _ _
  refine wpAny_bind ?_
  simp only [newExc, newTuple]
  refine wpAny_bind (wpAny_newObj_type ?_ (by size_fits))
  refine wpAny_bind (m := firstArgMember _ _) (wpAny_of_eq (a := Value.none) (by first | rfl | (simp only [firstArgMember]; rfl)) ?_)
  refine wpAny_newObj_type ?_ (by size_fits)
  simp only [raiseNew]
  refine wpAny_bind (wpAny_handled ?_)
  rw [show A.in1.handled = none from hh]
  refine wpAny_bind (wpAny_pure (wpAny_throw ?_))
  refine wpAny_bind (wpAny_isInstance (T := "StopIteration") (b := true) ⟨_, Heap.get?_push_size _ rfl, rfl⟩ isSubtype_stop ?_)
  exact wpAny_pure (hQ _ ((((Heap.SameBut.update ..).trans (Heap.SameBut.update ..)).extBut.push _).push _))
theorem iter_self {f : Value} {n : Nat} {Q : Value → Shared → Prop} (hI : s.heap.get? I = some (itO f i S n ep)) (h : Q (.ref I) s) : wpAny (model prog w) A (pyIter (.ref I)) Q E s := by
  have hT : s.TypeIs (.ref I) "set_iterator" := ⟨_, hI, rfl⟩
  refine wpAny_pyIter_slot hT SF.slot_iter (wpAny_call_entry SF.slot_iter hT SF.entry_iter ?_ (SF.args_iter _))
  show wpAny _ _ (ret (.ref I)) _ _ s
  exact wpAny_pure ⟨_, rfl, "set_iterator", _, hT, SF.slot_next.lookup, h⟩
theorem walkG (hIS : S ≠ I) (hIT : T ≠ I) {oT : Obj} (vs : List Value) (f : Nat → Value)
    (hi : ∀ (i : Nat) (s : Shared) (Q : Option Value → Shared → Prop) (E : Value → Shared → Prop) (h : i < vs.length), s.heap.get? S = some (setO es ep t) → s.heap.get? T = some oT → s.heap.get? I = some (itO (f i) i S es.size ep) →
      (∀ h', h'.get? I = some (itO (f (i + 1)) (i + 1) S es.size ep) → Heap.SameBut I s.heap h' → Q (some vs[i]) { s with heap := h' }) → wpAny (model prog w) A (pyNext (.ref I)) Q E s)
    (hd : ∀ (s : Shared) (Q : Option Value → Shared → Prop) (E : Value → Shared → Prop), s.heap.get? S = some (setO es ep t) → s.heap.get? T = some oT → s.heap.get? I = some (itO (f vs.length) vs.length S es.size ep) →
      (∀ h', Heap.ExtBut I s.heap h' → Q none { s with heap := h' }) → wpAny (model prog w) A (pyNext (.ref I)) Q E s) :
    Walks prog w A I [I, S, T] [I] vs.length (fun i v => vs[i]? = some v) (fun i h => h.get? S = some (setO es ep t) ∧ h.get? T = some oT ∧ h.get? I = some (itO (f i) i S es.size ep)) where
  sub := fun b hb => by simp at hb; simp [hb]
  frame := fun i h h' st hk => ⟨hk S (by simp) _ st.1, hk T (by simp) _ st.2.1, hk I (by simp) _ st.2.2⟩
  item := fun i s Q E h st hQ => hi i s Q E h st.1 st.2.1 st.2.2 fun h' e sb => hQ _ h' s.toks (List.getElem?_eq_getElem h) ⟨sb.extBut _ _ hIS st.1, sb.extBut _ _ hIT st.2.1, e⟩ fun b o hb e => sb.extBut b o (fun z => hb (by simp [z])) e
  done := fun s Q E st hQ => hd s Q E st.1 st.2.1 st.2.2 fun h' eb => hQ h' s.toks fun b o hb e => eb b o (fun z => hb (by simp [z])) e
  self := fun i s Q E st hQ => iter_self st.2.2 hQ
end
end L2

namespace L2
open PySem PySem.Spec PyProof.Rows
section
variable {prog : Program} {w : World} {A : Around} {E : Value → Shared → Prop} {s : Shared} {S : Addr} {es : Array (Int × Value)} {ep : Nat} {t : SetTable} {i : Nat}
theorem byText_of {Q : Bool → Shared → Prop} (h : Q (w.params.followText "set-order") s) : wpAny (model prog w) A setsByText Q E s := by
  unfold setsByText
  exact wpAny_bind (wpAny_askSetting (wpAny_pure h))
theorem setDrawn_of {Q : Bool → Shared → Prop} (hS : s.heap.get? S = some (setO es ep t)) (hf : t.fits es.size = true)
    (h : Q (!w.params.followText "set-order" && (!t.plain && decide (es.size > 1))) s) : wpAny (model prog w) A (setDrawn S) Q E s := by
  unfold setDrawn
  refine wpAny_bind (wpAny_setState_of hS rfl hf ?_)
  dsimp only
  exact wpAny_bind (byText_of (wpAny_pure h))
theorem setNext_text {sl : Nat} {Q : Option (Value × Nat) → Shared → Prop} (hb : w.params.followText "set-order" = true) (hS : s.heap.get? S = some (setO es ep t)) (hf : t.fits es.size = true)
    (h : Q (((pickOrder (w.params.setOrder S ep) es)[i]?).map fun e => (e.2, sl)) s) : wpAny (model prog w) A (setNext S sl i ep) Q E s := by
  unfold setNext
  refine wpAny_bind (wpAny_setState_of hS rfl hf ?_)
  dsimp only
  refine wpAny_bind (byText_of ?_)
  rw [if_pos hb, if_neg (by simp)]
  refine wpAny_bind ?_
  unfold setWalk
  refine wpAny_bind (wpAny_setState_of hS rfl hf ?_)
  dsimp only
  refine wpAny_bind (byText_of ?_)
  rw [if_pos hb]
  refine wpAny_bind (wpAny_askSetting (wpAny_pure (wpAny_pure h)))
theorem setNext_led {sl : Nat} {Q : Option (Value × Nat) → Shared → Prop} (hb : w.params.followText "set-order" = false) (hd : (!t.plain && decide (es.size > 1)) = false) (hl : t.led = true) (hS : s.heap.get? S = some (setO es ep t)) (hf : t.fits es.size = true)
    (h : Q (match es[SetTable.below t.place sl]?, t.place[SetTable.below t.place sl]? with | some (_, x), some j => some (x, j + 1) | _, _ => none) s) : wpAny (model prog w) A (setNext S sl i ep) Q E s := by
  unfold setNext
  refine wpAny_bind (wpAny_setState_of hS rfl hf ?_)
  dsimp only
  refine wpAny_bind (byText_of ?_)
  rw [if_neg (by rw [hb]; decide)]
  show wpAny _ _ (if (!t.plain && decide (es.size > 1)) = true then _ else _) _ _ s
  rw [if_neg (by rw [hd]; decide)]
  refine wpAny_bind (m := if (!t.led && !es.isEmpty) = true then unsupported "set:maker-not-led" else pure PUnit.unit) ?_
  rw [if_neg (by rw [hl]; simp)]
  exact wpAny_pure (wpAny_pure h)
structure WK (prog : Program) (w : World) (s : Shared) (a : Addr) (ms : List Int) (I : Addr) (s' : Shared) : Prop where
  ex : ∃ (T : Addr) (vs : List Value) (ns : List Int) (St : Nat → Heap → Prop), IntsAre vs ns ∧ ns.Perm ms ∧ (∀ A2 : Around, A2.handled = none → Walks prog w A2 I [I, a, T] [I] vs.length (fun i v => vs[i]? = some v) St) ∧ St 0 s'.heap ∧
    s.heap.get? I = none ∧ (T = a ∨ s.heap.get? T = none) ∧ I < s'.heap.objs.size ∧ T < s'.heap.objs.size
  kept : ∀ b o, s.heap.get? b = some o → s'.heap.get? b = some o
  gens : s'.gens = s.gens
  os : s'.os = s.os
  toks : s'.toks = s.toks
theorem ints_of_es : ∀ {es : List (Int × Value)}, IntE es → IntsAre (es.map (·.2)) (es.map intOf)
  | [], _ => .nil
  | e :: es, h => by
    obtain ⟨k, t, rfl⟩ := h e List.mem_cons_self
    exact .cons k t (ints_of_es fun x hx => h x (List.mem_cons_of_mem _ hx))
theorem free_get {h : Heap} {b : Addr} (hb : h.objs.size ≤ b) : h.get? b = none := by
  cases e : h.get? b with
  | none => rfl
  | some o => exact absurd (Heap.lt_size e) (Nat.not_lt.mpr hb)
theorem fm_getD (es : Array (Int × Value)) : ∀ (l : List Nat), (∀ j ∈ l, j < es.size) → l.filterMap (es[·]?) = l.map fun j => es.getD j (0, .none)
  | [], _ => rfl
  | j :: l, hlt => by
    have := hlt j List.mem_cons_self
    rw [List.filterMap_cons, Array.getElem?_eq_getElem this, List.map_cons, fm_getD es l (fun k hk => hlt k (List.mem_cons_of_mem _ hk))]
    simp [Array.getD, this]
theorem iterG {a : Addr} {ms : List Int} {Q : Value → Shared → Prop} (hS : SetG (ledW w) ms s.heap a) (h : ∀ I s', WK prog w s a ms I s' → Q (.ref I) s') : wpAny (model prog w) A (pyIter (.ref a)) Q E s := by
  obtain ⟨es, ep, t, ho, hi, hp, hb, hf, hg⟩ := hS.ex
  have hT : s.TypeIs (.ref a) "set" := ⟨_, ho, rfl⟩
  have ha := Heap.lt_size ho
  refine wpAny_pyIter_slot hT F.slot_set_iter (wpAny_call_entry F.slot_set_iter hT SF.entry_set_iter ?_ (F.args_set_iter_1 _))
  unfold Builtin.«frozenset.__iter__» Builtin.Frozenset.slot0 Builtin.Frozenset.addrOf Builtin.Frozenset.sizeOf
  refine wpAny_bind (wpAny_bind (m := slotArgs "__iter__" 0 _) (wpAny_pure ?_))
  refine wpAny_pure ?_
  refine wpAny_bind (wpAny_bind (wpAny_setEntries_of ho rfl hf (wpAny_pure ?_)))
  refine wpAny_bind (setDrawn_of ho hf ?_)
  have hsz : es.size ≤ sizeLine := fits_of_scanBound hb
  have hplace : t.place.size = es.size := by
    simp only [SetTable.fits, Bool.and_eq_true, beq_iff_eq] at hf; exact hf.1
  cases hby : w.params.followText "set-order" with
  | true =>
    refine wpAny_ite_split (fun z => by simp at z) fun _ => wpAny_bind (wpAny_pure ?_)
    refine wpAny_bind (wpAny_setEpoch_of ho rfl hf ?_)
    refine wpAny_bind (wpAny_newObj_type (wpAny_pure ⟨_, rfl, "set_iterator", _, ⟨_, Heap.get?_push_size _ rfl, rfl⟩, SF.slot_next.lookup, h _ _ ?_⟩))
    have hpk := pickOrder_perm (w.params.setOrder a ep) es
    have hl : (pickOrder (w.params.setOrder a ep) es).toList.length = es.size := by rw [hpk.length_eq, Array.length_toList]
    refine ⟨⟨a, ((pickOrder (w.params.setOrder a ep) es).toList.map (·.2)), _, _, ints_of_es (fun e he => hi e (hpk.mem_iff.mp he)), (hpk.map _).trans hp, fun A2 hh => walkG (es := es) (ep := ep) (t := t) (Nat.ne_of_lt ha) (Nat.ne_of_lt ha) (oT := setO es ep t) _ (fun _ => .int 0 0) (fun i s Q E hlt h1 _ h3 hQ => ?_) (fun s Q E h1 _ h3 hQ => ?_), ⟨Heap.get?_push_of_some _ ho, Heap.get?_push_of_some _ ho, Heap.get?_push_size _ rfl⟩, free_get (Nat.le_refl _), .inl rfl, ?_, ?_⟩, fun b o e => Heap.get?_push_of_some _ e, rfl, rfl, rfl⟩
    · refine next_int (nx := 0) h3 h1 hf (fun A' E' Q' q => setNext_text hby h1 hf ?_) fun h' e sb => hQ h' e sb
      rw [List.length_map] at hlt
      have : (pickOrder (w.params.setOrder a ep) es)[i]? = some ((pickOrder (w.params.setOrder a ep) es).toList[i]) := by rw [← Array.getElem?_toList]; exact List.getElem?_eq_getElem hlt
      rw [this]
      simpa using q
    · refine done_int hh h3 h1 hf (fun A' E' Q' q => setNext_text hby h1 hf ?_) hQ
      have : (pickOrder (w.params.setOrder a ep) es)[((pickOrder (w.params.setOrder a ep) es).toList.map (·.2)).length]? = none := by rw [← Array.getElem?_toList, List.length_map]; exact List.getElem?_eq_none (Nat.le_refl _)
      rw [this]
      exact q
    · show _ < (s.heap.push _).objs.size
      rw [Heap.size_push]; exact Nat.lt_succ_self _
    · show _ < (s.heap.push _).objs.size
      rw [Heap.size_push]; exact Nat.lt_succ_of_lt ha
  | false =>
    cases hdr : (!t.plain && decide (es.size > 1)) with
    | false =>
      refine wpAny_ite_split (fun z => by simp at z) fun _ => wpAny_bind (wpAny_pure ?_)
      refine wpAny_bind (wpAny_setEpoch_of ho rfl hf ?_)
      refine wpAny_bind (wpAny_newObj_type (wpAny_pure ⟨_, rfl, "set_iterator", _, ⟨_, Heap.get?_push_size _ rfl, rfl⟩, SF.slot_next.lookup, h _ _ ?_⟩))
      have hled : t.led = true := by rw [hg.led]; simp [ledW, hby]
      refine ⟨⟨a, es.toList.map (·.2), _, _, ints_of_es hi, hp, fun A2 hh => walkG (es := es) (ep := ep) (t := t) (Nat.ne_of_lt ha) (Nat.ne_of_lt ha) (oT := setO es ep t) _ (fun i => .int (slotAt t.place i) 0) (fun i s Q E hlt h1 _ h3 hQ => ?_) (fun s Q E h1 _ h3 hQ => ?_), ⟨Heap.get?_push_of_some _ ho, Heap.get?_push_of_some _ ho, Heap.get?_push_size _ rfl⟩, free_get (Nat.le_refl _), .inl rfl, ?_, ?_⟩, fun b o e => Heap.get?_push_of_some _ e, rfl, rfl, rfl⟩
      · rw [List.length_map, Array.length_toList] at hlt
        refine next_int (nx := slotAt t.place (i + 1)) h3 h1 hf (fun A' E' Q' q => setNext_led hby hdr hled h1 hf ?_) fun h' e sb => hQ h' e sb
        rw [Int.toNat_natCast, below_slot t.place hg.rise (by omega), Array.getElem?_eq_getElem hlt, Array.getElem?_eq_getElem (show i < t.place.size by omega)]
        have : slotAt t.place (i + 1) = t.place[i] + 1 := by simp [slotAt, Array.getD, show i < t.place.size by omega]
        rw [this] at q
        simpa using q
      · refine done_int hh h3 h1 hf (fun A' E' Q' q => setNext_led hby hdr hled h1 hf ?_) hQ
        rw [Int.toNat_natCast, below_slot t.place hg.rise (by rw [List.length_map, Array.length_toList]; omega), Array.getElem?_eq_none (by rw [List.length_map, Array.length_toList]; exact Nat.le_refl _)]
        exact q
      · show _ < (s.heap.push _).objs.size
        rw [Heap.size_push]; exact Nat.lt_succ_self _
      · show _ < (s.heap.push _).objs.size
        rw [Heap.size_push]; exact Nat.lt_succ_of_lt ha
    | true =>
      refine wpAny_ite_split (fun _ => ?_) fun z => absurd rfl z
      refine wpAny_bind (drawOrder_any es.size (List.range es.size) s _ (by simp) fun l d' hl => ?_)
      have hlen : l.length = es.size := by rw [hl.length_eq, List.length_range]
      refine wpAny_bind (wpAny_newTuple ?_ (by rw [List.length_map, hlen]; exact hsz))
      have ho1 : (s.heap.push { cls := .type "tuple", data := .seq (l.map fun (i : Nat) => rawInt i).toArray }).get? a = some (setO es ep t) := Heap.get?_push_of_some _ ho
      refine wpAny_bind (wpAny_setEpoch_of (s := { s with heap := s.heap.push { cls := .type "tuple", data := .seq (l.map fun (i : Nat) => rawInt i).toArray }, drawn := d' }) ho1 rfl hf ?_)
      refine wpAny_bind (wpAny_newObj_type (wpAny_pure ⟨_, rfl, "set_iterator", _, ⟨_, Heap.get?_push_size _ rfl, rfl⟩, SF.slot_next.lookup, h _ _ ?_⟩))
      have hs1 : (s.heap.push { cls := .type "tuple", data := .seq (l.map fun (i : Nat) => rawInt i).toArray }).objs.size = s.heap.objs.size + 1 := Heap.size_push _ _
      have hT1 : (s.heap.push { cls := .type "tuple", data := .seq (l.map fun (i : Nat) => rawInt i).toArray }).get? s.heap.objs.size = some { cls := .type "tuple", data := .seq (l.map fun (i : Nat) => rawInt i).toArray } := Heap.get?_push_size _ rfl
      have hlt : ∀ j ∈ l, j < es.size := fun j hj => List.mem_range.mp (hl.mem_iff.mp hj)
      have hpk : (l.filterMap (es[·]?)).Perm es.toList := (hl.filterMap _).trans (by rw [filterMap_getElem?_range])
      have hmap := fm_getD es l hlt
      rw [hmap] at hpk
      refine ⟨⟨s.heap.objs.size, (l.map fun j => es.getD j (0, .none)).map (·.2), _, _, ints_of_es (fun e he => hi e (hpk.mem_iff.mp he)), (hpk.map _).trans hp, fun A2 hh => walkG (es := es) (ep := ep) (t := t) (by show a ≠ (s.heap.push _).objs.size; rw [hs1]; exact Nat.ne_of_lt (Nat.lt_succ_of_lt ha)) (by show s.heap.objs.size ≠ (s.heap.push _).objs.size; rw [hs1]; exact Nat.ne_of_lt (Nat.lt_succ_self _)) (oT := { cls := .type "tuple", data := .seq (l.map fun (i : Nat) => rawInt i).toArray }) _ (fun _ => .ref s.heap.objs.size) (fun i s Q E hlt' h1 h2 h3 hQ => ?_) (fun s Q E h1 h2 h3 hQ => ?_), ⟨Heap.get?_push_of_some _ ho1, Heap.get?_push_of_some _ hT1, Heap.get?_push_size _ rfl⟩, free_get (by rw [hs1]; omega), .inr (free_get (Nat.le_refl _)), ?_, ?_⟩, fun b o e => Heap.get?_push_of_some _ (Heap.get?_push_of_some _ e), rfl, rfl, rfl⟩
      · rw [List.length_map, List.length_map] at hlt'
        have hj := hlt l[i] (List.getElem_mem hlt')
        refine next_drawn (p := l[i]) (u := 0) (h0 := es[l[i]].1) (x := es[l[i]].2) h3 h1 hf h2 (by simp [rawInt, hlt']) (by rw [Int.toNat_natCast]; exact Array.getElem?_eq_getElem hj) fun h' e sb => ?_
        have := hQ h' e sb
        simpa [Array.getD, hj] using this
      · exact done_drawn hh h3 h1 hf h2 (by simp) hQ
      · show (s.heap.push _).objs.size < ((s.heap.push _).push _).objs.size
        rw [Heap.size_push (s.heap.push _)]; exact Nat.lt_succ_self _
      · show s.heap.objs.size < ((s.heap.push _).push _).objs.size
        rw [Heap.size_push (s.heap.push _), hs1]; omega
end
end L2

namespace L2
open PySem PySem.Spec PyProof.Rows
section
variable {prog : Program} {w : World} {A : Around} {E : Value → Shared → Prop} {s : Shared}
theorem ints_len : ∀ {vs : List Value} {ns : List Int}, IntsAre vs ns → vs.length = ns.length
  | _, _, .nil => rfl
  | _, _, .cons _ _ r => by rw [List.length_cons, List.length_cons, ints_len r]
theorem hintG {r : Addr} {Q : Bool → Shared → Prop} (hT : s.TypeIs (.ref r) "set") (h : Q false s) : wpAny (model prog w) A (Builtin.List.listLengthHint (.ref r)) Q E s := by
  unfold Builtin.List.listLengthHint
  refine wpAny_bind (wpAny_specialOf hT F.slot_set_len.lookup ?_)
  generalize hid : ("set.__len__" : String) = id0
  wp_delta
  rw [show splitId id0 = some ("set", "__len__") from by subst hid; decide +kernel]
  subst hid
  refine wpAny_bind (wpAny_isInstance (T := "set") (b := true) hT (by rw [isSubtype_type]; kernel_rfl) ?_)
  refine wpAny_ite_split (fun hab => absurd hab (by decide)) (fun _ => ?_)
  refine wpAny_ite_split (fun _ => ?_) (fun hab => absurd (by decide +kernel) hab)
  refine wpAny_bind (wpAny_typeOf hT ?_)
  exact wpAny_pure h
noncomputable abbrev lstO (xs : Array Value) (n : Nat) : Obj := { cls := .type "list", dict := none, data := .seq xs n, slots := #[] }
theorem collectG {a : Addr} {ms : List Int} {Q : List Value → Shared → Prop} (hh : A.handled = none) (hS : SetG (ledW w) ms s.heap a) (hm : ms.length ≤ sizeLine)
    (hQ : ∀ s' vs ns, IntsAre vs ns → ns.Perm ms → (∀ b o, s.heap.get? b = some o → s'.heap.get? b = some o) → s.heap.objs.size ≤ s'.heap.objs.size → s'.gens = s.gens → s'.os = s.os → Q vs s') : wpAny (model prog w) A (collect (.ref a)) Q E s := by
  obtain ⟨es, ep, t, ho, _⟩ := id hS.ex
  have ha := Heap.lt_size ho
  unfold collect
  refine wpAny_bind (wpAny_runValue (codeAny_builtin F.entry_proto_collect ?_))
  rw [Around.under_plainId F.plain_proto_collect _]
  show wpAny _ A.in1 (newList [] >>= fun l => again (.builtin "list.__iadd__" ⟨[l, .ref a], []⟩)) _ _ s
  refine wpAny_bind (wpAny_newObj_type ?_)
  refine wpAny_pure ⟨plainId_quiet F.plain_list_iadd _, codeAny_builtin F.entry_list_iadd ?_⟩
  rw [Around.under_plainId F.plain_list_iadd _]
  obtain ⟨D, hD⟩ : ∃ D, D = s.heap.objs.size := ⟨_, rfl⟩
  have hS₁ : (s.heap.push { cls := .type "list", data := .seq ([] : List Value).toArray }).get? D = some (lstO #[] 0) := by rw [hD]; exact Heap.get?_push_size _ rfl
  rw [← hD]
  show wpAny _ A.in1 (Builtin.List.listExtendWith (.ref D) (.ref a) (.ref D)) _ _ _
  unfold Builtin.List.listExtendWith
  have hk0 : ∀ b o, s.heap.get? b = some o → (s.heap.push { cls := .type "list", data := .seq ([] : List Value).toArray }).get? b = some o := fun b o e => Heap.get?_push_of_some _ e
  generalize s.heap.push { cls := .type "list", data := .seq ([] : List Value).toArray } = h0 at hS₁ hk0 ⊢
  have hDa : D ≠ a := by rw [hD]; exact Nat.ne_of_gt ha
  refine wpAny_bind (wpAny_typeOf (T := "set") ⟨_, hk0 _ _ ho, rfl⟩ ?_)
  have h1 : Builtin.List.listSameRef (.ref D) (.ref a) = false := by simp [Builtin.List.listSameRef, hDa]
  rw [if_neg (by rw [h1]; decide)]
  refine wpAny_bind (iterG (s := { s with heap := h0 }) (hS.at fun o e => hk0 _ _ e) fun I s1 wk => ?_)
  obtain ⟨T, vs, ns, St, r1, r2, W, st0, nI, nT, lI, lT⟩ := wk.ex
  have hlen : vs.length ≤ sizeLine := by
    rw [ints_len r1, r2.length_eq]; exact hm
  have hDI : D ≠ I := fun z => by rw [z] at hS₁; rw [nI] at hS₁; cases hS₁
  have hDT : D ≠ T := fun z => by
    rcases nT with e | e
    · exact hDa (z.trans e)
    · rw [z] at hS₁; rw [e] at hS₁; cases hS₁
  have hSf : D ∉ [I, a, T] := by
    simp only [List.mem_cons, List.not_mem_nil, or_false, not_or]; exact ⟨hDI, hDa, hDT⟩
  refine wpAny_bind (wpAny_holding (hintG (s := s1) ⟨_, wk.kept _ _ (hk0 _ _ ho), rfl⟩ ?_))
  have hS2 := wk.kept _ _ hS₁
  have key : ∀ (h : Heap) (c₁ : Nat), St 0 h → (∀ b o, b ≠ D → s1.heap.get? b = some o → h.get? b = some o) → h.get? D = some (lstO #[] c₁) →
      codeAny (model prog w) A (.builtin "list.extend.loop" ⟨[.ref D, .ref I, .ref D], []⟩) (fun r s' => match r with | .ok (.ret v) => v = .ref D ∧ wpAny (model prog w) A (load D >>= fun o => match o.data with | .seq xs _ => pure xs.toList | _ => unsupported "internal:collect") Q E s' | _ => False) { s1 with heap := h } := by
    intro h c₁ hst hk hS3
    refine codeAny_extend_loopS (W A.in1 hh).toS hlen D hSf (.ref D) vs.length 0 _ #[] c₁ rfl (Nat.zero_le _) hst hS3 (ItemsOf.nil _) fun s' acc' c' hmv hS' hacc => ?_
    refine ⟨rfl, wpAny_bind (wpAny_load hS' ?_)⟩
    have e : acc'.toList = vs := by
      refine List.ext_getElem? fun i => ?_
      by_cases hi : i < vs.length
      · have h2 : i < acc'.size := by rw [hacc.1]; exact hi
        have := hacc.2 i acc'[i] (Array.getElem?_eq_getElem h2)
        rw [this, Array.getElem?_toList]
        exact Array.getElem?_eq_getElem h2
      · rw [List.getElem?_eq_none (l := vs) (by omega), List.getElem?_eq_none (by rw [Array.length_toList, hacc.1]; omega)]
    have hks : ∀ b o, s.heap.get? b = some o → s'.heap.get? b = some o := fun b o e => by
      have hb := Heap.lt_size e
      have hbD : b ≠ D := by rw [hD]; exact Nat.ne_of_lt hb
      have hbI : b ≠ I := fun z => by
        have := hk0 b o e
        rw [z] at this; rw [nI] at this; cases this
      exact hmv.heap b o (by simp only [List.mem_cons, List.not_mem_nil, or_false, not_or]; exact ⟨hbD, hbI⟩) (hk b o hbD (wk.kept b o (hk0 b o e)))
    have : Q acc'.toList s' := by
      rw [e]
      exact hQ s' vs ns r1 r2 hks (by rw [← hD]; exact Nat.le_of_lt (Heap.lt_size hS')) (hmv.gens.trans wk.gens) (hmv.os.trans wk.os)
    exact wpAny_pure this
  refine wpAny_ite_split (fun _ => ?_) (fun _ => wpAny_pure ⟨plainId_quiet F.plain_extend_loop _, ?_⟩)
  · refine wpAny_bind (wpAny_rule ?_)
    refine wpAny_bind ?_
    show wpAny _ _ (updateSeq D (·.push .none) >>= fun _ => updateSeq D (·.pop)) _ _ _
    refine wpAny_bind (wpAny_updateSeq hS2 rfl ?_)
    have hS3 := Heap.get?_update_self (Obj.mapSeq (·.push Value.none)) hS2 rfl
    refine wpAny_updateSeq (hz := by seq_fits) hS3 rfl ?_
    have hS4 := Heap.get?_update_self (Obj.mapSeq (·.pop)) hS3 rfl
    have oth : ∀ b o, b ≠ D → s1.heap.get? b = some o → ((s1.heap.update D (Obj.mapSeq (·.push Value.none))).update D (Obj.mapSeq (·.pop))).get? b = some o :=
      fun b o hb e => (Heap.get?_update_other _ _ (Ne.symm hb)).trans ((Heap.get?_update_other _ _ (Ne.symm hb)).trans e)
    refine wpAny_pure ⟨plainId_quiet F.plain_extend_loop _, codeAny_mono (key _ _ ((W A.in1 hh).frame 0 _ _ st0 fun b hb o e => oth b o (fun z => hSf (z ▸ hb)) e) oth hS4) fun r s' hr => ?_⟩
    cases r with
    | error e => exact hr.elim
    | ok fl =>
      cases fl with
      | ret v =>
        obtain ⟨e, hr⟩ := hr
        subst e
        exact hr
      | _ => exact hr.elim
  · refine codeAny_mono (key _ _ st0 (fun b o _ e => e) hS2) fun r s' hr => ?_
    cases r with
    | error e => exact hr.elim
    | ok fl =>
      cases fl with
      | ret v =>
        obtain ⟨e, hr⟩ := hr
        subst e
        exact hr
      | _ => exact hr.elim
end
end L2

namespace L2
open PySem PySem.Spec PyProof.Rows
section
variable {prog : Program} {w : World} {A : Around} {E : Value → Shared → Prop} {s : Shared}
theorem sortedG {a : Addr} {ms : List Int} {Q : Value → Shared → Prop} (hh : A.handled = none) (hS : SetG (ledW w) ms s.heap a) (h64 : ms.length < 64)
    (h : ∀ s' D out e ns, IntsAre out.toList ns → ns.Perm ms → s.heap.objs.size ≤ D → s'.heap.get? D = some (seqObj "list" out e) → (∀ b o, s.heap.get? b = some o → s'.heap.get? b = some o) → s'.gens = s.gens → s'.os = s.os → Q (.ref D) s') :
    wpAny (model prog w) A (call (.builtin "sorted") [.ref a]) Q E s := by
  refine Calls.call_function_entry kind_sorted plain_sorted entry_sorted (args_sorted1 _) ?_
  unfold Builtin.«sorted»
  refine wpAny_bind (m := checkCount "sorted" 1 1 _) (wpAny_pure ?_)
  refine wpAny_bind (collectG (A := A.in1) hh hS (by rw [sizeLine_eq]; omega) fun s1 vs ns r1 r2 hk hle hg ho => ?_)
  have hl : vs.length < 64 := by rw [ints_len r1, r2.length_eq]; exact h64
  refine wpAny_bind (wpAny_newList ?_ (by rw [sizeLine_eq]; omega))
  have hoL : (s1.heap.push (seqObj "list" vs.toArray 0)).get? s1.heap.objs.size = some (seqObj "list" vs.toArray 0) := Heap.get?_push_size _ rfl
  refine wpAny_bind (wpAny_holding (wpAny_call_entry slot_list_sort ⟨_, hoL, rfl⟩ entry_list_sort (list_sort_tree hoL r1 hl fun out ns' a1 a2 a3 => ⟨_, rfl, ?_⟩) (args_list_sort _)))
  obtain ⟨e, he⟩ := sortedHeap_at (out := out) hoL
  have hsz : ∀ b o, s.heap.get? b = some o → b < s1.heap.objs.size := fun b o q => Heap.lt_size (hk b o q)
  refine wpAny_pure ⟨_, rfl, h _ s1.heap.objs.size out e ns' a1 (a2.trans r2) hle he (fun b o q => ?_) hg ho⟩
  have hb := hsz b o q
  show (sortedHeap (s1.heap.push (seqObj "list" vs.toArray 0)) s1.heap.objs.size vs out).get? b = some o
  rw [sortedHeap_old (Nat.ne_of_lt hb) (by rw [size_push']; exact Nat.lt_succ_of_lt hb)]
  exact Heap.get?_push_of_some _ (hk b o q)
end
end L2

namespace L2
open PySem PySem.Spec PyProof.Rows
theorem firstMet_fold (ns : List Int) : firstMet (fun i => ns.getD i 0) ns.length = ns.foldl step_dedup [] := by
  unfold firstMet
  congr 1
  refine List.ext_getElem? fun i => ?_
  by_cases h : i < ns.length
  · simp [h, List.getD]
  · rw [List.getElem?_eq_none (by simpa using h), List.getElem?_eq_none (by simpa using h)]
theorem ints_vals : ∀ {ns : List Int} {us : List Value}, Vals (ns.map V.int) us → IntsAre us ns
  | [], _, .nil => .nil
  | n :: ns, _, .cons ⟨t, e⟩ r => by subst e; exact .cons n t (ints_vals r)
theorem vals_ofInts : ∀ {us : List Value} {ns : List Int}, IntsAre us ns → Vals (ns.map V.int) us
  | _, _, .nil => .nil
  | _, _, .cons n t r => .cons ⟨t, rfl⟩ (vals_ofInts r)
noncomputable def onceF (ns : List Int) : List Int := ns.foldl step_dedup []
section
variable {X : Cx}
noncomputable abbrev setC (w : World) (ms : List Int) (l : Addr) : HO := .ext fun h => SetG (ledW w) ms h l
noncomputable def rSetI (K : PySem.W.Frag) (w : World) : List V → Hp → VK → Prop := fun xs H Q => ∃ (p : Addr) (ns : List Int), xs = [.ref p] ∧ SqL K H p (ns.map V.int) ∧ ns.length ≤ 1000 ∧ ∀ l, H l = none → Q (.ref l) (upd H l (setC w (onceF ns) l))
theorem call_setI {K : PySem.W.Frag} {w : World} (hK : X.K = K := by rfl) (hw : X.w = w := by rfl) (hc : X.calm = true := by rfl) : CallR X (.type "set") (rSetI K w) := by
  subst hK; subst hw
  intro pins s σ H xs us Q I r h
  obtain ⟨p, ns, rfl, hq, hn, q⟩ := h
  obtain ⟨u, rfl, rp⟩ := vals1 r
  cases rp
  obtain ⟨its, rv, pl, hz⟩ := I.list hq
  have hlen := rv.length
  rw [List.length_map] at hlen
  have hb : its.toArray.size + 1 < scanBound := by rw [List.size_toArray]; unfold scanBound; omega
  refine callG (I.ok.hd hc) pl.isList (ns := ns) (by simpa using ints_vals rv) hb fun h' tk hS hk => ?_
  rw [List.size_toArray, ← hlen, firstMet_fold] at hS
  refine ⟨.ref _, _, I.laid (t' := tk) hk (Nat.le_refl _) ?_, rfl, q _ (I.hok.fresh (Nat.le_refl _))⟩
  obtain ⟨es, ep, t, e, _⟩ := id hS.ex
  exact ⟨hS, ⟨_, e⟩, fun h1 h2 g k => g.at k⟩
noncomputable def rSortG (w : World) : List V → Hp → VK → Prop := fun xs H Q => ∃ (p : Addr) (ms : List Int), xs = [.ref p] ∧ H p = some (setC w ms p) ∧ ms.length < 64 ∧ ∀ (l : Addr) (ns : List Int), H l = none → ns.Perm ms → Q (.ref l) (upd H l (.lst (ns.map V.int)))
theorem o_sortG {w : World} (hw : X.w = w := by rfl) (hc : X.calm = true := by rfl) : CallR X (.builtin "sorted") (rSortG w) := by
  subst hw
  intro pins s σ H xs us Q I r h
  obtain ⟨p, ms, rfl, hp, hn, q⟩ := h
  obtain ⟨u, rfl, rp⟩ := vals1 r
  cases rp
  have hS : SetG (ledW X.w) ms s.heap p := (I.hok p _ hp).1
  refine sortedG (I.ok.hd hc) hS hn fun s' D out e ns a1 a2 hD he hk hg ho => ?_
  have hf : H D = none := I.hok.fresh hD
  have hl := ints_len a1
  refine ⟨.ref D, upd H D (.lst (ns.map V.int)), I.call' (ch := []) ho (Un.laid hk hD hf) (I.hok.laid hk hD ?_) (by rw [hg]; exact I.bare) (fun _ z => nomatch z), rfl, q D ns hf a2⟩
  refine ⟨by rw [List.length_map, a2.length_eq, sizeLine_eq]; omega, out.toList, e, vals_ofInts a1, by simpa using he⟩
end
end L2
namespace L2
open PySem PySem.Spec PyProof.Rows
section
variable {tc : TT} {te : TE} {src : List (Option Nat)} {σ : St} {H : Hp} {Q : VK} {k : Nat}
theorem tcomp_rng2 {ta : TA} (a b : Int) (ha : -100000 ≤ a ∧ a ≤ 100000) (hb : -100000 ≤ b ∧ b ≤ 100000) (hte : ∀ R : List V → Hp → Prop, R [.int a, .int b] H → ta σ H R) (Pv : Nat → List V → Hp → Prop) (hsrc : src[k]? = some none) (h0 : Pv 0 [] H)
    (hs : ∀ (i : Nat) (ys : List V) (H' : Hp) (Cy : VK) (Cn : Hp → Prop), i < (b - a).toNat → Pv i ys H' → (∀ y H4, Pv (i + 1) (ys ++ [y]) H4 → Cy y H4) → (∀ H3, Pv (i + 1) ys H3 → Cn H3) →
      tc ((stComp src σ).set k (some (.int (a + (i : Int))))) H' fun b H3 => if b = true then te ((stComp src σ).set k (some (.int (a + (i : Int))))) H3 Cy else Cn H3)
    (hd : ∀ ys H' l, Pv (b - a).toNat ys H' → H' l = none → Q (.ref l) (upd H' l (.lst ys))) : tComp src (iRng2 ta) (gName k) tc te σ H Q := by
  refine hte _ ⟨a, b, rfl, ⟨by omega, by omega, by omega, by omega⟩, comp_walkP (xs := rngV a (b - a).toNat) Pv h0 wk_range (by rw [rngV_length, sizeLine_eq]; omega) (fun i x ys H' Cy Cn hx p cy cn => ?_) (fun ys H' l p hl => hd ys H' l (by rw [rngV_length] at p; exact p) hl)⟩
  have hi : i < (b - a).toNat := by
    have := (List.getElem?_eq_some_iff.mp hx).1
    rw [rngV_length] at this
    exact this
  rw [rngV_get hi] at hx
  cases hx
  exact ⟨KeepSt.set hsrc, hs i ys H' Cy Cn hi p cy cn⟩
end
end L2

namespace Crc
noncomputable abbrev W := BitVec 16
noncomputable def pol : W := 4129#16
noncomputable def S (x : W) : W := (x <<< 1) ^^^ (if x.msb then pol else 0#16)
theorem S_lin (x y : W) : S (x ^^^ y) = S x ^^^ S y := by
  unfold S
  rw [BitVec.shiftLeft_xor_distrib, BitVec.msb_xor]
  cases x.msb <;> cases y.msb <;> simp
  · rw [BitVec.xor_assoc]
  · rw [BitVec.xor_assoc, BitVec.xor_assoc, BitVec.xor_comm pol]
  · rw [BitVec.xor_assoc (x <<< 1) pol, BitVec.xor_comm pol, BitVec.xor_assoc, BitVec.xor_self, BitVec.xor_zero]
theorem S_zero : S 0#16 = 0#16 := by decide
theorem S_low {x : W} (h : x.msb = false) : S x = x <<< 1 := by
  unfold S
  simp [h]
theorem S_inj0 {x : W} (h : S x = 0#16) : x = 0#16 := by
  cases hm : x.msb with
  | false =>
    rw [S_low hm] at h
    apply BitVec.eq_of_getLsbD_eq
    intro i hi
    by_cases h15 : i = 15
    · subst h15
      have : x.msb = x.getLsbD 15 := by simp [BitVec.msb_eq_getLsbD_last]
      rw [← this, hm]
      simp
    · have e := congrArg (fun z : W => z.getLsbD (i + 1)) h
      simp only [BitVec.getLsbD_shiftLeft] at e
      have a1 : i + 1 < 16 := by omega
      simpa [a1] using e
  | true =>
    have e := congrArg (fun z : W => z.getLsbD 0) h
    unfold S at e
    simp [hm, pol] at e
noncomputable def top (b : Bool) : W := if b then 32768#16 else 0#16
theorem top_msb (b : Bool) : (top b).msb = b := by cases b <;> decide
noncomputable def rd (c : W) (b : Bool) : W := S (c ^^^ top b)
noncomputable def run (c : W) (bs : List Bool) : W := bs.foldl rd c
theorem run_app (c : W) (a b : List Bool) : run c (a ++ b) = run (run c a) b := List.foldl_append ..
theorem rd_lin (c d : W) (a b : Bool) : rd (c ^^^ d) (a != b) = rd c a ^^^ rd d b := by
  unfold rd
  rw [← S_lin]
  congr 1
  have : top (a != b) = top a ^^^ top b := by cases a <;> cases b <;> decide
  rw [this, BitVec.xor_assoc, BitVec.xor_assoc, ← BitVec.xor_assoc d, BitVec.xor_comm d, BitVec.xor_assoc]
noncomputable def xorB : List Bool → List Bool → List Bool
  | a :: as, b :: bs => (a != b) :: xorB as bs
  | as, [] => as
  | [], _ => []
theorem run_lin : ∀ (as bs : List Bool) (c d : W), as.length = bs.length → run (c ^^^ d) (xorB as bs) = run c as ^^^ run d bs
  | [], [], _, _, _ => rfl
  | a :: as, b :: bs, c, d, h => by
    show run (rd (c ^^^ d) (a != b)) (xorB as bs) = run (rd c a) as ^^^ run (rd d b) bs
    rw [rd_lin]
    exact run_lin as bs _ _ (by simpa using h)
theorem run_zeros : ∀ n, run 0#16 (List.replicate n false) = 0#16
  | 0 => rfl
  | n + 1 => by
    rw [List.replicate_succ]
    show run (rd 0#16 false) (List.replicate n false) = _
    rw [show rd 0#16 false = 0#16 by decide]
    exact run_zeros n
theorem run_zeros_inj : ∀ (n : Nat) (c : W), run c (List.replicate n false) = 0#16 → c = 0#16
  | 0, c, h => h
  | n + 1, c, h => by
    rw [List.replicate_succ] at h
    have h1 : run (rd c false) (List.replicate n false) = 0#16 := h
    have h2 := run_zeros_inj n _ h1
    unfold rd at h2
    have h3 := S_inj0 h2
    simpa [top] using h3
noncomputable def wd : List Bool → W
  | [] => 0#16
  | b :: bs => top b ^^^ (wd bs >>> 1)
theorem wd_cons (b : Bool) (bs : List Bool) : wd (b :: bs) = top b ^^^ (wd bs >>> 1) := rfl
theorem wd_low : ∀ (bs : List Bool) (j : Nat), j + bs.length < 16 → (wd bs).getLsbD j = false
  | [], j, _ => by simp [wd]
  | b :: bs, j, h => by
    simp only [List.length_cons] at h
    unfold wd
    rw [BitVec.getLsbD_xor, BitVec.getLsbD_ushiftRight, wd_low bs (1 + j) (by omega)]
    have : (top b).getLsbD j = false := by
      unfold top
      cases b with
      | false => simp
      | true =>
        have hj : j < 15 := by omega
        have key : ∀ j : Nat, j < 15 → (32768#16).getLsbD j = false := by decide
        simpa using key j hj
    rw [this]
    rfl
theorem shr_shl {x : W} (h : x.getLsbD 0 = false) : (x >>> 1) <<< 1 = x := by
  apply BitVec.eq_of_getLsbD_eq
  intro i hi
  rw [BitVec.getLsbD_shiftLeft, BitVec.getLsbD_ushiftRight]
  by_cases h0 : i = 0
  · subst h0
    rw [h]
    rfl
  · have : 1 + (i - 1) = i := by omega
    rw [this]
    have a : decide (i < 16) = true := by simpa using hi
    have b : decide (i < 1) = false := by simp; omega
    rw [a, b]
    simp
theorem shr_msb (x : W) : (x >>> 1).msb = false := by
  rw [BitVec.msb_eq_getLsbD_last, BitVec.getLsbD_ushiftRight]
  simp
noncomputable def Sn : Nat → W → W
  | 0, x => x
  | n + 1, x => Sn n (S x)
theorem Sn_inj0 : ∀ (n : Nat) {x : W}, Sn n x = 0#16 → x = 0#16
  | 0, _, h => h
  | n + 1, _, h => S_inj0 (Sn_inj0 n h)
theorem Sn_zero : ∀ n, Sn n 0#16 = 0#16
  | 0 => rfl
  | n + 1 => by unfold Sn; rw [S_zero]; exact Sn_zero n
theorem run_wd : ∀ (bs : List Bool) (c : W), bs.length ≤ 16 → run c bs = Sn bs.length (c ^^^ wd bs)
  | [], c, _ => by simp [run, Sn, wd]
  | b :: bs, c, h => by
    simp only [List.length_cons] at h
    show run (rd c b) bs = Sn bs.length (S (c ^^^ wd (b :: bs)))
    rw [run_wd bs _ (by omega)]
    congr 1
    unfold rd
    rw [wd_cons, ← BitVec.xor_assoc, S_lin (c ^^^ top b), S_low (shr_msb _), shr_shl (wd_low bs 0 (by omega))]
theorem wd_zero : ∀ (bs : List Bool), bs.length ≤ 16 → wd bs = 0#16 → ∀ b ∈ bs, b = false
  | [], _, _, b, hb => nomatch hb
  | a :: bs, h, e, b, hb => by
    simp only [List.length_cons] at h
    unfold wd at e
    have hm := congrArg BitVec.msb e
    rw [BitVec.msb_xor, top_msb, shr_msb] at hm
    have ha : a = false := by simpa using hm
    subst ha
    have e2 : wd bs >>> 1 = 0#16 := by simpa [top] using e
    have e3 : wd bs = 0#16 := by
      rw [← shr_shl (wd_low bs 0 (by omega)), e2]
      decide
    rcases List.mem_cons.mp hb with z | z
    · exact z
    · exact wd_zero bs (by omega) e3 b z
theorem burst {m n : Nat} {bs : List Bool} (h : bs.length ≤ 16) (ht : true ∈ bs) : run 0#16 (List.replicate m false ++ bs ++ List.replicate n false) ≠ 0#16 := by
  intro e
  rw [run_app, run_app, run_zeros] at e
  have e2 := run_zeros_inj n _ e
  rw [run_wd bs _ h, BitVec.zero_xor] at e2
  have e3 := wd_zero bs h (Sn_inj0 _ e2) true ht
  cases e3
noncomputable def bits (n : Int) : List Bool := [decide (n / 128 % 2 = 1), decide (n / 64 % 2 = 1), decide (n / 32 % 2 = 1), decide (n / 16 % 2 = 1), decide (n / 8 % 2 = 1), decide (n / 4 % 2 = 1), decide (n / 2 % 2 = 1), decide (n % 2 = 1)]
noncomputable def bitsL (l : List Int) : List Bool := l.flatMap bits
theorem bits_len (n : Int) : (bits n).length = 8 := rfl
theorem bitsL_len (l : List Int) : (bitsL l).length = 8 * l.length := by
  induction l with
  | nil => rfl
  | cons a l ih =>
    show (bits a ++ bitsL l).length = _
    rw [List.length_append, ih, bits_len, List.length_cons]
    omega
noncomputable def hi (n : Int) : W := BitVec.ofNat 16 (n.toNat * 256)
theorem hi_wd8 : ∀ n : Nat, n < 256 → hi n = wd (bits n) := by decide +kernel
theorem hi_wd {n : Int} (h0 : 0 ≤ n) (h1 : n < 256) : hi n = wd (bits n) := by
  obtain ⟨k, rfl⟩ : ∃ k : Nat, n = k := ⟨n.toNat, by omega⟩
  exact hi_wd8 k (by omega)
theorem byte_run {n : Int} (c : W) (h0 : 0 ≤ n) (h1 : n < 256) : Sn 8 (c ^^^ hi n) = run c (bits n) := by
  rw [run_wd (bits n) c (by rw [bits_len]; omega), hi_wd h0 h1]
  rfl
noncomputable def crc (l : List Int) : W := run 65535#16 (bitsL l)
theorem crc_snoc (l : List Int) (n : Int) : crc (l ++ [n]) = run (crc l) (bits n) := by
  unfold crc
  rw [show bitsL (l ++ [n]) = bitsL l ++ bits n by simp [bitsL], run_app]
theorem two_wd8 : ∀ n m : Nat, n < 256 → m < 256 → BitVec.ofNat 16 (n * 256 + m) = wd (bits n ++ bits m) := by
  intro n m hn hm
  have key : ∀ (bs cs : List Bool), wd (bs ++ cs) = wd bs ^^^ (wd cs >>> bs.length) := by
    intro bs
    induction bs with
    | nil => intro cs; simp [wd]
    | cons b bs ih =>
      intro cs
      show top b ^^^ (wd (bs ++ cs) >>> 1) = (top b ^^^ (wd bs >>> 1)) ^^^ (wd cs >>> (bs.length + 1))
      rw [ih, BitVec.ushiftRight_xor_distrib, ← BitVec.xor_assoc, BitVec.shiftRight_add]
  rw [key, ← hi_wd8 n hn, ← hi_wd8 m hm]
  apply BitVec.eq_of_toNat_eq
  rw [BitVec.toNat_xor, BitVec.toNat_ushiftRight]
  unfold hi
  simp only [BitVec.toNat_ofNat, Int.toNat_natCast, bits_len, Nat.shiftRight_eq_div_pow]
  have e1 : n * 256 % 2 ^ 16 = n * 256 := Nat.mod_eq_of_lt (by omega)
  have e2 : m * 256 % 2 ^ 16 / 2 ^ 8 = m := by rw [Nat.mod_eq_of_lt (by omega)]; omega
  have e3 : (n * 256 + m) % 2 ^ 16 = n * 256 + m := Nat.mod_eq_of_lt (by omega)
  rw [e1, e2, e3]
  apply Nat.eq_of_testBit_eq
  intro i
  rw [Nat.testBit_xor, show n * 256 = 2 ^ 8 * n by omega, Nat.testBit_two_pow_mul_add n (by omega : m < 2 ^ 8), Nat.testBit_two_pow_mul]
  by_cases hi : i < 8
  · have : ¬ 8 ≤ i := by omega
    simp [hi, this]
  · have h8 : 8 ≤ i := by omega
    have : m.testBit i = false := Nat.testBit_lt_two_pow (Nat.lt_of_lt_of_le hm (Nat.pow_le_pow_right (show 2 > 0 by decide) h8))
    simp [hi, h8, this]
theorem crc_sealed {l : List Int} {a b : Int} (a0 : 0 ≤ a) (a1 : a < 256) (b0 : 0 ≤ b) (b1 : b < 256) : crc (l ++ [a, b]) = 0#16 ↔ ((crc l).toNat : Int) = a * 256 + b := by
  obtain ⟨n, rfl⟩ : ∃ k : Nat, a = k := ⟨a.toNat, by omega⟩
  obtain ⟨m, rfl⟩ : ∃ k : Nat, b = k := ⟨b.toNat, by omega⟩
  have e : crc (l ++ [(n : Int), (m : Int)]) = run (crc l) (bits n ++ bits m) := by
    unfold crc
    rw [show bitsL (l ++ [(n : Int), (m : Int)]) = bitsL l ++ (bits n ++ bits m) by simp [bitsL], run_app]
  rw [e, run_wd _ _ (by simp [bits_len]), ← two_wd8 n m (by omega) (by omega)]
  constructor
  · intro h
    have h2 := Sn_inj0 _ h
    have h3 : crc l = BitVec.ofNat 16 (n * 256 + m) := by
      have := congrArg (· ^^^ BitVec.ofNat 16 (n * 256 + m)) h2
      simpa [BitVec.xor_assoc] using this
    rw [h3, BitVec.toNat_ofNat, Nat.mod_eq_of_lt (by omega)]
    omega
  · intro h
    have h3 : crc l = BitVec.ofNat 16 (n * 256 + m) := by
      apply BitVec.eq_of_toNat_eq
      rw [BitVec.toNat_ofNat, Nat.mod_eq_of_lt (by omega)]
      omega
    rw [h3, BitVec.xor_self]
    exact Sn_zero _
end Crc

namespace Crc
theorem S_toNat (x : W) : (S x).toNat = if x.toNat * 2 < 65536 then x.toNat * 2 else (x.toNat * 2 - 65536) ^^^ 4129 := by
  have hx := x.isLt
  unfold S
  rw [BitVec.toNat_xor, BitVec.toNat_shiftLeft, BitVec.msb_eq_decide, Nat.shiftLeft_eq]
  by_cases h : x.toNat * 2 < 65536
  · rw [if_pos h]
    have : decide (2 ^ (16 - 1) ≤ x.toNat) = false := by simp; omega
    rw [this, Nat.mod_eq_of_lt (by omega)]
    simp
  · rw [if_neg h]
    have : decide (2 ^ (16 - 1) ≤ x.toNat) = true := by simp; omega
    rw [this, show x.toNat * 2 ^ 1 % 2 ^ 16 = x.toNat * 2 - 65536 by omega]
    simp [pol]
theorem hi_toNat (x : W) {n : Int} (h0 : 0 ≤ n) (h1 : n < 256) : (x ^^^ hi n).toNat = x.toNat ^^^ (n * 256).toNat := by
  rw [BitVec.toNat_xor]
  congr 1
  unfold hi
  rw [BitVec.toNat_ofNat, Nat.mod_eq_of_lt (by omega)]
  omega
theorem xorB_xorB : ∀ (a b : List Bool), a.length = b.length → xorB a (xorB a b) = b
  | [], [], _ => rfl
  | x :: a, y :: b, h => by
    show (x != (x != y)) :: xorB a (xorB a b) = y :: b
    rw [xorB_xorB a b (by simpa using h)]
    cases x <;> cases y <;> rfl
theorem xorB_len : ∀ (a b : List Bool), a.length = b.length → (xorB a b).length = a.length
  | [], [], _ => rfl
  | x :: a, y :: b, h => by
    show (xorB a b).length + 1 = a.length + 1
    rw [xorB_len a b (by simpa using h)]
theorem xorB_get : ∀ (a b : List Bool), a.length = b.length → ∀ i, (xorB a b)[i]? = some true ↔ (i < a.length ∧ a[i]? ≠ b[i]?)
  | [], [], _, i => by simp [xorB]
  | x :: a, y :: b, h, 0 => by
    show some (x != y) = some true ↔ _
    simp
  | x :: a, y :: b, h, i + 1 => by
    show (xorB a b)[i]? = some true ↔ _
    rw [xorB_get a b (by simpa using h) i]
    simp
theorem all_false {l : List Bool} (h : ∀ i : Nat, l[i]? ≠ some true) : l = List.replicate l.length false := by
  apply List.eq_replicate_of_mem
  intro b hb
  obtain ⟨i, hi⟩ := List.getElem?_of_mem hb
  cases b with
  | false => rfl
  | true => exact absurd hi (h i)
theorem diff_told {a b : List Bool} (c : W) (hl : a.length = b.length) (m : Nat) (hw : ∀ i : Nat, i < a.length → a[i]? ≠ b[i]? → m ≤ i ∧ i < m + 16) (hne : a ≠ b) : run c a ≠ run c b := by
  intro e
  have el := xorB_len a b hl
  have e1 : run c b = run c a ^^^ run 0#16 (xorB a b) := by
    have := run_lin a (xorB a b) c 0#16 el.symm
    rw [xorB_xorB a b hl, BitVec.xor_zero] at this
    exact this
  rw [← e] at e1
  have e2 : run 0#16 (xorB a b) = 0#16 := by
    have := congrArg (run c a ^^^ ·) e1
    simpa [← BitVec.xor_assoc] using this.symm
  generalize hx : xorB a b = x at e2 el
  have hg := xorB_get a b hl
  rw [hx] at hg
  have p1 : x = x.take m ++ ((x.drop m).take 16 ++ x.drop (m + 16)) := by
    rw [← List.drop_drop, List.take_append_drop, List.take_append_drop]
  have f1 : x.take m = List.replicate (x.take m).length false := all_false fun i h => by
    rw [List.getElem?_take] at h
    split at h
    · have := (hg i).mp h
      have := hw i this.1 this.2
      omega
    · cases h
  have f2 : x.drop (m + 16) = List.replicate (x.drop (m + 16)).length false := all_false fun i h => by
    rw [List.getElem?_drop] at h
    have := (hg _).mp h
    have := hw _ this.1 this.2
    omega
  have ht : true ∈ (x.drop m).take 16 := by
    have hne2 : ∃ i : Nat, i < a.length ∧ a[i]? ≠ b[i]? := by
      refine Classical.byContradiction fun z => hne (List.ext_getElem? fun i => ?_)
      by_cases hi : i < a.length
      · exact Classical.byContradiction fun w => z ⟨i, hi, w⟩
      · rw [List.getElem?_eq_none (by omega), List.getElem?_eq_none (by omega)]
    obtain ⟨i, hi, hd⟩ := hne2
    have hb := hw i hi hd
    have ht := (hg i).mpr ⟨hi, hd⟩
    refine List.mem_of_getElem? (i := i - m) ?_
    rw [List.getElem?_take, if_pos (by omega), List.getElem?_drop, show m + (i - m) = i by omega]
    exact ht
  rw [p1, f1, f2, ← List.append_assoc] at e2
  exact burst (by rw [List.length_take]; omega) ht e2
noncomputable def valB (l : List Bool) : Int := l.foldl (fun n b => 2 * n + (if b then 1 else 0)) 0
theorem val_bits8 : ∀ n : Nat, n < 256 → valB (bits n) = n := by decide +kernel
theorem bits_inj {n m : Int} (n0 : 0 ≤ n) (n1 : n < 256) (m0 : 0 ≤ m) (m1 : m < 256) (h : bits n = bits m) : n = m := by
  obtain ⟨a, rfl⟩ : ∃ k : Nat, n = k := ⟨n.toNat, by omega⟩
  obtain ⟨b, rfl⟩ : ∃ k : Nat, m = k := ⟨m.toNat, by omega⟩
  rw [← val_bits8 a (by omega), ← val_bits8 b (by omega), h]
theorem bitsL_get : ∀ (l : List Int) (i : Nat), (bitsL l)[i]? = (l[i / 8]?).bind fun n => (bits n)[i % 8]?
  | [], i => by simp [bitsL]
  | n :: l, i => by
    show (bits n ++ bitsL l)[i]? = _
    rw [List.getElem?_append, bits_len]
    by_cases h : i < 8
    · rw [if_pos h, show i / 8 = 0 by omega, show i % 8 = i by omega]
      rfl
    · rw [if_neg h, bitsL_get l (i - 8), show i / 8 = (i - 8) / 8 + 1 by omega, show (i - 8) % 8 = i % 8 by omega]
      rfl
noncomputable def IsB (l : List Int) : Prop := ∀ n ∈ l, 0 ≤ n ∧ n < 256
theorem bitsL_inj : ∀ {a b : List Int}, a.length = b.length → IsB a → IsB b → bitsL a = bitsL b → a = b
  | [], [], _, _, _, _ => rfl
  | x :: a, y :: b, hl, ha, hb, h => by
    have h' : bits x ++ bitsL a = bits y ++ bitsL b := h
    have h2 := List.append_inj h' (by rw [bits_len, bits_len])
    have hx := ha x List.mem_cons_self
    have hy := hb y List.mem_cons_self
    rw [bits_inj hx.1 hx.2 hy.1 hy.2 h2.1, bitsL_inj (by simpa using hl) (fun n hn => ha n (List.mem_cons_of_mem _ hn)) (fun n hn => hb n (List.mem_cons_of_mem _ hn)) h2.2]
theorem crc_told {a b : List Int} (hl : a.length = b.length) (ha : IsB a) (hb : IsB b) (hne : a ≠ b) (m : Nat) (hw : ∀ i : Nat, i < 8 * a.length → (bitsL a)[i]? ≠ (bitsL b)[i]? → m ≤ i ∧ i < m + 16) : crc a ≠ crc b :=
  diff_told _ (by rw [bitsL_len, bitsL_len, hl]) m (fun i hi hd => hw i (by rw [bitsL_len] at hi; exact hi) hd) fun z => hne (bitsL_inj hl ha hb z)
theorem crc_bytes {a b : List Int} (hl : a.length = b.length) (ha : IsB a) (hb : IsB b) (hne : a ≠ b) (p : Nat) (hw : ∀ i : Nat, a[i]? ≠ b[i]? → i = p ∨ i = p + 1) : crc a ≠ crc b :=
  crc_told hl ha hb hne (8 * p) fun i hi hd => by
    rw [bitsL_get, bitsL_get] at hd
    have : a[i / 8]? ≠ b[i / 8]? := fun z => hd (by rw [z])
    have := hw _ this
    omega
end Crc

namespace Crc
noncomputable def m8 : List Nat := [128, 64, 32, 16, 8, 4, 2, 1]
noncomputable def flip1 (ns : List Int) (k : Nat) : List Int := ns.set (k / 8) (((ns.getD (k / 8) 0).toNat ^^^ m8.getD (k % 8) 0 : Nat) : Int)
theorem flip8 : ∀ n : Nat, n < 256 → ∀ j : Nat, j < 8 → ∀ i : Nat, i < 8 → (bits (((n ^^^ m8.getD j 0 : Nat)) : Int))[i]? = (bits n)[i]?.map fun b => if i = j then !b else b := by decide +kernel
theorem flip_lt : ∀ n : Nat, n < 256 → ∀ j : Nat, j < 8 → (n ^^^ m8.getD j 0) < 256 := by decide +kernel
theorem flip_len (ns : List Int) (k : Nat) : (flip1 ns k).length = ns.length := List.length_set
theorem flip_isB {ns : List Int} (h : IsB ns) {k : Nat} (hk : k < 8 * ns.length) : IsB (flip1 ns k) := fun n hn => by
  rcases List.mem_or_eq_of_mem_set hn with h' | h'
  · exact h n h'
  · have hk' : k / 8 < ns.length := by omega
    have hx := h (ns.getD (k / 8) 0) (by simp [List.getD, hk'])
    have := flip_lt (ns.getD (k / 8) 0).toNat (by omega) (k % 8) (by omega)
    rw [h']
    omega
theorem flip_get {ns : List Int} (h : IsB ns) {k : Nat} (hk : k < 8 * ns.length) (i : Nat) : (bitsL (flip1 ns k))[i]? = (bitsL ns)[i]?.map fun b => if i = k then !b else b := by
  rw [bitsL_get, bitsL_get]
  unfold flip1
  have hk' : k / 8 < ns.length := by omega
  rw [List.getElem?_set]
  by_cases e : k / 8 = i / 8
  · rw [if_pos e, if_pos hk', ← e]
    have hg : ns[k / 8]? = some (ns[k / 8]) := List.getElem?_eq_getElem hk'
    have hd : ns.getD (k / 8) 0 = ns[k / 8] := by simp [List.getD, hk']
    have hx := h ns[k / 8] (List.getElem_mem hk')
    rw [hg, hd]
    dsimp only [Option.bind_some]
    rw [flip8 ns[k / 8].toNat (by omega) (k % 8) (by omega) (i % 8) (by omega)]
    have e1 : ((ns[k / 8].toNat : Nat) : Int) = ns[k / 8] := by omega
    rw [e1]
    congr 1
    funext b
    have : (i % 8 = k % 8) ↔ (i = k) := by omega
    simp only [this]
  · rw [if_neg e]
    have hik : ¬ i = k := fun z => e (by rw [z])
    simp [hik]
noncomputable def turnF (ns : List Int) (ks : List Nat) : List Int := ks.foldl flip1 ns
theorem turn_len : ∀ (ks : List Nat) (ns : List Int), (turnF ns ks).length = ns.length
  | [], _ => rfl
  | k :: ks, ns => (turn_len ks (flip1 ns k)).trans (flip_len ns k)
theorem turn_isB : ∀ (ks : List Nat) {ns : List Int}, IsB ns → (∀ k ∈ ks, k < 8 * ns.length) → IsB (turnF ns ks)
  | [], _, h, _ => h
  | k :: ks, ns, h, hk => turn_isB ks (flip_isB h (hk k List.mem_cons_self)) fun j hj => by rw [flip_len]; exact hk j (List.mem_cons_of_mem _ hj)
theorem turn_get : ∀ (ks : List Nat) {ns : List Int}, IsB ns → (∀ k ∈ ks, k < 8 * ns.length) → ks.Nodup → ∀ i, (bitsL (turnF ns ks))[i]? = (bitsL ns)[i]?.map fun b => if i ∈ ks then !b else b
  | [], ns, _, _, _, i => by simp [turnF]
  | k :: ks, ns, h, hk, nd, i => by
    have nd' := List.nodup_cons.mp nd
    show (bitsL (turnF (flip1 ns k) ks))[i]? = _
    rw [turn_get ks (flip_isB h (hk k List.mem_cons_self)) (fun j hj => by rw [flip_len]; exact hk j (List.mem_cons_of_mem _ hj)) nd'.2 i, flip_get h (hk k List.mem_cons_self) i, Option.map_map]
    congr 1
    funext b
    by_cases e : i = k
    · subst e
      simp [nd'.1]
    · simp [e]
theorem turn_told {ks : List Nat} {ns : List Int} (h : IsB ns) (hk : ∀ k ∈ ks, k < 8 * ns.length) (nd : ks.Nodup) (m : Nat) (hm : ∀ k ∈ ks, m ≤ k ∧ k < m + 16) {k : Nat} (hin : k ∈ ks) : crc (turnF ns ks) ≠ crc ns := by
  refine crc_told (turn_len ks ns) (turn_isB ks h hk) h (fun e => ?_) m fun i hi hd => ?_
  · have g := turn_get ks h hk nd k
    have hlt : k < (bitsL ns).length := by rw [bitsL_len]; exact hk k hin
    rw [e, List.getElem?_eq_getElem hlt] at g
    simp [hin] at g
  · rw [turn_get ks h hk nd i] at hd
    refine hm i (Classical.byContradiction fun z => hd ?_)
    simp [z]
theorem turn_one {ns : List Int} (h : IsB ns) {k : Nat} (hk : k < 8 * ns.length) : crc (turnF ns [k]) ≠ crc ns :=
  turn_told h (fun j hj => by rw [List.mem_singleton.mp hj]; exact hk) (by simp) k (fun j hj => by rw [List.mem_singleton.mp hj]; omega) (List.mem_singleton.mpr rfl)
theorem byte_told {ns : List Int} (h : IsB ns) {p : Nat} (hp : p < ns.length) {v : Int} (hv : 0 ≤ v ∧ v < 256) (hne : v ≠ ns[p]) : IsB (ns.set p v) ∧ crc (ns.set p v) ≠ crc ns := by
  have hb : IsB (ns.set p v) := fun n hn => by
    rcases List.mem_or_eq_of_mem_set hn with h' | h'
    · exact h n h'
    · rw [h']; exact hv
  refine ⟨hb, crc_bytes List.length_set hb h (fun e => ?_) p fun i hi => ?_⟩
  · have := congrArg (fun l : List Int => l[p]?) e
    simp [hp] at this
    exact hne this
  · rw [List.getElem?_set] at hi
    by_cases e : p = i
    · exact .inl e.symm
    · rw [if_neg e] at hi; exact absurd rfl hi
theorem swap_told {ns : List Int} (h : IsB ns) {p : Nat} (hp : p + 1 < ns.length) (hne : ns[p] ≠ ns[p + 1]) : IsB ((ns.set p ns[p + 1]).set (p + 1) ns[p]) ∧ crc ((ns.set p ns[p + 1]).set (p + 1) ns[p]) ≠ crc ns := by
  have hb : IsB ((ns.set p ns[p + 1]).set (p + 1) ns[p]) := fun n hn => by
    rcases List.mem_or_eq_of_mem_set hn with h' | h'
    · rcases List.mem_or_eq_of_mem_set h' with h' | h'
      · exact h n h'
      · rw [h']; exact h _ (List.getElem_mem _)
    · rw [h']; exact h _ (List.getElem_mem _)
  refine ⟨hb, crc_bytes (by rw [List.length_set, List.length_set]) hb h (fun e => ?_) p fun i hi => ?_⟩
  · have := congrArg (fun l : List Int => l[p]?) e
    simp only [List.getElem?_set, List.length_set] at this
    rw [if_neg (by omega), if_pos trivial, if_pos (by omega), List.getElem?_eq_getElem (by omega)] at this
    exact hne (Option.some.inj this).symm
  · simp only [List.getElem?_set, List.length_set] at hi
    by_cases e : p + 1 = i
    · exact .inr e.symm
    · by_cases e' : p = i
      · exact .inl e'.symm
      · rw [if_neg e, if_neg e'] at hi; exact absurd rfl hi
theorem cut_set {α : Type} (ns : List α) {p : Nat} (hp : p < ns.length) (v : α) : ns.take p ++ [v] ++ ns.drop (p + 1) = ns.set p v := by
  rw [List.set_eq_take_append_cons_drop, if_pos hp, List.append_assoc]
  rfl
theorem cut_swap {α : Type} (ns : List α) {p : Nat} (hp : p + 1 < ns.length) (u v : α) : ns.take p ++ [u, v] ++ ns.drop (p + 2) = (ns.set p u).set (p + 1) v := by
  refine List.ext_getElem? fun i => ?_
  simp only [List.getElem?_set, List.length_set, List.append_assoc, List.getElem?_append, List.length_take, List.getElem?_take, List.getElem?_drop]
  by_cases h1 : i < p
  · rw [if_pos (by omega), if_pos h1, if_neg (by omega), if_neg (by omega)]
  · rw [if_neg (by omega)]
    by_cases h2 : i = p
    · subst h2
      rw [show i - min i ns.length = 0 by omega]
      simp
      omega
    · by_cases h3 : i = p + 1
      · subst h3
        rw [show p + 1 - min p ns.length = 1 by omega]
        simp
        omega
      · rw [if_neg (by simp; omega), if_neg (by omega), if_neg (by omega)]
        congr 1
        simp
        omega
end Crc

namespace K04
open PySem L2

noncomputable def top (i : Nat) : Stmt := PySem.Challenge.pw_linkyard_k04_whole_one_change_told.main.body.getD i (.Pass ⟨0, 0, 0, 0⟩)
noncomputable abbrev s_is_number_up_to : Stmt := top 14
noncomputable abbrev s_is_byte : Stmt := top 15
noncomputable abbrev s_need_bytes : Stmt := top 16
noncomputable abbrev s_two_of : Stmt := top 17
noncomputable abbrev s_word_in : Stmt := top 18
noncomputable abbrev s_one_bit_left : Stmt := top 22
noncomputable abbrev s_check_of : Stmt := top 23
noncomputable abbrev s_sealed : Stmt := top 24
noncomputable abbrev s_opened : Stmt := top 25
noncomputable abbrev s__law_cell : Stmt := top 27
noncomputable abbrev s__law_mixed : Stmt := top 28
noncomputable abbrev s__law_next : Stmt := top 29
noncomputable abbrev s__law_bytes : Stmt := top 30
noncomputable abbrev s__law_kind : Stmt := top 31
noncomputable abbrev s__law_opened : Stmt := top 32
noncomputable abbrev s__law_turned : Stmt := top 33
noncomputable abbrev s__law_bent : Stmt := top 34
noncomputable abbrev s_law : Stmt := top 35

open Crc
theorem obl_S (x : W) : (((S x).toNat : Nat) : Int) = if (x.toNat : Int) * 2 < 65536 then (x.toNat : Int) * 2 else Builtin.bitXor ((x.toNat : Int) * 2 - 65536) 4129 := by
  rw [S_toNat]
  by_cases h : x.toNat * 2 < 65536
  · rw [if_pos h, if_pos (by omega)]
    omega
  · rw [if_neg h, if_neg (by omega)]
    have e : (x.toNat : Int) * 2 - 65536 = ((x.toNat * 2 - 65536 : Nat) : Int) := by omega
    rw [e, show (4129 : Int) = ((4129 : Nat) : Int) from rfl, bx]
theorem lay_hi (x : W) {n : Int} (h0 : 0 ≤ n) (h1 : n < 256) : Builtin.bitXor (x.toNat : Int) (n * 256) = (((x ^^^ hi n).toNat : Nat) : Int) := by
  rw [hi_toNat x h0 h1, ← bx]
  congr 1
  omega
theorem Sn_snoc (n : Nat) (x : W) : Sn (n + 1) x = S (Sn n x) := by
  induction n generalizing x with
  | zero => rfl
  | succ n ih => rw [show Sn (n + 1 + 1) x = Sn (n + 1) (S x) from rfl, ih, show Sn (n + 1) x = Sn n (S x) from rfl]
theorem crc_lt (l : List Int) : (crc l).toNat < 65536 := (crc l).isLt
theorem allB {ns : List Int} : IsB ns ↔ (ns.map V.int).all (numUp · 255) = true := by
  induction ns with
  | nil => simp [IsB]
  | cons n ns ih =>
    rw [List.map_cons, List.all_cons, Bool.and_eq_true, ← ih]
    constructor
    · intro h
      exact ⟨by have := h n List.mem_cons_self; simp [numUp]; omega, fun m hm => h m (List.mem_cons_of_mem _ hm)⟩
    · rintro ⟨h1, h2⟩ m hm
      rcases List.mem_cons.mp hm with z | z
      · subst z
        simp [numUp] at h1
        omega
      · exact h2 m z
noncomputable def NB (K : PySem.W.Frag) (H : Hp) (x : V) : Prop := (∃ a xs, x = .ref a ∧ H a = some (.lst xs) ∧ (∀ v ∈ xs, Knw K H v) ∧ xs.length ≤ 1000 ∧ (xs.all (numUp · 255) = false ∨ xs.length < 2)) ∨ NoL K H x
noncomputable def BR (H : Hp) (x : V) (ns : List Int) : Prop := ∃ a, x = .ref a ∧ H a = some (.lst (ns.map V.int)) ∧ IsB ns ∧ 2 ≤ ns.length ∧ ns.length ≤ 1000
theorem NB.same {K : PySem.W.Frag} {H H' : Hp} {x : V} (e : Same H H') (h : NB K H x) : NB K H' x := by
  rcases h with ⟨a, xs, rfl, h1, h2, h3⟩ | h
  · exact .inl ⟨a, xs, rfl, e _ _ h1, fun v hv => (h2 v hv).same e, h3⟩
  · exact .inr (h.same e)
theorem knw_ints {K : PySem.W.Frag} {H : Hp} {ns : List Int} : ∀ v ∈ ns.map V.int, Knw K H v := fun v hv => by
  obtain ⟨n, _, rfl⟩ := List.mem_map.mp hv
  exact ⟨_, .int n⟩
theorem cut_m2 {α : Type} {xs : List α} (h : 2 ≤ xs.length) : cutL xs none (some (-2)) = xs.take (xs.length - 2) := by
  unfold cutL
  rw [HT.sIx_none, List.drop_zero, Nat.sub_zero]
  congr 1
  simp [HT.sIx]
  omega
theorem last2 {ns : List Int} (h : 2 ≤ ns.length) : ∃ u v, ns = ns.take (ns.length - 2) ++ [u, v] := by
  have hd : (ns.drop (ns.length - 2)).length = 2 := by rw [List.length_drop]; omega
  match e : ns.drop (ns.length - 2), hd with
  | [u, v], _ => exact ⟨u, v, by rw [← e, List.take_append_drop]⟩
theorem all_map {xs : List V} : ((xs.map (numUp · 255)).map V.bl) = xs.flatMap (fun v => [V.bl (numUp v 255)]) := by
  rw [fm_one, List.map_map]
  rfl

theorem cutTo {α : Type} (l : List α) {k : Int} (h : 0 ≤ k) : cutL l none (some k) = l.take k.toNat := by
  unfold cutL
  rw [HT.sIx_none, List.drop_zero, Nat.sub_zero]
  simp only [HT.sIx]
  rw [if_neg (by omega)]
  by_cases hk : k.toNat ≤ l.length
  · congr 1
    omega
  · rw [List.take_of_length_le (by omega), List.take_of_length_le (by omega)]
theorem cutFr {α : Type} (l : List α) {k : Int} (h : 0 ≤ k) : cutL l (some k) none = l.drop k.toNat := by
  unfold cutL
  simp only [HT.sIx]
  rw [if_neg (by omega)]
  by_cases hk : k.toNat ≤ l.length
  · rw [show min k.toNat l.length = k.toNat by omega]
    rw [List.take_of_length_le (by rw [List.length_drop]; exact Nat.le_refl _)]
  · rw [List.drop_of_length_le (by omega), List.drop_of_length_le (by omega), List.take_nil]
theorem ix_at {n : Nat} {p : Int} (h0 : 0 ≤ p) (h1 : p < (n : Int)) : ixN n p = some p.toNat := by
  unfold ixN
  rw [if_pos h0, if_pos h1]
theorem bitm (j : Nat) (h : j < 8) : ([V.int 128, V.int 64, V.int 32, V.int 16, V.int 8, V.int 4, V.int 2, V.int 1] : List V)[j]? = some (V.int ((m8.getD j 0 : Nat) : Int)) := by
  match j, h with
  | 0, _ => rfl
  | 1, _ => rfl
  | 2, _ => rfl
  | 3, _ => rfl
  | 4, _ => rfl
  | 5, _ => rfl
  | 6, _ => rfl
  | 7, _ => rfl
  | j + 8, h => omega
theorem flip_at {ns : List Int} (h : IsB ns) {k : Nat} (hk : k < 8 * ns.length) : (flip1 ns k).map V.int = (ns.map V.int).set (k / 8) (V.int (Builtin.bitXor (ns.getD (k / 8) 0) ((m8.getD (k % 8) 0 : Nat) : Int))) := by
  have hk' : k / 8 < ns.length := by omega
  have hx := h (ns.getD (k / 8) 0) (by simp [List.getD, hk'])
  rw [flip1, List.map_set, ← bx]
  rw [show (((ns.getD (k / 8) 0).toNat : Nat) : Int) = ns.getD (k / 8) 0 by omega]
theorem once_mem (ns : List Int) : ∀ (acc : List Int) (k : Int), k ∈ ns.foldl PyProof.Rows.step_dedup acc ↔ k ∈ acc ∨ k ∈ ns := by
  induction ns with
  | nil => intro acc k; simp
  | cons n ns ih =>
    intro acc k
    rw [List.foldl_cons, ih]
    unfold PyProof.Rows.step_dedup
    by_cases h : acc.any (· == n) = true
    · rw [if_pos h]
      have hn : n ∈ acc := by
        obtain ⟨x, hx, e⟩ := List.any_eq_true.mp h
        rw [← eq_of_beq e]; exact hx
      constructor
      · rintro (a | a)
        · exact .inl a
        · exact .inr (List.mem_cons_of_mem _ a)
      · rintro (a | a)
        · exact .inl a
        · rcases List.mem_cons.mp a with z | z
          · exact .inl (z ▸ hn)
          · exact .inr z
    · rw [if_neg h]
      simp only [List.mem_append, List.mem_cons, List.not_mem_nil, or_false]
      constructor
      · rintro ((a | a) | a)
        · exact .inl a
        · exact .inr (.inl a)
        · exact .inr (.inr a)
      · rintro (a | a | a)
        · exact .inl (.inl a)
        · exact .inl (.inr a)
        · exact .inr a
theorem once_nodup (ns : List Int) : ∀ acc : List Int, acc.Nodup → (ns.foldl PyProof.Rows.step_dedup acc).Nodup := by
  induction ns with
  | nil => intro acc h; exact h
  | cons n ns ih =>
    intro acc h
    refine ih _ ?_
    unfold PyProof.Rows.step_dedup
    by_cases hc : acc.any (· == n) = true
    · rw [if_pos hc]; exact h
    · rw [if_neg hc]
      refine List.nodup_append.mpr ⟨h, by simp, fun a ha b hb => ?_⟩
      rw [List.mem_singleton.mp hb]
      intro e
      exact hc (List.any_eq_true.mpr ⟨a, ha, by rw [e]; exact beq_self_eq_true _⟩)
theorem once_len (ns : List Int) : ∀ acc : List Int, (ns.foldl PyProof.Rows.step_dedup acc).length ≤ acc.length + ns.length := by
  induction ns with
  | nil => intro acc; exact Nat.le_refl _
  | cons n ns ih =>
    intro acc
    have := ih (PyProof.Rows.step_dedup acc n)
    rw [PyProof.Rows.step_length] at this
    rw [List.foldl_cons, List.length_cons]
    split at this <;> omega
theorem seal_told {bs w : List Int} (hb : IsB bs) (hw : w = bs ++ [((crc bs).toNat : Int) / 256, ((crc bs).toNat : Int) % 256]) : IsB w ∧ w.length = bs.length + 2 ∧ w.take (w.length - 2) = bs ∧ crc w = 0#16 := by
  have c1 := crc_lt bs
  have lw : w.length = bs.length + 2 := by rw [hw]; simp
  refine ⟨fun n hn => ?_, lw, by rw [lw, hw]; simp, ?_⟩
  · rw [hw] at hn
    rcases List.mem_append.mp hn with h | h
    · exact hb n h
    · simp at h
      rcases h with h | h <;> rw [h] <;> constructor <;> omega
  · rw [hw]
    exact (crc_sealed (by omega) (by omega) (by omega) (by omega)).mpr (by omega)
noncomputable def addV (f : Int) (v : V) : List V := match v with | .int d => [V.int (f + d)] | _ => []
theorem addV_map (f : Int) (ds : List Int) : (ds.map V.int).flatMap (addV f) = (ds.map (f + ·)).map V.int := by
  induction ds with
  | nil => rfl
  | cons d ds ih =>
    rw [List.map_cons, List.flatMap_cons, ih]
    rfl
theorem bits_told {ns : List Int} (hb : IsB ns) {f w : Int} {ds ks : List Int} (f0 : 0 ≤ f) (w0 : 0 ≤ w) (w1 : w ≤ 15) (hf : f + w < 8 * (ns.length : Int)) (hd : ∀ d ∈ ds, 1 ≤ d ∧ d < w) (hp : ks.Perm (onceF ([f, f + w] ++ ds.map (f + ·)))) :
    (∀ k ∈ ks, 0 ≤ k ∧ k < 8 * (ns.length : Int)) ∧ IsB (turnF ns (ks.map Int.toNat)) ∧ crc (turnF ns (ks.map Int.toNat)) ≠ crc ns := by
  have hm : ∀ k, k ∈ ks ↔ k ∈ [f, f + w] ++ ds.map (f + ·) := fun k => by
    rw [hp.mem_iff]
    unfold onceF
    rw [once_mem]
    simp
  have hr : ∀ k ∈ ks, f ≤ k ∧ k ≤ f + w := fun k hk => by
    have := (hm k).mp hk
    simp only [List.mem_append, List.mem_cons, List.not_mem_nil, or_false, List.mem_map] at this
    rcases this with (h | h) | ⟨d, hd', h⟩
    · omega
    · omega
    · have := hd d hd'
      omega
  have h1 : ∀ k ∈ ks, 0 ≤ k ∧ k < 8 * (ns.length : Int) := fun k hk => by have := hr k hk; omega
  have nd : ks.Nodup := hp.nodup_iff.mpr (once_nodup _ [] List.nodup_nil)
  have nd' : (ks.map Int.toNat).Nodup := by
    refine List.pairwise_map.mpr (List.Pairwise.imp_of_mem (fun {a b} ha hb' hne => ?_) nd)
    have := h1 a ha
    have := h1 b hb'
    omega
  have h2 : ∀ k ∈ ks.map Int.toNat, k < 8 * ns.length := fun k hk => by
    obtain ⟨z, hz, rfl⟩ := List.mem_map.mp hk
    have := h1 z hz
    omega
  refine ⟨h1, turn_isB _ hb h2, turn_told hb h2 nd' f.toNat (fun k hk => ?_) (k := f.toNat) (List.mem_map.mpr ⟨f, (hm f).mpr (by simp), rfl⟩)⟩
  obtain ⟨z, hz, rfl⟩ := List.mem_map.mp hk
  have := hr z hz
  omega

structure Txt (K : PySem.W.Frag) (mg : Str → Option Value) where
  d_is_number_up_to : DefAt K mg "is_number_up_to" s_is_number_up_to ["thing", "most"]
  d_is_byte : DefAt K mg "is_byte" s_is_byte ["thing"]
  d_need_bytes : DefAt K mg "need_bytes" s_need_bytes ["thing"]
  d_two_of : DefAt K mg "two_of" s_two_of ["number"]
  d_word_in : DefAt K mg "word_in" s_word_in ["row", "place"]
  d_one_bit_left : DefAt K mg "one_bit_left" s_one_bit_left ["check"]
  d_check_of : DefAt K mg "check_of" s_check_of ["row"]
  d_sealed : DefAt K mg "sealed" s_sealed ["row"]
  d_opened : DefAt K mg "opened" s_opened ["row"]
  d__law_cell : DefAt K mg "_law_cell" s__law_cell ["_law_script", "_law_k"]
  d__law_mixed : DefAt K mg "_law_mixed" s__law_mixed ["_law_script", "_law_k"]
  d__law_next : DefAt K mg "_law_next" s__law_next ["_law_number", "_law_k"]
  d__law_bytes : DefAt K mg "_law_bytes" s__law_bytes ["_law_script", "_law_first", "_law_many"]
  d__law_kind : DefAt K mg "_law_kind" s__law_kind ["_law_e"]
  d__law_opened : DefAt K mg "_law_opened" s__law_opened ["_law_row"]
  d__law_turned : DefAt K mg "_law_turned" s__law_turned ["_law_row", "_law_bits"]
  d__law_bent : DefAt K mg "_law_bent" s__law_bent ["_law_row", "_law_number"]
  d_law : DefAt K mg "law" s_law ["_law_script"]
  c_MOST_BYTE : ∃ u, mg "MOST_BYTE" = some u ∧ RelV (.int 255) u
  c_FIRST_CHECK : ∃ u, mg "FIRST_CHECK" = some u ∧ RelV (.int 65535) u
  c_LAID_OVER : ∃ u, mg "LAID_OVER" = some u ∧ RelV (.int 4129) u
  n_ValueError : mg "ValueError" = none
  n_all : mg "all" = none
  n_bool : mg "bool" = none
  n_int : mg "int" = none
  n_isinstance : mg "isinstance" = none
  n_len : mg "len" = none
  n_list : mg "list" = none
  n_range : mg "range" = none
  n_set : mg "set" = none
  n_sorted : mg "sorted" = none
  x_YardError : Addr
  x_BadBytes : Addr
  x_BadCheck : Addr
  x_BadText : Addr
  x_BadBase : Addr
  x_BadInput : Addr
  x_BadLine : Addr
  x_NoMain : Addr
  x_TooGreat : Addr
  x_NoPart : Addr
  x_RowError : Addr
  m_YardError : mg "YardError" = some (.ref x_YardError)
  m_BadBytes : mg "BadBytes" = some (.ref x_BadBytes)
  m_BadCheck : mg "BadCheck" = some (.ref x_BadCheck)
  m_BadText : mg "BadText" = some (.ref x_BadText)
  m_BadBase : mg "BadBase" = some (.ref x_BadBase)
  m_BadInput : mg "BadInput" = some (.ref x_BadInput)
  m_BadLine : mg "BadLine" = some (.ref x_BadLine)
  m_NoMain : mg "NoMain" = some (.ref x_NoMain)
  m_TooGreat : mg "TooGreat" = some (.ref x_TooGreat)
  m_NoPart : mg "NoPart" = some (.ref x_NoPart)
  m_RowError : mg "RowError" = some (.ref x_RowError)
  e_BadBytes : PySem.W.excIn K x_BadBytes bmV "ValueError.__new__" = true
  cl_BadBytes : ExCls K x_BadBytes
  ex_BadBytes : PySem.W.exmOne K (.ref x_BadBytes) (.ref x_YardError) = some true
  kt_BadBytes_BadBytes : PySem.W.kitOne K (.ref x_BadBytes) (.ref x_BadBytes) = some true
  kt_BadBytes_BadCheck : PySem.W.kitOne K (.ref x_BadBytes) (.ref x_BadCheck) = some false
  kt_BadBytes_BadText : PySem.W.kitOne K (.ref x_BadBytes) (.ref x_BadText) = some false
  kt_BadBytes_BadBase : PySem.W.kitOne K (.ref x_BadBytes) (.ref x_BadBase) = some false
  kt_BadBytes_BadInput : PySem.W.kitOne K (.ref x_BadBytes) (.ref x_BadInput) = some false
  kt_BadBytes_BadLine : PySem.W.kitOne K (.ref x_BadBytes) (.ref x_BadLine) = some false
  kt_BadBytes_NoMain : PySem.W.kitOne K (.ref x_BadBytes) (.ref x_NoMain) = some false
  kt_BadBytes_TooGreat : PySem.W.kitOne K (.ref x_BadBytes) (.ref x_TooGreat) = some false
  kt_BadBytes_NoPart : PySem.W.kitOne K (.ref x_BadBytes) (.ref x_NoPart) = some false
  kt_BadBytes_RowError : PySem.W.kitOne K (.ref x_BadBytes) (.ref x_RowError) = some false
  kt_BadBytes_ValueError : PySem.W.kitOne K (.ref x_BadBytes) (.type "ValueError") = some true
  e_BadCheck : PySem.W.excIn K x_BadCheck bmV "ValueError.__new__" = true
  cl_BadCheck : ExCls K x_BadCheck
  ex_BadCheck : PySem.W.exmOne K (.ref x_BadCheck) (.ref x_YardError) = some true
  kt_BadCheck_BadBytes : PySem.W.kitOne K (.ref x_BadCheck) (.ref x_BadBytes) = some false
  kt_BadCheck_BadCheck : PySem.W.kitOne K (.ref x_BadCheck) (.ref x_BadCheck) = some true
  kt_BadCheck_BadText : PySem.W.kitOne K (.ref x_BadCheck) (.ref x_BadText) = some false
  kt_BadCheck_BadBase : PySem.W.kitOne K (.ref x_BadCheck) (.ref x_BadBase) = some false
  kt_BadCheck_BadInput : PySem.W.kitOne K (.ref x_BadCheck) (.ref x_BadInput) = some false
  kt_BadCheck_BadLine : PySem.W.kitOne K (.ref x_BadCheck) (.ref x_BadLine) = some false
  kt_BadCheck_NoMain : PySem.W.kitOne K (.ref x_BadCheck) (.ref x_NoMain) = some false
  kt_BadCheck_TooGreat : PySem.W.kitOne K (.ref x_BadCheck) (.ref x_TooGreat) = some false
  kt_BadCheck_NoPart : PySem.W.kitOne K (.ref x_BadCheck) (.ref x_NoPart) = some false
  kt_BadCheck_RowError : PySem.W.kitOne K (.ref x_BadCheck) (.ref x_RowError) = some false
  kt_BadCheck_ValueError : PySem.W.kitOne K (.ref x_BadCheck) (.type "ValueError") = some true
  dd_word_in : ∃ ds, Binds K d_word_in.fd ["row", "place"] ds ∧ Vals [V.int 0] ds

noncomputable def kindW : List Str := [Str.ofString "bytes", Str.ofString "check", Str.ofString "text", Str.ofString "base", Str.ofString "input", Str.ofString "line", Str.ofString "nomain", Str.ofString "great", Str.ofString "nopart", Str.ofString "row", Str.ofString "value"]
noncomputable def kindF (bs : List Bool) (i : Nat) : List V := if bs.getD i false = true then [V.str (kindW.getD i (Str.ofString ""))] else []
noncomputable def KD {K : PySem.W.Frag} {mg : Str → Option Value} (T : Txt K mg) (D : Addr) : List Bool → Prop
  | [b0, b1, b2, b3, b4, b5, b6, b7, b8, b9, b10] => PySem.W.kitOne K (.ref D) (.ref T.x_BadBytes) = some b0 ∧ PySem.W.kitOne K (.ref D) (.ref T.x_BadCheck) = some b1 ∧ PySem.W.kitOne K (.ref D) (.ref T.x_BadText) = some b2 ∧ PySem.W.kitOne K (.ref D) (.ref T.x_BadBase) = some b3 ∧ PySem.W.kitOne K (.ref D) (.ref T.x_BadInput) = some b4 ∧ PySem.W.kitOne K (.ref D) (.ref T.x_BadLine) = some b5 ∧ PySem.W.kitOne K (.ref D) (.ref T.x_NoMain) = some b6 ∧ PySem.W.kitOne K (.ref D) (.ref T.x_TooGreat) = some b7 ∧ PySem.W.kitOne K (.ref D) (.ref T.x_NoPart) = some b8 ∧ PySem.W.kitOne K (.ref D) (.ref T.x_RowError) = some b9 ∧ PySem.W.kitOne K (.ref D) (.type "ValueError") = some b10
  | _ => False
theorem kd_bytes {K : PySem.W.Frag} {mg : Str → Option Value} (T : Txt K mg) : KD T T.x_BadBytes [true, false, false, false, false, false, false, false, false, false, true] := ⟨T.kt_BadBytes_BadBytes, T.kt_BadBytes_BadCheck, T.kt_BadBytes_BadText, T.kt_BadBytes_BadBase, T.kt_BadBytes_BadInput, T.kt_BadBytes_BadLine, T.kt_BadBytes_NoMain, T.kt_BadBytes_TooGreat, T.kt_BadBytes_NoPart, T.kt_BadBytes_RowError, T.kt_BadBytes_ValueError⟩
theorem kd_check {K : PySem.W.Frag} {mg : Str → Option Value} (T : Txt K mg) : KD T T.x_BadCheck [false, true, false, false, false, false, false, false, false, false, true] := ⟨T.kt_BadCheck_BadBytes, T.kt_BadCheck_BadCheck, T.kt_BadCheck_BadText, T.kt_BadCheck_BadBase, T.kt_BadCheck_BadInput, T.kt_BadCheck_BadLine, T.kt_BadCheck_NoMain, T.kt_BadCheck_TooGreat, T.kt_BadCheck_NoPart, T.kt_BadCheck_RowError, T.kt_BadCheck_ValueError⟩

end K04
namespace K04
open PySem L2 Crc
seal L2.PA L2.PE L2.PS L2.PSs L2.PT L2.PW L2.PI L2.PG L2.PGs L2.PIf L2.PO L2.OpR L2.UnR L2.CallR L2.IxR L2.MtR L2.SlR L2.PSet L2.PEX L2.PIC L2.PPs
section
variable {P : Program} {w : World} {K : PySem.W.Frag} {mg : Str → Option Value} {base : Heap}
noncomputable def sp_is_number_up_to (K : PySem.W.Frag) : Sp := fun vs H Q E => ∃ x m, vs = [x, .int m] ∧ Knw K H x ∧ Q (.bl (numUp x m)) H
theorem sc_is_number_up_to : FnScope ["thing", "most"] ["thing", "most"] (defScope s_is_number_up_to) := ⟨rfl, rfl, rfl, by decide +kernel, rfl, by decide +kernel, by decide +kernel⟩
theorem ok_is_number_up_to (T : Txt K mg) : FnOk P w K mg base CX0 1 T.d_is_number_up_to.f T.d_is_number_up_to.fd ["thing", "most"] (sp_is_number_up_to K) := by
  have nd := sc_is_number_up_to.nd
  refine T.d_is_number_up_to.F.ok sc_is_number_up_to (fun vs H Q E h => ?_) (fun cdv A outer s H vs Q E hr h => ?_)
  · obtain ⟨x, m, rfl, ⟨T0, k⟩, q⟩ := h
    rfl
  · obtain ⟨x, m, rfl, ⟨T0, k⟩, q⟩ := h
    have hu := hr.units0
    refine ⟨_, (pss_one (ps_ret (pe_and (pcB (o_isinstance (K := K)) rfl T.n_isinstance (by kernel_rfl) (pa1 (pv 0) (pa1 (pe_bltn (v := .ty "int") rfl T.n_int (by kernel_rfl) rfl) pa_nil))) (pe_and (pe_not (pcB (o_isinstance (K := K)) rfl T.n_isinstance (by kernel_rfl) (pa1 (pv 0) (pa1 (pe_bltn (v := .ty "bool") rfl T.n_bool (by kernel_rfl) rfl) pa_nil)))) (pe_one (pe_chain op_le op_le pe_int (pv 0) (pv 1))))))), ?_⟩
    rw [show start ["thing", "most"] [x, V.int m] = [some (x), some (V.int m)] from rfl]
    simp only [tSeq, tIfS, tRet, tRetN, tC, tVar, tOp, tUn, tTest, tB, tAnd, tOr, tNot, tAndV, tOrV, tNotV, tIf, tChain, tCons, tNil, tCall, tCB, tLst, tTup, tSl, tNoPart, tPart, gName, tNext, tDrop, tAsg, tAsgC, tBM, tYes, tDNewK, rI, rI0, rU, rEq, rNe, rAbs, rIntT, CDiv, add_ii, add_ss, mul_ii, mul_si, ix_si, eq_ii, eq_ss, eq_bb, ne_ii, ne_ss, ne_ni, ne_in, in_s1, notin_s1, is_xn, is_bb, isnot_xn, isnot_bb, sl_s, len_s, find_ss, index_ss, List.append_nil, List.cons_append, List.nil_append, List.getElem?_cons_succ, List.getElem?_cons_zero, List.set_cons_succ, List.set_cons_zero, Option.some.injEq, V.int.injEq, V.bl.injEq, V.str.injEq, V.ref.injEq, V.ty.injEq, List.cons.injEq, and_true, true_and, exists_eq_left, exists_eq_left', exists_and_left, exists_eq', exists_const, exists_and_right, exists_eq_right, exists_eq_right', reduceCtorEq, false_and, and_false, exists_false, or_false, false_or, decide_eq_true_eq, Bool.not_eq_true', decide_eq_false_iff_not, Bool.false_eq_true, if_false, if_true, mk_app, mk_len, sg_mk, mk_one, decide_true, decide_false, Bool.not_true, Bool.not_false, ite_true, ite_false, not_true_eq_false, not_false_eq_true, cxK, cutTo1, cutFrom1, mk_iff, tyV_str, stComp, List.map_cons, List.map_nil, Option.join_some, Option.join_none, gt_iff_lt, ge_iff_le, tRaise, tTryR, tCallH, tDisp, tPairs, gSub, CPow]
    cases k with
    | int i =>
      refine isi_t (.int i) ?_
      simp only [tSeq, tIfS, tRet, tRetN, tC, tVar, tOp, tUn, tTest, tB, tAnd, tOr, tNot, tAndV, tOrV, tNotV, tIf, tChain, tCons, tNil, tCall, tCB, tLst, tTup, tSl, tNoPart, tPart, gName, tNext, tDrop, tAsg, tAsgC, tBM, tYes, tDNewK, rI, rI0, rU, rEq, rNe, rAbs, rIntT, CDiv, add_ii, add_ss, mul_ii, mul_si, ix_si, eq_ii, eq_ss, eq_bb, ne_ii, ne_ss, ne_ni, ne_in, in_s1, notin_s1, is_xn, is_bb, isnot_xn, isnot_bb, sl_s, len_s, find_ss, index_ss, List.append_nil, List.cons_append, List.nil_append, List.getElem?_cons_succ, List.getElem?_cons_zero, List.set_cons_succ, List.set_cons_zero, Option.some.injEq, V.int.injEq, V.bl.injEq, V.str.injEq, V.ref.injEq, V.ty.injEq, List.cons.injEq, and_true, true_and, exists_eq_left, exists_eq_left', exists_and_left, exists_eq', exists_const, exists_and_right, exists_eq_right, exists_eq_right', reduceCtorEq, false_and, and_false, exists_false, or_false, false_or, decide_eq_true_eq, Bool.not_eq_true', decide_eq_false_iff_not, Bool.false_eq_true, if_false, if_true, mk_app, mk_len, sg_mk, mk_one, decide_true, decide_false, Bool.not_true, Bool.not_false, ite_true, ite_false, not_true_eq_false, not_false_eq_true, cxK, cutTo1, cutFrom1, mk_iff, tyV_str, stComp, List.map_cons, List.map_nil, Option.join_some, Option.join_none, gt_iff_lt, ge_iff_le, tRaise, tTryR, tCallH, tDisp, tPairs, gSub, CPow]
      refine isi_f (.int i) ?_
      simp only [tSeq, tIfS, tRet, tRetN, tC, tVar, tOp, tUn, tTest, tB, tAnd, tOr, tNot, tAndV, tOrV, tNotV, tIf, tChain, tCons, tNil, tCall, tCB, tLst, tTup, tSl, tNoPart, tPart, gName, tNext, tDrop, tAsg, tAsgC, tBM, tYes, tDNewK, rI, rI0, rU, rEq, rNe, rAbs, rIntT, CDiv, add_ii, add_ss, mul_ii, mul_si, ix_si, eq_ii, eq_ss, eq_bb, ne_ii, ne_ss, ne_ni, ne_in, in_s1, notin_s1, is_xn, is_bb, isnot_xn, isnot_bb, sl_s, len_s, find_ss, index_ss, List.append_nil, List.cons_append, List.nil_append, List.getElem?_cons_succ, List.getElem?_cons_zero, List.set_cons_succ, List.set_cons_zero, Option.some.injEq, V.int.injEq, V.bl.injEq, V.str.injEq, V.ref.injEq, V.ty.injEq, List.cons.injEq, and_true, true_and, exists_eq_left, exists_eq_left', exists_and_left, exists_eq', exists_const, exists_and_right, exists_eq_right, exists_eq_right', reduceCtorEq, false_and, and_false, exists_false, or_false, false_or, decide_eq_true_eq, Bool.not_eq_true', decide_eq_false_iff_not, Bool.false_eq_true, if_false, if_true, mk_app, mk_len, sg_mk, mk_one, decide_true, decide_false, Bool.not_true, Bool.not_false, ite_true, ite_false, not_true_eq_false, not_false_eq_true, cxK, cutTo1, cutFrom1, mk_iff, tyV_str, stComp, List.map_cons, List.map_nil, Option.join_some, Option.join_none, gt_iff_lt, ge_iff_le, tRaise, tTryR, tCallH, tDisp, tPairs, gSub, CPow]
      refine ite2 (fun h => ?_) (fun h => ?_)
      · rw [show numUp (V.int i) m = decide (i ≤ m) by simp [numUp, h]] at q
        exact q
      · rw [show numUp (V.int i) m = false by simp [numUp, h]] at q
        exact q
    | str z => exact isi_f (.str z) (by simp only [tSeq, tIfS, tRet, tRetN, tC, tVar, tOp, tUn, tTest, tB, tAnd, tOr, tNot, tAndV, tOrV, tNotV, tIf, tChain, tCons, tNil, tCall, tCB, tLst, tTup, tSl, tNoPart, tPart, gName, tNext, tDrop, tAsg, tAsgC, tBM, tYes, tDNewK, rI, rI0, rU, rEq, rNe, rAbs, rIntT, CDiv, add_ii, add_ss, mul_ii, mul_si, ix_si, eq_ii, eq_ss, eq_bb, ne_ii, ne_ss, ne_ni, ne_in, in_s1, notin_s1, is_xn, is_bb, isnot_xn, isnot_bb, sl_s, len_s, find_ss, index_ss, List.append_nil, List.cons_append, List.nil_append, List.getElem?_cons_succ, List.getElem?_cons_zero, List.set_cons_succ, List.set_cons_zero, Option.some.injEq, V.int.injEq, V.bl.injEq, V.str.injEq, V.ref.injEq, V.ty.injEq, List.cons.injEq, and_true, true_and, exists_eq_left, exists_eq_left', exists_and_left, exists_eq', exists_const, exists_and_right, exists_eq_right, exists_eq_right', reduceCtorEq, false_and, and_false, exists_false, or_false, false_or, decide_eq_true_eq, Bool.not_eq_true', decide_eq_false_iff_not, Bool.false_eq_true, if_false, if_true, mk_app, mk_len, sg_mk, mk_one, decide_true, decide_false, Bool.not_true, Bool.not_false, ite_true, ite_false, not_true_eq_false, not_false_eq_true, cxK, cutTo1, cutFrom1, mk_iff, tyV_str, stComp, List.map_cons, List.map_nil, Option.join_some, Option.join_none, gt_iff_lt, ge_iff_le, tRaise, tTryR, tCallH, tDisp, tPairs, gSub, CPow]; exact q)
    | bl b => exact isi_t (.bl b) (by simp only [tSeq, tIfS, tRet, tRetN, tC, tVar, tOp, tUn, tTest, tB, tAnd, tOr, tNot, tAndV, tOrV, tNotV, tIf, tChain, tCons, tNil, tCall, tCB, tLst, tTup, tSl, tNoPart, tPart, gName, tNext, tDrop, tAsg, tAsgC, tBM, tYes, tDNewK, rI, rI0, rU, rEq, rNe, rAbs, rIntT, CDiv, add_ii, add_ss, mul_ii, mul_si, ix_si, eq_ii, eq_ss, eq_bb, ne_ii, ne_ss, ne_ni, ne_in, in_s1, notin_s1, is_xn, is_bb, isnot_xn, isnot_bb, sl_s, len_s, find_ss, index_ss, List.append_nil, List.cons_append, List.nil_append, List.getElem?_cons_succ, List.getElem?_cons_zero, List.set_cons_succ, List.set_cons_zero, Option.some.injEq, V.int.injEq, V.bl.injEq, V.str.injEq, V.ref.injEq, V.ty.injEq, List.cons.injEq, and_true, true_and, exists_eq_left, exists_eq_left', exists_and_left, exists_eq', exists_const, exists_and_right, exists_eq_right, exists_eq_right', reduceCtorEq, false_and, and_false, exists_false, or_false, false_or, decide_eq_true_eq, Bool.not_eq_true', decide_eq_false_iff_not, Bool.false_eq_true, if_false, if_true, mk_app, mk_len, sg_mk, mk_one, decide_true, decide_false, Bool.not_true, Bool.not_false, ite_true, ite_false, not_true_eq_false, not_false_eq_true, cxK, cutTo1, cutFrom1, mk_iff, tyV_str, stComp, List.map_cons, List.map_nil, Option.join_some, Option.join_none, gt_iff_lt, ge_iff_le, tRaise, tTryR, tCallH, tDisp, tPairs, gSub, CPow]; exact isi_t (.bl b) (by simp only [tSeq, tIfS, tRet, tRetN, tC, tVar, tOp, tUn, tTest, tB, tAnd, tOr, tNot, tAndV, tOrV, tNotV, tIf, tChain, tCons, tNil, tCall, tCB, tLst, tTup, tSl, tNoPart, tPart, gName, tNext, tDrop, tAsg, tAsgC, tBM, tYes, tDNewK, rI, rI0, rU, rEq, rNe, rAbs, rIntT, CDiv, add_ii, add_ss, mul_ii, mul_si, ix_si, eq_ii, eq_ss, eq_bb, ne_ii, ne_ss, ne_ni, ne_in, in_s1, notin_s1, is_xn, is_bb, isnot_xn, isnot_bb, sl_s, len_s, find_ss, index_ss, List.append_nil, List.cons_append, List.nil_append, List.getElem?_cons_succ, List.getElem?_cons_zero, List.set_cons_succ, List.set_cons_zero, Option.some.injEq, V.int.injEq, V.bl.injEq, V.str.injEq, V.ref.injEq, V.ty.injEq, List.cons.injEq, and_true, true_and, exists_eq_left, exists_eq_left', exists_and_left, exists_eq', exists_const, exists_and_right, exists_eq_right, exists_eq_right', reduceCtorEq, false_and, and_false, exists_false, or_false, false_or, decide_eq_true_eq, Bool.not_eq_true', decide_eq_false_iff_not, Bool.false_eq_true, if_false, if_true, mk_app, mk_len, sg_mk, mk_one, decide_true, decide_false, Bool.not_true, Bool.not_false, ite_true, ite_false, not_true_eq_false, not_false_eq_true, cxK, cutTo1, cutFrom1, mk_iff, tyV_str, stComp, List.map_cons, List.map_nil, Option.join_some, Option.join_none, gt_iff_lt, ge_iff_le, tRaise, tTryR, tCallH, tDisp, tPairs, gSub, CPow]; exact q))
    | non => exact isi_f .non (by simp only [tSeq, tIfS, tRet, tRetN, tC, tVar, tOp, tUn, tTest, tB, tAnd, tOr, tNot, tAndV, tOrV, tNotV, tIf, tChain, tCons, tNil, tCall, tCB, tLst, tTup, tSl, tNoPart, tPart, gName, tNext, tDrop, tAsg, tAsgC, tBM, tYes, tDNewK, rI, rI0, rU, rEq, rNe, rAbs, rIntT, CDiv, add_ii, add_ss, mul_ii, mul_si, ix_si, eq_ii, eq_ss, eq_bb, ne_ii, ne_ss, ne_ni, ne_in, in_s1, notin_s1, is_xn, is_bb, isnot_xn, isnot_bb, sl_s, len_s, find_ss, index_ss, List.append_nil, List.cons_append, List.nil_append, List.getElem?_cons_succ, List.getElem?_cons_zero, List.set_cons_succ, List.set_cons_zero, Option.some.injEq, V.int.injEq, V.bl.injEq, V.str.injEq, V.ref.injEq, V.ty.injEq, List.cons.injEq, and_true, true_and, exists_eq_left, exists_eq_left', exists_and_left, exists_eq', exists_const, exists_and_right, exists_eq_right, exists_eq_right', reduceCtorEq, false_and, and_false, exists_false, or_false, false_or, decide_eq_true_eq, Bool.not_eq_true', decide_eq_false_iff_not, Bool.false_eq_true, if_false, if_true, mk_app, mk_len, sg_mk, mk_one, decide_true, decide_false, Bool.not_true, Bool.not_false, ite_true, ite_false, not_true_eq_false, not_false_eq_true, cxK, cutTo1, cutFrom1, mk_iff, tyV_str, stComp, List.map_cons, List.map_nil, Option.join_some, Option.join_none, gt_iff_lt, ge_iff_le, tRaise, tTryR, tCallH, tDisp, tPairs, gSub, CPow]; exact q)
    | flt z => exact isi_f (.flt z) (by simp only [tSeq, tIfS, tRet, tRetN, tC, tVar, tOp, tUn, tTest, tB, tAnd, tOr, tNot, tAndV, tOrV, tNotV, tIf, tChain, tCons, tNil, tCall, tCB, tLst, tTup, tSl, tNoPart, tPart, gName, tNext, tDrop, tAsg, tAsgC, tBM, tYes, tDNewK, rI, rI0, rU, rEq, rNe, rAbs, rIntT, CDiv, add_ii, add_ss, mul_ii, mul_si, ix_si, eq_ii, eq_ss, eq_bb, ne_ii, ne_ss, ne_ni, ne_in, in_s1, notin_s1, is_xn, is_bb, isnot_xn, isnot_bb, sl_s, len_s, find_ss, index_ss, List.append_nil, List.cons_append, List.nil_append, List.getElem?_cons_succ, List.getElem?_cons_zero, List.set_cons_succ, List.set_cons_zero, Option.some.injEq, V.int.injEq, V.bl.injEq, V.str.injEq, V.ref.injEq, V.ty.injEq, List.cons.injEq, and_true, true_and, exists_eq_left, exists_eq_left', exists_and_left, exists_eq', exists_const, exists_and_right, exists_eq_right, exists_eq_right', reduceCtorEq, false_and, and_false, exists_false, or_false, false_or, decide_eq_true_eq, Bool.not_eq_true', decide_eq_false_iff_not, Bool.false_eq_true, if_false, if_true, mk_app, mk_len, sg_mk, mk_one, decide_true, decide_false, Bool.not_true, Bool.not_false, ite_true, ite_false, not_true_eq_false, not_false_eq_true, cxK, cutTo1, cutFrom1, mk_iff, tyV_str, stComp, List.map_cons, List.map_nil, Option.join_some, Option.join_none, gt_iff_lt, ge_iff_le, tRaise, tTryR, tCallH, tDisp, tPairs, gSub, CPow]; exact q)
    | lst e => exact isi_f (.lst e) (by simp only [tSeq, tIfS, tRet, tRetN, tC, tVar, tOp, tUn, tTest, tB, tAnd, tOr, tNot, tAndV, tOrV, tNotV, tIf, tChain, tCons, tNil, tCall, tCB, tLst, tTup, tSl, tNoPart, tPart, gName, tNext, tDrop, tAsg, tAsgC, tBM, tYes, tDNewK, rI, rI0, rU, rEq, rNe, rAbs, rIntT, CDiv, add_ii, add_ss, mul_ii, mul_si, ix_si, eq_ii, eq_ss, eq_bb, ne_ii, ne_ss, ne_ni, ne_in, in_s1, notin_s1, is_xn, is_bb, isnot_xn, isnot_bb, sl_s, len_s, find_ss, index_ss, List.append_nil, List.cons_append, List.nil_append, List.getElem?_cons_succ, List.getElem?_cons_zero, List.set_cons_succ, List.set_cons_zero, Option.some.injEq, V.int.injEq, V.bl.injEq, V.str.injEq, V.ref.injEq, V.ty.injEq, List.cons.injEq, and_true, true_and, exists_eq_left, exists_eq_left', exists_and_left, exists_eq', exists_const, exists_and_right, exists_eq_right, exists_eq_right', reduceCtorEq, false_and, and_false, exists_false, or_false, false_or, decide_eq_true_eq, Bool.not_eq_true', decide_eq_false_iff_not, Bool.false_eq_true, if_false, if_true, mk_app, mk_len, sg_mk, mk_one, decide_true, decide_false, Bool.not_true, Bool.not_false, ite_true, ite_false, not_true_eq_false, not_false_eq_true, cxK, cutTo1, cutFrom1, mk_iff, tyV_str, stComp, List.map_cons, List.map_nil, Option.join_some, Option.join_none, gt_iff_lt, ge_iff_le, tRaise, tTryR, tCallH, tDisp, tPairs, gSub, CPow]; exact q)
    | frz e => exact isi_f (.frz e) (by simp only [tSeq, tIfS, tRet, tRetN, tC, tVar, tOp, tUn, tTest, tB, tAnd, tOr, tNot, tAndV, tOrV, tNotV, tIf, tChain, tCons, tNil, tCall, tCB, tLst, tTup, tSl, tNoPart, tPart, gName, tNext, tDrop, tAsg, tAsgC, tBM, tYes, tDNewK, rI, rI0, rU, rEq, rNe, rAbs, rIntT, CDiv, add_ii, add_ss, mul_ii, mul_si, ix_si, eq_ii, eq_ss, eq_bb, ne_ii, ne_ss, ne_ni, ne_in, in_s1, notin_s1, is_xn, is_bb, isnot_xn, isnot_bb, sl_s, len_s, find_ss, index_ss, List.append_nil, List.cons_append, List.nil_append, List.getElem?_cons_succ, List.getElem?_cons_zero, List.set_cons_succ, List.set_cons_zero, Option.some.injEq, V.int.injEq, V.bl.injEq, V.str.injEq, V.ref.injEq, V.ty.injEq, List.cons.injEq, and_true, true_and, exists_eq_left, exists_eq_left', exists_and_left, exists_eq', exists_const, exists_and_right, exists_eq_right, exists_eq_right', reduceCtorEq, false_and, and_false, exists_false, or_false, false_or, decide_eq_true_eq, Bool.not_eq_true', decide_eq_false_iff_not, Bool.false_eq_true, if_false, if_true, mk_app, mk_len, sg_mk, mk_one, decide_true, decide_false, Bool.not_true, Bool.not_false, ite_true, ite_false, not_true_eq_false, not_false_eq_true, cxK, cutTo1, cutFrom1, mk_iff, tyV_str, stComp, List.map_cons, List.map_nil, Option.join_some, Option.join_none, gt_iff_lt, ge_iff_le, tRaise, tTryR, tCallH, tDisp, tPairs, gSub, CPow]; exact q)
    | tup e => exact isi_f (.tup e) (by simp only [tSeq, tIfS, tRet, tRetN, tC, tVar, tOp, tUn, tTest, tB, tAnd, tOr, tNot, tAndV, tOrV, tNotV, tIf, tChain, tCons, tNil, tCall, tCB, tLst, tTup, tSl, tNoPart, tPart, gName, tNext, tDrop, tAsg, tAsgC, tBM, tYes, tDNewK, rI, rI0, rU, rEq, rNe, rAbs, rIntT, CDiv, add_ii, add_ss, mul_ii, mul_si, ix_si, eq_ii, eq_ss, eq_bb, ne_ii, ne_ss, ne_ni, ne_in, in_s1, notin_s1, is_xn, is_bb, isnot_xn, isnot_bb, sl_s, len_s, find_ss, index_ss, List.append_nil, List.cons_append, List.nil_append, List.getElem?_cons_succ, List.getElem?_cons_zero, List.set_cons_succ, List.set_cons_zero, Option.some.injEq, V.int.injEq, V.bl.injEq, V.str.injEq, V.ref.injEq, V.ty.injEq, List.cons.injEq, and_true, true_and, exists_eq_left, exists_eq_left', exists_and_left, exists_eq', exists_const, exists_and_right, exists_eq_right, exists_eq_right', reduceCtorEq, false_and, and_false, exists_false, or_false, false_or, decide_eq_true_eq, Bool.not_eq_true', decide_eq_false_iff_not, Bool.false_eq_true, if_false, if_true, mk_app, mk_len, sg_mk, mk_one, decide_true, decide_false, Bool.not_true, Bool.not_false, ite_true, ite_false, not_true_eq_false, not_false_eq_true, cxK, cutTo1, cutFrom1, mk_iff, tyV_str, stComp, List.map_cons, List.map_nil, Option.join_some, Option.join_none, gt_iff_lt, ge_iff_le, tRaise, tTryR, tCallH, tDisp, tPairs, gSub, CPow]; exact q)
    | dK e => exact isi_f (.dK e) (by simp only [tSeq, tIfS, tRet, tRetN, tC, tVar, tOp, tUn, tTest, tB, tAnd, tOr, tNot, tAndV, tOrV, tNotV, tIf, tChain, tCons, tNil, tCall, tCB, tLst, tTup, tSl, tNoPart, tPart, gName, tNext, tDrop, tAsg, tAsgC, tBM, tYes, tDNewK, rI, rI0, rU, rEq, rNe, rAbs, rIntT, CDiv, add_ii, add_ss, mul_ii, mul_si, ix_si, eq_ii, eq_ss, eq_bb, ne_ii, ne_ss, ne_ni, ne_in, in_s1, notin_s1, is_xn, is_bb, isnot_xn, isnot_bb, sl_s, len_s, find_ss, index_ss, List.append_nil, List.cons_append, List.nil_append, List.getElem?_cons_succ, List.getElem?_cons_zero, List.set_cons_succ, List.set_cons_zero, Option.some.injEq, V.int.injEq, V.bl.injEq, V.str.injEq, V.ref.injEq, V.ty.injEq, List.cons.injEq, and_true, true_and, exists_eq_left, exists_eq_left', exists_and_left, exists_eq', exists_const, exists_and_right, exists_eq_right, exists_eq_right', reduceCtorEq, false_and, and_false, exists_false, or_false, false_or, decide_eq_true_eq, Bool.not_eq_true', decide_eq_false_iff_not, Bool.false_eq_true, if_false, if_true, mk_app, mk_len, sg_mk, mk_one, decide_true, decide_false, Bool.not_true, Bool.not_false, ite_true, ite_false, not_true_eq_false, not_false_eq_true, cxK, cutTo1, cutFrom1, mk_iff, tyV_str, stComp, List.map_cons, List.map_nil, Option.join_some, Option.join_none, gt_iff_lt, ge_iff_le, tRaise, tTryR, tCallH, tDisp, tPairs, gSub, CPow]; exact q)
    | dT e => exact isi_f (.dT e) (by simp only [tSeq, tIfS, tRet, tRetN, tC, tVar, tOp, tUn, tTest, tB, tAnd, tOr, tNot, tAndV, tOrV, tNotV, tIf, tChain, tCons, tNil, tCall, tCB, tLst, tTup, tSl, tNoPart, tPart, gName, tNext, tDrop, tAsg, tAsgC, tBM, tYes, tDNewK, rI, rI0, rU, rEq, rNe, rAbs, rIntT, CDiv, add_ii, add_ss, mul_ii, mul_si, ix_si, eq_ii, eq_ss, eq_bb, ne_ii, ne_ss, ne_ni, ne_in, in_s1, notin_s1, is_xn, is_bb, isnot_xn, isnot_bb, sl_s, len_s, find_ss, index_ss, List.append_nil, List.cons_append, List.nil_append, List.getElem?_cons_succ, List.getElem?_cons_zero, List.set_cons_succ, List.set_cons_zero, Option.some.injEq, V.int.injEq, V.bl.injEq, V.str.injEq, V.ref.injEq, V.ty.injEq, List.cons.injEq, and_true, true_and, exists_eq_left, exists_eq_left', exists_and_left, exists_eq', exists_const, exists_and_right, exists_eq_right, exists_eq_right', reduceCtorEq, false_and, and_false, exists_false, or_false, false_or, decide_eq_true_eq, Bool.not_eq_true', decide_eq_false_iff_not, Bool.false_eq_true, if_false, if_true, mk_app, mk_len, sg_mk, mk_one, decide_true, decide_false, Bool.not_true, Bool.not_false, ite_true, ite_false, not_true_eq_false, not_false_eq_true, cxK, cutTo1, cutFrom1, mk_iff, tyV_str, stComp, List.map_cons, List.map_nil, Option.join_some, Option.join_none, gt_iff_lt, ge_iff_le, tRaise, tTryR, tCallH, tDisp, tPairs, gSub, CPow]; exact q)
noncomputable def sp_is_byte (K : PySem.W.Frag) : Sp := fun vs H Q E => ∃ x, vs = [x] ∧ Knw K H x ∧ Q (.bl (numUp x 255)) H
theorem sc_is_byte : FnScope ["thing"] ["thing"] (defScope s_is_byte) := ⟨rfl, rfl, rfl, by decide +kernel, rfl, by decide +kernel, by decide +kernel⟩
theorem ok_is_byte (T : Txt K mg) : FnOk P w K mg base CX0 2 T.d_is_byte.f T.d_is_byte.fd ["thing"] (sp_is_byte K) := by
  have nd := sc_is_byte.nd
  refine T.d_is_byte.F.ok sc_is_byte (fun vs H Q E h => ?_) (fun cdv A outer s H vs Q E hr h => ?_)
  · obtain ⟨x, rfl, k, q⟩ := h
    rfl
  · obtain ⟨x, rfl, k, q⟩ := h
    have hu := hr.units0
    refine ⟨_, (pss_one (ps_ret (pc1 T.d_is_number_up_to (ok_is_number_up_to T) (hr.mono (by decide)) (pa1 (pv 0) (pa1 (pe_gl rfl T.c_MOST_BYTE) pa_nil))))), ?_⟩
    rw [show start ["thing"] [x] = [some (x)] from rfl]
    simp only [tSeq, tIfS, tRet, tRetN, tC, tVar, tOp, tUn, tTest, tB, tAnd, tOr, tNot, tAndV, tOrV, tNotV, tIf, tChain, tCons, tNil, tCall, tCB, tLst, tTup, tSl, tNoPart, tPart, gName, tNext, tDrop, tAsg, tAsgC, tBM, tYes, tDNewK, rI, rI0, rU, rEq, rNe, rAbs, rIntT, CDiv, add_ii, add_ss, mul_ii, mul_si, ix_si, eq_ii, eq_ss, eq_bb, ne_ii, ne_ss, ne_ni, ne_in, in_s1, notin_s1, is_xn, is_bb, isnot_xn, isnot_bb, sl_s, len_s, find_ss, index_ss, List.append_nil, List.cons_append, List.nil_append, List.getElem?_cons_succ, List.getElem?_cons_zero, List.set_cons_succ, List.set_cons_zero, Option.some.injEq, V.int.injEq, V.bl.injEq, V.str.injEq, V.ref.injEq, V.ty.injEq, List.cons.injEq, and_true, true_and, exists_eq_left, exists_eq_left', exists_and_left, exists_eq', exists_const, exists_and_right, exists_eq_right, exists_eq_right', reduceCtorEq, false_and, and_false, exists_false, or_false, false_or, decide_eq_true_eq, Bool.not_eq_true', decide_eq_false_iff_not, Bool.false_eq_true, if_false, if_true, mk_app, mk_len, sg_mk, mk_one, decide_true, decide_false, Bool.not_true, Bool.not_false, ite_true, ite_false, not_true_eq_false, not_false_eq_true, cxK, cutTo1, cutFrom1, mk_iff, tyV_str, stComp, List.map_cons, List.map_nil, Option.join_some, Option.join_none, gt_iff_lt, ge_iff_le, tRaise, tTryR, tCallH, tDisp, tPairs, gSub, CPow]
    exact ⟨x, 255, rfl, k, q⟩
noncomputable def sp_need_bytes (T : Txt K mg) : Sp := fun vs H Q E => ∃ x, vs = [x] ∧ ((∃ a xs, x = .ref a ∧ H a = some (.lst xs) ∧ (∀ v ∈ xs, Knw K H v) ∧ xs.length ≤ 1000 ∧ (xs.all (numUp · 255) = true → ∀ l H', H l = none → Same (upd H l (.lst xs)) H' → Q (.ref l) H') ∧ (xs.all (numUp · 255) = false → ∀ H', Same H H' → E (.ref T.x_BadBytes) none H')) ∨ (NoL K H x ∧ E (.ref T.x_BadBytes) none H))
theorem sc_need_bytes : FnScope ["thing", "row"] ["thing"] (defScope s_need_bytes) := ⟨rfl, rfl, rfl, by decide +kernel, rfl, by decide +kernel, by decide +kernel⟩
theorem ok_need_bytes (T : Txt K mg) : FnOk P w K mg base (CX1 P w) 3 T.d_need_bytes.f T.d_need_bytes.fd ["thing"] (sp_need_bytes T) := by
  have nd := sc_need_bytes.nd
  refine T.d_need_bytes.F.ok1 sc_need_bytes (fun vs H Q E h => ?_) (fun cdv A outer s H vs Q E hr h => ?_)
  · obtain ⟨x, rfl, h⟩ := h
    rfl
  · obtain ⟨x, rfl, h⟩ := h
    have hu := hr.units0
    refine ⟨_, (pss_cons (ps_if (pt_not (pt_val (pcB (o_isinstance (K := K)) rfl T.n_isinstance (by kernel_rfl) (pa1 (pv 0) (pa1 (pe_bltn (v := .ty "list") rfl T.n_list (by kernel_rfl) rfl) pa_nil))))) (pss_one (ps_raise (fun I mk q => made1 I mk q) rfl rfl T.m_BadBytes T.e_BadBytes (pa1 pe_str pa_nil))) pss_nil)
      (pss_cons (ps_set (i := 1) nd rfl (Or.inl rfl) (pcT (call_listK (K := K)) rfl T.n_list (by kernel_rfl) (pa1 (pv 0) pa_nil)))
      (pss_cons (ps_if (pt_not (pt_val (pcB (o_all (K := K)) rfl T.n_all (by kernel_rfl) (pa1 (pe_lcomp (N' := ["byte"]) (src := [none]) rfl (CompScope.of (by kernel_rfl)) (pi_listK (K := K) (pv 1)) (fun _ _ _ _ _ _ => (pg_name (i := 0) (show (["byte"] : List Str).Nodup by decide +kernel) rfl (Or.inl rfl))) (fun _ _ _ _ _ _ => pif_nil) (fun _ _ _ _ _ _ => (pc1 T.d_is_byte (ok_is_byte T) (hr.mono (by decide)) (pa1 (pv 0) pa_nil)))) pa_nil)))) (pss_one (ps_raise (fun I mk q => made1 I mk q) rfl rfl T.m_BadBytes T.e_BadBytes (pa1 pe_str pa_nil))) pss_nil)
      (pss_one (ps_ret (pv 1)))))), ?_⟩
    rw [show start ["thing", "row"] [x] = [some (x), none] from rfl]
    simp only [tSeq, tIfS, tRet, tRetN, tC, tVar, tOp, tUn, tTest, tB, tAnd, tOr, tNot, tAndV, tOrV, tNotV, tIf, tChain, tCons, tNil, tCall, tCB, tLst, tTup, tSl, tNoPart, tPart, gName, tNext, tDrop, tAsg, tAsgC, tBM, tYes, tDNewK, rI, rI0, rU, rEq, rNe, rAbs, rIntT, CDiv, add_ii, add_ss, mul_ii, mul_si, ix_si, eq_ii, eq_ss, eq_bb, ne_ii, ne_ss, ne_ni, ne_in, in_s1, notin_s1, is_xn, is_bb, isnot_xn, isnot_bb, sl_s, len_s, find_ss, index_ss, List.append_nil, List.cons_append, List.nil_append, List.getElem?_cons_succ, List.getElem?_cons_zero, List.set_cons_succ, List.set_cons_zero, Option.some.injEq, V.int.injEq, V.bl.injEq, V.str.injEq, V.ref.injEq, V.ty.injEq, List.cons.injEq, and_true, true_and, exists_eq_left, exists_eq_left', exists_and_left, exists_eq', exists_const, exists_and_right, exists_eq_right, exists_eq_right', reduceCtorEq, false_and, and_false, exists_false, or_false, false_or, decide_eq_true_eq, Bool.not_eq_true', decide_eq_false_iff_not, Bool.false_eq_true, if_false, if_true, mk_app, mk_len, sg_mk, mk_one, decide_true, decide_false, Bool.not_true, Bool.not_false, ite_true, ite_false, not_true_eq_false, not_false_eq_true, cxK, cutTo1, cutFrom1, mk_iff, tyV_str, stComp, List.map_cons, List.map_nil, Option.join_some, Option.join_none, gt_iff_lt, ge_iff_le, tRaise, tTryR, tCallH, tDisp, tPairs, gSub, CPow]
    rcases h with ⟨a, xs, rfl, ha, hk, hlen, q1, q2⟩ | ⟨hn, q⟩
    · refine isi_l ha ?_
      simp only [tSeq, tIfS, tRet, tRetN, tC, tVar, tOp, tUn, tTest, tB, tAnd, tOr, tNot, tAndV, tOrV, tNotV, tIf, tChain, tCons, tNil, tCall, tCB, tLst, tTup, tSl, tNoPart, tPart, gName, tNext, tDrop, tAsg, tAsgC, tBM, tYes, tDNewK, rI, rI0, rU, rEq, rNe, rAbs, rIntT, CDiv, add_ii, add_ss, mul_ii, mul_si, ix_si, eq_ii, eq_ss, eq_bb, ne_ii, ne_ss, ne_ni, ne_in, in_s1, notin_s1, is_xn, is_bb, isnot_xn, isnot_bb, sl_s, len_s, find_ss, index_ss, List.append_nil, List.cons_append, List.nil_append, List.getElem?_cons_succ, List.getElem?_cons_zero, List.set_cons_succ, List.set_cons_zero, Option.some.injEq, V.int.injEq, V.bl.injEq, V.str.injEq, V.ref.injEq, V.ty.injEq, List.cons.injEq, and_true, true_and, exists_eq_left, exists_eq_left', exists_and_left, exists_eq', exists_const, exists_and_right, exists_eq_right, exists_eq_right', reduceCtorEq, false_and, and_false, exists_false, or_false, false_or, decide_eq_true_eq, Bool.not_eq_true', decide_eq_false_iff_not, Bool.false_eq_true, if_false, if_true, mk_app, mk_len, sg_mk, mk_one, decide_true, decide_false, Bool.not_true, Bool.not_false, ite_true, ite_false, not_true_eq_false, not_false_eq_true, cxK, cutTo1, cutFrom1, mk_iff, tyV_str, stComp, List.map_cons, List.map_nil, Option.join_some, Option.join_none, gt_iff_lt, ge_iff_le, tRaise, tTryR, tCallH, tDisp, tPairs, gSub, CPow]
      refine listL (SqL.of ha) fun l hl => ?_
      have s1 := Same.upd (Same.refl H) hl (o := .lst xs)
      refine tcomp_list (a := l) (xs := xs) (upd H l (.lst xs)) (fun R r => ⟨_, rfl, r⟩) (SqL.of upd_same) (fun v => [V.bl (numUp v 255)]) (· = upd H l (.lst xs)) rfl rfl (fun H' e => by rw [e]; exact SqL.of upd_same) (sl1000 (by omega)) (fun i x H' Cy Cn hx e cy cn => ?_) (fun H' r e hr => ?_)
      · subst H'
        simp only [tSeq, tIfS, tRet, tRetN, tC, tVar, tOp, tUn, tTest, tB, tAnd, tOr, tNot, tAndV, tOrV, tNotV, tIf, tChain, tCons, tNil, tCall, tCB, tLst, tTup, tSl, tNoPart, tPart, gName, tNext, tDrop, tAsg, tAsgC, tBM, tYes, tDNewK, rI, rI0, rU, rEq, rNe, rAbs, rIntT, CDiv, add_ii, add_ss, mul_ii, mul_si, ix_si, eq_ii, eq_ss, eq_bb, ne_ii, ne_ss, ne_ni, ne_in, in_s1, notin_s1, is_xn, is_bb, isnot_xn, isnot_bb, sl_s, len_s, find_ss, index_ss, List.append_nil, List.cons_append, List.nil_append, List.getElem?_cons_succ, List.getElem?_cons_zero, List.set_cons_succ, List.set_cons_zero, Option.some.injEq, V.int.injEq, V.bl.injEq, V.str.injEq, V.ref.injEq, V.ty.injEq, List.cons.injEq, and_true, true_and, exists_eq_left, exists_eq_left', exists_and_left, exists_eq', exists_const, exists_and_right, exists_eq_right, exists_eq_right', reduceCtorEq, false_and, and_false, exists_false, or_false, false_or, decide_eq_true_eq, Bool.not_eq_true', decide_eq_false_iff_not, Bool.false_eq_true, if_false, if_true, mk_app, mk_len, sg_mk, mk_one, decide_true, decide_false, Bool.not_true, Bool.not_false, ite_true, ite_false, not_true_eq_false, not_false_eq_true, cxK, cutTo1, cutFrom1, mk_iff, tyV_str, stComp, List.map_cons, List.map_nil, Option.join_some, Option.join_none, gt_iff_lt, ge_iff_le, tRaise, tTryR, tCallH, tDisp, tPairs, gSub, CPow]
        exact ⟨x, rfl, (hk x (List.mem_of_getElem? hx)).same s1, cy _ _ rfl rfl⟩
      · subst H'
        refine allL (bs := xs.map (numUp · 255)) (SqL.of (by rw [upd_same, all_map])) ⟨_, rfl, ?_⟩
        rw [List.all_map]
        have s2 := Same.upd (Same.refl (upd H l (.lst xs))) hr (o := .lst (xs.flatMap (fun v => [V.bl (numUp v 255)])))
        cases hb : xs.all (numUp · 255) with
        | true =>
          rw [show (xs.all (id ∘ fun x => numUp x 255)) = true from hb]
          exact q1 hb l _ hl s2
        | false =>
          rw [show (xs.all (id ∘ fun x => numUp x 255)) = false from hb]
          exact ⟨sl1000 (by simp), q2 hb _ (s1.trans s2)⟩
    · refine isi_nl hn ?_
      simp only [tSeq, tIfS, tRet, tRetN, tC, tVar, tOp, tUn, tTest, tB, tAnd, tOr, tNot, tAndV, tOrV, tNotV, tIf, tChain, tCons, tNil, tCall, tCB, tLst, tTup, tSl, tNoPart, tPart, gName, tNext, tDrop, tAsg, tAsgC, tBM, tYes, tDNewK, rI, rI0, rU, rEq, rNe, rAbs, rIntT, CDiv, add_ii, add_ss, mul_ii, mul_si, ix_si, eq_ii, eq_ss, eq_bb, ne_ii, ne_ss, ne_ni, ne_in, in_s1, notin_s1, is_xn, is_bb, isnot_xn, isnot_bb, sl_s, len_s, find_ss, index_ss, List.append_nil, List.cons_append, List.nil_append, List.getElem?_cons_succ, List.getElem?_cons_zero, List.set_cons_succ, List.set_cons_zero, Option.some.injEq, V.int.injEq, V.bl.injEq, V.str.injEq, V.ref.injEq, V.ty.injEq, List.cons.injEq, and_true, true_and, exists_eq_left, exists_eq_left', exists_and_left, exists_eq', exists_const, exists_and_right, exists_eq_right, exists_eq_right', reduceCtorEq, false_and, and_false, exists_false, or_false, false_or, decide_eq_true_eq, Bool.not_eq_true', decide_eq_false_iff_not, Bool.false_eq_true, if_false, if_true, mk_app, mk_len, sg_mk, mk_one, decide_true, decide_false, Bool.not_true, Bool.not_false, ite_true, ite_false, not_true_eq_false, not_false_eq_true, cxK, cutTo1, cutFrom1, mk_iff, tyV_str, stComp, List.map_cons, List.map_nil, Option.join_some, Option.join_none, gt_iff_lt, ge_iff_le, tRaise, tTryR, tCallH, tDisp, tPairs, gSub, CPow]
      exact ⟨sl1000 (by simp), q⟩
noncomputable def sp_two_of : Sp := fun vs H Q E => ∃ n, vs = [.int n] ∧ ∀ l, H l = none → Q (.ref l) (upd H l (.lst [.int (n / 256), .int (n % 256)]))
theorem sc_two_of : FnScope ["number"] ["number"] (defScope s_two_of) := ⟨rfl, rfl, rfl, by decide +kernel, rfl, by decide +kernel, by decide +kernel⟩
theorem ok_two_of (T : Txt K mg) : FnOk P w K mg base CX0 1 T.d_two_of.f T.d_two_of.fd ["number"] (sp_two_of) := by
  have nd := sc_two_of.nd
  refine T.d_two_of.F.ok sc_two_of (fun vs H Q E h => ?_) (fun cdv A outer s H vs Q E hr h => ?_)
  · obtain ⟨n, rfl, q⟩ := h
    rfl
  · obtain ⟨n, rfl, q⟩ := h
    have hu := hr.units0
    refine ⟨_, (pss_one (ps_ret (pe_lst (pa1 (pe_op op_fdiv (pv 0) pe_int) (pa1 (pe_op op_mod (pv 0) pe_int) pa_nil))))), ?_⟩
    rw [show start ["number"] [V.int n] = [some (V.int n)] from rfl]
    simp only [tSeq, tIfS, tRet, tRetN, tC, tVar, tOp, tUn, tTest, tB, tAnd, tOr, tNot, tAndV, tOrV, tNotV, tIf, tChain, tCons, tNil, tCall, tCB, tLst, tTup, tSl, tNoPart, tPart, gName, tNext, tDrop, tAsg, tAsgC, tBM, tYes, tDNewK, rI, rI0, rU, rEq, rNe, rAbs, rIntT, CDiv, add_ii, add_ss, mul_ii, mul_si, ix_si, eq_ii, eq_ss, eq_bb, ne_ii, ne_ss, ne_ni, ne_in, in_s1, notin_s1, is_xn, is_bb, isnot_xn, isnot_bb, sl_s, len_s, find_ss, index_ss, List.append_nil, List.cons_append, List.nil_append, List.getElem?_cons_succ, List.getElem?_cons_zero, List.set_cons_succ, List.set_cons_zero, Option.some.injEq, V.int.injEq, V.bl.injEq, V.str.injEq, V.ref.injEq, V.ty.injEq, List.cons.injEq, and_true, true_and, exists_eq_left, exists_eq_left', exists_and_left, exists_eq', exists_const, exists_and_right, exists_eq_right, exists_eq_right', reduceCtorEq, false_and, and_false, exists_false, or_false, false_or, decide_eq_true_eq, Bool.not_eq_true', decide_eq_false_iff_not, Bool.false_eq_true, if_false, if_true, mk_app, mk_len, sg_mk, mk_one, decide_true, decide_false, Bool.not_true, Bool.not_false, ite_true, ite_false, not_true_eq_false, not_false_eq_true, cxK, cutTo1, cutFrom1, mk_iff, tyV_str, stComp, List.map_cons, List.map_nil, Option.join_some, Option.join_none, gt_iff_lt, ge_iff_le, tRaise, tTryR, tCallH, tDisp, tPairs, gSub, CPow]
    exact ⟨⟨by decide, by decide⟩, by decide, by show 2 ≤ sizeLine; exact sl1000 (by decide), q⟩
noncomputable def sp_word_in (K : PySem.W.Frag) : Sp := fun vs H Q E => ∃ a xs p u v, vs = [.ref a, .int p] ∧ SqL K H a xs ∧ atI xs p = some (.int u) ∧ atI xs (p + 1) = some (.int v) ∧ Q (.int (u * 256 + v)) H
theorem sc_word_in : FnScope ["row", "place"] ["row", "place"] (defScope s_word_in) := ⟨rfl, rfl, rfl, by decide +kernel, rfl, by decide +kernel, by decide +kernel⟩
theorem ok_word_in (T : Txt K mg) : FnOk P w K mg base CX0 1 T.d_word_in.f T.d_word_in.fd ["row", "place"] (sp_word_in K) := by
  have nd := sc_word_in.nd
  refine T.d_word_in.F.ok sc_word_in (fun vs H Q E h => ?_) (fun cdv A outer s H vs Q E hr h => ?_)
  · obtain ⟨a, xs, p, u, v, rfl, hq, e1, e2, q⟩ := h
    rfl
  · obtain ⟨a, xs, p, u, v, rfl, hq, e1, e2, q⟩ := h
    have hu := hr.units0
    refine ⟨_, (pss_one (ps_ret (pe_op o_add (pe_op o_mul (pe_ix (o_ix (K := K)) (pv 0) (pv 1) (fun _ _ => rfl)) pe_int) (pe_ix (o_ix (K := K)) (pv 0) (pe_op o_add (pv 1) pe_int) (fun _ _ => rfl))))), ?_⟩
    rw [show start ["row", "place"] [V.ref a, V.int p] = [some (V.ref a), some (V.int p)] from rfl]
    simp only [tSeq, tIfS, tRet, tRetN, tC, tVar, tOp, tUn, tTest, tB, tAnd, tOr, tNot, tAndV, tOrV, tNotV, tIf, tChain, tCons, tNil, tCall, tCB, tLst, tTup, tSl, tNoPart, tPart, gName, tNext, tDrop, tAsg, tAsgC, tBM, tYes, tDNewK, rI, rI0, rU, rEq, rNe, rAbs, rIntT, CDiv, add_ii, add_ss, mul_ii, mul_si, ix_si, eq_ii, eq_ss, eq_bb, ne_ii, ne_ss, ne_ni, ne_in, in_s1, notin_s1, is_xn, is_bb, isnot_xn, isnot_bb, sl_s, len_s, find_ss, index_ss, List.append_nil, List.cons_append, List.nil_append, List.getElem?_cons_succ, List.getElem?_cons_zero, List.set_cons_succ, List.set_cons_zero, Option.some.injEq, V.int.injEq, V.bl.injEq, V.str.injEq, V.ref.injEq, V.ty.injEq, List.cons.injEq, and_true, true_and, exists_eq_left, exists_eq_left', exists_and_left, exists_eq', exists_const, exists_and_right, exists_eq_right, exists_eq_right', reduceCtorEq, false_and, and_false, exists_false, or_false, false_or, decide_eq_true_eq, Bool.not_eq_true', decide_eq_false_iff_not, Bool.false_eq_true, if_false, if_true, mk_app, mk_len, sg_mk, mk_one, decide_true, decide_false, Bool.not_true, Bool.not_false, ite_true, ite_false, not_true_eq_false, not_false_eq_true, cxK, cutTo1, cutFrom1, mk_iff, tyV_str, stComp, List.map_cons, List.map_nil, Option.join_some, Option.join_none, gt_iff_lt, ge_iff_le, tRaise, tTryR, tCallH, tDisp, tPairs, gSub, CPow]
    refine ixL hq e1 ?_
    simp only [tSeq, tIfS, tRet, tRetN, tC, tVar, tOp, tUn, tTest, tB, tAnd, tOr, tNot, tAndV, tOrV, tNotV, tIf, tChain, tCons, tNil, tCall, tCB, tLst, tTup, tSl, tNoPart, tPart, gName, tNext, tDrop, tAsg, tAsgC, tBM, tYes, tDNewK, rI, rI0, rU, rEq, rNe, rAbs, rIntT, CDiv, add_ii, add_ss, mul_ii, mul_si, ix_si, eq_ii, eq_ss, eq_bb, ne_ii, ne_ss, ne_ni, ne_in, in_s1, notin_s1, is_xn, is_bb, isnot_xn, isnot_bb, sl_s, len_s, find_ss, index_ss, List.append_nil, List.cons_append, List.nil_append, List.getElem?_cons_succ, List.getElem?_cons_zero, List.set_cons_succ, List.set_cons_zero, Option.some.injEq, V.int.injEq, V.bl.injEq, V.str.injEq, V.ref.injEq, V.ty.injEq, List.cons.injEq, and_true, true_and, exists_eq_left, exists_eq_left', exists_and_left, exists_eq', exists_const, exists_and_right, exists_eq_right, exists_eq_right', reduceCtorEq, false_and, and_false, exists_false, or_false, false_or, decide_eq_true_eq, Bool.not_eq_true', decide_eq_false_iff_not, Bool.false_eq_true, if_false, if_true, mk_app, mk_len, sg_mk, mk_one, decide_true, decide_false, Bool.not_true, Bool.not_false, ite_true, ite_false, not_true_eq_false, not_false_eq_true, cxK, cutTo1, cutFrom1, mk_iff, tyV_str, stComp, List.map_cons, List.map_nil, Option.join_some, Option.join_none, gt_iff_lt, ge_iff_le, tRaise, tTryR, tCallH, tDisp, tPairs, gSub, CPow]
    refine ⟨.inr ⟨by decide, by decide⟩, ixL hq e2 ?_⟩
    simp only [tSeq, tIfS, tRet, tRetN, tC, tVar, tOp, tUn, tTest, tB, tAnd, tOr, tNot, tAndV, tOrV, tNotV, tIf, tChain, tCons, tNil, tCall, tCB, tLst, tTup, tSl, tNoPart, tPart, gName, tNext, tDrop, tAsg, tAsgC, tBM, tYes, tDNewK, rI, rI0, rU, rEq, rNe, rAbs, rIntT, CDiv, add_ii, add_ss, mul_ii, mul_si, ix_si, eq_ii, eq_ss, eq_bb, ne_ii, ne_ss, ne_ni, ne_in, in_s1, notin_s1, is_xn, is_bb, isnot_xn, isnot_bb, sl_s, len_s, find_ss, index_ss, List.append_nil, List.cons_append, List.nil_append, List.getElem?_cons_succ, List.getElem?_cons_zero, List.set_cons_succ, List.set_cons_zero, Option.some.injEq, V.int.injEq, V.bl.injEq, V.str.injEq, V.ref.injEq, V.ty.injEq, List.cons.injEq, and_true, true_and, exists_eq_left, exists_eq_left', exists_and_left, exists_eq', exists_const, exists_and_right, exists_eq_right, exists_eq_right', reduceCtorEq, false_and, and_false, exists_false, or_false, false_or, decide_eq_true_eq, Bool.not_eq_true', decide_eq_false_iff_not, Bool.false_eq_true, if_false, if_true, mk_app, mk_len, sg_mk, mk_one, decide_true, decide_false, Bool.not_true, Bool.not_false, ite_true, ite_false, not_true_eq_false, not_false_eq_true, cxK, cutTo1, cutFrom1, mk_iff, tyV_str, stComp, List.map_cons, List.map_nil, Option.join_some, Option.join_none, gt_iff_lt, ge_iff_le, tRaise, tTryR, tCallH, tDisp, tPairs, gSub, CPow]
    exact q
noncomputable def sp_one_bit_left : Sp := fun vs H Q E => ∃ c : W, vs = [.int (c.toNat : Int)] ∧ Q (.int ((S c).toNat : Int)) H
theorem sc_one_bit_left : FnScope ["check", "moved"] ["check"] (defScope s_one_bit_left) := ⟨rfl, rfl, rfl, by decide +kernel, rfl, by decide +kernel, by decide +kernel⟩
theorem ok_one_bit_left (T : Txt K mg) : FnOk P w K mg base CX0 1 T.d_one_bit_left.f T.d_one_bit_left.fd ["check"] (sp_one_bit_left) := by
  have nd := sc_one_bit_left.nd
  refine T.d_one_bit_left.F.ok sc_one_bit_left (fun vs H Q E h => ?_) (fun cdv A outer s H vs Q E hr h => ?_)
  · obtain ⟨c, rfl, q⟩ := h
    rfl
  · obtain ⟨c, rfl, q⟩ := h
    have hu := hr.units0
    refine ⟨_, (pss_cons (ps_set (i := 1) nd rfl (Or.inl rfl) (pe_op o_mul (pv 0) pe_int))
      (pss_cons (ps_if (pt_cmpR op_lt (pv 1) pe_int (nomark _)) (pss_one (ps_ret (pv 1))) pss_nil)
      (pss_one (ps_ret (pe_op op_xor (pe_op op_sub (pv 1) pe_int) (pe_gl rfl T.c_LAID_OVER)))))), ?_⟩
    rw [show start ["check", "moved"] [V.int (c.toNat : Int)] = [some (V.int (c.toNat : Int)), none] from rfl]
    simp only [tSeq, tIfS, tRet, tRetN, tC, tVar, tOp, tUn, tTest, tB, tAnd, tOr, tNot, tAndV, tOrV, tNotV, tIf, tChain, tCons, tNil, tCall, tCB, tLst, tTup, tSl, tNoPart, tPart, gName, tNext, tDrop, tAsg, tAsgC, tBM, tYes, tDNewK, rI, rI0, rU, rEq, rNe, rAbs, rIntT, CDiv, add_ii, add_ss, mul_ii, mul_si, ix_si, eq_ii, eq_ss, eq_bb, ne_ii, ne_ss, ne_ni, ne_in, in_s1, notin_s1, is_xn, is_bb, isnot_xn, isnot_bb, sl_s, len_s, find_ss, index_ss, List.append_nil, List.cons_append, List.nil_append, List.getElem?_cons_succ, List.getElem?_cons_zero, List.set_cons_succ, List.set_cons_zero, Option.some.injEq, V.int.injEq, V.bl.injEq, V.str.injEq, V.ref.injEq, V.ty.injEq, List.cons.injEq, and_true, true_and, exists_eq_left, exists_eq_left', exists_and_left, exists_eq', exists_const, exists_and_right, exists_eq_right, exists_eq_right', reduceCtorEq, false_and, and_false, exists_false, or_false, false_or, decide_eq_true_eq, Bool.not_eq_true', decide_eq_false_iff_not, Bool.false_eq_true, if_false, if_true, mk_app, mk_len, sg_mk, mk_one, decide_true, decide_false, Bool.not_true, Bool.not_false, ite_true, ite_false, not_true_eq_false, not_false_eq_true, cxK, cutTo1, cutFrom1, mk_iff, tyV_str, stComp, List.map_cons, List.map_nil, Option.join_some, Option.join_none, gt_iff_lt, ge_iff_le, tRaise, tTryR, tCallH, tDisp, tPairs, gSub, CPow]
    rw [obl_S] at q
    by_cases h : (c.toNat : Int) * 2 < 65536
    · rw [if_pos h] at q ⊢
      exact ⟨.inr ⟨by omega, by omega⟩, q⟩
    · rw [if_neg h] at q ⊢
      exact ⟨.inr ⟨by omega, by omega⟩, q⟩
noncomputable def sp_check_of (K : PySem.W.Frag) : Sp := fun vs H Q E => ∃ (a : Addr) (ns : List Int), vs = [.ref a] ∧ SqL K H a (ns.map V.int) ∧ IsB ns ∧ Q (.int ((crc ns).toNat : Int)) H
theorem sc_check_of : FnScope ["row", "check", "byte", "turn"] ["row"] (defScope s_check_of) := ⟨rfl, rfl, rfl, by decide +kernel, rfl, by decide +kernel, by decide +kernel⟩
theorem ok_check_of (T : Txt K mg) : FnOk P w K mg base CX0 2 T.d_check_of.f T.d_check_of.fd ["row"] (sp_check_of K) := by
  have nd := sc_check_of.nd
  refine T.d_check_of.F.ok sc_check_of (fun vs H Q E h => ?_) (fun cdv A outer s H vs Q E hr h => ?_)
  · obtain ⟨a, ns, rfl, hq, hb, q⟩ := h
    rfl
  · obtain ⟨a, ns, rfl, hq, hb, q⟩ := h
    have hu := hr.units0
    refine ⟨_, (pss_cons (ps_set (i := 1) nd rfl (Or.inl rfl) (pe_gl rfl T.c_FIRST_CHECK))
      (pss_cons (ps_for PassesOwn.never rfl (pi_listK (K := K) (pv 0)) (pg_name (i := 2) nd rfl (Or.inl rfl))
        (pss_cons (ps_set (i := 1) nd rfl (Or.inl rfl) (pe_op op_xor (pv 1) (pe_op o_mul (pv 2) pe_int)))
      (pss_one (ps_for PassesOwn.never rfl (pi_range1 rfl T.n_range (pa1 pe_int pa_nil)) (pg_name (i := 3) nd rfl (Or.inl rfl))
        (pss_one (ps_set (i := 1) nd rfl (Or.inl rfl) (pc1 T.d_one_bit_left (ok_one_bit_left T) (hr.mono (by decide)) (pa1 (pv 1) pa_nil))))))))
      (pss_one (ps_ret (pv 1))))), ?_⟩
    rw [show start ["row", "check", "byte", "turn"] [V.ref a] = [some (V.ref a), none, none, none] from rfl]
    simp only [tSeq, tIfS, tRet, tRetN, tC, tVar, tOp, tUn, tTest, tB, tAnd, tOr, tNot, tAndV, tOrV, tNotV, tIf, tChain, tCons, tNil, tCall, tCB, tLst, tTup, tSl, tNoPart, tPart, gName, tNext, tDrop, tAsg, tAsgC, tBM, tYes, tDNewK, rI, rI0, rU, rEq, rNe, rAbs, rIntT, CDiv, add_ii, add_ss, mul_ii, mul_si, ix_si, eq_ii, eq_ss, eq_bb, ne_ii, ne_ss, ne_ni, ne_in, in_s1, notin_s1, is_xn, is_bb, isnot_xn, isnot_bb, sl_s, len_s, find_ss, index_ss, List.append_nil, List.cons_append, List.nil_append, List.getElem?_cons_succ, List.getElem?_cons_zero, List.set_cons_succ, List.set_cons_zero, Option.some.injEq, V.int.injEq, V.bl.injEq, V.str.injEq, V.ref.injEq, V.ty.injEq, List.cons.injEq, and_true, true_and, exists_eq_left, exists_eq_left', exists_and_left, exists_eq', exists_const, exists_and_right, exists_eq_right, exists_eq_right', reduceCtorEq, false_and, and_false, exists_false, or_false, false_or, decide_eq_true_eq, Bool.not_eq_true', decide_eq_false_iff_not, Bool.false_eq_true, if_false, if_true, mk_app, mk_len, sg_mk, mk_one, decide_true, decide_false, Bool.not_true, Bool.not_false, ite_true, ite_false, not_true_eq_false, not_false_eq_true, cxK, cutTo1, cutFrom1, mk_iff, tyV_str, stComp, List.map_cons, List.map_nil, Option.join_some, Option.join_none, gt_iff_lt, ge_iff_le, tRaise, tTryR, tCallH, tDisp, tPairs, gSub, CPow]
    refine tfor_list (a := a) (xs := ns.map V.int) (fun R r => ⟨_, rfl, r⟩) hq (fun i σ H' => H' = H ∧ ∃ v1 v2, σ = [some (V.ref a), some (V.int ((crc (ns.take i)).toNat : Int)), v1, v2]) ⟨rfl, none, none, rfl⟩ (fun i σ H' p => by rw [p.1]; exact hq) ?_ ?_
    · rintro i x σ H' hx ⟨e0, v1, v2, rfl⟩
      subst H'
      rw [List.getElem?_map] at hx
      cases e : ns[i]? with
      | none => rw [e] at hx; cases hx
      | some n =>
        rw [e] at hx
        cases hx
        have hn := hb n (List.mem_of_getElem? e)
        simp only [tSeq, tIfS, tRet, tRetN, tC, tVar, tOp, tUn, tTest, tB, tAnd, tOr, tNot, tAndV, tOrV, tNotV, tIf, tChain, tCons, tNil, tCall, tCB, tLst, tTup, tSl, tNoPart, tPart, gName, tNext, tDrop, tAsg, tAsgC, tBM, tYes, tDNewK, rI, rI0, rU, rEq, rNe, rAbs, rIntT, CDiv, add_ii, add_ss, mul_ii, mul_si, ix_si, eq_ii, eq_ss, eq_bb, ne_ii, ne_ss, ne_ni, ne_in, in_s1, notin_s1, is_xn, is_bb, isnot_xn, isnot_bb, sl_s, len_s, find_ss, index_ss, List.append_nil, List.cons_append, List.nil_append, List.getElem?_cons_succ, List.getElem?_cons_zero, List.set_cons_succ, List.set_cons_zero, Option.some.injEq, V.int.injEq, V.bl.injEq, V.str.injEq, V.ref.injEq, V.ty.injEq, List.cons.injEq, and_true, true_and, exists_eq_left, exists_eq_left', exists_and_left, exists_eq', exists_const, exists_and_right, exists_eq_right, exists_eq_right', reduceCtorEq, false_and, and_false, exists_false, or_false, false_or, decide_eq_true_eq, Bool.not_eq_true', decide_eq_false_iff_not, Bool.false_eq_true, if_false, if_true, mk_app, mk_len, sg_mk, mk_one, decide_true, decide_false, Bool.not_true, Bool.not_false, ite_true, ite_false, not_true_eq_false, not_false_eq_true, cxK, cutTo1, cutFrom1, mk_iff, tyV_str, stComp, List.map_cons, List.map_nil, Option.join_some, Option.join_none, gt_iff_lt, ge_iff_le, tRaise, tTryR, tCallH, tDisp, tPairs, gSub, CPow]
        refine ⟨.inr ⟨by decide, by decide⟩, ?_⟩
        rw [lay_hi _ hn.1 hn.2]
        refine tfor_rng 8 (by decide) (by decide) (fun R r => r) (fun j σ H' => H' = H ∧ ∃ v2, σ = [some (V.ref a), some (V.int ((Sn j (crc (ns.take i) ^^^ hi n)).toNat : Int)), some (V.int n), v2]) ⟨rfl, v2, rfl⟩ ?_ ?_
        · rintro j σ H' hj ⟨e0, v2, rfl⟩
          subst H'
          simp only [tSeq, tIfS, tRet, tRetN, tC, tVar, tOp, tUn, tTest, tB, tAnd, tOr, tNot, tAndV, tOrV, tNotV, tIf, tChain, tCons, tNil, tCall, tCB, tLst, tTup, tSl, tNoPart, tPart, gName, tNext, tDrop, tAsg, tAsgC, tBM, tYes, tDNewK, rI, rI0, rU, rEq, rNe, rAbs, rIntT, CDiv, add_ii, add_ss, mul_ii, mul_si, ix_si, eq_ii, eq_ss, eq_bb, ne_ii, ne_ss, ne_ni, ne_in, in_s1, notin_s1, is_xn, is_bb, isnot_xn, isnot_bb, sl_s, len_s, find_ss, index_ss, List.append_nil, List.cons_append, List.nil_append, List.getElem?_cons_succ, List.getElem?_cons_zero, List.set_cons_succ, List.set_cons_zero, Option.some.injEq, V.int.injEq, V.bl.injEq, V.str.injEq, V.ref.injEq, V.ty.injEq, List.cons.injEq, and_true, true_and, exists_eq_left, exists_eq_left', exists_and_left, exists_eq', exists_const, exists_and_right, exists_eq_right, exists_eq_right', reduceCtorEq, false_and, and_false, exists_false, or_false, false_or, decide_eq_true_eq, Bool.not_eq_true', decide_eq_false_iff_not, Bool.false_eq_true, if_false, if_true, mk_app, mk_len, sg_mk, mk_one, decide_true, decide_false, Bool.not_true, Bool.not_false, ite_true, ite_false, not_true_eq_false, not_false_eq_true, cxK, cutTo1, cutFrom1, mk_iff, tyV_str, stComp, List.map_cons, List.map_nil, Option.join_some, Option.join_none, gt_iff_lt, ge_iff_le, tRaise, tTryR, tCallH, tDisp, tPairs, gSub, CPow]
          exact ⟨_, rfl, rfl, by rw [Sn_snoc]⟩
        · rintro σ H' ⟨e0, v2, rfl⟩
          subst H'
          refine ⟨rfl, some (V.int n), v2, ?_⟩
          rw [show (8 : Int).toNat = 8 from rfl, byte_run _ hn.1 hn.2, ← crc_snoc, List.take_add_one, e]
          rfl
    · rintro σ H' ⟨rfl, v1, v2, rfl⟩
      simp only [tSeq, tIfS, tRet, tRetN, tC, tVar, tOp, tUn, tTest, tB, tAnd, tOr, tNot, tAndV, tOrV, tNotV, tIf, tChain, tCons, tNil, tCall, tCB, tLst, tTup, tSl, tNoPart, tPart, gName, tNext, tDrop, tAsg, tAsgC, tBM, tYes, tDNewK, rI, rI0, rU, rEq, rNe, rAbs, rIntT, CDiv, add_ii, add_ss, mul_ii, mul_si, ix_si, eq_ii, eq_ss, eq_bb, ne_ii, ne_ss, ne_ni, ne_in, in_s1, notin_s1, is_xn, is_bb, isnot_xn, isnot_bb, sl_s, len_s, find_ss, index_ss, List.append_nil, List.cons_append, List.nil_append, List.getElem?_cons_succ, List.getElem?_cons_zero, List.set_cons_succ, List.set_cons_zero, Option.some.injEq, V.int.injEq, V.bl.injEq, V.str.injEq, V.ref.injEq, V.ty.injEq, List.cons.injEq, and_true, true_and, exists_eq_left, exists_eq_left', exists_and_left, exists_eq', exists_const, exists_and_right, exists_eq_right, exists_eq_right', reduceCtorEq, false_and, and_false, exists_false, or_false, false_or, decide_eq_true_eq, Bool.not_eq_true', decide_eq_false_iff_not, Bool.false_eq_true, if_false, if_true, mk_app, mk_len, sg_mk, mk_one, decide_true, decide_false, Bool.not_true, Bool.not_false, ite_true, ite_false, not_true_eq_false, not_false_eq_true, cxK, cutTo1, cutFrom1, mk_iff, tyV_str, stComp, List.map_cons, List.map_nil, Option.join_some, Option.join_none, gt_iff_lt, ge_iff_le, tRaise, tTryR, tCallH, tDisp, tPairs, gSub, CPow]
      rw [List.length_map, List.take_length]
      exact q
noncomputable def sp_sealed (K : PySem.W.Frag) : Sp := fun vs H Q E => ∃ (a : Addr) (ns : List Int), vs = [.ref a] ∧ SqL K H a (ns.map V.int) ∧ IsB ns ∧ ns.length ≤ 900 ∧ ∀ l H', H l = none → Same H H' → H' l = some (.lst ((ns ++ [((crc ns).toNat : Int) / 256, ((crc ns).toNat : Int) % 256]).map V.int)) → Q (.ref l) H'
theorem sc_sealed : FnScope ["row"] ["row"] (defScope s_sealed) := ⟨rfl, rfl, rfl, by decide +kernel, rfl, by decide +kernel, by decide +kernel⟩
theorem ok_sealed (T : Txt K mg) : FnOk P w K mg base CX0 3 T.d_sealed.f T.d_sealed.fd ["row"] (sp_sealed K) := by
  have nd := sc_sealed.nd
  refine T.d_sealed.F.ok sc_sealed (fun vs H Q E h => ?_) (fun cdv A outer s H vs Q E hr h => ?_)
  · obtain ⟨a, ns, rfl, hq, hb, hl, q⟩ := h
    rfl
  · obtain ⟨a, ns, rfl, hq, hb, hl, q⟩ := h
    have hu := hr.units0
    refine ⟨_, (pss_one (ps_ret (pe_op o_add (pcT (call_listK (K := K)) rfl T.n_list (by kernel_rfl) (pa1 (pv 0) pa_nil)) (pc1 T.d_two_of (ok_two_of T) (hr.mono (by decide)) (pa1 (pc1 T.d_check_of (ok_check_of T) (hr.mono (by decide)) (pa1 (pv 0) pa_nil)) pa_nil))))), ?_⟩
    rw [show start ["row"] [V.ref a] = [some (V.ref a)] from rfl]
    simp only [tSeq, tIfS, tRet, tRetN, tC, tVar, tOp, tUn, tTest, tB, tAnd, tOr, tNot, tAndV, tOrV, tNotV, tIf, tChain, tCons, tNil, tCall, tCB, tLst, tTup, tSl, tNoPart, tPart, gName, tNext, tDrop, tAsg, tAsgC, tBM, tYes, tDNewK, rI, rI0, rU, rEq, rNe, rAbs, rIntT, CDiv, add_ii, add_ss, mul_ii, mul_si, ix_si, eq_ii, eq_ss, eq_bb, ne_ii, ne_ss, ne_ni, ne_in, in_s1, notin_s1, is_xn, is_bb, isnot_xn, isnot_bb, sl_s, len_s, find_ss, index_ss, List.append_nil, List.cons_append, List.nil_append, List.getElem?_cons_succ, List.getElem?_cons_zero, List.set_cons_succ, List.set_cons_zero, Option.some.injEq, V.int.injEq, V.bl.injEq, V.str.injEq, V.ref.injEq, V.ty.injEq, List.cons.injEq, and_true, true_and, exists_eq_left, exists_eq_left', exists_and_left, exists_eq', exists_const, exists_and_right, exists_eq_right, exists_eq_right', reduceCtorEq, false_and, and_false, exists_false, or_false, false_or, decide_eq_true_eq, Bool.not_eq_true', decide_eq_false_iff_not, Bool.false_eq_true, if_false, if_true, mk_app, mk_len, sg_mk, mk_one, decide_true, decide_false, Bool.not_true, Bool.not_false, ite_true, ite_false, not_true_eq_false, not_false_eq_true, cxK, cutTo1, cutFrom1, mk_iff, tyV_str, stComp, List.map_cons, List.map_nil, Option.join_some, Option.join_none, gt_iff_lt, ge_iff_le, tRaise, tTryR, tCallH, tDisp, tPairs, gSub, CPow]
    refine listL hq fun l h1 => ?_
    have s1 := Same.upd (Same.refl H) h1 (o := .lst (ns.map V.int))
    refine ⟨a, ns, rfl, s1.seq hq, hb, ⟨_, rfl, fun l2 h2 => ?_⟩⟩
    have s2 := Same.upd s1 h2 (o := .lst [V.int (((crc ns).toNat : Int) / 256), V.int (((crc ns).toNat : Int) % 256)])
    have e1 := Same.upd (Same.refl _) h2 (o := .lst [V.int (((crc ns).toNat : Int) / 256), V.int (((crc ns).toNat : Int) % 256)]) l _ upd_same
    refine catL e1 upd_same (sl1000 (by simp; omega)) fun l3 h3 => q l3 _ (s2.no h3) (Same.upd s2 h3) ?_
    rw [upd_same, List.map_append]
    rfl
noncomputable def sp_opened (T : Txt K mg) : Sp := fun vs H Q E => ∃ x, vs = [x] ∧ ((NB K H x ∧ ∀ H', Same H H' → E (.ref T.x_BadBytes) none H') ∨ ∃ ns, BR H x ns ∧ (crc ns = 0#16 → ∀ l H', H l = none → Same H H' → H' l = some (.lst ((ns.take (ns.length - 2)).map V.int)) → Q (.ref l) H') ∧ (crc ns ≠ 0#16 → ∀ H', Same H H' → E (.ref T.x_BadCheck) none H'))
theorem sc_opened : FnScope ["row", "whole", "inner"] ["row"] (defScope s_opened) := ⟨rfl, rfl, rfl, by decide +kernel, rfl, by decide +kernel, by decide +kernel⟩
theorem ok_opened (T : Txt K mg) : FnOk P w K mg base (CX1 P w) 4 T.d_opened.f T.d_opened.fd ["row"] (sp_opened T) := by
  have nd := sc_opened.nd
  refine T.d_opened.F.ok1 sc_opened (fun vs H Q E h => ?_) (fun cdv A outer s H vs Q E hr h => ?_)
  · obtain ⟨x, rfl, h⟩ := h
    rfl
  · obtain ⟨x, rfl, h⟩ := h
    have hu := hr.units0
    refine ⟨_, (pss_cons (ps_set (i := 1) nd rfl (Or.inl rfl) (pcX T.d_need_bytes (ok_need_bytes T) (hr.mono (by decide)) pass1 (pa1 (pv 0) pa_nil)))
      (pss_cons (ps_if (pt_cmpR op_lt (pcB (o_len (K := K)) rfl T.n_len (by kernel_rfl) (pa1 (pv 1) pa_nil)) pe_int (nomark _)) (pss_one (ps_raise (fun I mk q => made1 I mk q) rfl rfl T.m_BadBytes T.e_BadBytes (pa1 pe_str pa_nil))) pss_nil)
      (pss_cons (ps_set (i := 2) nd rfl (Or.inl rfl) (pe_slice (o_sl (K := K)) (pv 1) po_none (po_some (pe_un un_neg pe_int))))
      (pss_cons (ps_if (pt_cmpR (o_ne (K := K) hu) (pc1 T.d_check_of (ok_check_of T) (hr.mono (by decide)) (pa1 (pv 2) pa_nil)) (pc1 T.d_word_in (ok_word_in T) (hr.mono (by decide)) (pa1 (pv 1) (pa1 (pcB (o_len (K := K)) rfl T.n_len (by kernel_rfl) (pa1 (pv 2) pa_nil)) pa_nil))) (nomark _)) (pss_one (ps_raise (fun I mk q => made1 I mk q) rfl rfl T.m_BadCheck T.e_BadCheck (pa1 pe_str pa_nil))) pss_nil)
      (pss_one (ps_ret (pv 2))))))), ?_⟩
    rw [show start ["row", "whole", "inner"] [x] = [some (x), none, none] from rfl]
    simp only [tSeq, tIfS, tRet, tRetN, tC, tVar, tOp, tUn, tTest, tB, tAnd, tOr, tNot, tAndV, tOrV, tNotV, tIf, tChain, tCons, tNil, tCall, tCB, tLst, tTup, tSl, tNoPart, tPart, gName, tNext, tDrop, tAsg, tAsgC, tBM, tYes, tDNewK, rI, rI0, rU, rEq, rNe, rAbs, rIntT, CDiv, add_ii, add_ss, mul_ii, mul_si, ix_si, eq_ii, eq_ss, eq_bb, ne_ii, ne_ss, ne_ni, ne_in, in_s1, notin_s1, is_xn, is_bb, isnot_xn, isnot_bb, sl_s, len_s, find_ss, index_ss, List.append_nil, List.cons_append, List.nil_append, List.getElem?_cons_succ, List.getElem?_cons_zero, List.set_cons_succ, List.set_cons_zero, Option.some.injEq, V.int.injEq, V.bl.injEq, V.str.injEq, V.ref.injEq, V.ty.injEq, List.cons.injEq, and_true, true_and, exists_eq_left, exists_eq_left', exists_and_left, exists_eq', exists_const, exists_and_right, exists_eq_right, exists_eq_right', reduceCtorEq, false_and, and_false, exists_false, or_false, false_or, decide_eq_true_eq, Bool.not_eq_true', decide_eq_false_iff_not, Bool.false_eq_true, if_false, if_true, mk_app, mk_len, sg_mk, mk_one, decide_true, decide_false, Bool.not_true, Bool.not_false, ite_true, ite_false, not_true_eq_false, not_false_eq_true, cxK, cutTo1, cutFrom1, mk_iff, tyV_str, stComp, List.map_cons, List.map_nil, Option.join_some, Option.join_none, gt_iff_lt, ge_iff_le, tRaise, tTryR, tCallH, tDisp, tPairs, gSub, CPow]
    rcases h with ⟨hn, q⟩ | ⟨ns, ⟨a, rfl, ha, hb, h2, h1000⟩, q1, q2⟩
    · refine ⟨x, rfl, ?_⟩
      rcases hn with ⟨a, xs, rfl, ha, hk, hlen, hbad⟩ | hn
      · refine .inl ⟨a, xs, rfl, ha, hk, hlen, fun hall l H' hl hs => ?_, fun _ H' hs => q H' hs⟩
        have h2 : xs.length < 2 := by
          rcases hbad with z | z
          · rw [hall] at z; cases z
          · exact z
        refine lenL (SqL.of (hs l _ upd_same)) ?_
        simp only [tSeq, tIfS, tRet, tRetN, tC, tVar, tOp, tUn, tTest, tB, tAnd, tOr, tNot, tAndV, tOrV, tNotV, tIf, tChain, tCons, tNil, tCall, tCB, tLst, tTup, tSl, tNoPart, tPart, gName, tNext, tDrop, tAsg, tAsgC, tBM, tYes, tDNewK, rI, rI0, rU, rEq, rNe, rAbs, rIntT, CDiv, add_ii, add_ss, mul_ii, mul_si, ix_si, eq_ii, eq_ss, eq_bb, ne_ii, ne_ss, ne_ni, ne_in, in_s1, notin_s1, is_xn, is_bb, isnot_xn, isnot_bb, sl_s, len_s, find_ss, index_ss, List.append_nil, List.cons_append, List.nil_append, List.getElem?_cons_succ, List.getElem?_cons_zero, List.set_cons_succ, List.set_cons_zero, Option.some.injEq, V.int.injEq, V.bl.injEq, V.str.injEq, V.ref.injEq, V.ty.injEq, List.cons.injEq, and_true, true_and, exists_eq_left, exists_eq_left', exists_and_left, exists_eq', exists_const, exists_and_right, exists_eq_right, exists_eq_right', reduceCtorEq, false_and, and_false, exists_false, or_false, false_or, decide_eq_true_eq, Bool.not_eq_true', decide_eq_false_iff_not, Bool.false_eq_true, if_false, if_true, mk_app, mk_len, sg_mk, mk_one, decide_true, decide_false, Bool.not_true, Bool.not_false, ite_true, ite_false, not_true_eq_false, not_false_eq_true, cxK, cutTo1, cutFrom1, mk_iff, tyV_str, stComp, List.map_cons, List.map_nil, Option.join_some, Option.join_none, gt_iff_lt, ge_iff_le, tRaise, tTryR, tCallH, tDisp, tPairs, gSub, CPow]
        rw [if_pos (by omega)]
        exact ⟨sl1000 (by simp), q H' ((Same.upd (Same.refl H) hl).trans hs)⟩
      · exact .inr ⟨hn, q H (Same.refl H)⟩
    · refine ⟨_, rfl, .inl ⟨a, ns.map V.int, rfl, ha, knw_ints, by rw [List.length_map]; omega, fun _ l H' hl hs => ?_, fun z => by rw [allB.mp hb] at z; cases z⟩⟩
      have el := hs l _ upd_same
      have s0 := (Same.upd (Same.refl H) hl).trans hs
      refine lenL (SqL.of el) ?_
      simp only [tSeq, tIfS, tRet, tRetN, tC, tVar, tOp, tUn, tTest, tB, tAnd, tOr, tNot, tAndV, tOrV, tNotV, tIf, tChain, tCons, tNil, tCall, tCB, tLst, tTup, tSl, tNoPart, tPart, gName, tNext, tDrop, tAsg, tAsgC, tBM, tYes, tDNewK, rI, rI0, rU, rEq, rNe, rAbs, rIntT, CDiv, add_ii, add_ss, mul_ii, mul_si, ix_si, eq_ii, eq_ss, eq_bb, ne_ii, ne_ss, ne_ni, ne_in, in_s1, notin_s1, is_xn, is_bb, isnot_xn, isnot_bb, sl_s, len_s, find_ss, index_ss, List.append_nil, List.cons_append, List.nil_append, List.getElem?_cons_succ, List.getElem?_cons_zero, List.set_cons_succ, List.set_cons_zero, Option.some.injEq, V.int.injEq, V.bl.injEq, V.str.injEq, V.ref.injEq, V.ty.injEq, List.cons.injEq, and_true, true_and, exists_eq_left, exists_eq_left', exists_and_left, exists_eq', exists_const, exists_and_right, exists_eq_right, exists_eq_right', reduceCtorEq, false_and, and_false, exists_false, or_false, false_or, decide_eq_true_eq, Bool.not_eq_true', decide_eq_false_iff_not, Bool.false_eq_true, if_false, if_true, mk_app, mk_len, sg_mk, mk_one, decide_true, decide_false, Bool.not_true, Bool.not_false, ite_true, ite_false, not_true_eq_false, not_false_eq_true, cxK, cutTo1, cutFrom1, mk_iff, tyV_str, stComp, List.map_cons, List.map_nil, Option.join_some, Option.join_none, gt_iff_lt, ge_iff_le, tRaise, tTryR, tCallH, tDisp, tPairs, gSub, CPow]
      rw [if_neg (by rw [List.length_map]; omega)]
      obtain ⟨u, v, euv⟩ := last2 h2
      obtain ⟨inn, einn⟩ : ∃ inn, inn = ns.take (ns.length - 2) := ⟨_, rfl⟩
      rw [← einn] at euv q1
      have hlen : ns.length = inn.length + 2 := by rw [euv]; simp
      have hi : IsB inn := fun n hn => hb n (by rw [euv]; simp [hn])
      have hu := hb u (by rw [euv]; simp)
      have hv := hb v (by rw [euv]; simp)
      have hcr := crc_sealed (l := inn) hu.1 hu.2 hv.1 hv.2
      rw [← euv] at hcr
      have ecut : cutL (ns.map V.int) none (some (-2)) = inn.map V.int := by
        rw [cut_m2 (by rw [List.length_map]; omega), List.length_map, einn, List.map_take]
      refine slL (SqL.of el) fun p hp => ?_
      rw [ecut]
      have s1 := Same.upd s0 hp (o := .lst (inn.map V.int))
      have el1 := Same.upd (Same.refl _) hp (o := .lst (inn.map V.int)) l _ el
      have g1 : (ns.map V.int)[inn.length]? = some (V.int u) := by rw [euv]; simp
      have g2 : (ns.map V.int)[inn.length + 1]? = some (V.int v) := by rw [euv]; simp
      refine ⟨p, inn, rfl, SqL.of upd_same, hi, lenL (SqL.of upd_same) ⟨l, ns.map V.int, _, u, v, rfl, SqL.of el1, ?_, ?_, ne_ii.mpr ⟨_, rfl, ?_⟩⟩⟩
      · rw [List.length_map]
        exact atIn (by omega) (by rw [Int.toNat_natCast]; exact g1)
      · rw [List.length_map]
        exact atIn (by omega) (by rw [show ((inn.length : Int) + 1).toNat = inn.length + 1 by omega]; exact g2)
      · by_cases hz : ((crc inn).toNat : Int) = u * 256 + v
        · rw [decide_eq_true hz]
          exact iteF (q1 (hcr.mpr hz) p _ (s0.no hp) s1 upd_same)
        · rw [decide_eq_false hz]
          exact iteT ⟨sl1000 (by simp), q2 (fun z => hz (hcr.mp z)) _ s1⟩
noncomputable def sp__law_cell (K : PySem.W.Frag) : Sp := fun vs H Q E => ∃ (a : Addr) (ns : List Int) (k : Int), vs = [.ref a, .int k] ∧ SqL K H a (ns.map V.int) ∧ 0 ≤ k ∧ Q (.int (cellF ns k)) H
theorem sc__law_cell : FnScope ["_law_script", "_law_k"] ["_law_script", "_law_k"] (defScope s__law_cell) := ⟨rfl, rfl, rfl, by decide +kernel, rfl, by decide +kernel, by decide +kernel⟩
theorem ok__law_cell (T : Txt K mg) : FnOk P w K mg base CX0 1 T.d__law_cell.f T.d__law_cell.fd ["_law_script", "_law_k"] (sp__law_cell K) := by
  have nd := sc__law_cell.nd
  refine T.d__law_cell.F.ok sc__law_cell (fun vs H Q E h => ?_) (fun cdv A outer s H vs Q E hr h => ?_)
  · obtain ⟨a, ns, k, rfl, hq, h0, q⟩ := h
    rfl
  · obtain ⟨a, ns, k, rfl, hq, h0, q⟩ := h
    have hu := hr.units0
    refine ⟨_, (pss_cons (ps_if (pt_cmpR op_lt (pv 1) (pcB (o_len (K := K)) rfl T.n_len (by kernel_rfl) (pa1 (pv 0) pa_nil)) (nomark _)) (pss_one (ps_ret (pe_ix (o_ix (K := K)) (pv 0) (pv 1) (fun _ _ => rfl)))) pss_nil)
      (pss_one (ps_ret pe_int))), ?_⟩
    rw [show start ["_law_script", "_law_k"] [V.ref a, V.int k] = [some (V.ref a), some (V.int k)] from rfl]
    simp only [tSeq, tIfS, tRet, tRetN, tC, tVar, tOp, tUn, tTest, tB, tAnd, tOr, tNot, tAndV, tOrV, tNotV, tIf, tChain, tCons, tNil, tCall, tCB, tLst, tTup, tSl, tNoPart, tPart, gName, tNext, tDrop, tAsg, tAsgC, tBM, tYes, tDNewK, rI, rI0, rU, rEq, rNe, rAbs, rIntT, CDiv, add_ii, add_ss, mul_ii, mul_si, ix_si, eq_ii, eq_ss, eq_bb, ne_ii, ne_ss, ne_ni, ne_in, in_s1, notin_s1, is_xn, is_bb, isnot_xn, isnot_bb, sl_s, len_s, find_ss, index_ss, List.append_nil, List.cons_append, List.nil_append, List.getElem?_cons_succ, List.getElem?_cons_zero, List.set_cons_succ, List.set_cons_zero, Option.some.injEq, V.int.injEq, V.bl.injEq, V.str.injEq, V.ref.injEq, V.ty.injEq, List.cons.injEq, and_true, true_and, exists_eq_left, exists_eq_left', exists_and_left, exists_eq', exists_const, exists_and_right, exists_eq_right, exists_eq_right', reduceCtorEq, false_and, and_false, exists_false, or_false, false_or, decide_eq_true_eq, Bool.not_eq_true', decide_eq_false_iff_not, Bool.false_eq_true, if_false, if_true, mk_app, mk_len, sg_mk, mk_one, decide_true, decide_false, Bool.not_true, Bool.not_false, ite_true, ite_false, not_true_eq_false, not_false_eq_true, cxK, cutTo1, cutFrom1, mk_iff, tyV_str, stComp, List.map_cons, List.map_nil, Option.join_some, Option.join_none, gt_iff_lt, ge_iff_le, tRaise, tTryR, tCallH, tDisp, tPairs, gSub, CPow]
    refine lenL hq ?_
    simp only [tSeq, tIfS, tRet, tRetN, tC, tVar, tOp, tUn, tTest, tB, tAnd, tOr, tNot, tAndV, tOrV, tNotV, tIf, tChain, tCons, tNil, tCall, tCB, tLst, tTup, tSl, tNoPart, tPart, gName, tNext, tDrop, tAsg, tAsgC, tBM, tYes, tDNewK, rI, rI0, rU, rEq, rNe, rAbs, rIntT, CDiv, add_ii, add_ss, mul_ii, mul_si, ix_si, eq_ii, eq_ss, eq_bb, ne_ii, ne_ss, ne_ni, ne_in, in_s1, notin_s1, is_xn, is_bb, isnot_xn, isnot_bb, sl_s, len_s, find_ss, index_ss, List.append_nil, List.cons_append, List.nil_append, List.getElem?_cons_succ, List.getElem?_cons_zero, List.set_cons_succ, List.set_cons_zero, Option.some.injEq, V.int.injEq, V.bl.injEq, V.str.injEq, V.ref.injEq, V.ty.injEq, List.cons.injEq, and_true, true_and, exists_eq_left, exists_eq_left', exists_and_left, exists_eq', exists_const, exists_and_right, exists_eq_right, exists_eq_right', reduceCtorEq, false_and, and_false, exists_false, or_false, false_or, decide_eq_true_eq, Bool.not_eq_true', decide_eq_false_iff_not, Bool.false_eq_true, if_false, if_true, mk_app, mk_len, sg_mk, mk_one, decide_true, decide_false, Bool.not_true, Bool.not_false, ite_true, ite_false, not_true_eq_false, not_false_eq_true, cxK, cutTo1, cutFrom1, mk_iff, tyV_str, stComp, List.map_cons, List.map_nil, Option.join_some, Option.join_none, gt_iff_lt, ge_iff_le, tRaise, tTryR, tCallH, tDisp, tPairs, gSub, CPow]
    rw [List.length_map]
    refine ite2 (fun h => ?_) fun h => ?_
    · have hk : k.toNat < ns.length := by omega
      rw [show cellF ns k = ns[k.toNat] by simp [cellF, hk]] at q
      exact ixL hq (atIn (c := V.int (ns[k.toNat])) h0 (by simp [hk])) q
    · rw [show cellF ns k = 0 by simp [cellF, List.getD, List.getElem?_eq_none (show ns.length ≤ k.toNat by omega)]] at q
      exact q
noncomputable def sp__law_mixed (K : PySem.W.Frag) : Sp := fun vs H Q E => ∃ (a : Addr) (ns : List Int) (k : Int), vs = [.ref a, .int k] ∧ SqL K H a (ns.map V.int) ∧ 0 ≤ k ∧ k ≤ 1000 ∧ Q (.int (mixF ns k)) H
theorem sc__law_mixed : FnScope ["_law_script", "_law_k"] ["_law_script", "_law_k"] (defScope s__law_mixed) := ⟨rfl, rfl, rfl, by decide +kernel, rfl, by decide +kernel, by decide +kernel⟩
theorem ok__law_mixed (T : Txt K mg) : FnOk P w K mg base CX0 2 T.d__law_mixed.f T.d__law_mixed.fd ["_law_script", "_law_k"] (sp__law_mixed K) := by
  have nd := sc__law_mixed.nd
  refine T.d__law_mixed.F.ok sc__law_mixed (fun vs H Q E h => ?_) (fun cdv A outer s H vs Q E hr h => ?_)
  · obtain ⟨a, ns, k, rfl, hq, h0, h1, q⟩ := h
    rfl
  · obtain ⟨a, ns, k, rfl, hq, h0, h1, q⟩ := h
    have hu := hr.units0
    refine ⟨_, (pss_one (ps_ret (pe_op op_mod (pe_op o_mul (pe_op op_mod (pe_op o_add (pe_op o_add (pe_op o_mul (pc1 T.d__law_cell (ok__law_cell T) (hr.mono (by decide)) (pa1 (pv 0) (pa1 (pv 1) pa_nil))) pe_int) (pe_op o_mul (pe_op o_mul (pe_op o_mul pe_int (pv 1)) (pv 1)) (pv 1))) pe_int) pe_int) pe_int) pe_int))), ?_⟩
    rw [show start ["_law_script", "_law_k"] [V.ref a, V.int k] = [some (V.ref a), some (V.int k)] from rfl]
    simp only [tSeq, tIfS, tRet, tRetN, tC, tVar, tOp, tUn, tTest, tB, tAnd, tOr, tNot, tAndV, tOrV, tNotV, tIf, tChain, tCons, tNil, tCall, tCB, tLst, tTup, tSl, tNoPart, tPart, gName, tNext, tDrop, tAsg, tAsgC, tBM, tYes, tDNewK, rI, rI0, rU, rEq, rNe, rAbs, rIntT, CDiv, add_ii, add_ss, mul_ii, mul_si, ix_si, eq_ii, eq_ss, eq_bb, ne_ii, ne_ss, ne_ni, ne_in, in_s1, notin_s1, is_xn, is_bb, isnot_xn, isnot_bb, sl_s, len_s, find_ss, index_ss, List.append_nil, List.cons_append, List.nil_append, List.getElem?_cons_succ, List.getElem?_cons_zero, List.set_cons_succ, List.set_cons_zero, Option.some.injEq, V.int.injEq, V.bl.injEq, V.str.injEq, V.ref.injEq, V.ty.injEq, List.cons.injEq, and_true, true_and, exists_eq_left, exists_eq_left', exists_and_left, exists_eq', exists_const, exists_and_right, exists_eq_right, exists_eq_right', reduceCtorEq, false_and, and_false, exists_false, or_false, false_or, decide_eq_true_eq, Bool.not_eq_true', decide_eq_false_iff_not, Bool.false_eq_true, if_false, if_true, mk_app, mk_len, sg_mk, mk_one, decide_true, decide_false, Bool.not_true, Bool.not_false, ite_true, ite_false, not_true_eq_false, not_false_eq_true, cxK, cutTo1, cutFrom1, mk_iff, tyV_str, stComp, List.map_cons, List.map_nil, Option.join_some, Option.join_none, gt_iff_lt, ge_iff_le, tRaise, tTryR, tCallH, tDisp, tPairs, gSub, CPow]
    refine ⟨a, ns, k, rfl, hq, h0, ?_⟩
    simp only [tSeq, tIfS, tRet, tRetN, tC, tVar, tOp, tUn, tTest, tB, tAnd, tOr, tNot, tAndV, tOrV, tNotV, tIf, tChain, tCons, tNil, tCall, tCB, tLst, tTup, tSl, tNoPart, tPart, gName, tNext, tDrop, tAsg, tAsgC, tBM, tYes, tDNewK, rI, rI0, rU, rEq, rNe, rAbs, rIntT, CDiv, add_ii, add_ss, mul_ii, mul_si, ix_si, eq_ii, eq_ss, eq_bb, ne_ii, ne_ss, ne_ni, ne_in, in_s1, notin_s1, is_xn, is_bb, isnot_xn, isnot_bb, sl_s, len_s, find_ss, index_ss, List.append_nil, List.cons_append, List.nil_append, List.getElem?_cons_succ, List.getElem?_cons_zero, List.set_cons_succ, List.set_cons_zero, Option.some.injEq, V.int.injEq, V.bl.injEq, V.str.injEq, V.ref.injEq, V.ty.injEq, List.cons.injEq, and_true, true_and, exists_eq_left, exists_eq_left', exists_and_left, exists_eq', exists_const, exists_and_right, exists_eq_right, exists_eq_right', reduceCtorEq, false_and, and_false, exists_false, or_false, false_or, decide_eq_true_eq, Bool.not_eq_true', decide_eq_false_iff_not, Bool.false_eq_true, if_false, if_true, mk_app, mk_len, sg_mk, mk_one, decide_true, decide_false, Bool.not_true, Bool.not_false, ite_true, ite_false, not_true_eq_false, not_false_eq_true, cxK, cutTo1, cutFrom1, mk_iff, tyV_str, stComp, List.map_cons, List.map_nil, Option.join_some, Option.join_none, gt_iff_lt, ge_iff_le, tRaise, tTryR, tCallH, tDisp, tPairs, gSub, CPow]
    exact ⟨.inr ⟨by decide, by decide⟩, .inl ⟨by decide, by decide⟩, .inr ⟨by omega, by omega⟩, .inr ⟨by omega, by omega⟩, by decide, .inr ⟨by decide, by decide⟩, by decide, q⟩
noncomputable def sp__law_next : Sp := fun vs H Q E => ∃ n k, vs = [.int n, .int k] ∧ 0 ≤ k ∧ k ≤ 1000 ∧ Q (.int (nextF n k)) H
theorem sc__law_next : FnScope ["_law_number", "_law_k"] ["_law_number", "_law_k"] (defScope s__law_next) := ⟨rfl, rfl, rfl, by decide +kernel, rfl, by decide +kernel, by decide +kernel⟩
theorem ok__law_next (T : Txt K mg) : FnOk P w K mg base CX0 1 T.d__law_next.f T.d__law_next.fd ["_law_number", "_law_k"] (sp__law_next) := by
  have nd := sc__law_next.nd
  refine T.d__law_next.F.ok sc__law_next (fun vs H Q E h => ?_) (fun cdv A outer s H vs Q E hr h => ?_)
  · obtain ⟨n, k, rfl, h0, h1, q⟩ := h
    rfl
  · obtain ⟨n, k, rfl, h0, h1, q⟩ := h
    have hu := hr.units0
    refine ⟨_, (pss_one (ps_ret (pe_op op_mod (pe_op o_mul (pe_op o_add (pe_op o_add (pe_op o_mul (pv 0) (pe_op o_add (pe_op o_mul (pv 1) (pv 1)) pe_int)) (pe_op o_mul pe_int (pv 1))) pe_int) pe_int) pe_int))), ?_⟩
    rw [show start ["_law_number", "_law_k"] [V.int n, V.int k] = [some (V.int n), some (V.int k)] from rfl]
    simp only [tSeq, tIfS, tRet, tRetN, tC, tVar, tOp, tUn, tTest, tB, tAnd, tOr, tNot, tAndV, tOrV, tNotV, tIf, tChain, tCons, tNil, tCall, tCB, tLst, tTup, tSl, tNoPart, tPart, gName, tNext, tDrop, tAsg, tAsgC, tBM, tYes, tDNewK, rI, rI0, rU, rEq, rNe, rAbs, rIntT, CDiv, add_ii, add_ss, mul_ii, mul_si, ix_si, eq_ii, eq_ss, eq_bb, ne_ii, ne_ss, ne_ni, ne_in, in_s1, notin_s1, is_xn, is_bb, isnot_xn, isnot_bb, sl_s, len_s, find_ss, index_ss, List.append_nil, List.cons_append, List.nil_append, List.getElem?_cons_succ, List.getElem?_cons_zero, List.set_cons_succ, List.set_cons_zero, Option.some.injEq, V.int.injEq, V.bl.injEq, V.str.injEq, V.ref.injEq, V.ty.injEq, List.cons.injEq, and_true, true_and, exists_eq_left, exists_eq_left', exists_and_left, exists_eq', exists_const, exists_and_right, exists_eq_right, exists_eq_right', reduceCtorEq, false_and, and_false, exists_false, or_false, false_or, decide_eq_true_eq, Bool.not_eq_true', decide_eq_false_iff_not, Bool.false_eq_true, if_false, if_true, mk_app, mk_len, sg_mk, mk_one, decide_true, decide_false, Bool.not_true, Bool.not_false, ite_true, ite_false, not_true_eq_false, not_false_eq_true, cxK, cutTo1, cutFrom1, mk_iff, tyV_str, stComp, List.map_cons, List.map_nil, Option.join_some, Option.join_none, gt_iff_lt, ge_iff_le, tRaise, tTryR, tCallH, tDisp, tPairs, gSub, CPow]
    have hk : 0 ≤ k * k ∧ k * k ≤ 1000 * 1000 := ⟨Int.mul_nonneg h0 h0, Int.mul_le_mul h1 h1 h0 (by decide)⟩
    exact ⟨.inl ⟨by omega, by omega⟩, .inr ⟨by omega, by omega⟩, .inl ⟨by decide, by decide⟩, .inr ⟨by decide, by decide⟩, by decide, q⟩
noncomputable def sp__law_bytes (K : PySem.W.Frag) : Sp := fun vs H Q E => ∃ (a : Addr) (ns : List Int) (f m : Int), vs = [.ref a, .int f, .int m] ∧ SqL K H a (ns.map V.int) ∧ 0 ≤ f ∧ f ≤ 500 ∧ 0 ≤ m ∧ m ≤ 500 ∧ ∀ bs l H', H l = none → Same H H' → bs.length = m.toNat → IsB bs → H' l = some (.lst (bs.map V.int)) → Q (.ref l) H'
theorem sc__law_bytes : FnScope ["_law_script", "_law_first", "_law_many", "_law_found", "_law_k", "_law_more"] ["_law_script", "_law_first", "_law_many"] (defScope s__law_bytes) := ⟨rfl, rfl, rfl, by decide +kernel, rfl, by decide +kernel, by decide +kernel⟩
theorem ok__law_bytes (T : Txt K mg) : FnOk P w K mg base CX0 3 T.d__law_bytes.f T.d__law_bytes.fd ["_law_script", "_law_first", "_law_many"] (sp__law_bytes K) := by
  have nd := sc__law_bytes.nd
  refine T.d__law_bytes.F.ok sc__law_bytes (fun vs H Q E h => ?_) (fun cdv A outer s H vs Q E hr h => ?_)
  · obtain ⟨a, ns, f, m, rfl, hq, f0, f1, m0, m1, q⟩ := h
    rfl
  · obtain ⟨a, ns, f, m, rfl, hq, f0, f1, m0, m1, q⟩ := h
    have hu := hr.units0
    refine ⟨_, (pss_cons (ps_set (i := 3) nd rfl (Or.inl rfl) (pe_lst pa_nil))
      (pss_cons (ps_for PassesOwn.never rfl (pi_range1 rfl T.n_range (pa1 (pv 2) pa_nil)) (pg_name (i := 4) nd rfl (Or.inl rfl))
        (pss_cons (ps_set (i := 5) nd rfl (Or.inl rfl) (pc1 T.d__law_next (ok__law_next T) (hr.mono (by decide)) (pa1 (pc1 T.d__law_mixed (ok__law_mixed T) (hr.mono (by decide)) (pa1 (pv 0) (pa1 (pe_op o_add (pv 1) (pe_op op_mod (pv 4) pe_int)) pa_nil))) (pa1 (pv 4) pa_nil))))
      (pss_one (ps_expr (pm1 (K := K) PySem.F.plainAttrs_list PySem.F.slot_list_append PySem.F.type_list_append o_append (pv 3) (pa1 (pe_ix (o_ix (K := K)) (pe_lst (pa1 (pe_op op_mod (pe_op op_fdiv (pv 5) pe_int) pe_int) (pa1 (pe_ix (o_ix (K := K)) (pe_lst (pa1 pe_int (pa1 pe_int (pa1 pe_int (pa1 pe_int pa_nil))))) (pe_op op_mod (pe_op op_fdiv (pv 5) pe_int) pe_int) (fun _ _ => rfl)) pa_nil))) (pcT call_int rfl T.n_int (by kernel_rfl) (pa1 (pe_cmpR (o_eq (K := K) hu) (pe_op op_mod (pv 5) pe_int) pe_int (nomark _)) pa_nil)) (fun _ _ => rfl)) pa_nil))))))
      (pss_one (ps_ret (pv 3))))), ?_⟩
    rw [show start ["_law_script", "_law_first", "_law_many", "_law_found", "_law_k", "_law_more"] [V.ref a, V.int f, V.int m] = [some (V.ref a), some (V.int f), some (V.int m), none, none, none] from rfl]
    simp only [tSeq, tIfS, tRet, tRetN, tC, tVar, tOp, tUn, tTest, tB, tAnd, tOr, tNot, tAndV, tOrV, tNotV, tIf, tChain, tCons, tNil, tCall, tCB, tLst, tTup, tSl, tNoPart, tPart, gName, tNext, tDrop, tAsg, tAsgC, tBM, tYes, tDNewK, rI, rI0, rU, rEq, rNe, rAbs, rIntT, CDiv, add_ii, add_ss, mul_ii, mul_si, ix_si, eq_ii, eq_ss, eq_bb, ne_ii, ne_ss, ne_ni, ne_in, in_s1, notin_s1, is_xn, is_bb, isnot_xn, isnot_bb, sl_s, len_s, find_ss, index_ss, List.append_nil, List.cons_append, List.nil_append, List.getElem?_cons_succ, List.getElem?_cons_zero, List.set_cons_succ, List.set_cons_zero, Option.some.injEq, V.int.injEq, V.bl.injEq, V.str.injEq, V.ref.injEq, V.ty.injEq, List.cons.injEq, and_true, true_and, exists_eq_left, exists_eq_left', exists_and_left, exists_eq', exists_const, exists_and_right, exists_eq_right, exists_eq_right', reduceCtorEq, false_and, and_false, exists_false, or_false, false_or, decide_eq_true_eq, Bool.not_eq_true', decide_eq_false_iff_not, Bool.false_eq_true, if_false, if_true, mk_app, mk_len, sg_mk, mk_one, decide_true, decide_false, Bool.not_true, Bool.not_false, ite_true, ite_false, not_true_eq_false, not_false_eq_true, cxK, cutTo1, cutFrom1, mk_iff, tyV_str, stComp, List.map_cons, List.map_nil, Option.join_some, Option.join_none, gt_iff_lt, ge_iff_le, tRaise, tTryR, tCallH, tDisp, tPairs, gSub, CPow]
    refine ⟨sl1000 (by simp), fun l hl => ?_⟩
    refine tfor_rng m m0 (by omega) (fun R r => ⟨_, rfl, r⟩) (fun i σ H' => Same H H' ∧ ∃ bs v1 v2, σ = [some (V.ref a), some (V.int f), some (V.int m), some (V.ref l), v1, v2] ∧ H' l = some (.lst (bs.map V.int)) ∧ bs.length = i ∧ IsB bs) ⟨Same.upd (Same.refl H) hl, [], none, none, rfl, upd_same, rfl, fun n hn => nomatch hn⟩ ?_ ?_
    · rintro i σ H1 hi ⟨s1, bs, v1, v2, rfl, el, hlen, hb⟩
      simp only [tSeq, tIfS, tRet, tRetN, tC, tVar, tOp, tUn, tTest, tB, tAnd, tOr, tNot, tAndV, tOrV, tNotV, tIf, tChain, tCons, tNil, tCall, tCB, tLst, tTup, tSl, tNoPart, tPart, gName, tNext, tDrop, tAsg, tAsgC, tBM, tYes, tDNewK, rI, rI0, rU, rEq, rNe, rAbs, rIntT, CDiv, add_ii, add_ss, mul_ii, mul_si, ix_si, eq_ii, eq_ss, eq_bb, ne_ii, ne_ss, ne_ni, ne_in, in_s1, notin_s1, is_xn, is_bb, isnot_xn, isnot_bb, sl_s, len_s, find_ss, index_ss, List.append_nil, List.cons_append, List.nil_append, List.getElem?_cons_succ, List.getElem?_cons_zero, List.set_cons_succ, List.set_cons_zero, Option.some.injEq, V.int.injEq, V.bl.injEq, V.str.injEq, V.ref.injEq, V.ty.injEq, List.cons.injEq, and_true, true_and, exists_eq_left, exists_eq_left', exists_and_left, exists_eq', exists_const, exists_and_right, exists_eq_right, exists_eq_right', reduceCtorEq, false_and, and_false, exists_false, or_false, false_or, decide_eq_true_eq, Bool.not_eq_true', decide_eq_false_iff_not, Bool.false_eq_true, if_false, if_true, mk_app, mk_len, sg_mk, mk_one, decide_true, decide_false, Bool.not_true, Bool.not_false, ite_true, ite_false, not_true_eq_false, not_false_eq_true, cxK, cutTo1, cutFrom1, mk_iff, tyV_str, stComp, List.map_cons, List.map_nil, Option.join_some, Option.join_none, gt_iff_lt, ge_iff_le, tRaise, tTryR, tCallH, tDisp, tPairs, gSub, CPow]
      refine ⟨by decide, ⟨a, ns, _, rfl, s1.seq hq, by omega, by omega, ⟨_, _, rfl, by omega, by omega, ?_⟩⟩⟩
      obtain ⟨n0, n1⟩ := next_b (mixF ns (f + (i : Int) % 12)) i
      generalize nextF (mixF ns (f + (i : Int) % 12)) i = n at n0 n1
      have hz : ∃ z : Int, ([V.int 0, V.int 255, V.int 128, V.int 1] : List V)[(n / 4 % 4).toNat]? = some (V.int z) ∧ 0 ≤ z ∧ z < 256 := by
        have h4 : (n / 4 % 4).toNat < 4 := by omega
        generalize (n / 4 % 4).toNat = j at h4
        match j, h4 with
        | 0, _ => exact ⟨0, rfl, by decide, by decide⟩
        | 1, _ => exact ⟨255, rfl, by decide, by decide⟩
        | 2, _ => exact ⟨128, rfl, by decide, by decide⟩
        | 3, _ => exact ⟨1, rfl, by decide, by decide⟩
        | j + 4, h => omega
      obtain ⟨z, ez, z0, z1⟩ := hz
      refine ⟨tyV_lst (SqL.of el), _, rfl, ⟨by decide, by decide⟩, by decide, sl1000 (by simp), fun p hp => ⟨_, rfl, ⟨by decide, by decide⟩, by decide, ?_⟩⟩
      refine ixL (SqL.of upd_same) (atIn (by omega) ez) ⟨sl1000 (by simp), fun p2 hp2 => ⟨_, rfl, by decide, ?_⟩⟩
      have hy : ∃ y : Int, atI [V.int (n / 4 % 256), V.int z] (if n % 4 = 1 then 1 else 0) = some (V.int y) ∧ 0 ≤ y ∧ y < 256 := by
        by_cases h1 : n % 4 = 1
        · rw [if_pos h1]
          exact ⟨z, rfl, z0, z1⟩
        · rw [if_neg h1]
          exact ⟨n / 4 % 256, rfl, by omega, by omega⟩
      obtain ⟨y, ey, y0, y1⟩ := hy
      have s2 := Same.upd (Same.upd (Same.refl H1) hp (o := .lst [V.int 0, V.int 255, V.int 128, V.int 1])) hp2 (o := .lst [V.int (n / 4 % 256), V.int z])
      refine ixL (SqL.of upd_same) ey (appL (s2 l _ el) (by rw [sizeLine_eq, List.length_map]; omega) ⟨Same.set (s1.trans s2) hl, bs ++ [y], by rw [upd_same, List.map_append]; rfl, by simp; omega, fun b hbm => ?_⟩)
      rcases List.mem_append.mp hbm with h | h
      · exact hb b h
      · rw [List.mem_singleton.mp h]
        exact ⟨y0, y1⟩
    · rintro σ H1 ⟨s1, bs, v1, v2, rfl, el, hlen, hb⟩
      simp only [tSeq, tIfS, tRet, tRetN, tC, tVar, tOp, tUn, tTest, tB, tAnd, tOr, tNot, tAndV, tOrV, tNotV, tIf, tChain, tCons, tNil, tCall, tCB, tLst, tTup, tSl, tNoPart, tPart, gName, tNext, tDrop, tAsg, tAsgC, tBM, tYes, tDNewK, rI, rI0, rU, rEq, rNe, rAbs, rIntT, CDiv, add_ii, add_ss, mul_ii, mul_si, ix_si, eq_ii, eq_ss, eq_bb, ne_ii, ne_ss, ne_ni, ne_in, in_s1, notin_s1, is_xn, is_bb, isnot_xn, isnot_bb, sl_s, len_s, find_ss, index_ss, List.append_nil, List.cons_append, List.nil_append, List.getElem?_cons_succ, List.getElem?_cons_zero, List.set_cons_succ, List.set_cons_zero, Option.some.injEq, V.int.injEq, V.bl.injEq, V.str.injEq, V.ref.injEq, V.ty.injEq, List.cons.injEq, and_true, true_and, exists_eq_left, exists_eq_left', exists_and_left, exists_eq', exists_const, exists_and_right, exists_eq_right, exists_eq_right', reduceCtorEq, false_and, and_false, exists_false, or_false, false_or, decide_eq_true_eq, Bool.not_eq_true', decide_eq_false_iff_not, Bool.false_eq_true, if_false, if_true, mk_app, mk_len, sg_mk, mk_one, decide_true, decide_false, Bool.not_true, Bool.not_false, ite_true, ite_false, not_true_eq_false, not_false_eq_true, cxK, cutTo1, cutFrom1, mk_iff, tyV_str, stComp, List.map_cons, List.map_nil, Option.join_some, Option.join_none, gt_iff_lt, ge_iff_le, tRaise, tTryR, tCallH, tDisp, tPairs, gSub, CPow]
      exact q bs l H1 hl s1 hlen hb el
noncomputable def sp__law_kind (T : Txt K mg) : Sp := fun vs H Q E => ∃ x ox D bs, vs = [.ref x] ∧ H x = some (.frz ox (.own x)) ∧ ExOb ox D ∧ ExCls K D ∧ KD T D bs ∧ ∀ l H', H l = none → Same H H' → H' l = some (.lst ((List.range 11).flatMap (kindF bs))) → Q (.ref l) H'
theorem sc__law_kind : FnScope ["_law_e", "_law_found"] ["_law_e"] (defScope s__law_kind) := ⟨rfl, rfl, rfl, by decide +kernel, rfl, by decide +kernel, by decide +kernel⟩
theorem ok__law_kind (T : Txt K mg) : FnOkH P w K mg base 1 T.d__law_kind.f T.d__law_kind.fd ["_law_e"] (sp__law_kind T) := by
  have nd := sc__law_kind.nd
  refine T.d__law_kind.F.okH sc__law_kind (fun vs H Q E h => ?_) (fun cdv A outer s H vs Q y oy hr hy h => ?_)
  · obtain ⟨x, ox, D, bs, rfl, hx, ho, hc, hk, q⟩ := h
    rfl
  · obtain ⟨x, ox, D, bs, rfl, hx, ho, hc, hk, q⟩ := h
    have hu := hr.units0
    have hdl : Hdl (cxOfH P w K mg base ["_law_e", "_law_found"] "_law_kind" (defScope s__law_kind) T.d__law_kind.f cdv A outer s H) := ⟨y, oy, hr.hd, hy⟩
    refine ⟨_, (pss_cons (ps_set (i := 1) nd rfl (Or.inl rfl) (pe_lst (pa1 (pe_tup (pa1 pe_str (pa1 (pcB (o_isiX (K := K)) rfl T.n_isinstance (by kernel_rfl) (pa1 (pv 0) (pa1 (pe_gl (v := .ref T.x_BadBytes) rfl ⟨_, T.m_BadBytes, rfl⟩) pa_nil))) pa_nil))) (pa1 (pe_tup (pa1 pe_str (pa1 (pcB (o_isiX (K := K)) rfl T.n_isinstance (by kernel_rfl) (pa1 (pv 0) (pa1 (pe_gl (v := .ref T.x_BadCheck) rfl ⟨_, T.m_BadCheck, rfl⟩) pa_nil))) pa_nil))) (pa1 (pe_tup (pa1 pe_str (pa1 (pcB (o_isiX (K := K)) rfl T.n_isinstance (by kernel_rfl) (pa1 (pv 0) (pa1 (pe_gl (v := .ref T.x_BadText) rfl ⟨_, T.m_BadText, rfl⟩) pa_nil))) pa_nil))) pa_nil)))))
      (pss_cons (ps_set (i := 1) nd rfl (Or.inl rfl) (pe_op o_add (pv 1) (pe_lst (pa1 (pe_tup (pa1 pe_str (pa1 (pcB (o_isiX (K := K)) rfl T.n_isinstance (by kernel_rfl) (pa1 (pv 0) (pa1 (pe_gl (v := .ref T.x_BadBase) rfl ⟨_, T.m_BadBase, rfl⟩) pa_nil))) pa_nil))) (pa1 (pe_tup (pa1 pe_str (pa1 (pcB (o_isiX (K := K)) rfl T.n_isinstance (by kernel_rfl) (pa1 (pv 0) (pa1 (pe_gl (v := .ref T.x_BadInput) rfl ⟨_, T.m_BadInput, rfl⟩) pa_nil))) pa_nil))) pa_nil)))))
      (pss_cons (ps_set (i := 1) nd rfl (Or.inl rfl) (pe_op o_add (pv 1) (pe_lst (pa1 (pe_tup (pa1 pe_str (pa1 (pcB (o_isiX (K := K)) rfl T.n_isinstance (by kernel_rfl) (pa1 (pv 0) (pa1 (pe_gl (v := .ref T.x_BadLine) rfl ⟨_, T.m_BadLine, rfl⟩) pa_nil))) pa_nil))) (pa1 (pe_tup (pa1 pe_str (pa1 (pcB (o_isiX (K := K)) rfl T.n_isinstance (by kernel_rfl) (pa1 (pv 0) (pa1 (pe_gl (v := .ref T.x_NoMain) rfl ⟨_, T.m_NoMain, rfl⟩) pa_nil))) pa_nil))) pa_nil)))))
      (pss_cons (ps_set (i := 1) nd rfl (Or.inl rfl) (pe_op o_add (pv 1) (pe_lst (pa1 (pe_tup (pa1 pe_str (pa1 (pcB (o_isiX (K := K)) rfl T.n_isinstance (by kernel_rfl) (pa1 (pv 0) (pa1 (pe_gl (v := .ref T.x_TooGreat) rfl ⟨_, T.m_TooGreat, rfl⟩) pa_nil))) pa_nil))) (pa1 (pe_tup (pa1 pe_str (pa1 (pcB (o_isiX (K := K)) rfl T.n_isinstance (by kernel_rfl) (pa1 (pv 0) (pa1 (pe_gl (v := .ref T.x_NoPart) rfl ⟨_, T.m_NoPart, rfl⟩) pa_nil))) pa_nil))) pa_nil)))))
      (pss_cons (ps_set (i := 1) nd rfl (Or.inl rfl) (pe_op o_add (pv 1) (pe_lst (pa1 (pe_tup (pa1 pe_str (pa1 (pcB (o_isiX (K := K)) rfl T.n_isinstance (by kernel_rfl) (pa1 (pv 0) (pa1 (pe_gl (v := .ref T.x_RowError) rfl ⟨_, T.m_RowError, rfl⟩) pa_nil))) pa_nil))) (pa1 (pe_tup (pa1 pe_str (pa1 (pcB (o_isiX (K := K)) rfl T.n_isinstance (by kernel_rfl) (pa1 (pv 0) (pa1 (pe_bltn (v := .ty "ValueError") rfl T.n_ValueError (by kernel_rfl) rfl) pa_nil))) pa_nil))) pa_nil)))))
      (pss_one (ps_ret (pe_lcompC (cal := Hdl) (N' := ["_law_word", "_law_fits"]) (src := [none, none]) (fun cl C fp pn I => hdl.comp cl C fp pn I) (CompScope.of (by kernel_rfl)) (pi_listH (K := K) (pv 1)) (fun _ _ _ _ _ _ hc => (pg_tupH (K := K) (n := 2) hc (pgs_cons (pg_name (i := 0) (show (["_law_word", "_law_fits"] : List Str).Nodup by decide +kernel) rfl (Or.inl rfl)) (pgs_cons (pg_name (i := 1) (show (["_law_word", "_law_fits"] : List Str).Nodup by decide +kernel) rfl (Or.inl rfl)) pgs_nil)))) (fun _ _ _ _ _ _ hc => (pif_one (pt_val (pv 1)))) (fun _ _ _ _ _ _ hc => (pv 0)))))))))), ?_⟩
    rw [show start ["_law_e", "_law_found"] [V.ref x] = [some (V.ref x), none] from rfl]
    simp only [tSeq, tIfS, tRet, tRetN, tC, tVar, tOp, tUn, tTest, tB, tAnd, tOr, tNot, tAndV, tOrV, tNotV, tIf, tChain, tCons, tNil, tCall, tCB, tLst, tTup, tSl, tNoPart, tPart, gName, tNext, tDrop, tAsg, tAsgC, tBM, tYes, tDNewK, rI, rI0, rU, rEq, rNe, rAbs, rIntT, CDiv, add_ii, add_ss, mul_ii, mul_si, ix_si, eq_ii, eq_ss, eq_bb, ne_ii, ne_ss, ne_ni, ne_in, in_s1, notin_s1, is_xn, is_bb, isnot_xn, isnot_bb, sl_s, len_s, find_ss, index_ss, List.append_nil, List.cons_append, List.nil_append, List.getElem?_cons_succ, List.getElem?_cons_zero, List.set_cons_succ, List.set_cons_zero, Option.some.injEq, V.int.injEq, V.bl.injEq, V.str.injEq, V.ref.injEq, V.ty.injEq, List.cons.injEq, and_true, true_and, exists_eq_left, exists_eq_left', exists_and_left, exists_eq', exists_const, exists_and_right, exists_eq_right, exists_eq_right', reduceCtorEq, false_and, and_false, exists_false, or_false, false_or, decide_eq_true_eq, Bool.not_eq_true', decide_eq_false_iff_not, Bool.false_eq_true, if_false, if_true, mk_app, mk_len, sg_mk, mk_one, decide_true, decide_false, Bool.not_true, Bool.not_false, ite_true, ite_false, not_true_eq_false, not_false_eq_true, cxK, cutTo1, cutFrom1, mk_iff, tyV_str, stComp, List.map_cons, List.map_nil, Option.join_some, Option.join_none, gt_iff_lt, ge_iff_le, tRaise, tTryR, tCallH, tDisp, tPairs, gSub, CPow]
    match bs, hk with
    | [b0, b1, b2, b3, b4, b5, b6, b7, b8, b9, b10], hk =>
    obtain ⟨k0, k1, k2, k3, k4, k5, k6, k7, k8, k9, k10⟩ := hk
    have S := Same.refl H
    refine isiX1 hx ho hc (.inl ⟨_, rfl⟩) k0 ⟨sl1000 (by simp), fun p0 n0 => ?_⟩
    have t1 := Same.upd (Same.refl H) n0 (o := (.tup [V.str (Str.ofString "bytes"), V.bl b0]))
    have e0 : upd H p0 (.tup [V.str (Str.ofString "bytes"), V.bl b0]) p0 = some (.tup [V.str (Str.ofString "bytes"), V.bl b0]) := upd_same
    generalize upd H p0 (.tup [V.str (Str.ofString "bytes"), V.bl b0]) = G1 at t1 e0 ⊢
    have hx := t1 _ _ hx
    have S := S.trans t1
    refine isiX1 hx ho hc (.inl ⟨_, rfl⟩) k1 ⟨sl1000 (by simp), fun p1 n1 => ?_⟩
    have t2 := Same.upd (Same.refl G1) n1 (o := (.tup [V.str (Str.ofString "check"), V.bl b1]))
    have e1 : upd G1 p1 (.tup [V.str (Str.ofString "check"), V.bl b1]) p1 = some (.tup [V.str (Str.ofString "check"), V.bl b1]) := upd_same
    generalize upd G1 p1 (.tup [V.str (Str.ofString "check"), V.bl b1]) = G2 at t2 e1 ⊢
    have hx := t2 _ _ hx
    have e0 := t2 _ _ e0
    have S := S.trans t2
    refine isiX1 hx ho hc (.inl ⟨_, rfl⟩) k2 ⟨sl1000 (by simp), fun p2 n2 => ?_⟩
    have t3 := Same.upd (Same.refl G2) n2 (o := (.tup [V.str (Str.ofString "text"), V.bl b2]))
    have e2 : upd G2 p2 (.tup [V.str (Str.ofString "text"), V.bl b2]) p2 = some (.tup [V.str (Str.ofString "text"), V.bl b2]) := upd_same
    generalize upd G2 p2 (.tup [V.str (Str.ofString "text"), V.bl b2]) = G3 at t3 e2 ⊢
    have hx := t3 _ _ hx
    have e0 := t3 _ _ e0
    have e1 := t3 _ _ e1
    have S := S.trans t3
    refine ⟨sl1000 (by simp), fun l0 nl0 => ?_⟩
    have t4 := Same.upd (Same.refl G3) nl0 (o := (.lst [V.ref p0, V.ref p1, V.ref p2]))
    have el0 : upd G3 l0 (.lst [V.ref p0, V.ref p1, V.ref p2]) l0 = some (.lst [V.ref p0, V.ref p1, V.ref p2]) := upd_same
    generalize upd G3 l0 (.lst [V.ref p0, V.ref p1, V.ref p2]) = G4 at t4 el0 ⊢
    have hx := t4 _ _ hx
    have e0 := t4 _ _ e0
    have e1 := t4 _ _ e1
    have e2 := t4 _ _ e2
    have S := S.trans t4
    refine isiX1 hx ho hc (.inl ⟨_, rfl⟩) k3 ⟨sl1000 (by simp), fun p3 n3 => ?_⟩
    have t5 := Same.upd (Same.refl G4) n3 (o := (.tup [V.str (Str.ofString "base"), V.bl b3]))
    have e3 : upd G4 p3 (.tup [V.str (Str.ofString "base"), V.bl b3]) p3 = some (.tup [V.str (Str.ofString "base"), V.bl b3]) := upd_same
    generalize upd G4 p3 (.tup [V.str (Str.ofString "base"), V.bl b3]) = G5 at t5 e3 ⊢
    have hx := t5 _ _ hx
    have e0 := t5 _ _ e0
    have e1 := t5 _ _ e1
    have e2 := t5 _ _ e2
    have el0 := t5 _ _ el0
    have S := S.trans t5
    refine isiX1 hx ho hc (.inl ⟨_, rfl⟩) k4 ⟨sl1000 (by simp), fun p4 n4 => ?_⟩
    have t6 := Same.upd (Same.refl G5) n4 (o := (.tup [V.str (Str.ofString "input"), V.bl b4]))
    have e4 : upd G5 p4 (.tup [V.str (Str.ofString "input"), V.bl b4]) p4 = some (.tup [V.str (Str.ofString "input"), V.bl b4]) := upd_same
    generalize upd G5 p4 (.tup [V.str (Str.ofString "input"), V.bl b4]) = G6 at t6 e4 ⊢
    have hx := t6 _ _ hx
    have e0 := t6 _ _ e0
    have e1 := t6 _ _ e1
    have e2 := t6 _ _ e2
    have el0 := t6 _ _ el0
    have e3 := t6 _ _ e3
    have S := S.trans t6
    refine ⟨sl1000 (by simp), fun m1 nm1 => ?_⟩
    have t7 := Same.upd (Same.refl G6) nm1 (o := (.lst [V.ref p3, V.ref p4]))
    have em1 : upd G6 m1 (.lst [V.ref p3, V.ref p4]) m1 = some (.lst [V.ref p3, V.ref p4]) := upd_same
    generalize upd G6 m1 (.lst [V.ref p3, V.ref p4]) = G7 at t7 em1 ⊢
    have hx := t7 _ _ hx
    have e0 := t7 _ _ e0
    have e1 := t7 _ _ e1
    have e2 := t7 _ _ e2
    have el0 := t7 _ _ el0
    have e3 := t7 _ _ e3
    have e4 := t7 _ _ e4
    have S := S.trans t7
    refine catL el0 em1 (sl1000 (by simp)) fun l1 nl1 => ?_
    have t8 := Same.upd (Same.refl G7) nl1 (o := (.lst ([V.ref p0, V.ref p1, V.ref p2] ++ [V.ref p3, V.ref p4])))
    have el1 : upd G7 l1 (.lst ([V.ref p0, V.ref p1, V.ref p2] ++ [V.ref p3, V.ref p4])) l1 = some (.lst ([V.ref p0, V.ref p1, V.ref p2] ++ [V.ref p3, V.ref p4])) := upd_same
    generalize upd G7 l1 (.lst ([V.ref p0, V.ref p1, V.ref p2] ++ [V.ref p3, V.ref p4])) = G8 at t8 el1 ⊢
    have hx := t8 _ _ hx
    have e0 := t8 _ _ e0
    have e1 := t8 _ _ e1
    have e2 := t8 _ _ e2
    have el0 := t8 _ _ el0
    have e3 := t8 _ _ e3
    have e4 := t8 _ _ e4
    have em1 := t8 _ _ em1
    have S := S.trans t8
    refine isiX1 hx ho hc (.inl ⟨_, rfl⟩) k5 ⟨sl1000 (by simp), fun p5 n5 => ?_⟩
    have t9 := Same.upd (Same.refl G8) n5 (o := (.tup [V.str (Str.ofString "line"), V.bl b5]))
    have e5 : upd G8 p5 (.tup [V.str (Str.ofString "line"), V.bl b5]) p5 = some (.tup [V.str (Str.ofString "line"), V.bl b5]) := upd_same
    generalize upd G8 p5 (.tup [V.str (Str.ofString "line"), V.bl b5]) = G9 at t9 e5 ⊢
    have hx := t9 _ _ hx
    have e0 := t9 _ _ e0
    have e1 := t9 _ _ e1
    have e2 := t9 _ _ e2
    have el0 := t9 _ _ el0
    have e3 := t9 _ _ e3
    have e4 := t9 _ _ e4
    have em1 := t9 _ _ em1
    have el1 := t9 _ _ el1
    have S := S.trans t9
    refine isiX1 hx ho hc (.inl ⟨_, rfl⟩) k6 ⟨sl1000 (by simp), fun p6 n6 => ?_⟩
    have t10 := Same.upd (Same.refl G9) n6 (o := (.tup [V.str (Str.ofString "nomain"), V.bl b6]))
    have e6 : upd G9 p6 (.tup [V.str (Str.ofString "nomain"), V.bl b6]) p6 = some (.tup [V.str (Str.ofString "nomain"), V.bl b6]) := upd_same
    generalize upd G9 p6 (.tup [V.str (Str.ofString "nomain"), V.bl b6]) = G10 at t10 e6 ⊢
    have hx := t10 _ _ hx
    have e0 := t10 _ _ e0
    have e1 := t10 _ _ e1
    have e2 := t10 _ _ e2
    have el0 := t10 _ _ el0
    have e3 := t10 _ _ e3
    have e4 := t10 _ _ e4
    have em1 := t10 _ _ em1
    have el1 := t10 _ _ el1
    have e5 := t10 _ _ e5
    have S := S.trans t10
    refine ⟨sl1000 (by simp), fun m2 nm2 => ?_⟩
    have t11 := Same.upd (Same.refl G10) nm2 (o := (.lst [V.ref p5, V.ref p6]))
    have em2 : upd G10 m2 (.lst [V.ref p5, V.ref p6]) m2 = some (.lst [V.ref p5, V.ref p6]) := upd_same
    generalize upd G10 m2 (.lst [V.ref p5, V.ref p6]) = G11 at t11 em2 ⊢
    have hx := t11 _ _ hx
    have e0 := t11 _ _ e0
    have e1 := t11 _ _ e1
    have e2 := t11 _ _ e2
    have el0 := t11 _ _ el0
    have e3 := t11 _ _ e3
    have e4 := t11 _ _ e4
    have em1 := t11 _ _ em1
    have el1 := t11 _ _ el1
    have e5 := t11 _ _ e5
    have e6 := t11 _ _ e6
    have S := S.trans t11
    refine catL el1 em2 (sl1000 (by simp)) fun l2 nl2 => ?_
    have t12 := Same.upd (Same.refl G11) nl2 (o := (.lst (([V.ref p0, V.ref p1, V.ref p2] ++ [V.ref p3, V.ref p4]) ++ [V.ref p5, V.ref p6])))
    have el2 : upd G11 l2 (.lst (([V.ref p0, V.ref p1, V.ref p2] ++ [V.ref p3, V.ref p4]) ++ [V.ref p5, V.ref p6])) l2 = some (.lst (([V.ref p0, V.ref p1, V.ref p2] ++ [V.ref p3, V.ref p4]) ++ [V.ref p5, V.ref p6])) := upd_same
    generalize upd G11 l2 (.lst (([V.ref p0, V.ref p1, V.ref p2] ++ [V.ref p3, V.ref p4]) ++ [V.ref p5, V.ref p6])) = G12 at t12 el2 ⊢
    have hx := t12 _ _ hx
    have e0 := t12 _ _ e0
    have e1 := t12 _ _ e1
    have e2 := t12 _ _ e2
    have el0 := t12 _ _ el0
    have e3 := t12 _ _ e3
    have e4 := t12 _ _ e4
    have em1 := t12 _ _ em1
    have el1 := t12 _ _ el1
    have e5 := t12 _ _ e5
    have e6 := t12 _ _ e6
    have em2 := t12 _ _ em2
    have S := S.trans t12
    refine isiX1 hx ho hc (.inl ⟨_, rfl⟩) k7 ⟨sl1000 (by simp), fun p7 n7 => ?_⟩
    have t13 := Same.upd (Same.refl G12) n7 (o := (.tup [V.str (Str.ofString "great"), V.bl b7]))
    have e7 : upd G12 p7 (.tup [V.str (Str.ofString "great"), V.bl b7]) p7 = some (.tup [V.str (Str.ofString "great"), V.bl b7]) := upd_same
    generalize upd G12 p7 (.tup [V.str (Str.ofString "great"), V.bl b7]) = G13 at t13 e7 ⊢
    have hx := t13 _ _ hx
    have e0 := t13 _ _ e0
    have e1 := t13 _ _ e1
    have e2 := t13 _ _ e2
    have el0 := t13 _ _ el0
    have e3 := t13 _ _ e3
    have e4 := t13 _ _ e4
    have em1 := t13 _ _ em1
    have el1 := t13 _ _ el1
    have e5 := t13 _ _ e5
    have e6 := t13 _ _ e6
    have em2 := t13 _ _ em2
    have el2 := t13 _ _ el2
    have S := S.trans t13
    refine isiX1 hx ho hc (.inl ⟨_, rfl⟩) k8 ⟨sl1000 (by simp), fun p8 n8 => ?_⟩
    have t14 := Same.upd (Same.refl G13) n8 (o := (.tup [V.str (Str.ofString "nopart"), V.bl b8]))
    have e8 : upd G13 p8 (.tup [V.str (Str.ofString "nopart"), V.bl b8]) p8 = some (.tup [V.str (Str.ofString "nopart"), V.bl b8]) := upd_same
    generalize upd G13 p8 (.tup [V.str (Str.ofString "nopart"), V.bl b8]) = G14 at t14 e8 ⊢
    have hx := t14 _ _ hx
    have e0 := t14 _ _ e0
    have e1 := t14 _ _ e1
    have e2 := t14 _ _ e2
    have el0 := t14 _ _ el0
    have e3 := t14 _ _ e3
    have e4 := t14 _ _ e4
    have em1 := t14 _ _ em1
    have el1 := t14 _ _ el1
    have e5 := t14 _ _ e5
    have e6 := t14 _ _ e6
    have em2 := t14 _ _ em2
    have el2 := t14 _ _ el2
    have e7 := t14 _ _ e7
    have S := S.trans t14
    refine ⟨sl1000 (by simp), fun m3 nm3 => ?_⟩
    have t15 := Same.upd (Same.refl G14) nm3 (o := (.lst [V.ref p7, V.ref p8]))
    have em3 : upd G14 m3 (.lst [V.ref p7, V.ref p8]) m3 = some (.lst [V.ref p7, V.ref p8]) := upd_same
    generalize upd G14 m3 (.lst [V.ref p7, V.ref p8]) = G15 at t15 em3 ⊢
    have hx := t15 _ _ hx
    have e0 := t15 _ _ e0
    have e1 := t15 _ _ e1
    have e2 := t15 _ _ e2
    have el0 := t15 _ _ el0
    have e3 := t15 _ _ e3
    have e4 := t15 _ _ e4
    have em1 := t15 _ _ em1
    have el1 := t15 _ _ el1
    have e5 := t15 _ _ e5
    have e6 := t15 _ _ e6
    have em2 := t15 _ _ em2
    have el2 := t15 _ _ el2
    have e7 := t15 _ _ e7
    have e8 := t15 _ _ e8
    have S := S.trans t15
    refine catL el2 em3 (sl1000 (by simp)) fun l3 nl3 => ?_
    have t16 := Same.upd (Same.refl G15) nl3 (o := (.lst ((([V.ref p0, V.ref p1, V.ref p2] ++ [V.ref p3, V.ref p4]) ++ [V.ref p5, V.ref p6]) ++ [V.ref p7, V.ref p8])))
    have el3 : upd G15 l3 (.lst ((([V.ref p0, V.ref p1, V.ref p2] ++ [V.ref p3, V.ref p4]) ++ [V.ref p5, V.ref p6]) ++ [V.ref p7, V.ref p8])) l3 = some (.lst ((([V.ref p0, V.ref p1, V.ref p2] ++ [V.ref p3, V.ref p4]) ++ [V.ref p5, V.ref p6]) ++ [V.ref p7, V.ref p8])) := upd_same
    generalize upd G15 l3 (.lst ((([V.ref p0, V.ref p1, V.ref p2] ++ [V.ref p3, V.ref p4]) ++ [V.ref p5, V.ref p6]) ++ [V.ref p7, V.ref p8])) = G16 at t16 el3 ⊢
    have hx := t16 _ _ hx
    have e0 := t16 _ _ e0
    have e1 := t16 _ _ e1
    have e2 := t16 _ _ e2
    have el0 := t16 _ _ el0
    have e3 := t16 _ _ e3
    have e4 := t16 _ _ e4
    have em1 := t16 _ _ em1
    have el1 := t16 _ _ el1
    have e5 := t16 _ _ e5
    have e6 := t16 _ _ e6
    have em2 := t16 _ _ em2
    have el2 := t16 _ _ el2
    have e7 := t16 _ _ e7
    have e8 := t16 _ _ e8
    have em3 := t16 _ _ em3
    have S := S.trans t16
    refine isiX1 hx ho hc (.inl ⟨_, rfl⟩) k9 ⟨sl1000 (by simp), fun p9 n9 => ?_⟩
    have t17 := Same.upd (Same.refl G16) n9 (o := (.tup [V.str (Str.ofString "row"), V.bl b9]))
    have e9 : upd G16 p9 (.tup [V.str (Str.ofString "row"), V.bl b9]) p9 = some (.tup [V.str (Str.ofString "row"), V.bl b9]) := upd_same
    generalize upd G16 p9 (.tup [V.str (Str.ofString "row"), V.bl b9]) = G17 at t17 e9 ⊢
    have hx := t17 _ _ hx
    have e0 := t17 _ _ e0
    have e1 := t17 _ _ e1
    have e2 := t17 _ _ e2
    have el0 := t17 _ _ el0
    have e3 := t17 _ _ e3
    have e4 := t17 _ _ e4
    have em1 := t17 _ _ em1
    have el1 := t17 _ _ el1
    have e5 := t17 _ _ e5
    have e6 := t17 _ _ e6
    have em2 := t17 _ _ em2
    have el2 := t17 _ _ el2
    have e7 := t17 _ _ e7
    have e8 := t17 _ _ e8
    have em3 := t17 _ _ em3
    have el3 := t17 _ _ el3
    have S := S.trans t17
    refine isiX1 hx ho hc (.inr ⟨_, rfl⟩) k10 ⟨sl1000 (by simp), fun p10 n10 => ?_⟩
    have t18 := Same.upd (Same.refl G17) n10 (o := (.tup [V.str (Str.ofString "value"), V.bl b10]))
    have e10 : upd G17 p10 (.tup [V.str (Str.ofString "value"), V.bl b10]) p10 = some (.tup [V.str (Str.ofString "value"), V.bl b10]) := upd_same
    generalize upd G17 p10 (.tup [V.str (Str.ofString "value"), V.bl b10]) = G18 at t18 e10 ⊢
    have hx := t18 _ _ hx
    have e0 := t18 _ _ e0
    have e1 := t18 _ _ e1
    have e2 := t18 _ _ e2
    have el0 := t18 _ _ el0
    have e3 := t18 _ _ e3
    have e4 := t18 _ _ e4
    have em1 := t18 _ _ em1
    have el1 := t18 _ _ el1
    have e5 := t18 _ _ e5
    have e6 := t18 _ _ e6
    have em2 := t18 _ _ em2
    have el2 := t18 _ _ el2
    have e7 := t18 _ _ e7
    have e8 := t18 _ _ e8
    have em3 := t18 _ _ em3
    have el3 := t18 _ _ el3
    have e9 := t18 _ _ e9
    have S := S.trans t18
    refine ⟨sl1000 (by simp), fun m4 nm4 => ?_⟩
    have t19 := Same.upd (Same.refl G18) nm4 (o := (.lst [V.ref p9, V.ref p10]))
    have em4 : upd G18 m4 (.lst [V.ref p9, V.ref p10]) m4 = some (.lst [V.ref p9, V.ref p10]) := upd_same
    generalize upd G18 m4 (.lst [V.ref p9, V.ref p10]) = G19 at t19 em4 ⊢
    have hx := t19 _ _ hx
    have e0 := t19 _ _ e0
    have e1 := t19 _ _ e1
    have e2 := t19 _ _ e2
    have el0 := t19 _ _ el0
    have e3 := t19 _ _ e3
    have e4 := t19 _ _ e4
    have em1 := t19 _ _ em1
    have el1 := t19 _ _ el1
    have e5 := t19 _ _ e5
    have e6 := t19 _ _ e6
    have em2 := t19 _ _ em2
    have el2 := t19 _ _ el2
    have e7 := t19 _ _ e7
    have e8 := t19 _ _ e8
    have em3 := t19 _ _ em3
    have el3 := t19 _ _ el3
    have e9 := t19 _ _ e9
    have e10 := t19 _ _ e10
    have S := S.trans t19
    refine catL el3 em4 (sl1000 (by simp)) fun l4 nl4 => ?_
    have t20 := Same.upd (Same.refl G19) nl4 (o := (.lst (((([V.ref p0, V.ref p1, V.ref p2] ++ [V.ref p3, V.ref p4]) ++ [V.ref p5, V.ref p6]) ++ [V.ref p7, V.ref p8]) ++ [V.ref p9, V.ref p10])))
    have el4 : upd G19 l4 (.lst (((([V.ref p0, V.ref p1, V.ref p2] ++ [V.ref p3, V.ref p4]) ++ [V.ref p5, V.ref p6]) ++ [V.ref p7, V.ref p8]) ++ [V.ref p9, V.ref p10])) l4 = some (.lst (((([V.ref p0, V.ref p1, V.ref p2] ++ [V.ref p3, V.ref p4]) ++ [V.ref p5, V.ref p6]) ++ [V.ref p7, V.ref p8]) ++ [V.ref p9, V.ref p10])) := upd_same
    generalize upd G19 l4 (.lst (((([V.ref p0, V.ref p1, V.ref p2] ++ [V.ref p3, V.ref p4]) ++ [V.ref p5, V.ref p6]) ++ [V.ref p7, V.ref p8]) ++ [V.ref p9, V.ref p10])) = G20 at t20 el4 ⊢
    have hx := t20 _ _ hx
    have e0 := t20 _ _ e0
    have e1 := t20 _ _ e1
    have e2 := t20 _ _ e2
    have el0 := t20 _ _ el0
    have e3 := t20 _ _ e3
    have e4 := t20 _ _ e4
    have em1 := t20 _ _ em1
    have el1 := t20 _ _ el1
    have e5 := t20 _ _ e5
    have e6 := t20 _ _ e6
    have em2 := t20 _ _ em2
    have el2 := t20 _ _ el2
    have e7 := t20 _ _ e7
    have e8 := t20 _ _ e8
    have em3 := t20 _ _ em3
    have el3 := t20 _ _ el3
    have e9 := t20 _ _ e9
    have e10 := t20 _ _ e10
    have em4 := t20 _ _ em4
    have S := S.trans t20
    refine tcomp_listG (a := l4) (xs := (((([V.ref p0, V.ref p1, V.ref p2] ++ [V.ref p3, V.ref p4]) ++ [V.ref p5, V.ref p6]) ++ [V.ref p7, V.ref p8]) ++ [V.ref p9, V.ref p10])) G20 (fun R r => ⟨_, rfl, r⟩) (SqL.of el4) (kindF [b0, b1, b2, b3, b4, b5, b6, b7, b8, b9, b10]) (· = G20) rfl (fun H' e => by rw [e]; exact SqL.of el4) (sl1000 (by simp)) (fun i x H' Cy Cn hx e cy cn => ?_) (fun H' l e hn => ?_)
    · subst H'
      have each : ∃ p w b, x = V.ref p ∧ G20 p = some (.tup [V.str w, V.bl b]) ∧ kindF [b0, b1, b2, b3, b4, b5, b6, b7, b8, b9, b10] i = if b = true then [V.str w] else [] := by
        match i, hx with
        | 0, hx => exact ⟨p0, _, b0, by cases hx; rfl, e0, rfl⟩
        | 1, hx => exact ⟨p1, _, b1, by cases hx; rfl, e1, rfl⟩
        | 2, hx => exact ⟨p2, _, b2, by cases hx; rfl, e2, rfl⟩
        | 3, hx => exact ⟨p3, _, b3, by cases hx; rfl, e3, rfl⟩
        | 4, hx => exact ⟨p4, _, b4, by cases hx; rfl, e4, rfl⟩
        | 5, hx => exact ⟨p5, _, b5, by cases hx; rfl, e5, rfl⟩
        | 6, hx => exact ⟨p6, _, b6, by cases hx; rfl, e6, rfl⟩
        | 7, hx => exact ⟨p7, _, b7, by cases hx; rfl, e7, rfl⟩
        | 8, hx => exact ⟨p8, _, b8, by cases hx; rfl, e8, rfl⟩
        | 9, hx => exact ⟨p9, _, b9, by cases hx; rfl, e9, rfl⟩
        | 10, hx => exact ⟨p10, _, b10, by cases hx; rfl, e10, rfl⟩
        | i + 11, hx => cases hx
      obtain ⟨p, w, b, rfl, ep, ef⟩ := each
      refine tupT ep ⟨KeepSt.two, ?_⟩
      simp only [tSeq, tIfS, tRet, tRetN, tC, tVar, tOp, tUn, tTest, tB, tAnd, tOr, tNot, tAndV, tOrV, tNotV, tIf, tChain, tCons, tNil, tCall, tCB, tLst, tTup, tSl, tNoPart, tPart, gName, tNext, tDrop, tAsg, tAsgC, tBM, tYes, tDNewK, rI, rI0, rU, rEq, rNe, rAbs, rIntT, CDiv, add_ii, add_ss, mul_ii, mul_si, ix_si, eq_ii, eq_ss, eq_bb, ne_ii, ne_ss, ne_ni, ne_in, in_s1, notin_s1, is_xn, is_bb, isnot_xn, isnot_bb, sl_s, len_s, find_ss, index_ss, List.append_nil, List.cons_append, List.nil_append, List.getElem?_cons_succ, List.getElem?_cons_zero, List.set_cons_succ, List.set_cons_zero, Option.some.injEq, V.int.injEq, V.bl.injEq, V.str.injEq, V.ref.injEq, V.ty.injEq, List.cons.injEq, and_true, true_and, exists_eq_left, exists_eq_left', exists_and_left, exists_eq', exists_const, exists_and_right, exists_eq_right, exists_eq_right', reduceCtorEq, false_and, and_false, exists_false, or_false, false_or, decide_eq_true_eq, Bool.not_eq_true', decide_eq_false_iff_not, Bool.false_eq_true, if_false, if_true, mk_app, mk_len, sg_mk, mk_one, decide_true, decide_false, Bool.not_true, Bool.not_false, ite_true, ite_false, not_true_eq_false, not_false_eq_true, cxK, cutTo1, cutFrom1, mk_iff, tyV_str, stComp, List.map_cons, List.map_nil, Option.join_some, Option.join_none, gt_iff_lt, ge_iff_le, tRaise, tTryR, tCallH, tDisp, tPairs, gSub, CPow]
      cases b with
      | true => exact cy _ _ (by rw [ef]; rfl) rfl
      | false => exact cn _ (by rw [ef]; rfl) rfl
    · subst H'
      exact q l _ (S.no hn) (Same.upd S hn) upd_same
noncomputable def sp__law_opened (T : Txt K mg) : Sp := fun vs H Q E => ∃ x, vs = [x] ∧ ((NB K H x ∧ ∀ l H', H l = none → Same H H' → H' l = some (.lst [V.str (Str.ofString "bytes"), V.str (Str.ofString "value")]) → Q (.ref l) H') ∨ ∃ ns, BR H x ns ∧ (crc ns = 0#16 → ∀ l H', H l = none → Same H H' → H' l = some (.lst ((ns.take (ns.length - 2)).map V.int)) → Q (.ref l) H') ∧ (crc ns ≠ 0#16 → ∀ l H', H l = none → Same H H' → H' l = some (.lst [V.str (Str.ofString "check"), V.str (Str.ofString "value")]) → Q (.ref l) H'))
theorem sc__law_opened : FnScope ["_law_row", "_law_e"] ["_law_row"] (defScope s__law_opened) := ⟨rfl, rfl, rfl, by decide +kernel, rfl, by decide +kernel, by decide +kernel⟩
theorem ok__law_opened (T : Txt K mg) : FnOk P w K mg base CX0 5 T.d__law_opened.f T.d__law_opened.fd ["_law_row"] (sp__law_opened T) := by
  have nd := sc__law_opened.nd
  refine T.d__law_opened.F.ok sc__law_opened (fun vs H Q E h => ?_) (fun cdv A outer s H vs Q E hr h => ?_)
  · obtain ⟨x, rfl, h⟩ := h
    rfl
  · obtain ⟨x, rfl, h⟩ := h
    have hu := hr.units0
    refine ⟨_, (pss_one (ps_tryR (K := K) (i := 1) rfl rfl rfl nd rfl rfl rfl T.m_YardError (pex_call rfl T.d_opened (ok_opened T) (hr.mono (by decide)) (pa1 (pv 0) pa_nil)) (fun x => (pss_one (ps_ret (pcH T.d__law_kind (ok__law_kind T) ((hr.mono (by decide)).mark x) (pa1 (pv 1) pa_nil))))))), ?_⟩
    rw [show start ["_law_row", "_law_e"] [x] = [some (x), none] from rfl]
    simp only [tSeq, tIfS, tRet, tRetN, tC, tVar, tOp, tUn, tTest, tB, tAnd, tOr, tNot, tAndV, tOrV, tNotV, tIf, tChain, tCons, tNil, tCall, tCB, tLst, tTup, tSl, tNoPart, tPart, gName, tNext, tDrop, tAsg, tAsgC, tBM, tYes, tDNewK, rI, rI0, rU, rEq, rNe, rAbs, rIntT, CDiv, add_ii, add_ss, mul_ii, mul_si, ix_si, eq_ii, eq_ss, eq_bb, ne_ii, ne_ss, ne_ni, ne_in, in_s1, notin_s1, is_xn, is_bb, isnot_xn, isnot_bb, sl_s, len_s, find_ss, index_ss, List.append_nil, List.cons_append, List.nil_append, List.getElem?_cons_succ, List.getElem?_cons_zero, List.set_cons_succ, List.set_cons_zero, Option.some.injEq, V.int.injEq, V.bl.injEq, V.str.injEq, V.ref.injEq, V.ty.injEq, List.cons.injEq, and_true, true_and, exists_eq_left, exists_eq_left', exists_and_left, exists_eq', exists_const, exists_and_right, exists_eq_right, exists_eq_right', reduceCtorEq, false_and, and_false, exists_false, or_false, false_or, decide_eq_true_eq, Bool.not_eq_true', decide_eq_false_iff_not, Bool.false_eq_true, if_false, if_true, mk_app, mk_len, sg_mk, mk_one, decide_true, decide_false, Bool.not_true, Bool.not_false, ite_true, ite_false, not_true_eq_false, not_false_eq_true, cxK, cutTo1, cutFrom1, mk_iff, tyV_str, stComp, List.map_cons, List.map_nil, Option.join_some, Option.join_none, gt_iff_lt, ge_iff_le, tRaise, tTryR, tCallH, tDisp, tPairs, gSub, CPow]
    refine ⟨x, rfl, ?_⟩
    rcases h with ⟨hn, q⟩ | ⟨ns, hb, q1, q2⟩
    · refine .inl ⟨hn, fun H1 s1 => ⟨_, rfl, T.ex_BadBytes, fun y oy ny hy => ⟨⟨oy, upd_same, hy.2.2⟩, y, oy, _, _, rfl, upd_same, hy, T.cl_BadBytes, kd_bytes T, fun l H2 hl s2 el => ?_⟩⟩⟩
      have s3 := Same.upd s1 ny (o := .frz oy (.own y))
      exact q l H2 (s3.no hl) (s3.trans s2) el
    · refine .inr ⟨ns, hb, q1, fun hc H1 s1 => ⟨_, rfl, T.ex_BadCheck, fun y oy ny hy => ⟨⟨oy, upd_same, hy.2.2⟩, y, oy, _, _, rfl, upd_same, hy, T.cl_BadCheck, kd_check T, fun l H2 hl s2 el => ?_⟩⟩⟩
      have s3 := Same.upd s1 ny (o := .frz oy (.own y))
      exact q2 hc l H2 (s3.no hl) (s3.trans s2) el
noncomputable def sp__law_turned (K : PySem.W.Frag) : Sp := fun vs H Q E => ∃ (a b : Addr) (ns : List Int) (ks : List Nat), vs = [.ref a, .ref b] ∧ SqL K H a (ns.map V.int) ∧ SqL K H b (ks.map fun k : Nat => V.int (k : Int)) ∧ IsB ns ∧ ns.length ≤ 900 ∧ (∀ k ∈ ks, k < 8 * ns.length) ∧ ∀ l H', H l = none → Same H H' → H' l = some (.lst ((turnF ns ks).map V.int)) → Q (.ref l) H'
theorem sc__law_turned : FnScope ["_law_row", "_law_bits", "_law_found", "_law_bit"] ["_law_row", "_law_bits"] (defScope s__law_turned) := ⟨rfl, rfl, rfl, by decide +kernel, rfl, by decide +kernel, by decide +kernel⟩
theorem ok__law_turned (T : Txt K mg) : FnOk P w K mg base CX0 1 T.d__law_turned.f T.d__law_turned.fd ["_law_row", "_law_bits"] (sp__law_turned K) := by
  have nd := sc__law_turned.nd
  refine T.d__law_turned.F.ok sc__law_turned (fun vs H Q E h => ?_) (fun cdv A outer s H vs Q E hr h => ?_)
  · obtain ⟨a, b, ns, ks, rfl, hq, hq2, hb, hl, hk, q⟩ := h
    rfl
  · obtain ⟨a, b, ns, ks, rfl, hq, hq2, hb, hl, hk, q⟩ := h
    have hu := hr.units0
    refine ⟨_, (pss_cons (ps_set (i := 2) nd rfl (Or.inl rfl) (pcT (call_listK (K := K)) rfl T.n_list (by kernel_rfl) (pa1 (pv 0) pa_nil)))
      (pss_cons (ps_for PassesOwn.never rfl (pi_listK (K := K) (pv 1)) (pg_name (i := 3) nd rfl (Or.inl rfl))
        (pss_one (ps_asg (pe_op op_xor (pe_ix (o_ix (K := K)) (pv 2) (pe_op op_fdiv (pv 3) pe_int) (fun _ _ => rfl)) (pe_ix (o_ix (K := K)) (pe_lst (pa1 pe_int (pa1 pe_int (pa1 pe_int (pa1 pe_int (pa1 pe_int (pa1 pe_int (pa1 pe_int (pa1 pe_int pa_nil))))))))) (pe_op op_mod (pv 3) pe_int) (fun _ _ => rfl))) (pg_sub (pv 2) (pe_op op_fdiv (pv 3) pe_int) set_list))))
      (pss_one (ps_ret (pv 2))))), ?_⟩
    rw [show start ["_law_row", "_law_bits", "_law_found", "_law_bit"] [V.ref a, V.ref b] = [some (V.ref a), some (V.ref b), none, none] from rfl]
    simp only [tSeq, tIfS, tRet, tRetN, tC, tVar, tOp, tUn, tTest, tB, tAnd, tOr, tNot, tAndV, tOrV, tNotV, tIf, tChain, tCons, tNil, tCall, tCB, tLst, tTup, tSl, tNoPart, tPart, gName, tNext, tDrop, tAsg, tAsgC, tBM, tYes, tDNewK, rI, rI0, rU, rEq, rNe, rAbs, rIntT, CDiv, add_ii, add_ss, mul_ii, mul_si, ix_si, eq_ii, eq_ss, eq_bb, ne_ii, ne_ss, ne_ni, ne_in, in_s1, notin_s1, is_xn, is_bb, isnot_xn, isnot_bb, sl_s, len_s, find_ss, index_ss, List.append_nil, List.cons_append, List.nil_append, List.getElem?_cons_succ, List.getElem?_cons_zero, List.set_cons_succ, List.set_cons_zero, Option.some.injEq, V.int.injEq, V.bl.injEq, V.str.injEq, V.ref.injEq, V.ty.injEq, List.cons.injEq, and_true, true_and, exists_eq_left, exists_eq_left', exists_and_left, exists_eq', exists_const, exists_and_right, exists_eq_right, exists_eq_right', reduceCtorEq, false_and, and_false, exists_false, or_false, false_or, decide_eq_true_eq, Bool.not_eq_true', decide_eq_false_iff_not, Bool.false_eq_true, if_false, if_true, mk_app, mk_len, sg_mk, mk_one, decide_true, decide_false, Bool.not_true, Bool.not_false, ite_true, ite_false, not_true_eq_false, not_false_eq_true, cxK, cutTo1, cutFrom1, mk_iff, tyV_str, stComp, List.map_cons, List.map_nil, Option.join_some, Option.join_none, gt_iff_lt, ge_iff_le, tRaise, tTryR, tCallH, tDisp, tPairs, gSub, CPow]
    refine listL hq fun l nl => ?_
    have s1 := Same.upd (Same.refl H) nl (o := .lst (ns.map V.int))
    have el : upd H l (.lst (ns.map V.int)) l = some (.lst (ns.map V.int)) := upd_same
    generalize upd H l (.lst (ns.map V.int)) = H1 at s1 el ⊢
    refine tfor_list (a := b) (xs := ks.map fun k : Nat => V.int (k : Int)) (fun R r => ⟨_, rfl, r⟩) (s1.seq hq2) (fun i σ H' => Same H H' ∧ ∃ v1, σ = [some (V.ref a), some (V.ref b), some (V.ref l), v1] ∧ H' l = some (.lst ((turnF ns (ks.take i)).map V.int))) ⟨s1, none, rfl, el⟩ (fun i σ H' p => p.1.seq hq2) ?_ ?_
    · rintro i x σ H2 hx ⟨s2, v1, rfl, e2⟩
      rw [List.getElem?_map] at hx
      cases e : ks[i]? with
      | none => rw [e] at hx; cases hx
      | some k =>
        rw [e] at hx
        cases hx
        have hki := hk k (List.mem_of_getElem? e)
        have hB := turn_isB (ks.take i) hb (fun k hk' => hk k (List.mem_of_mem_take hk'))
        have hlen := turn_len (ks.take i) ns
        have enext : turnF ns (ks.take (i + 1)) = flip1 (turnF ns (ks.take i)) k := by
          rw [List.take_add_one, e]
          simp [turnF, List.foldl_append]
        generalize turnF ns (ks.take i) = ms at e2 hB hlen enext ⊢
        have hk8 : k / 8 < ms.length := by omega
        have hg : ms.getD (k / 8) 0 = ms[k / 8] := by simp [List.getD, hk8]
        simp only [tSeq, tIfS, tRet, tRetN, tC, tVar, tOp, tUn, tTest, tB, tAnd, tOr, tNot, tAndV, tOrV, tNotV, tIf, tChain, tCons, tNil, tCall, tCB, tLst, tTup, tSl, tNoPart, tPart, gName, tNext, tDrop, tAsg, tAsgC, tBM, tYes, tDNewK, rI, rI0, rU, rEq, rNe, rAbs, rIntT, CDiv, add_ii, add_ss, mul_ii, mul_si, ix_si, eq_ii, eq_ss, eq_bb, ne_ii, ne_ss, ne_ni, ne_in, in_s1, notin_s1, is_xn, is_bb, isnot_xn, isnot_bb, sl_s, len_s, find_ss, index_ss, List.append_nil, List.cons_append, List.nil_append, List.getElem?_cons_succ, List.getElem?_cons_zero, List.set_cons_succ, List.set_cons_zero, Option.some.injEq, V.int.injEq, V.bl.injEq, V.str.injEq, V.ref.injEq, V.ty.injEq, List.cons.injEq, and_true, true_and, exists_eq_left, exists_eq_left', exists_and_left, exists_eq', exists_const, exists_and_right, exists_eq_right, exists_eq_right', reduceCtorEq, false_and, and_false, exists_false, or_false, false_or, decide_eq_true_eq, Bool.not_eq_true', decide_eq_false_iff_not, Bool.false_eq_true, if_false, if_true, mk_app, mk_len, sg_mk, mk_one, decide_true, decide_false, Bool.not_true, Bool.not_false, ite_true, ite_false, not_true_eq_false, not_false_eq_true, cxK, cutTo1, cutFrom1, mk_iff, tyV_str, stComp, List.map_cons, List.map_nil, Option.join_some, Option.join_none, gt_iff_lt, ge_iff_le, tRaise, tTryR, tCallH, tDisp, tPairs, gSub, CPow]
        have hkn : ((k : Int) / 8).toNat = k / 8 := by omega
        refine ⟨by decide, ixL (SqL.of e2) (atIn (c := V.int ms[k / 8]) (by omega) (by rw [hkn]; simp [hk8])) ⟨sl1000 (by simp), fun p np => ⟨by decide, ?_⟩⟩⟩
        have t := Same.upd (Same.refl H2) np (o := .lst [V.int 128, V.int 64, V.int 32, V.int 16, V.int 8, V.int 4, V.int 2, V.int 1])
        refine ixL (SqL.of upd_same) (atIn (c := V.int ((m8.getD (k % 8) 0 : Nat) : Int)) (by omega) (by rw [show ((k : Int) % 8).toNat = k % 8 by omega]; exact bitm _ (by omega))) ⟨_, rfl, _, rfl, ⟨by decide, by decide⟩, ?_⟩
        refine ⟨l, ms.map V.int, _, k / 8, rfl, rfl, t _ _ e2, by rw [ix_at (by omega) (by rw [List.length_map]; omega), hkn], (s2.trans t).set nl, ?_⟩
        rw [upd_same, enext, flip_at hB (by omega), hg]
    · rintro σ H2 ⟨s2, v1, rfl, e2⟩
      simp only [tSeq, tIfS, tRet, tRetN, tC, tVar, tOp, tUn, tTest, tB, tAnd, tOr, tNot, tAndV, tOrV, tNotV, tIf, tChain, tCons, tNil, tCall, tCB, tLst, tTup, tSl, tNoPart, tPart, gName, tNext, tDrop, tAsg, tAsgC, tBM, tYes, tDNewK, rI, rI0, rU, rEq, rNe, rAbs, rIntT, CDiv, add_ii, add_ss, mul_ii, mul_si, ix_si, eq_ii, eq_ss, eq_bb, ne_ii, ne_ss, ne_ni, ne_in, in_s1, notin_s1, is_xn, is_bb, isnot_xn, isnot_bb, sl_s, len_s, find_ss, index_ss, List.append_nil, List.cons_append, List.nil_append, List.getElem?_cons_succ, List.getElem?_cons_zero, List.set_cons_succ, List.set_cons_zero, Option.some.injEq, V.int.injEq, V.bl.injEq, V.str.injEq, V.ref.injEq, V.ty.injEq, List.cons.injEq, and_true, true_and, exists_eq_left, exists_eq_left', exists_and_left, exists_eq', exists_const, exists_and_right, exists_eq_right, exists_eq_right', reduceCtorEq, false_and, and_false, exists_false, or_false, false_or, decide_eq_true_eq, Bool.not_eq_true', decide_eq_false_iff_not, Bool.false_eq_true, if_false, if_true, mk_app, mk_len, sg_mk, mk_one, decide_true, decide_false, Bool.not_true, Bool.not_false, ite_true, ite_false, not_true_eq_false, not_false_eq_true, cxK, cutTo1, cutFrom1, mk_iff, tyV_str, stComp, List.map_cons, List.map_nil, Option.join_some, Option.join_none, gt_iff_lt, ge_iff_le, tRaise, tTryR, tCallH, tDisp, tPairs, gSub, CPow]
      rw [List.length_map, List.take_length] at e2
      exact q l H2 nl s2 e2
noncomputable def sp__law_bent (K : PySem.W.Frag) : Sp := fun vs H Q E => ∃ (a : Addr) (ns : List Int) (n : Int), vs = [.ref a, .int n] ∧ H a = some (.lst (ns.map V.int)) ∧ IsB ns ∧ 2 ≤ ns.length ∧ ns.length ≤ 100 ∧ 0 ≤ n ∧ ∀ l H' ms, H l = none → Same H H' → H' l = some (.lst (ms.map V.int)) → IsB ms → ms.length = ns.length → crc ms ≠ crc ns → Q (.ref l) H'
theorem sc__law_bent : FnScope ["_law_row", "_law_number", "_law_more", "_law_at", "_law_first", "_law_many", "_law_drawn"] ["_law_row", "_law_number"] (defScope s__law_bent) := ⟨rfl, rfl, rfl, by decide +kernel, rfl, by decide +kernel, by decide +kernel⟩
theorem ok__law_bent (T : Txt K mg) : FnOk P w K mg base CX0 2 T.d__law_bent.f T.d__law_bent.fd ["_law_row", "_law_number"] (sp__law_bent K) := by
  have nd := sc__law_bent.nd
  refine T.d__law_bent.F.ok sc__law_bent (fun vs H Q E h => ?_) (fun cdv A outer s H vs Q E hr h => ?_)
  · obtain ⟨a, ns, n, rfl, ha, hb, h2, h100, n0, q⟩ := h
    rfl
  · obtain ⟨a, ns, n, rfl, ha, hb, h2, h100, n0, q⟩ := h
    have hu := hr.units0
    refine ⟨_, (pss_cons (ps_set (i := 2) nd rfl (Or.inr rfl) (pe_op op_fdiv (pv 1) pe_int))
      (pss_cons (ps_set (i := 3) nd rfl (Or.inl rfl) (pe_op op_mod (pv 2) (pcB (o_len (K := K)) rfl T.n_len (by kernel_rfl) (pa1 (pv 0) pa_nil))))
      (pss_cons (ps_if (pt_cmpR (o_eq (K := K) hu) (pe_op op_mod (pv 1) pe_int) pe_int (nomark _)) (pss_one (ps_ret (pe_op o_add (pe_op o_add (pe_slice (o_sl (K := K)) (pv 0) po_none (po_some (pv 3))) (pe_lst (pa1 (pe_op op_mod (pe_op o_add (pe_op o_add (pe_ix (o_ix (K := K)) (pv 0) (pv 3) (fun _ _ => rfl)) pe_int) (pe_op op_mod (pe_op op_fdiv (pv 2) pe_int) pe_int)) pe_int) pa_nil))) (pe_slice (o_sl (K := K)) (pv 0) (po_some (pe_op o_add (pv 3) pe_int)) po_none)))) pss_nil)
      (pss_cons (ps_set (i := 3) nd rfl (Or.inl rfl) (pe_op op_mod (pv 2) (pe_op op_sub (pcB (o_len (K := K)) rfl T.n_len (by kernel_rfl) (pa1 (pv 0) pa_nil)) pe_int)))
      (pss_cons (ps_if (PW.pt (pw_and (pt_cmpR (o_eq (K := K) hu) (pe_op op_mod (pv 1) pe_int) pe_int (nomark _)) (pw_and1 (pt_cmpR (o_ne (K := K) hu) (pe_ix (o_ix (K := K)) (pv 0) (pv 3) (fun _ _ => rfl)) (pe_ix (o_ix (K := K)) (pv 0) (pe_op o_add (pv 3) pe_int) (fun _ _ => rfl)) (nomark _))))) (pss_one (ps_ret (pe_op o_add (pe_op o_add (pe_slice (o_sl (K := K)) (pv 0) po_none (po_some (pv 3))) (pe_lst (pa1 (pe_ix (o_ix (K := K)) (pv 0) (pe_op o_add (pv 3) pe_int) (fun _ _ => rfl)) (pa1 (pe_ix (o_ix (K := K)) (pv 0) (pv 3) (fun _ _ => rfl)) pa_nil)))) (pe_slice (o_sl (K := K)) (pv 0) (po_some (pe_op o_add (pv 3) pe_int)) po_none)))) pss_nil)
      (pss_cons (ps_set (i := 4) nd rfl (Or.inr rfl) (pe_op op_mod (pv 2) (pe_op op_sub (pe_op o_mul pe_int (pcB (o_len (K := K)) rfl T.n_len (by kernel_rfl) (pa1 (pv 0) pa_nil))) pe_int)))
      (pss_cons (ps_set (i := 5) nd rfl (Or.inl rfl) (pe_op o_add pe_int (pe_op op_mod (pe_op op_fdiv (pv 2) pe_int) pe_int)))
      (pss_cons (ps_set_lcomp (i := 6) nd rfl rfl (N' := ["_law_k", "_law_more"]) (src := [none, some 2]) rfl (CompScope.of (by kernel_rfl)) (pi_range2 rfl T.n_range (pa1 pe_int (pa1 (pe_op op_sub (pv 5) pe_int) pa_nil))) (fun _ _ _ _ _ _ => (pg_name (i := 0) (show (["_law_k", "_law_more"] : List Str).Nodup by decide +kernel) rfl (Or.inl rfl))) (fun _ _ _ _ _ _ => (pif_one (pt_cmpR (o_eq (K := K) hu) (pe_op op_mod (pe_op op_fdiv (pe_op op_fdiv (pv 1) (pe_op o_mul pe_int (pe_op op_pow pe_int pe_int))) (pe_op o_add pe_int (pe_op o_mul (pe_op o_mul pe_int (pv 0)) (pv 0)))) pe_int) pe_int (nomark _)))) (fun _ _ _ _ _ _ => (pv 0)))
      (pss_one (ps_ret (pc1 T.d__law_turned (ok__law_turned T) (hr.mono (by decide)) (pa1 (pv 0) (pa1 (pcB (o_sortG (w := w)) rfl T.n_sorted (by kernel_rfl) (pa1 (pcT (call_setI (K := K) (w := w)) rfl T.n_set (by kernel_rfl) (pa1 (pe_op o_add (pe_lst (pa1 (pv 4) (pa1 (pe_op op_sub (pe_op o_add (pv 4) (pv 5)) pe_int) pa_nil))) (pe_lcomp (N' := ["_law_k", "_law_first"]) (src := [none, some 4]) rfl (CompScope.of (by kernel_rfl)) (pi_listK (K := K) (pv 6)) (fun _ _ _ _ _ _ => (pg_name (i := 0) (show (["_law_k", "_law_first"] : List Str).Nodup by decide +kernel) rfl (Or.inl rfl))) (fun _ _ _ _ _ _ => pif_nil) (fun _ _ _ _ _ _ => (pe_op o_add (pv 1) (pv 0))))) pa_nil)) pa_nil)) pa_nil))))))))))))), ?_⟩
    rw [show start ["_law_row", "_law_number", "_law_more", "_law_at", "_law_first", "_law_many", "_law_drawn"] [V.ref a, V.int n] = [some (V.ref a), some (V.int n), none, none, none, none, none] from rfl]
    simp only [tSeq, tIfS, tRet, tRetN, tC, tVar, tOp, tUn, tTest, tB, tAnd, tOr, tNot, tAndV, tOrV, tNotV, tIf, tChain, tCons, tNil, tCall, tCB, tLst, tTup, tSl, tNoPart, tPart, gName, tNext, tDrop, tAsg, tAsgC, tBM, tYes, tDNewK, rI, rI0, rU, rEq, rNe, rAbs, rIntT, CDiv, add_ii, add_ss, mul_ii, mul_si, ix_si, eq_ii, eq_ss, eq_bb, ne_ii, ne_ss, ne_ni, ne_in, in_s1, notin_s1, is_xn, is_bb, isnot_xn, isnot_bb, sl_s, len_s, find_ss, index_ss, List.append_nil, List.cons_append, List.nil_append, List.getElem?_cons_succ, List.getElem?_cons_zero, List.set_cons_succ, List.set_cons_zero, Option.some.injEq, V.int.injEq, V.bl.injEq, V.str.injEq, V.ref.injEq, V.ty.injEq, List.cons.injEq, and_true, true_and, exists_eq_left, exists_eq_left', exists_and_left, exists_eq', exists_const, exists_and_right, exists_eq_right, exists_eq_right', reduceCtorEq, false_and, and_false, exists_false, or_false, false_or, decide_eq_true_eq, Bool.not_eq_true', decide_eq_false_iff_not, Bool.false_eq_true, if_false, if_true, mk_app, mk_len, sg_mk, mk_one, decide_true, decide_false, Bool.not_true, Bool.not_false, ite_true, ite_false, not_true_eq_false, not_false_eq_true, cxK, cutTo1, cutFrom1, mk_iff, tyV_str, stComp, List.map_cons, List.map_nil, Option.join_some, Option.join_none, gt_iff_lt, ge_iff_le, tRaise, tTryR, tCallH, tDisp, tPairs, gSub, CPow]
    have hlm : (ns.map V.int).length = ns.length := List.length_map ..
    have hn3 : 0 ≤ n / 3 := by omega
    refine ⟨⟨by decide, by decide⟩, lenL (SqL.of ha) ⟨_, rfl, by omega, by decide, ite2 (fun h3 => ?_) fun h3 => ?_⟩⟩
    · rw [hlm]
      have S := Same.refl H
      obtain ⟨p, hp⟩ : ∃ p, p = n / 3 % (ns.length : Int) := ⟨_, rfl⟩
      rw [← hp]
      have p0 : 0 ≤ p := by rw [hp]; exact Int.emod_nonneg _ (by omega)
      have p1 : p < (ns.length : Int) := by rw [hp]; exact Int.emod_lt_of_pos _ (by omega)
      have hpn : p.toNat < ns.length := by omega
      have hp1 : (p + 1).toNat = p.toNat + 1 := by omega
      have hx := hb ns[p.toNat] (List.getElem_mem hpn)
      refine slL (SqL.of ha) fun u nu => ?_
      rw [cutTo _ p0]
      have t1 := Same.upd (Same.refl H) nu (o := (.lst ((ns.map V.int).take p.toNat)))
      have eu : upd H u (.lst ((ns.map V.int).take p.toNat)) u = some (.lst ((ns.map V.int).take p.toNat)) := upd_same
      generalize upd H u (.lst ((ns.map V.int).take p.toNat)) = G1 at t1 eu ⊢
      have ha := t1 _ _ ha
      have S := S.trans t1
      obtain ⟨v, hv⟩ : ∃ v, v = (ns[p.toNat] + 1 + n / 3 / 62 % 255) % 256 := ⟨_, rfl⟩
      refine ixL (SqL.of ha) (atIn (c := V.int ns[p.toNat]) p0 (by simp [hpn])) (add_ii.mpr ⟨⟨by decide, by decide⟩, by decide, add_ii.mpr ⟨_, rfl, by decide, sl1000 (by simp), fun o no => ?_⟩⟩)
      rw [← hv]
      have t2 := Same.upd (Same.refl G1) no (o := (.lst [V.int v]))
      have eo : upd G1 o (.lst [V.int v]) o = some (.lst [V.int v]) := upd_same
      generalize upd G1 o (.lst [V.int v]) = G2 at t2 eo ⊢
      have ha := t2 _ _ ha
      have eu := t2 _ _ eu
      have S := S.trans t2
      refine catL eu eo (sl1000 (by simp; omega)) fun c nc => ?_
      have t3 := Same.upd (Same.refl G2) nc (o := (.lst ((ns.map V.int).take p.toNat ++ [V.int v])))
      have ec : upd G2 c (.lst ((ns.map V.int).take p.toNat ++ [V.int v])) c = some (.lst ((ns.map V.int).take p.toNat ++ [V.int v])) := upd_same
      generalize upd G2 c (.lst ((ns.map V.int).take p.toNat ++ [V.int v])) = G3 at t3 ec ⊢
      have ha := t3 _ _ ha
      have eu := t3 _ _ eu
      have eo := t3 _ _ eo
      have S := S.trans t3
      refine slL (SqL.of ha) fun d ndd => ?_
      rw [cutFr _ (show 0 ≤ p + 1 by omega), hp1]
      have t4 := Same.upd (Same.refl G3) ndd (o := (.lst ((ns.map V.int).drop (p.toNat + 1))))
      have ed : upd G3 d (.lst ((ns.map V.int).drop (p.toNat + 1))) d = some (.lst ((ns.map V.int).drop (p.toNat + 1))) := upd_same
      generalize upd G3 d (.lst ((ns.map V.int).drop (p.toNat + 1))) = G4 at t4 ed ⊢
      have ha := t4 _ _ ha
      have eu := t4 _ _ eu
      have eo := t4 _ _ eo
      have ec := t4 _ _ ec
      have S := S.trans t4
      have hT := byte_told hb hpn (v := v) (by omega) (by omega)
      refine catL ec ed (sl1000 (by simp; omega)) fun r nr => q r _ (ns.set p.toNat v) (S.no nr) (Same.upd S nr) ?_ hT.1 List.length_set hT.2
      rw [upd_same, ← cut_set ns hpn v]
      simp
    · refine lenL (SqL.of ha) ⟨_, rfl, by omega, by decide, ?_⟩
      rw [hlm]
      obtain ⟨p, hp⟩ : ∃ p, p = n / 3 % ((ns.length : Int) - 1) := ⟨_, rfl⟩
      rw [← hp]
      have p0 : 0 ≤ p := by rw [hp]; exact Int.emod_nonneg _ (by omega)
      have p1 : p < (ns.length : Int) - 1 := by rw [hp]; exact Int.emod_lt_of_pos _ (by omega)
      have hpn : p.toNat + 1 < ns.length := by omega
      have hp1 : (p + 1).toNat = p.toNat + 1 := by omega
      have hp2 : (p + 2).toNat = p.toNat + 2 := by omega
      have ex : atI (ns.map V.int) p = some (V.int ns[p.toNat]) := atIn p0 (by simp [show p.toNat < ns.length by omega])
      have ey : atI (ns.map V.int) (p + 1) = some (V.int ns[p.toNat + 1]) := atIn (by omega) (by rw [hp1]; simp [hpn])
      by_cases hsw : n % 3 = 1 ∧ ns[p.toNat] ≠ ns[p.toNat + 1]
      · rw [if_pos hsw.1]
        refine ixL (SqL.of ha) ex (ixL (SqL.of ha) ey (ne_ii.mpr ⟨_, rfl, ifY (by simp [hsw.2]) ?_⟩))
        have S := Same.refl H
        refine slL (SqL.of ha) fun u nu => ?_
        rw [cutTo _ p0]
        have t1 := Same.upd (Same.refl H) nu (o := (.lst ((ns.map V.int).take p.toNat)))
        have eu : upd H u (.lst ((ns.map V.int).take p.toNat)) u = some (.lst ((ns.map V.int).take p.toNat)) := upd_same
        generalize upd H u (.lst ((ns.map V.int).take p.toNat)) = G1 at t1 eu ⊢
        have ha := t1 _ _ ha
        have S := S.trans t1
        refine ixL (SqL.of ha) ey (ixL (SqL.of ha) ex ⟨sl1000 (by simp), fun o no => ?_⟩)
        have t2 := Same.upd (Same.refl G1) no (o := (.lst [V.int ns[p.toNat + 1], V.int ns[p.toNat]]))
        have eo : upd G1 o (.lst [V.int ns[p.toNat + 1], V.int ns[p.toNat]]) o = some (.lst [V.int ns[p.toNat + 1], V.int ns[p.toNat]]) := upd_same
        generalize upd G1 o (.lst [V.int ns[p.toNat + 1], V.int ns[p.toNat]]) = G2 at t2 eo ⊢
        have ha := t2 _ _ ha
        have eu := t2 _ _ eu
        have S := S.trans t2
        refine catL eu eo (sl1000 (by simp; omega)) fun c nc => ?_
        have t3 := Same.upd (Same.refl G2) nc (o := (.lst ((ns.map V.int).take p.toNat ++ [V.int ns[p.toNat + 1], V.int ns[p.toNat]])))
        have ec : upd G2 c (.lst ((ns.map V.int).take p.toNat ++ [V.int ns[p.toNat + 1], V.int ns[p.toNat]])) c = some (.lst ((ns.map V.int).take p.toNat ++ [V.int ns[p.toNat + 1], V.int ns[p.toNat]])) := upd_same
        generalize upd G2 c (.lst ((ns.map V.int).take p.toNat ++ [V.int ns[p.toNat + 1], V.int ns[p.toNat]])) = G3 at t3 ec ⊢
        have ha := t3 _ _ ha
        have eu := t3 _ _ eu
        have eo := t3 _ _ eo
        have S := S.trans t3
        refine slL (SqL.of ha) fun d ndd => ?_
        rw [cutFr _ (show 0 ≤ p + 2 by omega), hp2]
        have t4 := Same.upd (Same.refl G3) ndd (o := (.lst ((ns.map V.int).drop (p.toNat + 2))))
        have ed : upd G3 d (.lst ((ns.map V.int).drop (p.toNat + 2))) d = some (.lst ((ns.map V.int).drop (p.toNat + 2))) := upd_same
        generalize upd G3 d (.lst ((ns.map V.int).drop (p.toNat + 2))) = G4 at t4 ed ⊢
        have ha := t4 _ _ ha
        have eu := t4 _ _ eu
        have eo := t4 _ _ eo
        have ec := t4 _ _ ec
        have S := S.trans t4
        have hT := swap_told hb hpn hsw.2
        refine catL ec ed (sl1000 (by simp; omega)) fun r nr => q r _ _ (S.no nr) (Same.upd S nr) ?_ hT.1 (by rw [List.length_set, List.length_set]) hT.2
        rw [upd_same, ← cut_swap ns hpn]
        simp
      · refine ite2 (fun h1 => ixL (SqL.of ha) ex (ixL (SqL.of ha) ey (ne_ii.mpr ⟨_, rfl, ifN (by simp; exact Classical.byContradiction fun z => hsw ⟨h1, z⟩) ?_⟩))) fun h1 => ?_
        all_goals
          refine lenL (SqL.of ha) (mul_ii.mpr ⟨.inl ⟨by decide, by decide⟩, _, rfl, by omega, ⟨by decide, by decide⟩, by decide, ?_⟩)
          rw [hlm]
          obtain ⟨f, hf⟩ : ∃ f, f = n / 3 % (8 * (ns.length : Int) - 15) := ⟨_, rfl⟩
          obtain ⟨w1, hw⟩ : ∃ w1, w1 = n / 3 / 500 % 16 := ⟨_, rfl⟩
          rw [← hf, ← hw]
          have f0 : 0 ≤ f := by rw [hf]; exact Int.emod_nonneg _ (by omega)
          have f1 : f < 8 * (ns.length : Int) - 15 := by rw [hf]; exact Int.emod_lt_of_pos _ (by omega)
          have w0 : 0 ≤ w1 ∧ w1 ≤ 15 := by omega
          have ew : f + (1 + w1) - 1 = f + w1 := by omega
          rw [ew]
          clear hf hw ew
          refine tcomp_rng2 1 (1 + w1 - 1) (by omega) (by omega) (fun R r => by simp only [tSeq, tIfS, tRet, tRetN, tC, tVar, tOp, tUn, tTest, tB, tAnd, tOr, tNot, tAndV, tOrV, tNotV, tIf, tChain, tCons, tNil, tCall, tCB, tLst, tTup, tSl, tNoPart, tPart, gName, tNext, tDrop, tAsg, tAsgC, tBM, tYes, tDNewK, rI, rI0, rU, rEq, rNe, rAbs, rIntT, CDiv, add_ii, add_ss, mul_ii, mul_si, ix_si, eq_ii, eq_ss, eq_bb, ne_ii, ne_ss, ne_ni, ne_in, in_s1, notin_s1, is_xn, is_bb, isnot_xn, isnot_bb, sl_s, len_s, find_ss, index_ss, List.append_nil, List.cons_append, List.nil_append, List.getElem?_cons_succ, List.getElem?_cons_zero, List.set_cons_succ, List.set_cons_zero, Option.some.injEq, V.int.injEq, V.bl.injEq, V.str.injEq, V.ref.injEq, V.ty.injEq, List.cons.injEq, and_true, true_and, exists_eq_left, exists_eq_left', exists_and_left, exists_eq', exists_const, exists_and_right, exists_eq_right, exists_eq_right', reduceCtorEq, false_and, and_false, exists_false, or_false, false_or, decide_eq_true_eq, Bool.not_eq_true', decide_eq_false_iff_not, Bool.false_eq_true, if_false, if_true, mk_app, mk_len, sg_mk, mk_one, decide_true, decide_false, Bool.not_true, Bool.not_false, ite_true, ite_false, not_true_eq_false, not_false_eq_true, cxK, cutTo1, cutFrom1, mk_iff, tyV_str, stComp, List.map_cons, List.map_nil, Option.join_some, Option.join_none, gt_iff_lt, ge_iff_le, tRaise, tTryR, tCallH, tDisp, tPairs, gSub, CPow]; exact r) (fun i ys H' => H' = H ∧ ∃ ds : List Int, ys = ds.map V.int ∧ ds.length ≤ i ∧ ∀ d ∈ ds, 1 ≤ d ∧ d < 1 + (i : Int)) rfl ⟨rfl, [], rfl, by simp, by simp⟩ (fun i ys H' Cy Cn hi pv cy cn => ?_) (fun ys H' l pv nl => ?_)
          · obtain ⟨rfl, ds, rfl, hl, hd⟩ := pv
            have hi' : (i : Int) < 15 := by omega
            obtain ⟨k, hk⟩ : ∃ k, k = 1 + (i : Int) := ⟨_, rfl⟩
            rw [← hk]
            have k0 : 1 ≤ k ∧ k ≤ 15 := by omega
            have k3 : 0 ≤ 3 * k * k := Int.mul_nonneg (by omega) (by omega)
            have k4 : 3 * k * k ≤ 45 * 15 := Int.mul_le_mul (by omega) (by omega) (by omega) (by omega)
            simp only [tSeq, tIfS, tRet, tRetN, tC, tVar, tOp, tUn, tTest, tB, tAnd, tOr, tNot, tAndV, tOrV, tNotV, tIf, tChain, tCons, tNil, tCall, tCB, tLst, tTup, tSl, tNoPart, tPart, gName, tNext, tDrop, tAsg, tAsgC, tBM, tYes, tDNewK, rI, rI0, rU, rEq, rNe, rAbs, rIntT, CDiv, add_ii, add_ss, mul_ii, mul_si, ix_si, eq_ii, eq_ss, eq_bb, ne_ii, ne_ss, ne_ni, ne_in, in_s1, notin_s1, is_xn, is_bb, isnot_xn, isnot_bb, sl_s, len_s, find_ss, index_ss, List.append_nil, List.cons_append, List.nil_append, List.getElem?_cons_succ, List.getElem?_cons_zero, List.set_cons_succ, List.set_cons_zero, Option.some.injEq, V.int.injEq, V.bl.injEq, V.str.injEq, V.ref.injEq, V.ty.injEq, List.cons.injEq, and_true, true_and, exists_eq_left, exists_eq_left', exists_and_left, exists_eq', exists_const, exists_and_right, exists_eq_right, exists_eq_right', reduceCtorEq, false_and, and_false, exists_false, or_false, false_or, decide_eq_true_eq, Bool.not_eq_true', decide_eq_false_iff_not, Bool.false_eq_true, if_false, if_true, mk_app, mk_len, sg_mk, mk_one, decide_true, decide_false, Bool.not_true, Bool.not_false, ite_true, ite_false, not_true_eq_false, not_false_eq_true, cxK, cutTo1, cutFrom1, mk_iff, tyV_str, stComp, List.map_cons, List.map_nil, Option.join_some, Option.join_none, gt_iff_lt, ge_iff_le, tRaise, tTryR, tCallH, tDisp, tPairs, gSub, CPow]
            refine ⟨⟨by decide, by decide, by decide⟩, .inl ⟨by decide, by decide⟩, ⟨by decide, by decide⟩, .inl ⟨by decide, by decide⟩, .inr ⟨by omega, by omega⟩, ⟨by omega, by omega⟩, by decide, ite2 (fun _ => cy _ _ ⟨rfl, ds ++ [k], by rw [List.map_append]; rfl, by simp; omega, fun d hd' => ?_⟩) fun _ => cn _ ⟨rfl, ds, rfl, by omega, fun d hd' => ?_⟩⟩
            · rcases List.mem_append.mp hd' with z | z
              · have := hd d z
                omega
              · rw [List.mem_singleton.mp z]
                omega
            · have := hd d hd'
              omega
          · obtain ⟨rfl, ds, rfl, hl, hd⟩ := pv
            have hd2 : ∀ d ∈ ds, 1 ≤ d ∧ d < w1 := fun d hd' => by have := hd d hd'; omega
            have hl2 : ds.length ≤ 15 := by omega
            have S := Same.upd (Same.refl H') nl (o := .lst (ds.map V.int))
            have el : upd H' l (.lst (ds.map V.int)) l = some (.lst (ds.map V.int)) := upd_same
            generalize upd H' l (.lst (ds.map V.int)) = H1 at S el ⊢
            refine ⟨sl1000 (by simp), fun g ng => ?_⟩
            have t := Same.upd (Same.refl H1) ng (o := .lst [V.int f, V.int (f + w1)])
            have eg : upd H1 g (.lst [V.int f, V.int (f + w1)]) g = some (.lst [V.int f, V.int (f + w1)]) := upd_same
            generalize upd H1 g (.lst [V.int f, V.int (f + w1)]) = H2 at t eg ⊢
            have el := t _ _ el
            have S := S.trans t
            refine tcomp_list (a := l) (xs := ds.map V.int) H2 (fun R r => ⟨_, rfl, r⟩) (SqL.of el) (addV f) (· = H2) rfl rfl (fun H' e => by rw [e]; exact SqL.of el) (sl1000 (by simp; omega)) (fun i x H' Cy Cn hx e cy cn => ?_) (fun H3 r e nr => ?_)
            · subst H'
              rw [List.getElem?_map] at hx
              cases e : ds[i]? with
              | none => rw [e] at hx; cases hx
              | some d =>
                rw [e] at hx
                cases hx
                simp only [tSeq, tIfS, tRet, tRetN, tC, tVar, tOp, tUn, tTest, tB, tAnd, tOr, tNot, tAndV, tOrV, tNotV, tIf, tChain, tCons, tNil, tCall, tCB, tLst, tTup, tSl, tNoPart, tPart, gName, tNext, tDrop, tAsg, tAsgC, tBM, tYes, tDNewK, rI, rI0, rU, rEq, rNe, rAbs, rIntT, CDiv, add_ii, add_ss, mul_ii, mul_si, ix_si, eq_ii, eq_ss, eq_bb, ne_ii, ne_ss, ne_ni, ne_in, in_s1, notin_s1, is_xn, is_bb, isnot_xn, isnot_bb, sl_s, len_s, find_ss, index_ss, List.append_nil, List.cons_append, List.nil_append, List.getElem?_cons_succ, List.getElem?_cons_zero, List.set_cons_succ, List.set_cons_zero, Option.some.injEq, V.int.injEq, V.bl.injEq, V.str.injEq, V.ref.injEq, V.ty.injEq, List.cons.injEq, and_true, true_and, exists_eq_left, exists_eq_left', exists_and_left, exists_eq', exists_const, exists_and_right, exists_eq_right, exists_eq_right', reduceCtorEq, false_and, and_false, exists_false, or_false, false_or, decide_eq_true_eq, Bool.not_eq_true', decide_eq_false_iff_not, Bool.false_eq_true, if_false, if_true, mk_app, mk_len, sg_mk, mk_one, decide_true, decide_false, Bool.not_true, Bool.not_false, ite_true, ite_false, not_true_eq_false, not_false_eq_true, cxK, cutTo1, cutFrom1, mk_iff, tyV_str, stComp, List.map_cons, List.map_nil, Option.join_some, Option.join_none, gt_iff_lt, ge_iff_le, tRaise, tTryR, tCallH, tDisp, tPairs, gSub, CPow]
                exact cy _ _ rfl rfl
            subst H3
            rw [addV_map]
            have t := Same.upd (Same.refl H2) nr (o := .lst ((ds.map (f + ·)).map V.int))
            have er : upd H2 r (.lst ((ds.map (f + ·)).map V.int)) r = some (.lst ((ds.map (f + ·)).map V.int)) := upd_same
            generalize upd H2 r (.lst ((ds.map (f + ·)).map V.int)) = H3 at t er ⊢
            have eg := t _ _ eg
            have S := S.trans t
            refine catL eg er (sl1000 (by simp; omega)) fun c nc => ?_
            have ez : [V.int f, V.int (f + w1)] ++ (ds.map (f + ·)).map V.int = ([f, f + w1] ++ ds.map (f + ·)).map V.int := by rw [List.map_append]; rfl
            rw [ez]
            have lz : ([f, f + w1] ++ ds.map (f + ·)).length ≤ 17 := by simp; omega
            refine ⟨c, _, rfl, SqL.of upd_same, by omega, fun l2 nl2 => ⟨l2, _, rfl, upd_same, ?_, fun l3 ks nl3 hp => ?_⟩⟩
            · have := once_len ([f, f + w1] ++ ds.map (f + ·)) []
              unfold onceF
              simp only [List.length_nil] at this
              omega
            have S := Same.upd (Same.upd (Same.upd S nc (o := .lst (([f, f + w1] ++ ds.map (f + ·)).map V.int))) nl2 (o := setC w (onceF ([f, f + w1] ++ ds.map (f + ·))) l2)) nl3 (o := .lst (ks.map V.int))
            obtain ⟨k1, k2, k3⟩ := bits_told hb f0 w0.1 w0.2 (by omega) hd2 hp
            have ek : ks.map V.int = (ks.map Int.toNat).map fun k : Nat => V.int (k : Int) := by
              rw [List.map_map]
              refine List.map_congr_left fun k hk => ?_
              have := k1 k hk
              show V.int k = V.int ((k.toNat : Nat) : Int)
              rw [Int.toNat_of_nonneg this.1]
            refine ⟨a, l3, ns, ks.map Int.toNat, rfl, SqL.of (S _ _ ha), SqL.of (by rw [upd_same, ek]), hb, by omega, fun k hk => ?_, fun r H' nr sr er => q r H' _ (S.no nr) (S.trans sr) er k2 (turn_len _ _) k3⟩
            obtain ⟨z, hz, rfl⟩ := List.mem_map.mp hk
            have := k1 z hz
            omega
noncomputable def sp_law (K : PySem.W.Frag) : Sp := fun vs H Q E => ∃ (a : Addr) (ns : List Int), vs = [.ref a] ∧ SqL K H a (ns.map V.int) ∧ ns.length ≤ 63 ∧ ∀ H', Q (.bl true) H'
theorem sc_law : FnScope ["_law_script", "_law_number", "_law_row", "_law_bit", "_law_k"] ["_law_script"] (defScope s_law) := ⟨rfl, rfl, rfl, by decide +kernel, rfl, by decide +kernel, by decide +kernel⟩
theorem ok_law (T : Txt K mg) : FnOk P w K mg base CX0 6 T.d_law.f T.d_law.fd ["_law_script"] (sp_law K) := by
  have nd := sc_law.nd
  refine T.d_law.F.ok sc_law (fun vs H Q E h => ?_) (fun cdv A outer s H vs Q E hr h => ?_)
  · obtain ⟨a, ns, rfl, hq, hl, q⟩ := h
    rfl
  · obtain ⟨a, ns, rfl, hq, hl, q⟩ := h
    have hu := hr.units0
    refine ⟨_, (pss_cons (ps_set (i := 1) nd rfl (Or.inl rfl) (pc1 T.d__law_mixed (ok__law_mixed T) (hr.mono (by decide)) (pa1 (pv 0) (pa1 pe_int pa_nil))))
      (pss_cons (ps_set (i := 2) nd rfl (Or.inl rfl) (pc1 T.d_sealed (ok_sealed T) (hr.mono (by decide)) (pa1 (pc1 T.d__law_bytes (ok__law_bytes T) (hr.mono (by decide)) (pa1 (pv 0) (pa1 pe_int (pa1 (pe_op op_mod (pv 1) pe_int) pa_nil)))) pa_nil)))
      (pss_cons (ps_if (pt_cmpR (o_ne (K := K) hu) (pc1 T.d__law_opened (ok__law_opened T) (hr.mono (by decide)) (pa1 (pv 2) pa_nil)) (pe_slice (o_sl (K := K)) (pv 2) po_none (po_some (pe_un un_neg pe_int))) (nomark _)) (pss_one (ps_ret pe_bl)) pss_nil)
      (pss_cons (ps_for PassesOwn.never rfl (pi_range1 rfl T.n_range (pa1 (pe_op o_mul pe_int (pcB (o_len (K := K)) rfl T.n_len (by kernel_rfl) (pa1 (pv 2) pa_nil))) pa_nil)) (pg_name (i := 3) nd rfl (Or.inl rfl))
        (pss_one (ps_if (pt_cmpR (o_ne (K := K) hu) (pc1 T.d__law_opened (ok__law_opened T) (hr.mono (by decide)) (pa1 (pc1 T.d__law_turned (ok__law_turned T) (hr.mono (by decide)) (pa1 (pv 2) (pa1 (pe_lst (pa1 (pv 3) pa_nil)) pa_nil))) pa_nil)) (pe_lst (pa1 pe_str (pa1 pe_str pa_nil))) (nomark _)) (pss_one (ps_ret pe_bl)) pss_nil)))
      (pss_cons (ps_set (i := 2) nd rfl (Or.inl rfl) (pc1 T.d_sealed (ok_sealed T) (hr.mono (by decide)) (pa1 (pc1 T.d__law_bytes (ok__law_bytes T) (hr.mono (by decide)) (pa1 (pv 0) (pa1 pe_int (pa1 (pe_op op_mod (pe_op op_fdiv (pv 1) pe_int) pe_int) pa_nil)))) pa_nil)))
      (pss_cons (ps_for PassesOwn.never rfl (pi_range1 rfl T.n_range (pa1 pe_int pa_nil)) (pg_name (i := 4) nd rfl (Or.inl rfl))
        (pss_one (ps_if (pt_cmpR (o_ne (K := K) hu) (pc1 T.d__law_opened (ok__law_opened T) (hr.mono (by decide)) (pa1 (pc1 T.d__law_bent (ok__law_bent T) (hr.mono (by decide)) (pa1 (pv 2) (pa1 (pc1 T.d__law_mixed (ok__law_mixed T) (hr.mono (by decide)) (pa1 (pv 0) (pa1 (pe_op o_add pe_int (pv 4)) pa_nil))) pa_nil))) pa_nil)) (pe_lst (pa1 pe_str (pa1 pe_str pa_nil))) (nomark _)) (pss_one (ps_ret pe_bl)) pss_nil)))
      (pss_one (ps_ret (pe_cmpR (o_eq (K := K) hu) (pc1 T.d__law_opened (ok__law_opened T) (hr.mono (by decide)) (pa1 (pv 2) pa_nil)) (pe_slice (o_sl (K := K)) (pv 2) po_none (po_some (pe_un un_neg pe_int))) (nomark _)))))))))), ?_⟩
    rw [show start ["_law_script", "_law_number", "_law_row", "_law_bit", "_law_k"] [V.ref a] = [some (V.ref a), none, none, none, none] from rfl]
    simp only [tSeq, tIfS, tRet, tRetN, tC, tVar, tOp, tUn, tTest, tB, tAnd, tOr, tNot, tAndV, tOrV, tNotV, tIf, tChain, tCons, tNil, tCall, tCB, tLst, tTup, tSl, tNoPart, tPart, gName, tNext, tDrop, tAsg, tAsgC, tBM, tYes, tDNewK, rI, rI0, rU, rEq, rNe, rAbs, rIntT, CDiv, add_ii, add_ss, mul_ii, mul_si, ix_si, eq_ii, eq_ss, eq_bb, ne_ii, ne_ss, ne_ni, ne_in, in_s1, notin_s1, is_xn, is_bb, isnot_xn, isnot_bb, sl_s, len_s, find_ss, index_ss, List.append_nil, List.cons_append, List.nil_append, List.getElem?_cons_succ, List.getElem?_cons_zero, List.set_cons_succ, List.set_cons_zero, Option.some.injEq, V.int.injEq, V.bl.injEq, V.str.injEq, V.ref.injEq, V.ty.injEq, List.cons.injEq, and_true, true_and, exists_eq_left, exists_eq_left', exists_and_left, exists_eq', exists_const, exists_and_right, exists_eq_right, exists_eq_right', reduceCtorEq, false_and, and_false, exists_false, or_false, false_or, decide_eq_true_eq, Bool.not_eq_true', decide_eq_false_iff_not, Bool.false_eq_true, if_false, if_true, mk_app, mk_len, sg_mk, mk_one, decide_true, decide_false, Bool.not_true, Bool.not_false, ite_true, ite_false, not_true_eq_false, not_false_eq_true, cxK, cutTo1, cutFrom1, mk_iff, tyV_str, stComp, List.map_cons, List.map_nil, Option.join_some, Option.join_none, gt_iff_lt, ge_iff_le, tRaise, tTryR, tCallH, tDisp, tPairs, gSub, CPow]
    refine ⟨a, ns, 0, rfl, hq, by decide, by decide, ?_⟩
    obtain ⟨m0, m1⟩ := mix_b ns 0
    generalize mixF ns 0 = m at m0 m1
    simp only [tSeq, tIfS, tRet, tRetN, tC, tVar, tOp, tUn, tTest, tB, tAnd, tOr, tNot, tAndV, tOrV, tNotV, tIf, tChain, tCons, tNil, tCall, tCB, tLst, tTup, tSl, tNoPart, tPart, gName, tNext, tDrop, tAsg, tAsgC, tBM, tYes, tDNewK, rI, rI0, rU, rEq, rNe, rAbs, rIntT, CDiv, add_ii, add_ss, mul_ii, mul_si, ix_si, eq_ii, eq_ss, eq_bb, ne_ii, ne_ss, ne_ni, ne_in, in_s1, notin_s1, is_xn, is_bb, isnot_xn, isnot_bb, sl_s, len_s, find_ss, index_ss, List.append_nil, List.cons_append, List.nil_append, List.getElem?_cons_succ, List.getElem?_cons_zero, List.set_cons_succ, List.set_cons_zero, Option.some.injEq, V.int.injEq, V.bl.injEq, V.str.injEq, V.ref.injEq, V.ty.injEq, List.cons.injEq, and_true, true_and, exists_eq_left, exists_eq_left', exists_and_left, exists_eq', exists_const, exists_and_right, exists_eq_right, exists_eq_right', reduceCtorEq, false_and, and_false, exists_false, or_false, false_or, decide_eq_true_eq, Bool.not_eq_true', decide_eq_false_iff_not, Bool.false_eq_true, if_false, if_true, mk_app, mk_len, sg_mk, mk_one, decide_true, decide_false, Bool.not_true, Bool.not_false, ite_true, ite_false, not_true_eq_false, not_false_eq_true, cxK, cutTo1, cutFrom1, mk_iff, tyV_str, stComp, List.map_cons, List.map_nil, Option.join_some, Option.join_none, gt_iff_lt, ge_iff_le, tRaise, tTryR, tCallH, tDisp, tPairs, gSub, CPow]
    refine ⟨by decide, a, ns, 1, m % 7, rfl, hq, by decide, by decide, by omega, by omega, fun bs r H1 nr S hlen hb er => ⟨r, bs, rfl, SqL.of er, hb, by omega, fun l H2 nl s2 el => ?_⟩⟩
    have S := S.trans s2
    obtain ⟨w1, hw⟩ : ∃ w1, w1 = bs ++ [((crc bs).toNat : Int) / 256, ((crc bs).toNat : Int) % 256] := ⟨_, rfl⟩
    rw [← hw] at el
    obtain ⟨hbw, lw, tw, crw⟩ := seal_told hb hw
    have hw2 : 2 ≤ w1.length := by omega
    have hw3 : w1.length ≤ 8 := by omega
    refine ⟨_, rfl, .inr ⟨w1, ⟨l, rfl, el, hbw, hw2, by omega⟩, fun _ u H3 nu s3 eu => ?_, fun z => absurd crw z⟩⟩
    rw [tw] at eu
    have el := s3 _ _ el
    have S := S.trans s3
    refine slL (SqL.of el) fun p np => ?_
    rw [cut_m2 (by rw [List.length_map]; omega), List.length_map, ← List.map_take, tw]
    have t := Same.upd (Same.refl H3) np (o := .lst (bs.map V.int))
    refine neLL_same (t _ _ eu) upd_same (flat_ints bs) ⟨_, rfl, iteF ?_⟩
    generalize upd H3 p (.lst (bs.map V.int)) = H4 at t ⊢
    have el := t _ _ el
    have S := S.trans t
    clear eu hb er nr nl nu np s2 s3 t
    refine tfor_rng (8 * (w1.length : Int)) (by omega) (by omega) (fun R r => ?_) (fun i σ H' => Same H4 H' ∧ ∃ v3, σ = [some (V.ref a), some (V.int m), some (V.ref l), v3, none]) ⟨Same.refl H4, none, rfl⟩ ?_ ?_
    · simp only [tSeq, tIfS, tRet, tRetN, tC, tVar, tOp, tUn, tTest, tB, tAnd, tOr, tNot, tAndV, tOrV, tNotV, tIf, tChain, tCons, tNil, tCall, tCB, tLst, tTup, tSl, tNoPart, tPart, gName, tNext, tDrop, tAsg, tAsgC, tBM, tYes, tDNewK, rI, rI0, rU, rEq, rNe, rAbs, rIntT, CDiv, add_ii, add_ss, mul_ii, mul_si, ix_si, eq_ii, eq_ss, eq_bb, ne_ii, ne_ss, ne_ni, ne_in, in_s1, notin_s1, is_xn, is_bb, isnot_xn, isnot_bb, sl_s, len_s, find_ss, index_ss, List.append_nil, List.cons_append, List.nil_append, List.getElem?_cons_succ, List.getElem?_cons_zero, List.set_cons_succ, List.set_cons_zero, Option.some.injEq, V.int.injEq, V.bl.injEq, V.str.injEq, V.ref.injEq, V.ty.injEq, List.cons.injEq, and_true, true_and, exists_eq_left, exists_eq_left', exists_and_left, exists_eq', exists_const, exists_and_right, exists_eq_right, exists_eq_right', reduceCtorEq, false_and, and_false, exists_false, or_false, false_or, decide_eq_true_eq, Bool.not_eq_true', decide_eq_false_iff_not, Bool.false_eq_true, if_false, if_true, mk_app, mk_len, sg_mk, mk_one, decide_true, decide_false, Bool.not_true, Bool.not_false, ite_true, ite_false, not_true_eq_false, not_false_eq_true, cxK, cutTo1, cutFrom1, mk_iff, tyV_str, stComp, List.map_cons, List.map_nil, Option.join_some, Option.join_none, gt_iff_lt, ge_iff_le, tRaise, tTryR, tCallH, tDisp, tPairs, gSub, CPow]
      exact lenL (SqL.of el) (mul_ii.mpr ⟨.inl ⟨by decide, by decide⟩, by rw [List.length_map]; exact r⟩)
    · rintro i σ H5 hi ⟨s5, v3, rfl⟩
      have el := s5 _ _ el
      simp only [tSeq, tIfS, tRet, tRetN, tC, tVar, tOp, tUn, tTest, tB, tAnd, tOr, tNot, tAndV, tOrV, tNotV, tIf, tChain, tCons, tNil, tCall, tCB, tLst, tTup, tSl, tNoPart, tPart, gName, tNext, tDrop, tAsg, tAsgC, tBM, tYes, tDNewK, rI, rI0, rU, rEq, rNe, rAbs, rIntT, CDiv, add_ii, add_ss, mul_ii, mul_si, ix_si, eq_ii, eq_ss, eq_bb, ne_ii, ne_ss, ne_ni, ne_in, in_s1, notin_s1, is_xn, is_bb, isnot_xn, isnot_bb, sl_s, len_s, find_ss, index_ss, List.append_nil, List.cons_append, List.nil_append, List.getElem?_cons_succ, List.getElem?_cons_zero, List.set_cons_succ, List.set_cons_zero, Option.some.injEq, V.int.injEq, V.bl.injEq, V.str.injEq, V.ref.injEq, V.ty.injEq, List.cons.injEq, and_true, true_and, exists_eq_left, exists_eq_left', exists_and_left, exists_eq', exists_const, exists_and_right, exists_eq_right, exists_eq_right', reduceCtorEq, false_and, and_false, exists_false, or_false, false_or, decide_eq_true_eq, Bool.not_eq_true', decide_eq_false_iff_not, Bool.false_eq_true, if_false, if_true, mk_app, mk_len, sg_mk, mk_one, decide_true, decide_false, Bool.not_true, Bool.not_false, ite_true, ite_false, not_true_eq_false, not_false_eq_true, cxK, cutTo1, cutFrom1, mk_iff, tyV_str, stComp, List.map_cons, List.map_nil, Option.join_some, Option.join_none, gt_iff_lt, ge_iff_le, tRaise, tTryR, tCallH, tDisp, tPairs, gSub, CPow]
      refine ⟨sl1000 (by simp), fun g ng => ⟨l, g, w1, [i], rfl, SqL.of (Same.upd (Same.refl H5) ng _ _ el), SqL.of upd_same, hbw, by omega, fun k hk => by rw [List.mem_singleton.mp hk]; omega, fun r H6 nr s6 er => ?_⟩⟩
      have s6 := (Same.upd (Same.refl H5) ng).trans s6
      have hT := turn_one hbw (k := i) (by omega)
      rw [crw] at hT
      have hB := turn_isB [i] hbw (fun k hk => by rw [List.mem_singleton.mp hk]; omega)
      have hL := turn_len [i] w1
      refine ⟨_, rfl, .inr ⟨turnF w1 [i], ⟨r, rfl, er, hB, by omega, by omega⟩, fun z => absurd z hT, fun _ u H7 nu s7 eu => ⟨sl1000 (by simp), fun p np => ?_⟩⟩⟩
      have t := Same.upd (Same.refl H7) np (o := .lst [V.str (Str.ofString "check"), V.str (Str.ofString "value")])
      refine neLL_same (t _ _ eu) upd_same rfl ⟨_, rfl, iteF (((s5.trans s6).trans s7).trans t)⟩
    · rintro σ H5 ⟨s5, v3, rfl⟩
      have S := S.trans s5
      clear s5 el hw crw tw lw hbw hw2 hw3
      simp only [tSeq, tIfS, tRet, tRetN, tC, tVar, tOp, tUn, tTest, tB, tAnd, tOr, tNot, tAndV, tOrV, tNotV, tIf, tChain, tCons, tNil, tCall, tCB, tLst, tTup, tSl, tNoPart, tPart, gName, tNext, tDrop, tAsg, tAsgC, tBM, tYes, tDNewK, rI, rI0, rU, rEq, rNe, rAbs, rIntT, CDiv, add_ii, add_ss, mul_ii, mul_si, ix_si, eq_ii, eq_ss, eq_bb, ne_ii, ne_ss, ne_ni, ne_in, in_s1, notin_s1, is_xn, is_bb, isnot_xn, isnot_bb, sl_s, len_s, find_ss, index_ss, List.append_nil, List.cons_append, List.nil_append, List.getElem?_cons_succ, List.getElem?_cons_zero, List.set_cons_succ, List.set_cons_zero, Option.some.injEq, V.int.injEq, V.bl.injEq, V.str.injEq, V.ref.injEq, V.ty.injEq, List.cons.injEq, and_true, true_and, exists_eq_left, exists_eq_left', exists_and_left, exists_eq', exists_const, exists_and_right, exists_eq_right, exists_eq_right', reduceCtorEq, false_and, and_false, exists_false, or_false, false_or, decide_eq_true_eq, Bool.not_eq_true', decide_eq_false_iff_not, Bool.false_eq_true, if_false, if_true, mk_app, mk_len, sg_mk, mk_one, decide_true, decide_false, Bool.not_true, Bool.not_false, ite_true, ite_false, not_true_eq_false, not_false_eq_true, cxK, cutTo1, cutFrom1, mk_iff, tyV_str, stComp, List.map_cons, List.map_nil, Option.join_some, Option.join_none, gt_iff_lt, ge_iff_le, tRaise, tTryR, tCallH, tDisp, tPairs, gSub, CPow]
      refine ⟨⟨by decide, by decide⟩, by decide, a, ns, 20, m / 7 % 61, rfl, S.seq hq, by decide, by decide, by omega, by omega, fun bs r H1 nr s1 hlen hb er => ⟨r, bs, rfl, SqL.of er, hb, by omega, fun l2 H2 nl s2 el => ?_⟩⟩
      have S := (S.trans s1).trans s2
      obtain ⟨w1, hw⟩ : ∃ w1, w1 = bs ++ [((crc bs).toNat : Int) / 256, ((crc bs).toNat : Int) % 256] := ⟨_, rfl⟩
      rw [← hw] at el
      obtain ⟨hbw, lw, tw, crw⟩ := seal_told hb hw
      have hw2 : 2 ≤ w1.length := by omega
      have hw3 : w1.length ≤ 62 := by omega
      refine tfor_rng 6 (by decide) (by decide) (fun R r => r) (fun i σ H' => Same H2 H' ∧ ∃ v4, σ = [some (V.ref a), some (V.int m), some (V.ref l2), v3, v4]) ⟨Same.refl H2, none, rfl⟩ ?_ ?_
      · rintro i σ H6 hi ⟨s6, v4, rfl⟩
        have el := s6 _ _ el
        have S := S.trans s6
        simp only [tSeq, tIfS, tRet, tRetN, tC, tVar, tOp, tUn, tTest, tB, tAnd, tOr, tNot, tAndV, tOrV, tNotV, tIf, tChain, tCons, tNil, tCall, tCB, tLst, tTup, tSl, tNoPart, tPart, gName, tNext, tDrop, tAsg, tAsgC, tBM, tYes, tDNewK, rI, rI0, rU, rEq, rNe, rAbs, rIntT, CDiv, add_ii, add_ss, mul_ii, mul_si, ix_si, eq_ii, eq_ss, eq_bb, ne_ii, ne_ss, ne_ni, ne_in, in_s1, notin_s1, is_xn, is_bb, isnot_xn, isnot_bb, sl_s, len_s, find_ss, index_ss, List.append_nil, List.cons_append, List.nil_append, List.getElem?_cons_succ, List.getElem?_cons_zero, List.set_cons_succ, List.set_cons_zero, Option.some.injEq, V.int.injEq, V.bl.injEq, V.str.injEq, V.ref.injEq, V.ty.injEq, List.cons.injEq, and_true, true_and, exists_eq_left, exists_eq_left', exists_and_left, exists_eq', exists_const, exists_and_right, exists_eq_right, exists_eq_right', reduceCtorEq, false_and, and_false, exists_false, or_false, false_or, decide_eq_true_eq, Bool.not_eq_true', decide_eq_false_iff_not, Bool.false_eq_true, if_false, if_true, mk_app, mk_len, sg_mk, mk_one, decide_true, decide_false, Bool.not_true, Bool.not_false, ite_true, ite_false, not_true_eq_false, not_false_eq_true, cxK, cutTo1, cutFrom1, mk_iff, tyV_str, stComp, List.map_cons, List.map_nil, Option.join_some, Option.join_none, gt_iff_lt, ge_iff_le, tRaise, tTryR, tCallH, tDisp, tPairs, gSub, CPow]
        refine ⟨a, ns, 40 + (i : Int), rfl, S.seq hq, by omega, by omega, ⟨l2, w1, _, rfl, el, hbw, hw2, by omega, (mix_b ns _).1, fun r H7 ms nr s7 er hbm hlm hT => ?_⟩⟩
        rw [crw] at hT
        refine ⟨_, rfl, .inr ⟨ms, ⟨r, rfl, er, hbm, by omega, by omega⟩, fun z => absurd z hT, fun _ u H8 nu s8 eu => ⟨sl1000 (by simp), fun p np => ?_⟩⟩⟩
        have t := Same.upd (Same.refl H8) np (o := .lst [V.str (Str.ofString "check"), V.str (Str.ofString "value")])
        exact neLL_same (t _ _ eu) upd_same rfl ⟨_, rfl, iteF (((s6.trans s7).trans s8).trans t)⟩
      · rintro σ H6 ⟨s6, v4, rfl⟩
        have el := s6 _ _ el
        have S := S.trans s6
        simp only [tSeq, tIfS, tRet, tRetN, tC, tVar, tOp, tUn, tTest, tB, tAnd, tOr, tNot, tAndV, tOrV, tNotV, tIf, tChain, tCons, tNil, tCall, tCB, tLst, tTup, tSl, tNoPart, tPart, gName, tNext, tDrop, tAsg, tAsgC, tBM, tYes, tDNewK, rI, rI0, rU, rEq, rNe, rAbs, rIntT, CDiv, add_ii, add_ss, mul_ii, mul_si, ix_si, eq_ii, eq_ss, eq_bb, ne_ii, ne_ss, ne_ni, ne_in, in_s1, notin_s1, is_xn, is_bb, isnot_xn, isnot_bb, sl_s, len_s, find_ss, index_ss, List.append_nil, List.cons_append, List.nil_append, List.getElem?_cons_succ, List.getElem?_cons_zero, List.set_cons_succ, List.set_cons_zero, Option.some.injEq, V.int.injEq, V.bl.injEq, V.str.injEq, V.ref.injEq, V.ty.injEq, List.cons.injEq, and_true, true_and, exists_eq_left, exists_eq_left', exists_and_left, exists_eq', exists_const, exists_and_right, exists_eq_right, exists_eq_right', reduceCtorEq, false_and, and_false, exists_false, or_false, false_or, decide_eq_true_eq, Bool.not_eq_true', decide_eq_false_iff_not, Bool.false_eq_true, if_false, if_true, mk_app, mk_len, sg_mk, mk_one, decide_true, decide_false, Bool.not_true, Bool.not_false, ite_true, ite_false, not_true_eq_false, not_false_eq_true, cxK, cutTo1, cutFrom1, mk_iff, tyV_str, stComp, List.map_cons, List.map_nil, Option.join_some, Option.join_none, gt_iff_lt, ge_iff_le, tRaise, tTryR, tCallH, tDisp, tPairs, gSub, CPow]
        refine ⟨_, rfl, .inr ⟨w1, ⟨l2, rfl, el, hbw, hw2, by omega⟩, fun _ u H7 nu s7 eu => ?_, fun z => absurd crw z⟩⟩
        rw [tw] at eu
        have el := s7 _ _ el
        refine slL (SqL.of el) fun p np => ?_
        rw [cut_m2 (by rw [List.length_map]; omega), List.length_map, ← List.map_take, tw]
        have t := Same.upd (Same.refl H7) np (o := .lst (bs.map V.int))
        exact eqLL_same (t _ _ eu) upd_same (flat_ints bs) (q _)
end
theorem len_s {us : List Value} {n : Nat} (h : us.length = n + 1) : ∃ a r, us = a :: r ∧ r.length = n := by
  cases us with
  | nil => cases h
  | cons a r => exact ⟨a, r, rfl, Nat.succ.inj h⟩
theorem len_z {us : List Value} (h : us.length = 0) : us = [] := by
  cases us with
  | nil => rfl
  | cons a r => cases h
theorem len_is1 {us : List Value} (h : us.length = 1) : ∃ a0, us = [a0] := by
  obtain ⟨a0, u0, rfl, h0⟩ := len_s h
  obtain rfl := len_z h0
  exact ⟨a0, rfl⟩
theorem len_is2 {us : List Value} (h : us.length = 2) : ∃ a0 a1, us = [a0, a1] := by
  obtain ⟨a0, u0, rfl, h0⟩ := len_s h
  obtain ⟨a1, u1, rfl, h1⟩ := len_s h0
  obtain rfl := len_z h1
  exact ⟨a0, a1, rfl⟩
theorem len_is3 {us : List Value} (h : us.length = 3) : ∃ a0 a1 a2, us = [a0, a1, a2] := by
  obtain ⟨a0, u0, rfl, h0⟩ := len_s h
  obtain ⟨a1, u1, rfl, h1⟩ := len_s h0
  obtain ⟨a2, u2, rfl, h2⟩ := len_s h1
  obtain rfl := len_z h2
  exact ⟨a0, a1, a2, rfl⟩
theorem all_mk {l : PySem.W.OpenLaw} {w : World} {K : PySem.W.Frag} {h : Heap} {mg : Str → Option Value} {fa : Addr} (X : K.In h) (G : h.Ns mainGlobals mg) (hfa : mg "law" = some (.ref fa))
    {f0 : Addr} {od0 an0 : Option Addr} {sl0 : Array (Option Value)} {oc0 kV0 dc0 pm0 cd0 ct0 : Value}
    {f1 : Addr} {od1 an1 : Option Addr} {sl1 : Array (Option Value)} {oc1 kV1 dc1 pm1 cd1 ct1 : Value}
    {f2 : Addr} {od2 an2 : Option Addr} {sl2 : Array (Option Value)} {oc2 kV2 dc2 pm2 cd2 ct2 : Value}
    {f3 : Addr} {od3 an3 : Option Addr} {sl3 : Array (Option Value)} {oc3 kV3 dc3 pm3 cd3 ct3 : Value}
    {f4 : Addr} {od4 an4 : Option Addr} {sl4 : Array (Option Value)} {oc4 kV4 dc4 pm4 cd4 ct4 : Value}
    {t4 : Addr} {to4 : Value} {td4 : Option Addr} {tn4 : Nat} {ts4 : Array (Option Value)} {k4_0 : Tok}
    {f5 : Addr} {od5 an5 : Option Addr} {sl5 : Array (Option Value)} {oc5 kV5 dc5 pm5 cd5 ct5 : Value}
    {f6 : Addr} {od6 an6 : Option Addr} {sl6 : Array (Option Value)} {oc6 kV6 dc6 pm6 cd6 ct6 : Value}
    {f7 : Addr} {od7 an7 : Option Addr} {sl7 : Array (Option Value)} {oc7 kV7 dc7 pm7 cd7 ct7 : Value}
    {f8 : Addr} {od8 an8 : Option Addr} {sl8 : Array (Option Value)} {oc8 kV8 dc8 pm8 cd8 ct8 : Value}
    {f9 : Addr} {od9 an9 : Option Addr} {sl9 : Array (Option Value)} {oc9 kV9 dc9 pm9 cd9 ct9 : Value}
    {f10 : Addr} {od10 an10 : Option Addr} {sl10 : Array (Option Value)} {oc10 kV10 dc10 pm10 cd10 ct10 : Value}
    {f11 : Addr} {od11 an11 : Option Addr} {sl11 : Array (Option Value)} {oc11 kV11 dc11 pm11 cd11 ct11 : Value}
    {f12 : Addr} {od12 an12 : Option Addr} {sl12 : Array (Option Value)} {oc12 kV12 dc12 pm12 cd12 ct12 : Value}
    {f13 : Addr} {od13 an13 : Option Addr} {sl13 : Array (Option Value)} {oc13 kV13 dc13 pm13 cd13 ct13 : Value}
    {f14 : Addr} {od14 an14 : Option Addr} {sl14 : Array (Option Value)} {oc14 kV14 dc14 pm14 cd14 ct14 : Value}
    {f15 : Addr} {od15 an15 : Option Addr} {sl15 : Array (Option Value)} {oc15 kV15 dc15 pm15 cd15 ct15 : Value}
    {f16 : Addr} {od16 an16 : Option Addr} {sl16 : Array (Option Value)} {oc16 kV16 dc16 pm16 cd16 ct16 : Value}
    {f17 : Addr} {od17 an17 : Option Addr} {sl17 : Array (Option Value)} {oc17 kV17 dc17 pm17 cd17 ct17 : Value}
    {u_MOST_BYTE : Value}
    {u_FIRST_CHECK : Value}
    {u_LAID_OVER : Value}
    {x_YardError : Addr}
    {x_BadBytes : Addr}
    {x_BadCheck : Addr}
    {x_BadText : Addr}
    {x_BadBase : Addr}
    {x_BadInput : Addr}
    {x_BadLine : Addr}
    {x_NoMain : Addr}
    {x_TooGreat : Addr}
    {x_NoPart : Addr}
    {x_RowError : Addr}
    {cd_BadBytes : ClassData}
    {cd_BadCheck : ClassData}
    (a0 : PySem.W.nsIn K mainGlobals "is_number_up_to" = some (some (.ref f0)))
    (l0 : K.lookup f0 = some ⟨oc0, od0, .func (PySem.W.fnOf "is_number_up_to" "is_number_up_to" (defArgs s_is_number_up_to) (defBody s_is_number_up_to) (defScope s_is_number_up_to) .none kV0 dc0 pm0 an0 cd0 ct0), sl0⟩)
    (c0 : PySem.W.codeIn K cd0 "is_number_up_to" = true) (k0 : PySem.W.keepIn K (.ref f0) = true)
    (a1 : PySem.W.nsIn K mainGlobals "is_byte" = some (some (.ref f1)))
    (l1 : K.lookup f1 = some ⟨oc1, od1, .func (PySem.W.fnOf "is_byte" "is_byte" (defArgs s_is_byte) (defBody s_is_byte) (defScope s_is_byte) .none kV1 dc1 pm1 an1 cd1 ct1), sl1⟩)
    (c1 : PySem.W.codeIn K cd1 "is_byte" = true) (k1 : PySem.W.keepIn K (.ref f1) = true)
    (a2 : PySem.W.nsIn K mainGlobals "need_bytes" = some (some (.ref f2)))
    (l2 : K.lookup f2 = some ⟨oc2, od2, .func (PySem.W.fnOf "need_bytes" "need_bytes" (defArgs s_need_bytes) (defBody s_need_bytes) (defScope s_need_bytes) .none kV2 dc2 pm2 an2 cd2 ct2), sl2⟩)
    (c2 : PySem.W.codeIn K cd2 "need_bytes" = true) (k2 : PySem.W.keepIn K (.ref f2) = true)
    (a3 : PySem.W.nsIn K mainGlobals "two_of" = some (some (.ref f3)))
    (l3 : K.lookup f3 = some ⟨oc3, od3, .func (PySem.W.fnOf "two_of" "two_of" (defArgs s_two_of) (defBody s_two_of) (defScope s_two_of) .none kV3 dc3 pm3 an3 cd3 ct3), sl3⟩)
    (c3 : PySem.W.codeIn K cd3 "two_of" = true) (k3 : PySem.W.keepIn K (.ref f3) = true)
    (a4 : PySem.W.nsIn K mainGlobals "word_in" = some (some (.ref f4)))
    (l4 : K.lookup f4 = some ⟨oc4, od4, .func (PySem.W.fnOf "word_in" "word_in" (defArgs s_word_in) (defBody s_word_in) (defScope s_word_in) (.ref t4) kV4 dc4 pm4 an4 cd4 ct4), sl4⟩)
    (c4 : PySem.W.codeIn K cd4 "word_in" = true) (k4 : PySem.W.keepIn K (.ref f4) = true)
    (t4_is : K.lookup t4 = some ⟨to4, td4, .seq #[.int 0 k4_0] tn4, ts4⟩)
    (a5 : PySem.W.nsIn K mainGlobals "one_bit_left" = some (some (.ref f5)))
    (l5 : K.lookup f5 = some ⟨oc5, od5, .func (PySem.W.fnOf "one_bit_left" "one_bit_left" (defArgs s_one_bit_left) (defBody s_one_bit_left) (defScope s_one_bit_left) .none kV5 dc5 pm5 an5 cd5 ct5), sl5⟩)
    (c5 : PySem.W.codeIn K cd5 "one_bit_left" = true) (k5 : PySem.W.keepIn K (.ref f5) = true)
    (a6 : PySem.W.nsIn K mainGlobals "check_of" = some (some (.ref f6)))
    (l6 : K.lookup f6 = some ⟨oc6, od6, .func (PySem.W.fnOf "check_of" "check_of" (defArgs s_check_of) (defBody s_check_of) (defScope s_check_of) .none kV6 dc6 pm6 an6 cd6 ct6), sl6⟩)
    (c6 : PySem.W.codeIn K cd6 "check_of" = true) (k6 : PySem.W.keepIn K (.ref f6) = true)
    (a7 : PySem.W.nsIn K mainGlobals "sealed" = some (some (.ref f7)))
    (l7 : K.lookup f7 = some ⟨oc7, od7, .func (PySem.W.fnOf "sealed" "sealed" (defArgs s_sealed) (defBody s_sealed) (defScope s_sealed) .none kV7 dc7 pm7 an7 cd7 ct7), sl7⟩)
    (c7 : PySem.W.codeIn K cd7 "sealed" = true) (k7 : PySem.W.keepIn K (.ref f7) = true)
    (a8 : PySem.W.nsIn K mainGlobals "opened" = some (some (.ref f8)))
    (l8 : K.lookup f8 = some ⟨oc8, od8, .func (PySem.W.fnOf "opened" "opened" (defArgs s_opened) (defBody s_opened) (defScope s_opened) .none kV8 dc8 pm8 an8 cd8 ct8), sl8⟩)
    (c8 : PySem.W.codeIn K cd8 "opened" = true) (k8 : PySem.W.keepIn K (.ref f8) = true)
    (a9 : PySem.W.nsIn K mainGlobals "_law_cell" = some (some (.ref f9)))
    (l9 : K.lookup f9 = some ⟨oc9, od9, .func (PySem.W.fnOf "_law_cell" "_law_cell" (defArgs s__law_cell) (defBody s__law_cell) (defScope s__law_cell) .none kV9 dc9 pm9 an9 cd9 ct9), sl9⟩)
    (c9 : PySem.W.codeIn K cd9 "_law_cell" = true) (k9 : PySem.W.keepIn K (.ref f9) = true)
    (a10 : PySem.W.nsIn K mainGlobals "_law_mixed" = some (some (.ref f10)))
    (l10 : K.lookup f10 = some ⟨oc10, od10, .func (PySem.W.fnOf "_law_mixed" "_law_mixed" (defArgs s__law_mixed) (defBody s__law_mixed) (defScope s__law_mixed) .none kV10 dc10 pm10 an10 cd10 ct10), sl10⟩)
    (c10 : PySem.W.codeIn K cd10 "_law_mixed" = true) (k10 : PySem.W.keepIn K (.ref f10) = true)
    (a11 : PySem.W.nsIn K mainGlobals "_law_next" = some (some (.ref f11)))
    (l11 : K.lookup f11 = some ⟨oc11, od11, .func (PySem.W.fnOf "_law_next" "_law_next" (defArgs s__law_next) (defBody s__law_next) (defScope s__law_next) .none kV11 dc11 pm11 an11 cd11 ct11), sl11⟩)
    (c11 : PySem.W.codeIn K cd11 "_law_next" = true) (k11 : PySem.W.keepIn K (.ref f11) = true)
    (a12 : PySem.W.nsIn K mainGlobals "_law_bytes" = some (some (.ref f12)))
    (l12 : K.lookup f12 = some ⟨oc12, od12, .func (PySem.W.fnOf "_law_bytes" "_law_bytes" (defArgs s__law_bytes) (defBody s__law_bytes) (defScope s__law_bytes) .none kV12 dc12 pm12 an12 cd12 ct12), sl12⟩)
    (c12 : PySem.W.codeIn K cd12 "_law_bytes" = true) (k12 : PySem.W.keepIn K (.ref f12) = true)
    (a13 : PySem.W.nsIn K mainGlobals "_law_kind" = some (some (.ref f13)))
    (l13 : K.lookup f13 = some ⟨oc13, od13, .func (PySem.W.fnOf "_law_kind" "_law_kind" (defArgs s__law_kind) (defBody s__law_kind) (defScope s__law_kind) .none kV13 dc13 pm13 an13 cd13 ct13), sl13⟩)
    (c13 : PySem.W.codeIn K cd13 "_law_kind" = true) (k13 : PySem.W.keepIn K (.ref f13) = true)
    (a14 : PySem.W.nsIn K mainGlobals "_law_opened" = some (some (.ref f14)))
    (l14 : K.lookup f14 = some ⟨oc14, od14, .func (PySem.W.fnOf "_law_opened" "_law_opened" (defArgs s__law_opened) (defBody s__law_opened) (defScope s__law_opened) .none kV14 dc14 pm14 an14 cd14 ct14), sl14⟩)
    (c14 : PySem.W.codeIn K cd14 "_law_opened" = true) (k14 : PySem.W.keepIn K (.ref f14) = true)
    (a15 : PySem.W.nsIn K mainGlobals "_law_turned" = some (some (.ref f15)))
    (l15 : K.lookup f15 = some ⟨oc15, od15, .func (PySem.W.fnOf "_law_turned" "_law_turned" (defArgs s__law_turned) (defBody s__law_turned) (defScope s__law_turned) .none kV15 dc15 pm15 an15 cd15 ct15), sl15⟩)
    (c15 : PySem.W.codeIn K cd15 "_law_turned" = true) (k15 : PySem.W.keepIn K (.ref f15) = true)
    (a16 : PySem.W.nsIn K mainGlobals "_law_bent" = some (some (.ref f16)))
    (l16 : K.lookup f16 = some ⟨oc16, od16, .func (PySem.W.fnOf "_law_bent" "_law_bent" (defArgs s__law_bent) (defBody s__law_bent) (defScope s__law_bent) .none kV16 dc16 pm16 an16 cd16 ct16), sl16⟩)
    (c16 : PySem.W.codeIn K cd16 "_law_bent" = true) (k16 : PySem.W.keepIn K (.ref f16) = true)
    (a17 : PySem.W.nsIn K mainGlobals "law" = some (some (.ref f17)))
    (l17 : K.lookup f17 = some ⟨oc17, od17, .func (PySem.W.fnOf "law" "law" (defArgs s_law) (defBody s_law) (defScope s_law) .none kV17 dc17 pm17 an17 cd17 ct17), sl17⟩)
    (c17 : PySem.W.codeIn K cd17 "law" = true) (k17 : PySem.W.keepIn K (.ref f17) = true)
    (g_MOST_BYTE : PySem.W.nsIn K mainGlobals "MOST_BYTE" = some (some u_MOST_BYTE)) (r_MOST_BYTE : RelV (.int 255) u_MOST_BYTE)
    (g_FIRST_CHECK : PySem.W.nsIn K mainGlobals "FIRST_CHECK" = some (some u_FIRST_CHECK)) (r_FIRST_CHECK : RelV (.int 65535) u_FIRST_CHECK)
    (g_LAID_OVER : PySem.W.nsIn K mainGlobals "LAID_OVER" = some (some u_LAID_OVER)) (r_LAID_OVER : RelV (.int 4129) u_LAID_OVER)
    (n_ValueError : PySem.W.nsIn K mainGlobals "ValueError" = some none)
    (n_all : PySem.W.nsIn K mainGlobals "all" = some none)
    (n_bool : PySem.W.nsIn K mainGlobals "bool" = some none)
    (n_int : PySem.W.nsIn K mainGlobals "int" = some none)
    (n_isinstance : PySem.W.nsIn K mainGlobals "isinstance" = some none)
    (n_len : PySem.W.nsIn K mainGlobals "len" = some none)
    (n_list : PySem.W.nsIn K mainGlobals "list" = some none)
    (n_range : PySem.W.nsIn K mainGlobals "range" = some none)
    (n_set : PySem.W.nsIn K mainGlobals "set" = some none)
    (n_sorted : PySem.W.nsIn K mainGlobals "sorted" = some none)
    (m_YardError : PySem.W.nsIn K mainGlobals "YardError" = some (some (.ref x_YardError)))
    (m_BadBytes : PySem.W.nsIn K mainGlobals "BadBytes" = some (some (.ref x_BadBytes)))
    (m_BadCheck : PySem.W.nsIn K mainGlobals "BadCheck" = some (some (.ref x_BadCheck)))
    (m_BadText : PySem.W.nsIn K mainGlobals "BadText" = some (some (.ref x_BadText)))
    (m_BadBase : PySem.W.nsIn K mainGlobals "BadBase" = some (some (.ref x_BadBase)))
    (m_BadInput : PySem.W.nsIn K mainGlobals "BadInput" = some (some (.ref x_BadInput)))
    (m_BadLine : PySem.W.nsIn K mainGlobals "BadLine" = some (some (.ref x_BadLine)))
    (m_NoMain : PySem.W.nsIn K mainGlobals "NoMain" = some (some (.ref x_NoMain)))
    (m_TooGreat : PySem.W.nsIn K mainGlobals "TooGreat" = some (some (.ref x_TooGreat)))
    (m_NoPart : PySem.W.nsIn K mainGlobals "NoPart" = some (some (.ref x_NoPart)))
    (m_RowError : PySem.W.nsIn K mainGlobals "RowError" = some (some (.ref x_RowError)))
    (e_BadBytes : PySem.W.excIn K x_BadBytes bmV "ValueError.__new__" = true)
    (qga_BadBytes : PySem.W.findIn K (.ref x_BadBytes) "__getattribute__" = some (some (.builtin "BaseException.__getattribute__")))
    (qgt_BadBytes : PySem.W.findIn K (.ref x_BadBytes) "__getattr__" = some none)
    (qcl_BadBytes : PySem.W.clsIn K x_BadBytes = some cd_BadBytes)
    (qha_BadBytes : PySem.W.findIn K (.ref x_BadBytes) "__class__" = some (some (.builtin "object.__class__")))
    (qhn_BadBytes : PySem.W.specialIn K (.builtin "object.__class__") "__get__" = some (some (.builtin "getset_descriptor.__get__")))
    (qtk_BadBytes : PySem.W.takesIn K (.builtin "object.__class__") = some true)
    (qhm_BadBytes : PySem.W.mroIn K x_BadBytes (.type "object") = some true)
    (qme_BadBytes : PySem.W.mroIn K x_BadBytes (.type "BaseException") = some true)
    (ex_BadBytes : PySem.W.exmOne K (.ref x_BadBytes) (.ref x_YardError) = some true)
    (kt_BadBytes_BadBytes : PySem.W.kitOne K (.ref x_BadBytes) (.ref x_BadBytes) = some true)
    (kt_BadBytes_BadCheck : PySem.W.kitOne K (.ref x_BadBytes) (.ref x_BadCheck) = some false)
    (kt_BadBytes_BadText : PySem.W.kitOne K (.ref x_BadBytes) (.ref x_BadText) = some false)
    (kt_BadBytes_BadBase : PySem.W.kitOne K (.ref x_BadBytes) (.ref x_BadBase) = some false)
    (kt_BadBytes_BadInput : PySem.W.kitOne K (.ref x_BadBytes) (.ref x_BadInput) = some false)
    (kt_BadBytes_BadLine : PySem.W.kitOne K (.ref x_BadBytes) (.ref x_BadLine) = some false)
    (kt_BadBytes_NoMain : PySem.W.kitOne K (.ref x_BadBytes) (.ref x_NoMain) = some false)
    (kt_BadBytes_TooGreat : PySem.W.kitOne K (.ref x_BadBytes) (.ref x_TooGreat) = some false)
    (kt_BadBytes_NoPart : PySem.W.kitOne K (.ref x_BadBytes) (.ref x_NoPart) = some false)
    (kt_BadBytes_RowError : PySem.W.kitOne K (.ref x_BadBytes) (.ref x_RowError) = some false)
    (kt_BadBytes_ValueError : PySem.W.kitOne K (.ref x_BadBytes) (.type "ValueError") = some true)
    (e_BadCheck : PySem.W.excIn K x_BadCheck bmV "ValueError.__new__" = true)
    (qga_BadCheck : PySem.W.findIn K (.ref x_BadCheck) "__getattribute__" = some (some (.builtin "BaseException.__getattribute__")))
    (qgt_BadCheck : PySem.W.findIn K (.ref x_BadCheck) "__getattr__" = some none)
    (qcl_BadCheck : PySem.W.clsIn K x_BadCheck = some cd_BadCheck)
    (qha_BadCheck : PySem.W.findIn K (.ref x_BadCheck) "__class__" = some (some (.builtin "object.__class__")))
    (qhn_BadCheck : PySem.W.specialIn K (.builtin "object.__class__") "__get__" = some (some (.builtin "getset_descriptor.__get__")))
    (qtk_BadCheck : PySem.W.takesIn K (.builtin "object.__class__") = some true)
    (qhm_BadCheck : PySem.W.mroIn K x_BadCheck (.type "object") = some true)
    (qme_BadCheck : PySem.W.mroIn K x_BadCheck (.type "BaseException") = some true)
    (ex_BadCheck : PySem.W.exmOne K (.ref x_BadCheck) (.ref x_YardError) = some true)
    (kt_BadCheck_BadBytes : PySem.W.kitOne K (.ref x_BadCheck) (.ref x_BadBytes) = some false)
    (kt_BadCheck_BadCheck : PySem.W.kitOne K (.ref x_BadCheck) (.ref x_BadCheck) = some true)
    (kt_BadCheck_BadText : PySem.W.kitOne K (.ref x_BadCheck) (.ref x_BadText) = some false)
    (kt_BadCheck_BadBase : PySem.W.kitOne K (.ref x_BadCheck) (.ref x_BadBase) = some false)
    (kt_BadCheck_BadInput : PySem.W.kitOne K (.ref x_BadCheck) (.ref x_BadInput) = some false)
    (kt_BadCheck_BadLine : PySem.W.kitOne K (.ref x_BadCheck) (.ref x_BadLine) = some false)
    (kt_BadCheck_NoMain : PySem.W.kitOne K (.ref x_BadCheck) (.ref x_NoMain) = some false)
    (kt_BadCheck_TooGreat : PySem.W.kitOne K (.ref x_BadCheck) (.ref x_TooGreat) = some false)
    (kt_BadCheck_NoPart : PySem.W.kitOne K (.ref x_BadCheck) (.ref x_NoPart) = some false)
    (kt_BadCheck_RowError : PySem.W.kitOne K (.ref x_BadCheck) (.ref x_RowError) = some false)
    (kt_BadCheck_ValueError : PySem.W.kitOne K (.ref x_BadCheck) (.type "ValueError") = some true) :
    ∃ fd : FuncData, (∀ (s : Shared) (v : Value), BindsTo s fd ⟨[v], []⟩ [("_law_script", v)]) ∧ ∀ base : Heap, K.In base → base.Ns mainGlobals mg → FnOk l.prog w K mg base CX0 6 fa fd ["_law_script"] (sp_law K) := by
  have e := hfa.symm.trans (PySem.W.mg_of X G a17)
  cases e
  have F0 := fn_mk (st := s_is_number_up_to) l0 c0 k0
  have b0 : Binds K _ ["thing", "most"] [] := .all (fd := PySem.W.fnOf "is_number_up_to" "is_number_up_to" (defArgs s_is_number_up_to) (defBody s_is_number_up_to) (defScope s_is_number_up_to) .none kV0 dc0 pm0 an0 cd0 ct0) fun us hl => by obtain ⟨_u0, _u1, rfl⟩ := len_is2 hl; rfl
  have F1 := fn_mk (st := s_is_byte) l1 c1 k1
  have b1 : Binds K _ ["thing"] [] := .all (fd := PySem.W.fnOf "is_byte" "is_byte" (defArgs s_is_byte) (defBody s_is_byte) (defScope s_is_byte) .none kV1 dc1 pm1 an1 cd1 ct1) fun us hl => by obtain ⟨_u0, rfl⟩ := len_is1 hl; rfl
  have F2 := fn_mk (st := s_need_bytes) l2 c2 k2
  have b2 : Binds K _ ["thing"] [] := .all (fd := PySem.W.fnOf "need_bytes" "need_bytes" (defArgs s_need_bytes) (defBody s_need_bytes) (defScope s_need_bytes) .none kV2 dc2 pm2 an2 cd2 ct2) fun us hl => by obtain ⟨_u0, rfl⟩ := len_is1 hl; rfl
  have F3 := fn_mk (st := s_two_of) l3 c3 k3
  have b3 : Binds K _ ["number"] [] := .all (fd := PySem.W.fnOf "two_of" "two_of" (defArgs s_two_of) (defBody s_two_of) (defScope s_two_of) .none kV3 dc3 pm3 an3 cd3 ct3) fun us hl => by obtain ⟨_u0, rfl⟩ := len_is1 hl; rfl
  have F4 := fn_mk (st := s_word_in) l4 c4 k4
  have b4 : Binds K (PySem.W.fnOf "word_in" "word_in" (defArgs s_word_in) (defBody s_word_in) (defScope s_word_in) (.ref t4) kV4 dc4 pm4 an4 cd4 ct4) ["row", "place"] [] := fun s us X hl => match us, hl with | [_, _], _ => PySem.W.binds_K X rfl t4_is rfl rfl rfl
  have bd4 : Binds K (PySem.W.fnOf "word_in" "word_in" (defArgs s_word_in) (defBody s_word_in) (defScope s_word_in) (.ref t4) kV4 dc4 pm4 an4 cd4 ct4) ["row", "place"] [.int 0 k4_0] := fun s us X hl => match us, hl with | [_], _ => PySem.W.binds_K X rfl t4_is rfl rfl rfl | [], h => absurd h (by simp) | _ :: _ :: _, h => absurd h (by simp)
  have F5 := fn_mk (st := s_one_bit_left) l5 c5 k5
  have b5 : Binds K _ ["check"] [] := .all (fd := PySem.W.fnOf "one_bit_left" "one_bit_left" (defArgs s_one_bit_left) (defBody s_one_bit_left) (defScope s_one_bit_left) .none kV5 dc5 pm5 an5 cd5 ct5) fun us hl => by obtain ⟨_u0, rfl⟩ := len_is1 hl; rfl
  have F6 := fn_mk (st := s_check_of) l6 c6 k6
  have b6 : Binds K _ ["row"] [] := .all (fd := PySem.W.fnOf "check_of" "check_of" (defArgs s_check_of) (defBody s_check_of) (defScope s_check_of) .none kV6 dc6 pm6 an6 cd6 ct6) fun us hl => by obtain ⟨_u0, rfl⟩ := len_is1 hl; rfl
  have F7 := fn_mk (st := s_sealed) l7 c7 k7
  have b7 : Binds K _ ["row"] [] := .all (fd := PySem.W.fnOf "sealed" "sealed" (defArgs s_sealed) (defBody s_sealed) (defScope s_sealed) .none kV7 dc7 pm7 an7 cd7 ct7) fun us hl => by obtain ⟨_u0, rfl⟩ := len_is1 hl; rfl
  have F8 := fn_mk (st := s_opened) l8 c8 k8
  have b8 : Binds K _ ["row"] [] := .all (fd := PySem.W.fnOf "opened" "opened" (defArgs s_opened) (defBody s_opened) (defScope s_opened) .none kV8 dc8 pm8 an8 cd8 ct8) fun us hl => by obtain ⟨_u0, rfl⟩ := len_is1 hl; rfl
  have F9 := fn_mk (st := s__law_cell) l9 c9 k9
  have b9 : Binds K _ ["_law_script", "_law_k"] [] := .all (fd := PySem.W.fnOf "_law_cell" "_law_cell" (defArgs s__law_cell) (defBody s__law_cell) (defScope s__law_cell) .none kV9 dc9 pm9 an9 cd9 ct9) fun us hl => by obtain ⟨_u0, _u1, rfl⟩ := len_is2 hl; rfl
  have F10 := fn_mk (st := s__law_mixed) l10 c10 k10
  have b10 : Binds K _ ["_law_script", "_law_k"] [] := .all (fd := PySem.W.fnOf "_law_mixed" "_law_mixed" (defArgs s__law_mixed) (defBody s__law_mixed) (defScope s__law_mixed) .none kV10 dc10 pm10 an10 cd10 ct10) fun us hl => by obtain ⟨_u0, _u1, rfl⟩ := len_is2 hl; rfl
  have F11 := fn_mk (st := s__law_next) l11 c11 k11
  have b11 : Binds K _ ["_law_number", "_law_k"] [] := .all (fd := PySem.W.fnOf "_law_next" "_law_next" (defArgs s__law_next) (defBody s__law_next) (defScope s__law_next) .none kV11 dc11 pm11 an11 cd11 ct11) fun us hl => by obtain ⟨_u0, _u1, rfl⟩ := len_is2 hl; rfl
  have F12 := fn_mk (st := s__law_bytes) l12 c12 k12
  have b12 : Binds K _ ["_law_script", "_law_first", "_law_many"] [] := .all (fd := PySem.W.fnOf "_law_bytes" "_law_bytes" (defArgs s__law_bytes) (defBody s__law_bytes) (defScope s__law_bytes) .none kV12 dc12 pm12 an12 cd12 ct12) fun us hl => by obtain ⟨_u0, _u1, _u2, rfl⟩ := len_is3 hl; rfl
  have F13 := fn_mk (st := s__law_kind) l13 c13 k13
  have b13 : Binds K _ ["_law_e"] [] := .all (fd := PySem.W.fnOf "_law_kind" "_law_kind" (defArgs s__law_kind) (defBody s__law_kind) (defScope s__law_kind) .none kV13 dc13 pm13 an13 cd13 ct13) fun us hl => by obtain ⟨_u0, rfl⟩ := len_is1 hl; rfl
  have F14 := fn_mk (st := s__law_opened) l14 c14 k14
  have b14 : Binds K _ ["_law_row"] [] := .all (fd := PySem.W.fnOf "_law_opened" "_law_opened" (defArgs s__law_opened) (defBody s__law_opened) (defScope s__law_opened) .none kV14 dc14 pm14 an14 cd14 ct14) fun us hl => by obtain ⟨_u0, rfl⟩ := len_is1 hl; rfl
  have F15 := fn_mk (st := s__law_turned) l15 c15 k15
  have b15 : Binds K _ ["_law_row", "_law_bits"] [] := .all (fd := PySem.W.fnOf "_law_turned" "_law_turned" (defArgs s__law_turned) (defBody s__law_turned) (defScope s__law_turned) .none kV15 dc15 pm15 an15 cd15 ct15) fun us hl => by obtain ⟨_u0, _u1, rfl⟩ := len_is2 hl; rfl
  have F16 := fn_mk (st := s__law_bent) l16 c16 k16
  have b16 : Binds K _ ["_law_row", "_law_number"] [] := .all (fd := PySem.W.fnOf "_law_bent" "_law_bent" (defArgs s__law_bent) (defBody s__law_bent) (defScope s__law_bent) .none kV16 dc16 pm16 an16 cd16 ct16) fun us hl => by obtain ⟨_u0, _u1, rfl⟩ := len_is2 hl; rfl
  have F17 := fn_mk (st := s_law) l17 c17 k17
  have b17 : Binds K _ ["_law_script"] [] := .all (fd := PySem.W.fnOf "law" "law" (defArgs s_law) (defBody s_law) (defScope s_law) .none kV17 dc17 pm17 an17 cd17 ct17) fun us hl => by obtain ⟨_u0, rfl⟩ := len_is1 hl; rfl
  obtain ⟨T, hf, hfd⟩ : ∃ T : Txt K mg, T.d_law.f = fa ∧ T.d_law.fd = PySem.W.fnOf "law" "law" (defArgs s_law) (defBody s_law) (defScope s_law) .none kV17 dc17 pm17 an17 cd17 ct17 := ⟨{
    d_is_number_up_to := ⟨_, _, F0, b0, PySem.W.mg_of X G a0⟩
    d_is_byte := ⟨_, _, F1, b1, PySem.W.mg_of X G a1⟩
    d_need_bytes := ⟨_, _, F2, b2, PySem.W.mg_of X G a2⟩
    d_two_of := ⟨_, _, F3, b3, PySem.W.mg_of X G a3⟩
    d_word_in := ⟨_, _, F4, b4, PySem.W.mg_of X G a4⟩
    d_one_bit_left := ⟨_, _, F5, b5, PySem.W.mg_of X G a5⟩
    d_check_of := ⟨_, _, F6, b6, PySem.W.mg_of X G a6⟩
    d_sealed := ⟨_, _, F7, b7, PySem.W.mg_of X G a7⟩
    d_opened := ⟨_, _, F8, b8, PySem.W.mg_of X G a8⟩
    d__law_cell := ⟨_, _, F9, b9, PySem.W.mg_of X G a9⟩
    d__law_mixed := ⟨_, _, F10, b10, PySem.W.mg_of X G a10⟩
    d__law_next := ⟨_, _, F11, b11, PySem.W.mg_of X G a11⟩
    d__law_bytes := ⟨_, _, F12, b12, PySem.W.mg_of X G a12⟩
    d__law_kind := ⟨_, _, F13, b13, PySem.W.mg_of X G a13⟩
    d__law_opened := ⟨_, _, F14, b14, PySem.W.mg_of X G a14⟩
    d__law_turned := ⟨_, _, F15, b15, PySem.W.mg_of X G a15⟩
    d__law_bent := ⟨_, _, F16, b16, PySem.W.mg_of X G a16⟩
    d_law := ⟨_, _, F17, b17, PySem.W.mg_of X G a17⟩
    c_MOST_BYTE := ⟨_, PySem.W.mg_of X G g_MOST_BYTE, r_MOST_BYTE⟩
    c_FIRST_CHECK := ⟨_, PySem.W.mg_of X G g_FIRST_CHECK, r_FIRST_CHECK⟩
    c_LAID_OVER := ⟨_, PySem.W.mg_of X G g_LAID_OVER, r_LAID_OVER⟩
    n_ValueError := PySem.W.mg_none_of X G n_ValueError
    n_all := PySem.W.mg_none_of X G n_all
    n_bool := PySem.W.mg_none_of X G n_bool
    n_int := PySem.W.mg_none_of X G n_int
    n_isinstance := PySem.W.mg_none_of X G n_isinstance
    n_len := PySem.W.mg_none_of X G n_len
    n_list := PySem.W.mg_none_of X G n_list
    n_range := PySem.W.mg_none_of X G n_range
    n_set := PySem.W.mg_none_of X G n_set
    n_sorted := PySem.W.mg_none_of X G n_sorted
    dd_word_in := ⟨_, bd4, .cons ⟨_, rfl⟩ (.nil)⟩
    x_YardError := x_YardError
    x_BadBytes := x_BadBytes
    x_BadCheck := x_BadCheck
    x_BadText := x_BadText
    x_BadBase := x_BadBase
    x_BadInput := x_BadInput
    x_BadLine := x_BadLine
    x_NoMain := x_NoMain
    x_TooGreat := x_TooGreat
    x_NoPart := x_NoPart
    x_RowError := x_RowError
    m_YardError := PySem.W.mg_of X G m_YardError
    m_BadBytes := PySem.W.mg_of X G m_BadBytes
    m_BadCheck := PySem.W.mg_of X G m_BadCheck
    m_BadText := PySem.W.mg_of X G m_BadText
    m_BadBase := PySem.W.mg_of X G m_BadBase
    m_BadInput := PySem.W.mg_of X G m_BadInput
    m_BadLine := PySem.W.mg_of X G m_BadLine
    m_NoMain := PySem.W.mg_of X G m_NoMain
    m_TooGreat := PySem.W.mg_of X G m_TooGreat
    m_NoPart := PySem.W.mg_of X G m_NoPart
    m_RowError := PySem.W.mg_of X G m_RowError
    e_BadBytes := e_BadBytes
    cl_BadBytes := ⟨qga_BadBytes, qgt_BadBytes, by rw [qcl_BadBytes]; rfl, qha_BadBytes, qhn_BadBytes, qtk_BadBytes, qhm_BadBytes, qme_BadBytes⟩
    ex_BadBytes := ex_BadBytes
    kt_BadBytes_BadBytes := kt_BadBytes_BadBytes
    kt_BadBytes_BadCheck := kt_BadBytes_BadCheck
    kt_BadBytes_BadText := kt_BadBytes_BadText
    kt_BadBytes_BadBase := kt_BadBytes_BadBase
    kt_BadBytes_BadInput := kt_BadBytes_BadInput
    kt_BadBytes_BadLine := kt_BadBytes_BadLine
    kt_BadBytes_NoMain := kt_BadBytes_NoMain
    kt_BadBytes_TooGreat := kt_BadBytes_TooGreat
    kt_BadBytes_NoPart := kt_BadBytes_NoPart
    kt_BadBytes_RowError := kt_BadBytes_RowError
    kt_BadBytes_ValueError := kt_BadBytes_ValueError
    e_BadCheck := e_BadCheck
    cl_BadCheck := ⟨qga_BadCheck, qgt_BadCheck, by rw [qcl_BadCheck]; rfl, qha_BadCheck, qhn_BadCheck, qtk_BadCheck, qhm_BadCheck, qme_BadCheck⟩
    ex_BadCheck := ex_BadCheck
    kt_BadCheck_BadBytes := kt_BadCheck_BadBytes
    kt_BadCheck_BadCheck := kt_BadCheck_BadCheck
    kt_BadCheck_BadText := kt_BadCheck_BadText
    kt_BadCheck_BadBase := kt_BadCheck_BadBase
    kt_BadCheck_BadInput := kt_BadCheck_BadInput
    kt_BadCheck_BadLine := kt_BadCheck_BadLine
    kt_BadCheck_NoMain := kt_BadCheck_NoMain
    kt_BadCheck_TooGreat := kt_BadCheck_TooGreat
    kt_BadCheck_NoPart := kt_BadCheck_NoPart
    kt_BadCheck_RowError := kt_BadCheck_RowError
    kt_BadCheck_ValueError := kt_BadCheck_ValueError
  }, rfl, rfl⟩
  refine ⟨PySem.W.fnOf "law" "law" (defArgs s_law) (defBody s_law) (defScope s_law) .none kV17 dc17 pm17 an17 cd17 ct17, fun s v => .of_eq rfl, fun base _ _ => ?_⟩
  have G := ok_law (P := l.prog) (w := w) (base := base) T
  rw [hf, hfd] at G
  exact G
theorem walk {l : PySem.W.OpenLaw} {q : Program} {loose : List Str} {XP : (Str → Option Value) → Heap → Prop} {YP : World → Heap → Prop} {d : DefRec} {K : Params → PySem.W.Frag} (hn : l.most = some 63) (hdf : d.params.defaults = [])
    (hY : ∀ (w : World) (h : Heap), YP w h → (K w.params).In h)
    (F : ∀ (w : World) (mg : Str → Option Value) (fa : Addr) (h : Heap), (K w.params).In h → h.Ns mainGlobals mg → mg d.name = some (.ref fa) →
      ∃ fd : FuncData, (∀ (s : Shared) (u : Value), BindsTo s fd ⟨[u], []⟩ [("_law_script", u)]) ∧ ∀ base : Heap, (K w.params).In base → base.Ns mainGlobals mg → FnOk l.prog w (K w.params) mg base CX0 6 fa fd ["_law_script"] (sp_law (K w.params))) :
    PySem.W.WalkO q loose XP YP l.row.toRowW d [] (fun f vs => PySem.call f vs) :=
  L2.walk_of (n := 63) (k := 6) (x := "_law_script") (CX := fun _ => CX0) (sp := fun w => sp_law (K w.params)) hn (by decide) hdf ⟨rfl, by decide, by decide⟩ hY F (fun _ _ a ns hl _ hS => ⟨a, ns, rfl, hS, hl, fun _ => rfl⟩) fun _ _ _ _ _ z => z
end K04
open PySem PySem.W PyProof.Rows
set_option maxRecDepth 100000 in
set_option maxHeartbeats 0 in
theorem PySem.Challenge.cw_linkyard_k04_whole_one_change_told_holds : PySem.Challenge.rw_linkyard_k04_whole_one_change_told.Holds := by
  w_on; o_law; k_head; (case hw => w_witness2)
  k_fill
  refine K04.walk (l := PySem.Challenge.rw_linkyard_k04_whole_one_change_told) rfl rfl (fun w h Y => PySem.W.kIn_of Y) ?F
  case F =>
    intro w mg fa h KX G hmg
    refine' K04.all_mk KX G hmg ?a0 ?l0 ?c0 ?k0 ?a1 ?l1 ?c1 ?k1 ?a2 ?l2 ?c2 ?k2 ?a3 ?l3 ?c3 ?k3 ?a4 ?l4 ?c4 ?k4 ?t4_is ?a5 ?l5 ?c5 ?k5 ?a6 ?l6 ?c6 ?k6 ?a7 ?l7 ?c7 ?k7 ?a8 ?l8 ?c8 ?k8 ?a9 ?l9 ?c9 ?k9 ?a10 ?l10 ?c10 ?k10 ?a11 ?l11 ?c11 ?k11 ?a12 ?l12 ?c12 ?k12 ?a13 ?l13 ?c13 ?k13 ?a14 ?l14 ?c14 ?k14 ?a15 ?l15 ?c15 ?k15 ?a16 ?l16 ?c16 ?k16 ?a17 ?l17 ?c17 ?k17 ?g_MOST_BYTE ?r_MOST_BYTE ?g_FIRST_CHECK ?r_FIRST_CHECK ?g_LAID_OVER ?r_LAID_OVER ?n_ValueError ?n_all ?n_bool ?n_int ?n_isinstance ?n_len ?n_list ?n_range ?n_set ?n_sorted ?m_YardError ?m_BadBytes ?m_BadCheck ?m_BadText ?m_BadBase ?m_BadInput ?m_BadLine ?m_NoMain ?m_TooGreat ?m_NoPart ?m_RowError ?e_BadBytes ?qga_BadBytes ?qgt_BadBytes ?qcl_BadBytes ?qha_BadBytes ?qhn_BadBytes ?qtk_BadBytes ?qhm_BadBytes ?qme_BadBytes ?ex_BadBytes ?kt_BadBytes_BadBytes ?kt_BadBytes_BadCheck ?kt_BadBytes_BadText ?kt_BadBytes_BadBase ?kt_BadBytes_BadInput ?kt_BadBytes_BadLine ?kt_BadBytes_NoMain ?kt_BadBytes_TooGreat ?kt_BadBytes_NoPart ?kt_BadBytes_RowError ?kt_BadBytes_ValueError ?e_BadCheck ?qga_BadCheck ?qgt_BadCheck ?qcl_BadCheck ?qha_BadCheck ?qhn_BadCheck ?qtk_BadCheck ?qhm_BadCheck ?qme_BadCheck ?ex_BadCheck ?kt_BadCheck_BadBytes ?kt_BadCheck_BadCheck ?kt_BadCheck_BadText ?kt_BadCheck_BadBase ?kt_BadCheck_BadInput ?kt_BadCheck_BadLine ?kt_BadCheck_NoMain ?kt_BadCheck_TooGreat ?kt_BadCheck_NoPart ?kt_BadCheck_RowError ?kt_BadCheck_ValueError
    (case m_YardError => k_is)
    (case m_BadBytes => k_is)
    (case m_BadCheck => k_is)
    (case m_BadText => k_is)
    (case m_BadBase => k_is)
    (case m_BadInput => k_is)
    (case m_BadLine => k_is)
    (case m_NoMain => k_is)
    (case m_TooGreat => k_is)
    (case m_NoPart => k_is)
    (case m_RowError => k_is)
    (case a0 => k_is)
    (case l0 => k_is)
    (case c0 => k_is)
    (case k0 => k_is)
    (case a1 => k_is)
    (case l1 => k_is)
    (case c1 => k_is)
    (case k1 => k_is)
    (case a2 => k_is)
    (case l2 => k_is)
    (case c2 => k_is)
    (case k2 => k_is)
    (case a3 => k_is)
    (case l3 => k_is)
    (case c3 => k_is)
    (case k3 => k_is)
    (case a4 => k_is)
    (case l4 => k_is)
    (case c4 => k_is)
    (case k4 => k_is)
    (case t4_is => k_is)
    (case a5 => k_is)
    (case l5 => k_is)
    (case c5 => k_is)
    (case k5 => k_is)
    (case a6 => k_is)
    (case l6 => k_is)
    (case c6 => k_is)
    (case k6 => k_is)
    (case a7 => k_is)
    (case l7 => k_is)
    (case c7 => k_is)
    (case k7 => k_is)
    (case a8 => k_is)
    (case l8 => k_is)
    (case c8 => k_is)
    (case k8 => k_is)
    (case a9 => k_is)
    (case l9 => k_is)
    (case c9 => k_is)
    (case k9 => k_is)
    (case a10 => k_is)
    (case l10 => k_is)
    (case c10 => k_is)
    (case k10 => k_is)
    (case a11 => k_is)
    (case l11 => k_is)
    (case c11 => k_is)
    (case k11 => k_is)
    (case a12 => k_is)
    (case l12 => k_is)
    (case c12 => k_is)
    (case k12 => k_is)
    (case a13 => k_is)
    (case l13 => k_is)
    (case c13 => k_is)
    (case k13 => k_is)
    (case a14 => k_is)
    (case l14 => k_is)
    (case c14 => k_is)
    (case k14 => k_is)
    (case a15 => k_is)
    (case l15 => k_is)
    (case c15 => k_is)
    (case k15 => k_is)
    (case a16 => k_is)
    (case l16 => k_is)
    (case c16 => k_is)
    (case k16 => k_is)
    (case a17 => k_is)
    (case l17 => k_is)
    (case c17 => k_is)
    (case k17 => k_is)
    (case g_MOST_BYTE => k_is)
    (case r_MOST_BYTE => first | exact rfl | exact ⟨_, rfl⟩)
    (case g_FIRST_CHECK => k_is)
    (case r_FIRST_CHECK => first | exact rfl | exact ⟨_, rfl⟩)
    (case g_LAID_OVER => k_is)
    (case r_LAID_OVER => first | exact rfl | exact ⟨_, rfl⟩)
    (case n_ValueError => k_is)
    (case n_all => k_is)
    (case n_bool => k_is)
    (case n_int => k_is)
    (case n_isinstance => k_is)
    (case n_len => k_is)
    (case n_list => k_is)
    (case n_range => k_is)
    (case n_set => k_is)
    (case n_sorted => k_is)
    (case e_BadBytes => k_exc)
    (case qga_BadBytes => k_is)
    (case qgt_BadBytes => k_is)
    (case qcl_BadBytes => k_is)
    (case qha_BadBytes => k_is)
    (case qhn_BadBytes => k_is)
    (case qtk_BadBytes => k_is)
    (case qhm_BadBytes => k_is)
    (case qme_BadBytes => k_is)
    (case ex_BadBytes => kts_exm)
    (case kt_BadBytes_BadBytes => kit_is)
    (case kt_BadBytes_BadCheck => kit_is)
    (case kt_BadBytes_BadText => kit_is)
    (case kt_BadBytes_BadBase => kit_is)
    (case kt_BadBytes_BadInput => kit_is)
    (case kt_BadBytes_BadLine => kit_is)
    (case kt_BadBytes_NoMain => kit_is)
    (case kt_BadBytes_TooGreat => kit_is)
    (case kt_BadBytes_NoPart => kit_is)
    (case kt_BadBytes_RowError => kit_is)
    (case kt_BadBytes_ValueError => kit_is)
    (case e_BadCheck => k_exc)
    (case qga_BadCheck => k_is)
    (case qgt_BadCheck => k_is)
    (case qcl_BadCheck => k_is)
    (case qha_BadCheck => k_is)
    (case qhn_BadCheck => k_is)
    (case qtk_BadCheck => k_is)
    (case qhm_BadCheck => k_is)
    (case qme_BadCheck => k_is)
    (case ex_BadCheck => kts_exm)
    (case kt_BadCheck_BadBytes => kit_is)
    (case kt_BadCheck_BadCheck => kit_is)
    (case kt_BadCheck_BadText => kit_is)
    (case kt_BadCheck_BadBase => kit_is)
    (case kt_BadCheck_BadInput => kit_is)
    (case kt_BadCheck_BadLine => kit_is)
    (case kt_BadCheck_NoMain => kit_is)
    (case kt_BadCheck_TooGreat => kit_is)
    (case kt_BadCheck_NoPart => kit_is)
    (case kt_BadCheck_RowError => kit_is)
    (case kt_BadCheck_ValueError => kit_is)
