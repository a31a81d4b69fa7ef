import PyProof.Rows.All
import Wide.All
import OpenK.AllK
import Wide.FinOn
import Lean
import PyProof.EqAt
import PyProof.EqKinds
import PyProof.TupleCall
import PyProof.NeKinds
import PyProof.FitsBits
import PyProof.AutoIntG2
import PyProof.FactsAll.int_6
import PyProof.CompFree
import PyProof.ConsumeWalk
import KE.KTupSum
import KE.KRevIter
import PySem.Challenge.RW_rootrow_k07_whole_simplest_between
set_option Elab.async false
set_option linter.all false
set_option maxRecDepth 100000
/-! THE HAND LAYER, for ints, bools, texts, own classes, LISTS and tuples (index, slices, in, append, pop ..), calls, loops. Paste it whole ahead of your own text; what your proof does not reach may be deleted. -/
namespace L2
open PySem PySem.Spec PyProof.Rows

/-- a key: an int or a str -/
noncomputable abbrev Key := Sum Int Str
noncomputable def keyIs : Key → Value → Bool
  | .inl k, v => Value.isInt k v
  | .inr x, v => Value.isStrOf x v
noncomputable def keyH (w : World) : Key → Int
  | .inl k => hashInt k
  | .inr x => hashStr w x
theorem keyIs_shape : ∀ {k : Key} {v : Value}, keyIs k v = true → (∃ i t, k = Sum.inl i ∧ v = Value.int i t) ∨ (∃ x t, k = Sum.inr x ∧ v = Value.str x t)
  | .inl i, v, h => by
    obtain ⟨t, e⟩ := Value.isInt_shape (k := i) (v := v) h
    exact .inl ⟨i, t, rfl, e⟩
  | .inr x, v, h => by
    obtain ⟨t, e⟩ := Value.isStrOf_shape (x := x) (v := v) h
    exact .inr ⟨x, t, rfl, e⟩
theorem key_ll (a b : Int) : decide ((Sum.inl a : Key) = Sum.inl b) = (a == b) := by
  by_cases e : a = b
  · subst e; simp
  · have h : ¬ (Sum.inl a : Key) = Sum.inl b := fun q => e (Sum.inl.inj q)
    rw [decide_eq_false h]
    exact (beq_eq_false_iff_ne.mpr e).symm
theorem key_rr (a b : Str) : decide ((Sum.inr a : Key) = Sum.inr b) = decide (a = b) := by
  by_cases e : a = b
  · subst e; simp
  · have h : ¬ (Sum.inr a : Key) = Sum.inr b := fun q => e (Sum.inr.inj q)
    rw [decide_eq_false h, decide_eq_false e]
theorem key_lr (a : Int) (b : Str) : decide ((Sum.inl a : Key) = Sum.inr b) = false := decide_eq_false (fun q => nomatch q)
theorem key_rl (a : Str) (b : Int) : decide ((Sum.inr a : Key) = Sum.inl b) = false := decide_eq_false (fun q => nomatch q)

noncomputable def mixKind (prog : Program) (w : World) : PySem.KeyKind prog w Key where
  is := keyIs
  hash := keyH w
  inj := fun v a b ha hb => by
    rcases keyIs_shape ha with ⟨i, t, rfl, rfl⟩ | ⟨x, t, rfl, rfl⟩
    · rcases keyIs_shape hb with ⟨j, u, rfl, e⟩ | ⟨y, u, rfl, e⟩
      · injection e with e1 _; rw [e1]
      · exact nomatch e
    · rcases keyIs_shape hb with ⟨j, u, rfl, e⟩ | ⟨y, u, rfl, e⟩
      · exact nomatch e
      · injection e with e1 _; rw [e1]
  byValue := fun k v h => by
    rcases keyIs_shape h with ⟨i, t, rfl, rfl⟩ | ⟨x, t, rfl, rfl⟩ <;> rfl
  pyHash := fun hv h => by
    rcases keyIs_shape hv with ⟨i, t, rfl, rfl⟩ | ⟨x, t, rfl, rfl⟩
    · exact wpAny_pyHash_int h
    · exact wpAny_pyHash_str h
  eqBool := fun hu hv h => by
    rcases keyIs_shape hu with ⟨i, t, rfl, rfl⟩ | ⟨x, t, rfl, rfl⟩
    · rcases keyIs_shape hv with ⟨j, u, rfl, rfl⟩ | ⟨y, u, rfl, rfl⟩
      · rw [key_ll] at h; exact wpAny_eqBool_int h
      · rw [key_lr] at h; exact SeqAt.EqAt.int_str i t y u _ _ _ _ h
    · rcases keyIs_shape hv with ⟨j, u, rfl, rfl⟩ | ⟨y, u, rfl, rfl⟩
      · rw [key_rl] at h; exact SeqAt.EqAt.str_int x t j u _ _ _ _ h
      · rw [key_rr] at h; exact wpAny_eqBool_str h
  «strs» := fun k x t v h => by
    rcases keyIs_shape h with ⟨i, u, rfl, e⟩ | ⟨y, u, rfl, e⟩
    · exact nomatch e
    · injection e with e1 _
      subst e1
      cases v <;> rfl

end L2

namespace L2
open PySem PySem.Spec PyProof.Rows

/-- a value, without the heap -/
inductive V where
  | non | bl (b : Bool) | int (i : Int) | str (x : Str) | byt (b : Array UInt8) | flt (b : UInt64) | ref (a : Addr) | ty (n : String)
  deriving DecidableEq

noncomputable def RelV : V → Value → Prop
  | .non, u => u = Value.none
  | .bl b, u => u = Value.bool b
  | .int i, u => ∃ t, u = Value.int i t
  | .str x, u => ∃ t, u = Value.str x t
  | .byt b, u => ∃ t, u = Value.bytes b t
  | .flt b, u => ∃ t, u = Value.float b t
  | .ref a, u => u = Value.ref a
  | .ty n, u => u = Value.type n

noncomputable abbrev Vals : List V → List Value → Prop := Paired RelV
theorem Vals.length {xs : List V} {us : List Value} (r : Vals xs us) : xs.length = us.length := Paired.length r
theorem Vals.get : ∀ {xs : List V} {us : List Value} {i : Nat} {x : V}, Vals xs us → xs[i]? = some x → ∃ u, us[i]? = some u ∧ RelV x u
  | _, _, _, _, .nil, e => by simp at e
  | _, _, 0, _, .cons r _, e => by simp at e; subst e; exact ⟨_, rfl, r⟩
  | _, _, i + 1, x, .cons _ t, e => by
    obtain ⟨u, h1, h2⟩ := Vals.get (i := i) (x := x) t (by simpa using e)
    exact ⟨u, by simpa using h1, h2⟩




theorem Vals.append : ∀ {xs ys : List V} {us ws : List Value}, Vals xs us → Vals ys ws → Vals (xs ++ ys) (us ++ ws)
  | _, _, _, _, .nil, s => s
  | _, _, _, _, .cons r t, s => .cons r (Vals.append t s)
theorem Vals.take : ∀ {xs : List V} {us : List Value} (n : Nat), Vals xs us → Vals (xs.take n) (us.take n)
  | _, _, 0, _ => .nil
  | _, _, _ + 1, .nil => .nil
  | _, _, n + 1, .cons r t => .cons r (Vals.take n t)
theorem Vals.drop : ∀ {xs : List V} {us : List Value} (n : Nat), Vals xs us → Vals (xs.drop n) (us.drop n)
  | _, _, 0, r => r
  | _, _, _ + 1, .nil => .nil
  | _, _, n + 1, .cons _ t => Vals.drop n t





noncomputable def RelO : Option V → Option Value → Prop
  | some v, some u => RelV v u
  | none, none => True
  | _, _ => False
noncomputable def KV {κ : Type} : List (κ × V) → List (κ × Value) → Prop := Paired fun (p : κ × V) (q : κ × Value) => p.1 = q.1 ∧ RelV p.2 q.2

/-- a key of a dict (00_mix): an int or a text -/
noncomputable def kV : Key → V
  | .inl i => .int i
  | .inr x => .str x

/-- what stands at a tracked address -/
inductive HO where
  /-- a list -/
  | lst (xs : List V)
  /-- a tuple (never changes) -/
  | tup (xs : List V)
  /-- a dict whose keys are ints and texts; one whose keys are tuples of ints and texts (the empty one is both) -/
  | dK (kvs : List (Key × V)) | dT (kvs : List (List Key × V))
  /-- a set of ints: its members, its size -/
  | set (S : Int → Bool) (n : Nat)
  /-- an instance of the class at C, its dict at dx, its attributes -/
  | ins (C dx : Addr) (fs : List (Str × V))
  /-- the dict of the instance at x -/
  | own (x : Addr)
  /-- the dict of an exception -/
  | xd (fs : List (Str × V))
  /-- a bound method, f of x -/
  | met (f x : Addr)
  /-- a range object lo, lo + 1, .. below hi -/
  | rng (lo hi : Int)
  /-- a thing that is known to the object (the script; a dict while a loop walks it): read, never written while it is so -/
  | frz (o : Obj) (u : HO)
  /-- a code object's table -/
  | tbl (ps : Array Value)
  /-- any other thing, by what is true of its one object (a def of one's own: SetO a S n := HO.ext fun h => ..) -/
  | ext (φ : Heap → Prop)

noncomputable abbrev Hp := Addr → Option HO
noncomputable def upd (H : Hp) (a : Addr) (o : HO) : Hp := fun b => if b = a then some o else H b
theorem upd_same {H : Hp} {a : Addr} {o : HO} : upd H a o a = some o := by unfold upd; rw [if_pos rfl]
theorem upd_ne {H : Hp} {a b : Addr} {o : HO} (h : b ≠ a) : upd H a o b = H b := by unfold upd; rw [if_neg h]
theorem ne_of_none {H : Hp} {a b : Addr} {o : HO} (h : H a = some o) (h' : H b = none) : a ≠ b := by
  intro e; subst e; rw [h] at h'; cases h'

section
variable (P : Program) (w : World)
noncomputable def ObjOk (H : Hp) (h : Heap) (a : Addr) : HO → Prop
  | .lst xs => xs.length ≤ sizeLine ∧ ∃ (its : List Value) (n : Nat), Vals xs its ∧ h.get? a = some { cls := .type "list", data := .seq its.toArray n }
  | .tup xs => xs.length ≤ sizeLine ∧ ∃ its : List Value, Vals xs its ∧ IsTup h a its.toArray
  | .dK kvs => kvs.length ≤ sizeLine ∧ (a == sysModules) = false ∧ ∃ vs, KV kvs vs ∧ h.DictOf (mixKind P w) a vs
  | .dT kvs => kvs.length ≤ sizeLine ∧ (a == sysModules) = false ∧ ∃ xs : List (List Key × Addr × Value),
      Paired (fun (p : List Key × V) (q : List Key × Addr × Value) => p.1 = q.1 ∧ H q.2.1 = some (.tup (p.1.map kV)) ∧ RelV p.2 q.2.2) kvs xs ∧
      ∃ o es ep, h.get? a = some o ∧ o.ExactDict ∧ o.data = .dict es ep ∧ es.toList = xs.map (entryOfKey (tupleKind (mixKind P w))) ∧ (xs.map (·.1)).Nodup
  | .set S n => h.SetOf (intKind P w) a S n
  | .ins C dx fs => H dx = some (.own a) ∧ fs.length ≤ 1000 ∧ dx ≠ a ∧ h.get? a = some (PySem.W.instObj C dx) ∧
      ∃ mA, h.Ns1 dx mA ∧ (∀ f, RelO (fs.lookup f) (mA f)) ∧ PySem.Within mA (fs.map (·.1))
  | .own _ => ∃ o, h.get? a = some o
  | .xd fs => ∃ mA, h.Ns1 a mA ∧ ∀ f, RelO (fs.lookup f) (mA f)
  | .rng lo hi => ∃ t u v, h.get? a = some { cls := .type "range", data := .fields #[.int lo t, .int hi u, .int 1 v] }
  | .frz o u => h.get? a = some o ∧ ObjOk H h a u
  | .tbl ps => h.get? a = some { cls := .none, data := .fields ps }
  | .met f x => h.get? a = some (PySem.W.methodObj (.ref f) (.ref x))
  | .ext φ => φ h ∧ (∃ o, h.get? a = some o) ∧ ∀ h1 h2 : Heap, φ h1 → (∀ o, h1.get? a = some o → h2.get? a = some o) → φ h2
/-- the abstract heap is held -/
noncomputable def HOk (H : Hp) (h : Heap) : Prop := ∀ a o, H a = some o → ObjOk P w H h a o
end

section
variable {P : Program} {w : World} {H H' : Hp} {h h' : Heap} {a : Addr} {o : HO}
theorem ObjOk.lt (x : ObjOk P w H h a o) : a < h.objs.size := by
  cases o with
  | lst xs => obtain ⟨_, _, _, _, e⟩ := x; exact Heap.lt_size e
  | tup xs => obtain ⟨_, _, _, p⟩ := x; exact p.lt
  | dK kvs => obtain ⟨_, _, _, _, o, _, _, e, _⟩ := x; exact Heap.lt_size e
  | dT kvs => obtain ⟨_, _, _, _, o, _, _, e, _⟩ := x; exact Heap.lt_size e
  | set S n => obtain ⟨o, _, _, _, e, _⟩ := x; exact Heap.lt_size e
  | ins C dx fs => obtain ⟨_, _, _, e, _⟩ := x; exact Heap.lt_size e
  | own y => obtain ⟨_, e⟩ := x; exact Heap.lt_size e
  | xd fs => obtain ⟨_, ⟨_, _, _, e, _⟩, _⟩ := x; exact Heap.lt_size e
  | rng lo hi => obtain ⟨_, _, _, e⟩ := x; exact Heap.lt_size e
  | frz ob u => obtain ⟨e, _⟩ := x; exact Heap.lt_size e
  | tbl ps => exact Heap.lt_size (show h.get? a = some _ from x)
  | met f y => exact Heap.lt_size (show h.get? a = some _ from x)
  | ext φ => obtain ⟨_, ⟨_, e⟩, _⟩ := x; exact Heap.lt_size e
theorem Paired.mapP {α β : Type} {F G : α → β → Prop} : ∀ {l₁ : List α} {l₂ : List β}, Paired F l₁ l₂ → (∀ a b, F a b → G a b) → Paired G l₁ l₂
  | _, _, .nil, _ => .nil
  | _, _, .cons r t, f => .cons (f _ _ r) (Paired.mapP t f)
/-- what an object's description leans on: its own object, its own dict, the tuples -/
theorem ObjOk.stay (x : ObjOk P w H h a o) (k : ∀ b u, (b = a ∨ H b = some (.own a)) → h.get? b = some u → h'.get? b = some u)
    (ho : ∀ b, H b = some (.own a) → H' b = some (.own a)) (ht : ∀ b xs, H b = some (.tup xs) → H' b = some (.tup xs)) : ObjOk P w H' h' a o := by
  induction o with
  | lst xs => obtain ⟨z, its, n, r, e⟩ := x; exact ⟨z, its, n, r, k _ _ (.inl rfl) e⟩
  | tup xs => obtain ⟨z, its, r, ob, e, c⟩ := x; exact ⟨z, its, r, ob, k _ _ (.inl rfl) e, c⟩
  | dK kvs => obtain ⟨z, y, vs, r, ob, es, ep, e, c⟩ := x; exact ⟨z, y, vs, r, ob, es, ep, k _ _ (.inl rfl) e, c⟩
  | dT kvs =>
    obtain ⟨z, y, xs, r, ob, es, ep, e, c⟩ := x
    exact ⟨z, y, xs, Paired.mapP r fun p q z => ⟨z.1, ht _ _ z.2.1, z.2.2⟩, ob, es, ep, k _ _ (.inl rfl) e, c⟩
  | set S n => obtain ⟨ob, es, ep, t, e, c⟩ := x; exact ⟨ob, es, ep, t, k _ _ (.inl rfl) e, c⟩
  | ins C dx fs =>
    obtain ⟨d, z, ne, e, mA, ⟨od, es, ep, e2, c⟩, r⟩ := x
    exact ⟨ho _ d, z, ne, k _ _ (.inl rfl) e, mA, ⟨od, es, ep, k _ _ (.inr d) e2, c⟩, r⟩
  | own y => obtain ⟨ob, e⟩ := x; exact ⟨ob, k _ _ (.inl rfl) e⟩
  | xd fs => obtain ⟨mA, ⟨od, es, ep, e, c⟩, r⟩ := x; exact ⟨mA, ⟨od, es, ep, k _ _ (.inl rfl) e, c⟩, r⟩
  | rng lo hi => obtain ⟨t, u, v, e⟩ := x; exact ⟨t, u, v, k _ _ (.inl rfl) e⟩
  | frz ob u ih => obtain ⟨e, q⟩ := x; exact ⟨k _ _ (.inl rfl) e, ih q⟩
  | tbl ps =>
    have e : h.get? a = some { cls := .none, data := .fields ps } := x
    show h'.get? a = some { cls := .none, data := .fields ps }
    exact k a _ (.inl rfl) e
  | met f y =>
    have e : h.get? a = some (PySem.W.methodObj (.ref f) (.ref y)) := x
    show h'.get? a = some (PySem.W.methodObj (.ref f) (.ref y))
    exact k a _ (.inl rfl) e
  | ext φ => obtain ⟨p, ⟨o, e⟩, st⟩ := x; exact ⟨st _ _ p fun o q => k _ _ (.inl rfl) q, ⟨o, k _ _ (.inl rfl) e⟩, st⟩
theorem HOk.lt (x : HOk P w H h) (e : H a = some o) : a < h.objs.size := (x a o e).lt
theorem HOk.fresh (x : HOk P w H h) (e : h.objs.size ≤ a) : H a = none := by
  cases q : H a with
  | none => rfl
  | some u => exact absurd (Nat.lt_of_lt_of_le (x.lt q) e) (Nat.lt_irrefl _)
/-- every object of the heap is kept -/
theorem HOk.kept (x : HOk P w H h) (k : ∀ b u, h.get? b = some u → h'.get? b = some u) : HOk P w H h' := fun a o e =>
  (x a o e).stay (fun b u _ q => k b u q) (fun _ q => q) fun _ _ q => q
/-- a new object is laid and tracked -/
theorem HOk.laid (x : HOk P w H h) (k : ∀ b u, h.get? b = some u → h'.get? b = some u) (hp : h.objs.size ≤ a) (new : ObjOk P w (upd H a o) h' a o) : HOk P w (upd H a o) h' := fun b u e => by
  have hn := x.fresh hp
  by_cases hb : b = a
  · subst hb; rw [upd_same] at e; cases e; exact new
  · rw [upd_ne hb] at e
    exact (x b u e).stay (fun c v _ q => k c v q) (fun c q => by rw [upd_ne (ne_of_none q hn)]; exact q) fun c xs q => by rw [upd_ne (ne_of_none q hn)]; exact q
end

/-- what may be read as u: it is u, or a known u -/
noncomputable def Rd (H : Hp) (a : Addr) (u : HO) : Prop := H a = some u ∨ ∃ o, H a = some (.frz o u)

theorem Rd.ok {P : Program} {w : World} {H : Hp} {h : Heap} {a : Addr} {u : HO} (r : Rd H a u) (x : HOk P w H h) : ObjOk P w H h a u := by
  rcases r with r | ⟨o, r⟩
  · exact x a u r
  · obtain ⟨_, q⟩ := x a _ r
    exact q
/-- what may be written -/
noncomputable def Mut : Option HO → Prop
  | some (.lst _) => True
  | some (.dK _) => True
  | some (.dT _) => True
  | some (.set _ _) => True
  | some (.ins _ _ _) => True
  | some (.ext _) => True
  | _ => False
section
variable {P : Program} {w : World} {H : Hp} {h h' : Heap} {x e : Addr} {o' : HO}
/-- the object at e is changed: x itself, or the dict of the instance x -/
theorem HOk.write (ok : HOk P w H h) (mu : Mut (H x)) (he : e = x ∨ H e = some (.own x)) (k : ∀ b u, b ≠ e → h.get? b = some u → h'.get? b = some u) (heo : ∃ u, h'.get? e = some u)
    (new : ObjOk P w (upd H x o') h' x o') : HOk P w (upd H x o') h' := fun b u q => by
  have nown : ∀ c y, H c = some (.own y) → c ≠ x := fun c y r z => by subst z; rw [r] at mu; exact mu
  have ntup : ∀ c xs, H c = some (.tup xs) → c ≠ x := fun c xs r z => by subst z; rw [r] at mu; exact mu
  by_cases hb : b = x
  · subst hb; rw [upd_same] at q; cases q; exact new
  · rw [upd_ne hb] at q
    by_cases hbe : b = e
    · have q' : H b = some (.own x) := by
        rcases he with z | z
        · exact absurd (hbe.trans z) hb
        · rw [hbe]; exact z
      rw [q] at q'; cases q'
      obtain ⟨v, hv⟩ := heo
      exact ⟨v, by rw [hbe]; exact hv⟩
    · refine (ok b u q).stay (fun c v hc r => k c v ?_ r) (fun c r => by rw [upd_ne (nown c b r)]; exact r) fun c xs r => by rw [upd_ne (ntup c xs r)]; exact r
      rcases hc with rfl | hc
      · exact hbe
      · rintro rfl
        rcases he with z | z
        · exact nown c b hc z
        · rw [hc] at z; cases z; exact hb rfl
end

/-! ### kept unless tracked; of the frames at fs (the callers') the slots may change (an exception that passes writes there); of the records at ex (iterators) nothing is said -/
structure Un (fs ex : List Addr) (H H' : Hp) (h h' : Heap) : Prop where
  keep : ∀ b o, h.get? b = some o → H b = none → b ∉ fs → b ∉ ex → h'.get? b = some o
  slot : ∀ b o, h.get? b = some o → H b = none → b ∈ fs → b ∉ ex → ∃ sl, h'.get? b = some { o with slots := sl }
  free : ∀ b o, h.get? b = some o → H b = none → b ∉ ex → H' b = none
  there : ∀ b o, h.get? b = some o → b ∉ ex → ∃ o', h'.get? b = some o'
  tups : ∀ b xs, H b = some (.tup xs) → H' b = some (.tup xs)
  frzs : ∀ b o u, H b = some (.frz o u) → H' b = some (.frz o u)
  tbls : ∀ b ps, H b = some (.tbl ps) → ∃ more, H' b = some (.tbl (ps ++ more))
section
variable {fs fs' ex ex' : List Addr} {H H1 H2 : Hp} {h h1 h2 h' : Heap} {a x e : Addr} {o : HO}
theorem Un.any (u : Un fs ex H H1 h h1) {b : Addr} {ob : Obj} (q : h.get? b = some ob) (n : H b = none) (hx : b ∉ ex) : ∃ sl, h1.get? b = some { ob with slots := sl } := by
  by_cases hb : b ∈ fs
  · exact u.slot b ob q n hb hx
  · exact ⟨ob.slots, u.keep b ob q n hb hx⟩


















theorem Un.kept (k : ∀ b u, h.get? b = some u → h'.get? b = some u) : Un fs ex H H h h' :=
  ⟨fun b ob q _ _ _ => k b ob q, fun b ob q _ _ _ => ⟨ob.slots, k b ob q⟩, fun _ _ _ n _ => n, fun b ob q _ => ⟨ob, k b ob q⟩, fun _ _ q => q, fun _ _ _ q => q, fun _ ps q => ⟨#[], by rw [q]; simp⟩⟩
theorem Un.refl : Un fs ex H H h h := Un.kept fun _ _ q => q
theorem Un.laid (k : ∀ b u, h.get? b = some u → h'.get? b = some u) (hp : h.objs.size ≤ a) (hn : H a = none) : Un fs ex H (upd H a o) h h' where
  keep := fun b u q _ _ _ => k b u q
  slot := fun b u q _ _ _ => ⟨u.slots, k b u q⟩
  free := fun b u q n _ => by rw [upd_ne (Nat.ne_of_lt (Nat.lt_of_lt_of_le (Heap.lt_size q) hp))]; exact n
  there := fun b u q _ => ⟨u, k b u q⟩
  tups := fun b xs q => by rw [upd_ne (ne_of_none q hn)]; exact q
  frzs := fun b u xs q => by rw [upd_ne (ne_of_none q hn)]; exact q
  tbls := fun b ps q => ⟨#[], by rw [upd_ne (ne_of_none q hn), q]; simp⟩
theorem Un.write (mu : Mut (H x)) (he : e = x ∨ H e = some (.own x)) (k : ∀ b u, b ≠ e → h.get? b = some u → h'.get? b = some u) (heo : ∃ u, h'.get? e = some u) : Un fs ex H (upd H x o) h h' := by
  have hx : ∀ b, H b = none → b ≠ x := fun b n z => by subst z; rw [n] at mu; exact mu
  have hb : ∀ b, H b = none → b ≠ e := fun b n z => by
    subst z
    rcases he with r | r
    · exact hx b n r
    · rw [n] at r; cases r
  have hm : ∀ b u, H b = some u → ¬ Mut (some u) → b ≠ x := fun b u q nm z => by subst z; rw [q] at mu; exact nm mu
  refine ⟨fun b u q n _ _ => k b u (hb b n) q, fun b u q n _ _ => ⟨u.slots, k b u (hb b n) q⟩, fun b u q n _ => by rw [upd_ne (hx b n)]; exact n, fun b u q _ => ?_,
    fun b xs q => by rw [upd_ne (hm b _ q fun z => z)]; exact q, fun b u xs q => by rw [upd_ne (hm b _ q fun z => z)]; exact q, fun b ps q => ⟨#[], by rw [upd_ne (hm b _ q fun z => z), q]; simp⟩⟩
  by_cases hbe : b = e
  · subst hbe; exact heo
  · exact ⟨u, k b u hbe q⟩


end

/-! ### the heap without what is tracked -/
noncomputable def trk (h : Heap) (H : Hp) : List Addr := (List.range h.objs.size).filter fun a => (H a).isSome
noncomputable def hidT (h : Heap) (H : Hp) : Heap := PySem.W.hideAll h (trk h H)
theorem hidT_size (h : Heap) (H : Hp) : (hidT h H).objs.size = h.objs.size := PySem.W.hideAll_size _ _
theorem hidT_get {h : Heap} {H : Hp} {b : Addr} {o : Obj} (e : h.get? b = some o) (n : H b = none) : (hidT h H).get? b = some o :=
  PySem.W.hideAll_get _ e fun hm => by
    have q : (H b).isSome = true := (List.mem_filter.mp hm).2
    rw [n] at q; simp at q
theorem of_hidT {h : Heap} {H : Hp} {b : Addr} {o : Obj} (e : (hidT h H).get? b = some o) : h.get? b = some o ∧ H b = none := by
  have e' : h.get? b = some o := PySem.W.of_hideAll (trk h H) e
  refine ⟨e', ?_⟩
  cases q : H b with
  | none => rfl
  | some x =>
    have hm : b ∈ trk h H := List.mem_filter.mpr ⟨List.mem_range.mpr (Heap.lt_size e'), by simp [q]⟩
    have z : (hidT h H).get? b = none := PySem.W.hideAll_none (trk h H) hm
    rw [z] at e; cases e

/-! ### OpenK's ledger, filled with every new object but one -/
noncomputable def allNews (g h : Heap) (L : Addr) : List (Addr × Obj) := (List.range h.objs.size).filterMap fun a => if a = L ∨ (g.get? a).isSome = true then none else (h.get? a).map fun o => (a, o)
noncomputable def rest (g h : Heap) (L d : Addr) : List (Addr × Obj) := (allNews g h L).filter fun p => decide (p.1 ≠ d)
end L2

namespace L2
open PySem PySem.Spec PyProof.Rows

/-- the module's facts, over the base: the heap at the law's entry without what is tracked there -/
structure Mod (K : PySem.W.Frag) (mg : Str → Option Value) (base : Heap) : Prop where
  kin : K.In base
  glob : base.Ns mainGlobals mg
  blt : ∃ mb, base.Ns builtinsNs mb ∧ ∀ x : Str, x ≠ "__name__" → mb x = bootBuiltins x
  nolimit : base.NoLimit

/-- the context: a def's body (or a comprehension's block) running. base: fixed through the whole law; s₀, H₀: the entry; outer: the frames whose slots others may change (a def's callers); stack: all frames that run;
   ex: iterators that were made ahead of the entry and are walked here (a comprehension's); fn: the names whose cells were made at the entry (a def: all; a comprehension's block: its own); calm: not within an except suite; pn: pins that every state bears; xe: what is wanted of an exception that leaves the code -/
structure Cx where
  prog : Program
  w : World
  K : PySem.W.Frag
  mg : Str → Option Value
  base : Heap
  A : Around
  N : List Str
  s₀ : Shared
  H₀ : Hp
  env : Env
  outer : List Env
  stack : List Env
  ex : List Addr
  fn : Str → Bool
  calm : Bool
  pn : List (Addr × Obj)
  xe : Value → Shared → Prop
/-- the callers' frames -/
noncomputable def frs (l : List Env) : List Addr := l.filterMap (·.frame)
noncomputable abbrev Cx.fs (X : Cx) : List Addr := frs X.outer

noncomputable def Vis (sc : Scope) (x : Str) : Prop := sc.names.lookup x = some .local ∨ sc.names.lookup x = some .cell ∨ sc.names.lookup x = some .free
noncomputable def Loc (sc : Scope) (x : Str) : Prop := sc.names.lookup x = some .local ∨ sc.names.lookup x = some .cell
noncomputable def Look (env : Env) (h : Heap) (m : Str → Option Value) (x : Str) (u : Value) : Prop :=
  (env.kindOf x = some .local ∧ m x = some u) ∨ ((env.kindOf x = some .cell ∨ env.kindOf x = some .free) ∧ ∃ c, env.cells.lookup x = some c ∧ h.IsCell c (some u))

structure Cx.Ok (X : Cx) : Prop where
  mod : Mod X.K X.mg X.base
  kind : X.env.scope.kind = .function
  glob : X.env.globals = mainGlobals
  blt : X.env.builtins = builtinsNs
  above : X.s₀.heap.objs.size ≤ X.env.locals
  inj : ∀ x y c, X.env.cells.lookup x = some c → X.env.cells.lookup y = some c → x = y
  has : ∀ x, (X.env.kindOf x = some .cell ∨ X.env.kindOf x = some .free) → ∃ c, X.env.cells.lookup x = some c
  cab : ∀ x c, X.fn x = true → X.env.cells.lookup x = some c → X.s₀.heap.objs.size ≤ c
  hd : X.calm = true → X.A.handled = none
  frames : X.A.frames = some X.stack
  stk : X.stack = X.outer ∨ (X.stack = X.env :: X.outer ∧ X.env.frame = some X.env.locals)
  exf : ∀ b ∈ X.ex, b ≠ X.env.locals ∧ ∀ x c, X.env.cells.lookup x = some c → c ≠ b
  bs : ∀ b o, X.base.get? b = some o → X.s₀.heap.get? b = some o ∧ X.H₀ b = none
  bsz : X.base.objs.size ≤ X.s₀.heap.objs.size
  noex : ∀ b o, X.base.get? b = some o → b ∉ X.ex
  exfs : ∀ b ∈ X.ex, b ∉ X.fs
  funs : X.s₀.heap.FunFrames X.base X.outer
  frf : ∀ b ∈ X.fs, X.H₀ b = none

structure Inv (X : Cx) (pins : List (Addr × Obj)) (σ : List (Option V)) (H : Hp) (s : Shared) : Prop where
  ok : X.Ok
  os : s.os = X.s₀.os
  bare : AllBare s.gens
  base : Un X.fs X.ex X.H₀ H X.s₀.heap s.heap
  loc : ∃ m, s.heap.Ns X.env.locals m ∧ ∀ (i : Nat) (x : Str) (v : V), X.N[i]? = some x → σ[i]? = some (some v) → Vis X.env.scope x → ∃ u, RelV v u ∧ Look X.env s.heap m x u
  cell : ∀ x c, X.env.cells.lookup x = some c → ∃ v, s.heap.IsCell c v
  free : H X.env.locals = none
  freeC : ∀ x c, X.env.cells.lookup x = some c → H c = none
  pin : ∀ p ∈ X.pn ++ pins, s.heap.get? p.1 = some p.2 ∧ H p.1 = none ∧ p.1 ≠ X.env.locals ∧ p.1 ∉ X.fs ∧ ∀ v, p.2.data ≠ .cell v
  hok : HOk X.prog X.w H s.heap
  len : σ.length = X.N.length

section
variable {X : Cx} {pins : List (Addr × Obj)} {σ : List (Option V)} {H H' : Hp} {s : Shared} {h' : Heap}

theorem Cx.Ok.nofr (ok : X.Ok) {b : Addr} {o : Obj} (e : X.base.get? b = some o) : b ∉ X.fs := fun hb => by
  have := (ok.funs.mem hb).1
  rw [e] at this; cases this
theorem Inv.bs (I : Inv X pins σ H s) : ∀ b o, X.base.get? b = some o → s.heap.get? b = some o ∧ H b = none := fun b o e =>
  ⟨I.base.keep b o (I.ok.bs b o e).1 (I.ok.bs b o e).2 (I.ok.nofr e) (I.ok.noex b o e), I.base.free b o (I.ok.bs b o e).1 (I.ok.bs b o e).2 (I.ok.noex b o e)⟩
theorem Inv.bk (I : Inv X pins σ H s) : ∀ b o, X.base.get? b = some o → s.heap.get? b = some o := fun b o e => (I.bs b o e).1
theorem Inv.mod (I : Inv X pins σ H s) : Mod X.K X.mg X.base := I.ok.mod
theorem Inv.kIn (I : Inv X pins σ H s) : X.K.In s.heap := I.ok.mod.kin.keeps I.bk





theorem Inv.lt (I : Inv X pins σ H s) : X.env.locals < s.heap.objs.size := let ⟨_, hn, _⟩ := I.loc; hn.lt
theorem Inv.sz (I : Inv X pins σ H s) : X.s₀.heap.objs.size ≤ s.heap.objs.size := Nat.le_trans I.ok.above (Nat.le_of_lt I.lt)
theorem Inv.nofs (I : Inv X pins σ H s) {a : Addr} (h : s.heap.objs.size ≤ a) : a ∉ X.fs := fun hb => by
  obtain ⟨_, o, ho, _⟩ := I.ok.funs.mem hb
  exact absurd (Nat.lt_of_lt_of_le (Heap.lt_size ho) (Nat.le_trans I.sz h)) (Nat.lt_irrefl _)
theorem Inv.cne (I : Inv X pins σ H s) : ∀ x c, X.env.cells.lookup x = some c → c ≠ X.env.locals := fun x c e z => by
  obtain ⟨v, o, ho, hd⟩ := I.cell x c e
  obtain ⟨m, ⟨o', es, ep, ho', hd', _⟩, _⟩ := I.loc
  rw [z, ho'] at ho; cases ho; rw [hd'] at hd; cases hd
theorem Inv.funs (I : Inv X pins σ H s) : s.heap.FunFrames X.base X.outer := by
  have all : ∀ (l : List Env), (∀ b ∈ frs l, b ∈ X.fs) → X.s₀.heap.FunFrames X.base l → s.heap.FunFrames X.base l := by
    intro l
    induction l with
    | nil => intro _ _; trivial
    | cons env r ih =>
      intro hs hl
      obtain ⟨hk, ⟨L, o, hf, hn, ho, hd⟩, hr⟩ := hl
      have hL : L ∈ X.fs := hs L (by unfold frs; rw [List.filterMap_cons, hf]; exact List.mem_cons_self)
      obtain ⟨sl, e⟩ := I.base.slot L o ho (I.ok.frf L hL) hL fun z => I.ok.exfs L z hL
      exact ⟨hk, ⟨L, _, hf, hn, e, hd⟩, ih (fun b hb => hs b (by unfold frs; rw [List.filterMap_cons, hf]; exact List.mem_cons_of_mem _ hb)) hr⟩
  exact all X.outer (fun _ hb => hb) I.ok.funs

/-- the frames that run, for a call -/
theorem Inv.stack (I : Inv X pins σ H s) : s.heap.FunFrames X.base X.stack := by
  rcases I.ok.stk with e | ⟨e, hf⟩
  · rw [e]; exact I.funs
  · rw [e]
    obtain ⟨m, hn, _⟩ := I.loc
    refine .cons (by rw [I.ok.kind]; decide) hf hn ?_ I.funs
    exact Heap.get?_none_of_le (Nat.le_trans I.ok.bsz I.ok.above)
theorem Inv.stkSub (I : Inv X pins σ H s) : ∀ b ∈ frs X.stack, b ∈ X.env.locals :: X.fs := fun b hb => by
  rcases I.ok.stk with e | ⟨e, hf⟩
  · rw [e] at hb; exact List.mem_cons_of_mem _ hb
  · rw [e] at hb
    unfold frs at hb
    rw [List.filterMap_cons, hf] at hb
    exact hb
theorem Inv.stkFree (I : Inv X pins σ H s) : ∀ b ∈ frs X.stack, H b = none := fun b hb => by
  rcases List.mem_cons.mp (I.stkSub b hb) with e | hb
  · rw [e]; exact I.free
  · obtain ⟨_, o, ho, _⟩ := I.ok.funs.mem hb
    exact I.base.free b o ho (I.ok.frf b hb) fun z => I.ok.exfs b z hb

/-- THE STEP: the untracked objects but the frame and the records at ch are kept (the callers' frames up to slots), the frame's map is kept, the new abstract heap is held -/
theorem Inv.step {g' : Array GenState} {t' : Nat} {d' : Drawn} {ch : List Addr} (I : Inv X pins σ H s)
    (hch : ∀ b ∈ ch, (b ∈ X.ex ∨ X.s₀.heap.objs.size ≤ b) ∧ b ≠ X.env.locals ∧ (∀ x c, X.env.cells.lookup x = some c → c ≠ b) ∧ ∀ p ∈ X.pn ++ pins, p.1 ≠ b)
    (keep : ∀ b o, b ≠ X.env.locals → b ∉ X.fs → b ∉ ch → s.heap.get? b = some o → H b = none → h'.get? b = some o)
    (slot : ∀ b o, b ≠ X.env.locals → b ∈ X.fs → b ∉ ch → s.heap.get? b = some o → H b = none → ∃ sl, h'.get? b = some { o with slots := sl }) (free : ∀ b o, b ∉ ch → s.heap.get? b = some o → H b = none → H' b = none)
    (there : ∀ b o, b ∉ ch → s.heap.get? b = some o → ∃ o', h'.get? b = some o')
    (tups : ∀ b xs, H b = some (.tup xs) → H' b = some (.tup xs)) (frzs : ∀ b o u, H b = some (.frz o u) → H' b = some (.frz o u)) (tbls : ∀ b ps, H b = some (.tbl ps) → ∃ more, H' b = some (.tbl (ps ++ more)))
    (ns : ∀ m, s.heap.Ns X.env.locals m → h'.Ns X.env.locals m) (hok : HOk X.prog X.w H' h') (hg : AllBare g') :
    Inv X pins σ H' { s with heap := h', gens := g', drawn := d', toks := t' } := by
  have neL : ∀ b o, X.s₀.heap.get? b = some o → b ≠ X.env.locals := fun b o e => Nat.ne_of_lt (Nat.lt_of_lt_of_le (Heap.lt_size e) I.ok.above)
  have neC : ∀ b o, X.s₀.heap.get? b = some o → b ∉ X.ex → b ∉ ch := fun b o e hx hb => by
    rcases (hch b hb).1 with z | z
    · exact hx z
    · exact absurd (Nat.lt_of_lt_of_le (Heap.lt_size e) z) (Nat.lt_irrefl _)
  have cellK : ∀ x c, X.env.cells.lookup x = some c → ∀ v, s.heap.IsCell c v → h'.IsCell c v := fun x c e v ⟨o, ho, hd⟩ => by
    have nch : c ∉ ch := fun z => (hch c z).2.2.1 x c e rfl
    by_cases hc : c ∈ X.fs
    · obtain ⟨sl, q⟩ := slot c o (I.cne x c e) hc nch ho (I.freeC x c e)
      exact ⟨_, q, hd⟩
    · exact ⟨o, keep c o (I.cne x c e) hc nch ho (I.freeC x c e), hd⟩
  refine ⟨I.ok, I.os, hg, ⟨fun b o e n hb hx => ?_, fun b o e n hb hx => ?_, fun b o e n hx => ?_, fun b o e hx => ?_, fun b xs e => tups b xs (I.base.tups b xs e), fun b o xs e => frzs b o xs (I.base.frzs b o xs e), fun b ps e => ?_⟩, ?_, fun x c e => ?_, ?_, fun x c e => ?_, fun p hp => ?_, hok, I.len⟩
  · exact keep b o (neL b o e) hb (neC b o e hx) (I.base.keep b o e n hb hx) (I.base.free b o e n hx)
  · obtain ⟨sl, e1⟩ := I.base.slot b o e n hb hx
    obtain ⟨sl', e2⟩ := slot b _ (neL b o e) hb (neC b o e hx) e1 (I.base.free b o e n hx)
    exact ⟨sl', e2⟩
  · obtain ⟨o', e1⟩ := I.base.there b o e hx
    exact free b o' (neC b o e hx) e1 (I.base.free b o e n hx)
  · obtain ⟨o', e1⟩ := I.base.there b o e hx
    exact there b o' (neC b o e hx) e1
  · obtain ⟨m1, e1⟩ := I.base.tbls b ps e
    obtain ⟨m2, e2⟩ := tbls b _ e1
    exact ⟨m1 ++ m2, by rw [e2, Array.append_assoc]⟩
  · obtain ⟨m, hn, hl⟩ := I.loc
    refine ⟨m, ns m hn, fun i x v e1 e2 e3 => ?_⟩
    obtain ⟨u, r, l⟩ := hl i x v e1 e2 e3
    refine ⟨u, r, ?_⟩
    rcases l with l | ⟨k, c, e, z⟩
    · exact .inl l
    · exact .inr ⟨k, c, e, cellK x c e _ z⟩
  · obtain ⟨v, z⟩ := I.cell x c e
    exact ⟨v, cellK x c e v z⟩
  · obtain ⟨m, ⟨o, _, _, ho, _⟩, _⟩ := I.loc
    exact free _ o (fun z => (hch _ z).2.1 rfl) ho I.free
  · obtain ⟨v, o, ho, hd⟩ := I.cell x c e
    exact free c o (fun z => (hch c z).2.2.1 x c e rfl) ho (I.freeC x c e)
  · obtain ⟨e, n, ne, nf, d⟩ := I.pin p hp
    have nch : p.1 ∉ ch := fun z => (hch p.1 z).2.2.2 p hp rfl
    exact ⟨keep p.1 p.2 ne nf nch e n, free p.1 p.2 nch e n, ne, nf, d⟩
/-- .. where the frame's own object is kept too -/
theorem Inv.un {t' : Nat} (I : Inv X pins σ H s) (u : Un X.fs [] H H' s.heap h') (hok : HOk X.prog X.w H' h') : Inv X pins σ H' { s with heap := h', toks := t' } := by
  obtain ⟨m, ⟨o, es, ep, ho, r⟩, _⟩ := id I.loc
  obtain ⟨sl, hL⟩ := u.any ho I.free (by simp)
  exact I.step (g' := s.gens) (d' := s.drawn) (ch := []) (fun _ z => nomatch z) (fun b o _ hb _ e n => u.keep b o e n hb (by simp)) (fun b o _ hb _ e n => u.slot b o e n hb (by simp)) (fun b o _ e n => u.free b o e n (by simp)) (fun b o _ e => u.there b o e (by simp)) u.tups u.frzs u.tbls (fun m' hm => by
    obtain ⟨o', es', ep', ho', r'⟩ := hm
    rw [ho] at ho'; cases ho'
    exact ⟨_, es', ep', hL, r'⟩) hok I.bare
/-- behind a call (or a comprehension's block): the slots of this frame may have changed too, the records at ch may have turned -/
theorem Inv.call {g' : Array GenState} {t' : Nat} {d' : Drawn} {ch : List Addr} (I : Inv X pins σ H s) (u : Un (frs X.stack) ch H H' s.heap h') (hok : HOk X.prog X.w H' h') (hg : AllBare g')
    (hch : ∀ b ∈ ch, (b ∈ X.ex ∨ X.s₀.heap.objs.size ≤ b) ∧ b ≠ X.env.locals ∧ (∀ x c, X.env.cells.lookup x = some c → c ≠ b) ∧ ∀ p ∈ X.pn ++ pins, p.1 ≠ b) :
    Inv X pins σ H' { s with heap := h', gens := g', drawn := d', toks := t' } := by
  obtain ⟨m, ⟨o, es, ep, ho, r⟩, _⟩ := id I.loc
  obtain ⟨sl, hL⟩ := u.any ho I.free fun z => (hch _ z).2.1 rfl
  exact I.step (ch := ch) hch (fun b o hL hb hc e n => u.keep b o e n (fun z => (List.mem_cons.mp (I.stkSub b z)).elim hL hb) hc) (fun b o _ _ hc e n => u.any e n hc) (fun b o hc e n => u.free b o e n hc) (fun b o hc e => u.there b o e hc) u.tups u.frzs u.tbls (fun m' hm => by
    obtain ⟨o', es', ep', ho', r'⟩ := hm
    rw [ho] at ho'; cases ho'
    exact ⟨_, es', ep', hL, r'⟩) hok hg
/-- an untracked record of ours (an iterator) has turned -/
theorem Inv.turned {t' : Nat} {it : Addr} (I : Inv X pins σ H s) (k : ∀ b o, b ≠ it → s.heap.get? b = some o → h'.get? b = some o) (hn : H it = none) (hL : it ≠ X.env.locals)
    (h1 : it ∈ X.ex ∨ X.s₀.heap.objs.size ≤ it) (h2 : ∀ x c, X.env.cells.lookup x = some c → c ≠ it) (h3 : ∀ p ∈ X.pn ++ pins, p.1 ≠ it) : Inv X pins σ H { s with heap := h', toks := t' } := by
  have nit : ∀ b u, H b = some u → b ≠ it := fun b u e z => by rw [z, hn] at e; cases e
  refine I.step (g' := s.gens) (d' := s.drawn) (ch := [it]) (fun b hb => ?_) (fun b o _ _ hc e _ => k b o (fun z => hc (by simp [z])) e) (fun b o _ _ hc e _ => ⟨o.slots, k b o (fun z => hc (by simp [z])) e⟩) (fun _ _ _ _ n => n)
    (fun b o hc e => ⟨o, k b o (fun z => hc (by simp [z])) e⟩) (fun _ _ e => e) (fun _ _ _ e => e) (fun b ps e => ⟨#[], by rw [e]; simp⟩) (fun m hm => ?_) (fun b u e => ?_) I.bare
  · have e : b = it := by simpa using hb
    subst e
    exact ⟨h1, hL, h2, h3⟩
  · obtain ⟨o, es, ep, ho, r⟩ := hm
    exact ⟨o, es, ep, k _ o (Ne.symm hL) ho, r⟩
  · refine (I.hok b u e).stay (fun c v hc q => k c v ?_ q) (fun _ q => q) fun _ _ q => q
    rcases hc with z | z
    · rw [z]; exact nit b u e
    · exact nit c _ z
theorem Inv.tok (I : Inv X pins σ H s) (t : Nat) : Inv X pins σ H { s with toks := t } := I.un (h' := s.heap) (t' := t) Un.refl I.hok
/-- all objects kept -/
theorem Inv.kept {t' : Nat} (I : Inv X pins σ H s) (k : ∀ b u, s.heap.get? b = some u → h'.get? b = some u) : Inv X pins σ H { s with heap := h', toks := t' } := I.un (Un.kept k) (I.hok.kept k)
/-- a new object laid and tracked -/
theorem Inv.laid {a : Addr} {o : HO} {t' : Nat} (I : Inv X pins σ H s) (k : ∀ b u, s.heap.get? b = some u → h'.get? b = some u) (hp : s.heap.objs.size ≤ a) (new : ObjOk X.prog X.w (upd H a o) h' a o) :
    Inv X pins σ (upd H a o) { s with heap := h', toks := t' } := I.un (Un.laid k hp (I.hok.fresh hp)) (I.hok.laid k hp new)
/-- an object written -/
theorem Inv.write {x e : Addr} {o : HO} {t' : Nat} (I : Inv X pins σ H s) (mu : Mut (H x)) (he : e = x ∨ H e = some (.own x)) (k : ∀ b u, b ≠ e → s.heap.get? b = some u → h'.get? b = some u) (heo : ∃ u, h'.get? e = some u)
    (new : ObjOk X.prog X.w (upd H x o) h' x o) : Inv X pins σ (upd H x o) { s with heap := h', toks := t' } := I.un (Un.write mu he k heo) (I.hok.write mu he k heo new)
theorem Inv.pins_of {pins' : List (Addr × Obj)} (I : Inv X pins σ H s) (h : ∀ p ∈ pins', s.heap.get? p.1 = some p.2 ∧ H p.1 = none ∧ p.1 ≠ X.env.locals ∧ p.1 ∉ X.fs ∧ ∀ v, p.2.data ≠ .cell v) : Inv X pins' σ H s :=
  ⟨I.ok, I.os, I.bare, I.base, I.loc, I.cell, I.free, I.freeC, fun p hp => (List.mem_append.mp hp).elim (fun z => I.pin p (List.mem_append_left _ z)) (h p), I.hok, I.len⟩

theorem nodup_ix {N : List Str} (hN : N.Nodup) {i j : Nat} {x : Str} (a : N[i]? = some x) (b : N[j]? = some x) : i = j := by
  obtain ⟨h1, e1⟩ := List.getElem?_eq_some_iff.mp a
  obtain ⟨h2, e2⟩ := List.getElem?_eq_some_iff.mp b
  exact (List.getElem_inj hN).mp (e1.trans e2.symm)

/-- a name is stored; what changed -/
theorem store_ok2 {M : Model} {A : Around} {E : Value → Shared → Prop} {i : Nat} {x : Str} {v : V} {u : Value} {Q : Unit → Shared → Prop} (I : Inv X pins σ H s) (hN : X.N.Nodup) (hi : X.N[i]? = some x) (hx : Loc X.env.scope x) (r : RelV v u)
    (h : ∀ s', Inv X pins (σ.set i (some v)) H s' → (∃ a, Heap.SameBut a s.heap s'.heap ∧ (a = X.env.locals ∨ X.env.cells.lookup x = some a)) → Q () s') (hf : X.fn x = true ∨ X.env.scope.names.lookup x = some .local := by first | exact .inl rfl | exact .inr rfl | assumption) : wpAny M A (storeName X.env x u) Q E s := by
  obtain ⟨m, hn, hl⟩ := id I.loc
  have hcls : (X.env.scope.kind == .class || (X.env.scope.kind == .module && X.env.locals != X.env.globals)) = false := by rw [I.ok.kind]; rfl
  have hiσ : i < σ.length := by rw [I.len]; exact (List.getElem?_eq_some_iff.mp hi).1
  have cne := I.cne
  have tracked : ∀ {a : Addr} {h' : Heap}, (∃ o, s.heap.get? a = some o ∧ H a = none) → Heap.SameBut a s.heap h' → HOk X.prog X.w H h' := fun {a h'} ha hs b ob e => by
    obtain ⟨_, _, hfree⟩ := ha
    refine (I.hok b ob e).stay (fun c w' hc q => (hs.2 c ?_).trans q) (fun _ q => q) fun _ _ q => q
    rintro rfl
    rcases hc with rfl | hc
    · rw [hfree] at e; cases e
    · rw [hfree] at hc; cases hc
  rcases hx with hk | hk
  · refine wpAny_storeName_local hk hn (fun h' hn' hs => ?_) hcls
    obtain ⟨oL, _, _, hoL, _⟩ := id hn
    refine h _ ⟨I.ok, I.os, I.bare, ⟨fun b o e n hb hx => ?_, fun b o e n hb hx => ?_, I.base.free, fun b o e hx => ?_, I.base.tups, I.base.frzs, I.base.tbls⟩, ⟨_, hn', fun j y v' e1 e2 e3 => ?_⟩, fun y c e => ?_, I.free, I.freeC, fun p hp => ?_, tracked ⟨oL, hoL, I.free⟩ hs, by simpa using I.len⟩ ⟨_, hs, .inl rfl⟩
    · exact (hs.2 b (Nat.ne_of_lt (Nat.lt_of_lt_of_le (Heap.lt_size e) I.ok.above))).trans (I.base.keep b o e n hb hx)
    · obtain ⟨sl, e1⟩ := I.base.slot b o e n hb hx
      exact ⟨sl, (hs.2 b (Nat.ne_of_lt (Nat.lt_of_lt_of_le (Heap.lt_size e) I.ok.above))).trans e1⟩
    · obtain ⟨o', e1⟩ := I.base.there b o e hx
      exact ⟨o', (hs.2 b (Nat.ne_of_lt (Nat.lt_of_lt_of_le (Heap.lt_size e) I.ok.above))).trans e1⟩
    · by_cases hj : j = i
      · subst hj
        rw [hi] at e1; cases e1
        rw [List.getElem?_set_self hiσ] at e2
        cases e2
        exact ⟨u, r, .inl ⟨hk, by simp⟩⟩
      · rw [List.getElem?_set_ne (Ne.symm hj)] at e2
        obtain ⟨u', r', q⟩ := hl j y v' e1 e2 e3
        refine ⟨u', r', ?_⟩
        rcases q with ⟨k, e⟩ | ⟨k, c, e, z⟩
        · refine .inl ⟨k, ?_⟩
          have : y ≠ x := fun e => hj (nodup_ix hN e1 (e ▸ hi))
          simp [this, e]
        · exact .inr ⟨k, c, e, z.sameBut hs (cne y c e)⟩
    · obtain ⟨w', z⟩ := I.cell y c e
      exact ⟨w', z.sameBut hs (cne y c e)⟩
    · obtain ⟨e, n, ne, nf, d⟩ := I.pin p hp
      exact ⟨(hs.2 p.1 ne).trans e, n, ne, nf, d⟩
  · have hfn : X.fn x = true := by
      rcases hf with z | z
      · exact z
      · rw [z] at hk; cases hk
    obtain ⟨c, hc⟩ := I.ok.has x (.inl hk)
    obtain ⟨w', z⟩ := I.cell x c hc
    refine wpAny_storeName_cell I.ok.kind hk hc z (fun h' hc' hs => ?_)
    obtain ⟨oc, hoc, hocd⟩ := id z
    refine h { s with heap := h' } ⟨I.ok, I.os, I.bare, ⟨fun b o e n hb hx => ?_, fun b o e n hb hx => ?_, I.base.free, fun b o e hx => ?_, I.base.tups, I.base.frzs, I.base.tbls⟩, ⟨m, hn.sameBut hs (Ne.symm (cne x c hc)), fun j y v' e1 e2 e3 => ?_⟩, fun y c' e => ?_, I.free, I.freeC, fun p hp => ?_, tracked ⟨oc, hoc, I.freeC x c hc⟩ hs, by simpa using I.len⟩ ⟨c, hs, .inr hc⟩
    · exact (hs.2 b (Nat.ne_of_lt (Nat.lt_of_lt_of_le (Heap.lt_size e) (I.ok.cab x c hfn hc)))).trans (I.base.keep b o e n hb hx)
    · obtain ⟨sl, e1⟩ := I.base.slot b o e n hb hx
      exact ⟨sl, (hs.2 b (Nat.ne_of_lt (Nat.lt_of_lt_of_le (Heap.lt_size e) (I.ok.cab x c hfn hc)))).trans e1⟩
    · obtain ⟨o', e1⟩ := I.base.there b o e hx
      exact ⟨o', (hs.2 b (Nat.ne_of_lt (Nat.lt_of_lt_of_le (Heap.lt_size e) (I.ok.cab x c hfn hc)))).trans e1⟩
    · by_cases hj : j = i
      · subst hj
        rw [hi] at e1; cases e1
        rw [List.getElem?_set_self hiσ] at e2
        cases e2
        exact ⟨u, r, .inr ⟨.inl hk, c, hc, hc'⟩⟩
      · rw [List.getElem?_set_ne (Ne.symm hj)] at e2
        obtain ⟨u', r', q⟩ := hl j y v' e1 e2 e3
        refine ⟨u', r', ?_⟩
        rcases q with q | ⟨k, c', e, z'⟩
        · exact .inl q
        · refine .inr ⟨k, c', e, z'.sameBut hs ?_⟩
          rintro rfl
          exact hj (nodup_ix hN e1 (I.ok.inj _ _ _ e hc ▸ hi))
    · by_cases hcc : c' = c
      · subst hcc; exact ⟨_, hc'⟩
      · obtain ⟨w2, z2⟩ := I.cell y c' e
        exact ⟨w2, z2.sameBut hs hcc⟩
    · obtain ⟨e, n, ne, nf, d⟩ := I.pin p hp
      refine ⟨(hs.2 p.1 ?_).trans e, n, ne, nf, d⟩
      intro q
      rw [q, hoc] at e
      have q' : oc = p.2 := Option.some.inj e
      exact d w' (by rw [← q']; exact hocd)
theorem store_ok {M : Model} {A : Around} {E : Value → Shared → Prop} {i : Nat} {x : Str} {v : V} {u : Value} {Q : Unit → Shared → Prop} (I : Inv X pins σ H s) (hN : X.N.Nodup) (hi : X.N[i]? = some x) (hx : Loc X.env.scope x) (r : RelV v u)
    (h : ∀ s', Inv X pins (σ.set i (some v)) H s' → Q () s') (hf : X.fn x = true ∨ X.env.scope.names.lookup x = some .local := by first | exact .inl rfl | exact .inr rfl | assumption) : wpAny M A (storeName X.env x u) Q E s :=
  store_ok2 I hN hi hx r (fun s' I' _ => h s' I') hf
/-- behind a call or a block, the state as it is -/
theorem Inv.call' {s' : Shared} {ch : List Addr} (I : Inv X pins σ H s) (ho : s'.os = s.os) (u : Un (frs X.stack) ch H H' s.heap s'.heap) (hok : HOk X.prog X.w H' s'.heap) (hg : AllBare s'.gens)
    (hch : ∀ b ∈ ch, (b ∈ X.ex ∨ X.s₀.heap.objs.size ≤ b) ∧ b ≠ X.env.locals ∧ (∀ x c, X.env.cells.lookup x = some c → c ≠ b) ∧ ∀ p ∈ X.pn ++ pins, p.1 ≠ b) : Inv X pins σ H' s' := by
  obtain ⟨h', g', d', t', o'⟩ := s'
  have e : o' = s.os := ho
  subst e
  exact I.call (g' := g') (t' := t') (d' := d') u hok hg hch
end

/-! ### the judgements -/
/-- an exception: its class, its own dict's address (where it has one), the abstract heap behind it -/
noncomputable abbrev XK := Value → Option Addr → Hp → Prop
noncomputable abbrev St := List (Option V)
noncomputable abbrev VK := V → Hp → Prop
/-- an expression's reading; a test's; an argument list's -/
noncomputable abbrev TE := St → Hp → VK → Prop
noncomputable abbrev TT := St → Hp → (Bool → Hp → Prop) → Prop
noncomputable abbrev TA := St → Hp → (List V → Hp → Prop) → Prop
/-- what is wanted behind a statement -/
structure Ends where
  nx : St → Hp → Prop
  rt : VK
  bk : St → Hp → Prop := fun _ _ => False
  ct : St → Hp → Prop := fun _ _ => False
noncomputable abbrev TS := Ends → St → Hp → Prop

noncomputable def EP (X : Cx) (pins : List (Addr × Obj)) (σ : St) (Q : VK) (u : Value) (s' : Shared) : Prop := ∃ v H', Inv X pins σ H' s' ∧ RelV v u ∧ Q v H'
noncomputable def TP (X : Cx) (pins : List (Addr × Obj)) (σ : St) (Q : Bool → Hp → Prop) (b : Bool) (s' : Shared) : Prop := ∃ H', Inv X pins σ H' s' ∧ Q b H'
noncomputable def AP (X : Cx) (pins : List (Addr × Obj)) (σ : St) (Q : List V → Hp → Prop) (us : List Value) (s' : Shared) : Prop := ∃ vs H', Inv X pins σ H' s' ∧ Vals vs us ∧ Q vs H'
noncomputable def SP (X : Cx) (pins : List (Addr × Obj)) (D : Ends) (f : Flow) (s' : Shared) : Prop :=
  match f with
  | .next => ∃ σ' H', Inv X pins σ' H' s' ∧ D.nx σ' H'
  | .brk => ∃ σ' H', Inv X pins σ' H' s' ∧ D.bk σ' H'
  | .cont => ∃ σ' H', Inv X pins σ' H' s' ∧ D.ct σ' H'
  | .ret u => ∃ v σ' H', Inv X pins σ' H' s' ∧ RelV v u ∧ D.rt v H'

noncomputable def PE (X : Cx) (e : Expr) (t : TE) : Prop :=
  ∀ (pins : List (Addr × Obj)) (s : Shared) (σ : St) (H : Hp) (Q : VK), Inv X pins σ H s → t σ H Q → wpAny (model X.prog X.w) X.A (eval e X.env) (EP X pins σ Q) X.xe s
noncomputable def PT (X : Cx) (e : Expr) (t : TT) : Prop :=
  ∀ (pins : List (Addr × Obj)) (s : Shared) (σ : St) (H : Hp) (Q : Bool → Hp → Prop), Inv X pins σ H s → t σ H Q → wpAny (model X.prog X.w) X.A (isTrue e X.env (eval e X.env)) (TP X pins σ Q) X.xe s
/-- a test whatever its 'whole' is (and, or) -/
noncomputable def PW (X : Cx) (e : Expr) (t : TT) : Prop :=
  ∀ (whole : Sem Value) (pins : List (Addr × Obj)) (s : Shared) (σ : St) (H : Hp) (Q : Bool → Hp → Prop), Inv X pins σ H s → t σ H Q → wpAny (model X.prog X.w) X.A (isTrue e X.env whole) (TP X pins σ Q) X.xe s
theorem PW.pt {X : Cx} {e : Expr} {t : TT} (h : PW X e t) : PT X e t := h _
/-- an argument list (no star), from the left -/
noncomputable def PA (X : Cx) (es : List Expr) (t : TA) : Prop :=
  ∀ (pos : Pos) (pins : List (Addr × Obj)) (s : Shared) (σ : St) (H : Hp) (Q : List V → Hp → Prop), Inv X pins σ H s → t σ H Q → wpAny (model X.prog X.w) X.A (spliced (backTo pos (starEach es X.env))) (AP X pins σ Q) X.xe s
noncomputable def PS (X : Cx) (st : Stmt) (t : TS) : Prop :=
  ∀ (pins : List (Addr × Obj)) (s : Shared) (σ : St) (H : Hp) (D : Ends), Inv X pins σ H s → t D σ H → wpAny (model X.prog X.w) X.A (exec st X.env) (SP X pins D) X.xe s
noncomputable def PSs (X : Cx) (st : List Stmt) (t : TS) : Prop :=
  ∀ (pins : List (Addr × Obj)) (s : Shared) (σ : St) (H : Hp) (D : Ends), Inv X pins σ H s → t D σ H → wpAny (model X.prog X.w) X.A (execs st X.env) (SP X pins D) X.xe s
/-- weaken the end -/
theorem thn {α : Type} {t : Sem α} {Q Q' : α → Shared → Prop} {M : Model} {A : Around} {E : Value → Shared → Prop} {s : Shared} (h : wpAny M A t Q E s) (hQ : ∀ a s, Q a s → Q' a s) : wpAny M A t Q' E s := wpAny_mono h hQ fun _ _ x => x
end L2

namespace L2
open PySem PySem.Spec PyProof.Rows
section
variable {X : Cx}

/-! ### names and constants -/
noncomputable def tVar (i : Nat) : TE := fun σ H Q => ∃ v, σ[i]? = some (some v) ∧ Q v H
noncomputable def tC (v : V) : TE := fun _ H Q => Q v H
theorem pe_var {i : Nat} {x : Str} {pos : Pos} (hN : X.N[i]? = some x) (hv : Vis X.env.scope x) (hd : (x == ("__debug__" : Str)) = false := by decide) (hcd : (x == ("__classdict__" : Str)) = false := by decide) : PE X (.Name x pos) (tVar i) := by
  intro pins s σ H Q I h
  obtain ⟨v, e, h⟩ := h
  obtain ⟨m, hn, hl⟩ := I.loc
  obtain ⟨u, r, l⟩ := hl i x v hN e hv
  have fin : EP X pins σ Q u s := ⟨v, H, I, r, h⟩
  rcases l with ⟨hk, hm⟩ | ⟨hk, c, hc, hcell⟩
  · exact wpAny_Name (wpAny_loadName_local I.ok.kind hk hn hm fin) hd
  · rcases hk with hk | hk
    · exact wpAny_Name (wpAny_loadName_cell I.ok.kind hk hc hcell fin) hd
    · exact wpAny_Name (wpAny_loadName_free I.ok.kind hk hc hcell fin hcd) hd
theorem pe_int {i j pos} : PE X (.Constant (.int i) j pos) (tC (.int i)) := fun _ _ _ H _ I h => wpAny_Constant_int ⟨.int i, H, I.tok _, ⟨_, rfl⟩, h⟩
theorem pe_bl {b j pos} : PE X (.Constant (.bool b) j pos) (tC (.bl b)) := fun _ _ _ H _ I h => Constant_bool ⟨.bl b, H, I, rfl, h⟩
theorem pe_non {j pos} : PE X (.Constant .none j pos) (tC .non) := fun _ _ _ H _ I h => Constant_none ⟨.non, H, I, rfl, h⟩
theorem pe_str {x j pos} : PE X (.Constant (.str x) j pos) (tC (.str x)) := fun _ _ _ H _ I h => Calls.Constant_str ⟨.str x, H, I.tok _, ⟨_, rfl⟩, h⟩

/-- a global name of the def -/
noncomputable def Gl (X : Cx) (x : Str) : Prop := X.env.kindOf x = some .globalImplicit
theorem ld_glob {E : Value → Shared → Prop} {pins : List (Addr × Obj)} {s : Shared} {σ : St} {H : Hp} {x : Str} {u : Value} {pos : Pos} {Q : Value → Shared → Prop} (I : Inv X pins σ H s) (hg : Gl X x) (hm : X.mg x = some u) (h : Q u s)
    (hd : (x == ("__debug__" : Str)) = false := by decide) : wpAny (model X.prog X.w) X.A (eval (.Name x pos) X.env) Q E s :=
  Calls.Name_function_global I.ok.kind hg (Calls.loadGlobal_global (by rw [I.ok.glob]; exact I.mod.glob.keeps I.bk) hm h) hd
theorem ld_blt {E : Value → Shared → Prop} {pins : List (Addr × Obj)} {s : Shared} {σ : St} {H : Hp} {x : Str} {u : Value} {pos : Pos} {Q : Value → Shared → Prop} (I : Inv X pins σ H s) (hg : Gl X x) (hm : X.mg x = none) (hv : bootBuiltins x = some u) (h : Q u s)
    (hn : x ≠ "__name__" := by decide) (hd : (x == ("__debug__" : Str)) = false := by decide) : wpAny (model X.prog X.w) X.A (eval (.Name x pos) X.env) Q E s := by
  obtain ⟨mb, h1, h2⟩ := I.mod.blt
  exact Calls.Name_function_global I.ok.kind hg (Calls.loadGlobal_builtin (by rw [I.ok.glob]; exact I.mod.glob.keeps I.bk) hm (by rw [I.ok.blt]; exact h1.keeps I.bk) ((h2 x hn).trans hv) h) hd
/-- a module's constant, a class, a function, as a value -/
theorem pe_glob {x : Str} {v : V} {u : Value} {pos : Pos} (hg : Gl X x) (hm : X.mg x = some u) (r : RelV v u) (hd : (x == ("__debug__" : Str)) = false := by decide) : PE X (.Name x pos) (tC v) :=
  fun _ _ _ H _ I h => ld_glob I hg hm ⟨v, H, I, r, h⟩ hd
theorem pe_bltn {x : Str} {v : V} {u : Value} {pos : Pos} (hg : Gl X x) (hm : X.mg x = none) (hv : bootBuiltins x = some u) (r : RelV v u) (hn : x ≠ "__name__" := by decide) (hd : (x == ("__debug__" : Str)) = false := by decide) : PE X (.Name x pos) (tC v) :=
  fun _ _ _ H _ I h => ld_blt I hg hm hv ⟨v, H, I, r, h⟩ hn hd

/-! ### arithmetic -/
variable {a b : Expr} {ta tb : TE} {pos : Pos}
/-! ### comparisons -/
/-- a comparison as a value, as a test -/
noncomputable def tB (t : TE) : TT := fun σ H Q => t σ H fun x H1 => ∃ c, x = .bl c ∧ Q c H1
/-- an expression whose value is a bool, as a test -/
theorem pt_val {e : Expr} {t : TE} (h : PE X e t) (he : ∀ whole, isTrue e X.env whole = (do let v ← whole; standAt e.pos; holding [v] (truthy v)) := by intro _; rfl) : PT X e (tB t) := by
  intro pins s σ H Q I hw
  refine isTrue_plain (thn (h pins s σ H _ I hw) fun v s1 ⟨x, H1, I1, r1, q1⟩ => ?_) (he _)
  obtain ⟨d, rfl, q⟩ := q1
  cases r1
  exact wpAny_truthy_bool ⟨H1, I1, q⟩

/-! ### and, or, not -/
variable {tA tB' : TT} {rest : List Expr}
noncomputable def tAnd (t u : TT) : TT := fun σ H Q => t σ H fun c H1 => if c = true then u σ H1 Q else Q false H1
noncomputable def tOr (t u : TT) : TT := fun σ H Q => t σ H fun c H1 => if c = true then Q true H1 else u σ H1 Q
noncomputable def tNot (t : TT) : TT := fun σ H Q => t σ H fun c H1 => Q (!c) H1
theorem pw_and1 (ha : PT X a tA) : PW X (.BoolOp .And [a] pos) tA := by
  intro wh pins s σ H Q I h
  refine isTrue_and (thn (ha pins s σ H Q I h) fun c s1 e => ?_)
  cases c with
  | true => exact isTrue_and_nil e
  | false => exact e
theorem pw_or1 (ha : PT X a tA) : PW X (.BoolOp .Or [a] pos) tA := by
  intro wh pins s σ H Q I h
  refine isTrue_or (thn (ha pins s σ H Q I h) fun c s1 e => ?_)
  cases c with
  | false => exact isTrue_or_nil e
  | true => exact e
theorem pw_and (ha : PT X a tA) (hb : PW X (.BoolOp .And (b :: rest) pos) tB') : PW X (.BoolOp .And (a :: b :: rest) pos) (tAnd tA tB') := by
  intro wh pins s σ H Q I h
  refine isTrue_and (thn (ha pins s σ H _ I h) fun c s1 ⟨H1, I1, q1⟩ => ?_)
  cases c with
  | true => exact hb wh pins s1 σ H1 Q I1 q1
  | false => exact ⟨H1, I1, q1⟩
theorem pw_or (ha : PT X a tA) (hb : PW X (.BoolOp .Or (b :: rest) pos) tB') : PW X (.BoolOp .Or (a :: b :: rest) pos) (tOr tA tB') := by
  intro wh pins s σ H Q I h
  refine isTrue_or (thn (ha pins s σ H _ I h) fun c s1 ⟨H1, I1, q1⟩ => ?_)
  cases c with
  | true => exact ⟨H1, I1, q1⟩
  | false => exact hb wh pins s1 σ H1 Q I1 q1
theorem pt_not (ha : PT X a tA) : PT X (.UnaryOp .Not a pos) (tNot tA) := by
  intro pins s σ H Q I h
  exact isTrue_not (ha pins s σ H (fun c H1 => Q (!c) H1) I h)
/-- .. as values (bools) -/
noncomputable def tAndV (ta tb : TE) : TE := fun σ H Q => ta σ H fun x H1 => ∃ c, x = .bl c ∧ if c = true then tb σ H1 Q else Q (.bl false) H1
noncomputable def tOrV (ta tb : TE) : TE := fun σ H Q => ta σ H fun x H1 => ∃ c, x = .bl c ∧ if c = true then Q (.bl true) H1 else tb σ H1 Q
noncomputable def tNotV (ta : TE) : TE := fun σ H Q => ta σ H fun x H1 => ∃ c, x = .bl c ∧ Q (.bl (!c)) H1
theorem pe_one {op} {t : TE} (h : PE X a t) : PE X (.BoolOp op [a] pos) t := fun pins s σ H Q I hw => BoolOp_one (h pins s σ H Q I hw)
theorem pe_and (ha : PE X a ta) (hb : PE X (.BoolOp .And (b :: rest) pos) tb) : PE X (.BoolOp .And (a :: b :: rest) pos) (tAndV ta tb) := by
  intro pins s σ H Q I h
  refine BoolOp_and (thn (ha pins s σ H _ I h) fun v s1 ⟨x, H1, I1, r1, q1⟩ => ?_)
  obtain ⟨c, rfl, q1⟩ := q1
  cases r1
  refine wpAny_truthy_bool ?_
  cases c with
  | true => exact hb pins s1 σ H1 Q I1 q1
  | false => exact ⟨.bl false, H1, I1, rfl, q1⟩
theorem pe_or (ha : PE X a ta) (hb : PE X (.BoolOp .Or (b :: rest) pos) tb) : PE X (.BoolOp .Or (a :: b :: rest) pos) (tOrV ta tb) := by
  intro pins s σ H Q I h
  refine BoolOp_or (thn (ha pins s σ H _ I h) fun v s1 ⟨x, H1, I1, r1, q1⟩ => ?_)
  obtain ⟨c, rfl, q1⟩ := q1
  cases r1
  refine wpAny_truthy_bool ?_
  cases c with
  | false => exact hb pins s1 σ H1 Q I1 q1
  | true => exact ⟨.bl true, H1, I1, rfl, q1⟩
theorem pe_not (ha : PE X a ta) : PE X (.UnaryOp .Not a pos) (tNotV ta) := by
  intro pins s σ H Q I h
  refine UnaryOp_ (thn (ha pins s σ H _ I h) fun v s1 ⟨x, H1, I1, r1, q1⟩ => ?_)
  obtain ⟨c, rfl, q1⟩ := q1
  cases r1
  exact not_of (wpAny_truthy_bool ⟨.bl (!c), H1, I1, rfl, q1⟩)
/-- a if t else b -/
noncomputable def tIf (t : TT) (ta tb : TE) : TE := fun σ H Q => t σ H fun c H1 => if c = true then ta σ H1 Q else tb σ H1 Q
theorem pe_ifExp {c : Expr} (hc : PT X c tA) (ha : PE X a ta) (hb : PE X b tb) : PE X (.IfExp c a b pos) (tIf tA ta tb) := by
  intro pins s σ H Q I h
  refine wpAny_IfExp (thn (hc pins s σ H _ I h) fun d s1 ⟨H1, I1, q1⟩ => ?_)
  cases d with
  | true => exact ha pins s1 σ H1 Q I1 q1
  | false => exact hb pins s1 σ H1 Q I1 q1
end
end L2

namespace L2
open PySem PySem.Spec PyProof.Rows

/-! ### a list, a tuple that is read: tracked, frozen, or an object of the module -/
noncomputable def SqL (K : PySem.W.Frag) (H : Hp) (a : Addr) (xs : List V) : Prop :=
  Rd H a (.lst xs) ∨
    ∃ (o : Obj) (its : Array Value) (n : Nat), K.lookup a = some o ∧ o.cls = .type "list" ∧ o.dict = none ∧ o.data = .seq its n ∧ its.size ≤ sizeLine ∧ Vals xs its.toList
noncomputable def SqT (K : PySem.W.Frag) (H : Hp) (a : Addr) (xs : List V) : Prop :=
  Rd H a (.tup xs) ∨
    ∃ (o : Obj) (its : Array Value) (n : Nat), K.lookup a = some o ∧ o.cls = .type "tuple" ∧ o.data = .seq its n ∧ its.size ≤ sizeLine ∧ Vals xs its.toList
noncomputable def absV : Value → Option V
  | .none => some .non
  | .bool b => some (.bl b)
  | .int i _ => some (.int i)
  | .str x _ => some (.str x)
  | .bytes b _ => some (.byt b)
  | .float b _ => some (.flt b)
  | .ref a => some (.ref a)
  | .type n => some (.ty n)
  | _ => none
theorem RelV.abs {x : V} {u : Value} (r : RelV x u) : absV u = some x := by
  cases x with
  | non => cases r; rfl
  | bl _ => cases r; rfl
  | int _ => obtain ⟨t, rfl⟩ := r; rfl
  | str _ => obtain ⟨t, rfl⟩ := r; rfl
  | byt _ => obtain ⟨t, rfl⟩ := r; rfl
  | flt _ => obtain ⟨t, rfl⟩ := r; rfl
  | ref _ => cases r; rfl
  | ty _ => cases r; rfl
theorem RelV.inj {x y : V} {u : Value} (r : RelV x u) (q : RelV y u) : x = y := Option.some.inj (r.abs.symm.trans q.abs)
theorem Vals.inj : ∀ {xs ys : List V} {us : List Value}, Vals xs us → Vals ys us → xs = ys
  | _, _, _, .nil, .nil => rfl
  | _, _, _, .cons r t, .cons r' t' => by rw [r.inj r', Vals.inj t t']
section
variable {X : Cx} {pins : List (Addr × Obj)} {σ : St} {H : Hp} {s : Shared} {a : Addr} {xs ys : List V}
theorem SqL.of {K : PySem.W.Frag} (h : H a = some (.lst xs)) : SqL K H a xs := .inl (.inl h)
theorem SqT.of {K : PySem.W.Frag} (h : H a = some (.tup xs)) : SqT K H a xs := .inl (.inl h)
theorem Inv.list (I : Inv X pins σ H s) (h : SqL X.K H a xs) : ∃ its : List Value, Vals xs its ∧ PlainL s.heap a its.toArray ∧ xs.length ≤ sizeLine := by
  rcases h with h | ⟨o, its, n, hk, hc, hd, hs, hz, r⟩
  · obtain ⟨z, its, n, r, e⟩ := h.ok I.hok
    exact ⟨its, r, ⟨_, n, e, rfl, rfl, rfl⟩, z⟩
  · refine ⟨its.toList, r, ⟨o, n, I.kIn a o hk, hc, hd, by simpa using hs⟩, ?_⟩
    have e := r.length
    simp only [Array.length_toList] at e
    omega
theorem Inv.tuple (I : Inv X pins σ H s) (h : SqT X.K H a xs) : ∃ its : List Value, Vals xs its ∧ IsTup s.heap a its.toArray ∧ xs.length ≤ sizeLine := by
  rcases h with h | ⟨o, its, n, hk, hc, hs, hz, r⟩
  · obtain ⟨z, its, r, p⟩ := h.ok I.hok
    exact ⟨its, r, p, z⟩
  · refine ⟨its.toList, r, ⟨o, I.kIn a o hk, hc, n, by simpa using hs⟩, ?_⟩
    have e := r.length
    simp only [Array.length_toList] at e
    omega
theorem Inv.tuple_inj (I : Inv X pins σ H s) (h : SqT X.K H a xs) (h' : SqT X.K H a ys) : xs = ys := by
  obtain ⟨its, r, ⟨o, e, _, n, d⟩, _⟩ := I.tuple h
  obtain ⟨its', r', ⟨o', e', _, n', d'⟩, _⟩ := I.tuple h'
  rw [e] at e'; cases e'
  rw [d] at d'
  injection d' with d1 _
  have : its = its' := by simpa using congrArg Array.toList d1
  subst this
  exact r.inj r'
end

/-! ### another wish about exceptions -/
noncomputable abbrev Cx.wish (X : Cx) (E : Value → Shared → Prop) : Cx := { X with xe := E }
/-- no exception leaves -/
noncomputable abbrev Cx.nox (X : Cx) : Cx := X.wish fun _ _ => False
theorem Cx.Ok.wish {X : Cx} (ok : X.Ok) (E : Value → Shared → Prop) : (X.wish E).Ok :=
  ⟨ok.mod, ok.kind, ok.glob, ok.blt, ok.above, ok.inj, ok.has, ok.cab, ok.hd, ok.frames, ok.stk, ok.exf, ok.bs, ok.bsz, ok.noex, ok.exfs, ok.funs, ok.frf⟩
theorem Cx.Ok.unwish {X : Cx} {E : Value → Shared → Prop} (ok : (X.wish E).Ok) : X.Ok :=
  ⟨ok.mod, ok.kind, ok.glob, ok.blt, ok.above, ok.inj, ok.has, ok.cab, ok.hd, ok.frames, ok.stk, ok.exf, ok.bs, ok.bsz, ok.noex, ok.exfs, ok.funs, ok.frf⟩
section
variable {X : Cx} {pins : List (Addr × Obj)} {σ : St} {H : Hp} {s : Shared} {E : Value → Shared → Prop}
theorem Inv.wish (I : Inv X pins σ H s) (E : Value → Shared → Prop) : Inv (X.wish E) pins σ H s := ⟨I.ok.wish E, I.os, I.bare, I.base, I.loc, I.cell, I.free, I.freeC, I.pin, I.hok, I.len⟩
theorem Inv.unwish (I : Inv (X.wish E) pins σ H s) : Inv X pins σ H s := ⟨I.ok.unwish, I.os, I.bare, I.base, I.loc, I.cell, I.free, I.freeC, I.pin, I.hok, I.len⟩
theorem SP.unwish {D : Ends} {f : Flow} {s' : Shared} (h : SP (X.wish E) pins D f s') : SP X pins D f s' := by
  cases f with
  | next => obtain ⟨σ', H', I, q⟩ := h; exact ⟨σ', H', I.unwish, q⟩
  | brk => obtain ⟨σ', H', I, q⟩ := h; exact ⟨σ', H', I.unwish, q⟩
  | cont => obtain ⟨σ', H', I, q⟩ := h; exact ⟨σ', H', I.unwish, q⟩
  | ret u => obtain ⟨v, σ', H', I, r, q⟩ := h; exact ⟨v, σ', H', I.unwish, r, q⟩




theorem PSs.nox {st : List Stmt} {t : TS} (h : PSs X.nox st t) : PSs X st t := fun pins s σ H D I hw =>
  wpAny_mono (h pins s σ H D (I.wish _) hw) (fun _ _ q => q.unwish) fun _ _ z => False.elim z
end

/-! ### blocks and small statements -/
section
variable {X : Cx} {st : Stmt} {rest : List Stmt} {t u : TS} {e : Expr} {te : TE} {pos : Pos}
noncomputable def tNext : TS := fun D σ H => D.nx σ H
noncomputable def tSeq (t u : TS) : TS := fun D σ H => t { D with nx := u D } σ H
theorem pss_nil : PSs X [] tNext := fun _ _ σ H _ I h => wpAny_execs_nil ⟨σ, H, I, h⟩
theorem pss_cons (h1 : PS X st t) (h2 : PSs X rest u) : PSs X (st :: rest) (tSeq t u) := by
  intro pins s σ H D I h
  refine wpAny_execs_cons (thn (h1 pins s σ H { D with nx := u D } I h) fun f s1 q => ?_)
  cases f with
  | next =>
    obtain ⟨σ', H', I', q⟩ := q
    exact h2 pins s1 σ' H' D I' q
  | ret v => exact q
  | brk => exact q
  | cont => exact q
theorem pss_one (h1 : PS X st t) : PSs X [st] t := by
  intro pins s σ H D I h
  refine wpAny_execs_cons (thn (h1 pins s σ H D I h) fun f s1 q => ?_)
  cases f with
  | next => exact wpAny_execs_nil q
  | ret v => exact q
  | brk => exact q
  | cont => exact q
noncomputable def tBreak : TS := fun D σ H => D.bk σ H
/-- in a def's body nothing is shown -/
theorem Inv.quiet {pins : List (Addr × Obj)} {σ : St} {H : Hp} {s : Shared} (I : Inv X pins σ H s) : interactive X.env = false := by simp [interactive, I.ok.kind]
/-- an expression whose value is dropped -/
noncomputable def tDrop (te : TE) : TS := fun D σ H => te σ H fun _ H1 => D.nx σ H1
theorem ps_expr (he : PE X e te) (hs : swapsWith e none pos.line X.env = pure false := by rfl) : PS X (.Expr e pos) (tDrop te) := by
  intro pins s σ H D I h
  exact wpAny_Expr_any (thn (he pins s σ H _ I h) fun v s1 ⟨x, H1, I1, r1, q1⟩ => ⟨σ, H1, I1, q1⟩) I.quiet hs
noncomputable def tRet (te : TE) : TS := fun D σ H => te σ H D.rt
theorem ps_ret (he : PE X e te) : PS X (.Return (some e) pos) (tRet te) := by
  intro pins s σ H D I h
  exact wpAny_Return_some (thn (he pins s σ H _ I h) fun v s1 ⟨x, H1, I1, r1, q1⟩ => ⟨x, σ, H1, I1, r1, q1⟩)
noncomputable def tRetN : TS := fun D _ H => D.rt .non H
noncomputable def tIfS (c : TT) (t u : TS) : TS := fun D σ H => c σ H fun b H1 => if b = true then t D σ H1 else u D σ H1
theorem ps_if {c : Expr} {a b : List Stmt} {tc : TT} (hc : PT X c tc) (ha : PSs X a t) (hb : PSs X b u) : PS X (.If c a b pos) (tIfS tc t u) := by
  intro pins s σ H D I h
  refine wpAny_If (thn (hc pins s σ H _ I h) fun d s1 ⟨H1, I1, q1⟩ => ?_)
  cases d with
  | true => exact ha pins s1 σ H1 D I1 q1
  | false => exact hb pins s1 σ H1 D I1 q1
end

/-! ### targets -/
noncomputable abbrev TG := V → St → Hp → (St → Hp → Prop) → Prop
noncomputable abbrev TGs := List V → St → Hp → (St → Hp → Prop) → Prop
noncomputable def PG (X : Cx) (target : Expr) (t : TG) : Prop :=
  ∀ (pins : List (Addr × Obj)) (s : Shared) (σ : St) (H : Hp) (v : V) (u : Value) (Q : St → Hp → Prop), Inv X pins σ H s → RelV v u → t v σ H Q →
    wpAny (model X.prog X.w) X.A (assign target X.env u) (fun _ s' => ∃ σ' H', Inv X pins σ' H' s' ∧ Q σ' H') X.xe s
/-- several targets, one after another -/
noncomputable def PGs (X : Cx) (ts : List Expr) (t : TGs) : Prop :=
  ∀ (pins : List (Addr × Obj)) (s : Shared) (σ : St) (H : Hp) (vs : List V) (us : List Value) (Q : St → Hp → Prop), Inv X pins σ H s → Vals vs us → t vs σ H Q →
    wpAny (model X.prog X.w) X.A (assignInOrder ((assignEach ts X.env).map (·.2)) us) (fun _ s' => ∃ σ' H', Inv X pins σ' H' s' ∧ Q σ' H') X.xe s
section
variable {X : Cx} {pos : Pos}
noncomputable def gName (i : Nat) : TG := fun v σ H Q => Q (σ.set i (some v)) H
theorem pg_name {i : Nat} {x : Str} (hN : X.N.Nodup) (hi : X.N[i]? = some x) (hx : Loc X.env.scope x) (hf : X.fn x = true ∨ X.env.scope.names.lookup x = some .local := by first | exact .inl rfl | exact .inr rfl | assumption) : PG X (.Name x pos) (gName i) := by
  intro pins s σ H v u Q I r h
  exact wpAny_assign_Name (store_ok I hN hi hx r (fun s' I' => ⟨_, H, I', h⟩) hf)
noncomputable def gNil : TGs := fun vs σ H Q => vs = [] ∧ Q σ H
noncomputable def gCons (t : TG) (u : TGs) : TGs := fun vs σ H Q => ∃ v r, vs = v :: r ∧ t v σ H fun σ' H' => u r σ' H' Q
theorem pgs_nil : PGs X [] gNil := by
  intro pins s σ H vs us Q I r h
  obtain ⟨e, h⟩ := h
  subst e
  cases r
  exact assignInOrder_nil ⟨σ, H, I, h⟩
theorem pgs_cons {e : Expr} {es : List Expr} {t : TG} {u : TGs} (h1 : PG X e t) (h2 : PGs X es u)
    (hs : (assignEach (e :: es) X.env).map (·.2) = assign e X.env :: (assignEach es X.env).map (·.2) := by rfl) : PGs X (e :: es) (gCons t u) := by
  intro pins s σ H vs us Q I r h
  obtain ⟨v, vr, e1, h⟩ := h
  subst e1
  cases r with
  | cons r rr =>
    rw [hs]
    refine assignInOrder_cons (thn (h1 pins s σ H _ _ _ I r h) fun _ s1 ⟨σ1, H1, I1, q1⟩ => ?_)
    exact h2 pins s1 σ1 H1 _ _ Q I1 rr q1
/-- (a, b, ..) = a tuple of that length -/
noncomputable def gTup (K : PySem.W.Frag) (n : Nat) (t : TGs) : TG := fun v σ H Q => ∃ a xs, v = .ref a ∧ SqT K H a xs ∧ xs.length = n ∧ t xs σ H Q
theorem pg_tup {es : List Expr} {k : Nat} {t : TGs} {n : Nat} (hc : X.calm = true) (h : PGs X es t)
    (hn : (assignEach es X.env).length = n := by rfl) (hst : (assignEach es X.env).findIdx? (·.1) = none := by rfl) : PG X (.Tuple es k pos) (gTup X.K n t) := by
  intro pins s σ H v u Q I r hw
  obtain ⟨a, xs, e1, hq, hl, hw⟩ := hw
  subst e1
  cases r
  obtain ⟨its, rv, ht, hz⟩ := I.tuple hq
  refine assign_Tuple_tuple (I.ok.hd hc) ht (by simp [hn, ← hl, rv.length]) hst fun h' hx => ?_
  have I1 : Inv X pins σ H { s with heap := h' } := I.kept (t' := s.toks) fun b o e => hx b o (Nat.ne_of_lt (Heap.lt_size e)) e
  exact h pins _ σ H xs _ Q I1 (by simpa using rv) hw
/-- target = value -/
noncomputable def tAsg (te : TE) (g : TG) : TS := fun D σ H => te σ H fun x H1 => g x σ H1 D.nx
theorem ps_asg {tg e : Expr} {te : TE} {g : TG} (he : PE X e te) (hg : PG X tg g) (hs : swapsWithSole [tg] e pos.line X.env = pure false := by rfl) (hw : swappedStores [tg] e X.env = pure none := by rfl)
    (h1 : (assignEach [tg] X.env).map (·.2) = [assign tg X.env] := by rfl) : PS X (.Assign [tg] e pos) (tAsg te g) := by
  intro pins s σ H D I h
  refine wpAny_Assign_stores (thn (he pins s σ H _ I h) fun v s1 ⟨x, H1, I1, r1, q1⟩ => ?_) hs hw
  rw [h1]
  exact thn (hg pins s1 σ H1 x v _ I1 r1 q1) fun _ s2 q => q
/-- name = value -/
theorem ps_set {i : Nat} {x : Str} {e : Expr} {te : TE} {pos' : Pos} (hN : X.N.Nodup) (hi : X.N[i]? = some x) (hx : Loc X.env.scope x) (he : PE X e te) (hs : swapsWith e (some (.Name x pos')) pos.line X.env = pure false := by rfl) (hf : X.fn x = true ∨ X.env.scope.names.lookup x = some .local := by first | exact .inl rfl | exact .inr rfl | assumption) :
    PS X (.Assign [.Name x pos'] e pos) (tAsg te (gName i)) := by
  intro pins s σ H D I h
  refine wpAny_Assign_Name (thn (he pins s σ H _ I h) fun v s1 ⟨y, H1, I1, r1, q1⟩ => ?_) hs
  exact store_ok I1 hN hi hx r1 (fun s2 I2 => ⟨_, H1, I2, q1⟩) hf
/-- a, b = x, y with plain local names: stored from the right; the pair itself is not tracked (the opening rows as in PyProof/Rows/TupAssign.lean:23) -/
noncomputable def tPar (i j : Nat) (ta : TA) : TS := fun D σ H => ta σ H fun vs H1 => ∃ v w, vs = [v, w] ∧ D.nx ((σ.set i (some v)).set j (some w)) H1
theorem ps_par {i j : Nat} {x y : Str} {a b : Expr} {ta : TA} {px py pt : Pos} {kt k2 pt2} (hc : X.calm = true) (hN : X.N.Nodup) (hi : X.N[i]? = some x) (hj : X.N[j]? = some y) (hij : i ≠ j)
    (hx : X.env.scope.names.lookup x = some .local) (hy : X.env.scope.names.lookup y = some .local) (ha : PA X [a, b] ta)
    (hw : swappedStores [.Tuple [.Name x px, .Name y py] kt pt] (.Tuple [a, b] k2 pt2) X.env = pure (some [x, y]))
    (hs : swapsWithSole [.Tuple [.Name x px, .Name y py] kt pt] (.Tuple [a, b] k2 pt2) pos.line X.env = pure false := by rfl) :
    PS X (.Assign [.Tuple [.Name x px, .Name y py] kt pt] (.Tuple [a, b] k2 pt2) pos) (tPar i j ta) := by
  intro pins s σ H D I h
  rw [exec_Assign_arm]
  refine wpAny_bind (wpAny_standAt ?_)
  rw [hs]
  refine wpAny_bind (wpAny_pure ?_)
  rw [if_neg (by decide)]
  refine wpAny_bind (Tuple_ (thn (ha _ pins s σ H _ I h) fun us s1 ⟨vs, H1, I1, r1, q1⟩ => ?_))
  obtain ⟨v, w, e1, q1⟩ := q1
  subst e1
  obtain ⟨u1, u2, rfl, rv, rw'⟩ : ∃ u1 u2, us = [u1, u2] ∧ RelV v u1 ∧ RelV w u2 := by
    cases r1 with
    | cons p q =>
      cases q with
      | cons p' q' =>
        cases q'
        exact ⟨_, _, rfl, p, p'⟩
  refine wpAny_newObj_type ?_ (by show 2 ≤ sizeLine; decide)
  have I2 : Inv X pins σ H1 { s1 with heap := s1.heap.push { cls := .type "tuple", data := .seq [u1, u2].toArray } } := I1.kept (t' := s1.toks) fun b o e => Heap.get?_push_of_some _ e
  rw [hw]
  refine wpAny_bind (wpAny_pure ?_)
  show wpAny (model X.prog X.w) X.A (do rule "assign.swapped-stores"; let items ← unpackItems (.ref s1.heap.objs.size) 2 none; assignInOrder [fun v => bindName X.env y v, fun v => bindName X.env x v] items.reverse; pure Flow.next) _ _ _
  refine wpAny_bind (wpAny_rule (wpAny_bind (unpackItems_tuple (items := #[u1, u2]) (I.ok.hd hc) (IsTup.new s1.heap _) fun h' hx' => ?_)))
  have I3 := I2.kept (h' := h') (t' := s1.toks) fun b o e => hx' b o (Nat.ne_of_lt (Heap.lt_size e)) e
  show wpAny _ _ (assignInOrder [fun v => bindName X.env y v, fun v => bindName X.env x v] [u2, u1] >>= fun _ => pure Flow.next) _ _ _
  refine wpAny_bind (assignInOrder_cons (wpAny_bindName (store_ok I3 hN hj (.inl hy) rw' (fun s2 I4 => ?_) (.inr hy))))
  refine assignInOrder_cons (wpAny_bindName (store_ok I4 hN hi (.inl hx) rv (fun s3 I5 => assignInOrder_nil (wpAny_pure ?_)) (.inr hx)))
  rw [List.set_comm _ _ (Ne.symm hij)] at I5
  exact ⟨_, H1, I5, q1⟩
end

/-! ### while -/
section
variable {X : Cx} {pos : Pos}
/-- the invariant W with its measure -/
noncomputable def tWhile (c : TT) (tb : TS) : TS := fun D σ H => ∃ W : Nat → St → Hp → Prop, (∃ m, W m σ H) ∧ ∀ m σ H, W m σ H →
  c σ H fun b H1 => if b = true then ∃ N : St → Hp → Prop, (∀ σ' H', N σ' H' → ∃ m', m' < m ∧ W m' σ' H') ∧ tb { D with nx := N, ct := N, bk := D.nx } σ H1 else D.nx σ H1
theorem ps_while {c : Expr} {body : List Stmt} {tc : TT} {tb : TS} (hp : PassesOwn (model X.prog X.w) X.A X.env X.xe) (hc : PT X c tc) (hb : PSs X body tb) : PS X (.While c body [] pos) (tWhile tc tb) := by
  intro pins s σ H D I h
  obtain ⟨W, ⟨m0, w0⟩, turn⟩ := h
  refine wpAny_While (codeAny_whileLoop (fun n s' => ∃ σ' H', Inv X pins σ' H' s' ∧ W n σ' H') ?_ m0 ⟨σ, H, I, w0⟩)
  rintro n s1 ⟨σ1, H1, I1, w1⟩
  refine wpAny_passesOwn hp (thn (hc pins s1 σ1 H1 _ I1 (turn n σ1 H1 w1)) fun b s2 ⟨H2, I2, q2⟩ => ?_)
  cases b with
  | true =>
    obtain ⟨N, hN, q2⟩ := q2
    rw [if_pos rfl]
    refine wpAny_passesOwn hp (thn (hb pins s2 σ1 H2 _ I2 q2) fun f s3 q3 => ?_)
    cases f with
    | next =>
      obtain ⟨σ3, H3, I3, n3⟩ := q3
      obtain ⟨m', hm, w3⟩ := hN σ3 H3 n3
      exact ⟨m', hm, σ3, H3, I3, w3⟩
    | cont =>
      obtain ⟨σ3, H3, I3, n3⟩ := q3
      obtain ⟨m', hm, w3⟩ := hN σ3 H3 n3
      exact ⟨m', hm, σ3, H3, I3, w3⟩
    | brk => exact q3
    | ret v => exact q3
  | false =>
    rw [if_neg Bool.false_ne_true]
    exact wpAny_execs_nil ⟨σ1, H2, I2, q2⟩
end

/-! ### what a loop or a comprehension walks -/
/-- at turn i: it yields x (the heap may grow), or it stops -/
structure It where
  go : Nat → Hp → Prop
  yld : Nat → Hp → V → Hp → Prop
  stop : Nat → Hp → Prop
/-- the iterator's own objects may turn: they are not the frame's, not pinned, younger than the entry (or a comprehension's own) -/
noncomputable def FpOk (X : Cx) (pins : List (Addr × Obj)) (H : Hp) (b : Addr) : Prop :=
  H b = none ∧ b ≠ X.env.locals ∧ b ∉ X.fs ∧ (b ∈ X.ex ∨ X.s₀.heap.objs.size ≤ b) ∧ (∀ x c, X.env.cells.lookup x = some c → c ≠ b) ∧ ∀ p ∈ X.pn ++ pins, p.1 ≠ b
theorem Inv.fpOk {X : Cx} {pins : List (Addr × Obj)} {σ : St} {H H' : Hp} {s : Shared} {b : Addr} (I : Inv X pins σ H s) (hb : s.heap.objs.size ≤ b) (hn : H' b = none) : FpOk X pins H' b := by
  refine ⟨hn, Nat.ne_of_gt (Nat.lt_of_lt_of_le I.lt hb), I.nofs hb, .inr (Nat.le_trans I.sz hb), fun x c e z => ?_, fun p hp z => ?_⟩
  · obtain ⟨v, q⟩ := I.cell x c e
    exact absurd (Nat.lt_of_lt_of_le q.lt (by rw [z]; exact hb)) (Nat.lt_irrefl _)
  · exact absurd (Nat.lt_of_lt_of_le (Heap.lt_size (I.pin p hp).1) (by rw [z]; exact hb)) (Nat.lt_irrefl _)
structure Turn (P : Program) (w : World) (K : PySem.W.Frag) (tg : Expr) (J : It) (fp : List Addr) (it : Addr) (tn : Nat → Heap → Prop) : Prop where
  mem : it ∈ fp
  obj : ∀ i h, tn i h → ∀ b ∈ fp, ∃ o, h.get? b = some o ∧ ∀ v, o.data ≠ .cell v
  keep : ∀ i h h', tn i h → (∀ b ∈ fp, ∀ o, h.get? b = some o → h'.get? b = some o) → tn i h'
  item : ∀ (X : Cx), X.prog = P → X.w = w → X.K = K → X.calm = true → ∀ (i : Nat) (pins : List (Addr × Obj)) (s : Shared) (σ : St) (H : Hp) (E : Value → Shared → Prop), Inv X pins σ H s → (∀ b ∈ fp, FpOk X pins H b) → tn i s.heap → J.go i H →
    wpAny (model P w) X.A (pyNext (.ref it)) (fun r s1 => ∃ u, r = some u ∧
      wpAny (model P w) X.A (letOwnedTupleGo tg (.ref it) u) (fun _ s2 => ∃ x H', Inv X pins σ H' s2 ∧ RelV x u ∧ J.yld i H x H' ∧ tn (i + 1) s2.heap ∧ ∀ b ∈ fp, H' b = none) E s1) E s
  done : ∀ (X : Cx), X.prog = P → X.w = w → X.K = K → X.calm = true → ∀ (i : Nat) (pins : List (Addr × Obj)) (s : Shared) (σ : St) (H : Hp) (E : Value → Shared → Prop), Inv X pins σ H s → (∀ b ∈ fp, FpOk X pins H b) → tn i s.heap → J.stop i H →
    wpAny (model P w) X.A (pyNext (.ref it)) (fun r s1 => r = none ∧ Inv X pins σ H s1) E s
  self : ∀ (A : Around) (i : Nat) (s : Shared) (Q : Value → Shared → Prop) (E : Value → Shared → Prop), tn i s.heap → Q (.ref it) s → wpAny (model P w) A (pyIter (.ref it)) Q E s
noncomputable abbrev TI := St → Hp → (It → Hp → Prop) → Prop
/-- an iterator has come -/
noncomputable def PIE (X : Cx) (pins : List (Addr × Obj)) (σ : St) (tg : Expr) (R : It → Hp → Prop) (itv : Value) (s2 : Shared) : Prop :=
  ∃ (it : Addr) (fp : List Addr) (tn : Nat → Heap → Prop) (J : It) (H' : Hp), itv = .ref it ∧ Inv X pins σ H' s2 ∧ Turn X.prog X.w X.K tg J fp it tn ∧ tn 0 s2.heap ∧ (∀ b ∈ fp, FpOk X pins H' b) ∧ R J H'
noncomputable def PI (X : Cx) (tg iter : Expr) (wi : TI) : Prop :=
  ∀ (pins : List (Addr × Obj)) (s : Shared) (σ : St) (H : Hp) (R : It → Hp → Prop), Inv X pins σ H s → wi σ H R →
    wpAny (model X.prog X.w) X.A (eval iter X.env) (fun v s1 => wpAny (model X.prog X.w) X.A (pyIter v) (PIE X pins σ tg R) X.xe s1) X.xe s

/-- the step ahead of the store is nothing for an iterator that keeps no tuple -/
theorem go_of {M : Model} {A : Around} {E : Value → Shared → Prop} {s : Shared} {tg : Expr} {it : Addr} {u : Value} {o : Obj} {n : String} {vs : Array Value} {Q : Unit → Shared → Prop} (ho : s.heap.get? it = some o) (hc : o.cls = .type n) (hd : o.data = .fields vs)
    (hn : ["enumerate", "zip", "dict_itemiterator", "dict_reverseitemiterator", "odict_iterator", "itertools.zip_longest", "itertools.pairwise"].contains n = false) (hQ : Q () s) : wpAny M A (letOwnedTupleGo tg (.ref it) u) Q E s := by
  unfold letOwnedTupleGo
  cases tg <;> first
    | exact wpAny_pure hQ
    | (cases u <;> first
        | exact wpAny_pure hQ
        | (refine wpAny_bind (wpAny_load ho ?_)
           rw [hc, hd]
           show wpAny M A (if (["enumerate", "zip", "dict_itemiterator", "dict_reverseitemiterator", "odict_iterator", "itertools.zip_longest", "itertools.pairwise"].contains n && vs[0]? == some (rawInt _)) = true then _ else _) Q E s
           rw [if_neg (by intro h; rw [hn, Bool.false_and] at h; cases h)]
           exact wpAny_pure hQ))

/-- the list at a, as it stands at each turn (a loop may append to it) -/
noncomputable def Itl (K : PySem.W.Frag) (a : Addr) : It :=
  ⟨fun i H => ∃ xs x, SqL K H a xs ∧ xs[i]? = some x, fun i H x H' => H' = H ∧ ∀ xs, SqL K H a xs → xs[i]? = some x, fun i H => ∃ xs, SqL K H a xs ∧ xs.length ≤ i⟩
noncomputable def Itt (K : PySem.W.Frag) (a : Addr) : It :=
  ⟨fun i H => ∃ xs x, SqT K H a xs ∧ xs[i]? = some x, fun i H x H' => H' = H ∧ ∀ xs, SqT K H a xs → xs[i]? = some x, fun i H => ∃ xs, SqT K H a xs ∧ xs.length ≤ i⟩
/-- lo, lo + 1, .. (n of them) -/
noncomputable def Itr (lo : Int) (n : Nat) : It := ⟨fun i _ => i < n, fun i H x H' => H' = H ∧ x = .int (lo + i), fun i _ => n ≤ i⟩
theorem turn_tuple {P : Program} {w : World} {K : PySem.W.Frag} {tg : Expr} (a it : Addr) : Turn P w K tg (Itt K a) [it] it (fun i h => h.IsTupleIter it a i) where
  mem := by simp
  obj := fun i h st b hb => by
    have e : b = it := by simpa using hb
    subst e
    obtain ⟨o, e, c, d⟩ := st
    exact ⟨o, e, fun v z => by rw [d] at z; cases z⟩
  keep := fun i h h' st k => st.at fun o e => k it (by simp) o e
  item := by
    intro X hP hw hK hc i pins s σ H E I hf st hg
    subst hP hw hK
    obtain ⟨xs, x, hq, hx⟩ := hg
    obtain ⟨its, rv, p, hz⟩ := I.tuple hq
    obtain ⟨u, hu, ru⟩ := rv.get hx
    obtain ⟨f0, f1, f2, f3, f4, f5⟩ := hf it (by simp)
    refine wpAny_pyNext_tuple_item st (show s.heap.IsTuple a its.toArray from p) (x := u) (by simpa using hu) fun h' st' sb => ?_
    have I1 : Inv X pins σ H { s with heap := h' } := I.turned (t' := s.toks) (fun b o hb e => (sb.2 b hb).trans e) f0 f1 f3 f4 f5
    obtain ⟨o, e, c, d⟩ := id st'
    exact ⟨u, rfl, go_of (s := { s with heap := h' }) e c d (by decide) ⟨x, H, I1, ru, ⟨rfl, fun ys hy => by rw [I.tuple_inj hy hq]; exact hx⟩, st', fun b hb => (hf b hb).1⟩⟩
  done := by
    intro X hP hw hK hc i pins s σ H E I hf st hg
    subst hP hw hK
    obtain ⟨xs, hq, hx⟩ := hg
    obtain ⟨its, rv, p, hz⟩ := I.tuple hq
    obtain ⟨f0, f1, f2, f3, f4, f5⟩ := hf it (by simp)
    have hl := rv.length
    exact wpAny_pyNext_tuple_end (I.ok.hd hc) st (show s.heap.IsTuple a its.toArray from p) (by simp; omega) fun h' eb => ⟨rfl, I.turned (t' := s.toks) (fun b o hb e => eb b o hb e) f0 f1 f3 f4 f5⟩
  self := fun _ _ _ _ _ st h => wpAny_pyIter_tupleiter st h
theorem turn_range {P : Program} {w : World} {K : PySem.W.Frag} {tg : Expr} (it : Addr) (lo : Int) (n : Nat) : Turn P w K tg (Itr lo n) [it] it (fun i h => IsRangeIter h it (lo + (i : Nat) * 1) ((n : Int) - (i : Nat)) 1) where
  mem := by simp
  obj := fun i h st b hb => by
    have e : b = it := by simpa using hb
    subst e
    exact ⟨_, st, fun v z => by
      have z' : Data.fields _ = Data.cell v := z
      cases z'⟩
  keep := fun i h h' st k => k it (by simp) _ st
  item := by
    intro X hP hw hK hc i pins s σ H E I hf st hg
    subst hP hw hK
    obtain ⟨f0, f1, f2, f3, f4, f5⟩ := hf it (by simp)
    have W := Walks.range (prog := X.prog) (w := X.w) (I.ok.hd hc) it lo 1 n
    refine W.item i s _ _ hg st fun v h' tk hv st' kk => ?_
    obtain ⟨t, rfl⟩ := hv
    have I1 : Inv X pins σ H { s with heap := h', toks := tk } := I.turned (fun b o hb e => kk b o (by simpa using hb) e) f0 f1 f3 f4 f5
    refine ⟨_, rfl, go_of (s := { s with heap := h', toks := tk }) (n := "range_iterator") st' rfl rfl (by decide) ⟨.int (lo + i), H, I1, ⟨t, ?_⟩, ⟨rfl, rfl⟩, st', fun b hb => (hf b hb).1⟩⟩
    rw [Int.mul_one]
  done := by
    intro X hP hw hK hc i pins s σ H E I hf st hg
    subst hP hw hK
    obtain ⟨f0, f1, f2, f3, f4, f5⟩ := hf it (by simp)
    exact wpAny_pyNext_range_end (I.ok.hd hc) st (by have : n ≤ i := hg; omega) fun h' eb => ⟨rfl, I.turned (t' := s.toks) (fun b o hb e => eb b o hb e) f0 f1 f3 f4 f5⟩
  self := fun _ _ _ _ _ st h => wpAny_pyIter_rangeiter st h
end L2

namespace L2
open PySem PySem.Spec PyProof.Rows
section
variable {X : Cx} {tg : Expr}
noncomputable def iList (K : PySem.W.Frag) (tl : TE) : TI := fun σ H R => tl σ H fun x H1 => ∃ a, x = .ref a ∧ (∃ xs, SqL K H1 a xs) ∧ R (Itl K a) H1
noncomputable def iTup (K : PySem.W.Frag) (tl : TE) : TI := fun σ H R => tl σ H fun x H1 => ∃ a, x = .ref a ∧ (∃ xs, SqT K H1 a xs) ∧ R (Itt K a) H1
theorem pi_tup {l : Expr} {tl : TE} (hl : PE X l tl) : PI X tg l (iTup X.K tl) := by
  intro pins s σ H R I h
  refine thn (hl pins s σ H _ I h) fun v s1 ⟨x, H1, I1, r1, q1⟩ => ?_
  obtain ⟨a, e, ⟨xs, hq⟩, q⟩ := q1
  subst e
  cases r1
  obtain ⟨its, rv, p, hz⟩ := I1.tuple hq
  refine wpAny_pyIter_tuple (show s1.heap.IsTuple a its.toArray from p) ?_
  refine ⟨s1.heap.objs.size, [s1.heap.objs.size], _, _, H1, rfl, I1.kept (t' := s1.toks) fun b o e => Heap.get?_push_of_some _ e, turn_tuple a _, ⟨_, Heap.get?_push_size _ rfl, rfl, rfl⟩, fun b hb => ?_, q⟩
  have e : b = s1.heap.objs.size := by simpa using hb
  subst e
  exact I1.fpOk (Nat.le_refl _) (I1.hok.fresh (Nat.le_refl _))
/-- a range object just made, walked -/
theorem range_it {pins : List (Addr × Obj)} {σ : St} {H : Hp} {s : Shared} {R : It → Hp → Prop} {E : Value → Shared → Prop} {lo hi : Int} {t u v : Tok} {tk : Nat} (I : Inv X pins σ H s) (h1 : -(2 ^ 62) ≤ lo) (h2 : lo < 2 ^ 62) (h3 : -(2 ^ 62) ≤ hi) (h4 : hi < 2 ^ 62)
    (q : R (Itr lo (hi - lo).toNat) H) : wpAny (model X.prog X.w) X.A (pyIter (.ref s.heap.objs.size)) (PIE X pins σ tg R) E { s with heap := s.heap.push { cls := .type "range", data := .fields #[.int lo t, .int hi u, .int 1 v] }, toks := tk } := by
  refine wpAny_pyIter_range (IsRange.new ..) (small_one h1 h2 h3 h4) ?_
  have I1 : Inv X pins σ H { s with heap := s.heap.push { cls := .type "range", data := .fields #[.int lo t, .int hi u, .int 1 v] }, toks := tk } := I.kept fun b o e => Heap.get?_push_of_some _ e
  refine ⟨(s.heap.push { cls := .type "range", data := .fields #[.int lo t, .int hi u, .int 1 v] }).objs.size, [(s.heap.push { cls := .type "range", data := .fields #[.int lo t, .int hi u, .int 1 v] }).objs.size], _, _, H, rfl,
    I1.kept (t' := tk) fun b o e => Heap.get?_push_of_some _ e, turn_range _ lo (hi - lo).toNat, ?_, fun b hb => ?_, q⟩
  · have e1 : lo + ((0 : Nat) : Int) * 1 = lo := by simp
    have e2 : (((hi - lo).toNat : Nat) : Int) - ((0 : Nat) : Int) = Builtin.Range.rangeSize lo hi 1 := by rw [rangeSize_one]; split <;> omega
    show IsRangeIter _ _ (lo + ((0 : Nat) : Int) * 1) ((((hi - lo).toNat : Nat) : Int) - ((0 : Nat) : Int)) 1
    rw [e1, e2]
    exact Heap.get?_push_size _ rfl
  · have e : b = (s.heap.push { cls := .type "range", data := .fields #[.int lo t, .int hi u, .int 1 v] }).objs.size := by simpa using hb
    subst e
    exact I1.fpOk (Nat.le_refl _) (I1.hok.fresh (Nat.le_refl _))
noncomputable def iRng1 (ta : TA) : TI := fun σ H R => ta σ H fun vs H1 => ∃ j : Int, vs = [.int j] ∧ -(2 ^ 62) ≤ j ∧ j < 2 ^ 62 ∧ R (Itr 0 j.toNat) H1
noncomputable def iRng2 (ta : TA) : TI := fun σ H R => ta σ H fun vs H1 => ∃ i j : Int, vs = [.int i, .int j] ∧ (-(2 ^ 62) ≤ i ∧ i < 2 ^ 62 ∧ -(2 ^ 62) ≤ j ∧ j < 2 ^ 62) ∧ R (Itr i (j - i).toNat) H1
theorem pi_range1 {a : Expr} {ta : TA} {p pos : Pos} (hg : Gl X "range") (hm : X.mg "range" = none) (ha : PA X [a] ta) (hs : starEach [a] X.env = [(false, eval a X.env)] := by rfl) : PI X tg (.Call (.Name "range" p) [a] [] pos) (iRng1 ta) := by
  intro pins s σ H R I h
  refine Call_ (ld_blt I hg hm boot_range (PyProof.Rows.callWith_type1 (thn (ha pos pins s σ H _ I h) fun us s1 ⟨vs, H1, I1, r1, q1⟩ => ?_) hs rfl))
  obtain ⟨j, e, q1, q2, q⟩ := q1
  subst e
  cases r1 with
  | cons r rr =>
    cases rr
    obtain ⟨t, rfl⟩ := r
    exact call_range_1 (range_it I1 (by omega) (by omega) q1 q2 (by simpa using q))
theorem pi_range2 {a b : Expr} {ta : TA} {p pos : Pos} (hg : Gl X "range") (hm : X.mg "range" = none) (ha : PA X [a, b] ta) (hs : starEach [a, b] X.env = [(false, eval a X.env), (false, eval b X.env)] := by rfl) (hs2 : starEach [b] X.env = [(false, eval b X.env)] := by rfl) :
    PI X tg (.Call (.Name "range" p) [a, b] [] pos) (iRng2 ta) := by
  intro pins s σ H R I h
  refine Call_ (ld_blt I hg hm boot_range (PyProof.Rows.callWith_type1 (thn (ha pos pins s σ H _ I h) fun us s1 ⟨vs, H1, I1, r1, q1⟩ => ?_) (by rw [hs, hs2]) (by rw [hs2]; rfl)))
  obtain ⟨i, j, e, ⟨q1, q2, q3, q4⟩, q⟩ := q1
  subst e
  cases r1 with
  | cons r rr =>
    cases rr with
    | cons r' rr =>
      cases rr
      obtain ⟨t, rfl⟩ := r
      obtain ⟨t', rfl⟩ := r'
      exact call_range_2 (range_it I1 q1 q2 q3 q4 q)

/-! ### for -/
/-- W: the invariant by the turn and a measure; N: what the body is to reach -/
noncomputable def tFor (wi : TI) (g : TG) (tb : TS) : TS := fun D σ H => wi σ H fun J H1 => ∃ W : Nat → Nat → St → Hp → Prop, (∃ m, W 0 m σ H1) ∧ ∀ i m σ H, W i m σ H →
  (J.stop i H ∧ D.nx σ H) ∨ (J.go i H ∧ ∃ N : St → Hp → Prop, (∀ σ' H', N σ' H' → ∃ m', m' < m ∧ W (i + 1) m' σ' H') ∧ ∀ x H', J.yld i H x H' → g x σ H' fun σ2 H2 => tb { D with nx := N, ct := N, bk := D.nx } σ2 H2)
/-- the records at fp as they stand -/
noncomputable def pinsAt (fp : List Addr) (h : Heap) : List (Addr × Obj) := fp.filterMap fun b => (h.get? b).map fun o => (b, o)
theorem mem_pinsAt {fp : List Addr} {h : Heap} {b : Addr} {o : Obj} (hb : b ∈ fp) (e : h.get? b = some o) : (b, o) ∈ pinsAt fp h := List.mem_filterMap.mpr ⟨b, hb, by rw [e]; rfl⟩
theorem of_pinsAt {fp : List Addr} {h : Heap} {p : Addr × Obj} (hp : p ∈ pinsAt fp h) : p.1 ∈ fp ∧ h.get? p.1 = some p.2 := by
  obtain ⟨b, hb, e⟩ := List.mem_filterMap.mp hp
  cases q : h.get? b with
  | none => rw [q] at e; cases e
  | some o =>
    rw [q] at e
    have e' : (b, o) = p := Option.some.inj e
    subst e'
    exact ⟨hb, q⟩
theorem Inv.pinned {pins : List (Addr × Obj)} {σ : St} {H : Hp} {s : Shared} {fp : List Addr} (I : Inv X pins σ H s) (hf : ∀ b ∈ fp, FpOk X pins H b) (ho : ∀ b ∈ fp, ∃ o, s.heap.get? b = some o ∧ ∀ v, o.data ≠ .cell v) : Inv X (pins ++ pinsAt fp s.heap) σ H s :=
  I.pins_of fun p hp => (List.mem_append.mp hp).elim (fun z => I.pin p (List.mem_append_right _ z)) fun z => by
    obtain ⟨hb, e⟩ := of_pinsAt z
    obtain ⟨f0, f1, f2, _⟩ := hf p.1 hb
    obtain ⟨o, e', d⟩ := ho p.1 hb
    rw [e] at e'; cases e'
    exact ⟨e, f0, f1, f2, d⟩
theorem Inv.unpinned {pins pl : List (Addr × Obj)} {σ : St} {H : Hp} {s : Shared} (I : Inv X (pins ++ pl) σ H s) : Inv X pins σ H s := I.pins_of fun p hp => I.pin p (List.mem_append_right _ (List.mem_append_left _ hp))
theorem ps_for {iter : Expr} {body : List Stmt} {wi : TI} {g : TG} {tb : TS} {pos : Pos} (hp : PassesOwn (model X.prog X.w) X.A X.env X.xe) (hc : X.calm = true) (hi : PI X tg iter wi) (hg : PG X tg g) (hb : PSs X body tb)
    (hs : ∀ x, foldedSetIterable iter X.env x = pure x := by intro _; rfl) : PS X (.For tg iter body [] pos) (tFor wi g tb) := by
  intro pins s σ H D I h
  refine wpAny_For (thn (hi pins s σ H _ I h) fun v s1 h1 => thn h1 fun itv s2 h2 => ?_) hs
  obtain ⟨it, fp, tn, J, H2, e, I2, T, st2, f2, W, ⟨m0, w0⟩, turn⟩ := h2
  subst e
  -- what stays true of the iterator's objects through the loop
  have stat : ∀ {H' : Hp}, (∀ b ∈ fp, H' b = none) → ∀ b ∈ fp, FpOk X pins H' b := fun hn b hb => ⟨hn b hb, (f2 b hb).2⟩
  refine codeAny_forLoop_any (fun n s' => ∃ i σ' H', Inv X pins σ' H' s' ∧ tn i s'.heap ∧ (∀ b ∈ fp, H' b = none) ∧ W i n σ' H') ?_ m0 ⟨0, σ, H2, I2, st2, fun b hb => (f2 b hb).1, w0⟩
  rintro n s3 ⟨i, σ3, H3, I3, st3, fr3, w3⟩
  rcases turn i n σ3 H3 w3 with ⟨stop, qn⟩ | ⟨go, N, hN, step⟩
  · refine wpAny_passesOwn hp (thn (T.done X rfl rfl rfl hc i pins s3 σ3 H3 X.xe I3 (stat fr3) st3 stop) fun r s4 ⟨hr, I4⟩ => ?_)
    subst hr
    exact wpAny_execs_nil ⟨σ3, H3, I4, qn⟩
  · refine wpAny_passesOwn hp (thn (T.item X rfl rfl rfl hc i pins s3 σ3 H3 X.xe I3 (stat fr3) st3 go) fun r s4 ⟨u, hr, h4⟩ => ?_)
    subst hr
    refine wpAny_passesOwn hp (thn h4 fun _ s5 ⟨x, H5, I5, r5, y5, st5, fr5⟩ => ?_)
    have I5' := I5.pinned (stat fr5) (T.obj _ _ st5)
    refine wpAny_passesOwn hp (thn (hg _ s5 σ3 H5 x u _ I5' r5 (step x H5 y5)) fun _ s6 ⟨σ6, H6, I6, q6⟩ => ?_)
    refine wpAny_passesOwn hp (thn (hb _ s6 σ6 H6 _ I6 q6) fun f s7 q7 => ?_)
    have again : ∀ {σ7 : St} {H7 : Hp}, Inv X (pins ++ pinsAt fp s5.heap) σ7 H7 s7 → N σ7 H7 → ∃ m, m < n ∧ ∃ i σ' H', Inv X pins σ' H' s7 ∧ tn i s7.heap ∧ (∀ b ∈ fp, H' b = none) ∧ W i m σ' H' := fun {σ7 H7} I7 n7 => by
      obtain ⟨m', hm, w7⟩ := hN σ7 H7 n7
      refine ⟨m', hm, i + 1, σ7, H7, I7.unpinned, T.keep _ _ _ st5 fun b hb o e => (I7.pin (b, o) (List.mem_append_right _ (List.mem_append_right _ (mem_pinsAt hb e)))).1, fun b hb => ?_, w7⟩
      obtain ⟨o, e, d⟩ := T.obj _ _ st5 b hb
      exact (I7.pin (b, o) (List.mem_append_right _ (List.mem_append_right _ (mem_pinsAt hb e)))).2.1
    cases f with
    | next => obtain ⟨σ7, H7, I7, n7⟩ := q7; exact again I7 n7
    | cont => obtain ⟨σ7, H7, I7, n7⟩ := q7; exact again I7 n7
    | brk => obtain ⟨σ7, H7, I7, q7⟩ := q7; exact ⟨σ7, H7, I7.unpinned, q7⟩
    | ret v => obtain ⟨x7, σ7, H7, I7, r7, q7⟩ := q7; exact ⟨x7, σ7, H7, I7.unpinned, r7, q7⟩
end

/-! ### the forms one uses -/
theorem for_range {lo : Int} {n : Nat} {g : TG} {tb : TS} {D : Ends} {σ : St} {H : Hp} (Pv : Nat → St → Hp → Prop) (h0 : Pv 0 σ H)
    (hs : ∀ i σ H, i < n → Pv i σ H → g (.int (lo + i)) σ H fun σ2 H2 => tb { D with nx := Pv (i + 1), ct := Pv (i + 1), bk := D.nx } σ2 H2) (hd : ∀ σ H, Pv n σ H → D.nx σ H) :
    ∃ W : Nat → Nat → St → Hp → Prop, (∃ m, W 0 m σ H) ∧ ∀ i m σ H, W i m σ H →
      ((Itr lo n).stop i H ∧ D.nx σ H) ∨ ((Itr lo n).go i H ∧ ∃ N : St → Hp → Prop, (∀ σ' H', N σ' H' → ∃ m', m' < m ∧ W (i + 1) m' σ' H') ∧ ∀ x H', (Itr lo n).yld i H x H' → g x σ H' fun σ2 H2 => tb { D with nx := N, ct := N, bk := D.nx } σ2 H2) := by
  refine ⟨fun i m σ H => m = n - i ∧ i ≤ n ∧ Pv i σ H, ⟨n, by simp, Nat.zero_le _, h0⟩, ?_⟩
  rintro i m σ H ⟨rfl, hi, p⟩
  by_cases hlt : i < n
  · refine .inr ⟨hlt, Pv (i + 1), fun σ' H' p' => ⟨n - (i + 1), by omega, rfl, hlt, p'⟩, fun x H' y => ?_⟩
    obtain ⟨e, y⟩ := y
    subst e y
    exact hs i σ _ hlt p
  · have e : i = n := by omega
    subst e
    exact .inl ⟨Nat.le_refl _, hd σ H p⟩
end L2

namespace L2
open PySem PySem.Spec PyProof.Rows

noncomputable abbrev R2 := V → V → Hp → VK → Prop
/-- a two-place operation on values: f is binaryOp op, inplaceOp op or compareOp op -/
noncomputable def OpR (X : Cx) (f : Value → Value → Sem Value) (r : R2) : Prop :=
  ∀ (pins : List (Addr × Obj)) (s : Shared) (σ : St) (H : Hp) (x y : V) (v u : Value) (Q : VK), Inv X pins σ H s → RelV x v → RelV y u → r x y H Q →
    wpAny (model X.prog X.w) X.A (f v u) (EP X pins σ Q) X.xe s
/-- a one-place operation -/
noncomputable def UnR (X : Cx) (f : Value → Sem Value) (r : V → Hp → VK → Prop) : Prop :=
  ∀ (pins : List (Addr × Obj)) (s : Shared) (σ : St) (H : Hp) (x : V) (v : Value) (Q : VK), Inv X pins σ H s → RelV x v → r x H Q →
    wpAny (model X.prog X.w) X.A (f v) (EP X pins σ Q) X.xe s
/-- a call of a value that is known (a builtin, a type) with values -/
noncomputable def CallR (X : Cx) (f : Value) (r : List V → Hp → VK → Prop) : Prop :=
  ∀ (pins : List (Addr × Obj)) (s : Shared) (σ : St) (H : Hp) (xs : List V) (us : List Value) (Q : VK), Inv X pins σ H s → Vals xs us → r xs H Q →
    wpAny (model X.prog X.w) X.A (call f us) (EP X pins σ Q) X.xe s
noncomputable def tOp (r : R2) (ta tb : TE) : TE := fun σ H Q => ta σ H fun x H1 => tb σ H1 fun y H2 => r x y H2 Q
noncomputable def tUn (r : V → Hp → VK → Prop) (ta : TE) : TE := fun σ H Q => ta σ H fun x H1 => r x H1 Q
/-- ints in, under C, and a value out -/
noncomputable def rI (C : Int → Int → Prop) (g : Int → Int → V) : R2 := fun x y H Q => ∃ i j, x = .int i ∧ y = .int j ∧ C i j ∧ Q (g i j) H
noncomputable def rI0 (g : Int → Int → V) : R2 := fun x y H Q => ∃ i j, x = .int i ∧ y = .int j ∧ Q (g i j) H
noncomputable def rU (g : Int → V) : V → Hp → VK → Prop := fun x H Q => ∃ i, x = .int i ∧ Q (g i) H

section
variable {X : Cx} {a b c : Expr} {ta tb tc : TE} {pos : Pos}

theorem binT (ha : PE X a ta) (hb : PE X b tb) {pins : List (Addr × Obj)} {s : Shared} {σ : St} {H : Hp} {R : V → V → Hp → Prop} (I : Inv X pins σ H s)
    (h : ta σ H fun x H1 => tb σ H1 fun y H2 => R x y H2) {Q : Value → Shared → Prop} {f : Value → Value → Sem Value}
    (hf : ∀ v u s2 x y H2, Inv X pins σ H2 s2 → RelV x v → RelV y u → R x y H2 → wpAny (model X.prog X.w) X.A (f v u) Q X.xe s2) :
    wpAny (model X.prog X.w) X.A (eval a X.env) (fun v s₁ => wpAny (model X.prog X.w) X.A (eval b X.env) (fun u s₂ => wpAny (model X.prog X.w) X.A (f v u) Q X.xe s₂) X.xe s₁) X.xe s := by
  refine thn (ha pins s σ H _ I h) fun v s1 ⟨x, H1, I1, r1, q1⟩ => ?_
  refine thn (hb pins s1 σ H1 _ I1 q1) fun u s2 ⟨y, H2, I2, r2, q2⟩ => ?_
  exact hf v u s2 x y H2 I2 r1 r2 q2

theorem pe_op {op : Operator} {r : R2} (ho : OpR X (binaryOp op) r) (ha : PE X a ta) (hb : PE X b tb) : PE X (.BinOp a op b pos) (tOp r ta tb) := by
  intro pins s σ H Q I h
  exact wpAny_BinOp (binT ha hb I h fun v u s2 x y H2 I2 rx ry q => ho pins s2 σ H2 x y v u Q I2 rx ry q)
theorem pe_un {op : UnaryOp} {r : V → Hp → VK → Prop} (ho : UnR X (unaryOp op) r) (ha : PE X a ta) : PE X (.UnaryOp op a pos) (tUn r ta) := by
  intro pins s σ H Q I h
  exact UnaryOp_ (thn (ha pins s σ H _ I h) fun v s1 ⟨x, H1, I1, r1, q1⟩ => ho pins s1 σ H1 x v Q I1 r1 q1)
/-! ### ints -/
theorem opI {f : Value → Value → Sem Value} {C : Int → Int → Prop} {g : Int → Int → Int}
    (rule : ∀ (i j : Int) (t u : Tok) (s : Shared) (Q : Value → Shared → Prop) (E : Value → Shared → Prop), C i j → Q (.int (g i j) s.toks) { s with toks := s.toks + 1 } → wpAny (model X.prog X.w) X.A (f (.int i t) (.int j u)) Q E s) :
    OpR X f (rI C fun i j => .int (g i j)) := by
  intro pins s σ H x y v u Q I rx ry h
  obtain ⟨i, j, rfl, rfl, hc, q⟩ := h
  obtain ⟨t, rfl⟩ := rx
  obtain ⟨t', rfl⟩ := ry
  exact rule i j t t' s _ _ hc ⟨.int (g i j), H, I.tok _, ⟨_, rfl⟩, q⟩
theorem opI0 {f : Value → Value → Sem Value} {g : Int → Int → Int}
    (rule : ∀ (i j : Int) (t u : Tok) (s : Shared) (Q : Value → Shared → Prop) (E : Value → Shared → Prop), Q (.int (g i j) s.toks) { s with toks := s.toks + 1 } → wpAny (model X.prog X.w) X.A (f (.int i t) (.int j u)) Q E s) :
    OpR X f (rI0 fun i j => .int (g i j)) := by
  intro pins s σ H x y v u Q I rx ry h
  obtain ⟨i, j, rfl, rfl, q⟩ := h
  obtain ⟨t, rfl⟩ := rx
  obtain ⟨t', rfl⟩ := ry
  exact rule i j t t' s _ _ ⟨.int (g i j), H, I.tok _, ⟨_, rfl⟩, q⟩
theorem opB0 {f : Value → Value → Sem Value} {g : Int → Int → Bool}
    (rule : ∀ (i j : Int) (t u : Tok) (s : Shared) (Q : Value → Shared → Prop) (E : Value → Shared → Prop), Q (.bool (g i j)) s → wpAny (model X.prog X.w) X.A (f (.int i t) (.int j u)) Q E s) :
    OpR X f (rI0 fun i j => .bl (g i j)) := by
  intro pins s σ H x y v u Q I rx ry h
  obtain ⟨i, j, rfl, rfl, q⟩ := h
  obtain ⟨t, rfl⟩ := rx
  obtain ⟨t', rfl⟩ := ry
  exact rule i j t t' s _ _ ⟨.bl (g i j), H, I, rfl, q⟩

noncomputable def CPow (i j : Int) : Prop := 0 ≤ j ∧ j ≤ 1000000 ∧ i.natAbs < 2 ^ 64
noncomputable def CMul (i j : Int) : Prop := (-(2 ^ 64) < i ∧ i < 2 ^ 64) ∨ (-(2 ^ 64) < j ∧ j < 2 ^ 64)
theorem CMul.ok {i j : Int} (h : CMul i j) : IntMulOk i j := by
  rcases h with ⟨h1, h2⟩ | ⟨h1, h2⟩
  · exact .of_left (intBits_le_64 h1 h2)
  · exact .of_right (intBits_le_64 h1 h2)
theorem op_add : OpR X (binaryOp .Add) (rI0 fun i j => .int (i + j)) := opI0 fun _ _ _ _ _ _ _ q => add_int q
theorem op_sub : OpR X (binaryOp .Sub) (rI0 fun i j => .int (i - j)) := opI0 fun _ _ _ _ _ _ _ q => sub_int q
/-- % by a positive divisor of any size -/
theorem op_mod : OpR X (binaryOp .Mod) (rI (fun _ j => 0 < j) fun i j => .int (i % j)) := opI fun i j _ _ _ _ _ hc q => by
  have h1 : (0 : Int) < j := hc
  exact mod_int' (by omega) (by rw [Int.fmod_eq_emod_of_nonneg i (by omega)]; exact q)
theorem op_shl : OpR X (binaryOp .LShift) (rI CPow fun i j => .int (i * 2 ^ j.toNat)) := opI fun _ _ _ _ _ _ _ hc q => lshift_int_small hc.1 hc.2.1 hc.2.2 q
theorem unI {f : Value → Sem Value} {g : Int → Int}
    (rule : ∀ (i : Int) (t : Tok) (s : Shared) (Q : Value → Shared → Prop) (E : Value → Shared → Prop), Q (.int (g i) s.toks) { s with toks := s.toks + 1 } → wpAny (model X.prog X.w) X.A (f (.int i t)) Q E s) :
    UnR X f (rU fun i => .int (g i)) := by
  intro pins s σ H x v Q I rx h
  obtain ⟨i, rfl, q⟩ := h
  obtain ⟨t, rfl⟩ := rx
  exact rule i t s _ _ ⟨.int (g i), H, I.tok _, ⟨_, rfl⟩, q⟩
theorem un_neg : UnR X (unaryOp .USub) (rU fun i => .int (-i)) := unI fun _ _ _ _ _ q => neg_int q
/-! ### bools among ints: n += (a < b) -/
end

/-! ### comparisons -/
/-- the scalars that == tells apart as data does -/
noncomputable def scal : V → V → Bool
  | .non, .non => true | .non, .int _ => true | .int _, .non => true | .non, .bl _ => true | .bl _, .non => true | .non, .str _ => true | .str _, .non => true
  | .int _, .int _ => true | .bl _, .bl _ => true | .str _, .str _ => true | .byt _, .byt _ => true
  | .int _, .str _ => true | .str _, .int _ => true | .bl _, .str _ => true | .str _, .bl _ => true
  | _, _ => false
noncomputable def rEq : R2 := fun x y H Q => scal x y = true ∧ Q (.bl (decide (x = y))) H
noncomputable def rNe : R2 := fun x y H Q => scal x y = true ∧ Q (.bl (!decide (x = y))) H

theorem dec_int {i j : Int} : decide (V.int i = V.int j) = (i == j) := by
  rw [Bool.eq_iff_iff]
  simp
theorem dec_bl {i j : Bool} : decide (V.bl i = V.bl j) = (i == j) := by
  rw [Bool.eq_iff_iff]
  simp
theorem dec_str {i j : Str} : decide (V.str i = V.str j) = (i == j) := by
  rw [Bool.eq_iff_iff]
  simp
theorem dec_byt {i j : Array UInt8} : decide (V.byt i = V.byt j) = (i.toList == j.toList) := by
  rw [Bool.eq_iff_iff]
  cases i
  cases j
  simp

section
variable {X : Cx} {a b c : Expr} {ta tb tc : TE} {pos : Pos}
theorem fin_bl {pins : List (Addr × Obj)} {σ : St} {H : Hp} {s : Shared} {Q : VK} {k k' : Bool} (I : Inv X pins σ H s) (q : Q (.bl k) H) (e : k = k') : EP X pins σ Q (.bool k') s := by
  subst e
  exact ⟨.bl k, H, I, rfl, q⟩
theorem op_eq : OpR X (compareOp .Eq) rEq := by
  intro pins s σ H x y v u Q I rx ry h
  obtain ⟨hs, q⟩ := h
  cases x with
  | non =>
    cases rx
    cases y with
    | non => cases ry; exact PySem.EqNone.eq_none_none (fin_bl I q (by simp))
    | bl j => cases ry; exact PySem.EqNone.eq_none_bool (fin_bl I q (by simp))
    | int j => obtain ⟨t', rfl⟩ := ry; exact PySem.EqNone.eq_none_int (fin_bl I q (by simp))
    | str j => obtain ⟨t', rfl⟩ := ry; exact PySem.EqNone.eq_none_str (fin_bl I q (by simp))
    | _ => exact absurd (show false = true from hs) Bool.false_ne_true
  | bl i =>
    cases rx
    cases y with
    | non => cases ry; exact PySem.EqNone.eq_bool_none (fin_bl I q (by simp))
    | bl j => cases ry; exact eq_bool (fin_bl I q dec_bl)
    | str j => obtain ⟨t', rfl⟩ := ry; exact PySem.EqMixed.eq_bool_str (fin_bl I q (by simp))
    | _ => exact absurd (show false = true from hs) Bool.false_ne_true
  | int i =>
    obtain ⟨t, rfl⟩ := rx
    cases y with
    | non => cases ry; exact PySem.EqNone.eq_int_none (fin_bl I q (by simp))
    | int j => obtain ⟨t', rfl⟩ := ry; exact eq_int (fin_bl I q dec_int)
    | str j => obtain ⟨t', rfl⟩ := ry; exact PySem.EqMixed.eq_int_str (fin_bl I q (by simp))
    | _ => exact absurd (show false = true from hs) Bool.false_ne_true
  | str i =>
    obtain ⟨t, rfl⟩ := rx
    cases y with
    | non => cases ry; exact PySem.EqNone.eq_str_none (fin_bl I q (by simp))
    | bl j => cases ry; exact PySem.EqMixed.eq_str_bool (fin_bl I q (by simp))
    | int j => obtain ⟨t', rfl⟩ := ry; exact PySem.EqMixed.eq_str_int (fin_bl I q (by simp))
    | str j => obtain ⟨t', rfl⟩ := ry; exact eq_str (fin_bl I q dec_str)
    | _ => exact absurd (show false = true from hs) Bool.false_ne_true
  | byt i =>
    obtain ⟨t, rfl⟩ := rx
    cases y with
    | byt j => obtain ⟨t', rfl⟩ := ry; exact PySem.W.eq_bytes (fin_bl I q dec_byt)
    | _ => exact absurd (show false = true from hs) Bool.false_ne_true
  | _ => cases y <;> exact absurd (show false = true from hs) Bool.false_ne_true
theorem op_ne : OpR X (compareOp .NotEq) rNe := by
  intro pins s σ H x y v u Q I rx ry h
  obtain ⟨hs, q⟩ := h
  cases x with
  | non =>
    cases rx
    cases y with
    | non => cases ry; exact PySem.EqNone.ne_none_none (fin_bl I q (by simp))
    | bl j => cases ry; exact PySem.EqNone.ne_none_bool (fin_bl I q (by simp))
    | int j => obtain ⟨t', rfl⟩ := ry; exact PySem.EqNone.ne_none_int (fin_bl I q (by simp))
    | str j => obtain ⟨t', rfl⟩ := ry; exact PySem.EqNone.ne_none_str (fin_bl I q (by simp))
    | _ => exact absurd (show false = true from hs) Bool.false_ne_true
  | bl i =>
    cases rx
    cases y with
    | non => cases ry; exact PySem.EqNone.ne_bool_none (fin_bl I q (by simp))
    | bl j => cases ry; exact ne_bool (fin_bl I q (congrArg not dec_bl))
    | str j => obtain ⟨t', rfl⟩ := ry; exact PySem.EqMixed.ne_bool_str (fin_bl I q (by simp))
    | _ => exact absurd (show false = true from hs) Bool.false_ne_true
  | int i =>
    obtain ⟨t, rfl⟩ := rx
    cases y with
    | non => cases ry; exact PySem.EqNone.ne_int_none (fin_bl I q (by simp))
    | int j => obtain ⟨t', rfl⟩ := ry; exact ne_int (fin_bl I q (congrArg not dec_int))
    | str j => obtain ⟨t', rfl⟩ := ry; exact PySem.EqMixed.ne_int_str (fin_bl I q (by simp))
    | _ => exact absurd (show false = true from hs) Bool.false_ne_true
  | str i =>
    obtain ⟨t, rfl⟩ := rx
    cases y with
    | non => cases ry; exact PySem.EqNone.ne_str_none (fin_bl I q (by simp))
    | bl j => cases ry; exact PySem.EqMixed.ne_str_bool (fin_bl I q (by simp))
    | int j => obtain ⟨t', rfl⟩ := ry; exact PySem.EqMixed.ne_str_int (fin_bl I q (by simp))
    | str j => obtain ⟨t', rfl⟩ := ry; exact ne_str (fin_bl I q (congrArg not dec_str))
    | _ => exact absurd (show false = true from hs) Bool.false_ne_true
  | byt i =>
    obtain ⟨t, rfl⟩ := rx
    cases y with
    | byt j => obtain ⟨t', rfl⟩ := ry; exact PySem.W.ne_bytes (fin_bl I q (congrArg not dec_byt))
    | _ => exact absurd (show false = true from hs) Bool.false_ne_true
  | _ => cases y <;> exact absurd (show false = true from hs) Bool.false_ne_true

theorem op_lt : OpR X (compareOp .Lt) (rI0 fun i j => .bl (decide (i < j))) := opB0 fun _ _ _ _ _ _ _ q => lt_int q
theorem op_le : OpR X (compareOp .LtE) (rI0 fun i j => .bl (decide (i ≤ j))) := opB0 fun _ _ _ _ _ _ _ q => le_int q
theorem op_gt : OpR X (compareOp .Gt) (rI0 fun i j => .bl (decide (j < i))) := opB0 fun _ _ _ _ _ _ _ q => gt_int q
theorem op_ge : OpR X (compareOp .GtE) (rI0 fun i j => .bl (decide (j ≤ i))) := opB0 fun _ _ _ _ _ _ _ q => ge_int q
theorem op_notN : OpR X (compareOp .IsNot) (fun x y H Q => y = .non ∧ Q (.bl (!decide (x = .non))) H) := by
  intro pins s σ H x y v u Q I rx ry h
  obtain ⟨rfl, q⟩ := h
  cases ry
  refine isnot_none_gen (fin_bl I q ?_)
  cases x <;> first
    | (cases rx; rfl)
    | (obtain ⟨t, rfl⟩ := rx; rfl)








theorem nomark (b : Expr) {op : CmpOp} (h : op ≠ .In := by decide) (h2 : op ≠ .NotIn := by decide) : behindInMarks op b = false := by
  have e1 : (op == CmpOp.In) = false := by cases op <;> first | rfl | exact absurd rfl h
  have e2 : (op == CmpOp.NotIn) = false := by cases op <;> first | rfl | exact absurd rfl h2
  cases b <;> simp [behindInMarks, e1, e2]
/-- a comparison as a value; hm: nomark b, or (for in, not in) by with_unfolding_all rfl -/
theorem pe_cmpR {op : CmpOp} {r : R2} (ho : OpR X (compareOp op) r) (ha : PE X a ta) (hb : PE X b tb) (hm : behindInMarks op b = false) : PE X (.Compare a [op] [b] pos) (tOp r ta tb) := by
  intro pins s σ H Q I h
  exact wpAny_Compare1 (binT ha hb I h fun v u s2 x y H2 I2 rx ry q => ho pins s2 σ H2 x y v u Q I2 rx ry q) hm
/-- a reading of a value as a test -/
noncomputable def tTest (t : TE) : TT := fun σ H Q => t σ H fun x H' => ∃ k, x = .bl k ∧ Q k H'
theorem pt_cmpR {op : CmpOp} {r : R2} (ho : OpR X (compareOp op) r) (ha : PE X a ta) (hb : PE X b tb) (hm : behindInMarks op b = false) : PT X (.Compare a [op] [b] pos) (tTest (tOp r ta tb)) := by
  intro pins s σ H Q I h
  refine wpAny_isTrue_Compare1 (thn (ha pins s σ H _ I h) fun v s1 ⟨x, H1, I1, r1, q1⟩ => thn (hb pins s1 σ H1 _ I1 q1) fun u s2 ⟨y, H2, I2, r2, q2⟩ =>
    thn (ho pins s2 σ H2 x y v u _ I2 r1 r2 q2) fun c s3 ⟨z, H3, I3, r3, k, e, q3⟩ => ?_) hm
  subst e
  cases r3
  exact wpAny_truthy_bool ⟨H3, I3, q3⟩
/-- a op1 b op2 c -/
noncomputable def tChain (r r' : R2) (ta tb tc : TE) : TE := fun σ H Q => ta σ H fun x H1 => tb σ H1 fun y H2 => r x y H2 fun z H3 => ∃ k, z = .bl k ∧
  (if k = true then tc σ H3 fun w' H4 => r' y w' H4 Q else Q (.bl false) H3)
/-! ### truth -/
theorem line63 : (sizeLine : Nat) < 2 ^ 63 := by rw [sizeLine_eq]; decide
/-! ### strs and bytes -/
/-! ### scalar builtins, by CallR -/
theorem vals1 {x : V} {us : List Value} (r : Vals [x] us) : ∃ u, us = [u] ∧ RelV x u := by
  cases r with
  | cons r1 r2 => cases r2; exact ⟨_, rfl, r1⟩
theorem vals2 {x y : V} {us : List Value} (r : Vals [x, y] us) : ∃ u w', us = [u, w'] ∧ RelV x u ∧ RelV y w' := by
  cases r with
  | cons r1 r2 =>
    cases r2 with
    | cons r3 r4 => cases r4; exact ⟨_, _, rfl, r1, r3⟩
theorem call_abs : CallR X (.builtin "abs") (fun xs H Q => ∃ i, xs = [.int i] ∧ Q (.int (if i < 0 then -i else i)) H) := by
  intro pins s σ H xs us Q I r h
  obtain ⟨i, rfl, q⟩ := h
  obtain ⟨u, rfl, t, rfl⟩ := vals1 r
  exact call_abs_int fun u tk => ⟨.int (if i < 0 then -i else i), H, I.tok _, ⟨_, rfl⟩, q⟩
theorem call_min2 (hc : X.calm = true) : CallR X (.builtin "min") (fun xs H Q => ∃ i j, xs = [.int i, .int j] ∧ Q (.int (if j < i then j else i)) H) := by
  intro pins s σ H xs us Q I r h
  obtain ⟨i, j, rfl, q⟩ := h
  obtain ⟨u, w', rfl, ⟨t, rfl⟩, ⟨t', rfl⟩⟩ := vals2 r
  refine min_two_ints (I.ok.hd hc) fun h' tk k => ⟨_, H, I.kept k, ?_, q⟩
  by_cases hj : j < i
  · rw [if_pos hj, if_pos hj]; exact ⟨_, rfl⟩
  · rw [if_neg hj, if_neg hj]; exact ⟨_, rfl⟩
end
end L2

namespace L2
open PySem PySem.Spec PyProof.Rows

/-! ### an instance, its attributes a map -/
structure ObjM (h : Heap) (x dx C : Addr) (mA : Str → Option Value) : Prop where
  obj : h.get? x = some (PySem.W.instObj C dx)
  ns : h.Ns1 dx mA
  ne : dx ≠ x

theorem lookIn_ns {h : Heap} {dx : Addr} {mA : Str → Option Value} (n : h.Ns1 dx mA) : ∃ od, h.get? dx = some od ∧ ∀ name, PySem.W.lookIn name od = some (mA name) := by
  obtain ⟨o, es, ep, ho, hd, hk, _, hm⟩ := n
  refine ⟨o, ho, fun name => ?_⟩
  have e := hm name
  unfold nsFind findBy at e
  rw [← Array.find?_toList] at e
  unfold PySem.W.lookIn
  rw [hd]
  dsimp only
  split
  · rename_i y q
    rw [q] at e
    exact congrArg some e
  · rename_i q
    rw [q] at e
    have a : es.toList.any (·.refKey) = false := by
      rw [List.any_eq_false]
      intro y hy
      obtain ⟨z, t, hkey⟩ := hk y (Array.mem_toList_iff.mp hy)
      simp [DictEntry.refKey, hkey]
    have a' : ¬ es.toList.any (·.refKey) = true := by rw [a]; exact Bool.false_ne_true
    rw [if_neg a']
    exact congrArg some e

theorem ObjM.look {h : Heap} {x dx C : Addr} {mA : Str → Option Value} (I : ObjM h x dx C mA) : ∃ od, PySem.W.InstAt h x (PySem.W.instObj C dx) C (some od) ∧ ∀ name, PySem.W.lookIn name od = some (mA name) :=
  let ⟨od, ho, hl⟩ := lookIn_ns I.ns
  ⟨od, ⟨I.obj, rfl, rfl, ho⟩, hl⟩

section
variable {prog : Program} {w : World} {A : Around} {E : Value → Shared → Prop} {s : Shared} {K : PySem.W.Frag} {x dx C f : Addr} {mA : Str → Option Value} {name : Str} {v : Value}

end

/-! ### the attributes as a list of pairs -/




section
variable {P : Program} {w : World} {H H' : Hp} {h h' : Heap} {a C dx : Addr} {fs fs' : List (Str × V)}
theorem ins_get (hok : HOk P w H h) (e : H a = some (.ins C dx fs)) : ∃ mA, ObjM h a dx C mA ∧ (∀ f, RelO (fs.lookup f) (mA f)) ∧ PySem.Within mA (fs.map (·.1)) ∧ fs.length ≤ 1000 ∧ H dx = some (.own a) := by
  obtain ⟨d, z, ne, ob, mA, n, r, q⟩ := (show ObjOk P w H h a (.ins C dx fs) from hok a _ e)
  exact ⟨mA, ⟨ob, n, ne⟩, r, q, z, d⟩
end

/-! ### what of the text a class must have -/
structure Cls (K : PySem.W.Frag) (C : Addr) : Prop where
  pg : PySem.W.plainGet K C Str.empty = true
  hd : PySem.W.hasDictIn K C = true
  po : PySem.W.plainOver K C = true
  sa : PySem.W.findIn K (.ref C) "__setattr__" = some (some (.builtin "object.__setattr__"))
theorem Cls.get {K : PySem.W.Frag} {C : Addr} (c : Cls K C) (f : Str) : PySem.W.plainGet K C f = true := c.pg












section
variable {X : Cx} {pins : List (Addr × Obj)} {σ : St} {H : Hp} {s : Shared} {a C dx : Addr} {fs : List (Str × V)} {f : Str} {v : V} {A : Around} {E : Value → Shared → Prop}














end

/-! ### readings and rules -/
section
variable {X : Cx} {o e value : Expr} {f : Str} {pos pos' tpos : Pos} {ta tv : TE}
end

/-! ### isinstance -/
section
variable {X : Cx} {pins : List (Addr × Obj)} {σ : St} {H : Hp} {s : Shared} {A : Around} {E : Value → Shared → Prop} {Q : Value → Shared → Prop} {c : Value} {b : Bool}
/-- the type of a value, as the fragment's deciders take it; for an instance its class -/
inductive TyOf (K : PySem.W.Frag) (H : Hp) : V → Value → Prop where
  | non : TyOf K H .non (.type "NoneType")
  | bl (x : Bool) : TyOf K H (.bl x) (.type "bool")
  | int (i : Int) : TyOf K H (.int i) (.type "int")
  | str (x : Str) : TyOf K H (.str x) (.type "str")
  | flt (x : UInt64) : TyOf K H (.flt x) (.type "float")
  | lst {a : Addr} {xs : List V} (e : H a = some (.lst xs)) : TyOf K H (.ref a) (.type "list")
  | frz {a : Addr} {o : Obj} {xs : List V} (e : H a = some (.frz o (.lst xs))) : TyOf K H (.ref a) (.type "list")
  | tup {a : Addr} {xs : List V} (e : H a = some (.tup xs)) : TyOf K H (.ref a) (.type "tuple")
  | dK {a : Addr} {kvs : List (Key × V)} (e : H a = some (.dK kvs)) : TyOf K H (.ref a) (.type "dict")
  | dT {a : Addr} {kvs : List (List Key × V)} (e : H a = some (.dT kvs)) : TyOf K H (.ref a) (.type "dict")
  | ins {a C dx : Addr} {fs : List (Str × V)} (e : H a = some (.ins C dx fs)) (cl : Cls K C) (ha : PySem.W.findIn K (.ref C) "__class__" = some (some (.builtin "object.__class__")))
      (hn : PySem.W.specialIn K (.builtin "object.__class__") "__get__" = some (some (.builtin "getset_descriptor.__get__"))) (htk : PySem.W.takesIn K (.builtin "object.__class__") = some true)
      (hm : PySem.W.mroIn K C (.type "object") = some true) : TyOf K H (.ref a) (.ref C)
/-- isinstance(x, c) for one class c, a built-in or an own one: kitOne's answer -/
theorem isinst_ok {x : V} {u t : Value} (I : Inv X pins σ H s) (rx : RelV x u) (ty : TyOf X.K H x t) (e : PySem.W.kitOne X.K t c = some b) (h : ∀ tk, Q (.bool b) { s with toks := tk }) :
    wpAny (model X.prog X.w) A (call (.builtin "isinstance") [u, c]) Q E s := by
  cases ty with
  | non => cases (show u = Value.none from rx); exact PySem.W.kia_one PySem.W.kitx_none I.kIn True.intro e (fun z => nomatch z) h
  | bl y => cases (show u = Value.bool y from rx); exact PySem.W.kia_one PySem.W.kitx_bool I.kIn True.intro e (fun z => nomatch z) h
  | int i => obtain ⟨t, q⟩ := (show ∃ t, u = Value.int i t from rx); cases q; exact PySem.W.kia_one PySem.W.kitx_int I.kIn True.intro e (fun z => nomatch z) h
  | str y => obtain ⟨t, q⟩ := (show ∃ t, u = Value.str y t from rx); cases q; exact PySem.W.kia_one PySem.W.kitx_str I.kIn True.intro e (fun z => nomatch z) h
  | flt y => obtain ⟨t, q⟩ := (show ∃ t, u = Value.float y t from rx); cases q; exact PySem.W.kia_one PySem.W.kitx_float I.kIn True.intro e (fun z => nomatch z) h
  | @lst a xs ea =>
    cases (show u = Value.ref a from rx)
    obtain ⟨_, _, n, _, h1⟩ := (show ObjOk X.prog X.w H s.heap a (.lst xs) from I.hok a _ ea)
    exact PySem.W.kia_one PySem.W.kitx_list I.kIn ⟨_, h1, rfl⟩ e (fun z => nomatch z) h
  | @frz a ob xs ea =>
    cases (show u = Value.ref a from rx)
    obtain ⟨_, _, _, n, _, h1⟩ := (show ObjOk X.prog X.w H s.heap a (.frz ob (.lst xs)) from I.hok a _ ea)
    exact PySem.W.kia_one PySem.W.kitx_list I.kIn ⟨_, h1, rfl⟩ e (fun z => nomatch z) h
  | @tup a xs ea =>
    cases (show u = Value.ref a from rx)
    obtain ⟨_, _, _, p⟩ := (show ObjOk X.prog X.w H s.heap a (.tup xs) from I.hok a _ ea)
    obtain ⟨o, h1, h2, _⟩ := p
    exact PySem.W.kia_one PySem.W.kitx_tuple I.kIn ⟨o, h1, h2⟩ e (fun z => nomatch z) h
  | @dK a kvs ea =>
    cases (show u = Value.ref a from rx)
    obtain ⟨_, _, vs, _, p⟩ := (show ObjOk X.prog X.w H s.heap a (.dK kvs) from I.hok a _ ea)
    obtain ⟨o, es, ep, h1, h2, _⟩ := p
    exact PySem.W.kia_one PySem.W.kitx_dict I.kIn ⟨o, h1, h2.1⟩ e (fun z => nomatch z) h
  | @dT a kvs ea =>
    cases (show u = Value.ref a from rx)
    obtain ⟨_, _, xs, _, o, es, ep, h1, h2, _⟩ := (show ObjOk X.prog X.w H s.heap a (.dT kvs) from I.hok a _ ea)
    exact PySem.W.kia_one PySem.W.kitx_dict I.kIn ⟨o, h1, h2.1⟩ e (fun z => nomatch z) h
  | @ins a C dx fs ea cl ha hn htk hm =>
    cases (show u = Value.ref a from rx)
    obtain ⟨mA, O, _⟩ := ins_get I.hok ea
    obtain ⟨od, J, _⟩ := O.look
    exact PySem.W.kia_one (PySem.W.kitx_own (cl.get _) cl.hd ha hn htk hm) I.kIn J e (fun z => nomatch z) h
end
end L2

namespace L2
open PySem PySem.Spec PyProof.Rows

/-! ### room -/
structure Room (k : Nat) (A : Around) : Prop where
  hd : A.handled = none
  dp : A.depth + 3 * k + 5 < recursionLimit
  un : A.units + 16 * k + 200 < cLine
theorem Room.mono {j k : Nat} {A : Around} (r : Room k A) (h : j ≤ k) : Room j A := ⟨r.hd, by have := r.dp; omega, by have := r.un; omega⟩
theorem Room.deeper {k : Nat} {A : Around} (r : Room (k + 1) A) (env : Env) : Room k (A.deeper env) :=
  ⟨r.hd, by have := r.dp; show A.depth + 1 + 3 * k + 5 < _; omega, by have := r.un; show A.units + 3 + 16 * k + 200 < _; omega⟩








theorem Room.depth {k : Nat} {A : Around} (r : Room k A) : A.depth < recursionLimit := by have := r.dp; omega
theorem Room.units {k : Nat} {A : Around} (r : Room k A) : A.units + 64 < cLine := by have := r.un; omega
/-! ### argument lists and displays -/
noncomputable def tNil : TA := fun _ H Q => Q [] H
noncomputable def tCons (ta : TE) (tr : TA) : TA := fun σ H Q => ta σ H fun x H1 => tr σ H1 fun xs H2 => Q (x :: xs) H2
section
variable {X : Cx} {e : Expr} {es : List Expr} {te : TE} {t : TA} {pos : Pos}
theorem pa_nil : PA X [] tNil := fun _ _ _ _ H Q I h => Calls.spliced_nil ⟨[], H, I, .nil, h⟩
theorem pa_cons (ha : PE X e te) (hr : PA X es t) (hs : starEach (e :: es) X.env = (false, eval e X.env) :: starEach es X.env := by rfl) : PA X (e :: es) (tCons te t) := by
  intro pos pins s σ H Q I h
  rw [hs]
  show wpAny _ _ (spliced ((false, eval e X.env) :: backTo pos (starEach es X.env))) _ _ s
  refine Calls.spliced_cons (thn (ha pins s σ H _ I h) fun u s1 ⟨x, H1, I1, r1, q1⟩ => ?_)
  exact thn (hr pos pins s1 σ H1 _ I1 q1) fun us s2 ⟨xs, H2, I2, r2, q2⟩ => ⟨x :: xs, H2, I2, .cons r1 r2, q2⟩

/-- a tuple, a list of written items -/
noncomputable def tTup (t : TA) : TE := fun σ H Q => t σ H fun xs H1 => xs.length ≤ sizeLine ∧ ∀ p, H1 p = none → Q (.ref p) (upd H1 p (.tup xs))
noncomputable def tLst (t : TA) : TE := fun σ H Q => t σ H fun xs H1 => xs.length ≤ sizeLine ∧ ∀ p, H1 p = none → Q (.ref p) (upd H1 p (.lst xs))
end

/-! ### what a def promises -/
/-- a def's promise: the bound arguments in the parameters' order, the heap, the wanted end, the wanted exception -/
noncomputable abbrev Sp := List V → Hp → VK → XK → Prop
/-- how an exception lies behind a call (file 08 gives it): the callers' frames, abstract heap and state ahead of the call, the wish, the exception, the state -/
noncomputable abbrev CXT := List Env → Hp → Shared → XK → Value → Shared → Prop

/-- the state at a call -/
structure Env0 (P : Program) (w : World) (K : PySem.W.Frag) (mg : Str → Option Value) (base : Heap) (A : Around) (outer : List Env) (s : Shared) (H : Hp) : Prop where
  frames : A.frames = some outer
  mod : Mod K mg base
  bs : ∀ b o, base.get? b = some o → s.heap.get? b = some o ∧ H b = none
  bsz : base.objs.size ≤ s.heap.objs.size
  funs : s.heap.FunFrames base outer
  frf : ∀ b ∈ frs outer, H b = none
  hok : HOk P w H s.heap
  bare : AllBare s.gens
/-- a call's end -/
noncomputable def CE (outer : List Env) (P : Program) (w : World) (H : Hp) (s : Shared) (Q : VK) (u : Value) (s' : Shared) : Prop :=
  ∃ v H', s'.os = s.os ∧ AllBare s'.gens ∧ Un (frs outer) [] H H' s.heap s'.heap ∧ HOk P w H' s'.heap ∧ RelV v u ∧ Q v H'
noncomputable def CR (CX : CXT) (outer : List Env) (P : Program) (w : World) (H : Hp) (s : Shared) (Q : VK) (E : XK) (r : Result) (s' : Shared) : Prop :=
  match r with
  | .ok (.ret u) => CE outer P w H s Q u s'
  | .ok _ => False
  | .error e => CX outer H s E e s'
structure FnOk (P : Program) (w : World) (K : PySem.W.Frag) (mg : Str → Option Value) (base : Heap) (CX : CXT) (k : Nat) (f : Addr) (fd : FuncData) (ps : List Str) (sp : Sp) : Prop where
  len : ∀ vs H Q E, sp vs H Q E → vs.length = ps.length
  run : ∀ (A : Around) (outer : List Env) (s : Shared) (H : Hp) (args : Args) (us : List Value) (vs : List V) (Q : VK) (E : XK), Room k A → Env0 P w K mg base A outer s H → BindsTo s fd args (ps.zip us) → Vals vs us → sp vs H Q E →
    codeAny (model P w) A (.call (.ref f) args) (CR CX outer P w H s Q E) s












section
variable {X : Cx} {pins : List (Addr × Obj)} {σ : St} {H : Hp} {s s' : Shared}
/-- from a body: what a callee wants -/
theorem Inv.env0 (I : Inv X pins σ H s) : Env0 X.prog X.w X.K X.mg X.base X.A X.stack s H :=
  ⟨I.ok.frames, I.ok.mod, I.bs, Nat.le_trans I.ok.bsz I.sz, I.stack, I.stkFree, I.hok, I.bare⟩
/-- behind a call -/
theorem Inv.after {Q : VK} {u : Value} (I : Inv X pins σ H s) (h : CE X.stack X.prog X.w H s Q u s') : EP X pins σ Q u s' := by
  obtain ⟨v, H', os, bare, un, hok, r, q⟩ := h
  obtain ⟨hh, g, d, t, os'⟩ := s'
  obtain rfl : os' = s.os := os
  exact ⟨v, H', I.call (h' := hh) (g' := g) (d' := d) (t' := t) (ch := []) un hok bare (fun b z => absurd z (by simp)), r, q⟩
end

/-! ### calls -/
/-- f(..): the written arguments, then the defaults dvs; E: what is wanted of an exception -/
noncomputable def tCall (sp : Sp) (dvs : List V) (E : XK) (t : TA) : TE := fun σ H Q => t σ H fun vs H1 => sp (vs ++ dvs) H1 Q E
/-- how the parameters are bound: us the positional arguments, kw the keywords' values by name, ds the defaults that fill up -/
noncomputable def Binds (K : PySem.W.Frag) (fd : FuncData) (ps : List Str) (ds : List Value) : Prop :=
  ∀ (s : Shared) (us : List Value), K.In s.heap → (us ++ ds).length = ps.length → BindsTo s fd ⟨us, []⟩ (ps.zip (us ++ ds))
/-- every parameter is given -/
theorem Binds.all {K : PySem.W.Frag} {fd : FuncData} {ps : List Str} (h : ∀ us : List Value, us.length = ps.length → bindArgs fd ⟨us, []⟩ = pure (ps.zip us)) : Binds K fd ps [] := fun s us _ hl => by
  rw [List.append_nil] at hl ⊢
  exact .of_eq (h us hl)

/-- an exception of a callee reaches what this body wants of exceptions -/
noncomputable def Passes (CX : CXT) (X : Cx) (E : XK) : Prop := ∀ (pins : List (Addr × Obj)) (σ : St) (H : Hp) (s : Shared) (e : Value) (s' : Shared), Inv X pins σ H s → CX X.stack H s E e s' → X.xe e s'

section
variable {X : Cx} {CX : CXT} {k : Nat} {f C : Addr} {fd : FuncData} {ps : List Str} {sp : Sp} {dvs : List V} {ds : List Value} {E : XK} {x m : Str} {p pos apos : Pos} {e o : Expr} {es : List Expr} {ta : TE} {t : TA}

/-- the callee runs -/
theorem run_fn {pins : List (Addr × Obj)} {σ : St} {H : Hp} {s : Shared} {Q : VK} {us : List Value} {vs : List V} (F : FnOk X.prog X.w X.K X.mg X.base CX k f fd ps sp) (hr : Room k X.A) (hb : Binds X.K fd ps ds) (hd : Vals dvs ds) (hx : Passes CX X E)
    (I : Inv X pins σ H s) (r : Vals vs us) (h : sp (vs ++ dvs) H Q E) : wpAny (model X.prog X.w) X.A (call (.ref f) us) (EP X pins σ Q) X.xe s := by
  have r2 : Vals (vs ++ dvs) (us ++ ds) := r.append hd
  have hl : (us ++ ds).length = ps.length := by rw [← r2.length]; exact F.len _ _ _ _ h
  refine wpAny_call (codeAny_mono (F.run X.A X.stack s H ⟨us, []⟩ (us ++ ds) (vs ++ dvs) Q E hr I.env0 (hb s us I.kIn hl) r2 h) fun r s' hq => ?_)
  cases r with
  | error e => exact hx pins σ H s e s' I hq
  | ok fl =>
    cases fl with
    | ret u => exact I.after hq
    | next => exact False.elim hq
    | brk => exact False.elim hq
    | cont => exact False.elim hq

theorem pe_call (F : FnOk X.prog X.w X.K X.mg X.base CX k f fd ps sp) (hr : Room k X.A) (hg : Gl X x) (hm : X.mg x = some (.ref f)) (hk : PySem.W.keepIn X.K (.ref f) = true) (hb : Binds X.K fd ps ds) (hd : Vals dvs ds) (hx : Passes CX X E)
    (ha : PA X (e :: es) t) (hdb : (x == ("__debug__" : Str)) = false := by decide) (he : starEach (e :: es) X.env = (false, eval e X.env) :: starEach es X.env := by rfl) (hpl : (backTo pos (starEach es X.env)).any (·.1) = false := by rfl) :
    PE X (.Call (.Name x p) (e :: es) [] pos) (tCall sp dvs E t) := by
  intro pins s σ H Q I h
  refine wpAny_Call_Name_kw (ld_glob I hg hm ?_ hdb)
  refine PySem.W.callWith_K (h₀ := X.base) I.ok.mod.kin hk (thn (ha pos pins s σ H _ I h) fun us s1 ⟨vs, H1, I1, r, q⟩ => ⟨I1.kIn, ?_⟩) he hpl
  exact run_fn F hr hb hd hx I1 r q







end

/-! ### keywords -/
section
variable {X : Cx} {CX : CXT} {k : Nat} {f C : Addr} {fd : FuncData} {ps ks : List Str} {sp : Sp} {E : XK} {x m : Str} {p pos apos kpos : Pos} {e o : Expr} {es : List Expr} {kws : List Keyword} {te ta : TE} {t tk : TA} {nm : Option Str}




variable {g : List Value → List Value → List Value} {gV : List V → List V → List V}
end

/-! ### a def's body keeps its promise -/
/-- names: the parameters first -/
structure FnScope (N P : List Str) (sc : Scope) : Prop where
  kind : sc.kind = .function
  co : sc.isCoroutine = false
  gen : sc.isGenerator = false
  nd : N.Nodup
  pre : N.take P.length = P
  par : ∀ x ∈ P, sc.names.lookup x = some .local ∨ sc.names.lookup x = some .cell
  nofree : ∀ y ∈ sc.names, y.2 ≠ .free

theorem bindL_out {kindOf : Str → Option NameKind} {x : Str} : ∀ {binds : List (Str × Value)} {m : Str → Option Value}, (∀ v, (x, v) ∉ binds) → bindL kindOf binds m x = m x
  | [], _, _ => rfl
  | (n, v) :: r, m, h => by
    unfold bindL
    rw [bindL_out fun w hw => h w (List.mem_cons_of_mem _ hw)]
    split
    · have : x ≠ n := by rintro rfl; exact h v List.mem_cons_self
      simp [this]
    · rfl
theorem bindC_out {kindOf : Str → Option NameKind} {x : Str} : ∀ {binds : List (Str × Value)} {m : Str → Option Value}, (∀ v, (x, v) ∉ binds) → bindC kindOf binds m x = m x
  | [], _, _ => rfl
  | (n, v) :: r, m, h => by
    unfold bindC
    rw [bindC_out fun w hw => h w (List.mem_cons_of_mem _ hw)]
    split
    · rfl
    · have : x ≠ n := by rintro rfl; exact h v List.mem_cons_self
      simp [this]
theorem bindL_get {kindOf : Str → Option NameKind} {x : Str} {v : Value} : ∀ {P : List Str} {vs : List Value} {i : Nat} {m : Str → Option Value}, P.Nodup → P[i]? = some x → vs[i]? = some v → kindOf x = some .local →
    bindL kindOf (P.zip vs) m x = some v
  | [], _, _, _, _, h, _, _ => by simp at h
  | _ :: _, [], _, _, _, _, h, _ => by simp at h
  | p :: P, w :: vs, 0, m, nd, h1, h2, hk => by
    simp at h1 h2; subst h1; subst h2
    show bindL kindOf ((p, w) :: P.zip vs) m p = _
    unfold bindL
    rw [bindL_out fun v hv => (List.nodup_cons.mp nd).1 (List.of_mem_zip hv).1, if_pos hk]
    simp
  | p :: P, w :: vs, i + 1, m, nd, h1, h2, hk => by
    show bindL kindOf ((p, w) :: P.zip vs) m x = _
    unfold bindL
    exact bindL_get (i := i) (List.nodup_cons.mp nd).2 (by simpa using h1) (by simpa using h2) hk
theorem bindC_get {kindOf : Str → Option NameKind} {x : Str} {v : Value} : ∀ {P : List Str} {vs : List Value} {i : Nat} {m : Str → Option Value}, P.Nodup → P[i]? = some x → vs[i]? = some v → kindOf x ≠ some .local →
    bindC kindOf (P.zip vs) m x = some v
  | [], _, _, _, _, h, _, _ => by simp at h
  | _ :: _, [], _, _, _, _, h, _ => by simp at h
  | p :: P, w :: vs, 0, m, nd, h1, h2, hk => by
    simp at h1 h2; subst h1; subst h2
    show bindC kindOf ((p, w) :: P.zip vs) m p = _
    unfold bindC
    rw [bindC_out fun v hv => (List.nodup_cons.mp nd).1 (List.of_mem_zip hv).1, if_neg hk]
    simp
  | p :: P, w :: vs, i + 1, m, nd, h1, h2, hk => by
    show bindC kindOf ((p, w) :: P.zip vs) m x = _
    unfold bindC
    exact bindC_get (i := i) (List.nodup_cons.mp nd).2 (by simpa using h1) (by simpa using h2) hk

/-- the names' values at the entry -/
noncomputable def start (N : List Str) (vs : List V) : St := vs.map some ++ List.replicate (N.length - vs.length) none

/-- the context of a def's body, at its entry; an exception leaves the frame, then lies as CX says -/
noncomputable def cxOf (CX : CXT) (P : Program) (w : World) (K : PySem.W.Frag) (mg : Str → Option Value) (base : Heap) (N : List Str) (qual : Str) (scope : Scope) (f : Addr) (cd : Value) (A : Around) (outer : List Env) (s : Shared) (H : Hp) (E : XK) : Cx where
  prog := P
  w := w
  K := K
  mg := mg
  base := base
  A := A.deeper (envOfC qual scope s.heap.objs.size f cd)
  N := N
  s₀ := s
  H₀ := H
  env := envOfC qual scope s.heap.objs.size f cd
  outer := outer
  stack := envOfC qual scope s.heap.objs.size f cd :: outer
  ex := []
  calm := true
  fn := fun _ => true
  pn := []
  xe := fun e s' => wpAny (model P w) (A.deeper (envOfC qual scope s.heap.objs.size f cd)) (leaving (envOfC qual scope s.heap.objs.size f cd) e) (fun _ s'' => CX outer H s E e s'') (fun e' s'' => CX outer H s E e' s'') s'

theorem cell_has {sc : Scope} {n : Nat} {x : Str} (h : sc.names.lookup x = some .cell) : ∃ c, (cellsFrom n sc.names []).lookup x = some c := by
  have q := PySem.W.cellsFrom_some sc.names n [] (.inl h)
  exact Option.isSome_iff_exists.mp q

theorem inv_start {CX : CXT} {P : Program} {w : World} {K : PySem.W.Frag} {mg : Str → Option Value} {base : Heap} {N ps : List Str} {qual : Str} {scope : Scope} {f : Addr} {cd : Value} {A : Around} {outer : List Env} {s s1 : Shared} {H : Hp} {E : XK} {us : List Value} {vs : List V}
    (S : FnScope N ps scope) (hd : A.handled = none) (e0 : Env0 P w K mg base A outer s H) (hl : vs.length = ps.length) (r : Vals vs us)
    (x : InCallC s s.heap.objs.size (bindL (envOfC qual scope s.heap.objs.size f cd).kindOf (ps.zip us) fun _ => none) (cellsFrom (s.heap.objs.size + 1) scope.names []) (bindC (envOfC qual scope s.heap.objs.size f cd).kindOf (ps.zip us) fun _ => none) s1) :
    Inv (cxOf CX P w K mg base N qual scope f cd A outer s H E) [] (start N vs) H s1 := by
  have hpl : ps.length ≤ N.length := by have := congrArg List.length S.pre; rw [List.length_take] at this; omega
  obtain ⟨h1, tk, rfl, hk⟩ := x.done
  have noA : ∀ b : Addr, b ∉ (cxOf CX P w K mg base N qual scope f cd A outer s H E).ex := fun b z => absurd (show b ∈ ([] : List Addr) from z) (by simp)
  refine ⟨⟨e0.mod, S.kind, rfl, rfl, Nat.le_refl _, fun y z c h1 h2 => ?_, fun y hy => ?_, fun y c _ h => ?_, fun _ => hd, Around.frames_deeper e0.frames, .inr ⟨rfl, rfl⟩, fun b z => absurd z (noA b), e0.bs, e0.bsz, fun b _ _ => noA b, fun b z => absurd z (noA b), e0.funs, e0.frf⟩,
    rfl, e0.bare, Un.kept hk, ⟨_, x.toInCall.ns, fun i y v h1 h2 h3 => ?_⟩, fun y c h => ⟨_, x.cell y c h⟩, e0.hok.fresh (Nat.le_refl _), fun y c h => ?_, fun p hp => absurd (show p ∈ ([] : List (Addr × Obj)) from hp) (by simp), e0.hok.kept hk, ?_⟩
  · exact name_of_addr x.apart (PySem.mem_of_lookup h1) (PySem.mem_of_lookup h2)
  · have hy : scope.names.lookup y = some .cell ∨ scope.names.lookup y = some .free := hy
    rcases hy with hy | hy
    · exact cell_has hy
    · exact absurd rfl (S.nofree _ (PySem.mem_of_lookup hy))
  · exact Nat.le_of_lt (x.above y c (PySem.mem_of_lookup h))
  · have hi : i < vs.length := by
      unfold start at h2
      by_cases hi : i < vs.length
      · exact hi
      · rw [List.getElem?_append_right (by simpa using hi)] at h2
        rw [List.getElem?_replicate] at h2
        split at h2 <;> cases h2
    have ha : vs[i]? = some v := by
      unfold start at h2
      rw [List.getElem?_append_left (by simpa using hi), List.getElem?_map] at h2
      cases e : vs[i]? with
      | none => rw [e] at h2; cases h2
      | some a => rw [e] at h2; cases h2; rfl
    obtain ⟨u, hu, rv⟩ := r.get ha
    have hp : ps[i]? = some y := by
      rw [← S.pre, List.getElem?_take_of_lt (by omega)]; exact h1
    have ndP : ps.Nodup := by rw [← S.pre]; exact S.nd.sublist (List.take_sublist _ _)
    refine ⟨u, rv, ?_⟩
    rcases S.par y (List.mem_of_getElem? hp) with k | k
    · exact .inl ⟨k, bindL_get ndP hp hu k⟩
    · obtain ⟨c, e⟩ := cell_has (n := s.heap.objs.size + 1) k
      refine .inr ⟨.inl k, c, e, ?_⟩
      have q := x.cell y c e
      rw [bindC_get ndP hp hu (by show scope.names.lookup y ≠ _; rw [k]; decide)] at q
      exact q
  · exact e0.hok.fresh (Nat.le_of_lt (x.above y c (PySem.mem_of_lookup h)))
  · unfold start
    show _ = N.length
    rw [List.length_append, List.length_map, List.length_replicate]
    omega

/-- THE RULE: a def (or a method) of the text, by its body. The body's reading t is chosen for each entry; it is run at the parameters' values -/
theorem fn_of {CX : CXT} {P : Program} {w : World} {K : PySem.W.Frag} {mg : Str → Option Value} {base : Heap} {k : Nat} {f : Addr} {name qual : Str} {params : Arguments} {body : List Stmt} {scope : Scope} {dV kV doc pm cdv ct oc : Value} {an od : Option Addr}
    {osl : Array (Option Value)} {N ps : List Str} {sp : Sp} (lk : K.lookup f = some ⟨oc, od, .func (PySem.W.fnOf name qual params body scope dV kV doc pm an cdv ct), osl⟩) (hcd : PySem.W.codeIn K cdv qual = true) (S : FnScope N ps scope)
    (len : ∀ vs H Q E, sp vs H Q E → vs.length = ps.length)
    (hbody : ∀ (A : Around) (outer : List Env) (s : Shared) (H : Hp) (vs : List V) (Q : VK) (E : XK), Room k (A.deeper (envOfC qual scope s.heap.objs.size f cdv)) → sp vs H Q E →
      ∃ t, PSs (cxOf CX P w K mg base N qual scope f cdv A outer s H E) body t ∧ t { nx := fun _ H' => Q .non H', rt := Q } (start N vs) H) :
    FnOk P w K mg base CX (k + 1) f (PySem.W.fnOf name qual params body scope dV kV doc pm an cdv ct) ps sp := by
  refine ⟨len, fun A outer s H args us vs Q E hr e0 hb r hsp => ?_⟩
  have hl := len _ _ _ _ hsp
  have KX : K.In s.heap := e0.mod.kin.keeps fun b o e => (e0.bs b o e).1
  have lim : s.heap.NoLimit := e0.mod.nolimit.keeps fun b o e => (e0.bs b o e).1
  have hkind : ∀ y ∈ ps.zip us, scope.names.lookup y.1 = some .local ∨ (scope.names.lookup y.1 = some .cell ∧ ((cellsFrom (s.heap.objs.size + 1) scope.names []).lookup y.1).isSome = true) := fun ⟨n, v⟩ hy => by
    rcases S.par n (List.of_mem_zip hy).1 with q | q
    · exact .inl q
    · exact .inr ⟨q, PySem.W.cellsFrom_some _ _ _ (.inl q)⟩
  refine codeAny_call_function hr.depth (KX _ _ lk) rfl S.co S.gen rfl (PySem.W.codeRec_of KX hcd) (hb _ _ _ _ ?_)
  refine wpAny_newFunctionEnv_cells S.kind hkind fun env he s1 x => ?_
  subst he
  refine ⟨lim.keeps x.toInCall.keep, codeAny_func ?_⟩
  obtain ⟨t, ht, hq⟩ := hbody A outer s H vs Q E (hr.deeper _) hsp
  have I : Inv (cxOf CX P w K mg base N qual scope f cdv A outer s H E) [] (start N vs) H s1 := inv_start S hr.hd e0 hl r x
  refine wpAny_mono (ht [] s1 (start N vs) H _ I hq) (fun fl s' hs => ?_) fun e s' hs => hs
  have fin : ∀ {σ' : St} {H' : Hp} {v : V} {u : Value}, Inv (cxOf CX P w K mg base N qual scope f cdv A outer s H E) [] σ' H' s' → RelV v u → Q v H' → CE outer P w H s Q u s' :=
    fun {σ' H' v u} J rv q => ⟨v, H', J.os, J.bare, J.base, J.hok, rv, q⟩
  cases fl with
  | ret u =>
    obtain ⟨v, σ', H', J, rv, q⟩ := hs
    exact fin J rv q
  | next =>
    obtain ⟨σ', H', J, q⟩ := hs
    exact fin (v := V.non) (u := Value.none) J rfl q
  | brk =>
    obtain ⟨_, _, _, q⟩ := hs
    exact False.elim q
  | cont =>
    obtain ⟨_, _, _, q⟩ := hs
    exact False.elim q
end L2

namespace L2
open PySem PySem.Spec PyProof.Rows
section
variable {X : Cx} {x : Str} {p pos : Pos} {e : Expr} {es : List Expr} {t : TA} {id T : String} {r : List V → Hp → VK → Prop}

noncomputable def tCB (r : List V → Hp → VK → Prop) (t : TA) : TE := fun σ H Q => t σ H fun vs H1 => r vs H1 Q
/-- f(e, ..), f a built-in function -/
theorem pe_callB (hc : CallR X (.builtin id) r) (hg : Gl X x) (hm : X.mg x = none) (hv : bootBuiltins x = some (.builtin id)) (ha : PA X (e :: es) t) (hn : x ≠ "__name__" := by decide) (hdb : (x == ("__debug__" : Str)) = false := by decide)
    (he : starEach (e :: es) X.env = (false, eval e X.env) :: starEach es X.env := by rfl) (hpl : (backTo pos (starEach es X.env)).any (·.1) = false := by rfl) : PE X (.Call (.Name x p) (e :: es) [] pos) (tCB r t) := by
  intro pins s σ H Q I h
  refine wpAny_Call_Name_kw (ld_blt I hg hm hv ?_ hn hdb)
  exact PyProof.Rows.callWith_builtin1 (thn (ha pos pins s σ H _ I h) fun us s1 ⟨vs, H1, I1, r1, q1⟩ => hc pins s1 σ H1 vs us Q I1 r1 q1) he hpl
/-- T(e, ..), T a built-in type -/
theorem pe_callTy (hc : CallR X (.type T) r) (hg : Gl X x) (hm : X.mg x = none) (hv : bootBuiltins x = some (.type T)) (ha : PA X (e :: es) t) (hn : x ≠ "__name__" := by decide) (hdb : (x == ("__debug__" : Str)) = false := by decide)
    (he : starEach (e :: es) X.env = (false, eval e X.env) :: starEach es X.env := by rfl) (hpl : (backTo pos (starEach es X.env)).any (·.1) = false := by rfl) : PE X (.Call (.Name x p) (e :: es) [] pos) (tCB r t) := by
  intro pins s σ H Q I h
  refine wpAny_Call_Name_kw (ld_blt I hg hm hv ?_ hn hdb)
  exact PyProof.Rows.callWith_type1 (thn (ha pos pins s σ H _ I h) fun us s1 ⟨vs, H1, I1, r1, q1⟩ => hc pins s1 σ H1 vs us Q I1 r1 q1) he hpl
end
end L2

namespace HT
open PySem PyProof.Rows

/-- t < u of tuples of ints -/
noncomputable def lexLt : List Int → List Int → Bool
  | [], [] => false
  | [], _ :: _ => true
  | _ :: _, [] => false
  | x :: xs, y :: ys => if x = y then lexLt xs ys else decide (x < y)
section
open PySem.SeqAt
open PySem.AutoSeq1 (wpAny_loadPart')
open PySem.MeetsSeq PySem.MeetsSeq2 PySem.MeetsSeq3

end

section
variable {prog : Program} {w : World} {A : Around} {E : Value → Shared → Prop} {s : Shared}

/-! ### t[a:b], not the whole -/
/-- a slice's bound as a place among n (d where it is left out) -/
noncomputable def sIx (n d : Nat) : Option Int → Nat
  | none => d
  | some v => if v < 0 then (v + (n : Int)).toNat else min v.toNat n
theorem sIx_none (n d : Nat) : sIx n d none = d := rfl
theorem sIx_nat (n d k : Nat) : sIx n d (some (k : Int)) = min k n := by
  show (if (k : Int) < 0 then ((k : Int) + (n : Int)).toNat else min (k : Int).toNat n) = min k n
  rw [if_neg (by omega), Int.toNat_natCast]
theorem sIx_le (n d : Nat) (hd : d ≤ n) (o : Option Int) : sIx n d o ≤ n := by
  cases o with
  | none => exact hd
  | some v =>
    show (if v < 0 then (v + (n : Int)).toNat else min v.toNat n) ≤ n
    by_cases hv : v < 0
    · rw [if_pos hv]; omega
    · rw [if_neg hv]; exact Nat.min_le_right _ _
theorem clip_eq (v : Int) (n d : Nat) : (if v < 0 then max (v + (n : Int)) 0 else min v (n : Int)) = ((sIx n d (some v) : Nat) : Int) := by
  show (if v < 0 then max (v + (n : Int)) 0 else min v (n : Int)) = (((if v < 0 then (v + (n : Int)).toNat else min v.toNat n) : Nat) : Int)
  by_cases hv : v < 0
  · simp only [if_pos hv]; omega
  · simp only [if_neg hv]; omega
theorem adjust_gen (lo hi : Option Int) (n : Nat) : Builtin.Slice.sliceAdjust lo hi 1 (n : Int) = (((sIx n 0 lo : Nat) : Int), ((sIx n n hi : Nat) : Int)) := by
  have h1 : ¬ ((1 : Int) < 0) := by omega
  unfold Builtin.Slice.sliceAdjust
  simp only [h1, if_false]
  refine Prod.ext ?_ ?_
  · cases lo with
    | none => rfl
    | some v => exact clip_eq v n 0
  · cases hi with
    | none => rfl
    | some v => exact clip_eq v n n
theorem places_gen (i j : Nat) : Builtin.Slice.slicePlaces (i : Int) (j : Int) 1 = j - i := by
  unfold Builtin.Slice.slicePlaces
  have h1 : (1 : Int) > 0 := by omega
  simp only [h1, if_true, Int.ediv_one]
  split <;> omega
theorem slicePart_ {v : Value} {o : Option Int} {Q : Option Int → Shared → Prop} (p : IsPart v o) (h : Q o s) : wpAny (model prog w) A (Builtin.Slice.slicePartIndex v) Q E s := by
  cases p with
  | none => exact slicePart_none h
  | int i t => exact slicePart_int h
theorem sliceApplied_gen {sl : Addr} {vl vu : Value} {lo hi : Option Int} {n : Nat} {Q : Int × Int × Nat → Shared → Prop} (hs : s.heap.IsSliceOf sl vl vu .none) (pl : IsPart vl lo) (pu : IsPart vu hi)
    (h : Q (((sIx n 0 lo : Nat) : Int), 1, sIx n n hi - sIx n 0 lo) s) : wpAny (model prog w) A (Builtin.Slice.sliceApplied (.ref sl) (pure (n : Int))) Q E s := by
  obtain ⟨os, hos, hcs, hds⟩ := id hs
  unfold Builtin.Slice.sliceApplied Builtin.Slice.sliceFields
  refine wpAny_bind (wpAny_bind (wpAny_field hos hds (x := vl) rfl (wpAny_bind (wpAny_field hos hds (x := vu) rfl (wpAny_bind (wpAny_field hos hds (x := .none) rfl (wpAny_pure ?_)))))))
  refine wpAny_bind (slicePart_none ?_)
  show wpAny _ _ (if ((1 : Int) == 0) = true then _ else _) _ _ s
  rw [if_neg (by decide)]
  refine wpAny_bind (slicePart_ pl (wpAny_bind (slicePart_ pu (wpAny_bind (wpAny_pure ?_)))))
  show wpAny _ _ (match Builtin.Slice.sliceAdjust lo hi 1 (n : Int) with | (lo, hi) => pure (lo, (1 : Int), Builtin.Slice.slicePlaces lo hi 1)) _ _ s
  rw [adjust_gen lo hi n]
  show wpAny _ _ (pure (((sIx n 0 lo : Nat) : Int), (1 : Int), Builtin.Slice.slicePlaces ((sIx n 0 lo : Nat) : Int) ((sIx n n hi : Nat) : Int) 1)) _ _ s
  rw [places_gen]
  exact wpAny_pure h
theorem pick_gen (xs : Array Value) (i k : Nat) : ((List.range k).filterMap fun (m : Nat) => xs[((i : Int) + (m : Int) * 1).toNat]?).toArray = ((xs.toList.drop i).take k).toArray := by
  have e : (fun (m : Nat) => xs[((i : Int) + (m : Int) * 1).toNat]?) = fun m => xs[i + m]? := by
    funext m
    have : ((i : Int) + (m : Int) * 1).toNat = i + m := by omega
    rw [this]
  rw [e]
  have := pick_run xs i k
  rw [List.filterMap_map] at this
  have e2 : ((fun x => xs[x]?) ∘ fun x => i + x) = fun m => xs[i + m]? := rfl
  rw [e2] at this
  rw [this]

theorem getItem_tuple_cut {t sl : Addr} {items : Array Value} {vl vu : Value} {lo hi : Option Int} {Q : Value → Shared → Prop} (ht : IsTup s.heap t items) (hs : s.heap.IsSliceOf sl vl vu .none) (pl : IsPart vl lo) (pu : IsPart vu hi)
    (hw : ¬ (sIx items.size 0 lo = 0 ∧ sIx items.size items.size hi = items.size))
    (h : Q (.ref s.heap.objs.size) { s with heap := s.heap.push { cls := .type "tuple", data := .seq ((items.toList.drop (sIx items.size 0 lo)).take (sIx items.size items.size hi - sIx items.size 0 lo)).toArray } })
    (hsz : items.size ≤ sizeLine) : wpAny (model prog w) A (getItem (.ref t) (.ref sl)) Q E s := by
  have htake : sizeOk (.seq ((items.toList.drop (sIx items.size 0 lo)).take (sIx items.size items.size hi - sIx items.size 0 lo)).toArray) := by
    show ((items.toList.drop (sIx items.size 0 lo)).take (sIx items.size items.size hi - sIx items.size 0 lo)).toArray.size ≤ sizeLine
    rw [List.size_toArray, List.length_take, List.length_drop, Array.length_toList]
    omega
  have hj : sIx items.size items.size hi ≤ items.size := sIx_le _ _ (Nat.le_refl _) hi
  obtain ⟨os, hos, hcs, hds⟩ := id hs
  have hTs : s.TypeIs (.ref sl) "slice" := ⟨os, hos, hcs⟩
  unfold getItem
  try with_reducible refine wpAny_holding ?_
  first | refine wpAny_bind (wpAny_pure ?_) | skip
  refine wpAny_bind (wpAny_sequenceKey ht.typeIs (by decide) ?_)
  refine wpAny_bind (wpAny_callSpecial?_slot (name := Str.ofString "__getitem__") ht.typeIs PyProof.Rows.slot_tuple_getitem
    (wpAny_call_entry PyProof.Rows.slot_tuple_getitem ht.typeIs entry_tuple_getitem ?_ (args_tuple_getitem _ _)))
  show wpAny _ _ (Builtin.Tuple.tupleItemsOf (.ref t) >>= _) _ _ s
  refine wpAny_bind (tupleItemsOf_ ht ?_)
  refine wpAny_bind (wpAny_typeOf hTs ?_)
  rw [if_pos (by decide)]
  refine wpAny_bind (sliceApplied_gen hs pl pu ?_)
  have hno : ¬ ((((sIx items.size 0 lo : Nat) : Int) == 0 && (1 : Int) == 1 && (sIx items.size items.size hi - sIx items.size 0 lo) == items.size) = true) := by
    intro q
    rw [Bool.and_eq_true, Bool.and_eq_true] at q
    have q1 : ((sIx items.size 0 lo : Nat) : Int) = 0 := eq_of_beq q.1.1
    have q2 : sIx items.size items.size hi - sIx items.size 0 lo = items.size := eq_of_beq q.2
    exact hw ⟨by omega, by omega⟩
  show wpAny _ _ (if (((sIx items.size 0 lo : Nat) : Int) == 0 && (1 : Int) == 1 && (sIx items.size items.size hi - sIx items.size 0 lo) == items.size) = true then _ else _) _ _ s
  rw [if_neg hno, pick_gen]
  first
    | exact wpAny_bind (m := Builtin.Tuple.tupleExact _) (wpAny_newObj_type (wpAny_pure ⟨_, rfl, wpAny_pure h⟩) htake)
    | exact wpAny_bind (m := Builtin.Tuple.tupleExact _) (wpAny_newObj_type (wpAny_bind (wpAny_pure (wpAny_pure ⟨_, rfl, wpAny_pure h⟩))) htake)
    | exact wpAny_bind (wpAny_bind (m := Builtin.Tuple.tupleExact _) (wpAny_newObj_type (wpAny_pure (wpAny_pure ⟨_, rfl, wpAny_pure h⟩)) htake))
    | exact wpAny_bind (wpAny_bind (m := Builtin.Tuple.tupleExact _) (wpAny_newObj_type (wpAny_pure ⟨_, rfl, wpAny_pure h⟩) htake))
end
end HT

namespace L2
open PySem PySem.Spec PyProof.Rows

/-! ### the parts of a slice -/
noncomputable abbrev TO := St → Hp → (Option Int → Hp → Prop) → Prop
/-- a slice's part (left out, or an int) -/
noncomputable def PO (X : Cx) (e : Option Expr) (t : TO) : Prop :=
  ∀ (pins : List (Addr × Obj)) (s : Shared) (σ : St) (H : Hp) (Q : Option Int → Hp → Prop), Inv X pins σ H s → t σ H Q →
    wpAny (model X.prog X.w) X.A (evalPart e X.env) (fun u s' => ∃ o H', Inv X pins σ H' s' ∧ IsPart u o ∧ Q o H') X.xe s
noncomputable def tNoPart : TO := fun _ H Q => Q none H
noncomputable def tPart (t : TE) : TO := fun σ H Q => t σ H fun x H1 => ∃ i, x = .int i ∧ Q (some i) H1

section
variable {X : Cx} {e : Expr} {te : TE} {lo hi : Option Expr} {tl th : TO} {pos p2 : Pos}

theorem po_none : PO X none tNoPart := by
  intro pins s σ H Q I h
  rw [evalPart_none]
  exact wpAny_pure ⟨none, H, I, .none, h⟩
theorem po_some (h : PE X e te) : PO X (some e) (tPart te) := by
  intro pins s σ H Q I hw
  rw [evalPart_some]
  refine thn (h pins s σ H _ I hw) fun u s1 ⟨x, H1, I1, r1, q1⟩ => ?_
  obtain ⟨i, rfl, q⟩ := q1
  obtain ⟨t, rfl⟩ := r1
  exact ⟨some i, H1, I1, .int i t, q⟩

/-- what a slice of a value is, by values: the slice object stands at sl -/
noncomputable def SlR (X : Cx) (r : V → Option Int → Option Int → Hp → VK → Prop) : Prop :=
  ∀ (pins : List (Addr × Obj)) (s : Shared) (σ : St) (H : Hp) (x : V) (v vl vu : Value) (lo hi : Option Int) (sl : Addr) (Q : VK), Inv X pins σ H s → RelV x v → s.heap.IsSliceOf sl vl vu .none → IsPart vl lo → IsPart vu hi → r x lo hi H Q →
    ∃ T id, typeLookup (.type T) "__getitem__" = pure (some (.builtin id)) ∧ s.TypeIs v T ∧ wpAny (model X.prog X.w) X.A (getItem v (.ref sl)) (EP X pins σ Q) X.xe s





noncomputable def tSl (r : V → Option Int → Option Int → Hp → VK → Prop) (te : TE) (tl th : TO) : TE := fun σ H Q => te σ H fun x H1 => tl σ H1 fun l H2 => th σ H2 fun u H3 => r x l u H3 Q
/-- a[lo:hi], any a -/
theorem pe_slice {r : V → Option Int → Option Int → Hp → VK → Prop} (hr : SlR X r) (he : PE X e te) (hl : PO X lo tl) (hu : PO X hi th) : PE X (.Subscript e (.Slice lo hi none p2) pos) (tSl r te tl th) := by
  intro pins s σ H Q I h
  refine Subscript_ (thn (he pins s σ H _ I h) fun v s1 ⟨x, H1, I1, r1, q1⟩ => ?_)
  refine wpAny_Slice (thn (hl pins s1 σ H1 _ I1 q1) fun vl s2 ⟨l, H2, I2, pl, q2⟩ => thn (hu pins s2 σ H2 _ I2 q2) fun vu s3 ⟨u, H3, I3, pu, q3⟩ => ?_)
  rw [evalPart_none]
  refine wpAny_pure ?_
  have I4 : Inv X pins σ H3 { s3 with heap := s3.heap.push { cls := .type "slice", data := .fields #[vl, vu, .none] } } := I3.kept (t' := s3.toks) fun b ob q => Heap.get?_push_of_some _ q
  obtain ⟨T, id, hT, ht, hg⟩ := hr pins { s3 with heap := s3.heap.push { cls := .type "slice", data := .fields #[vl, vu, .none] } } σ H3 x v vl vu l u s3.heap.objs.size Q I4 r1 (Heap.IsSliceOf.new ..) pl pu q3
  show wpAny (model X.prog X.w) X.A (subscriptTail e (.Slice lo hi none p2) v (.ref s3.heap.objs.size)) (EP X pins σ Q) X.xe { s3 with heap := s3.heap.push { cls := .type "slice", data := .fields #[vl, vu, .none] } }
  exact tail_any (ops := [.ref s3.heap.objs.size, v]) ht hT hg (by with_unfolding_all rfl)

/-- the items of xs[lo:hi] -/
noncomputable def cutV (xs : List V) (lo hi : Option Int) : List V := (xs.drop (HT.sIx xs.length 0 lo)).take (HT.sIx xs.length xs.length hi - HT.sIx xs.length 0 lo)
theorem cutV_length (xs : List V) (lo hi : Option Int) : (cutV xs lo hi).length ≤ xs.length := by
  unfold cutV
  rw [List.length_take, List.length_drop]
  omega
/-- t[lo:hi], not the whole of it (the whole would be t itself) -/
noncomputable def rSlT (K : PySem.W.Frag) : V → Option Int → Option Int → Hp → VK → Prop := fun x lo hi H Q => ∃ a xs, x = .ref a ∧ SqT K H a xs ∧
  ¬ (HT.sIx xs.length 0 lo = 0 ∧ HT.sIx xs.length xs.length hi = xs.length) ∧ ∀ p, H p = none → Q (.ref p) (upd H p (.tup (cutV xs lo hi)))
theorem sl_tup : SlR X (rSlT X.K) := by
  intro pins s σ H x v vl vu lo hi sl Q I rx hs pl pu h
  obtain ⟨a, xs, rfl, hx, hw, q⟩ := h
  cases rx
  obtain ⟨its, r, ht, hz⟩ := I.tuple hx
  have hlen : its.toArray.size = xs.length := by rw [List.size_toArray]; exact r.length.symm
  refine ⟨"tuple", _, PyProof.Rows.slot_tuple_getitem.lookup, ht.typeIs, ?_⟩
  refine HT.getItem_tuple_cut ht hs pl pu (by rw [hlen]; exact hw) ?_ (by rw [hlen]; exact hz)
  rw [hlen]
  refine ⟨.ref s.heap.objs.size, _, I.laid (t' := s.toks) (o := .tup (cutV xs lo hi)) (fun b ob q => Heap.get?_push_of_some _ q) (Nat.le_refl _) ?_, rfl, q _ (I.hok.fresh (Nat.le_refl _))⟩
  exact ⟨Nat.le_trans (cutV_length xs lo hi) hz, _, (r.drop (HT.sIx xs.length 0 lo)).take (HT.sIx xs.length xs.length hi - HT.sIx xs.length 0 lo), IsTup.new _ _⟩

/-! ### t < u, t + u -/
noncomputable def rLtT (K : PySem.W.Frag) : R2 := fun x y H Q => ∃ a b ns ms, x = .ref a ∧ y = .ref b ∧ SqT K H a (ns.map V.int) ∧ SqT K H b (ms.map V.int) ∧ Q (.bl (HT.lexLt ns ms)) H
end
end L2

namespace L2
open PySem PySem.Spec PyProof.Rows

/-! ### places -/
/-- the place that an index of any sign means -/
noncomputable def ixN (n : Nat) (i : Int) : Option Nat := if 0 ≤ i then (if i < n then some i.toNat else none) else if -(n : Int) ≤ i then some (i + n).toNat else none
noncomputable def atI {α : Type} (xs : List α) (i : Int) : Option α := (ixN xs.length i).bind fun j => xs[j]?
theorem ixN_seq {n : Nat} {i : Int} {j : Nat} (h : ixN n i = some j) : seqIndex? i n = some j ∧ j < n ∧ -(n : Int) ≤ i ∧ i < n := by
  unfold ixN at h
  by_cases h0 : 0 ≤ i
  · rw [if_pos h0] at h
    by_cases h1 : i < n
    · rw [if_pos h1] at h
      have e : i.toNat = j := Option.some.inj h
      exact ⟨by rw [seqIndex_of h0 h1, e], by omega, by omega, h1⟩
    · rw [if_neg h1] at h; cases h
  · rw [if_neg h0] at h
    by_cases h1 : -(n : Int) ≤ i
    · rw [if_pos h1] at h
      have e : (i + n).toNat = j := Option.some.inj h
      exact ⟨by rw [seqIndex_neg (by omega) h1, e], by omega, h1, by omega⟩
    · rw [if_neg h1] at h; cases h
theorem atI_get {α : Type} {xs : List α} {i : Int} {v : α} (h : atI xs i = some v) : ∃ j, seqIndex? i xs.length = some j ∧ xs[j]? = some v ∧ j < xs.length ∧ -(xs.length : Int) ≤ i ∧ i < xs.length := by
  unfold atI at h
  cases e : ixN xs.length i with
  | none => rw [e] at h; cases h
  | some j =>
    rw [e] at h
    obtain ⟨h1, h2, h3, h4⟩ := ixN_seq e
    exact ⟨j, h1, h, h2, h3, h4⟩
theorem atI_nat {α : Type} {xs : List α} {j : Nat} {v : α} (h : xs[j]? = some v) : atI xs (j : Int) = some v := by
  have hj : j < xs.length := (List.getElem?_eq_some_iff.mp h).1
  have e : ixN xs.length (j : Int) = some j := by
    unfold ixN
    rw [if_pos (by omega), if_pos (by omega)]; simp
  unfold atI; rw [e]; exact h
theorem atI_last {α : Type} (xs : List α) (v : α) : atI (xs ++ [v]) (-1) = some v := by
  have hl : (xs ++ [v]).length = xs.length + 1 := by simp
  have e : ixN (xs ++ [v]).length (-1) = some xs.length := by
    unfold ixN
    rw [hl, if_neg (by decide), if_pos (by omega)]
    congr 1
    omega
  unfold atI
  rw [e]
  show (xs ++ [v])[xs.length]? = some v
  simp

/-! ### what may be subscripted -/
/-- what stands as an index of a plain subscript -/
noncomputable def PlainIx (b : Expr) : Prop := ∀ o i, subscripted b false o i = operate [o, i] (getItem o i)
/-- a subscript by values -/
noncomputable def IxR (X : Cx) (r : R2) : Prop :=
  ∀ (value slice : Expr) (pins : List (Addr × Obj)) (s : Shared) (σ : St) (H : Hp) (x y : V) (v u : Value) (Q : VK), Inv X pins σ H s → RelV x v → RelV y u → r x y H Q →
    subscripted slice false v u = operate [v, u] (getItem v u) → wpAny (model X.prog X.w) X.A (subscriptTail value slice v u) (EP X pins σ Q) X.xe s
/-- a call of a builtin's method by values: the receiver, the arguments -/
noncomputable def MtR (X : Cx) (id : String) (r : V → List V → Hp → VK → Prop) : Prop :=
  ∀ (pins : List (Addr × Obj)) (s : Shared) (σ : St) (H : Hp) (x : V) (xs : List V) (v : Value) (us : List Value) (Q : VK), Inv X pins σ H s → RelV x v → Vals xs us → r x xs H Q →
    wpAny (model X.prog X.w) X.A (call (.builtin id) (v :: us)) (EP X pins σ Q) X.xe s
section
variable {X : Cx} {a b : Expr} {ta tb : TE} {pos : Pos}










/-- a[b] -/
theorem pe_ix {r : R2} (hr : IxR X r) (ha : PE X a ta) (hb : PE X b tb) (hs : PlainIx b) : PE X (.Subscript a b pos) (tOp r ta tb) := by
  intro pins s σ H Q I h
  exact Subscript_ (binT ha hb I h fun v u s2 x y H2 I2 rx ry q => hr a b pins s2 σ H2 x y v u Q I2 rx ry q (hs _ _))

noncomputable def rIxL (K : PySem.W.Frag) : R2 := fun x y H Q => ∃ p xs i v, x = .ref p ∧ y = .int i ∧ SqL K H p xs ∧ atI xs i = some v ∧ Q v H
noncomputable def rIxT (K : PySem.W.Frag) : R2 := fun x y H Q => ∃ p xs i v, x = .ref p ∧ y = .int i ∧ SqT K H p xs ∧ atI xs i = some v ∧ Q v H
theorem ix_list : IxR X (rIxL X.K) := by
  intro value slice pins s σ H x y v u Q I rx ry h hs
  obtain ⟨p, xs, i, z, rfl, rfl, hq, he, q⟩ := h
  cases rx
  obtain ⟨t, rfl⟩ := ry
  obtain ⟨its, r, pl, hz⟩ := I.list hq
  obtain ⟨j, h1, h2, h3, h4, h5⟩ := atI_get he
  obtain ⟨w, ew, rw'⟩ := r.get h2
  have hl := r.length
  have hn := line63
  have fin : EP X pins σ Q w s := ⟨z, H, I, rw', q⟩
  by_cases h0 : 0 ≤ i
  · have hj : i.toNat = j := by
      rw [seqIndex_of h0 h5] at h1
      exact Option.some.inj h1
    exact item_listR pl.isList h0 (by omega) (by rw [hj]; simpa using ew) fin hs
  · have hj : (i + (its.toArray.size : Int)).toNat = j := by
      rw [seqIndex_neg (by omega) h4] at h1
      rw [List.size_toArray, ← hl]
      exact Option.some.inj h1
    exact subscriptTail_builtinR (x := w) pl.isList.typeIs slot_list_getitem.lookup
      (wpAny_getItem_list_neg (Q := fun r s' => r = w ∧ EP X pins σ Q r s') pl.isList (by omega) (by rw [List.size_toArray] <;> omega) (by omega) (by rw [hj]; simpa using ew) ⟨rfl, fin⟩) hs
theorem ix_tup : IxR X (rIxT X.K) := by
  intro value slice pins s σ H x y v u Q I rx ry h hs
  obtain ⟨p, xs, i, z, rfl, rfl, hq, he, q⟩ := h
  cases rx
  obtain ⟨t, rfl⟩ := ry
  obtain ⟨its, r, pl, hz⟩ := I.tuple hq
  obtain ⟨j, h1, h2, h3, h4, h5⟩ := atI_get he
  obtain ⟨w, ew, rw'⟩ := r.get h2
  have hl := r.length
  have hn := line63
  have fin : EP X pins σ Q w s := ⟨z, H, I, rw', q⟩
  exact subscriptTail_builtinR (x := w) pl.typeIs slot_tuple_getitem.lookup
    (getItem_tuple (j := j) (Q := fun r s' => r = w ∧ EP X pins σ Q r s') pl (by omega) (by omega) (by rw [List.size_toArray, ← hl]; exact h1) (by simpa using ew) ⟨rfl, fin⟩) hs
/-! ### xs[i] = v, any sign -/




/-! ### slices -/
/-! ### in, not in: flat items -/
noncomputable def flatV : V → Bool
  | .non => true
  | .bl _ => true
  | .int _ => true
  | .str _ => true
  | _ => false
/-- == of flat values -/
noncomputable def eqV : V → V → Bool
  | .non, .non => true
  | .bl a, .bl b => a == b
  | .bl a, .int b => (if a then 1 else 0) == b
  | .int a, .bl b => a == (if b then 1 else 0)
  | .int a, .int b => a == b
  | .str a, .str b => a == b
  | _, _ => false
theorem eqAt_V {A : Around} {s : Shared} {y x : V} {u v : Value} (ry : RelV y u) (rx : RelV x v) (fy : flatV y = true) (fx : flatV x = true) : SeqAt.EqAt A s u v (eqV y x) := by
  cases y with
  | non =>
    cases ry
    cases x with
    | non => cases rx; exact SeqAt.EqAt.same _
    | bl b => cases rx; exact SeqAt.EqAt.none_bool b
    | int b => obtain ⟨t, rfl⟩ := rx; exact SeqAt.EqAt.none_int b t
    | str b => obtain ⟨t, rfl⟩ := rx; exact SeqAt.EqAt.none_str b t
    | _ => exact absurd (show false = true from fx) Bool.false_ne_true
  | bl a =>
    cases ry
    cases x with
    | non => cases rx; exact SeqAt.EqAt.bool_none a
    | bl b => cases rx; exact SeqAt.EqAt.bool_bool a b
    | int b => obtain ⟨t, rfl⟩ := rx; exact SeqAt.EqAt.bool_int a b t
    | str b => obtain ⟨t, rfl⟩ := rx; exact SeqAt.EqAt.bool_str a b t
    | _ => exact absurd (show false = true from fx) Bool.false_ne_true
  | int a =>
    obtain ⟨t', rfl⟩ := ry
    cases x with
    | non => cases rx; exact SeqAt.EqAt.int_none a t'
    | bl b => cases rx; exact SeqAt.EqAt.int_bool a t' b
    | int b => obtain ⟨t, rfl⟩ := rx; exact SeqAt.EqAt.int_int a t' b t
    | str b => obtain ⟨t, rfl⟩ := rx; exact SeqAt.EqAt.int_str a t' b t
    | _ => exact absurd (show false = true from fx) Bool.false_ne_true
  | str a =>
    obtain ⟨t', rfl⟩ := ry
    cases x with
    | non => cases rx; exact SeqAt.EqAt.str_none a t'
    | bl b => cases rx; exact SeqAt.EqAt.str_bool a t' b
    | int b => obtain ⟨t, rfl⟩ := rx; exact SeqAt.EqAt.str_int a t' b t
    | str b => obtain ⟨t, rfl⟩ := rx; exact SeqAt.EqAt.str_str a t' b t
    | _ => exact absurd (show false = true from fx) Bool.false_ne_true
  | _ => exact absurd (show false = true from fy) Bool.false_ne_true
noncomputable def inV (x : V) (xs : List V) : Bool := xs.any fun y => eqV y x
/-- x in a list or tuple of flat items -/
noncomputable def rIn (K : PySem.W.Frag) (neg : Bool) : R2 := fun x y H Q => ∃ p xs, y = .ref p ∧ (SqL K H p xs ∨ SqT K H p xs) ∧ flatV x = true ∧ xs.all flatV = true ∧ Q (.bl (if neg then !inV x xs else inV x xs)) H
/-! ### len, list(x), tuple(x) of any list or tuple that is read -/
theorem call_len_seq : CallR X (.builtin "len") (fun xs H Q => ∃ p ys, xs = [.ref p] ∧ (SqL X.K H p ys ∨ SqT X.K H p ys) ∧ Q (.int ys.length) H) := by
  intro pins s σ H xs us Q I r h
  obtain ⟨p, ys, rfl, hq, q⟩ := h
  obtain ⟨u, rfl, rx⟩ := vals1 r
  cases rx
  have hn := line63
  rcases hq with hq | hq
  · obtain ⟨its, r', pl, hz⟩ := I.list hq
    have hlen := r'.length
    exact Calls.call_len_list pl.isList (by simp only [List.size_toArray] <;> omega) ⟨.int ys.length, H, I.tok _, ⟨s.toks + 1, by rw [List.size_toArray, hlen]⟩, q⟩
  · obtain ⟨its, r', pl, hz⟩ := I.tuple hq
    have hlen := r'.length
    exact len_tuple pl (by simp only [List.size_toArray] <;> omega) ⟨.int ys.length, H, I.tok _, ⟨s.toks + 1, by rw [List.size_toArray, hlen]⟩, q⟩





theorem call_tuple_of : CallR X (.type "tuple") (fun xs H Q => ∃ p ys, xs = [.ref p] ∧ ((SqL X.K H p ys ∧ ∀ l, H l = none → Q (.ref l) (upd H l (.tup ys))) ∨ (SqT X.K H p ys ∧ Q (.ref p) H))) := by
  intro pins s σ H xs us Q I r h
  obtain ⟨p, ys, rfl, h⟩ := h
  obtain ⟨u, rfl, rx⟩ := vals1 r
  cases rx
  rcases h with ⟨hq, q⟩ | ⟨hq, q⟩
  · obtain ⟨its, r', pl, hz⟩ := I.list hq
    have hlen := r'.length
    refine call_tuple_list pl.isList (fun h' kp => ?_) (by simp only [List.size_toArray] <;> omega)
    have I1 : Inv X pins σ H { s with heap := h' } := I.kept (t' := s.toks) kp
    have I2 : Inv X pins σ (upd H h'.objs.size (.tup ys)) { s with heap := h'.push { cls := .type "tuple", data := .seq its.toArray } } :=
      I1.laid (t' := s.toks) (fun b o e => Heap.get?_push_of_some _ e) (Nat.le_refl _) (show ObjOk X.prog X.w _ _ _ (.tup ys) from ⟨hz, its, r', IsTup.new _ _⟩)
    exact ⟨.ref h'.objs.size, _, I2, rfl, q _ (I1.hok.fresh (Nat.le_refl _))⟩
  · obtain ⟨its, r', pl, hz⟩ := I.tuple hq
    exact call_tuple_same pl ⟨.ref p, H, I, rfl, q⟩

/-! ### the call of a builtin's method: o.m(..) -/
/-- the value is of that builtin type -/
noncomputable def tyV (K : PySem.W.Frag) (T : String) (x : V) (H : Hp) : Prop := match x with
  | .str _ => T = "str"
  | .int _ => T = "int"
  | .ref p => (T = "list" ∧ ∃ xs, SqL K H p xs) ∨ (T = "tuple" ∧ ∃ o, K.lookup p = some o ∧ o.cls = .type "tuple" ∧ o.dict = none) ∨
      (T = "dict" ∧ ((∃ kvs, H p = some (.dK kvs)) ∨ ∃ kvs, H p = some (.dT kvs))) ∨ (T = "set" ∧ ∃ S n, H p = some (.set S n))
  | _ => False
theorem tyV_is {pins : List (Addr × Obj)} {σ : St} {H : Hp} {s : Shared} {T : String} {x : V} {v : Value} (I : Inv X pins σ H s) (r : RelV x v) (ty : tyV X.K T x H) :
    s.TypeIs v T ∧ ∀ a, v = .ref a → ∃ ob, s.heap.get? a = some ob ∧ ob.dict = none := by
  cases x with
  | str z =>
    obtain ⟨t, rfl⟩ := r
    cases (show T = "str" from ty)
    exact ⟨typeIs_str s z t, fun _ e => nomatch e⟩
  | int i =>
    obtain ⟨t, rfl⟩ := r
    cases (show T = "int" from ty)
    exact ⟨typeIs_int s i t, fun _ e => nomatch e⟩
  | ref p =>
    cases r
    rcases ty with ⟨rfl, xs, hq⟩ | ⟨rfl, o, hk, hc, hd⟩ | ⟨rfl, hk⟩ | ⟨rfl, S, n, hk⟩
    · obtain ⟨its, _, pl, _⟩ := I.list hq
      refine ⟨pl.isList.typeIs, fun a e => ?_⟩
      cases e
      obtain ⟨o, n, e, c, hd, _⟩ := pl
      exact ⟨o, e, hd⟩
    · refine ⟨⟨o, I.kIn p o hk, hc⟩, fun a e => ?_⟩
      cases e
      exact ⟨o, I.kIn _ o hk, hd⟩
    · have z : ∃ o, s.heap.get? p = some o ∧ o.ExactDict := by
        rcases hk with ⟨kvs, hk⟩ | ⟨kvs, hk⟩
        · obtain ⟨_, _, _, _, o, _, _, e, ex, _⟩ := I.hok p _ hk
          exact ⟨o, e, ex⟩
        · obtain ⟨_, _, _, _, o, _, _, e, ex, _⟩ := I.hok p _ hk
          exact ⟨o, e, ex⟩
      obtain ⟨o, e, ex⟩ := z
      refine ⟨⟨o, e, ex.1⟩, fun a e2 => ?_⟩
      cases e2
      exact ⟨o, e, ex.2.1⟩
    · obtain ⟨o, _, _, _, e, ex, _⟩ := I.hok p _ hk
      refine ⟨⟨o, e, ex.1⟩, fun a e2 => ?_⟩
      cases e2
      exact ⟨o, e, ex.2.1⟩
  | _ => exact False.elim ty
noncomputable def tBM0 (K : PySem.W.Frag) (T : String) (r : V → List V → Hp → VK → Prop) (to : TE) : TE := fun σ H Q => to σ H fun x H1 => tyV K T x H1 ∧ r x [] H1 Q
noncomputable def tBM (K : PySem.W.Frag) (T : String) (r : V → List V → Hp → VK → Prop) (to : TE) (t : TA) : TE := fun σ H Q => to σ H fun x H1 => tyV K T x H1 ∧ t σ H1 fun xs H2 => r x xs H2 Q
variable {o e : Expr} {es : List Expr} {to : TE} {t : TA} {name : Str} {apos cpos : Pos} {T id : String} {r : V → List V → Hp → VK → Prop}
theorem pe_bm0 (pa : PlainAttrs T) (slot : Slot T name id) (hty : typeOf (.builtin id) = pure (.type "method_descriptor")) (hm : MtR X id r) (ho : PE X o to)
    (hbase : attributeBase o name X.env (eval o X.env) = eval o X.env := by rfl) (hline : (apos.endLine == cpos.line) = true := by rfl) : PE X (.Call (.Attribute o name apos) [] [] cpos) (tBM0 X.K T r to) := by
  intro pins s σ H Q I h
  refine wpAny_Call_method0_late hbase hline (thn (ho pins s σ H _ I h) fun v s1 ⟨x, H1, I1, r1, ty, q1⟩ => ?_)
  obtain ⟨h1, h2⟩ := tyV_is I1 r1 ty
  exact ⟨T, id, pa, slot, hty, h1, h2, Calls.callWith_builtin rfl (PySem.evalArgs_none (hm pins s1 σ H1 x [] v [] Q I1 r1 .nil q1))⟩
theorem pe_bm (pa : PlainAttrs T) (slot : Slot T name id) (hty : typeOf (.builtin id) = pure (.type "method_descriptor")) (hm : MtR X id r) (ho : PE X o to) (ha : PA X (e :: es) t)
    (hbase : attributeBase o name X.env (eval o X.env) = eval o X.env := by rfl)
    (hfew : ((backTo cpos (starEach (e :: es) X.env)).all (fun x => !x.1) && (backToKw cpos (keywordEach [] X.env)).all (fun x => x.1.isSome)
      && decide ((e :: es).length + ([] : List Keyword).length + (if ([] : List Keyword).isEmpty then 0 else 1) < 30)) = true := by rfl)
    (hline : (apos.endLine == cpos.line) = true := by rfl) (hs : starEach (e :: es) X.env = (false, eval e X.env) :: starEach es X.env := by rfl) (hplain : (backTo cpos (starEach es X.env)).any (·.1) = false := by rfl) :
    PE X (.Call (.Attribute o name apos) (e :: es) [] cpos) (tBM X.K T r to t) := by
  intro pins s σ H Q I h
  refine wpAny_Call_method_late hbase hfew hline rfl (thn (ho pins s σ H _ I h) fun v s1 ⟨x, H1, I1, r1, ty, q1⟩ => ?_)
  obtain ⟨h1, h2⟩ := tyV_is I1 r1 ty
  refine ⟨T, id, pa, slot, hty, h1, h2, ?_⟩
  have hA := ha cpos pins s1 σ H1 _ I1 q1
  rw [hs] at hA ⊢
  refine Calls.callWith_builtin (by show (false || (backTo cpos (starEach es X.env)).any (·.1)) = false; rw [hplain] <;> rfl) (Calls.evalArgs_plain ?_)
  exact thn hA fun us s2 ⟨vs, H2, I2, r2, q2⟩ => hm pins s2 σ H2 x vs v us Q I2 r1 r2 q2
/- xs.append(e), list.index on a module's tuple .. are MtR facts of 06m -/
end
end L2

namespace L2
open PySem PySem.Spec PyProof.Rows

noncomputable def MtM (X : Cx) (id : String) (r : V → List V → Hp → VK → Prop) : Prop :=
  ∀ (pins : List (Addr × Obj)) (s : Shared) (σ : St) (H : Hp) (x : V) (xs : List V) (v : Value) (us : List Value) (Q : VK), Inv X pins σ H s → RelV x v → Vals xs us → r x xs H Q →
    wpAny (model X.prog X.w) X.A (call (.builtin id) (v :: us)) (EP X pins σ Q) X.xe s

/-! ### lists of values -/
theorem Vals.one : ∀ {x : V} {us : List Value}, Vals [x] us → ∃ u, us = [u] ∧ RelV x u
  | _, _, .cons r .nil => ⟨_, rfl, r⟩















section
variable {X : Cx} {pins : List (Addr × Obj)} {σ : St} {H : Hp} {s : Shared} {l b : Addr} {xs ys zs : List V}

/-! ### the two steps: a tracked list is rewritten, a new list is laid -/
theorem Inv.lset {its its' : List Value} {n : Nat} {f : Array Value → Array Value} {t' : Nat} (I : Inv X pins σ H s) (hH : H l = some (.lst xs))
    (e : s.heap.get? l = some { cls := .type "list", data := .seq its.toArray n }) (hf : f its.toArray = its'.toArray) (hv : Vals ys its') (hz : ys.length ≤ sizeLine) :
    Inv X pins σ (upd H l (.lst ys)) { s with heap := s.heap.update l (Obj.mapSeq f), toks := t' } := by
  have q := PySem.IsL.update e f
  rw [hf] at q
  refine I.write (x := l) (e := l) (by rw [hH]; exact trivial) (.inl rfl) (fun b' u hb hu => (Heap.get?_update_other s.heap (Obj.mapSeq f) (Ne.symm hb)).trans hu) ⟨_, q⟩ ?_
  exact ⟨hz, its', _, hv, q⟩

theorem Inv.lstM (I : Inv X pins σ H s) (hH : H l = some (.lst xs)) : xs.length ≤ sizeLine ∧ ∃ (its : List Value) (n : Nat), Vals xs its ∧ xs.length = its.length ∧ s.heap.get? l = some { cls := .type "list", data := .seq its.toArray n } := by
  obtain ⟨z, its, n, r, e⟩ := I.hok l _ hH
  exact ⟨z, its, n, r, r.length, e⟩

end

section
variable {X : Cx}

/-! ### methods -/
noncomputable def rAppend : V → List V → Hp → VK → Prop := fun x vs H Q => ∃ l xs y, x = .ref l ∧ vs = [y] ∧ H l = some (.lst xs) ∧ xs.length < sizeLine ∧ Q .non (upd H l (.lst (xs ++ [y])))
theorem mt_append : MtM X "list.append" rAppend := by
  intro pins s σ H x vs v us Q I rx rv h
  obtain ⟨l, xs, y, rfl, rfl, hH, hz, q⟩ := h
  cases rx
  obtain ⟨u, rfl, ru⟩ := rv.one
  obtain ⟨z, its, n, r, hl, e⟩ := I.lstM hH
  refine call_meets F.slot_list_append ⟨_, e, rfl⟩ F.entry_list_append (F.args_list_append_2 _ _) (PySem.list_append l its.toArray n u (by rw [List.size_toArray]; omega)) ⟨e, ?_⟩
  refine ⟨.non, _, I.lset (its' := its ++ [u]) hH e (by simp) (r.append (.cons ru .nil)) ?_, rfl, q⟩
  rw [List.length_append, List.length_singleton]
  omega

/-! ### list + list, list += list, list * int -/
/-! ### del xs[i] -/
end

/-! ### xs[a:b] = ys -/
section
variable {prog : Program} {w : World} {A : Around} {E : Value → Shared → Prop} {s : Shared}
end

section
variable {X : Cx}
end
end L2

namespace Att
open PySem PySem.W PySem.Calls PyProof.Rows

/-! ### the script -/
theorem ints_of_wellAll {P : Params} {h : Heap} : ∀ (ns : List Int) (vs : List Value), WellAll P h vs (ns.map WData.int) → IntsAre vs ns := by
  intro ns
  induction ns with
  | nil =>
    intro vs w
    rw [List.map_nil] at w
    cases w
    exact .nil
  | cons n ns ih =>
    intro vs w
    rw [List.map_cons] at w
    cases w with
    | cons a b =>
      cases a
      exact .cons _ _ (ih _ b)

theorem script_of {l : OpenLaw} {n : Nat} (hn : l.most = some n) {P : Params} {h : Heap} {args : List WData} {vals : List Value}
    (hpre : l.row.toRowW.claim.pre args = true) (hwl : WellAll P h vals args) :
    ∃ a vs ns, vals = [Value.ref a] ∧ args = [WData.list (ns.map WData.int)] ∧ h.get? a = some { cls := .type "list", data := .seq vs.toArray } ∧ IntsAre vs ns ∧ ns.length ≤ n := by
  have hsh : WShape.hasAll [] args [.list .int] = true := (pre_splitW hpre).1
  have hc : l.pre.holds [] { args := args } = true := (pre_splitW hpre).2
  obtain ⟨d, r, rfl, h1, h2⟩ := hasAllW_cons hsh
  obtain rfl := hasAllW_nil h2
  obtain ⟨xs, rfl, h3⟩ := hasW_list h1
  obtain ⟨ns, rfl⟩ := items_int h3
  have hlen : ns.length ≤ n := by
    unfold OpenLaw.pre at hc
    have h4 : (WTm.not (.lt (.lit (.int (n : Int))) (.len (.arg 0)))).holds [] { args := [.list (ns.map .int)] } = true := by
      have h4 := (holds_andW hc).1
      rw [hn] at h4
      exact h4
    have h5 := condW_of h4 (w_not (w_lt w_lit (w_len_list (w_arg rfl))))
    rw [List.length_map] at h5
    refine Nat.le_of_not_lt fun q => ?_
    have q' : (n : Int) < ((ns.length : Nat) : Int) := by omega
    first
      | (rw [decide_eq_true q'] at h5; exact absurd h5 (by decide))
      | (simp at h5; omega)
  cases hwl with
  | cons w1 w2 =>
    cases w2
    cases w1 with
    | list ho hall => exact ⟨_, _, ns, rfl, rfl, ho, ints_of_wellAll ns _ hall, hlen⟩

theorem post_true (l : OpenLaw) (args : List WData) : l.row.toRowW.claim.post args (.bool true) args = true :=
  postW_of (r := l.row.toRowW) (X := (true == true))
    (show WShape.has [] (.bool true) .bool = true by first | rfl | decide | simp [WShape.has, WShape.arms, WShape.armsAll])
    (show (WTm.eq .res (.lit (.bool true))).value [] { args := args, res := some (.bool true), after := args } = some (.bool (true == true)) from w_eq_bool (w_res rfl) w_lit) rfl

/-! ### the attachment: holds_open's last premise (the goal 'hc' behind k_head) from a wpAny of the law's body -/
/-- the same from a codeAny of the CALL (for a layer whose function contracts speak of calls) -/
theorem attach_call {l : OpenLaw} {n : Nat} {q : Program} {loose : List Str} {XP : (Str → Option Value) → Heap → Prop} {YP : World → Heap → Prop} {d : DefRec}
    (hn : l.most = some n) (hdf : d.params.defaults = [])
    (call : ∀ (w : World) (s₀ s₁ : Shared) (mg mb : Str → Option Value) (fa : Addr) (o : Obj) (pm cd doc : Value) (a : Addr) (vs : List Value) (ns : List Int),
      Ground q loose [] XP w s₀ mg mb s₁.heap → YP w s₁.heap →
      s₁.heap.get? fa = some o → o.data = .func (docDef d.name d.params d.body d.scope pm cd doc) → s₁.heap.CodeRec cd d.name → mg d.name = some (.ref fa) →
      s₁.heap.get? a = some { cls := .type "list", data := .seq vs.toArray } → IntsAre vs ns → ns.length ≤ n → s₁.gens = #[] →
      codeAny (model l.prog w) callerA (.call (.ref fa) ⟨[.ref a], []⟩) (fun r s' => r = .ok (.ret (.bool true)) ∧ OldK s₁.heap s'.heap ∧ s'.os = s₁.os ∧ AllBare s'.gens) s₁) :
    WalkO q loose XP YP l.row.toRowW d [] (fun f vs => PySem.call f vs) := by
  intro w s₀ s₁ mg mb G Y fa o pm cd doc dV kV ho hd hcd hD hmg hg args vals as hpre hlay hrd hwl hlo
  obtain rfl : dV = .none := Dflts.none hD hdf
  obtain rfl : kV = .none := Dflts.noKw hD
  obtain ⟨a, vs, ns, rfl, rfl, hobj, hints, hlen⟩ := script_of hn hpre hwl
  refine enter_call (codeAny_mono (call w s₀ s₁ mg mb fa o pm cd doc a vs ns G Y ho (fd_plain hd) hcd hmg hobj hints hlen hg) fun r s' hq => ?_)
  obtain ⟨rfl, h2, h3, h4⟩ := hq
  exact ⟨.inl ⟨.bool true, .bool true, [], rfl, fun _ => rfl, .bool true, post_true l _, fun _ => ⟨List.Pairwise.nil, fun _ hm => (nomatch hm)⟩⟩, h2, h3, h4⟩

/-! ### rules over ANY heap (no ledger) from facts about the written part K: the library's own take a ledger (News) for what they write -/
section
variable {prog : Program} {w : World} {A : Around} {E : Value → Shared → Prop} {s : Shared} {K : Frag}

/-! the whole heap as the ledger: makes every rule that writes through a ledger a rule over any heap -/
noncomputable def ledger (h : Heap) (L d : Addr) : List (Addr × Obj) := (List.range h.objs.size).filterMap fun a => if a = L ∨ a = d then none else (h.get? a).map fun o => (a, o)
end
end Att

namespace L2
open PySem PySem.Spec PyProof.Rows

theorem vals_ints : ∀ {vs : List Value} {ns : List Int}, IntsAre vs ns → Vals (ns.map V.int) vs
  | _, _, .nil => .nil
  | _, _, .cons n t h => .cons ⟨t, rfl⟩ (vals_ints h)

/-- nothing is tracked but the script, known to the object (or it is an object of the module) -/
noncomputable def Only (H : Hp) : Prop := ∀ b, H b = none ∨ ∃ o xs, H b = some (.frz o (.lst xs))

/-- THE HEAD: the law's promise, at the heap behind the top. F, the promise of the law's def, may use that base is part of the heap (so K.In base, base.Ns mainGlobals mg stand in Mod) -/
theorem law_call {P : Program} {w : World} {K : PySem.W.Frag} {mg mb : Str → Option Value} {CX : CXT} {k : Nat} {fa a : Addr} {fd : FuncData} {x : Str} {sp : Sp} {s₁ : Shared} {vs : List Value} {ns : List Int}
    (KX : K.In s₁.heap) (hns : s₁.heap.Ns mainGlobals mg) (hb : s₁.heap.Ns builtinsNs mb) (hbb : ∀ x : Str, x ≠ "__name__" → mb x = bootBuiltins x) (hlim : s₁.heap.NoLimit) (hg : s₁.gens = #[])
    (ha : s₁.heap.get? a = some { cls := .type "list", data := .seq vs.toArray }) (hi : IntsAre vs ns) (hl : ns.length ≤ sizeLine) (hr : Room k callerA)
    (F : ∀ base : Heap, K.In base → base.Ns mainGlobals mg → FnOk P w K mg base CX k fa fd [x] sp) (hbind : ∀ (s : Shared) (u : Value), BindsTo s fd ⟨[u], []⟩ [(x, u)])
    (hsp : ∀ H : Hp, Only H → SqL K H a (ns.map V.int) → sp [.ref a] H (fun v _ => v = .bl true) fun _ _ _ => False)
    (hCX : ∀ H e s', CX [] H s₁ (fun _ _ _ => False) e s' → False) :
    codeAny (model P w) callerA (.call (.ref fa) ⟨[.ref a], []⟩) (fun r s' => r = .ok (.ret (.bool true)) ∧ OldK s₁.heap s'.heap ∧ s'.os = s₁.os ∧ AllBare s'.gens) s₁ := by
  have rv := vals_ints hi
  have lenV := hi.length
  -- from an abstract heap in which nothing but the script may be tracked
  have core : ∀ H : Hp, Only H → SqL K H a (ns.map V.int) → HOk P w H s₁.heap → (∀ b, H b ≠ none → b = a) → (H a ≠ none → K.lookup a = none) →
      codeAny (model P w) callerA (.call (.ref fa) ⟨[.ref a], []⟩) (fun r s' => r = .ok (.ret (.bool true)) ∧ OldK s₁.heap s'.heap ∧ s'.os = s₁.os ∧ AllBare s'.gens) s₁ := by
    intro H hO hS hok hA hK
    have base_of : ∀ {b : Addr} {o : Obj}, s₁.heap.get? b = some o → H b = none → (hidT s₁.heap H).get? b = some o := fun e n => hidT_get e n
    have noA : ∀ {b : Addr} {o : Obj} {es : Array DictEntry} {ep : Nat}, s₁.heap.get? b = some o → o.data = .dict es ep → H b = none := fun {b o es ep} e d => by
      cases q : H b with
      | none => rfl
      | some u =>
        have e' : b = a := hA b (by rw [q]; simp)
        subst e'
        rw [ha] at e; cases e
        have d' : Data.seq vs.toArray _ = Data.dict es ep := d
        cases d'
    have nsK : ∀ {b : Addr} {m : Str → Option Value}, s₁.heap.Ns b m → (hidT s₁.heap H).Ns b m := fun {b m} ⟨o, es, ep, e, d, r⟩ => ⟨o, es, ep, base_of e (noA e d), d, r⟩
    have hKb : K.In (hidT s₁.heap H) := fun b o e => base_of (KX b o e) (by
      cases q : H b with
      | none => rfl
      | some u =>
        have e' : b = a := hA b (by rw [q]; simp)
        subst e'
        rw [hK (by rw [q]; simp)] at e; cases e)
    have hM : Mod K mg (hidT s₁.heap H) := ⟨hKb, nsK hns, ⟨mb, nsK hb, hbb⟩, let ⟨mc, h1, h2⟩ := hlim; ⟨mc, nsK h1, h2⟩⟩
    have e0 : Env0 P w K mg (hidT s₁.heap H) callerA [] s₁ H := ⟨rfl, hM, fun b o e => of_hidT e, Nat.le_of_eq (hidT_size _ _), trivial, fun b hb => absurd (show b ∈ ([] : List Addr) from hb) (by simp), hok, .of_eq hg⟩
    refine codeAny_mono ((F _ hKb (nsK hns)).run callerA [] s₁ H ⟨[.ref a], []⟩ [.ref a] [.ref a] _ _ hr e0 (hbind s₁ (.ref a)) (.cons rfl .nil) (hsp H hO hS)) fun r s' h => ?_
    cases r with
    | error e => exact (hCX H e s' h).elim
    | ok fl =>
      cases fl with
      | next => exact False.elim h
      | brk => exact False.elim h
      | cont => exact False.elim h
      | ret u =>
        obtain ⟨v, H', os, bare, un, hok', r', q⟩ := h
        have q' : v = .bl true := q
        subst q'
        obtain rfl : u = Value.bool true := r'
        refine ⟨rfl, OldK.of_keep fun b o e => ?_, os, bare⟩
        cases q : H b with
        | none => exact un.keep b o e q (by intro z; exact absurd (show b ∈ ([] : List Addr) from z) (by simp)) (by simp)
        | some u =>
          rcases hO b with z | ⟨ob, xs, z⟩
          · rw [q] at z; cases z
          · have z2 := un.frzs b ob _ z
            obtain ⟨e1, _⟩ := hok b _ z
            obtain ⟨e2, _⟩ := hok' b _ z2
            rw [e] at e1; cases e1
            exact e2
  cases hk : K.lookup a with
  | some o =>
    -- the script is one of the module's own objects
    have e := KX a o hk
    rw [ha] at e
    cases e
    refine core (fun _ => none) (fun _ => .inl rfl) (.inr ⟨_, vs.toArray, _, hk, rfl, rfl, rfl, by rw [List.size_toArray, lenV]; exact hl, by simpa using rv⟩) (fun b u z => by have z' : (none : Option HO) = some u := z; cases z') (fun b z => absurd rfl z) fun z => absurd rfl z
  | none =>
    refine core (fun b => if b = a then some (.frz { cls := .type "list", data := .seq vs.toArray } (.lst (ns.map V.int))) else none) (fun b => ?_) (.inl (.inr ⟨{ cls := .type "list", data := .seq vs.toArray }, if_pos rfl⟩)) (fun b u z => ?_) (fun b z => ?_) fun _ => hk
    · by_cases hb : b = a
      · exact .inr ⟨_, _, if_pos hb⟩
      · exact .inl (if_neg hb)
    · by_cases hb : b = a
      · have z' := (if_pos hb).symm.trans z
        cases z'
        subst hb
        exact ⟨ha, by rw [List.length_map]; exact hl, vs, _, rv, ha⟩
      · have z' := (if_neg hb).symm.trans z
        cases z'
    · by_cases hb : b = a
      · exact hb
      · exact absurd (if_neg hb) z
end L2

namespace L2
open PySem PySem.Spec PyProof.Rows

noncomputable abbrev KOf {K : PySem.W.Frag} {h : Heap} (_ : K.In h) : PySem.W.Frag := K

/-- the goal that k_head leaves (case hc), from the law's promise. F gives the function object fd (K's own) once, then the promise over every base -/
theorem walk_of {l : PySem.W.OpenLaw} {n k : Nat} {q : Program} {loose : List Str} {XP : (Str → Option Value) → Heap → Prop} {YP : World → Heap → Prop} {d : DefRec} {K : Params → PySem.W.Frag} {CX : World → CXT} {sp : World → Sp} {x : Str}
    (hn : l.most = some n) (hn2 : n ≤ sizeLine) (hdf : d.params.defaults = []) (hr : Room k callerA)
    (hY : ∀ (w : World) (h : Heap), YP w h → (K w.params).In h)
    (F : ∀ (w : World) (mg : Str → Option Value) (fa : Addr) (h : Heap), (K w.params).In h → h.Ns mainGlobals mg → mg d.name = some (.ref fa) →
      ∃ fd : FuncData, (∀ (s : Shared) (u : Value), BindsTo s fd ⟨[u], []⟩ [(x, u)]) ∧
        ∀ base : Heap, (K w.params).In base → base.Ns mainGlobals mg → FnOk l.prog w (K w.params) mg base (CX w) k fa fd [x] (sp w))
    (hsp : ∀ (w : World) (H : Hp) (a : Addr) (ns : List Int), ns.length ≤ n → Only H → SqL (K w.params) H a (ns.map V.int) → sp w [.ref a] H (fun v _ => v = .bl true) fun _ _ _ => False)
    (hCX : ∀ (w : World) (H : Hp) (s : Shared) (e : Value) (s' : Shared), CX w [] H s (fun _ _ _ => False) e s' → False) :
    PySem.W.WalkO q loose XP YP l.row.toRowW d [] (fun f vs => PySem.call f vs) := by
  refine Att.attach_call hn hdf fun w s₀ s₁ mg mb fa o pm cd doc a vs ns G Y ho hd hcd hmg hobj hints hlen hg => ?_
  have KX := hY w _ Y
  obtain ⟨fd, hb, hF⟩ := F w mg fa _ KX G.T.g hmg
  exact law_call KX G.T.g G.T.b G.T.builtins G.T.nolimit hg hobj hints (Nat.le_trans hlen hn2) hr hF hb (fun H hO hS => hsp w H a ns hlen hO hS) fun H e s' => hCX w H s₁ e s'
end L2

/- THE LAST THEOREM (shape; LID, My.* are yours):
   My.Adr: a structure of the addresses that your layer names (classes, functions); My.Txt K t: a structure (Prop) of the equations over K;
   My.txt_mk : {K} {implicit addresses ..} (e1 : nsIn K mainGlobals "law" = some (some (.ref f))) (e2 : K.lookup f = some ⟨oc, od, .func (fnOf "law" "law" params body scope dV kV doc pm an cdv ct), sl⟩) (e3 : codeIn K cdv "law" = true) .. : ∃ t, My.Txt K t

set_option maxRecDepth 100000 in
set_option maxHeartbeats 0 in
theorem PySem.Challenge.cw_LID_holds : PySem.Challenge.rw_LID.Holds := by
  w_on; o_law; k_head; (case hw => w_witness2)
  k_fill
  refine L2.walk_of (l := PySem.Challenge.rw_LID) (n := 63) (k := 40) (x := "script") (CX := fun w => ..) (sp := fun _ => My.sp_law) rfl (by decide) rfl ⟨rfl, by decide, by decide⟩ (fun w h Y => PySem.W.kIn_of Y) ?F ?S ?C
  case F =>
    intro w mg fa h KX G hmg
    have T : ∃ t, My.Txt (L2.KOf KX) t := by
      dsimp only [L2.KOf]                          -- K must stand as «<heap const> w.params» for k_is
      refine' My.txt_mk ?e1 ?e2 ?e3 ..
      (case e1 => PySem.W.k_is)                    -- in the order: a name -> its address -> its object -> its parts
      (case e2 => PySem.W.k_is)
      ..
    obtain ⟨t, T⟩ := T
    have e0 := hmg.symm.trans (PySem.W.mg_of KX G T.law)
    cases e0                                       -- fa is the law's own address
    exact ⟨_, fun s u => .of_eq rfl, fun base kb nb => My.law_fn T kb nb⟩     -- if «.of_eq rfl» comes too early: refine' ⟨_, ?b, fun base kb nb => My.law_fn T kb nb⟩; exact fun s u => .of_eq rfl
  case S => exact fun w H a ns hl hO hS => ..
  case C => exact ..
(the tactic k_is has no namespace: write k_is) -/

/-! SHORT WORDS over the layer: a def of the text, its body, what a loop and a test want. -/
namespace L2
open PySem PySem.Spec PyProof.Rows

/-! ### the text by places -/
noncomputable def defArgs (s : Stmt) : Arguments := match s with
  | .FunctionDef _ a _ _ _ _ _ _ _ _ => a
  | _ => { posonlyargs := [], args := [], vararg := none, kwonlyargs := [], kw_defaults := [], kwarg := none, defaults := [] }
noncomputable def defBody (s : Stmt) : List Stmt := match s with
  | .FunctionDef _ _ b _ _ _ _ _ _ _ => b
  | _ => []
noncomputable def defScope (s : Stmt) : Scope := match s with
  | .FunctionDef _ _ _ _ _ _ sc _ _ _ => sc
  | _ => { kind := .function, names := [], isGenerator := false, isCoroutine := false }

/-! ### no exception leaves a def -/
noncomputable abbrev CX0 : CXT := fun _ _ _ _ _ _ => False
noncomputable abbrev E0 : XK := fun _ _ _ => False
theorem pass0 {X : Cx} : Passes CX0 X E0 := fun _ _ _ _ _ _ _ h => h.elim

/-! ### a def (or method) of the text as it stands behind the top -/
structure Fun (K : PySem.W.Frag) (x qual : Str) (st : Stmt) (f : Addr) (fd : FuncData) : Prop where
  ex : ∃ (oc : Value) (od : Option Addr) (kV doc pm : Value) (an : Option Addr) (cdv ct : Value) (osl : Array (Option Value)),
    fd = PySem.W.fnOf x qual (defArgs st) (defBody st) (defScope st) .none kV doc pm an cdv ct ∧ K.lookup f = some ⟨oc, od, .func fd, osl⟩ ∧ PySem.W.codeIn K cdv qual = true
  kp : PySem.W.keepIn K (.ref f) = true
section
variable {P : Program} {w : World} {K : PySem.W.Frag} {mg : Str → Option Value} {base : Heap}
/-- THE RULE for a def: its body as a term of rules, and the reading of that term -/
theorem Fun.ok {x qual : Str} {st : Stmt} {f : Addr} {fd : FuncData} {N ps : List Str} {k : Nat} {sp : Sp} (F : Fun K x qual st f fd) (S : FnScope N ps (defScope st)) (len : ∀ vs H Q E, sp vs H Q E → vs.length = ps.length)
    (hbody : ∀ (cdv : Value) (A : Around) (outer : List Env) (s : Shared) (H : Hp) (vs : List V) (Q : VK) (E : XK), Room k (A.deeper (envOfC qual (defScope st) s.heap.objs.size f cdv)) → sp vs H Q E →
      ∃ t, PSs (cxOf CX0 P w K mg base N qual (defScope st) f cdv A outer s H E).nox (defBody st) t ∧ t { nx := fun _ H' => Q .non H', rt := Q } (start N vs) H) : FnOk P w K mg base CX0 (k + 1) f fd ps sp := by
  obtain ⟨oc, od, kV, doc, pm, an, cdv, ct, osl, rfl, lk, hcd⟩ := F.ex
  refine fn_of lk hcd S len fun A outer s H vs Q E hr hsp => ?_
  obtain ⟨t, h, q⟩ := hbody cdv A outer s H vs Q E hr hsp
  exact ⟨t, h.nox, q⟩
/-- how its arguments bind (no defaults): h is «fun _ _ _ _ _ _ us hl => match us, hl with | [_, _], _ => rfl», one _ a parameter -/
theorem Fun.binds {x qual : Str} {st : Stmt} {f : Addr} {fd : FuncData} {ps : List Str} (F : Fun K x qual st f fd)
    (h : ∀ (kV doc pm : Value) (an : Option Addr) (cdv ct : Value) (us : List Value), us.length = ps.length → bindArgs (PySem.W.fnOf x qual (defArgs st) (defBody st) (defScope st) .none kV doc pm an cdv ct) ⟨us, []⟩ = pure (ps.zip us)) : Binds K fd ps [] := by
  obtain ⟨oc, od, kV, doc, pm, an, cdv, ct, osl, rfl, lk, hcd⟩ := F.ex
  exact .all (h kV doc pm an cdv ct)
theorem fun_mk {x qual : Str} {st : Stmt} {f : Addr} {oc : Value} {od an : Option Addr} {osl : Array (Option Value)} {kV doc pm cdv ct : Value} (l : K.lookup f = some ⟨oc, od, .func (PySem.W.fnOf x qual (defArgs st) (defBody st) (defScope st) .none kV doc pm an cdv ct), osl⟩)
    (c : PySem.W.codeIn K cdv qual = true) (k : PySem.W.keepIn K (.ref f) = true) : Fun K x qual st f (PySem.W.fnOf x qual (defArgs st) (defBody st) (defScope st) .none kV doc pm an cdv ct) := ⟨⟨oc, od, kV, doc, pm, an, cdv, ct, osl, rfl, l, c⟩, k⟩
end
theorem hu_of {A : Around} {k : Nat} (hr : Room k A) : A.units + 1 < cLine := Nat.lt_of_le_of_lt (Nat.add_le_add_left (by decide : 1 ≤ 64) _) hr.units
/-! ### expressions in short: the name that stands in the i-th slot -/
section
variable {X : Cx}
theorem pv (i : Nat) {x : Str} {pos : Pos} (hN : X.N[i]? = some x := by rfl) (hv : Vis X.env.scope x := by first | exact Or.inl rfl | exact Or.inr (Or.inl rfl) | exact Or.inr (Or.inr rfl)) (hd : (x == ("__debug__" : Str)) = false := by decide)
    (hcd : (x == ("__classdict__" : Str)) = false := by decide) : PE X (.Name x pos) (tVar i) := pe_var hN hv hd hcd
end

/-! ### tests -/
theorem iteF {A B : Prop} (h : B) : if false = true then A else B := by
  rw [if_neg Bool.false_ne_true]
  exact h
theorem iteT {A B : Prop} (h : A) : if true = true then A else B := by
  rw [if_pos rfl]
  exact h
theorem ite2 {c A B : Prop} [Decidable c] (h1 : c → A) (h2 : ¬ c → B) : if c then A else B := by
  by_cases h : c
  · rw [if_pos h]
    exact h1 h
  · rw [if_neg h]
    exact h2 h
/-! ### heaps -/
/-- all that was tracked is as it was -/
noncomputable def Same (H H' : Hp) : Prop := ∀ b o, H b = some o → H' b = some o
theorem Same.refl (H : Hp) : Same H H := fun _ _ h => h
theorem Same.trans {H H1 H2 : Hp} (a : Same H H1) (b : Same H1 H2) : Same H H2 := fun c o h => b c o (a c o h)
theorem Same.free {H H' : Hp} (e : Same H H') {l : Addr} (h : H' l = Option.none) : H l = Option.none := by
  cases q : H l with
  | none => rfl
  | some o =>
    rw [e l o q] at h
    cases h
theorem Same.seq {K : PySem.W.Frag} {H H' : Hp} {a : Addr} {xs : List V} (e : Same H H') (h : SqL K H a xs) : SqL K H' a xs := by
  rcases h with (h | ⟨o, h⟩) | h
  · exact .inl (.inl (e _ _ h))
  · exact .inl (.inr ⟨o, e _ _ h⟩)
  · exact .inr h

end L2

set_option Elab.async false
set_option linter.all false
set_option maxRecDepth 100000
set_option maxHeartbeats 4000000
namespace L2
open PySem PySem.Spec PyProof.Rows
/-! more operations: numbers of up to 200 figures, bit_length, is True, isinstance, == of tuples -/
noncomputable def Fit (i : Int) : Prop := -(10 ^ 200) < i ∧ i < 10 ^ 200
theorem pow_bits : (10 : Nat) ^ 200 ≤ 2 ^ 700 := by decide +kernel
theorem Fit.nat {i : Int} (h : Fit i) : i.natAbs < 2 ^ 700 := by
  have h1 : i.natAbs < 10 ^ 200 := by
    obtain ⟨a, b⟩ := h
    omega
  exact Nat.lt_of_lt_of_le h1 pow_bits
theorem Fit.bits {i : Int} (h : Fit i) : Builtin.Int.intBits i ≤ 2 ^ 20 :=
  Nat.le_trans (PyProof.Rows.intBits_le h.nat) (by decide)
theorem Fit.log {i : Int} (h : Fit i) : i.natAbs.log2 < 9000 := by
  by_cases z : i.natAbs = 0
  · rw [z]; decide
  · have q := (Nat.log2_lt z).mpr h.nat
    omega
noncomputable def CM (i j : Int) : Prop := CMul i j ∨ (Fit i ∧ Fit j)
theorem CM.ok {i j : Int} (h : CM i j) : IntMulOk i j := by
  rcases h with h | ⟨h1, h2⟩
  · exact h.ok
  · exact IntMulOk.of_bits h1.bits h2.bits
section
variable {X : Cx}
theorem op_mulB : OpR X (binaryOp .Mult) (rI CM fun i j => .int (i * j)) := opI fun _ _ _ _ _ _ _ hc q => mul_int q hc.ok
/-- // by a divisor above 0 -/
noncomputable def CD (_ j : Int) : Prop := 0 < j ∧ Fit j
theorem op_fdivP : OpR X (binaryOp .FloorDiv) (rI CD fun i j => .int (i / j)) := opI fun i j _ _ _ _ _ hc q => by
  have h1 : (0 : Int) < j := hc.1
  exact floordiv_int (by omega) (by rw [Int.fdiv_eq_ediv_of_nonneg i (by omega)]; exact q) (.inl (PyProof.noPylong_of_log2 hc.2.log))
noncomputable def CDN (_ j : Int) : Prop := j ≠ 0 ∧ Fit j
theorem op_fdivM : OpR X (binaryOp .FloorDiv) (rI CDN fun i j => .int (i.fdiv j)) := opI fun i j _ _ _ _ _ hc q =>
  floordiv_int hc.1 q (.inl (PyProof.noPylong_of_log2 hc.2.log))
/-- n.bit_length() -/
theorem mt_bits : MtR X "int.bit_length" (fun x xs H Q => ∃ i, x = .int i ∧ xs = [] ∧ Q (.int (Builtin.Int.intBits i : Nat)) H) := by
  intro pins s σ H x xs v us Q I rx rv h
  obtain ⟨i, rfl, rfl, q⟩ := h
  obtain ⟨t, rfl⟩ := rx
  cases rv
  exact call_gives F.slot_int_bit_length (typeIs_int s i t) F.entry_int_bit_length (F.args_int_bit_length_1 _) (AutoIntG2.int_bit_length_int_0 i t) ⟨.int _, H, I.tok _, ⟨_, rfl⟩, q⟩
/-! ### == of tuples of flat things -/
noncomputable def eqL : List V → List V → Bool
  | [], [] => true
  | x :: xs, y :: ys => eqV x y && eqL xs ys
  | _, _ => false
noncomputable def eqAtN (xs ys : List V) (j : Nat) : Bool := match xs[j]?, ys[j]? with
  | some x, some y => eqV x y
  | _, _ => false
theorem eqL_all : ∀ xs ys : List V, ((List.range (min xs.length ys.length)).all (eqAtN xs ys) && xs.length == ys.length) = eqL xs ys
  | [], [] => rfl
  | [], _ :: _ => by simp [eqL]
  | _ :: _, [] => by simp [eqL]
  | x :: xs, y :: ys => by
    have ih := eqL_all xs ys
    have e : min (x :: xs).length (y :: ys).length = min xs.length ys.length + 1 := by simp only [List.length_cons]; omega
    rw [e, List.range_succ_eq_map, List.all_cons, List.all_map]
    have f : (eqAtN (x :: xs) (y :: ys) ∘ Nat.succ) = eqAtN xs ys := by funext j; simp [eqAtN, Function.comp]
    rw [f]
    have g : ((x :: xs).length == (y :: ys).length) = (xs.length == ys.length) := by simp
    rw [g, Bool.and_assoc, ih]
    rfl
theorem eqL_int : ∀ ns ms : List Int, eqL (ns.map V.int) (ms.map V.int) = decide (ns = ms)
  | [], [] => rfl
  | [], _ :: _ => by simp [eqL]
  | _ :: _, [] => by simp [eqL]
  | n :: ns, m :: ms => by
    have ih := eqL_int ns ms
    simp only [List.map_cons, eqL, ih, eqV]
    by_cases h1 : n = m <;> by_cases h2 : ns = ms <;> simp [h1, h2]
theorem eq_items {A : Around} {s : Shared} {xs ys : List V} {us ws : List Value} (r1 : Vals xs us) (r2 : Vals ys ws) (f1 : xs.all flatV = true) (f2 : ys.all flatV = true) :
    ∀ j (h1 : j < us.toArray.size) (h2 : j < ws.toArray.size), SeqAt.EqAt A s us.toArray[j] ws.toArray[j] (eqAtN xs ys j) := by
  intro j h1 h2
  have l1 := r1.length
  have l2 := r2.length
  simp only [List.size_toArray] at h1 h2
  have g1 : xs[j]? = some xs[j] := List.getElem?_eq_getElem (by omega)
  have g2 : ys[j]? = some ys[j] := List.getElem?_eq_getElem (by omega)
  obtain ⟨u, e1, q1⟩ := r1.get g1
  obtain ⟨w, e2, q2⟩ := r2.get g2
  have e1' : us.toArray[j] = u := by
    have := List.getElem?_eq_getElem (l := us) h1
    rw [e1] at this
    simpa using (Option.some.inj this).symm
  have e2' : ws.toArray[j] = w := by
    have := List.getElem?_eq_getElem (l := ws) h2
    rw [e2] at this
    simpa using (Option.some.inj this).symm
  rw [e1', e2']
  have f1' : flatV xs[j] = true := List.all_eq_true.mp f1 _ (List.getElem_mem _)
  have f2' : flatV ys[j] = true := List.all_eq_true.mp f2 _ (List.getElem_mem _)
  have z : eqAtN xs ys j = eqV xs[j] ys[j] := by unfold eqAtN; rw [g1, g2]
  rw [z]
  exact eqAt_V q1 q2 f1' f2'
noncomputable def rEqT (K : PySem.W.Frag) (neg : Bool) : R2 := fun x y H Q => ∃ a b xs ys, x = .ref a ∧ y = .ref b ∧ SqT K H a xs ∧ SqT K H b ys ∧ xs.all flatV = true ∧ ys.all flatV = true ∧ Q (.bl (if neg then !eqL xs ys else eqL xs ys)) H
theorem op_neT (hu : X.A.units + 1 < cLine) : OpR X (compareOp .NotEq) (rEqT X.K true) := by
  intro pins s σ H x y v u Q I rx ry h
  obtain ⟨a, b, xs, ys, rfl, rfl, ha, hb, f1, f2, q⟩ := h
  cases rx
  cases ry
  obtain ⟨its, r1, p1, _⟩ := I.tuple ha
  obtain ⟨its2, r2, p2, _⟩ := I.tuple hb
  refine SeqAt.RcNeAt.tuples (e := eqAtN xs ys) p1 p2 (by omega) (eq_items r1 r2 f1 f2) _ _ _ _ ⟨.bl _, H, I, rfl, ?_⟩
  rw [List.size_toArray, List.size_toArray, ← r1.length, ← r2.length, eqL_all]
  exact q
end
/-! ### isinstance -/
open PySem.W in
inductive TyX (K : PySem.W.Frag) (H : Hp) : V → Value → Prop where
  | of {x : V} {t : Value} (h : TyOf K H x t) : TyX K H x t
  | tup {a : Addr} {xs : List V} (h : SqT K H a xs) : TyX K H (.ref a) (.type "tuple")
  | lst {a : Addr} {xs : List V} (h : SqL K H a xs) : TyX K H (.ref a) (.type "list")
/-- the class that the second argument names -/
inductive ClsV : V → Value → Prop where
  | ty (T : String) : ClsV (.ty T) (.type T)
  | own (C : Addr) : ClsV (.ref C) (.ref C)
section
variable {X : Cx}
theorem call_isi : CallR X (.builtin "isinstance") (fun xs H Q => ∃ x c t cv b, xs = [x, c] ∧ ClsV c cv ∧ TyX X.K H x t ∧ PySem.W.kitOne X.K t cv = some b ∧ Q (.bl b) H) := by
  intro pins s σ H xs us Q I r h
  obtain ⟨x, c, t, cv, b, rfl, hc, ht, e, q⟩ := h
  obtain ⟨u, w', rfl, r1, r2⟩ := vals2 r
  have ec : w' = cv := by
    cases hc with
    | ty T => exact r2
    | own C => exact r2
  subst ec
  have fin : ∀ tk, EP X pins σ Q (.bool b) { s with toks := tk } := fun tk => ⟨.bl b, H, I.tok _, rfl, q⟩
  cases ht with
  | of h => exact isinst_ok I r1 h e fin
  | @tup a ys h =>
    cases r1
    obtain ⟨its, _, p, _⟩ := I.tuple h
    obtain ⟨o, h1, h2, _⟩ := p
    exact PySem.W.kia_one PySem.W.kitx_tuple I.kIn ⟨o, h1, h2⟩ e (fun z => nomatch z) fin
  | @lst a ys h =>
    cases r1
    obtain ⟨its, _, p, _⟩ := I.list h
    obtain ⟨o, h1, h2, _⟩ := p.isList
    exact PySem.W.kia_one PySem.W.kitx_list I.kIn ⟨o, h1, h2⟩ e (fun z => nomatch z) fin
end
end L2

set_option Elab.async false
set_option linter.all false
set_option maxRecDepth 100000
set_option maxHeartbeats 4000000
namespace L2
open PySem PySem.Spec PyProof.Rows
/-! an exception of the text's own class: raised, passing a def, taken by name -/
theorem ObjOk.is {P : Program} {w : World} {H : Hp} {h : Heap} {a : Addr} {o : HO} (x : ObjOk P w H h a o) : ∃ ob, h.get? a = some ob := by
  cases o with
  | lst xs => obtain ⟨_, _, _, _, e⟩ := x; exact ⟨_, e⟩
  | tup xs => obtain ⟨_, _, _, ob, e, _⟩ := x; exact ⟨ob, e⟩
  | dK kvs => obtain ⟨_, _, _, _, ob, _, _, e, _⟩ := x; exact ⟨ob, e⟩
  | dT kvs => obtain ⟨_, _, _, _, ob, _, _, e, _⟩ := x; exact ⟨ob, e⟩
  | set S n => obtain ⟨ob, _, _, _, e, _⟩ := x; exact ⟨ob, e⟩
  | ins C dx fs => obtain ⟨_, _, _, e, _⟩ := x; exact ⟨_, e⟩
  | own y => exact x
  | xd fs => obtain ⟨_, ⟨ob, _, _, e, _⟩, _⟩ := x; exact ⟨ob, e⟩
  | rng lo hi => obtain ⟨_, _, _, e⟩ := x; exact ⟨_, e⟩
  | frz ob u => exact ⟨ob, x.1⟩
  | tbl ps => exact ⟨_, (show h.get? a = some _ from x)⟩
  | met f y => exact ⟨_, (show h.get? a = some _ from x)⟩
  | ext φ => exact x.2.1
noncomputable def CXE (P : Program) (w : World) : CXT := fun outer H s E e s' =>
  ∃ (a : Addr) (cls a0 : Value) (B : Heap) (H' : Hp), e = .ref a ∧ s'.os = s.os ∧ AllBare s'.gens ∧ Heap.FlyingW B outer a cls a0 s'.heap ∧
    Un (frs outer) [] H H' s.heap s'.heap ∧ HOk P w H' s'.heap ∧ (∀ b o, s.heap.get? b = some o → b ∉ frs outer → ∃ o', B.get? b = some o') ∧
    (∀ b u o, H' b = some u → s'.heap.get? b = some o → B.get? b = some o) ∧ E cls none H'
/-- what a def's context does with an exception that was made in it -/
noncomputable def RaisesTo (X : Cx) (E : XK) : Prop := ∀ (pins : List (Addr × Obj)) (σ : St) (H : Hp) (s : Shared) (a : Addr) (cls : Value) (args : List Value) (h' : Heap),
  Inv X pins σ H s → Heap.MadeExcOf s.heap h' a cls args → E cls none H → X.xe (.ref a) { s with heap := h' }
section
variable {P : Program} {w : World} {K : PySem.W.Frag} {mg : Str → Option Value} {base : Heap} {N : List Str} {qual : Str} {scope : Scope} {f : Addr} {cd : Value} {A : Around} {outer : List Env} {s : Shared} {H : Hp} {E : XK}
theorem frs_cons {env : Env} {L : Addr} {l : List Env} (hf : env.frame = some L) : frs (env :: l) = L :: frs l := by
  unfold frs
  rw [List.filterMap_cons, hf]
theorem raises_cx : RaisesTo (cxOf (CXE P w) P w K mg base N qual scope f cd A outer s H E) E := by
  intro pins σ H1 s1 a cls args h' I hm hE
  have I' := I
  let env := envOfC qual scope s.heap.objs.size f cd
  have hL : env.frame = some s.heap.objs.size := rfl
  have fe : frs (env :: outer) = s.heap.objs.size :: frs outer := frs_cons hL
  have hst : s1.heap.FunFrames base (env :: outer) := I.stack
  have hin : ∀ e ∈ (env :: outer), ∀ b, e.frame = some b → b ∈ frs (env :: outer) := fun e he b hb => List.mem_filterMap.mpr ⟨e, he, hb⟩
  have inB : ∀ b o, s1.heap.get? b = some o → b ∉ frs (env :: outer) → (PySem.W.hideAll s1.heap (frs (env :: outer))).get? b = some o := fun b o e n => PySem.W.hideAll_get _ e n
  have old : ∀ b o, s.heap.get? b = some o → b ∉ frs outer → b ∉ frs (env :: outer) := fun b o e n => by
    rw [fe]
    intro z
    rcases List.mem_cons.mp z with z | z
    · rw [z] at e
      exact absurd (Heap.lt_size e) (Nat.lt_irrefl _)
    · exact n z
  have trk : ∀ b u, H1 b = some u → b ∉ frs (env :: outer) := fun b u e z => by
    have := I.stkFree b z
    rw [e] at this
    cases this
  show wpAny (model P w) (A.deeper env) (leaving env (.ref a)) _ _ _
  refine wpAny_leaves_madeW (h := s1.heap) (base := PySem.W.hideAll s1.heap (frs (env :: outer))) I.ok.frames hL (fun b o q => PySem.W.of_hideAll _ q) (PySem.W.funFrames_hide hst hin) hm fun h2 t fl _ _ up => ?_
  have st := fl.1
  refine ⟨a, cls, .ref t, _, H1, rfl, I.os, I.bare, fl, ⟨fun b o e n hb _ => ?_, fun b o e n hb _ => ?_, fun b o e n _ => I.base.free b o e n List.not_mem_nil, fun b o e _ => ?_, I.base.tups, I.base.frzs, I.base.tbls⟩, fun b u e => ?_, fun b o e hb => ?_, fun b u o e q => ?_, hE⟩
  · exact st b o (inB b o (I.base.keep b o e n hb List.not_mem_nil) (old b o e hb))
  · obtain ⟨sl, e1⟩ := I.base.slot b o e n hb List.not_mem_nil
    obtain ⟨_, o2, e2, nf⟩ := hst.mem (show b ∈ (env :: outer).filterMap (·.frame) by show b ∈ frs (env :: outer); rw [fe]; exact List.mem_cons_of_mem _ hb)
    rw [e1] at e2
    cases e2
    obtain ⟨sl2, e3⟩ := up b _ (hm.keeps _ _ e1) nf
    exact ⟨sl2, e3⟩
  · obtain ⟨o1, e1⟩ := I.base.there b o e List.not_mem_nil
    by_cases hb : b ∈ frs (env :: outer)
    · obtain ⟨_, o2, e2, nf⟩ := hst.mem (show b ∈ (env :: outer).filterMap (·.frame) from hb)
      obtain ⟨sl, e3⟩ := up b _ (hm.keeps _ _ e2) nf
      exact ⟨_, e3⟩
    · exact ⟨o1, st b o1 (inB b o1 e1 hb)⟩
  · refine (I.hok b u e).stay (fun c v hc q => ?_) (fun _ q => q) fun _ _ q => q
    refine st c v (inB c v q ?_)
    rcases hc with rfl | hc
    · exact trk c u e
    · exact trk c _ hc
  · obtain ⟨o1, e1⟩ := I.base.there b o e List.not_mem_nil
    exact ⟨o1, inB b o1 e1 (old b o e hb)⟩
  · obtain ⟨o1, e1⟩ := (I.hok b u e).is
    have e2 := inB b o1 e1 (trk b u e)
    have e3 := st b o1 e2
    rw [q] at e3
    cases e3
    exact e2
/-- an exception of a callee goes on out of the def -/
theorem passes_cx : Passes (CXE P w) (cxOf (CXE P w) P w K mg base N qual scope f cd A outer s H E) E := by
  intro pins σ H1 s1 e s2 I hc
  obtain ⟨a, cls, a0, B, H2, rfl, ho, hb, fl, un, hok, inB, trB, hE⟩ := hc
  let env := envOfC qual scope s.heap.objs.size f cd
  have hL : env.frame = some s.heap.objs.size := rfl
  have fe : frs (env :: outer) = s.heap.objs.size :: frs outer := frs_cons hL
  have hst : s1.heap.FunFrames base (env :: outer) := I.stack
  have old : ∀ b o, s.heap.get? b = some o → b ∉ frs outer → b ∉ frs (env :: outer) := fun b o e n => by
    rw [fe]
    intro z
    rcases List.mem_cons.mp z with z | z
    · rw [z] at e
      exact absurd (Heap.lt_size e) (Nat.lt_irrefl _)
    · exact n z
  have frUp : ∀ b o, b ∈ frs (env :: outer) → s1.heap.get? b = some o → ∃ sl, s2.heap.get? b = some { o with slots := sl } ∧ ∀ vs, o.data ≠ .fields vs := fun b o z e1 => by
    obtain ⟨_, o2, e2, nf⟩ := hst.mem (show b ∈ (env :: outer).filterMap (·.frame) from z)
    rw [e1] at e2
    cases e2
    obtain ⟨sl, e3⟩ := un.slot b o e1 (I.stkFree b z) z List.not_mem_nil
    exact ⟨sl, e3, nf⟩
  show wpAny (model P w) (A.deeper env) (leaving env (.ref a)) _ _ _
  refine wpAny_leaves_onW I.ok.frames hL fl fun h3 fl3 up => ?_
  have st := fl3.1
  have exB : ∀ b o, s1.heap.get? b = some o → H1 b = none → b ∉ frs (env :: outer) → B.get? b = some o := fun b o e n hb => by
    obtain ⟨o1, e1⟩ := inB b o e hb
    have e2 := fl.1 b o1 e1
    have e3 : s2.heap.get? b = some o := un.keep b o e n hb List.not_mem_nil
    rw [e2] at e3
    cases e3
    exact e1
  refine ⟨a, cls, a0, B, H2, rfl, ho.trans I.os, hb, fl3, ⟨fun b o e n hb _ => ?_, fun b o e n hb _ => ?_, fun b o e n _ => ?_, fun b o e _ => ?_, fun b xs q => un.tups b xs (I.base.tups b xs q), fun b ob xs q => un.frzs b ob xs (I.base.frzs b ob xs q), fun b ps q => ?_⟩, fun b u e => ?_, fun b o e hb => ?_, fun b u o e q => ?_, hE⟩
  · have e1 := I.base.keep b o e n hb List.not_mem_nil
    exact st b o (exB b o e1 (I.base.free b o e n List.not_mem_nil) (old b o e hb))
  · obtain ⟨sl, e1⟩ := I.base.slot b o e n hb List.not_mem_nil
    obtain ⟨sl2, e2, nf⟩ := frUp b _ (by rw [fe]; exact List.mem_cons_of_mem _ hb) e1
    obtain ⟨sl3, e3⟩ := up b _ e2 nf
    exact ⟨sl3, e3⟩
  · obtain ⟨o1, e1⟩ := I.base.there b o e List.not_mem_nil
    exact un.free b o1 e1 (I.base.free b o e n List.not_mem_nil) List.not_mem_nil
  · obtain ⟨o1, e1⟩ := I.base.there b o e List.not_mem_nil
    by_cases hb : b ∈ frs (env :: outer)
    · obtain ⟨sl2, e2, nf⟩ := frUp b o1 hb e1
      obtain ⟨sl3, e3⟩ := up b _ e2 nf
      exact ⟨_, e3⟩
    · obtain ⟨o2, e2⟩ := inB b o1 e1 hb
      exact ⟨o2, st b o2 e2⟩
  · obtain ⟨m1, e1⟩ := I.base.tbls b ps q
    obtain ⟨m2, e2⟩ := un.tbls b _ e1
    exact ⟨m1 ++ m2, by rw [e2, Array.append_assoc]⟩
  · refine (hok b u e).stay (fun c v hc q => ?_) (fun _ q => q) fun _ _ q => q
    refine st c v ?_
    rcases hc with rfl | hc
    · exact trB c u v e q
    · exact trB c _ v hc q
  · obtain ⟨o1, e1⟩ := I.base.there b o e List.not_mem_nil
    exact inB b o1 e1 (old b o e hb)
  · obtain ⟨o1, e1⟩ := (hok b u e).is
    have e2 := trB b u o1 e e1
    have e3 := st b o1 e2
    rw [q] at e3
    cases e3
    exact e2
end
/-! ### raise C("..") -/
theorem own_obj {K : PySem.W.Frag} {h : Heap} {C : Addr} {bmB : List Value} {newId : String} (X : K.In h) (q : PySem.W.excIn K C bmB newId = true) :
    ∃ bm N nm qn bs hdct sn sub ab col dd k0 k1 k2 k3 k5 mN, h.get? C = some (excClassObj nm qn C N bs bm hdct sn sub ab col dd k0 k1 k2 k3 k5 newId) ∧ h.Ns N mN ∧ mN "__init__" = none ∧ OwnTail h bmB bm := by
  unfold PySem.W.excIn at q
  split at q
  · rename_i dd cd sl ho
    split at q
    · rename_i C' bm k0 k1 k2 k3 n k5 hm hs
      simp only [Bool.and_eq_true, beq_iff_eq, Bool.not_eq_true'] at q
      obtain ⟨⟨⟨⟨⟨z1, z2⟩, hdel⟩, ht⟩, hok⟩, hni⟩ := q
      subst z1
      subst z2
      obtain ⟨nm, bs, mro, ns, qn, hd, sn, sub, ab, col, del⟩ := cd
      dsimp only at hm hdel hok hni
      subst hm
      subst hdel
      have hsl : sl = #[k0, k1, k2, k3, some (.builtin n), k5] := by
        obtain ⟨l⟩ := sl
        simp only at hs
        rw [hs]
      subst hsl
      exact ⟨bm, ns, nm, qn, bs, hd, sn, sub, ab, col, dd, k0, k1, k2, k3, k5, _, X _ _ ho, .of_isNs (PySem.W.isNs_of_in X hok), PySem.W.nsMap_none_of_in X hok hni, PySem.W.tail_of_in X ht⟩
    · cases q
  · cases q
section
variable {X : Cx} {x : Str} {C : Addr} {np cpos pos : Pos} {e0 : Expr} {es : List Expr} {t : TA} {bmB : List Value} {B newId initId : String} {E : XK}
noncomputable def tRaise (C : Addr) (E : XK) (t : TA) : TS := fun _ σ H => t σ H fun vs H1 => vs.length ≤ sizeLine ∧ E (.ref C) none H1
theorem ps_raise (hx : RaisesTo X E) (hcalm : X.calm = true) (FB : ExcBaseFacts B newId initId bmB) (hg : Gl X x) (hm : X.mg x = some (.ref C)) (hex : PySem.W.excIn X.K C bmB newId = true) (ha : PA X (e0 :: es) t)
    (hdb : (x == ("__debug__" : Str)) = false := by decide) (he : starEach (e0 :: es) X.env = (false, eval e0 X.env) :: starEach es X.env := by rfl) (hpl : (backTo cpos (starEach es X.env)).any (·.1) = false := by rfl) :
    PS X (.Raise (some (.Call (.Name x np) (e0 :: es) [] cpos)) none pos) (tRaise C E t) := by
  intro pins s σ H D I h
  obtain ⟨bm, N, nm, qn, bs, hdct, sn, sub, ab, col, dd, k0, k1, k2, k3, k5, mN, hC, hN, hni, T⟩ := own_obj I.mod.kin hex
  refine wpAny_Raise_call_subT (C := C) (nm := nm) (q := qn) (N := N) (bs := bs) (bm := bm) (hdct := hdct) (sn := sn) (sub := sub) (ab := ab) (col := col) (dd := dd) (k0 := k0) (k1 := k1) (k2 := k2) (k3 := k3) (k5 := k5)
    FB (mN := mN) (T.hasType FB.hasBase) (I.ok.hd hcalm) (by rw [he]; show (false || (backTo cpos (starEach es X.env)).any (·.1)) = false; rw [hpl]; rfl) hni (ld_glob I hg hm ⟨rfl, ?_⟩ hdb)
  have hA := ha cpos pins s σ H _ I h
  rw [he] at hA ⊢
  refine Calls.evalArgs_plain (thn hA fun us s2 ⟨vs, H2, I2, r2, z, q2⟩ => ?_)
  exact ⟨rfl, by rw [← r2.length]; exact z, I2.bk _ _ hC, hN.keeps I2.bk, T.keeps I2.bk, fun h' a hm' => hx pins σ H2 s2 a _ _ h' I2 hm' q2⟩
end
end L2

set_option Elab.async false
set_option linter.all false
set_option maxRecDepth 100000
set_option maxHeartbeats 4000000
namespace L2
open PySem PySem.Spec PyProof.Rows
/-! ### try .. except C as e -/
noncomputable def PassesS (CX : CXT) (X : Cx) (E : St → XK) : Prop := ∀ (pins : List (Addr × Obj)) (σ : St) (H : Hp) (s : Shared) (e : Value) (s' : Shared), Inv X pins σ H s → CX X.stack H s (E σ) e s' → X.xe e s'
noncomputable def tCallS (sp : Sp) (dvs : List V) (E : St → XK) (t : TA) : TE := fun σ H Q => t σ H fun vs H1 => sp (vs ++ dvs) H1 Q (E σ)
section
variable {X : Cx} {CX : CXT} {k : Nat} {f C : Addr} {fd : FuncData} {ps : List Str} {sp : Sp} {dvs : List V} {ds : List Value} {E : St → XK} {x m : Str} {p pos apos : Pos} {e o : Expr} {es : List Expr} {ta : TE} {t : TA}
theorem run_fnS {pins : List (Addr × Obj)} {σ : St} {H : Hp} {s : Shared} {Q : VK} {us : List Value} {vs : List V} (F : FnOk X.prog X.w X.K X.mg X.base CX k f fd ps sp) (hr : Room k X.A) (hb : Binds X.K fd ps ds) (hd : Vals dvs ds) (hx : PassesS CX X E)
    (I : Inv X pins σ H s) (r : Vals vs us) (h : sp (vs ++ dvs) H Q (E σ)) : wpAny (model X.prog X.w) X.A (call (.ref f) us) (EP X pins σ Q) X.xe s := by
  have r2 : Vals (vs ++ dvs) (us ++ ds) := r.append hd
  have hl : (us ++ ds).length = ps.length := by rw [← r2.length]; exact F.len _ _ _ _ h
  refine wpAny_call (codeAny_mono (F.run X.A X.stack s H ⟨us, []⟩ (us ++ ds) (vs ++ dvs) Q (E σ) hr I.env0 (hb s us I.kIn hl) r2 h) fun r s' hq => ?_)
  cases r with
  | error e => exact hx pins σ H s e s' I hq
  | ok fl =>
    cases fl with
    | ret u => exact I.after hq
    | next => exact False.elim hq
    | brk => exact False.elim hq
    | cont => exact False.elim hq
theorem pe_callS (F : FnOk X.prog X.w X.K X.mg X.base CX k f fd ps sp) (hr : Room k X.A) (hg : Gl X x) (hm : X.mg x = some (.ref f)) (hk : PySem.W.keepIn X.K (.ref f) = true) (hb : Binds X.K fd ps ds) (hd : Vals dvs ds) (hx : PassesS CX X E)
    (ha : PA X (e :: es) t) (hdb : (x == ("__debug__" : Str)) = false := by decide) (he : starEach (e :: es) X.env = (false, eval e X.env) :: starEach es X.env := by rfl) (hpl : (backTo pos (starEach es X.env)).any (·.1) = false := by rfl) :
    PE X (.Call (.Name x p) (e :: es) [] pos) (tCallS sp dvs E t) := by
  intro pins s σ H Q I h
  refine wpAny_Call_Name_kw (ld_glob I hg hm ?_ hdb)
  refine PySem.W.callWith_K (h₀ := X.base) I.ok.mod.kin hk (thn (ha pos pins s σ H _ I h) fun us s1 ⟨vs, H1, I1, r, q⟩ => ⟨I1.kIn, ?_⟩) he hpl
  exact run_fnS F hr hb hd hx I1 r q
end
noncomputable abbrev Cx.hnd (X : Cx) (a : Addr) : Cx := { X with A := X.A.mark (some (.ref a)), calm := false, xe := fun _ _ => False }
noncomputable abbrev Cx.trying (X : Cx) (pn : List (Addr × Obj)) (xe : Value → Shared → Prop) : Cx := { X with pn := pn, xe := xe }
section
variable {X : Cx} {pins : List (Addr × Obj)} {σ : St} {H : Hp} {s : Shared}
theorem Cx.Ok.hnd (ok : X.Ok) (a : Addr) : (X.hnd a).Ok :=
  ⟨ok.mod, ok.kind, ok.glob, ok.blt, ok.above, ok.inj, ok.has, ok.cab, (fun z => by cases z), ok.frames, ok.stk, ok.exf, ok.bs, ok.bsz, ok.noex, ok.exfs, ok.funs, ok.frf⟩
theorem Inv.hnd (I : Inv X pins σ H s) (a : Addr) : Inv (X.hnd a) pins σ H s := ⟨I.ok.hnd a, I.os, I.bare, I.base, I.loc, I.cell, I.free, I.freeC, I.pin, I.hok, I.len⟩
theorem Inv.unhnd {a : Addr} (ok : X.Ok) (I : Inv (X.hnd a) pins σ H s) : Inv X pins σ H s := ⟨ok, I.os, I.bare, I.base, I.loc, I.cell, I.free, I.freeC, I.pin, I.hok, I.len⟩
theorem Cx.Ok.trying (ok : X.Ok) (pn : List (Addr × Obj)) (xe : Value → Shared → Prop) : (X.trying pn xe).Ok :=
  ⟨ok.mod, ok.kind, ok.glob, ok.blt, ok.above, ok.inj, ok.has, ok.cab, ok.hd, ok.frames, ok.stk, ok.exf, ok.bs, ok.bsz, ok.noex, ok.exfs, ok.funs, ok.frf⟩
theorem Inv.trying (I : Inv X pins σ H s) (xe : Value → Shared → Prop) : Inv (X.trying (X.pn ++ pins) xe) [] σ H s :=
  ⟨I.ok.trying _ _, I.os, I.bare, I.base, I.loc, I.cell, I.free, I.freeC, fun p hp => I.pin p (by simpa using hp), I.hok, I.len⟩
theorem Inv.untrying {pins' : List (Addr × Obj)} {xe : Value → Shared → Prop} (ok : X.Ok) (I : Inv (X.trying (X.pn ++ pins) xe) pins' σ H s) : Inv X pins σ H s :=
  ⟨ok, I.os, I.bare, I.base, I.loc, I.cell, I.free, I.freeC, fun p hp => I.pin p (List.mem_append_left _ hp), I.hok, I.len⟩
noncomputable def excO (a : Addr) (cls : Value) : HO := .ext fun h => ∃ o, h.get? a = some o ∧ o.cls = cls
theorem caught_inv {H1 H2 : Hp} {s1 s2 : Shared} {a : Addr} {cls a0 : Value} {B h : Heap} (I : Inv X pins σ H1 s1) (ho : s2.os = s1.os) (hb : AllBare s2.gens) (un : Un (frs X.stack) [] H1 H2 s1.heap s2.heap) (hok : HOk X.prog X.w H2 s2.heap)
    (inB : ∀ b o, s1.heap.get? b = some o → b ∉ frs X.stack → ∃ o', B.get? b = some o') (trB : ∀ b u o, H2 b = some u → s2.heap.get? b = some o → B.get? b = some o)
    (st0 : B.StaysIn s2.heap) (fl : Heap.FlyingW B X.stack a cls a0 h) (up : s2.heap.UpToSlots h) : H2 a = none ∧ Inv X pins σ (upd H2 a (excO a cls)) { s2 with heap := h } := by
  have st := fl.1
  have nB := fl.2.1
  have na : H2 a = none := by
    cases q : H2 a with
    | none => rfl
    | some u =>
      obtain ⟨o, e⟩ := (hok a u q).is
      have := trB a u o q e
      rw [nB] at this
      cases this
  obtain ⟨oe, vs, he, hc, hd, _⟩ := fl.first
  have frUp : ∀ b o, b ∈ frs X.stack → s1.heap.get? b = some o → ∃ sl, h.get? b = some { o with slots := sl } ∧ ∀ vs, o.data ≠ .fields vs := fun b o z e1 => by
    obtain ⟨_, o2, e2, nf⟩ := I.stack.mem (show b ∈ X.stack.filterMap (·.frame) from z)
    rw [e1] at e2
    cases e2
    obtain ⟨sl, e3⟩ := un.slot b o e1 (I.stkFree b z) z (by simp)
    obtain ⟨sl2, e4⟩ := up b _ e3 nf
    exact ⟨sl2, e4, nf⟩
  have ex : ∀ b o, s1.heap.get? b = some o → H1 b = none → b ∉ frs X.stack → B.get? b = some o := fun b o e n hb => by
    obtain ⟨o1, e1⟩ := inB b o e hb
    have e2 := st0 b o1 e1
    have e3 : s2.heap.get? b = some o := un.keep b o e n hb (by simp)
    rw [e2] at e3
    cases e3
    exact e1
  have ne : ∀ b o, s1.heap.get? b = some o → b ≠ a := fun b o e z => by
    subst z
    by_cases hb : b ∈ frs X.stack
    · obtain ⟨sl, e2, nf⟩ := frUp b o hb e
      rw [he] at e2
      cases e2
      exact nf vs hd
    · obtain ⟨o', e'⟩ := inB b o e hb
      rw [nB] at e'
      cases e'
  refine ⟨na, I.call' (s' := { s2 with heap := h }) (ch := []) ho ⟨fun b o e n hb _ => ?_, fun b o e n hb _ => ?_, fun b o e n _ => ?_, fun b o e _ => ?_, fun b xs q => ?_, fun b ob xs q => ?_, fun b ps q => ?_⟩ (fun c u e => ?_) hb fun b z => absurd z (by simp)⟩
  · exact st b o (ex b o e n hb)
  · obtain ⟨sl, e2, _⟩ := frUp b o hb e
    exact ⟨sl, e2⟩
  · rw [upd_ne (ne b o e)]
    exact un.free b o e n (by simp)
  · by_cases hb : b ∈ frs X.stack
    · obtain ⟨sl, e2, _⟩ := frUp b o hb e
      exact ⟨_, e2⟩
    · obtain ⟨o', e'⟩ := inB b o e hb
      exact ⟨o', st b o' e'⟩
  · have z := un.tups b xs q
    rw [upd_ne (ne_of_none z na)]
    exact z
  · have z := un.frzs b ob xs q
    rw [upd_ne (ne_of_none z na)]
    exact z
  · obtain ⟨m, z⟩ := un.tbls b ps q
    exact ⟨m, by rw [upd_ne (ne_of_none z na)]; exact z⟩
  · by_cases hca : c = a
    · subst hca
      rw [upd_same] at e
      cases e
      exact ⟨⟨oe, he, hc⟩, ⟨oe, he⟩, fun h1 h2 ⟨o, e1, c1⟩ k => ⟨o, k o e1, c1⟩⟩
    · rw [upd_ne hca] at e
      refine (hok c u e).stay (fun d v hd' q => ?_) (fun d q => by rw [upd_ne (ne_of_none q na)]; exact q) fun d xs q => by rw [upd_ne (ne_of_none q na)]; exact q
      refine st d v ?_
      rcases hd' with rfl | hd'
      · exact trB d u v e q
      · exact trB d _ v hd' q
/-- the name goes behind the suite -/
theorem unname_ok {M : Model} {A : Around} {E : Value → Shared → Prop} {i : Nat} {n : Str} {pos : Pos} {Q : Unit → Shared → Prop} (I : Inv X pins σ H s) (hN : X.N.Nodup) (hi : X.N[i]? = some n) (hn : X.env.scope.names.lookup n = some .local)
    (h : ∀ s', Inv X pins (σ.set i none) H s' → Q () s') : wpAny M A (do bindName X.env n .none; unbindBehindTheSuite X.env n pos) Q E s := by
  obtain ⟨m, hns, hl⟩ := id I.loc
  have hcls : (X.env.scope.kind == .class || (X.env.scope.kind == .module && X.env.locals != X.env.globals)) = false := by rw [I.ok.kind]; rfl
  have hiσ : i < σ.length := by rw [I.len]; exact (List.getElem?_eq_some_iff.mp hi).1
  refine wpAny_nameGoes_keeps hn hns hcls fun h' v hn' hs => ?_
  have neL : ∀ b o, X.s₀.heap.get? b = some o → b ≠ X.env.locals := fun b o e => Nat.ne_of_lt (Nat.lt_of_lt_of_le (Heap.lt_size e) I.ok.above)
  refine h _ ⟨I.ok, I.os, I.bare, ⟨fun b o e n hb hx => ?_, fun b o e n hb hx => ?_, I.base.free, fun b o e hx => ?_, I.base.tups, I.base.frzs, I.base.tbls⟩, ⟨_, hn', fun j y v' e1 e2 e3 => ?_⟩, fun y c e => ?_, I.free, I.freeC, fun p hp => ?_, fun b ob e => ?_, by simpa using I.len⟩
  · exact (hs.2 b (neL b o e)).trans (I.base.keep b o e n hb hx)
  · obtain ⟨sl, e1⟩ := I.base.slot b o e n hb hx
    exact ⟨sl, (hs.2 b (neL b o e)).trans e1⟩
  · obtain ⟨o', e1⟩ := I.base.there b o e hx
    exact ⟨o', (hs.2 b (neL b o e)).trans e1⟩
  · by_cases hj : j = i
    · subst hj
      rw [List.getElem?_set_self hiσ] at e2
      cases e2
    · rw [List.getElem?_set_ne (Ne.symm hj)] at e2
      obtain ⟨u', r', q⟩ := hl j y v' e1 e2 e3
      refine ⟨u', r', ?_⟩
      rcases q with ⟨k, e⟩ | ⟨k, c, e, z⟩
      · refine .inl ⟨k, ?_⟩
        have : y ≠ n := fun e => hj (nodup_ix hN e1 (e ▸ hi))
        simp [this, e]
      · exact .inr ⟨k, c, e, z.sameBut hs (I.cne y c e)⟩
  · obtain ⟨w', z⟩ := I.cell y c e
    exact ⟨w', z.sameBut hs (I.cne y c e)⟩
  · obtain ⟨e, n, ne, nf, d⟩ := I.pin p hp
    exact ⟨(hs.2 p.1 ne).trans e, n, ne, nf, d⟩
  · refine (I.hok b ob e).stay (fun c w' hc q => (hs.2 c ?_).trans q) (fun _ q => q) fun _ _ q => q
    intro z
    rw [z] at hc
    rcases hc with hc | hc
    · rw [← hc, I.free] at e
      cases e
    · rw [I.free] at hc
      cases hc
end
noncomputable def tTry (K : PySem.W.Frag) (cv : Value) (i : Nat) (E : St → XK) (tb ts : TS) : TS := fun D σ H => tb D σ H ∧ ∀ (σ' : St) (cls : Value) (H' : Hp) (a : Addr), E σ' cls none H' → H' a = none →
  PySem.W.exmOne K cls cv = some true ∧ ts { nx := fun σ2 H2 => D.nx (σ2.set i none) H2, rt := D.rt, bk := fun σ2 H2 => D.bk (σ2.set i none) H2, ct := fun σ2 H2 => D.ct (σ2.set i none) H2 } (σ'.set i (some (.ref a))) (upd H' a (excO a cls))
section
variable {X : Cx}
theorem ps_tryAs {x n : Str} {i : Nat} {np hpos pos : Pos} {cv : Value} {body suite : List Stmt} {b0 : Stmt} {E : St → XK} {tb ts : TS} (hN : X.N.Nodup) (hi : X.N[i]? = some n) (hn : X.env.scope.names.lookup n = some .local)
    (hg : Gl X x) (hm : X.mg x = some cv) (hb : ∀ pn xe, PassesS (CXE X.prog X.w) (X.trying pn xe) E → PSs (X.trying pn xe) body tb) (hs : ∀ a, PSs (X.hnd a) (b0 :: suite) ts)
    (hstk : X.stack = X.env :: X.outer := by rfl) (hfr : X.env.frame = some X.env.locals := by rfl) (hdb : (x == ("__debug__" : Str)) = false := by decide) :
    PS X (.Try body [.ExceptHandler (some (.Name x np)) (some n) (b0 :: suite) hpos] [] [] pos) (tTry X.K cv i E tb ts) := by
  intro pins s σ H D I h
  obtain ⟨h1, h2⟩ := h
  have hLn : Loc X.env.scope n := .inl hn
  refine wpAny_Try_except ?_
  let xe : Value → Shared → Prop := fun e s' => ∃ σ1 H1 s1, Inv X pins σ1 H1 s1 ∧ CXE X.prog X.w X.stack H1 s1 (E σ1) e s'
  have body' := hb (X.pn ++ pins) xe (fun pins' σ' H' s' e s'' I' c => ⟨σ', H', s', I'.untrying I.ok, c⟩) [] s σ H D (I.trying xe) h1
  refine wpAny_mono body' (fun f s1 q => ?_) fun e s2 q => ?_
  · cases f with
    | next =>
      obtain ⟨σ', H', I', q⟩ := q
      exact wpAny_execs_nil ⟨σ', H', I'.untrying I.ok, q⟩
    | brk => obtain ⟨σ', H', I', q⟩ := q; exact ⟨σ', H', I'.untrying I.ok, q⟩
    | cont => obtain ⟨σ', H', I', q⟩ := q; exact ⟨σ', H', I'.untrying I.ok, q⟩
    | ret u => obtain ⟨v, σ', H', I', r, q⟩ := q; exact ⟨v, σ', H', I'.untrying I.ok, r, q⟩
  · obtain ⟨σ1, H1, s1, I1, a, cls, a0, B, H2, rfl, ho, hbare, fl, un, hok, inB, trB, hE⟩ := q
    have fl' := fl
    rw [hstk] at fl'
    have frm : X.A.frames = some (X.env :: X.outer) := by rw [← hstk]; exact I.ok.frames
    refine wpAny_looks_onW frm hfr fl' fun h3 hheld up3 => ?_
    refine wpAny_landsW hheld fun h5 fl5 up5 => ?_
    have up5' := up3.trans up5
    have fl5' : Heap.FlyingW B X.stack a cls a0 h5 := by rw [hstk]; exact fl5
    obtain ⟨na, I5⟩ := caught_inv I1 ho hbare un hok inB trB fl.1 fl5' up5'
    obtain ⟨hmatch, hts⟩ := h2 σ1 cls H2 a hE na
    refine wpAny_handleBy_cons (codeAny_handlers_test (ld_glob (I5.hnd a) hg hm ?_ hdb)) (by intro q; cases q)
    obtain ⟨oe, hoe, hoc⟩ := fl5.there
    have LT : PySem.W.Looks (model X.prog X.w) h5 (typeOf (.ref a)) cls := hoc ▸ (PySem.W.Looks.ld hoe).andThen .now
    refine (PySem.W.exm_one I5.kIn LT hmatch).here (codeAny_handlers_suite_as ?_)
    refine lands_againW fl5 fun h6 fl6 up6 => ?_
    have fl6' : Heap.FlyingW B X.stack a cls a0 h6 := by rw [hstk]; exact fl6
    obtain ⟨_, I6⟩ := caught_inv I1 ho hbare un hok inB trB fl.1 fl6' (up5'.trans up6)
    refine store_ok I6 hN hi hLn (v := .ref a) rfl (fun s7 I7 => ?_) (.inr hn)
    refine wpAny_mono (hs a pins s7 _ _ _ (I7.hnd a) hts) (fun f s8 q => ?_) fun _ _ z => False.elim z
    cases f with
    | next =>
      obtain ⟨σ2, H3, I8, q⟩ := q
      exact unname_ok (I8.unhnd I.ok) hN hi hn fun s9 I9 => ⟨_, H3, I9, q⟩
    | brk =>
      obtain ⟨σ2, H3, I8, q⟩ := q
      exact unname_ok (I8.unhnd I.ok) hN hi hn fun s9 I9 => ⟨_, H3, I9, q⟩
    | cont =>
      obtain ⟨σ2, H3, I8, q⟩ := q
      exact unname_ok (I8.unhnd I.ok) hN hi hn fun s9 I9 => ⟨_, H3, I9, q⟩
    | ret u =>
      obtain ⟨v, σ2, H3, I8, r, q⟩ := q
      exact unname_ok (I8.unhnd I.ok) hN hi hn fun s9 I9 => ⟨v, _, H3, I9, r, q⟩
/-- isinstance(e, C) of a taken exception, where it is one -/
theorem call_isiE {K : PySem.W.Frag} (hK : X.K = K) : CallR X (.builtin "isinstance") (fun xs H Q => ∃ a cls c cv, xs = [.ref a, c] ∧ ClsV c cv ∧ H a = some (excO a cls) ∧ PySem.W.kitOne K cls cv = some true ∧ Q (.bl true) H) := by
  subst hK
  intro pins s σ H xs us Q I r h
  obtain ⟨a, cls, c, cv, rfl, hc, ha, e, q⟩ := h
  obtain ⟨u, w', rfl, r1, r2⟩ := vals2 r
  have ec : w' = cv := by
    cases hc with
    | ty T => exact r2
    | own C => exact r2
  subst ec
  cases r1
  obtain ⟨⟨o, ho, hcl⟩, _⟩ := I.hok a _ ha
  have LT : PySem.W.Looks (model X.prog X.w) s.heap (typeOf (.ref a)) cls := hcl ▸ (PySem.W.Looks.ld ho).andThen .now
  have fin : EP X pins σ Q (.bool true) s := ⟨.bl true, H, I, rfl, q⟩
  refine call_isinstance_of ?_
  unfold Builtin.«isinstance.nested»
  refine wpAny_bind (LT.here ?_)
  unfold PySem.W.kitOne at e
  by_cases z : (cls == w') = true
  · rw [if_pos z]
    repeat (first | refine wpAny_pure ?_ | refine wpAny_rule ?_ | refine wpAny_bind ?_)
    exact fin
  · rw [if_neg z] at e ⊢
    obtain ⟨hty, his, hsub⟩ := PySem.W.kit_cls (M := model X.prog X.w) I.kIn e
    refine wpAny_bind (hty.here ?_)
    rw [if_pos (by decide)]
    refine wpAny_bind (wpAny_bind (m := isType w') (his.here ?_))
    refine wpAny_bind (m := isInstance (.ref a) w') ((LT.andThen hsub).here ?_)
    exact wpAny_pure (a := true) (wpAny_pure fin)
end
end L2

set_option Elab.async false
set_option linter.all false
set_option maxRecDepth 100000
set_option maxHeartbeats 4000000
namespace L2
open PySem PySem.Spec PyProof.Rows
/-! ### [e for x in src] -/
section
variable {prog : Program} {w : World} {A : Around} {R : Result → Shared → Prop} {s : Shared}
theorem comp_loop {elt target iter : Expr} {scope : Scope} {pos : Pos} {it acc : Value} {env : Env} (J : Nat → Shared → Prop)
    (turn : ∀ n s, J n s → wpAny (model prog w) A (pyNext it) (fun r s1 => match r with
      | none => R (.ok .next) s1
      | some v => wpAny (model prog w) A (letOwnedTupleGo target it v) (fun _ s2 => wpAny (model prog w) A (assign target env v) (fun _ s3 => wpAny (model prog w) A (eval elt env) (fun x s4 =>
          wpAny (model prog w) A (call (.builtin "list.append") [acc, x]) (fun _ s5 => ∃ m, m < n ∧ J m s5) (fun _ _ => False) s4) (fun _ _ => False) s3) (fun _ _ => False) s2) (fun _ _ => False) s1) (fun _ _ => False) s)
    (n : Nat) (h : J n s) : codeAny (model prog w) A (.compLoop (.ListComp elt [⟨target, iter, [], 0⟩] scope pos) 0 it acc env) R s := by
  refine codeAny_loop rfl J (fun n s hI => ?_) n h
  show wpAny _ _ ((compTurn (.ListComp elt [⟨target, iter, [], 0⟩] scope pos) 0 it acc env).onRaise (fun x => do noteFrame x env; theTreesLotGoes x)) _ _ s
  refine wpAny_noted ?_
  rw [compTurn_list1]
  refine wpAny_bind (wpAny_standAt (wpAny_bind (wpAny_mono (turn n s hI) (fun r s1 h1 => ?_) fun _ _ z => False.elim z)))
  cases r with
  | none => exact wpAny_pure h1
  | some v =>
    refine wpAny_bind (wpAny_mono h1 (fun _ s2 h2 => ?_) fun _ _ z => False.elim z)
    refine wpAny_bind (wpAny_mono h2 (fun _ s3 h3 => ?_) fun _ _ z => False.elim z)
    refine wpAny_bind (wpAny_bind (wpAny_mono h3 (fun y s4 h4 => ?_) fun _ _ z => False.elim z))
    refine wpAny_bind (wpAny_mono h4 (fun _ s5 h5 => ?_) fun _ _ z => False.elim z)
    exact wpAny_pure (wpAny_pure ⟨rfl, h5⟩)
end
noncomputable def compCx (X : Cx) (scope : Scope) (cl : List (Str × Addr)) (N : List Str) (C : Addr) (s0 : Shared) (H0 : Hp) (ex : List Addr) : Cx :=
  { X with N := N, env := compEnvC scope cl C X.env, s₀ := s0, H₀ := H0, outer := X.stack, stack := X.stack, ex := ex, fn := fun _ => false, pn := [], xe := fun _ _ => False }
/-- W: by the turn, a measure, what has been made, the heap -/
noncomputable def CompW (J : It) (js : List Nat) (te : TE) (σ : St) (H : Hp) (Q : VK) : Prop := ∃ W : Nat → Nat → List V → Hp → Prop, (∃ m, W 0 m [] H) ∧ ∀ i m ys H2, W i m ys H2 →
  (J.stop i H2 ∧ ∀ d, H2 d = none → Q (.ref d) (upd H2 d (.lst ys))) ∨
  (J.go i H2 ∧ ys.length < sizeLine ∧ ∀ x H3, J.yld i H2 x H3 → te (some x :: js.map fun j => σ.getD j none) H3 fun y H4 => ∃ m', m' < m ∧ W (i + 1) m' (ys ++ [y]) H4)
noncomputable def tComp (wi : TI) (js : List Nat) (te : TE) : TE := fun σ H Q => wi σ H fun J H1 => CompW J js te σ H1 Q
section
variable {X : Cx}
theorem lookup_relabel_free {env : Env} : ∀ {names : List (Str × NameKind)} {x : Str}, (names.map fun (n, k) => if (k == NameKind.free && env.scope.kind == .function && env.kindOf n == some .cell) then (n, NameKind.cell) else (n, k)).lookup x = some .cell →
    names.lookup x = some .cell ∨ names.lookup x = some .free
  | [], _, h => by simp at h
  | (n, k) :: r, x, h => by
    have ih := @lookup_relabel_free env r x
    rw [List.map_cons] at h
    by_cases hx : x = n
    · subst hx
      by_cases hc : (k == NameKind.free && env.scope.kind == .function && env.kindOf x == some .cell) = true
      · right
        simp only [Bool.and_eq_true, beq_iff_eq] at hc
        simp [List.lookup_cons, hc.1.1]
      · left
        simp only [hc, Bool.false_eq_true, if_false, List.lookup_cons, beq_self_eq_true] at h
        simp only [List.lookup_cons, beq_self_eq_true]
        exact h
    · have hb : (x == n) = false := by simpa using hx
      simp only [List.lookup_cons, hb]
      refine ih ?_
      by_cases hc : (k == NameKind.free && env.scope.kind == .function && env.kindOf n == some .cell) = true
      · simp only [hc, if_true, List.lookup_cons, hb] at h
        exact h
      · simp only [hc, Bool.false_eq_true, if_false, List.lookup_cons, hb] at h
        exact h
theorem lookup_relabel_free2 {env : Env} : ∀ {names : List (Str × NameKind)} {x : Str}, (names.map fun (n, k) => if (k == NameKind.free && env.scope.kind == .function && env.kindOf n == some .cell) then (n, NameKind.cell) else (n, k)).lookup x = some .free →
    names.lookup x = some .free
  | [], _, h => by simp at h
  | (n, k) :: r, x, h => by
    have ih := @lookup_relabel_free2 env r x
    rw [List.map_cons] at h
    by_cases hx : x = n
    · subst hx
      by_cases hc : (k == NameKind.free && env.scope.kind == .function && env.kindOf x == some .cell) = true
      · simp only [hc, if_true, List.lookup_cons, beq_self_eq_true] at h
        cases h
      · simp only [hc, Bool.false_eq_true, if_false, List.lookup_cons, beq_self_eq_true] at h
        simp only [List.lookup_cons, beq_self_eq_true]
        exact h
    · have hb : (x == n) = false := by simpa using hx
      simp only [List.lookup_cons, hb]
      refine ih ?_
      by_cases hc : (k == NameKind.free && env.scope.kind == .function && env.kindOf n == some .cell) = true
      · simp only [hc, if_true, List.lookup_cons, hb] at h
        exact h
      · simp only [hc, Bool.false_eq_true, if_false, List.lookup_cons, hb] at h
        exact h
/-- the closure's cells are the frame's -/
structure Clos (X : Cx) (scope : Scope) (cl : List (Str × Addr)) (fr : List Str) (js : List Nat) : Prop where
  clos : closureFor scope X.env = pure cl
  sub : ∀ y c, cl.lookup y = some c → X.env.cells.lookup y = some c
  has : ∀ y, scope.names.lookup y = some .free → ∃ c, cl.lookup y = some c
  at' : ∀ (j : Nat) (y : Str), fr[j]? = some y → ∃ i : Nat, js[j]? = some i ∧ X.N[i]? = some y ∧ X.env.scope.names.lookup y = some .cell ∧ scope.names.lookup y = some .free
  len : fr.length = js.length
theorem Clos.none {scope : Scope} (hfree : ∀ y ∈ scope.names, y.2 ≠ .free) : Clos X scope [] [] [] where
  clos := closureFor_none hfree
  sub := fun _ _ e => by simp at e
  has := fun y e => absurd rfl (hfree _ (PySem.mem_of_lookup e))
  at' := fun j y e => by simp at e
  len := rfl
theorem relabel_cell {scope : Scope} {env : Env} {y : Str} (hk : env.scope.kind = .function) (h : scope.names.lookup y = some .free) (hc : env.kindOf y = some .cell) : (relabel scope env).names.lookup y = some .cell := by
  unfold relabel
  show List.lookup y (scope.names.map _) = _
  generalize scope.names = names at h
  induction names with
  | nil => simp at h
  | cons p r ih =>
    obtain ⟨n, k⟩ := p
    rw [List.map_cons]
    by_cases hy : y = n
    · subst hy
      simp only [List.lookup_cons, beq_self_eq_true] at h
      cases h
      simp [List.lookup_cons, hk, hc]
    · have hb : (y == n) = false := by simpa using hy
      simp only [List.lookup_cons, hb] at h
      have := ih h
      by_cases hz : (k == NameKind.free && env.scope.kind == .function && env.kindOf n == some .cell) = true
      · simp only [hz, if_true, List.lookup_cons, hb]
        exact this
      · simp only [hz, Bool.false_eq_true, if_false, List.lookup_cons, hb]
        exact this
theorem pe_comp {elt iter : Expr} {x : Str} {px : Pos} {scope : Scope} {cl : List (Str × Addr)} {fr : List Str} {js : List Nat} {pos : Pos} {wi : TI} {te : TE} (hcalm : X.calm = true) (hC : Clos X scope cl fr js)
    (hcell : ∀ y ∈ scope.names, y.2 ≠ .cell) (hkind : scope.kind = .function) (hnames : ∀ y ∈ scope.names, y.2 = .local → scope.names.lookup y.1 = some .local) (hx : scope.names.lookup x = some .local) (hnd : (x :: fr).Nodup)
    (hi : PI X (.Name x px) iter wi) (helt : ∀ C s0 H0 ex, PE (compCx X scope cl (x :: fr) C s0 H0 ex) elt te) (hs : ∀ v, foldedSetIterable iter X.env v = pure v := by intro _; rfl) :
    PE X (.ListComp elt [⟨.Name x px, iter, [], 0⟩] scope pos) (tComp wi js te) := by
  intro pins s σ H Q I h
  rw [eval_ListComp]
  refine wpAny_comprehension_free (use := none) rfl hs hC.clos hkind hnames ?_
  refine thn (hi pins s σ H _ I h) fun v s1 h1 => thn h1 fun itv s2 h2 => ?_
  obtain ⟨it, fp, tn, J, H1, e, I2, T, st2, f2, W, ⟨m0, w0⟩, turn⟩ := h2
  subst e
  have fpIn : ∀ b ∈ fp, b < s2.heap.objs.size := fun b hb => by
    obtain ⟨o, e, _⟩ := T.obj _ _ st2 b hb
    exact Heap.lt_size e
  refine wpAny_newObj_type (wpAny_newFunctionEnv hcell (by intro y hy; simp at hy) (fun h1 hns1 hsb1 => ?_) hkind)
  dsimp only at hns1 hsb1 ⊢
  generalize hH2 : s2.heap.push { cls := .type "list", dict := none, data := .seq ([] : List Value).toArray } = G2 at hns1 hsb1 ⊢
  have hCe : G2.objs.size = s2.heap.objs.size + 1 := by rw [← hH2, Heap.size_push]
  have below : ∀ b, b < s2.heap.objs.size → b ≠ G2.objs.size ∧ b ≠ s2.heap.objs.size := fun b hb => ⟨by rw [hCe]; exact Nat.ne_of_lt (Nat.lt_succ_of_lt hb), Nat.ne_of_lt hb⟩
  have hDC : s2.heap.objs.size ≠ G2.objs.size := by rw [hCe]; exact Nat.ne_of_lt (Nat.lt_succ_self _)
  have old : ∀ b o, s2.heap.get? b = some o → h1.get? b = some o := fun b o e => hsb1.extBut b o (below b (Heap.lt_size e)).1 (Heap.get?_push_of_some _ (hH2 ▸ Heap.get?_push_of_some _ e))
  have hacc : h1.get? s2.heap.objs.size = some { cls := .type "list", data := .seq ([] : List Value).toArray } := hsb1.extBut _ _ hDC (Heap.get?_push_of_some _ (hH2 ▸ Heap.get?_push_size _ rfl))
  -- the block's context
  let Y := compCx X scope cl (x :: fr) G2.objs.size s2 H1 fp
  have fs_sub : ∀ b ∈ fp, b ∉ frs X.stack := fun b hb z => by
    obtain ⟨_, q1, q2, _⟩ := f2 b hb
    rcases List.mem_cons.mp (I2.stkSub b z) with z | z
    · exact q1 z
    · exact q2 z
  have hkf : X.env.scope.kind = .function := I.ok.kind
  have okY : Y.Ok := by
    refine ⟨I2.ok.mod, ?_, I2.ok.glob, I2.ok.blt, ?_, fun y z c e1 e2 => I2.ok.inj y z c (hC.sub y c e1) (hC.sub z c e2), fun y hy => ?_, fun y c hf => (by cases hf), I2.ok.hd, I2.ok.frames, .inl rfl, fun b hb => ⟨(below b (fpIn b hb)).1, fun y c e => (f2 b hb).2.2.2.2.1 y c (hC.sub y c e)⟩,
      I2.bs, Nat.le_trans I2.ok.bsz I2.sz, fun b o e hb => ?_, fs_sub, I2.stack, I2.stkFree⟩
    · show (relabel scope X.env).kind = .function
      exact hkind
    · show s2.heap.objs.size ≤ G2.objs.size
      omega
    · have hy' : (relabel scope X.env).names.lookup y = some .cell ∨ (relabel scope X.env).names.lookup y = some .free := hy
      rcases hy' with q | q
      · rcases lookup_relabel_free q with q | q
        · exact absurd rfl (hcell _ (PySem.mem_of_lookup q))
        · exact hC.has y q
      · exact hC.has y (lookup_relabel_free2 q)
    · obtain ⟨_, _, _, q3, _⟩ := f2 b hb
      rcases q3 with q3 | q3
      · exact I2.ok.noex b o e q3
      · exact absurd (Nat.lt_of_lt_of_le (Heap.lt_size e) (Nat.le_trans I2.ok.bsz q3)) (Nat.lt_irrefl _)
  have fpY : ∀ {pn : List (Addr × Obj)} {G : Hp}, (∀ b ∈ fp, G b = none) → (∀ p ∈ pn, p.1 ∉ fp) → ∀ b ∈ fp, FpOk Y pn G b := fun {pn G} hG hp b hb =>
    ⟨hG b hb, (below b (fpIn b hb)).1, fs_sub b hb, .inl hb, fun y c e => (f2 b hb).2.2.2.2.1 y c (hC.sub y c e), fun p hq z => hp p (show p ∈ ([] : List (Addr × Obj)) ++ pn from hq) (z ▸ hb)⟩
  let D := s2.heap.objs.size
  have hDf : D ∉ fp := fun z => Nat.lt_irrefl _ (fpIn D z)
  have hDs : D ∉ frs X.stack := fun z => by
    obtain ⟨_, o, e, _⟩ := I2.stack.mem (show D ∈ X.stack.filterMap (·.frame) from z)
    exact absurd (Heap.lt_size e) (Nat.lt_irrefl _)
  -- the frame's part of the state that the block reads
  have frL : ∀ (j : Nat) (y : Str) (v : V), fr[j]? = some y → (js.map fun j => σ.getD j none)[j]? = some (some v) → ∃ c u, cl.lookup y = some c ∧ RelV v u ∧ s2.heap.IsCell c (some u) ∧ (relabel scope X.env).names.lookup y = some .cell := fun j y v e1 e2 => by
    obtain ⟨i, g1, g2, g3, g4⟩ := hC.at' j y e1
    rw [List.getElem?_map, g1] at e2
    have e2' : σ.getD i none = some v := Option.some.inj e2
    have e3 : σ[i]? = some (some v) := by
      rw [List.getD_eq_getElem?_getD] at e2'
      cases q : σ[i]? with
      | none => rw [q] at e2'; cases e2'
      | some z => rw [q] at e2'; exact congrArg some e2'
    obtain ⟨m, hn, hl⟩ := I2.loc
    obtain ⟨u, r, lk⟩ := hl i y v g2 e3 (.inr (.inl g3))
    obtain ⟨c, ec⟩ := hC.has y g4
    rcases lk with ⟨k, _⟩ | ⟨_, c', ec', z⟩
    · have k' : X.env.scope.names.lookup y = some .local := k
      rw [g3] at k'
      cases k'
    · have := hC.sub y c ec
      rw [ec'] at this
      cases this
      exact ⟨_, u, ec, r, z, relabel_cell hkf g4 g3⟩
  have cellIn : ∀ y c, cl.lookup y = some c → ∃ v, s2.heap.IsCell c v := fun y c e => I2.cell y c (hC.sub y c e)
  have cellFree : ∀ y c, cl.lookup y = some c → H1 c = none := fun y c e => I2.freeC y c (hC.sub y c e)
  have cellOut : ∀ y c, cl.lookup y = some c → c ∉ fp := fun y c e z => (f2 c z).2.2.2.2.1 y c (hC.sub y c e) rfl
  have pins0 : ∀ (its : List Value) (k : Nat) (G : Hp) (hh : Heap), hh.get? D = some { cls := .type "list", data := .seq its.toArray k } → G D = none → ∀ p ∈ Y.pn ++ [(D, ({ cls := .type "list", data := .seq its.toArray k } : Obj))],
      hh.get? p.1 = some p.2 ∧ G p.1 = none ∧ p.1 ≠ Y.env.locals ∧ p.1 ∉ Y.fs ∧ ∀ v, p.2.data ≠ .cell v := fun its k G hh e n p hp => by
    have hp' : p = (D, ({ cls := .type "list", data := .seq its.toArray k } : Obj)) := by simpa [Y, compCx] using hp
    subst hp'
    exact ⟨e, n, hDC, hDs, fun v z => by cases z⟩
  -- the loop
  have loop : ∀ s3 : Shared, s3 = { s2 with heap := h1, toks := s2.toks + ([] : List (Str × Value)).length } →
      codeAny (model X.prog X.w) X.A (.compLoop (.ListComp elt [⟨.Name x px, iter, [], 0⟩] scope pos) 0 (.ref it) (.ref D) (compEnvC scope cl G2.objs.size X.env)) (compPost (model X.prog X.w) X.A X.xe Option.none (EP X pins σ Q) (.ref D) G2.objs.size) s3 := by
    rintro s3 rfl
    refine comp_loop (fun n s' => ∃ i ys its k H2 σc, Inv Y [(D, ({ cls := .type "list", data := .seq its.toArray k } : Obj))] σc H2 s' ∧ σc.drop 1 = (js.map fun j => σ.getD j none) ∧ tn i s'.heap ∧ (∀ b ∈ fp, H2 b = none) ∧ Vals ys its ∧ ys.length ≤ sizeLine ∧ W i n ys H2) ?_ m0 ?_
    · rintro n s' ⟨i, ys, its, k, H2, σc, I3, hσ, st3, fr3, rv, hz, w3⟩
      have hp3 : ∀ p ∈ [(D, ({ cls := .type "list", data := .seq its.toArray k } : Obj))], p.1 ∉ fp := fun p hp => by
        have hp' : p = (D, ({ cls := .type "list", data := .seq its.toArray k } : Obj)) := by simpa using hp
        subst hp'
        exact hDf
      rcases turn i n ys H2 w3 with ⟨stop, qn⟩ | ⟨go, hlt, step⟩
      · refine thn (T.done Y rfl rfl rfl hcalm i _ s' σc H2 _ I3 (fpY fr3 hp3) st3 stop) fun r s4 ⟨hr, I4⟩ => ?_
        subst hr
        obtain ⟨m4, hn4, _⟩ := I4.loc
        refine ⟨m4, hn4, fun h5 sb5 => ?_⟩
        have hd4 := I4.pin (D, ({ cls := .type "list", data := .seq its.toArray k } : Obj)) (by simp)
        have hd5 : h5.get? D = some { cls := .type "list", data := .seq its.toArray k } := (sb5.2 D hDC).trans hd4.1
        have nD : H2 D = Option.none := hd4.2.1
        have nC : H2 G2.objs.size = Option.none := I4.free
        have un4 : Un (frs X.stack) fp H1 H2 s2.heap s4.heap := I4.base
        have I5 : Inv X pins σ (upd H2 D (.lst ys)) { s4 with heap := h5 } := by
          refine I2.call' (s' := { s4 with heap := h5 }) (ch := fp) I4.os ⟨fun b o e n hb hx => ?_, fun b o e n hb hx => ?_, fun b o e n hx => ?_, fun b o e hx => ?_, fun b xs q => ?_, fun b ob xs q => ?_, fun b ps q => ?_⟩ (fun b u e => ?_) I4.bare fun b hb => ?_
          · exact (sb5.2 b (below b (Heap.lt_size e)).1).trans (un4.keep b o e n hb hx)
          · obtain ⟨sl, e1⟩ := un4.slot b o e n hb hx
            exact ⟨sl, (sb5.2 b (below b (Heap.lt_size e)).1).trans e1⟩
          · rw [upd_ne (below b (Heap.lt_size e)).2]
            exact un4.free b o e n hx
          · obtain ⟨o', e1⟩ := un4.there b o e hx
            exact ⟨o', (sb5.2 b (below b (Heap.lt_size e)).1).trans e1⟩
          · have z := un4.tups b xs q
            rw [upd_ne (ne_of_none z nD)]
            exact z
          · have z := un4.frzs b ob xs q
            rw [upd_ne (ne_of_none z nD)]
            exact z
          · obtain ⟨m, z⟩ := un4.tbls b ps q
            exact ⟨m, by rw [upd_ne (ne_of_none z nD)]; exact z⟩
          · by_cases hbD : b = D
            · subst hbD
              rw [upd_same] at e
              cases e
              exact ⟨hz, its, k, rv, hd5⟩
            · rw [upd_ne hbD] at e
              refine (I4.hok b u e).stay (fun c v hc q => (sb5.2 c ?_).trans q) (fun c q => by rw [upd_ne (ne_of_none q nD)]; exact q) fun c xs q => by rw [upd_ne (ne_of_none q nD)]; exact q
              intro z
              rw [z] at hc
              rcases hc with hc | hc
              · rw [← hc, nC] at e
                cases e
              · rw [nC] at hc
                cases hc
          · obtain ⟨_, q1, _, q3, q4, q5⟩ := f2 b hb
            exact ⟨q3, q1, q4, q5⟩
        exact ⟨.ref D, _, I5, rfl, qn D nD⟩
      · refine thn (T.item Y rfl rfl rfl hcalm i _ s' σc H2 _ I3 (fpY fr3 hp3) st3 go) fun r s4 ⟨u, hr, h4⟩ => ?_
        subst hr
        refine thn h4 fun _ s5 ⟨xv, H3, I5, r5, y5, st5, fr5⟩ => ?_
        have I5' : Inv Y ([(D, ({ cls := .type "list", data := .seq its.toArray k } : Obj))] ++ pinsAt fp s5.heap) σc H3 s5 := I5.pinned (fpY fr5 hp3) (T.obj _ _ st5)
        have hloc : Y.env.scope.names.lookup x = some .local := lookup_relabel_local hx
        refine wpAny_assign_Name (store_ok (i := 0) I5' hnd rfl (.inl hloc) r5 (fun s6 I6 => ?_) (.inr hloc))
        have eσ : σc.set 0 (some xv) = some xv :: js.map fun j => σ.getD j none := by
          have hl := I3.len
          cases σc with
          | nil => simp [Y, compCx] at hl
          | cons a r =>
            have hσ' : r = js.map fun j => σ.getD j none := hσ
            rw [List.set_cons_zero, hσ']
        rw [eσ] at I6
        refine thn (helt G2.objs.size s2 H1 fp _ s6 _ H3 _ I6 (step xv H3 y5)) fun yv s7 ⟨y, H4, I7, r7, m', hm, w7⟩ => ?_
        have pD := I7.pin (D, ({ cls := .type "list", data := .seq its.toArray k } : Obj)) (by simp)
        have hlen := rv.length
        refine call_meets F.slot_list_append ⟨_, pD.1, rfl⟩ F.entry_list_append (F.args_list_append_2 _ _) (PySem.list_append D its.toArray k yv (by rw [List.size_toArray]; omega)) ⟨pD.1, ?_⟩
        have e8 := PySem.IsL.update pD.1 (·.push yv)
        have I7' : Inv Y [] _ H4 s7 := I7.pins_of fun p hp => absurd hp (by simp)
        have fp7 : ∀ b ∈ fp, ∀ o, s5.heap.get? b = some o → s7.heap.get? b = some o ∧ H4 b = Option.none := fun b hb o e => by
          have q := I7.pin (b, o) (List.mem_append_right _ (List.mem_append_right _ (mem_pinsAt hb e)))
          exact ⟨q.1, q.2.1⟩
        have kp : ∀ b u, b ≠ D → s7.heap.get? b = some u → (s7.heap.update D (Obj.mapSeq (·.push yv))).get? b = some u := fun b u hb q => (Heap.get?_update_other _ _ (Ne.symm hb)).trans q
        have I8 : Inv Y [] _ H4 { s7 with heap := s7.heap.update D (Obj.mapSeq (·.push yv)) } := I7'.turned (t' := s7.toks) (it := D) (fun b o hb e => kp b o hb e) pD.2.1 hDC (.inr (Nat.le_refl _)) (fun z c e q => by
          obtain ⟨v, o, ho, hd⟩ := cellIn z c e
          rw [q] at ho
          exact absurd (Heap.lt_size ho) (Nat.lt_irrefl _)) (fun p hp => absurd hp (by simp [Y, compCx]))
        refine ⟨m', hm, i + 1, ys ++ [y], its ++ [yv], k + 1, H4, _, I8.pins_of fun p hp => ?_, rfl, ?_, fun b hb => ?_, rv.append (.cons r7 .nil), ?_, w7⟩
        · exact pins0 (its ++ [yv]) _ H4 _ (by rw [e8]; simp) pD.2.1 p (List.mem_append_right _ hp)
        · refine T.keep _ _ _ st5 fun b hb o e => ?_
          exact kp b o (fun z => hDf (z ▸ hb)) (fp7 b hb o e).1
        · obtain ⟨o, e, _⟩ := T.obj _ _ st5 b hb
          exact (fp7 b hb o e).2
        · rw [List.length_append, List.length_singleton]
          omega
    · refine ⟨0, [], [], 0, H1, Option.none :: js.map (fun j => σ.getD j none), ?_, rfl, ?_, fun b hb => (f2 b hb).1, .nil, Nat.zero_le _, w0⟩
      · refine ⟨okY, rfl, I2.bare, Un.kept old, ⟨_, hns1, fun j y v e1 e2 e3 => ?_⟩, fun y c e => ?_, I2.hok.fresh (by show s2.heap.objs.size ≤ G2.objs.size; omega), cellFree, pins0 [] 0 H1 h1 hacc (I2.hok.fresh (Nat.le_refl _)), I2.hok.kept old, ?_⟩
        · cases j with
          | zero => cases e2
          | succ j =>
            have e1' : fr[j]? = some y := e1
            have e2' : (js.map fun j => σ.getD j none)[j]? = some (some v) := e2
            obtain ⟨c, u, ec, r, ⟨o, ho, hd⟩, hk⟩ := frL j y v e1' e2'
            exact ⟨u, r, .inr ⟨.inl hk, c, ec, o, old c o ho, hd⟩⟩
        · obtain ⟨v, o, ho, hd⟩ := cellIn y c e
          exact ⟨v, o, old c o ho, hd⟩
        · show (Option.none :: js.map (fun j => σ.getD j none)).length = (x :: fr).length
          simp [hC.len]
      · exact T.keep _ _ _ st2 fun b hb o e => old b o e
  exact codeAny_compStart_list (loop _ rfl) (T.self X.A 0 _ _ _ (T.keep _ _ _ st2 fun b hb o e => old b o e) (loop _ rfl))
/-! ### all(xs), any(xs): a list or tuple of truths -/
theorem boolAt {ys : List V} {bs : List Bool} {its : List Value} (e : ys = bs.map V.bl) (r : Vals ys its) : its = bs.map Value.bool := by
  subst e
  induction bs generalizing its with
  | nil => cases r; rfl
  | cons b bs ih =>
    rw [List.map_cons] at r
    cases r with
    | cons r1 r2 =>
      cases r1
      rw [ih r2, List.map_cons]
theorem truth_bools {prog : Program} {w : World} {A : Around} (bs : List Bool) : TruthOf prog w A (fun i v => (bs.map Value.bool).toArray[i]? = some v) (fun i => bs.getD i false) := by
  intro i v s Q E hv hq
  have hv' : (bs.map Value.bool)[i]? = some v := by simpa using hv
  rw [List.getElem?_map] at hv'
  cases e : bs[i]? with
  | none => rw [e] at hv'; cases hv'
  | some b =>
    rw [e] at hv'
    have : Value.bool b = v := Option.some.inj hv'
    subst this
    have e2 : bs.getD i false = b := by rw [List.getD_eq_getElem?_getD, e]; rfl
    have hq' : Q (bs.getD i false) s := hq
    rw [e2] at hq'
    exact wpAny_truthy_bool hq'
theorem range_all (bs : List Bool) : (List.range bs.length).all (fun i => bs.getD i false) = bs.all id := by
  rw [Bool.eq_iff_iff, List.all_eq_true, List.all_eq_true]
  constructor
  · intro h b hb
    obtain ⟨i, hi, rfl⟩ := List.getElem_of_mem hb
    have := h i (List.mem_range.mpr hi)
    rw [List.getD_eq_getElem?_getD, List.getElem?_eq_getElem hi] at this
    exact this
  · intro h i hi
    have hi' := List.mem_range.mp hi
    rw [List.getD_eq_getElem?_getD, List.getElem?_eq_getElem hi']
    exact h _ (List.getElem_mem hi')
theorem range_any (bs : List Bool) : (List.range bs.length).any (fun i => bs.getD i false) = bs.any id := by
  rw [Bool.eq_iff_iff, List.any_eq_true, List.any_eq_true]
  constructor
  · rintro ⟨i, hi, h⟩
    have hi' := List.mem_range.mp hi
    rw [List.getD_eq_getElem?_getD, List.getElem?_eq_getElem hi'] at h
    exact ⟨_, List.getElem_mem hi', h⟩
  · rintro ⟨b, hb, h⟩
    obtain ⟨i, hi, rfl⟩ := List.getElem_of_mem hb
    refine ⟨i, List.mem_range.mpr hi, ?_⟩
    rw [List.getD_eq_getElem?_getD, List.getElem?_eq_getElem hi]
    exact h
theorem call_allL (hc : X.calm = true) : CallR X (.builtin "all") (fun xs H Q => ∃ (a : Addr) (bs : List Bool), xs = [.ref a] ∧ SqL X.K H a (bs.map V.bl) ∧ Q (.bl (bs.all id)) H) := by
  intro pins s σ H xs us Q I r h
  obtain ⟨a, bs, rfl, ha, q⟩ := h
  obtain ⟨u, rfl, ru⟩ := vals1 r
  cases ru
  obtain ⟨its, rv, p, hz⟩ := I.list ha
  have ei := boolAt rfl rv
  subst ei
  refine call_all_walk (wpAny_pyIter_list p.isList ?_)
  have hne : a ≠ s.heap.objs.size := fun e => by
    obtain ⟨o, ho, _⟩ := p.isList
    rw [e] at ho
    exact absurd (Heap.lt_size ho) (Nat.lt_irrefl _)
  have W := Walks.list (prog := X.prog) (w := X.w) (A := X.A.in1) (I.ok.hd hc) s.heap.objs.size a hne (bs.map Value.bool).toArray
  refine ⟨_, _, _, _, _, _, _, rfl, W, ⟨⟨_, Heap.get?_push_size _ rfl, rfl, rfl⟩, (let ⟨o, e, r⟩ := p.isList; ⟨o, Heap.get?_push_of_some _ e, r⟩)⟩, truth_bools bs, fun h' tk k => ?_⟩
  · have e : (bs.map Value.bool).toArray.size = bs.length := by simp
    rw [e, range_all]
    refine ⟨.bl _, H, I.kept fun b o z => k b o ?_ (Heap.get?_push_of_some _ z), rfl, q⟩
    intro m
    rw [List.mem_singleton] at m
    rw [m] at z
    exact absurd (Heap.lt_size z) (Nat.lt_irrefl _)
theorem call_anyL (hc : X.calm = true) : CallR X (.builtin "any") (fun xs H Q => ∃ (a : Addr) (bs : List Bool), xs = [.ref a] ∧ SqL X.K H a (bs.map V.bl) ∧ Q (.bl (bs.any id)) H) := by
  intro pins s σ H xs us Q I r h
  obtain ⟨a, bs, rfl, ha, q⟩ := h
  obtain ⟨u, rfl, ru⟩ := vals1 r
  cases ru
  obtain ⟨its, rv, p, hz⟩ := I.list ha
  have ei := boolAt rfl rv
  subst ei
  refine call_any_walk (wpAny_pyIter_list p.isList ?_)
  have hne : a ≠ s.heap.objs.size := fun e => by
    obtain ⟨o, ho, _⟩ := p.isList
    rw [e] at ho
    exact absurd (Heap.lt_size ho) (Nat.lt_irrefl _)
  have W := Walks.list (prog := X.prog) (w := X.w) (A := X.A.in1) (I.ok.hd hc) s.heap.objs.size a hne (bs.map Value.bool).toArray
  refine ⟨_, _, _, _, _, _, _, rfl, W, ⟨⟨_, Heap.get?_push_size _ rfl, rfl, rfl⟩, (let ⟨o, e, r⟩ := p.isList; ⟨o, Heap.get?_push_of_some _ e, r⟩)⟩, truth_bools bs, fun h' tk k => ?_⟩
  · have e : (bs.map Value.bool).toArray.size = bs.length := by simp
    rw [e, range_any]
    refine ⟨.bl _, H, I.kept fun b o z => k b o ?_ (Heap.get?_push_of_some _ z), rfl, q⟩
    intro m
    rw [List.mem_singleton] at m
    rw [m] at z
    exact absurd (Heap.lt_size z) (Nat.lt_irrefl _)
end
end L2

set_option Elab.async false
set_option linter.all false
set_option maxRecDepth 100000
set_option maxHeartbeats 4000000
namespace L2
open PySem PySem.Spec PyProof.Rows
/-! ### defs by their names -/
noncomputable def In (K : PySem.W.Frag) (mg : Str → Option Value) (x : Str) (st : Stmt) (ps : List Str) : Prop := ∃ f fd, mg x = some (.ref f) ∧ Fun K x x st f fd ∧ Binds K fd ps []
structure Def (P : Program) (w : World) (K : PySem.W.Frag) (mg : Str → Option Value) (base : Heap) (CX : CXT) (k : Nat) (x : Str) (ps : List Str) (sp : Sp) : Prop where
  ex : ∃ f fd, mg x = some (.ref f) ∧ PySem.W.keepIn K (.ref f) = true ∧ Binds K fd ps [] ∧ FnOk P w K mg base CX k f fd ps sp
section
variable {X : Cx} {CX : CXT} {j k : Nat} {x : Str} {ps : List Str} {sp : Sp} {E : XK} {p pos : Pos} {e : Expr} {es : List Expr} {t : TA}
theorem pe_callD (D : Def X.prog X.w X.K X.mg X.base CX j x ps sp) (hr : Room k X.A) (hg : Gl X x) (hx : Passes CX X E) (ha : PA X (e :: es) t) (hj : j ≤ k := by decide)
    (hdb : (x == ("__debug__" : Str)) = false := by decide) (he : starEach (e :: es) X.env = (false, eval e X.env) :: starEach es X.env := by rfl) (hpl : (backTo pos (starEach es X.env)).any (·.1) = false := by rfl) :
    PE X (.Call (.Name x p) (e :: es) [] pos) (tCall sp [] E t) := by
  obtain ⟨f, fd, hm, hk, hb, F⟩ := D.ex
  exact pe_call F (hr.mono hj) hg hm hk hb .nil hx ha hdb he hpl
theorem pe_callDS {E : St → XK} (D : Def X.prog X.w X.K X.mg X.base CX j x ps sp) (hr : Room k X.A) (hg : Gl X x) (hx : PassesS CX X E) (ha : PA X (e :: es) t) (hj : j ≤ k := by decide)
    (hdb : (x == ("__debug__" : Str)) = false := by decide) (he : starEach (e :: es) X.env = (false, eval e X.env) :: starEach es X.env := by rfl) (hpl : (backTo pos (starEach es X.env)).any (·.1) = false := by rfl) :
    PE X (.Call (.Name x p) (e :: es) [] pos) (tCallS sp [] E t) := by
  obtain ⟨f, fd, hm, hk, hb, F⟩ := D.ex
  exact pe_callS F (hr.mono hj) hg hm hk hb .nil hx ha hdb he hpl
end
section
variable {P : Program} {w : World} {K : PySem.W.Frag} {mg : Str → Option Value} {base : Heap} {k : Nat} {x : Str} {st : Stmt} {ps N : List Str} {sp : Sp}
/-- a def that lets no exception out -/
theorem In.ok0 (F : In K mg x st ps) (S : FnScope N ps (defScope st)) (len : ∀ vs H Q E, sp vs H Q E → vs.length = ps.length)
    (hbody : ∀ (f : Addr) (cdv : Value) (A : Around) (outer : List Env) (s : Shared) (H : Hp) (vs : List V) (Q : VK) (E : XK), Room k (A.deeper (envOfC x (defScope st) s.heap.objs.size f cdv)) → sp vs H Q E →
      ∃ t, PSs (cxOf CX0 P w K mg base N x (defScope st) f cdv A outer s H E).nox (defBody st) t ∧ t { nx := fun _ H' => Q .non H', rt := Q } (start N vs) H) : Def P w K mg base CX0 (k + 1) x ps sp := by
  obtain ⟨f, fd, hm, FF, hb⟩ := F
  exact ⟨f, fd, hm, FF.kp, hb, FF.ok S len fun cdv A outer s H vs Q E hr h => hbody f cdv A outer s H vs Q E hr h⟩
/-- one that may -/
theorem In.okX (F : In K mg x st ps) (S : FnScope N ps (defScope st)) (len : ∀ vs H Q E, sp vs H Q E → vs.length = ps.length)
    (hbody : ∀ (f : Addr) (cdv : Value) (A : Around) (outer : List Env) (s : Shared) (H : Hp) (vs : List V) (Q : VK) (E : XK), Room k (A.deeper (envOfC x (defScope st) s.heap.objs.size f cdv)) → sp vs H Q E →
      ∃ t, PSs (cxOf (CXE P w) P w K mg base N x (defScope st) f cdv A outer s H E) (defBody st) t ∧ t { nx := fun _ H' => Q .non H', rt := Q } (start N vs) H) : Def P w K mg base (CXE P w) (k + 1) x ps sp := by
  obtain ⟨f, fd, hm, FF, hb⟩ := F
  obtain ⟨oc, od, kV, doc, pm, an, cdv, ct, osl, rfl, lk, hcd⟩ := FF.ex
  exact ⟨f, _, hm, FF.kp, hb, fn_of lk hcd S len fun A outer s H vs Q E hr hsp => hbody f cdv A outer s H vs Q E hr hsp⟩
end
/-! ### new things, the heap not told: all that was tracked is as it was -/
theorem same_new {H : Hp} {p : Addr} (h : H p = none) (o : HO) : Same H (upd H p o) := fun b u q => by rw [upd_ne (ne_of_none q h)]; exact q
theorem Same.seqT {K : PySem.W.Frag} {H H' : Hp} {a : Addr} {xs : List V} (e : Same H H') (h : SqT K H a xs) : SqT K H' a xs := by
  rcases h with (h | ⟨o, h⟩) | h
  · exact .inl (.inl (e _ _ h))
  · exact .inl (.inr ⟨o, e _ _ h⟩)
  · exact .inr h
noncomputable def newQ (H : Hp) (o : HO) (Q : VK) : Prop := ∀ p H', H p = none → Same H H' → H' p = some o → Q (.ref p) H'
theorem newQ.at {H : Hp} {o : HO} {Q : VK} (h : newQ H o Q) : ∀ p, H p = none → Q (.ref p) (upd H p o) := fun p hp => h p _ hp (same_new hp o) upd_same

theorem CallR.imp {X : Cx} {f : Value} {r r' : List V → Hp → VK → Prop} (h : CallR X f r) (i : ∀ xs H Q, r' xs H Q → r xs H Q) : CallR X f r' := fun pins s σ H xs us Q I rs q => h pins s σ H xs us Q I rs (i _ _ _ q)
theorem SlR.imp {X : Cx} {r r' : V → Option Int → Option Int → Hp → VK → Prop} (h : SlR X r) (i : ∀ x a b H Q, r' x a b H Q → r x a b H Q) : SlR X r' := fun pins s σ H x v vl vu lo hi sl Q I rx hs pl pu q => h pins s σ H x v vl vu lo hi sl Q I rx hs pl pu (i _ _ _ _ _ q)
section
variable {X : Cx} {es : List Expr} {t : TA} {pos : Pos}
noncomputable def tTupS (t : TA) : TE := fun σ H Q => t σ H fun xs H1 => xs.length ≤ sizeLine ∧ newQ H1 (.tup xs) Q
noncomputable def tLstS (t : TA) : TE := fun σ H Q => t σ H fun xs H1 => xs.length ≤ sizeLine ∧ newQ H1 (.lst xs) Q
theorem pe_tupS {x1} (h : PA X es t) : PE X (.Tuple es x1 pos) (tTupS t) := by
  intro pins s σ H Q I hq
  refine wpAny_Tuple_spliced (thn (h pos pins s σ H _ I hq) fun us s1 ⟨xs, H1, I1, r, z, q⟩ => ⟨by rw [← r.length]; exact z, ?_⟩)
  have hf : H1 s1.heap.objs.size = none := I1.hok.fresh (Nat.le_refl _)
  refine ⟨.ref s1.heap.objs.size, upd H1 s1.heap.objs.size (.tup xs), I1.laid (t' := s1.toks) (fun b u e => Heap.get?_push_of_some _ e) (Nat.le_refl _) ?_, rfl, q.at _ hf⟩
  exact ⟨z, us, r, ⟨_, Heap.get?_push_size _ rfl, rfl, _, rfl⟩⟩
theorem pe_lstS (h : PA X es t) : PE X (.List es pos) (tLstS t) := by
  intro pins s σ H Q I hq
  refine wpAny_List_spliced (thn (h pos pins s σ H _ I hq) fun us s1 ⟨xs, H1, I1, r, z, q⟩ => ⟨by rw [← r.length]; exact z, ?_⟩)
  have hf : H1 s1.heap.objs.size = none := I1.hok.fresh (Nat.le_refl _)
  refine ⟨.ref s1.heap.objs.size, upd H1 s1.heap.objs.size (.lst xs), I1.laid (t' := s1.toks) (fun b u e => Heap.get?_push_of_some _ e) (Nat.le_refl _) ?_, rfl, q.at _ hf⟩
  exact ⟨z, us, 0, r, Heap.get?_push_size _ rfl⟩
noncomputable def rCatTS (K : PySem.W.Frag) : R2 := fun x y H Q => ∃ a b xs ys, x = .ref a ∧ y = .ref b ∧ SqT K H a xs ∧ SqT K H b ys ∧ xs ≠ [] ∧ xs.length + ys.length ≤ sizeLine ∧ ∀ p H', Same H H' → SqT K H' p (xs ++ ys) → Q (.ref p) H'
noncomputable def rCatS : R2 := fun x y H Q => ∃ l b xs zs, x = .ref l ∧ y = .ref b ∧ H l = some (.lst xs) ∧ H b = some (.lst zs) ∧ xs.length + zs.length ≤ sizeLine ∧ newQ H (.lst (xs ++ zs)) Q
theorem call_tupleS : CallR X (.type "tuple") (fun xs H Q => ∃ p ys, xs = [.ref p] ∧ (SqL X.K H p ys ∨ SqT X.K H p ys) ∧ ∀ l H', Same H H' → SqT X.K H' l ys → Q (.ref l) H') := call_tuple_of.imp fun xs H Q ⟨p, ys, e, h, q⟩ =>
  ⟨p, ys, e, h.elim (fun h => .inl ⟨h, fun l hl => q l _ (same_new hl _) (SqT.of upd_same)⟩) fun h => .inr ⟨h, q p H (Same.refl H) h⟩⟩
end
/-- all but the one at l is as it was -/
noncomputable def SameX (l : Addr) (H H' : Hp) : Prop := ∀ b o, b ≠ l → H b = some o → H' b = some o
theorem upd_sameX {H : Hp} {l : Addr} {o : HO} : SameX l H (upd H l o) := fun b u hb q => by rw [upd_ne hb]; exact q





theorem SameX.seqT {K : PySem.W.Frag} {H H' : Hp} {l a : Addr} {xs ys : List V} (e : SameX l H H') (hl : H l = some (.lst ys)) (h : SqT K H a xs) : SqT K H' a xs := by
  rcases h with (h | ⟨o, h⟩) | h
  · exact .inl (.inl (e _ _ (fun z => by rw [z, hl] at h; cases h) h))
  · exact .inl (.inr ⟨o, e _ _ (fun z => by rw [z, hl] at h; cases h) h⟩)
  · exact .inr h
/-- what was there ahead of l is as it was -/
theorem Same.thenX {H H1 H2 : Hp} {l : Addr} (s : Same H H1) (n : H l = none) (e : SameX l H1 H2) : Same H H2 := fun b o q => e b o (ne_of_none q n) (s b o q)
noncomputable def rAppendS : V → List V → Hp → VK → Prop := fun x vs H Q => ∃ l xs y, x = .ref l ∧ vs = [y] ∧ H l = some (.lst xs) ∧ xs.length < sizeLine ∧ ∀ H', SameX l H H' → H' l = some (.lst (xs ++ [y])) → Q .non H'
theorem mt_appendS {X : Cx} : MtM X "list.append" rAppendS := fun pins s σ H x vs v us Q I rx rv h => by
  obtain ⟨l, xs, y, e1, e2, e3, z, q⟩ := h
  exact mt_append pins s σ H x vs v us Q I rx rv ⟨l, xs, y, e1, e2, e3, z, q _ upd_sameX upd_same⟩
/-! ### a comprehension whose element is a function of the item -/
section
variable {K : PySem.W.Frag} {a : Addr} {xs : List V} {js : List Nat} {te : TE} {σ : St} {H : Hp} {Q : VK}
theorem comp_map {J : It} (f : V → V) (hz : xs.length ≤ sizeLine) (hgo : ∀ i H', i < xs.length → Same H H' → J.go i H') (hst : ∀ H', Same H H' → J.stop xs.length H') (hy : ∀ i H' x H2, i < xs.length → Same H H' → J.yld i H' x H2 → H2 = H' ∧ xs[i]? = some x)
    (hf : ∀ x ∈ xs, ∀ H' (R : VK), Same H H' → (∀ H4, Same H' H4 → R (f x) H4) → te (some x :: js.map fun j => σ.getD j none) H' R) (hd : newQ H (.lst (xs.map f)) Q) : CompW J js te σ H Q := by
  refine ⟨fun i m ys H' => m = xs.length - i ∧ i ≤ xs.length ∧ Same H H' ∧ ys = (xs.take i).map f, ⟨_, rfl, Nat.zero_le _, Same.refl H, rfl⟩, ?_⟩
  rintro i m ys H' ⟨rfl, hi, sm, rfl⟩
  by_cases hlt : i < xs.length
  · refine .inr ⟨hgo i H' hlt sm, by rw [List.length_map, List.length_take]; omega, fun x H2 y => ?_⟩
    obtain ⟨e, g⟩ := hy i H' x H2 hlt sm y
    subst e
    refine hf x (List.mem_of_getElem? g) _ _ sm fun H4 s4 => ⟨xs.length - (i + 1), by omega, rfl, hlt, sm.trans s4, ?_⟩
    rw [List.take_add_one, g, List.map_append] <;> rfl
  · have e : i = xs.length := by omega
    subst e
    rw [List.take_length]
    exact .inl ⟨hst H' sm, fun d n => hd d _ (sm.free n) (sm.trans (same_new n _)) upd_same⟩
theorem comp_mapT (f : V → V) (hx : SqT K H a xs) (hz : xs.length ≤ sizeLine) (hf : ∀ x ∈ xs, ∀ H' (R : VK), Same H H' → (∀ H4, Same H' H4 → R (f x) H4) → te (some x :: js.map fun j => σ.getD j none) H' R) (hd : newQ H (.lst (xs.map f)) Q) : CompW (Itt K a) js te σ H Q :=
  comp_map f hz (fun i H' hi sm => ⟨xs, xs[i], sm.seqT hx, List.getElem?_eq_getElem hi⟩) (fun H' sm => ⟨xs, sm.seqT hx, Nat.le_refl _⟩) (fun i H' x H2 hi sm y => ⟨y.1, y.2 xs (sm.seqT hx)⟩) hf hd
end
/-! ### a block cut behind a statement: M is what holds there -/
noncomputable def tCut (M : St → Hp → Prop) (t u : TS) : TS := fun D σ H => t { D with nx := M } σ H ∧ ∀ σ' H', M σ' H' → u D σ' H'
theorem pss_cut {X : Cx} {st : Stmt} {rest : List Stmt} {t u : TS} (M : St → Hp → Prop) (h1 : PS X st t) (h2 : PSs X rest u) : PSs X (st :: rest) (tCut M t u) := by
  intro pins s σ H D I h
  refine wpAny_execs_cons (thn (h1 pins s σ H { D with nx := M } I h.1) fun f s1 q => ?_)
  cases f with
  | next =>
    obtain ⟨σ', H', I', q⟩ := q
    exact h2 pins s1 σ' H' D I' (h.2 σ' H' q)
  | ret v => exact q
  | brk => exact q
  | cont => exact q
/-! ### readings by simp -/
theorem cxOf_K {CX : CXT} {P : Program} {w : World} {K : PySem.W.Frag} {mg : Str → Option Value} {base : Heap} {N : List Str} {qual : Str} {scope : Scope} {f : Addr} {cd : Value} {A : Around} {outer : List Env} {s : Shared} {H : Hp} {E : XK} :
    (cxOf CX P w K mg base N qual scope f cd A outer s H E).K = K := rfl
end L2

set_option Elab.async false
set_option linter.all false
set_option maxRecDepth 100000
set_option maxHeartbeats 4000000
namespace L2
open PySem PySem.Spec PyProof.Rows
section
variable {X : Cx}
/-! ### insert, extend, repeat, slices: the heap not told -/
noncomputable def rInsertS : V → List V → Hp → VK → Prop := fun x vs H Q => ∃ l xs k y, x = .ref l ∧ vs = [.int k, y] ∧ H l = some (.lst xs) ∧ xs.length < sizeLine ∧ 0 ≤ k ∧ k ≤ (xs.length : Int) ∧ ∀ H', SameX l H H' → H' l = some (.lst (xs.take k.toNat ++ y :: xs.drop k.toNat)) → Q .non H'
noncomputable def rExtendS : V → List V → Hp → VK → Prop := fun x vs H Q => ∃ l b xs zs, x = .ref l ∧ vs = [.ref b] ∧ H l = some (.lst xs) ∧ H b = some (.lst zs) ∧ xs.length + zs.length ≤ sizeLine ∧ ∀ H', SameX l H H' → H' l = some (.lst (xs ++ zs)) → Q .non H'
/-- [x] * k -/
noncomputable def rRepS : R2 := fun x y H Q => ∃ l k v, x = .ref l ∧ y = .int k ∧ H l = some (.lst [v]) ∧ -(2 ^ 63) ≤ k ∧ k < 2 ^ 63 ∧ k.toNat ≤ sizeLine ∧ newQ H (.lst (List.replicate k.toNat v)) Q
noncomputable def rSlLS (K : PySem.W.Frag) : V → Option Int → Option Int → Hp → VK → Prop := fun x lo hi H Q => ∃ a xs, x = .ref a ∧ SqL K H a xs ∧ newQ H (.lst (cutV xs lo hi)) Q
noncomputable def rSlTS (K : PySem.W.Frag) : V → Option Int → Option Int → Hp → VK → Prop := fun x lo hi H Q => ∃ a xs, x = .ref a ∧ SqT K H a xs ∧
  ¬ (HT.sIx xs.length 0 lo = 0 ∧ HT.sIx xs.length xs.length hi = xs.length) ∧ newQ H (.tup (cutV xs lo hi)) Q
theorem sl_tupS : SlR X (rSlTS X.K) := sl_tup.imp fun x a b H Q ⟨l, xs, e, h, n, q⟩ => ⟨l, xs, e, h, n, q.at⟩
/-! ### sum of a tuple of ints -/
end
section
variable {X : Cx}
noncomputable def CPB (i j : Int) : Prop := 0 ≤ j ∧ j ≤ 100 ∧ Fit i
theorem op_powB : OpR X (binaryOp .Pow) (rI CPB fun i j => .int (i ^ j.toNat)) := opI fun i j _ _ _ _ _ hc q => by
  have hb := hc.2.2.bits
  refine pow_int hc.1 ?_ q
  have h1 : ((Builtin.Int.intBits i : Nat) : Int) ≤ 2 ^ 20 := by omega
  have h2 := Int.mul_le_mul h1 hc.2.1 hc.1 (by decide)
  have h3 : (2 : Int) ^ 20 * 100 ≤ 2 ^ 27 := by decide
  omega
end
section
variable {X : Cx} {K : PySem.W.Frag}
/-! ### inside a comprehension: K by name -/
end
/-! ### a for's reading: R stands for what is asked of the loop -/
noncomputable def ForOk (g : TG) (tb : TS) (D : Ends) (J : It) (σ : St) (H1 : Hp) : Prop := ∃ W : Nat → Nat → St → Hp → Prop, (∃ m, W 0 m σ H1) ∧ ∀ i m σ H, W i m σ H →
  (J.stop i H ∧ D.nx σ H) ∨ (J.go i H ∧ ∃ N : St → Hp → Prop, (∀ σ' H', N σ' H' → ∃ m', m' < m ∧ W (i + 1) m' σ' H') ∧ ∀ x H', J.yld i H x H' → g x σ H' fun σ2 H2 => tb { D with nx := N, ct := N, bk := D.nx } σ2 H2)
theorem tFor_rd {wi : TI} {g : TG} {tb : TS} {D : Ends} {σ : St} {H : Hp} (h : ∀ R : It → Hp → Prop, (∀ J H1, ForOk g tb D J σ H1 → R J H1) → wi σ H R) : tFor wi g tb D σ H := h _ fun _ _ k => k
end L2

set_option Elab.async false
set_option linter.all false
set_option maxRecDepth 100000
set_option maxHeartbeats 4000000
namespace L2
open PySem PySem.Spec PyProof.Rows
/-! ### reversed(t) of a tuple: its own iterator -/
theorem own_reversed : Manifest.owners.lookup (String.ofList ['d', 'e', 's', 'r', 'e', 'v', 'e', 'r'].reverse) = some Manifest.sig_reversed := by kernel_rfl
theorem sl_rev_next : Slot "reversed" "__next__" "reversed.__next__" := Slot.of (owner := "reversed") (n := "__next__") (by rw [typeLookup_type, builtinLookup_eq_fast]; kernel_rfl) (by decide +kernel) (by decide +kernel) (by decide +kernel) (by first | exact .inl (by decide +kernel) | exact .inr (by decide +kernel)) (by rw [isSubtype_type]; kernel_rfl)
theorem en_rev_next : entryFor table "reversed.__next__" = some Builtin.«reversed.__next__» := entryFor_of_tree (by kernel_rfl)
theorem ar_rev_next (a : Value) : argsOk "reversed.__next__" ⟨[a], []⟩ := by
  unfold argsOk; rw [signature?_of (id := "reversed.__next__") (n := ['_', '_', 't', 'x', 'e', 'n', '_', '_']) (o := ['d', 'e', 's', 'r', 'e', 'v', 'e', 'r']) (by kernel_rfl) own_reversed]; kernel_rfl
theorem sl_rev_iter : Slot "reversed" "__iter__" "reversed.__iter__" := Slot.of (owner := "reversed") (n := "__iter__") (by rw [typeLookup_type, builtinLookup_eq_fast]; kernel_rfl) (by decide +kernel) (by decide +kernel) (by decide +kernel) (by first | exact .inl (by decide +kernel) | exact .inr (by decide +kernel)) (by rw [isSubtype_type]; kernel_rfl)
theorem ar_rev_iter (a : Value) : argsOk "reversed.__iter__" ⟨[a], []⟩ := by
  unfold argsOk; rw [signature?_of (id := "reversed.__iter__") (n := ['_', '_', 'r', 'e', 't', 'i', '_', '_']) (o := ['d', 'e', 's', 'r', 'e', 'v', 'e', 'r']) (by kernel_rfl) own_reversed]; kernel_rfl
theorem en_rev_iter : entryFor table "reversed.__iter__" = some Builtin.«dict_keyiterator.__iter__» := entryFor_alias (id' := "dict_keyiterator.__iter__") (by kernel_rfl) (by first | rfl | decide +kernel | (unfold String.splitOn; simp +decide [String.splitOnAux])) (by decide +kernel) (by kernel_rfl)
theorem no_tuple_reversed : typeLookup (.type "tuple") "__reversed__" = pure none := by rw [typeLookup_type, builtinLookup_eq_fast]; kernel_rfl
theorem tuple_no_dict : isSubtype (.type "tuple") (.type "dict") = pure false := by rw [isSubtype_type]; kernel_rfl
theorem called_rev : TypeCalled "reversed" "reversed.__new__" "object.__init__" :=
  ⟨by decide +kernel, PySem.F.create_reversed, ⟨_, _, PySem.F.mro_reversed⟩, PySem.F.made_reversed, PySem.F.plain_reversed_new, PySem.F.sub_reversed_self, Slot.of (owner := "object") (n := "__init__") (by rw [typeLookup_type, builtinLookup_eq_fast]; kernel_rfl) (by decide +kernel) (by decide +kernel) (by decide +kernel) (by first | exact .inl (by decide +kernel) | exact .inr (by decide +kernel)) (by rw [isSubtype_type]; kernel_rfl)⟩
noncomputable def RevIt (h : Heap) (it a : Addr) (i : Int) : Prop := ∃ o, h.get? it = some o ∧ o.cls = .type "reversed" ∧ o.data = .fields #[.ref a, rawInt i]
theorem RevIt.typeIs {s : Shared} {it a : Addr} {i : Int} (x : RevIt s.heap it a i) : s.TypeIs (.ref it) "reversed" := let ⟨o, ho, hc, _⟩ := x; ⟨o, ho, hc⟩
section
variable {prog : Program} {w : World} {A : Around} {E : Value → Shared → Prop} {s : Shared}
theorem rev_new {t : Addr} {items : Array Value} {Q₁ : Value → Shared → Prop} (ht : IsTup s.heap t items) (hfit : (items.size : Int) < 2 ^ 63)
    (h : ∀ tk, Q₁ (.ref s.heap.objs.size) { s with heap := s.heap.push { cls := .type "reversed", data := .fields #[.ref t, rawInt ((items.size : Int) - 1)] }, toks := tk }) :
    codeAny (model prog w) A (.call (.builtin "reversed.__new__") ⟨[.type "reversed", .ref t], []⟩) (wants Q₁ E) s := by
  refine codeAny_of_tree ?_
  show wpAny _ A.in1 (checkBuiltinCall "reversed.__new__" ⟨[.type "reversed", .ref t], []⟩ >>= fun _ => again (.builtin "reversed.__new__" ⟨[.type "reversed", .ref t], []⟩)) _ _ s
  refine wpAny_bind (wpAny_of_eq (PySem.F.newCall_reversed_1 _) (wpAny_pure ⟨plainId_quiet PySem.F.plain_reversed_new _, codeAny_builtin PySem.F.entry_reversed_new ?_⟩))
  rw [Around.under_plainId PySem.F.plain_reversed_new _]
  unfold Builtin.«reversed.__new__»; refine wpAny_bind (wpAny_of_eq (newClass_reversed _) ?_); dsimp only
  refine wpAny_bind (wpAny_of_eq (a := ()) (by first | rfl | kernel_rfl) (wpAny_bind (wpAny_of_eq (a := ()) (by first | rfl | kernel_rfl) ?_)))
  refine wpAny_bind (wpAny_specialOf ht.typeIs no_tuple_reversed ?_); dsimp only
  refine wpAny_bind (show wpAny _ _ (isInstance (Value.ref t) (.type "dict") >>= _) _ _ _ from wpAny_bind (wpAny_isInstance ht.typeIs tuple_no_dict ?_))
  show wpAny _ _ (if false = true then _ else _) _ _ _
  rw [if_neg Bool.false_ne_true]
  refine wpAny_bind (wpAny_specialOf ht.typeIs slot_tuple_getitem.lookup ?_)
  show wpAny _ _ (if (["tuple.__getitem__", "str.__getitem__", "bytes.__getitem__", "bytearray.__getitem__", "memoryview.__getitem__", "numpy.ndarray.__getitem__", "sqlite3.Row.__getitem__"].contains "tuple.__getitem__") = true then _ else _) _ _ _
  rw [if_pos (by decide +kernel)]
  refine wpAny_pure (show wpAny _ _ (if (!true) = true then _ else _) _ _ _ from ?_)
  rw [if_neg (by decide)]
  refine wpAny_bind (len_tuple ht hfit (wpAny_bind (wpAny_pure ?_)))
  show wpAny _ _ (Builtin.SmallTypes.newRecord (Value.type "reversed") [Value.ref t, rawInt ((items.size : Int) - 1)] >>= _) _ _ _
  refine wpAny_bind (show wpAny _ _ (newObj (Value.type "reversed") (.fields #[Value.ref t, rawInt ((items.size : Int) - 1)])) _ _ _ from wpAny_newObj_type ?_)
  exact wpAny_pure (h _)
theorem call_revT {t : Addr} {items : Array Value} {Q : Value → Shared → Prop} (ht : IsTup s.heap t items) (hfit : (items.size : Int) < 2 ^ 63)
    (h : ∀ tk, Q (.ref s.heap.objs.size) { s with heap := s.heap.push { cls := .type "reversed", data := .fields #[.ref t, rawInt ((items.size : Int) - 1)] }, toks := tk }) : wpAny (model prog w) A (call (.type "reversed") [.ref t]) Q E s := by
  refine callType_codes called_rev (PySem.F.typeCall_reversed_1 _) PySem.F.entry_object_init (Q₁ := fun obj s₁ => obj = .ref s.heap.objs.size ∧ ∃ tk, s₁ = { s with heap := s.heap.push { cls := .type "reversed", data := .fields #[.ref t, rawInt ((items.size : Int) - 1)] }, toks := tk }) (rev_new ht hfit fun tk => ⟨rfl, tk, rfl⟩) ?_
  rintro obj s₁ ⟨rfl, tk, rfl⟩
  have hT : Shared.TypeIs { s with heap := s.heap.push { cls := .type "reversed", data := .fields #[.ref t, rawInt ((items.size : Int) - 1)] }, toks := tk } (.ref s.heap.objs.size) "reversed" := ⟨_, Heap.get?_push_size _ rfl, rfl⟩
  exact ⟨hT, PySem.F.args_object_init_2 _ _, object_init_meets called_rev.init.lookup called_rev.made (by decide) prog w A.in1 _ _ ⟨hT, rfl, h tk⟩⟩
theorem rev_next {it t : Addr} {i : Nat} {items : Array Value} {x : Value} {Q : Option Value → Shared → Prop} (hit : RevIt s.heap it t (i : Int)) (ht : IsTup s.heap t items) (hx : items[i]? = some x) (hfit : (items.size : Int) < 2 ^ 63)
    (hQ : ∀ h' tk, RevIt h' it t ((i : Int) - 1) → Heap.SameBut it s.heap h' → Q (some x) { s with heap := h', toks := tk }) : wpAny (model prog w) A (pyNext (.ref it)) Q E s := by
  have hit' := hit
  obtain ⟨o, ho, hc, hd⟩ := hit'
  have hi : i < items.size := by
    rcases Nat.lt_or_ge i items.size with z | z
    · exact z
    · rw [Array.getElem?_eq_none z] at hx; cases hx
  unfold pyNext
  refine wpAny_bind (wpAny_attempt (wpAny_callSpecial?_slot (name := Str.ofString "__next__") hit.typeIs sl_rev_next (wpAny_call_entry sl_rev_next hit.typeIs en_rev_next ?_ (ar_rev_next _))))
  unfold Builtin.«reversed.__next__»
  refine wpAny_bind (wpAny_of_eq (a := (Value.ref it, [])) rfl (wpAny_bind (wpAny_field ho hd (x := .ref t) rfl (wpAny_bind (wpAny_field ho hd (x := rawInt (i : Int)) rfl (show wpAny _ _ (if (i : Int) < 0 then _ else _) _ _ s from ?_))))))
  rw [if_neg (by omega)]
  refine wpAny_bind (wpAny_specialOf ht.typeIs slot_tuple_getitem.lookup (show wpAny _ _ (if false = true then _ else _) _ _ _ from ?_))
  rw [if_neg Bool.false_ne_true]
  refine wpAny_bind (wpAny_mkInt (wpAny_bind (wpAny_attempt (getItem_tuple (j := i) (x := x) ht (by omega) (by omega) ?_ hx ?_))))
  · simp only [seqIndex?]
    rw [if_neg (show ¬ ((i : Int) < 0) by omega), decide_eq_true (show (0 : Int) ≤ (i : Int) by omega), decide_eq_true (show (i : Int) < (items.size : Int) by omega)]
    rfl
  refine wpAny_bind (wpAny_field ho hd (x := rawInt (i : Int)) rfl (wpAny_bind (wpAny_setField ho hd (by simp) (wpAny_pure ⟨x, rfl, wpAny_pure (hQ _ _ ?_ (Heap.SameBut.update ..))⟩))))
  exact ⟨_, Heap.get?_update_self _ ho (Obj.isFreed_of_fields (Obj.data_mapFields hd _)), (Obj.cls_mapFields ..).trans hc, by rw [Obj.data_mapFields hd]; simp⟩
/-- the end of an iterator: StopIteration, all that stood stays -/
theorem stop_now {α : Type} {Q : α → Shared → Prop} (hh : A.handled = none)
    (hE : ∀ h' e, (∀ b o, s.heap.get? b = some o → h'.get? b = some o) → (∃ o, h'.get? e = some o ∧ o.cls = .type "StopIteration") → E (.ref e) { s with heap := h' }) : wpAny (model prog w) A (Builtin.SmallTypes.stopIteration : Sem α) Q E s := by
  unfold Builtin.SmallTypes.stopIteration newExc newTuple raiseNew
  have nn : firstArgMember (.type "StopIteration") [] = pure Value.none := by first | rfl | (unfold firstArgMember; rfl)
  refine wpAny_bind (wpAny_bind (wpAny_newObj_type (wpAny_bind (wpAny_of_eq nn (wpAny_newObj_type (wpAny_bind (wpAny_handled ?_)) (by size_fits)))) (by size_fits)))
  rw [hh]
  exact wpAny_throw (hE _ _ (fun b o e => Heap.get?_push_of_some _ (Heap.get?_push_of_some _ e)) ⟨_, Heap.get?_push_size _ rfl, rfl⟩)
theorem rev_end {it t : Addr} {Q : Option Value → Shared → Prop} (hh : A.handled = none) (hit : RevIt s.heap it t (-1)) (hQ : ∀ h', Heap.ExtBut it s.heap h' → Q none { s with heap := h' }) : wpAny (model prog w) A (pyNext (.ref it)) Q E s := by
  have hit' := hit
  obtain ⟨o, ho, hc, hd⟩ := hit'
  have u1 := Heap.get?_update_self (Obj.mapFields (·.setIfInBounds 1 (rawInt (-1)))) ho (Obj.isFreed_of_fields (Obj.data_mapFields hd _))
  have d1 : (Obj.mapFields (·.setIfInBounds 1 (rawInt (-1))) o).data = .fields #[.ref t, rawInt (-1)] := by rw [Obj.data_mapFields hd]; simp
  unfold pyNext
  refine wpAny_bind (wpAny_attempt (wpAny_callSpecial?_slot (name := Str.ofString "__next__") hit.typeIs sl_rev_next (wpAny_call_entry sl_rev_next hit.typeIs en_rev_next ?_ (ar_rev_next _))))
  unfold Builtin.«reversed.__next__»
  refine wpAny_bind (wpAny_of_eq (a := (Value.ref it, [])) rfl (wpAny_bind (wpAny_field ho hd (x := .ref t) rfl (wpAny_bind (wpAny_field ho hd (x := rawInt (-1)) rfl (show wpAny _ _ (if (-1 : Int) < 0 then _ else _) _ _ s from ?_))))))
  rw [if_pos (by decide)]
  refine wpAny_bind (wpAny_rule (wpAny_bind (show wpAny _ _ (setField (Value.ref it) 1 (rawInt (-1)) >>= fun _ => setField (Value.ref it) 0 .none) _ _ _ from wpAny_bind (wpAny_setField ho hd (by simp) (wpAny_setField u1 d1 (by simp) (wpAny_bind (stop_now (show A.in1.handled = none from hh) ?_)))))))
  intro h' e keep is
  obtain ⟨oe, he, ce⟩ := is
  refine wpAny_bind (wpAny_isInstance (U := "StopIteration") (b := true) ⟨oe, he, ce⟩ isSubtype_stop (wpAny_pure (hQ _ fun b ob hb q => keep b ob ?_)))
  exact (Heap.get?_update_other _ _ (Ne.symm hb)).trans ((Heap.get?_update_other _ _ (Ne.symm hb)).trans q)
theorem rev_iter {it t : Addr} {i : Int} {Q : Value → Shared → Prop} (hit : RevIt s.heap it t i) (h : Q (.ref it) s) : wpAny (model prog w) A (pyIter (.ref it)) Q E s := by
  refine wpAny_pyIter_slot hit.typeIs sl_rev_iter (wpAny_call_entry sl_rev_iter hit.typeIs en_rev_iter (show wpAny _ _ (ret (.ref it)) _ _ s from ?_) (ar_rev_iter _))
  exact wpAny_pure ⟨_, rfl, "reversed", _, hit.typeIs, sl_rev_next.lookup, h⟩
end
noncomputable def ItvT (K : PySem.W.Frag) (a : Addr) (xs : List V) : It := ⟨fun i H => SqT K H a xs ∧ i < xs.length, fun i H x H' => H' = H ∧ xs.reverse[i]? = some x, fun i _ => xs.length ≤ i⟩
noncomputable def ItvL (K : PySem.W.Frag) (a : Addr) (xs : List V) : It := ⟨fun i H => SqL K H a xs ∧ i < xs.length, fun i H x H' => H' = H ∧ xs.reverse[i]? = some x, fun i _ => xs.length ≤ i⟩
theorem rev_at {α : Type} {xs : List α} {i : Nat} (h : i < xs.length) : xs.reverse[i]? = xs[xs.length - 1 - i]? := List.getElem?_reverse h
theorem turn_revT {P : Program} {w : World} {K : PySem.W.Frag} {tg : Expr} (a it : Addr) (xs : List V) : Turn P w K tg (ItvT K a xs) [it] it (fun i h => i ≤ xs.length ∧ RevIt h it a ((xs.length : Int) - 1 - (i : Int))) where
  mem := by simp
  obj := fun i h st b hb => by
    have e : b = it := by simpa using hb
    subst e
    obtain ⟨_, o, e, c, d⟩ := st
    exact ⟨o, e, fun v z => by rw [d] at z; cases z⟩
  keep := fun i h h' st k => ⟨st.1, let ⟨o, e, r⟩ := st.2; ⟨o, k it (by simp) o e, r⟩⟩
  item := by
    intro X hP hw hK hc i pins s σ H E I hf st hg
    subst hP hw hK
    obtain ⟨hq, hi⟩ := hg
    obtain ⟨its, rv, p, hz⟩ := I.tuple hq
    have hx : xs[xs.length - 1 - i]? = some (xs[xs.length - 1 - i]'(by omega)) := List.getElem?_eq_getElem (by omega)
    obtain ⟨u, hu, ru⟩ := rv.get hx
    obtain ⟨f0, f1, f2, f3, f4, f5⟩ := hf it (by simp)
    have hl := rv.length
    have hn := line63
    have hst := st.2
    rw [show (xs.length : Int) - 1 - (i : Int) = ((xs.length - 1 - i : Nat) : Int) by omega] at hst
    refine rev_next hst p (x := u) (by simpa using hu) (by rw [List.size_toArray]; omega) fun h' tk st' sb => ?_
    have I1 : Inv X pins σ H { s with heap := h', toks := tk } := I.turned (fun b o hb e => (sb.2 b hb).trans e) f0 f1 f3 f4 f5
    rw [show ((xs.length - 1 - i : Nat) : Int) - 1 = (xs.length : Int) - 1 - ((i + 1 : Nat) : Int) by omega] at st'
    obtain ⟨o, e, c, d⟩ := id st'
    exact ⟨u, rfl, go_of (s := { s with heap := h', toks := tk }) e c d (by decide) ⟨_, H, I1, ru, ⟨rfl, by rw [rev_at hi]; exact hx⟩, ⟨hi, st'⟩, fun b hb => (hf b hb).1⟩⟩
  done := by
    intro X hP hw hK hc i pins s σ H E I hf st hg
    subst hP hw hK
    obtain ⟨f0, f1, f2, f3, f4, f5⟩ := hf it (by simp)
    have hge : xs.length ≤ i := hg
    have hst := st.2
    have hle := st.1
    rw [show (xs.length : Int) - 1 - (i : Int) = -1 by omega] at hst
    exact rev_end (I.ok.hd hc) hst fun h' eb => ⟨rfl, I.turned (t' := s.toks) (fun b o hb e => eb b o hb e) f0 f1 f3 f4 f5⟩
  self := fun _ _ _ _ _ st h => rev_iter st.2 h
section
variable {X : Cx} {tg : Expr}
noncomputable def iRevT (K : PySem.W.Frag) (ta : TA) : TI := fun σ H R => ta σ H fun vs H1 => ∃ a xs, vs = [.ref a] ∧ SqT K H1 a xs ∧ R (ItvT K a xs) H1
noncomputable def iRevL (K : PySem.W.Frag) (ta : TA) : TI := fun σ H R => ta σ H fun vs H1 => ∃ a xs, vs = [.ref a] ∧ SqL K H1 a xs ∧ R (ItvL K a xs) H1
theorem pi_revT {a : Expr} {ta : TA} {p pos : Pos} (hg : Gl X "reversed") (hm : X.mg "reversed" = none) (ha : PA X [a] ta) (hs : starEach [a] X.env = [(false, eval a X.env)] := by rfl) : PI X tg (.Call (.Name "reversed" p) [a] [] pos) (iRevT X.K ta) := by
  intro pins s σ H R I h
  refine Call_ (ld_blt I hg hm boot_reversed (PyProof.Rows.callWith_type1 (thn (ha pos pins s σ H _ I h) fun us s1 ⟨vs, H1, I1, r1, q1⟩ => ?_) hs rfl))
  obtain ⟨b, xs, e, hq, q⟩ := q1
  subst e
  cases r1 with
  | cons r rr =>
    cases rr
    cases r
    obtain ⟨its, rv, pt, hz⟩ := I1.tuple hq
    have hl := rv.length
    have hn := line63
    refine call_revT pt (by rw [List.size_toArray]; omega) fun tk => ?_
    have e : ((its.toArray.size : Nat) : Int) - 1 = (xs.length : Int) - 1 - ((0 : Nat) : Int) := by rw [List.size_toArray]; omega
    rw [e]
    refine rev_iter (t := b) ⟨_, Heap.get?_push_size _ rfl, rfl, rfl⟩ ⟨s1.heap.objs.size, [s1.heap.objs.size], _, _, H1, rfl, I1.kept fun b o e => Heap.get?_push_of_some _ e, turn_revT b _ xs, ⟨Nat.zero_le _, _, Heap.get?_push_size _ rfl, rfl, rfl⟩, fun c hc => ?_, q⟩
    have e : c = s1.heap.objs.size := by simpa using hc
    subst e
    exact I1.fpOk (Nat.le_refl _) (I1.hok.fresh (Nat.le_refl _))
end
/-- the loop over a reversed tuple or list that stays -/
theorem for_revT {K : PySem.W.Frag} {a : Addr} {xs : List V} {g : TG} {tb : TS} {D : Ends} {σ : St} {H : Hp} (Pv : Nat → St → Hp → Prop) (h0 : Pv 0 σ H) (hl : ∀ i σ H, i ≤ xs.length → Pv i σ H → SqT K H a xs)
    (hs : ∀ i x σ H, xs.reverse[i]? = some x → Pv i σ H → g x σ H fun σ2 H2 => tb { D with nx := Pv (i + 1), ct := Pv (i + 1), bk := D.nx } σ2 H2) (hd : ∀ σ H, Pv xs.length σ H → D.nx σ H) : ForOk g tb D (ItvT K a xs) σ H := by
  refine ⟨fun i m σ H => m = xs.length - i ∧ i ≤ xs.length ∧ Pv i σ H, ⟨xs.length, by simp, Nat.zero_le _, h0⟩, ?_⟩
  rintro i m σ H ⟨rfl, hi, p⟩
  by_cases hlt : i < xs.length
  · refine .inr ⟨⟨hl i σ H hi p, hlt⟩, Pv (i + 1), fun σ' H' p' => ⟨xs.length - (i + 1), by omega, rfl, hlt, p'⟩, fun x H' y => ?_⟩
    obtain ⟨e, y⟩ := y
    subst e
    exact hs i x σ _ y p
  · have e : i = xs.length := by omega
    subst e
    exact .inl ⟨Nat.le_refl _, hd σ H p⟩
end L2

set_option Elab.async false
set_option linter.all false
set_option maxRecDepth 100000
set_option maxHeartbeats 4000000
namespace L2
open PySem PySem.Spec PyProof.Rows
section
variable {X : Cx}
/-! ### == of lists of flat things -/
noncomputable def rEqLs (K : PySem.W.Frag) (neg : Bool) : R2 := fun x y H Q => ∃ a b xs ys, x = .ref a ∧ y = .ref b ∧ SqL K H a xs ∧ SqL K H b ys ∧ xs.all flatV = true ∧ ys.all flatV = true ∧ Q (.bl (if neg then !eqL xs ys else eqL xs ys)) H
/-! ### xs * k -/
noncomputable def rRepG : R2 := fun x y H Q => ∃ l k xs, x = .ref l ∧ y = .int k ∧ H l = some (.lst xs) ∧ -(2 ^ 63) ≤ k ∧ k < 2 ^ 63 ∧ xs.length * k.toNat ≤ sizeLine ∧ newQ H (.lst (List.replicate k.toNat xs).flatten) Q
end
section
variable {prog : Program} {w : World} {A : Around} {E : Value → Shared → Prop} {s : Shared}
end
section
variable {X : Cx}
/-- t[lo:hi] of a tuple, the whole too -/
noncomputable def rSlTG (K : PySem.W.Frag) : V → Option Int → Option Int → Hp → VK → Prop := fun x lo hi H Q => ∃ a xs, x = .ref a ∧ SqT K H a xs ∧ ∀ p H', Same H H' → SqT K H' p (cutV xs lo hi) → Q (.ref p) H'
end
section
variable {X : Cx} {tg : Expr}
/-- a slice of a list or of a tuple -/
noncomputable def rSlA (K : PySem.W.Frag) : V → Option Int → Option Int → Hp → VK → Prop := fun x lo hi H Q => rSlLS K x lo hi H Q ∨ rSlTG K x lo hi H Q
noncomputable def rIxA (K : PySem.W.Frag) : R2 := fun x y H Q => rIxL K x y H Q ∨ rIxT K x y H Q
noncomputable def iRevA (K : PySem.W.Frag) (ta : TA) : TI := fun σ H R => ta σ H fun vs H1 => ∃ a xs, vs = [.ref a] ∧ ((SqL K H1 a xs ∧ R (ItvL K a xs) H1) ∨ (SqT K H1 a xs ∧ R (ItvT K a xs) H1))
end
end L2

set_option linter.all false
set_option maxRecDepth 100000
set_option maxHeartbeats 4000000
namespace L2
open PySem PySem.Spec PyProof.Rows

/-! ### lists of pairs as tables -/
section
variable {κ : Type} [DecidableEq κ]
noncomputable def valV (kvs : List (κ × V)) (k : κ) : Option V := (kvs.find? fun kv => decide (kv.1 = k)).map (·.2)
/-- in its place, or at the end -/
noncomputable def putK (kvs : List (κ × V)) (k : κ) (v : V) : List (κ × V) :=
  if (kvs.any fun kv => decide (kv.1 = k)) = true then kvs.map (fun kv => if kv.1 = k then (kv.1, v) else kv) else kvs ++ [(k, v)]
end


/-! ### a tracked dict, its keys ints and texts or tuples of these -/
section
variable {P : Program} {w : World} {H : Hp} {h : Heap} {a : Addr}
end

/-- what the dict at a holds at the key y -/
noncomputable def DGet (H : Hp) (a : Addr) (y : V) (r : Option V) : Prop :=
  (∃ kvs k, Rd H a (.dK kvs) ∧ y = kV k ∧ r = valV kvs k) ∨ ∃ kvs k b, Rd H a (.dT kvs) ∧ y = .ref b ∧ H b = some (.tup (k.map kV)) ∧ r = valV kvs k
/-- the heap behind a[y] = v -/
noncomputable def DPut (H : Hp) (a : Addr) (y v : V) (H' : Hp) : Prop :=
  (∃ kvs k, H a = some (.dK kvs) ∧ y = kV k ∧ kvs.length < sizeLine ∧ H' = upd H a (.dK (putK kvs k v))) ∨
  ∃ kvs k b, H a = some (.dT kvs) ∧ y = .ref b ∧ H b = some (.tup (k.map kV)) ∧ kvs.length < sizeLine ∧ H' = upd H a (.dT (putK kvs k v))







section
variable {X : Cx} {pins : List (Addr × Obj)} {σ : St} {H : Hp} {s : Shared} {a : Addr} {y v : V} {u r : Value} {o : Option V} {A : Around} {E : Value → Shared → Prop}

end

section
variable {X : Cx} {pins : List (Addr × Obj)} {σ : St} {H : Hp} {s : Shared} {a : Addr} {kvs : List (Key × V)} {k : Key} {u : Value} {A : Around} {E : Value → Shared → Prop}
end


/-! ### readings and rules -/
/-- d[y] -/
noncomputable def tDGet (td ty : TE) : TE := fun σ H Q => td σ H fun x H1 => ty σ H1 fun y H2 => ∃ a v, x = .ref a ∧ DGet H2 a y (some v) ∧ Q v H2
/-- y in d, y not in d -/
noncomputable def tDIn (ty td : TE) : TE := fun σ H Q => ty σ H fun y H1 => td σ H1 fun x H2 => ∃ a o, x = .ref a ∧ DGet H2 a y o ∧ Q (.bl o.isSome) H2
noncomputable def tDNotIn (ty td : TE) : TE := fun σ H Q => ty σ H fun y H1 => td σ H1 fun x H2 => ∃ a o, x = .ref a ∧ DGet H2 a y o ∧ Q (.bl (!o.isSome)) H2
/-- d[y] = v -/
noncomputable def sDPut (td ty tv : TE) : TS := fun D σ H => tv σ H fun v H1 => td σ H1 fun x H2 => ty σ H2 fun y H3 => ∃ a H4, x = .ref a ∧ DPut H3 a y v H4 ∧ D.nx σ H4
section
variable {X : Cx} {o i e value : Expr} {pos pos' tpos : Pos} {td ty tv : TE}
end


/-! ### displays -/
noncomputable def tDNewT : TE := fun _ H Q => ∀ p, H p = none → Q (.ref p) (upd H p (.dT []))
section
variable {X : Cx} {pos : Pos}
end
end L2

set_option linter.all false
set_option maxRecDepth 100000
set_option maxHeartbeats 4000000
namespace L2
open PySem PySem.Spec PyProof.Rows
/-! ### t + u, either may be empty -/
section
variable {prog : Program} {w : World} {A : Around} {E : Value → Shared → Prop} {s : Shared}
end
section
variable {X : Cx}
noncomputable def rCatTG (K : PySem.W.Frag) : R2 := fun x y H Q => ∃ a b xs ys, x = .ref a ∧ y = .ref b ∧ SqT K H a xs ∧ SqT K H b ys ∧ xs.length + ys.length ≤ sizeLine ∧ ∀ p H', Same H H' → SqT K H' p (xs ++ ys) → Q (.ref p) H'
end
/-! ### a comprehension that reads one name of its frame -/
























end L2

namespace RM
/-! Euclid's loop and Newton's loop over Int -/
theorem gcd_step {a b : Int} (ha : 0 ≤ a) (hb : 0 < b) : Int.gcd b (a % b) = Int.gcd a b := by
  obtain ⟨m, rfl⟩ := Int.eq_ofNat_of_zero_le ha
  obtain ⟨n, rfl⟩ := Int.eq_ofNat_of_zero_le (Int.le_of_lt hb)
  show Nat.gcd n (((m : Int) % (n : Int)).natAbs) = Nat.gcd m n
  rw [← Int.natCast_emod, Int.natAbs_natCast, Nat.gcd_comm m n, Nat.gcd_rec n m, Nat.gcd_comm]
theorem gcd_abs (a b : Int) : Int.gcd (if a < 0 then -a else a) (if b < 0 then -b else b) = Int.gcd a b := by
  have h : ∀ x : Int, (if x < 0 then -x else x).natAbs = x.natAbs := fun x => by split <;> omega
  show Nat.gcd _ _ = Nat.gcd _ _
  rw [h, h]
theorem gcd_end {a : Int} (ha : 0 ≤ a) : ((Int.gcd a 0 : Nat) : Int) = a := by
  rw [Int.gcd_zero_right]; omega
/-- what Newton's step gives -/
theorem newton {g n : Int} (hg : 0 < g) (hn : 0 ≤ n) : n < ((g + n / g) / 2 + 1) * ((g + n / g) / 2 + 1) := by
  have q0 : 0 ≤ n / g := Int.ediv_nonneg hn (Int.le_of_lt hg)
  have q1 : n < (n / g + 1) * g := Int.lt_ediv_add_one_mul_self n hg
  generalize n / g = q at *
  have m1 : g + q + 1 ≤ 2 * ((g + q) / 2) + 2 := by omega
  have m0 : 0 ≤ (g + q) / 2 := by omega
  generalize (g + q) / 2 = m at *
  -- 4 (m+1)^2 >= (g+q+1)^2 >= 4 g (q+1) > 4 n
  have s1 : (g + q + 1) * (g + q + 1) ≤ (2 * m + 2) * (2 * m + 2) := Int.mul_le_mul m1 m1 (by omega) (by omega)
  have s2 : 0 ≤ (g - (q + 1)) * (g - (q + 1)) := by
    rcases Int.le_total 0 (g - (q + 1)) with h | h
    · exact Int.mul_nonneg h h
    · exact Int.mul_nonneg_of_nonpos_of_nonpos h h
  have e1 : (g + q + 1) * (g + q + 1) = (g - (q + 1)) * (g - (q + 1)) + 4 * ((q + 1) * g) := by
    simp only [Int.add_mul, Int.mul_add, Int.sub_mul, Int.mul_sub, Int.mul_comm q g, Int.one_mul, Int.mul_one]; omega
  have e2 : (2 * m + 2) * (2 * m + 2) = 4 * ((m + 1) * (m + 1)) := by
    simp only [Int.add_mul, Int.mul_add, Int.one_mul, Int.mul_one, Int.mul_assoc, Int.mul_left_comm m 2 m]; omega
  omega
theorem newton_falls {g n : Int} (hg : 0 < g) (hn : 0 ≤ n) (h : n < g * g) : (g + n / g) / 2 < g ∧ 0 ≤ (g + n / g) / 2 := by
  have q0 : 0 ≤ n / g := Int.ediv_nonneg hn (Int.le_of_lt hg)
  have q1 : n / g < g := Int.ediv_lt_of_lt_mul hg h
  omega
end RM

namespace RM
noncomputable def by_ (u l : Int) : Int := if l < 0 then -((Int.gcd u l : Nat) : Int) else ((Int.gcd u l : Nat) : Int)
theorem by_ne {u l : Int} (h : l ≠ 0) : by_ u l ≠ 0 := by
  have := Int.gcd_pos_of_ne_zero_right u h
  unfold by_; split <;> omega
theorem by_dvd_u (u l : Int) : by_ u l ∣ u := by
  unfold by_; split
  · exact Int.neg_dvd.mpr (Int.gcd_dvd_left u l)
  · exact Int.gcd_dvd_left u l
theorem by_dvd_l (u l : Int) : by_ u l ∣ l := by
  unfold by_; split
  · exact Int.neg_dvd.mpr (Int.gcd_dvd_right u l)
  · exact Int.gcd_dvd_right u l
theorem low_pos {u l : Int} (h : l ≠ 0) : 0 < l.fdiv (by_ u l) := by
  obtain ⟨k, hk⟩ := by_dvd_l u l
  have hb := by_ne (u := u) h
  have e : l.fdiv (by_ u l) = k := by
    rw [Int.fdiv_eq_ediv_of_dvd (by_dvd_l u l)]
    conv => lhs; arg 1; rw [hk]
    exact Int.mul_ediv_cancel_left k hb
  rw [e]
  have g := Int.gcd_pos_of_ne_zero_right u h
  unfold by_ at hk hb
  by_cases hl : l < 0
  · rw [if_pos hl] at hk
    rcases Int.lt_trichotomy k 0 with q | q | q
    · exfalso
      have := Int.mul_nonneg_of_nonpos_of_nonpos (a := -((Int.gcd u l : Nat) : Int)) (b := k) (by omega) (by omega)
      omega
    · subst q; simp at hk; omega
    · exact q
  · rw [if_neg hl] at hk
    rcases Int.lt_trichotomy k 0 with q | q | q
    · exfalso
      have := Int.mul_nonpos_of_nonneg_of_nonpos (a := ((Int.gcd u l : Nat) : Int)) (b := k) (by omega) (by omega)
      omega
    · subst q; simp at hk; omega
    · exact q
theorem low_gcd {u l : Int} (h : l ≠ 0) : Int.gcd (u.fdiv (by_ u l)) (l.fdiv (by_ u l)) = 1 := by
  have hb := by_ne (u := u) h
  obtain ⟨k, hk⟩ := by_dvd_l u l
  obtain ⟨j, hj⟩ := by_dvd_u u l
  have ej : u.fdiv (by_ u l) = j := by
    rw [Int.fdiv_eq_ediv_of_dvd (by_dvd_u u l)]
    conv => lhs; arg 1; rw [hj]
    exact Int.mul_ediv_cancel_left j hb
  have ek : l.fdiv (by_ u l) = k := by
    rw [Int.fdiv_eq_ediv_of_dvd (by_dvd_l u l)]
    conv => lhs; arg 1; rw [hk]
    exact Int.mul_ediv_cancel_left k hb
  rw [ej, ek]
  have g := Int.gcd_pos_of_ne_zero_right u h
  have e : Int.gcd u l = (by_ u l).natAbs * Int.gcd j k := by
    conv => lhs; rw [hj]
    conv => lhs; arg 2; rw [hk]
    exact Int.gcd_mul_left ..
  have eb : (by_ u l).natAbs = Int.gcd u l := by unfold by_; split <;> omega
  rw [eb] at e
  have : Int.gcd u l * 1 = Int.gcd u l * Int.gcd j k := by omega
  exact (Nat.eq_of_mul_eq_mul_left g this).symm
end RM

namespace RM
/-! rows by Euclid, ways down the tree -/
noncomputable def steps : Int → List Int → List Int
  | _, [] => []
  | s, a :: r => List.replicate a.toNat s ++ steps (1 - s) r
/-- where a way leads -/
noncomputable def W : List Int → Int × Int
  | [] => (1, 1)
  | s :: w => if s = 1 then ((W w).1 + (W w).2, (W w).2) else ((W w).1, (W w).1 + (W w).2)
end RM

namespace RM
/-! hearts, squares, lowest terms of three -/
noncomputable def heart (a b c : Int) : Int := b * b - 4 * a * c
noncomputable def IsSq (n : Int) : Prop := ∃ k : Int, k * k = n
noncomputable def g3 (a b c : Int) : Int := ((Int.gcd ((Int.gcd a b : Nat) : Int) c : Nat) : Int)
noncomputable def by3 (a b c : Int) : Int := if a < 0 then -(g3 a b c) else g3 a b c
structure Root (a b c s : Int) : Prop where
  pos : 0 < a
  side : s = 0 ∨ s = 1
  low : g3 a b c = 1
  hp : 0 < heart a b c
  ns : ¬ IsSq (heart a b c)
theorem sq_of {t n D : Int} (ht : t ≠ 0) (h : n * n = t * t * D) : IsSq D := by
  have h1 : n.natAbs * n.natAbs = t.natAbs * t.natAbs * D.natAbs := by rw [← Int.natAbs_mul, h, Int.natAbs_mul, Int.natAbs_mul]
  have h2 : t.natAbs ^ 2 ∣ n.natAbs ^ 2 := ⟨D.natAbs, by rw [Nat.pow_two, Nat.pow_two]; exact h1⟩
  have h3 : t.natAbs ∣ n.natAbs := (Nat.pow_dvd_pow_iff (by decide)).mp h2
  obtain ⟨k, hk⟩ := Int.natAbs_dvd_natAbs.mp h3
  subst hk
  refine ⟨k, ?_⟩
  have h4 : (t * t) * (k * k) = (t * t) * D := by rw [← h]; grind
  exact Int.eq_of_mul_eq_mul_left (Int.mul_ne_zero ht ht) h4
theorem sq_mul {k h : Int} (hk : k ≠ 0) : IsSq (k * k * h) ↔ IsSq h := by
  constructor
  · rintro ⟨n, e⟩
    exact sq_of hk e
  · rintro ⟨n, rfl⟩
    exact ⟨k * n, by grind⟩
theorem heart_mul (k a b c : Int) : heart (a * k) (b * k) (c * k) = k * k * heart a b c := by unfold heart; grind
theorem g3_eq (a b c : Int) : g3 a b c = ((Nat.gcd (Nat.gcd a.natAbs b.natAbs) c.natAbs : Nat) : Int) := rfl
theorem g3_nn (a b c : Int) : 0 ≤ g3 a b c := Int.natCast_nonneg _
theorem g3_mul (k a b c : Int) : g3 (a * k) (b * k) (c * k) = (k.natAbs : Int) * g3 a b c := by
  rw [g3_eq, g3_eq, Int.natAbs_mul, Int.natAbs_mul, Int.natAbs_mul, Nat.gcd_mul_right, Nat.gcd_mul_right, Int.natCast_mul, Int.mul_comm]
theorem g3_pos {a b c : Int} (h : a ≠ 0) : 0 < g3 a b c := by
  rw [g3_eq]
  have h1 : 0 < Nat.gcd a.natAbs b.natAbs := Nat.gcd_pos_of_pos_left _ (by omega)
  have := Nat.gcd_pos_of_pos_left c.natAbs h1
  omega
theorem g3_dvd_a (a b c : Int) : g3 a b c ∣ a := by
  rw [g3_eq]
  exact Int.ofNat_dvd_left.mpr (Nat.dvd_trans (Nat.gcd_dvd_left _ _) (Nat.gcd_dvd_left _ _))
theorem g3_dvd_b (a b c : Int) : g3 a b c ∣ b := by
  rw [g3_eq]
  exact Int.ofNat_dvd_left.mpr (Nat.dvd_trans (Nat.gcd_dvd_left _ _) (Nat.gcd_dvd_right _ _))
theorem g3_dvd_c (a b c : Int) : g3 a b c ∣ c := by
  rw [g3_eq]
  exact Int.ofNat_dvd_left.mpr (Nat.gcd_dvd_right _ _)
theorem by3_dvd {a b c x : Int} (h : g3 a b c ∣ x) : by3 a b c ∣ x := by
  unfold by3
  split
  · exact Int.neg_dvd.mpr h
  · exact h
theorem by3_ne {a b c : Int} (h : a ≠ 0) : by3 a b c ≠ 0 := by
  have := g3_pos (b := b) (c := c) h
  unfold by3
  split <;> omega
theorem by3_abs (a b c : Int) : ((by3 a b c).natAbs : Int) = g3 a b c := by
  have := g3_nn a b c
  unfold by3
  split <;> omega
/-- what is left: A, B, C with a = by3 * A .. -/
theorem by3_split {a b c : Int} (h : a ≠ 0) : ∃ A B C : Int, a = A * by3 a b c ∧ b = B * by3 a b c ∧ c = C * by3 a b c ∧ a.fdiv (by3 a b c) = A ∧ b.fdiv (by3 a b c) = B ∧ c.fdiv (by3 a b c) = C ∧ 0 < A ∧ g3 A B C = 1 := by
  obtain ⟨A, hA⟩ := by3_dvd (g3_dvd_a a b c)
  obtain ⟨B, hB⟩ := by3_dvd (g3_dvd_b a b c)
  obtain ⟨C, hC⟩ := by3_dvd (g3_dvd_c a b c)
  have hn := by3_ne (b := b) (c := c) h
  have hg := g3_pos (b := b) (c := c) h
  have hab := by3_abs a b c
  have hsg : by3 a b c = if a < 0 then -(g3 a b c) else g3 a b c := rfl
  have key : g3 a b c = g3 a b c * g3 A B C := by
    have := g3_mul (by3 a b c) A B C
    rw [hab, Int.mul_comm A, Int.mul_comm B, Int.mul_comm C, ← hA, ← hB, ← hC] at this
    exact this
  generalize by3 a b c = g at *
  refine ⟨A, B, C, by rw [Int.mul_comm]; exact hA, by rw [Int.mul_comm]; exact hB, by rw [Int.mul_comm]; exact hC, ?_, ?_, ?_, ?_, ?_⟩
  · rw [hA]; exact Int.mul_fdiv_cancel_left A hn
  · rw [hB]; exact Int.mul_fdiv_cancel_left B hn
  · rw [hC]; exact Int.mul_fdiv_cancel_left C hn
  · rcases Int.lt_or_le 0 A with z | z
    · exact z
    · exfalso
      by_cases ha : a < 0
      · rw [if_pos ha] at hsg
        have := Int.mul_nonneg (show 0 ≤ -g by omega) (show 0 ≤ -A by omega)
        rw [Int.neg_mul_neg] at this
        omega
      · rw [if_neg ha] at hsg
        have := Int.mul_nonneg (show 0 ≤ g by omega) (show 0 ≤ -A by omega)
        rw [Int.mul_neg] at this
        omega
  · have z : g3 a b c * g3 A B C = g3 a b c * 1 := by rw [← key, Int.mul_one]
    exact Int.eq_of_mul_eq_mul_left (by omega) z
theorem root_low {a b c s : Int} (h : a ≠ 0) (hh : 0 ≤ heart a b c) (hs : ¬ IsSq (heart a b c)) (hside : s = 0 ∨ s = 1) : Root (a.fdiv (by3 a b c)) (b.fdiv (by3 a b c)) (c.fdiv (by3 a b c)) s := by
  obtain ⟨A, B, C, ea, eb, ec, fa, fb, fc, hA, hg⟩ := by3_split (b := b) (c := c) h
  have hn := by3_ne (b := b) (c := c) h
  rw [fa, fb, fc]
  have hm : heart a b c = by3 a b c * by3 a b c * heart A B C := by
    have := heart_mul (by3 a b c) A B C
    rw [← ea, ← eb, ← ec] at this
    exact this
  have h0 : heart a b c ≠ 0 := fun e => hs ⟨0, by rw [e]; rfl⟩
  refine ⟨hA, hside, hg, ?_, fun z => hs ?_⟩
  · rcases Int.lt_or_le 0 (heart A B C) with z | z
    · exact z
    · exfalso
      have h1 : 0 ≤ by3 a b c * by3 a b c := by
        rcases Int.lt_or_le 0 (by3 a b c) with y | y
        · exact Int.mul_nonneg (by omega) (by omega)
        · have := Int.mul_nonneg (show 0 ≤ -(by3 a b c) by omega) (show 0 ≤ -(by3 a b c) by omega)
          rw [Int.neg_mul_neg] at this
          exact this
      have := Int.mul_nonneg h1 (show 0 ≤ -(heart A B C) by omega)
      rw [Int.mul_neg] at this
      omega
  · rw [hm]
    exact (sq_mul hn).mpr z
/-- squares and their whole roots -/
theorem sq_iff {g n : Int} (g0 : 0 ≤ g) (h1 : g * g ≤ n) (h2 : n < (g + 1) * (g + 1)) : g * g = n ↔ IsSq n := by
  constructor
  · intro h
    exact ⟨g, h⟩
  · rintro ⟨k, rfl⟩
    have hk : k.natAbs = g.natAbs := by
      have e1 : g.natAbs * g.natAbs ≤ k.natAbs * k.natAbs := by
        rw [← Int.natAbs_mul, ← Int.natAbs_mul]
        have := Int.mul_nonneg g0 g0
        omega
      have e2 : k.natAbs * k.natAbs < (g.natAbs + 1) * (g.natAbs + 1) := by
        have a1 : ((k.natAbs * k.natAbs : Nat) : Int) = k * k := by rw [Int.natCast_mul]; exact Int.natAbs_mul_self' k
        have a2 : (((g.natAbs + 1) * (g.natAbs + 1) : Nat) : Int) = (g + 1) * (g + 1) := by
          rw [Int.natCast_mul, Int.natCast_add, show ((g.natAbs : Nat) : Int) = g by omega]; rfl
        omega
      have f1 : g.natAbs ≤ k.natAbs := Nat.mul_self_le_mul_self_iff.mp e1
      have f2 : k.natAbs < g.natAbs + 1 := Nat.mul_self_lt_mul_self_iff.mp e2
      omega
    have := Int.natAbs_mul_self' k
    have := Int.natAbs_mul_self' g
    rw [hk] at *
    omega
theorem sqrt_one {g k n : Int} (g0 : 0 ≤ g) (h1 : g * g ≤ n) (h2 : n < (g + 1) * (g + 1)) (k0 : 0 ≤ k) (h3 : k * k ≤ n) (h4 : n < (k + 1) * (k + 1)) : g = k := by
  rcases Int.lt_trichotomy g k with h | h | h
  · have := Int.mul_le_mul (show g + 1 ≤ k by omega) (show g + 1 ≤ k by omega) (by omega) k0
    omega
  · exact h
  · have := Int.mul_le_mul (show k + 1 ≤ g by omega) (show k + 1 ≤ g by omega) (by omega) g0
    omega
theorem sqrt_le {g n : Int} (g0 : 0 ≤ g) (h1 : g * g ≤ n) : g ≤ n := by
  by_cases z : g = 0
  · subst z; omega
  · have := Int.mul_le_mul_of_nonneg_left (show 1 ≤ g by omega) g0
    omega
end RM

namespace RM
/-! the order of numbers with two square roots, by squares -/
noncomputable def S (n : Int) : Int := n * (n.natAbs : Int)
noncomputable def sg (n : Int) : Int := if 0 < n then 1 else if n < 0 then -1 else 0
theorem S_abs (n : Int) : n * (if n < 0 then -n else n) = S n := by
  unfold S
  congr 1
  split <;> omega
theorem S_nn {n : Int} (h : 0 ≤ n) : S n = n * n := by
  unfold S
  congr 1
  omega
theorem S_np {n : Int} (h : n ≤ 0) : S n = -(n * n) := by
  unfold S
  rw [show (n.natAbs : Int) = -n by omega, Int.mul_neg]
theorem S_mul (x y : Int) : S (x * y) = S x * S y := by
  unfold S
  rw [Int.natAbs_mul, Int.natCast_mul]
  grind
theorem S_neg (x : Int) : S (-x) = -(S x) := by
  unfold S
  rw [Int.natAbs_neg, Int.neg_mul]
theorem sg_neg (x : Int) : sg (-x) = -(sg x) := by
  unfold sg
  split <;> split <;> (try split) <;> (try split) <;> omega
theorem sg_pos {x : Int} (h : 0 < x) : sg x = 1 := if_pos h
theorem sg_nega {x : Int} (h : x < 0) : sg x = -1 := by
  unfold sg
  rw [if_neg (by omega), if_pos h]
theorem sg_zero : sg 0 = 0 := rfl
theorem sg_scale {k x : Int} (hk : 0 < k) : sg (k * x) = sg x := by
  rcases Int.lt_trichotomy x 0 with h | h | h
  · rw [sg_nega h, sg_nega (Int.mul_neg_of_pos_of_neg hk h)]
  · subst h; rw [Int.mul_zero]
  · rw [sg_pos h, sg_pos (Int.mul_pos hk h)]
theorem sg_cases (x : Int) : (sg x = 1 ∧ 0 < x) ∨ (sg x = -1 ∧ x < 0) ∨ (sg x = 0 ∧ x = 0) := by
  rcases Int.lt_trichotomy x 0 with h | h | h
  · exact .inr (.inl ⟨sg_nega h, h⟩)
  · subst h; exact .inr (.inr ⟨rfl, rfl⟩)
  · exact .inl ⟨sg_pos h, h⟩
theorem sg_S (x : Int) : sg (S x) = sg x := by
  rcases Int.lt_trichotomy x 0 with h | h | h
  · rw [S_np (by omega), sg_nega h]
    have := Int.mul_pos (show 0 < -x by omega) (show 0 < -x by omega)
    rw [Int.neg_mul_neg] at this
    exact sg_nega (by omega)
  · subst h; rfl
  · rw [S_nn (by omega), sg_pos h, sg_pos (Int.mul_pos h h)]
/-- the sign of X + x + y, where x, y have the signed squares P, Q -/
noncomputable def F (X P Q : Int) : Int := sg (S (S X + sg (P + Q) * ((P.natAbs : Int) + (Q.natAbs : Int))) + sg (P + Q) * 4 * (P * Q))
noncomputable def cmp2 (X p D q E : Int) : Int := sg (S (S X + sg (S p * D + S q * E) * (p * p * D + q * q * E)) + S (sg (S p * D + S q * E) * 2 * p * q) * (D * E))
theorem S_sg (x : Int) : S (sg x) = sg x := by
  rcases sg_cases x with h | h | h <;> rw [h.1] <;> rfl
theorem abs_S (p D : Int) (hD : 0 ≤ D) : ((S p * D).natAbs : Int) = p * p * D := by
  unfold S
  rw [Int.natAbs_mul, Int.natAbs_mul, Int.natAbs_natCast, Int.natCast_mul, Int.natCast_mul, Int.natAbs_mul_self', show (D.natAbs : Int) = D by omega]
theorem cmp2_F {X p D q E : Int} (hD : 0 ≤ D) (hE : 0 ≤ E) : cmp2 X p D q E = F X (S p * D) (S q * E) := by
  unfold cmp2 F
  rw [abs_S p D hD, abs_S q E hE, S_mul, S_mul, S_mul, S_sg, show S 2 = 4 from rfl]
  congr 2
  grind
theorem F_neg (X P Q : Int) : F (-X) (-P) (-Q) = -(F X P Q) := by
  unfold F
  rw [← sg_neg, show -P + -Q = -(P + Q) by omega, sg_neg, S_neg, Int.natAbs_neg, Int.natAbs_neg, Int.neg_mul, show -S X + -(sg (P + Q) * ((P.natAbs : Int) + (Q.natAbs : Int))) = -(S X + sg (P + Q) * ((P.natAbs : Int) + (Q.natAbs : Int))) by omega, S_neg]
  congr 1
  grind
theorem F_swap (X P Q : Int) : F X P Q = F X Q P := by
  unfold F
  rw [Int.add_comm P Q, Int.add_comm (P.natAbs : Int), Int.mul_comm P Q]
/-! x < a, y ≤ c (one of them less): x + y < a + c -/
theorem S_ge {a P : Int} (h : P ≤ S a) (hP : 0 ≤ P) : 0 ≤ a ∧ P ≤ a * a := by
  rcases Int.lt_or_le a 0 with z | z
  · rw [S_np (by omega)] at h
    have := Int.mul_pos (show 0 < -a by omega) (show 0 < -a by omega)
    rw [Int.neg_mul_neg] at this
    omega
  · rw [S_nn z] at h
    exact ⟨z, h⟩
theorem _root_.Int.mul_self_nonneg' (x : Int) : 0 ≤ x * x := by
  rcases Int.lt_or_le x 0 with z | z
  · have := Int.mul_nonneg (show 0 ≤ -x by omega) (show 0 ≤ -x by omega)
    rw [Int.neg_mul_neg] at this
    exact this
  · exact Int.mul_nonneg z z
theorem _root_.Int.mul_self_nonneg_pos {x : Int} (h : x ≠ 0) : 0 < x * x := by
  have h1 := Int.mul_self_nonneg' x
  have h2 := Int.mul_ne_zero h h
  omega
theorem sq_lt {x y : Int} (hx : 0 ≤ x) (h : x < y) : x * x < y * y := by
  have h1 := Int.mul_le_mul_of_nonneg_left (show x ≤ y by omega) hx
  have h2 := Int.mul_lt_mul_of_pos_right h (show 0 < y by omega)
  omega
theorem sq_le {x y : Int} (hx : 0 ≤ x) (h : x ≤ y) : x * x ≤ y * y := Int.mul_le_mul h h hx (by omega)
theorem lt_of_sq {x y : Int} (hy : 0 ≤ y) (h : x * x < y * y) : x < y := by
  rcases Int.lt_or_le x y with z | z
  · exact z
  · have := sq_le hy z
    omega
theorem both_up {P Q a c : Int} (hP : 0 ≤ P) (hQ : 0 ≤ Q) (h1 : P ≤ S a) (h2 : Q ≤ S c) (h : P < S a ∨ Q < S c) : F (-(a + c)) P Q = -1 := by
  obtain ⟨ha, pa⟩ := S_ge h1 hP
  obtain ⟨hc, qc⟩ := S_ge h2 hQ
  rw [S_nn ha, S_nn hc] at h
  have ac := Int.mul_nonneg ha hc
  unfold F
  rw [S_np (show -(a + c) ≤ 0 by omega)]
  rcases Int.lt_or_le 0 (P + Q) with hs | hs
  · rw [sg_pos hs, show (P.natAbs : Int) = P by omega, show (Q.natAbs : Int) = Q by omega]
    apply sg_nega
    have ew : -(-(a + c) * -(a + c)) + 1 * (P + Q) = -((a * a - P) + (c * c - Q) + 2 * (a * c)) := by grind
    rw [ew, S_np (by omega)]
    have pq : P * Q ≤ a * a * (c * c) := Int.mul_le_mul pa qc hQ (Int.mul_nonneg ha ha)
    have e2 : a * a * (c * c) = (a * c) * (a * c) := by grind
    generalize a * a = A at *
    generalize c * c = C at *
    generalize a * c = m at *
    generalize P * Q = PQ at *
    obtain ⟨t, ht, ht1⟩ : ∃ t, (A - P) + (C - Q) = t ∧ 1 ≤ t := ⟨_, rfl, by omega⟩
    rw [ht]
    have tt := Int.mul_pos (show 0 < t by omega) (show 0 < t by omega)
    have tm := Int.mul_nonneg (show 0 ≤ t by omega) ac
    have e3 : -(t + 2 * m) * -(t + 2 * m) = t * t + 4 * (t * m) + 4 * (m * m) := by grind
    rw [e3]
    omega
  · have p0 : P = 0 := by omega
    have q0 : Q = 0 := by omega
    subst p0 q0
    have aa : 0 < a + c := by
      rcases Int.lt_or_le 0 a with z | z
      · omega
      · have : a = 0 := by omega
        subst this
        rcases Int.lt_or_le 0 c with y | y
        · omega
        · have : c = 0 := by omega
          subst this
          simp at h
    have := Int.mul_pos aa aa
    rw [Int.neg_mul_neg, show sg (0 + 0) = 0 from rfl]
    generalize (a + c) * (a + c) = m at *
    rw [S_np (by omega)]
    apply sg_nega
    have e : -(-m + 0 * (((0 : Int).natAbs : Int) + ((0 : Int).natAbs : Int))) * -(-m + 0 * (((0 : Int).natAbs : Int) + ((0 : Int).natAbs : Int))) = m * m := by simp
    have mm := Int.mul_pos this this
    grind
theorem both_down {P Q a c : Int} (hP : P ≤ 0) (hQ : Q ≤ 0) (hs : P + Q < 0) (h1 : P ≤ S a) (h2 : Q ≤ S c) (h : P < S a ∨ Q < S c) : F (-(a + c)) P Q = -1 := by
  obtain ⟨p, rfl⟩ : ∃ p, P = -p := ⟨-P, by omega⟩
  obtain ⟨q, rfl⟩ : ∃ q, Q = -q := ⟨-Q, by omega⟩
  have pq := Int.mul_nonneg (show 0 ≤ p by omega) (show 0 ≤ q by omega)
  unfold F
  rw [sg_nega hs, show (((-p).natAbs : Nat) : Int) = p by omega, show (((-q).natAbs : Nat) : Int) = q by omega, S_neg, Int.neg_mul_neg]
  apply sg_nega
  obtain ⟨w, hw⟩ : ∃ w, -(S (a + c)) + -1 * (p + q) = w := ⟨_, rfl⟩
  rw [hw]
  rcases Int.lt_or_le w 0 with z | z
  · rw [S_np (by omega)]
    have := Int.mul_pos (show 0 < -w by omega) (show 0 < -w by omega)
    rw [Int.neg_mul_neg] at this
    omega
  · rw [S_nn z]
    have zneg : a + c < 0 := by
      rcases Int.lt_or_le (a + c) 0 with y | y
      · exact y
      · rw [S_nn y] at hw
        have := Int.mul_nonneg y y
        omega
    rw [S_np (by omega)] at hw
    rcases Int.lt_or_le a 0 with ya | ya
    · rw [S_np (show a ≤ 0 by omega)] at h1 h
      rcases Int.lt_or_le c 0 with yc | yc
      · rw [S_np (show c ≤ 0 by omega)] at h2 h
        have ac := Int.mul_pos (show 0 < -a by omega) (show 0 < -c by omega)
        rw [Int.neg_mul_neg] at ac
        have e1 : (a + c) * (a + c) = a * a + c * c + 2 * (a * c) := by grind
        have wl : w < 2 * (a * c) := by omega
        have w2 := sq_lt z wl
        have pl : a * a * (c * c) ≤ p * q := Int.mul_le_mul (by omega) (by omega) (by have := sq_le (show 0 ≤ -c by omega) (show -c ≤ -c by omega); have := Int.mul_nonneg (show 0 ≤ -c by omega) (show 0 ≤ -c by omega); rw [Int.neg_mul_neg] at this; omega) (by omega)
        have e2 : 2 * (a * c) * (2 * (a * c)) = 4 * (a * a * (c * c)) := by grind
        omega
      · rw [S_nn yc] at h2 h
        exfalso
        have n1 := sq_le (x := -(a + c)) (y := -a) (by omega) (by omega)
        rw [Int.neg_mul_neg, Int.neg_mul_neg] at n1
        have c1 : c = 0 ∨ (a + c) * (a + c) < a * a := by
          rcases Int.lt_or_le 0 c with y | y
          · have := sq_lt (x := -(a + c)) (y := -a) (by omega) (by omega)
            rw [Int.neg_mul_neg, Int.neg_mul_neg] at this
            exact .inr this
          · exact .inl (by omega)
        rcases c1 with rfl | c1
        · simp at h
          omega
        · omega
    · rw [S_nn ya] at h1 h
      rw [S_np (show c ≤ 0 by omega)] at h2 h
      exfalso
      have n1 := sq_le (x := -(a + c)) (y := -c) (by omega) (by omega)
      rw [Int.neg_mul_neg, Int.neg_mul_neg] at n1
      have c1 : a = 0 ∨ (a + c) * (a + c) < c * c := by
        rcases Int.lt_or_le 0 a with y | y
        · have := sq_lt (x := -(a + c)) (y := -c) (by omega) (by omega)
          rw [Int.neg_mul_neg, Int.neg_mul_neg] at this
          exact .inr this
        · exact .inl (by omega)
      rcases c1 with rfl | c1
      · simp at h
        omega
      · omega
theorem up_down {p q a c : Int} (hp : 0 < p) (hq : 0 < q) (h1 : p ≤ S a) (h2 : -q ≤ S c) (h : p < S a ∨ -q < S c) : F (-(a + c)) p (-q) = -1 := by
  obtain ⟨ha, pa⟩ := S_ge h1 (by omega)
  have apos : 0 < a := by
    rcases Int.lt_or_le 0 a with z | z
    · exact z
    · have : a = 0 := by omega
      subst this
      omega
  rw [S_nn ha] at h
  have pq := Int.mul_pos hp hq
  unfold F
  rw [show (p.natAbs : Int) = p by omega, show (((-q).natAbs : Nat) : Int) = q by omega, S_neg, Int.mul_neg p q]
  rcases Int.lt_trichotomy q p with hs | hs | hs
  · -- p greater
    rw [sg_pos (show 0 < p + -q by omega)]
    apply sg_nega
    obtain ⟨w, hw⟩ : ∃ w, -(S (a + c)) + 1 * (p + q) = w := ⟨_, rfl⟩
    rw [hw]
    rcases Int.lt_or_le 0 w with z | z
    · rw [S_nn (by omega)]
      rcases Int.lt_or_le c 0 with yc | yc
      · rw [S_np (show c ≤ 0 by omega)] at h2 h
        have kl : -c < a := lt_of_sq ha (by rw [Int.neg_mul_neg]; omega)
        rw [S_nn (show 0 ≤ a + c by omega)] at hw
        obtain ⟨k, rfl⟩ : ∃ k, c = -k := ⟨-c, by omega⟩
        rw [Int.neg_mul_neg] at h2 h
        obtain ⟨y, rfl⟩ : ∃ y, a = y + k := ⟨a - k, by omega⟩
        have ypos : 0 < y := by omega
        rw [show y + k + -k = y by omega] at hw
        have e1 : (y + k) * (y + k) = y * y + 2 * (y * k) + k * k := by grind
        rw [e1] at pa h
        obtain ⟨T, hT⟩ : ∃ T, p - q - y * y = T := ⟨_, rfl⟩
        have heron : T * T - 4 * (y * y * q) = w * w - 4 * (p * q) := by subst hT hw; grind
        have tl : T < 2 * (y * k) := by omega
        have yy := Int.mul_pos ypos ypos
        have yq := Int.mul_pos yy hq
        rcases Int.lt_or_le T 0 with t0 | t0
        · have t1 : -T < y * y := by omega
          have t2 : -T < 2 * q := by omega
          have t3 : -T * -T < y * y * (2 * q) := by
            have a1 := Int.mul_lt_mul_of_pos_right t1 (show 0 < -T by omega)
            have a2 := Int.mul_lt_mul_of_pos_left t2 yy
            omega
          rw [Int.neg_mul_neg, show y * y * (2 * q) = 2 * (y * y * q) by grind] at t3
          omega
        · have t1 := sq_lt t0 tl
          have t2 : y * y * (k * k) ≤ y * y * q := Int.mul_le_mul_of_nonneg_left (by omega) (by omega)
          have t3 : 2 * (y * k) * (2 * (y * k)) = 4 * (y * y * (k * k)) := by grind
          omega
      · rw [S_nn (show 0 ≤ a + c by omega)] at hw
        have n1 := sq_le ha (show a ≤ a + c by omega)
        have wq : w ≤ q := by omega
        have w2 := sq_le (show 0 ≤ w by omega) wq
        have w3 := Int.mul_lt_mul_of_pos_right hs hq
        omega
    · rw [S_np z]
      have := Int.mul_nonneg (show 0 ≤ -w by omega) (show 0 ≤ -w by omega)
      rw [Int.neg_mul_neg] at this
      omega
  · -- as great
    subst hs
    have zpos : 0 < a + c := by
      rcases Int.lt_or_le c 0 with yc | yc
      · rw [S_np (show c ≤ 0 by omega)] at h2 h
        have := lt_of_sq (x := -c) ha (by rw [Int.neg_mul_neg]; omega)
        omega
      · omega
    rw [show q + -q = 0 by omega, sg_zero, S_nn (show 0 ≤ a + c by omega)]
    have m0 := Int.mul_pos zpos zpos
    generalize (a + c) * (a + c) = m at *
    apply sg_nega
    rw [show -m + 0 * (q + q) = -m by omega, S_np (by omega), Int.neg_mul_neg]
    have := Int.mul_pos m0 m0
    omega
  · -- q greater
    rw [sg_nega (show p + -q < 0 by omega)]
    apply sg_nega
    rcases Int.lt_or_le (a + c) 0 with z | z
    · rw [S_np (show a + c ≤ 0 by omega)]
      rw [S_np (show c ≤ 0 by omega)] at h2 h
      obtain ⟨n, hn⟩ : ∃ n, a + c = -n := ⟨-(a + c), by omega⟩
      obtain rfl : c = -(a + n) := by omega
      rw [Int.neg_mul_neg] at h2 h
      rw [hn, Int.neg_mul_neg]
      have e1 : (a + n) * (a + n) = a * a + 2 * (a * n) + n * n := by grind
      rw [e1] at h2 h
      have an := Int.mul_pos apos (show 0 < n by omega)
      have nn := Int.mul_pos (show 0 < n by omega) (show 0 < n by omega)
      obtain ⟨w, hw⟩ : ∃ w, p + q - n * n = w := ⟨_, rfl⟩
      rw [show - -(n * n) + -1 * (p + q) = -w by omega, S_np (show -w ≤ 0 by omega), Int.neg_mul_neg]
      obtain ⟨U, hU⟩ : ∃ U, q - p - n * n = U := ⟨_, rfl⟩
      have heron : w * w - 4 * (p * q) = U * U - 4 * (p * (n * n)) := by subst hU hw; grind
      have ul : 2 * (a * n) < U := by omega
      have u2 := sq_lt (by omega) ul
      have u3 : 2 * (a * n) * (2 * (a * n)) = 4 * (a * a * (n * n)) := by grind
      have u4 : p * (n * n) ≤ a * a * (n * n) := Int.mul_le_mul_of_nonneg_right pa (by omega)
      omega
    · rw [S_nn z]
      have m0 := Int.mul_nonneg z z
      generalize (a + c) * (a + c) = m at *
      have w1 : 0 < p + q + m := by omega
      rw [show -m + -1 * (p + q) = -(p + q + m) by omega, S_np (by omega), Int.neg_mul_neg]
      have u1 := sq_le (show 0 ≤ p + q by omega) (show p + q ≤ p + q + m by omega)
      have u2 := Int.mul_pos (show 0 < q - p by omega) (show 0 < q - p by omega)
      have u3 : (p + q) * (p + q) = 4 * (p * q) + (q - p) * (q - p) := by grind
      omega
/-- all cases -/
theorem F_less {P Q a c : Int} (h1 : P ≤ S a) (h2 : Q ≤ S c) (h : P < S a ∨ Q < S c) : F (-(a + c)) P Q = -1 := by
  rcases Int.lt_or_le P 0 with hp | hp
  · rcases Int.lt_or_le 0 Q with hq | hq
    · obtain ⟨p, rfl⟩ : ∃ p, P = -p := ⟨-P, by omega⟩
      rw [F_swap, Int.add_comm]
      exact up_down hq (by omega) h2 h1 h.symm
    · exact both_down (by omega) hq (by omega) h1 h2 h
  · rcases Int.lt_or_le Q 0 with hq | hq
    · rcases Int.lt_or_le 0 P with hp0 | hp0
      · obtain ⟨q, rfl⟩ : ∃ q, Q = -q := ⟨-Q, by omega⟩
        exact up_down hp0 (by omega) h1 h2 h
      · exact both_down hp0 (by omega) (by omega) h1 h2 h
    · exact both_up hp hq h1 h2 h
end RM

namespace RM

/-! numbers: (A + t * root of D) / L -/
inductive NumR : List Int → Int → Int → Int → Int → Prop where
  | frac {u l : Int} (hl : 0 < l) (hg : Int.gcd u l = 1) : NumR [u, l] u 0 0 l
  | root {a b c s : Int} (h : Root a b c s) : NumR [a, b, c, s] (-b) (if s = 1 then 1 else -1) (heart a b c) (2 * a)
noncomputable def cmpN (A1 t1 D1 L1 A2 t2 D2 L2 : Int) : Int := cmp2 (A1 * L2 - A2 * L1) (t1 * L2) D1 (-t2 * L1) D2
theorem NumR.L_pos {xs : List Int} {A t D L : Int} (h : NumR xs A t D L) : 0 < L := by
  cases h with
  | frac hl hg => exact hl
  | root h => have := h.pos; omega
theorem NumR.D_nn {xs : List Int} {A t D L : Int} (h : NumR xs A t D L) : 0 ≤ D := by
  cases h with
  | frac hl hg => exact Int.le_refl _
  | root h => have := h.hp; omega
/-- where u / l lies -/
noncomputable def sA (A t D L u l : Int) : Int := S (A * l - u * L) + S (t * l) * D
theorem cmpN_turn {A1 t1 D1 L1 A2 t2 D2 L2 : Int} (hD1 : 0 ≤ D1) (hD2 : 0 ≤ D2) : cmpN A2 t2 D2 L2 A1 t1 D1 L1 = -(cmpN A1 t1 D1 L1 A2 t2 D2 L2) := by
  unfold cmpN
  rw [cmp2_F hD1 hD2, cmp2_F hD2 hD1, ← F_neg, F_swap, Int.neg_mul, Int.neg_mul, S_neg, S_neg]
  congr 1
  · omega
  · grind
  · grind
theorem cmpN_01 (A1 t1 D1 L1 A2 t2 D2 L2 : Int) : cmpN A1 t1 D1 L1 A2 t2 D2 L2 = -1 ∨ cmpN A1 t1 D1 L1 A2 t2 D2 L2 = 0 ∨ cmpN A1 t1 D1 L1 A2 t2 D2 L2 = 1 := by
  unfold cmpN cmp2
  generalize (S _ + S _ * (D1 * D2)) = x
  rcases sg_cases x with h | h | h
  · exact .inr (.inr h.1)
  · exact .inl h.1
  · exact .inr (.inl h.1)
end RM

namespace RM
/-! above, by the equation -/
noncomputable def abv (a b c s u l : Int) : Bool := if 0 < 2 * a * u + b * l then decide (s = 1) && decide (a * u * u + b * u * l + c * l * l < 0) else decide (s = 1) || decide (0 < a * u * u + b * u * l + c * l * l)
theorem abv_sA {a b c s u l : Int} (h : Root a b c s) (hl : 0 < l) : (abv a b c s u l = true → 0 < sA (-b) (if s = 1 then 1 else -1) (heart a b c) (2 * a) u l) ∧ (abv a b c s u l = false → sA (-b) (if s = 1 then 1 else -1) (heart a b c) (2 * a) u l < 0) := by
  have ll := Int.mul_pos hl hl
  have pa := h.pos
  have lh := Int.mul_pos ll h.hp
  obtain ⟨y, hy⟩ : ∃ y, 2 * a * u + b * l = y := ⟨_, rfl⟩
  obtain ⟨f, hf⟩ : ∃ f, a * u * u + b * u * l + c * l * l = f := ⟨_, rfl⟩
  have ey : -b * l - u * (2 * a) = -y := by rw [← hy]; grind
  have e4 : 4 * a * f = y * y - l * l * heart a b c := by subst hy hf; unfold heart; grind
  have ne : y * y ≠ l * l * heart a b c := fun e => h.ns (sq_of (by omega) e)
  have fs : (f < 0 ↔ y * y < l * l * heart a b c) := by
    constructor
    · intro z
      have := Int.mul_neg_of_pos_of_neg (show 0 < 4 * a by omega) z
      omega
    · intro z
      rcases Int.lt_or_le f 0 with w | w
      · exact w
      · have := Int.mul_nonneg (show 0 ≤ 4 * a by omega) w
        omega
  have fp : (0 < f ↔ l * l * heart a b c < y * y) := by
    constructor
    · intro z
      have := Int.mul_pos (show 0 < 4 * a by omega) z
      omega
    · intro z
      rcases Int.lt_or_le 0 f with w | w
      · exact w
      · have := Int.mul_nonneg (show 0 ≤ 4 * a by omega) (show 0 ≤ -f by omega)
        rw [Int.mul_neg] at this
        omega
  have yy := Int.mul_self_nonneg' y
  unfold abv sA
  rw [hy, hf, ey, S_neg, S_mul, S_nn (show 0 ≤ l by omega)]
  have m1 : S (-1) * (l * l) * heart a b c = -(l * l * heart a b c) := by rw [show S (-1) = -1 from rfl]; grind
  have m2 : S 1 * (l * l) * heart a b c = l * l * heart a b c := by rw [show S 1 = 1 from rfl, Int.one_mul]
  generalize l * l * heart a b c = h' at *
  rcases h.side with e | e
  · subst e
    rw [if_neg (show ¬ (0 : Int) = 1 by decide), show decide ((0 : Int) = 1) = false from rfl, Bool.false_and, Bool.false_or, m1]
    rcases Int.lt_or_le 0 y with z | z
    · rw [if_pos z, S_nn (show 0 ≤ y by omega)]
      exact ⟨(fun q => nomatch q), fun _ => by omega⟩
    · rw [if_neg (by omega), S_np z, decide_eq_true_iff, decide_eq_false_iff_not]
      exact ⟨fun q => by have := fp.mp q; omega, fun q => by have : ¬ h' < y * y := fun w => q (fp.mpr w); omega⟩
  · subst e
    rw [if_pos rfl, show decide ((1 : Int) = 1) = true from rfl, Bool.true_and, Bool.true_or, m2]
    rcases Int.lt_or_le 0 y with z | z
    · rw [if_pos z, S_nn (show 0 ≤ y by omega), decide_eq_true_iff, decide_eq_false_iff_not]
      exact ⟨fun q => by have := fs.mp q; omega, fun q => by have : ¬ y * y < h' := fun w => q (fs.mpr w); omega⟩
    · rw [if_neg (by omega), S_np z]
      exact ⟨fun _ => by omega, fun q => nomatch q⟩
/-! the whole part of a root -/
theorem part_right {a b c s g : Int} (h : Root a b c s) (g0 : 0 ≤ g) (g1 : g * g ≤ heart a b c) (g2 : heart a b c < (g + 1) * (g + 1)) {n : Int}
    (hn : n = ((if s = 0 then -g - 1 else g) - b) / (2 * a)) : abv a b c s n 1 = true ∧ abv a b c s (n + 1) 1 = false := by
  have pa := h.pos
  have gl : g * g < heart a b c := by
    have : g * g ≠ heart a b c := fun e => h.ns ⟨g, e⟩
    omega
  have lo := Int.mul_ediv_self_le (x := (if s = 0 then -g - 1 else g) - b) (k := 2 * a) (by omega)
  have hi := Int.lt_mul_ediv_self_add (x := (if s = 0 then -g - 1 else g) - b) (k := 2 * a) (by omega)
  rw [← hn] at lo hi
  have e1 : ∀ m : Int, 4 * a * (a * m * m + b * m * 1 + c * 1 * 1) = (2 * a * m + b) * (2 * a * m + b) - heart a b c := fun m => by unfold heart; grind
  have f1 := e1 n
  have f2 := e1 (n + 1)
  have e2 : 2 * a * (n + 1) = 2 * a * n + 2 * a := by grind
  rw [e2] at f2
  have neg : ∀ f : Int, 4 * a * f < 0 → f < 0 := fun f z => by
    rcases Int.lt_or_le f 0 with w | w
    · exact w
    · have := Int.mul_nonneg (show 0 ≤ 4 * a by omega) w
      omega
  have pos : ∀ f : Int, 0 < 4 * a * f → 0 < f := fun f z => by
    rcases Int.lt_or_le 0 f with w | w
    · exact w
    · have := Int.mul_nonneg (show 0 ≤ 4 * a by omega) (show 0 ≤ -f by omega)
      rw [Int.mul_neg] at this
      omega
  unfold abv
  rw [Int.mul_one, e2]
  generalize a * n * n + b * n * 1 + c * 1 * 1 = F1 at *
  generalize a * (n + 1) * (n + 1) + b * (n + 1) * 1 + c * 1 * 1 = F2 at *
  generalize 2 * a * n = y at *
  rcases h.side with e | e
  · subst e
    rw [if_pos rfl] at lo hi
    have a1 : (g + 1) * (g + 1) ≤ (y + b) * (y + b) := by
      have := sq_le (show 0 ≤ g + 1 by omega) (show g + 1 ≤ -(y + b) by omega)
      rw [Int.neg_mul_neg] at this
      exact this
    have p1 := pos F1 (by omega)
    constructor
    · rw [if_neg (by omega)]
      simp [p1]
    · split
      · simp
      · rename_i z
        have a2 := sq_le (x := -(y + 2 * a + b)) (y := g) (by omega) (by omega)
        rw [Int.neg_mul_neg] at a2
        have n1 := neg F2 (by omega)
        simp
        omega
  · subst e
    rw [if_neg (by decide)] at lo hi
    have a2 := sq_le (x := g + 1) (y := y + 2 * a + b) (by omega) (by omega)
    have p2 := pos F2 (by omega)
    constructor
    · split
      · rename_i z
        have a1 := sq_le (x := y + b) (y := g) (by omega) (by omega)
        have n1 := neg F1 (by omega)
        simp [n1]
      · simp
    · rw [if_pos (by omega)]
      simp
      omega
end RM

set_option maxHeartbeats 4000000
namespace RM
/-! 1 divided by a root less n -/
noncomputable def abvS (s y f : Int) : Bool := if 0 < y then decide (s = 1) && decide (f < 0) else decide (s = 1) || decide (0 < f)
theorem abv_S (a b c s u l : Int) : abv a b c s u l = abvS s (2 * a * u + b * l) (a * u * u + b * u * l + c * l * l) := rfl
theorem abvS_iff {s y f : Int} : abvS s y f = true ↔ (0 < y ∧ s = 1 ∧ f < 0) ∨ (¬ 0 < y ∧ (s = 1 ∨ 0 < f)) := by
  unfold abvS
  by_cases h : 0 < y
  · rw [if_pos h, Bool.and_eq_true, decide_eq_true_iff, decide_eq_true_iff]
    omega
  · rw [if_neg h, Bool.or_eq_true, decide_eq_true_iff, decide_eq_true_iff]
    omega
theorem sgn_mul {k x : Int} (hk : 0 < k) : (0 < x → 0 < k * x) ∧ (x < 0 → k * x < 0) ∧ (x = 0 → k * x = 0) :=
  ⟨fun h => Int.mul_pos hk h, fun h => Int.mul_neg_of_pos_of_neg hk h, fun h => by rw [h, Int.mul_zero]⟩
theorem sgn3 {k x : Int} (hk : 0 < k) : (x < 0 ∧ k * x < 0) ∨ (x = 0 ∧ k * x = 0) ∨ (0 < x ∧ 0 < k * x) := by
  have h := sgn_mul (x := x) hk
  rcases Int.lt_trichotomy x 0 with z | z | z
  · exact .inl ⟨z, h.2.1 z⟩
  · exact .inr (.inl ⟨z, h.2.2 z⟩)
  · exact .inr (.inr ⟨z, h.1 z⟩)
theorem abvS_b {s y f : Int} : abvS s y f = cond (decide (0 < y)) (decide (s = 1) && decide (f < 0)) (decide (s = 1) || decide (0 < f)) := by
  unfold abvS
  by_cases h : 0 < y
  · rw [if_pos h, decide_eq_true h]; rfl
  · rw [if_neg h, decide_eq_false h]; rfl
theorem abvS_scale {k s y f : Int} (hk : 0 < k) : abvS s (k * y) (k * f) = abvS s y f := by
  have p : ∀ x : Int, decide (0 < k * x) = decide (0 < x) := fun x => decide_eq_decide.mpr (by have := sgn3 (x := x) hk; omega)
  have n : ∀ x : Int, decide (k * x < 0) = decide (x < 0) := fun x => decide_eq_decide.mpr (by have := sgn3 (x := x) hk; omega)
  rw [abvS_b, abvS_b, p, p, n]
noncomputable def due (a b c s n u l : Int) : Bool := if u = 0 then abv a b c s n 1 else if 0 < u then abv a b c s n 1 && !abv a b c s (n * u + l) u else abv a b c s n 1 || !abv a b c s (n * (0 - u) - l) (0 - u)
theorem up_bools : ∀ q d e n s : Bool, (q = true → d = true ∧ n = false) → (q = false → e = true → d = false) → (d = false → n = false → e = true) →
    cond d (!s && n) (!s || !n) = (cond q (s && false) (s || true) && !cond e (s && n) (s || !n)) := by decide
theorem up_bools' : ∀ q d e n s : Bool, (d = false → n = false ∧ e = true) → (d = true → n = false → e = true) →
    cond d (s && !n) (s || n) = (cond q (s && true) (s || false) && !cond e (s && n) (s || !n)) := by decide
theorem pos_not {f : Int} (h : f ≠ 0) : decide (0 < f) = !decide (f < 0) := by
  by_cases z : f < 0
  · rw [decide_eq_true z, decide_eq_false (by omega)]; rfl
  · rw [decide_eq_false z, decide_eq_true (by omega)]; rfl
/-- the case by signs; p, q, a: the turned equation -/
theorem turn_up {a p q s u l d e f : Int} (ha : 0 < a) (hl : 0 < l) (hu : 0 < u) (hs : s = 0 ∨ s = 1) (hp : p ≠ 0) (hD : 4 * a * p < q * q) (hd : d = 2 * p * u + q * l) (he : e = q * u + 2 * a * l) (hR : u * d + l * e = 2 * f) (hf : f ≠ 0) :
    (if 0 < p then abvS (1 - s) d f else abvS s (-d) (-f)) = (abvS s q p && !abvS s e f) := by
  have al := Int.mul_pos (show 0 < 2 * a by omega) hl
  have F2 : d ≤ 0 → 0 < f → 0 < e := fun x y => by
    rcases Int.lt_or_le 0 e with z | z
    · exact z
    · have m1 := Int.mul_nonpos_of_nonneg_of_nonpos (Int.le_of_lt hu) x
      have m2 := Int.mul_nonpos_of_nonneg_of_nonpos (Int.le_of_lt hl) z
      omega
  by_cases h : 0 < p
  · have h4 : 0 < 2 * p * u := Int.mul_pos (by omega) hu
    have nb : q < 0 → 0 < e → ¬ 0 < d := fun y2 y3 y4 => by
      have q1 := Int.mul_neg_of_neg_of_pos y2 hu
      have m := Int.mul_lt_mul_of_pos_right (show -(q * u) < 2 * a * l by omega) h4
      have m2 := Int.mul_lt_mul_of_pos_left (show -(q * l) < 2 * p * u by omega) (show 0 < -(q * u) by omega)
      have e1 : 2 * a * l * (2 * p * u) = (4 * a * p) * (u * l) := by grind
      have e2 : -(q * u) * -(q * l) = (q * q) * (u * l) := by grind
      have m3 := Int.mul_lt_mul_of_pos_right hD (Int.mul_pos hu hl)
      rw [e1] at m
      rw [e2] at m2
      clear hD e1 e2
      omega
    have q0 : q ≠ 0 := fun z => by
      have := Int.mul_pos (show 0 < 4 * a by omega) h
      rw [z] at hD
      omega
    have F1 : 0 < q → 0 < d ∧ 0 < f := fun y => by
      have m1 := Int.mul_pos y hl
      have m2 := Int.mul_pos y hu
      have d0 : 0 < d := by omega
      have m3 := Int.mul_pos hu d0
      have m4 := Int.mul_pos hl (show 0 < e by omega)
      exact ⟨d0, by omega⟩
    clear hD hR hd he al h4
    rw [if_pos h, abvS_b, abvS_b, abvS_b, pos_not hf, show decide (1 - s = 1) = !decide (s = 1) by rcases hs with rfl | rfl <;> rfl, decide_eq_false (show ¬ p < 0 by omega), decide_eq_true h]
    refine up_bools _ _ _ _ _ (fun z => ?_) (fun z w => ?_) (fun z w => ?_)
    · have := F1 (of_decide_eq_true z)
      exact ⟨decide_eq_true this.1, decide_eq_false (by omega)⟩
    · have := of_decide_eq_false z
      exact decide_eq_false (nb (by omega) (of_decide_eq_true w))
    · have := of_decide_eq_false z
      have := of_decide_eq_false w
      exact decide_eq_true (F2 (by omega) (by omega))
  · have h4 : 2 * p * u < 0 := Int.mul_neg_of_neg_of_pos (by omega) hu
    have G1 : ¬ d < 0 → 0 < f ∧ 0 < e := fun y => by
      have q0 : 0 < q := by
        rcases Int.lt_or_le 0 q with z | z
        · exact z
        · have := Int.mul_nonpos_of_nonneg_of_nonpos (Int.le_of_lt hl) z
          rw [Int.mul_comm] at this
          omega
      have m2 := Int.mul_pos q0 hu
      have e0 : 0 < e := by omega
      have m3 := Int.mul_nonneg (Int.le_of_lt hu) (show 0 ≤ d by omega)
      have m4 := Int.mul_pos hl e0
      exact ⟨by omega, e0⟩
    clear hD hR hd he al h4
    rw [if_neg h, abvS_b, abvS_b, abvS_b, decide_eq_true (show p < 0 by omega), decide_eq_false h, pos_not hf, show decide (-f < 0) = !decide (f < 0) by rw [← pos_not hf]; exact decide_eq_decide.mpr (by omega), show decide (0 < -f) = decide (f < 0) from decide_eq_decide.mpr (by omega), show decide (0 < -d) = decide (d < 0) from decide_eq_decide.mpr (by omega)]
    refine up_bools' _ _ _ _ _ (fun z => ?_) (fun z w => ?_)
    · have := G1 (of_decide_eq_false z)
      exact ⟨decide_eq_false (by omega), decide_eq_true this.2⟩
    · have := of_decide_eq_true z
      have := of_decide_eq_false w
      exact decide_eq_true (F2 (by omega) (by omega))
/-- the turned equation is one, of the same heart -/
theorem turned_ht {a b c s n : Int} (r : Root a b c s) : a * n * n + b * n + c ≠ 0 ∧ heart (a * n * n + b * n + c) (2 * a * n + b) a = heart a b c := by
  have ha := r.pos
  have hh : heart (a * n * n + b * n + c) (2 * a * n + b) a = heart a b c := by unfold heart; grind
  have hp : a * n * n + b * n + c ≠ 0 := fun e => r.ns ⟨2 * a * n + b, by rw [← hh, e]; unfold heart; grind⟩
  exact ⟨hp, hh⟩
/-- beside fractions above 0 -/
theorem turned_up {a b c s n : Int} (r : Root a b c s) {P Q A g : Int} (hg : g ≠ 0) (eP : a * n * n + b * n + c = P * g) (eQ : 2 * a * n + b = Q * g) (eA : a = A * g) (hP : 0 < P) {u l : Int} (hu : 0 < u) (hl : 0 < l) :
    abv P Q A (if 0 < a * n * n + b * n + c then 1 - s else s) u l = due a b c s n u l := by
  have ha := r.pos
  have hh : heart (a * n * n + b * n + c) (2 * a * n + b) a = heart a b c := by unfold heart; grind
  have hp : a * n * n + b * n + c ≠ 0 := fun e => r.ns ⟨2 * a * n + b, by rw [← hh, e]; unfold heart; grind⟩
  have hD : 4 * a * (a * n * n + b * n + c) < (2 * a * n + b) * (2 * a * n + b) := by
    have := r.hp
    rw [← hh] at this
    unfold heart at this
    rw [show 4 * (a * n * n + b * n + c) * a = 4 * a * (a * n * n + b * n + c) by grind] at this
    omega
  obtain ⟨p, hpd⟩ : ∃ p, a * n * n + b * n + c = p := ⟨_, rfl⟩
  obtain ⟨q, hqd⟩ : ∃ q, 2 * a * n + b = q := ⟨_, rfl⟩
  have hF : ∀ u l : Int, a * (n * u + l) * (n * u + l) + b * (n * u + l) * u + c * u * u = p * u * u + q * u * l + a * l * l := fun u l => by subst hpd hqd; grind
  have hE : ∀ u l : Int, 2 * a * (n * u + l) + b * u = q * u + 2 * a * l := fun u l => by subst hqd; grind
  rw [hpd] at eP hD hp ⊢
  rw [hqd] at eQ hD
  obtain ⟨d, hd⟩ : ∃ d, 2 * p * u + q * l = d := ⟨_, rfl⟩
  obtain ⟨f, hf⟩ : ∃ f, p * u * u + q * u * l + a * l * l = f := ⟨_, rfl⟩
  have left : abv P Q A (if 0 < p then 1 - s else s) u l = if 0 < p then abvS (1 - s) d f else abvS s (-d) (-f) := by
    rw [abv_S]
    have e1 : g * (2 * P * u + Q * l) = d := by rw [← hd, eP, eQ]; grind
    have e2 : g * (P * u * u + Q * u * l + A * l * l) = f := by rw [← hf, eP, eQ, eA]; grind
    by_cases h : 0 < p
    · have g0 : 0 < g := by
        rcases Int.lt_or_le 0 g with z | z
        · exact z
        · have := Int.mul_nonneg (show 0 ≤ P by omega) (show 0 ≤ -g by omega)
          rw [Int.mul_neg] at this
          omega
      rw [if_pos h, if_pos h, ← abvS_scale g0, e1, e2]
    · have g0 : 0 < -g := by
        rcases Int.lt_or_le g 0 with z | z
        · omega
        · have := Int.mul_nonneg (show 0 ≤ P by omega) z
          omega
      rw [if_neg h, if_neg h, ← abvS_scale g0, Int.neg_mul, Int.neg_mul, e1, e2]
  have h0 : abv a b c s n 1 = abvS s q p := by
    rw [abv_S]
    congr 1
    · rw [← hqd]; omega
    · rw [← hpd]; grind
  rw [left]
  unfold due
  rw [h0]
  have hu0 : u ≠ 0 := by omega
  rw [if_neg hu0]
  have hR : u * d + l * (q * u + 2 * a * l) = 2 * f := by rw [← hd, ← hf]; grind
  have f0 : f ≠ 0 := fun z => by
    have e1 : (q * u + 2 * a * l) * (q * u + 2 * a * l) = u * u * heart a b c := by
      have e2 : (q * u + 2 * a * l) * (q * u + 2 * a * l) = u * u * heart p q a + 4 * a * f := by rw [← hf]; unfold heart; grind
      rw [e2, z]
      rw [hpd, hqd] at hh
      rw [hh]
      omega
    exact r.ns (sq_of hu0 e1)
  rw [if_pos hu, abv_S a b c s (n * u + l) u, hF, hE, hf]
  exact turn_up ha hl hu r.side hp hD hd.symm rfl hR f0
end RM

namespace RM
/-! what a row stands for -/
noncomputable def st : List Int → Int × Int
  | [] => (0, 0)
  | [x] => (x, 1)
  | a :: b :: r => (a * (st (b :: r)).1 + (st (b :: r)).2, (st (b :: r)).1)
theorem st_cons {a : Int} {r : List Int} (h : r ≠ []) : st (a :: r) = (a * (st r).1 + (st r).2, (st r).1) := by
  cases r with
  | nil => exact absurd rfl h
  | cons b r => rfl
noncomputable def Ups (r : List Int) : Prop := ∀ x ∈ r, 1 ≤ x
theorem st_pos : ∀ {r : List Int}, r ≠ [] → Ups r → 1 ≤ (st r).1 ∧ 1 ≤ (st r).2 ∧ (st r).2 ≤ (st r).1 ∧ (r ≠ [1] → (st r).2 < (st r).1)
  | [], h, _ => absurd rfl h
  | [x], _, h => by
    have hx := h x List.mem_cons_self
    show 1 ≤ x ∧ (1 : Int) ≤ 1 ∧ 1 ≤ x ∧ ([x] ≠ [1] → 1 < x)
    refine ⟨hx, Int.le_refl _, hx, fun z => ?_⟩
    have : x ≠ 1 := fun e => z (by rw [e])
    omega
  | a :: b :: r, _, h => by
    have ih := st_pos (r := b :: r) (by simp) (fun x hx => h x (List.mem_cons_of_mem _ hx))
    have ha := h a List.mem_cons_self
    obtain ⟨h1, h2, h3, _⟩ := ih
    rw [st_cons (by simp)]
    generalize st (b :: r) = p at *
    have := Int.mul_le_mul_of_nonneg_right ha (show 0 ≤ p.1 by omega)
    show 1 ≤ a * p.1 + p.2 ∧ 1 ≤ p.1 ∧ p.1 ≤ a * p.1 + p.2 ∧ (_ → p.1 < a * p.1 + p.2)
    exact ⟨by omega, h1, by omega, fun _ => by omega⟩
theorem st_low : ∀ {a : Int} {r : List Int}, Ups r → 0 < (st (a :: r)).2 ∧ Int.gcd (st (a :: r)).1 (st (a :: r)).2 = 1
  | a, [], _ => by
    show 0 < (1 : Int) ∧ Int.gcd a 1 = 1
    exact ⟨by decide, Int.gcd_one_right a⟩
  | a, b :: r, h => by
    have hp := st_pos (r := b :: r) (by simp) h
    have ih := st_low (a := b) (r := r) (fun x hx => h x (List.mem_cons_of_mem _ hx))
    rw [st_cons (by simp)]
    generalize st (b :: r) = p at *
    show 0 < p.1 ∧ Int.gcd (a * p.1 + p.2) p.1 = 1
    refine ⟨by omega, ?_⟩
    rw [Int.gcd_comm, Int.add_comm, Int.gcd_add_mul_right_right]
    exact ih.2
end RM

set_option maxHeartbeats 4000000
namespace RM
/-! where a number lies beside u / l: 1 above, 0 there, -1 below -/
noncomputable def cut : List Int → Int → Int → Int
  | [p, q], u, l => sg (p * l - u * q)
  | [a, b, c, s], u, l => if abv a b c s u l = true then 1 else -1
  | _, _, _ => 0
theorem S_lt {x y : Int} (h : x < y) : S x < S y := by
  rcases Int.lt_or_le x 0 with a | a
  · rcases Int.lt_or_le y 0 with b | b
    · rw [S_np (by omega), S_np (by omega)]
      have := sq_lt (x := -y) (y := -x) (by omega) (by omega)
      rw [Int.neg_mul_neg, Int.neg_mul_neg] at this
      omega
    · rw [S_np (by omega), S_nn b]
      have := Int.mul_self_nonneg_pos (show x ≠ 0 by omega)
      have := Int.mul_self_nonneg' y
      omega
  · rw [S_nn a, S_nn (by omega)]
    exact sq_lt a h
theorem S_le {x y : Int} (h : x ≤ y) : S x ≤ S y := by
  rcases Int.lt_or_eq_of_le h with z | z
  · have := S_lt z; omega
  · rw [z]; exact Int.le_refl _
theorem cut_01 (xs : List Int) (u l : Int) : cut xs u l = 1 ∨ cut xs u l = -1 ∨ cut xs u l = 0 := by
  unfold cut
  split
  · rename_i p q
    rcases sg_cases (p * l - u * q) with h | h | h
    · exact .inl h.1
    · exact .inr (.inl h.1)
    · exact .inr (.inr h.1)
  · split
    · exact .inl rfl
    · exact .inr (.inl rfl)
  · exact .inr (.inr rfl)
theorem cut_sA {xs : List Int} {A t D L u l : Int} (h : NumR xs A t D L) (hl : 0 < l) : cut xs u l = sg (sA A t D L u l) := by
  cases h with
  | frac hL hg =>
    have e : sA A 0 0 L u l = S (A * l - u * L) := by unfold sA; simp
    rw [e, sg_S]
    rfl
  | @root a b c s r =>
    have z := abv_sA (u := u) r hl
    show (if abv a b c s u l = true then 1 else -1) = _
    split
    · rename_i q
      rw [sg_pos (z.1 q)]
    · rename_i q
      rw [sg_nega (z.2 (by simpa using q))]
theorem sA_scale {A t D L u l k : Int} (hk : 0 < k) : sA A t D L (u * k) (l * k) = k * k * sA A t D L u l := by
  unfold sA
  rw [show A * (l * k) - u * k * L = k * (A * l - u * L) by grind, show t * (l * k) = k * (t * l) by grind, S_mul, S_mul, S_nn (show 0 ≤ k by omega)]
  grind
theorem sA_step {A t D L u u' l : Int} (hL : 0 < L) (h : u < u') : sA A t D L u' l < sA A t D L u l := by
  unfold sA
  have := Int.mul_lt_mul_of_pos_right h hL
  have := S_lt (show A * l - u' * L < A * l - u * L by omega)
  omega
theorem sg_le {x y : Int} (h : x ≤ y) : sg x ≤ sg y := by
  rcases sg_cases x with a | a | a <;> rcases sg_cases y with b | b | b <;> omega
theorem cut_le {xs : List Int} {A t D L u l u' l' : Int} (h : NumR xs A t D L) (hl : 0 < l) (hl' : 0 < l') (q : u * l' ≤ u' * l) : cut xs u' l' ≤ cut xs u l := by
  rw [cut_sA h hl, cut_sA h hl']
  have e1 := sg_scale (k := l' * l') (x := sA A t D L u l) (Int.mul_pos hl' hl')
  have e2 := sg_scale (k := l * l) (x := sA A t D L u' l') (Int.mul_pos hl hl)
  rw [← sA_scale hl'] at e1
  rw [← sA_scale hl] at e2
  rw [← e1, ← e2]
  refine sg_le ?_
  rw [Int.mul_comm l' l]
  rcases Int.lt_or_eq_of_le q with z | z
  · exact Int.le_of_lt (sA_step h.L_pos z)
  · rw [z]; exact Int.le_refl _
theorem cut_lt {xs : List Int} {A t D L u l u' l' : Int} (h : NumR xs A t D L) (hl : 0 < l) (hl' : 0 < l') (q : u * l' < u' * l) : (cut xs u l ≤ 0 → cut xs u' l' = -1) ∧ (0 ≤ cut xs u' l' → cut xs u l = 1) := by
  rw [cut_sA h hl, cut_sA h hl']
  have e1 := sg_scale (k := l' * l') (x := sA A t D L u l) (Int.mul_pos hl' hl')
  have e2 := sg_scale (k := l * l) (x := sA A t D L u' l') (Int.mul_pos hl hl)
  rw [← sA_scale hl'] at e1
  rw [← sA_scale hl] at e2
  rw [← e1, ← e2, Int.mul_comm l' l]
  have := sA_step (A := A) (t := t) (D := D) (l := l * l') h.L_pos q
  rcases sg_cases (sA A t D L (u * l') (l * l')) with a | a | a <;> rcases sg_cases (sA A t D L (u' * l) (l * l')) with b | b | b <;> omega
/-- a fraction beside a number, as compare tells it -/
theorem cmpN_frac {xs : List Int} {A t D L u l : Int} (h : NumR xs A t D L) (hl : 0 < l) : cmpN u 0 0 l A t D L = -(cut xs u l) := by
  rw [cut_sA h hl]
  unfold cmpN
  rw [cmp2_F (Int.le_refl 0) h.D_nn]
  unfold F sA
  rw [Int.zero_mul, S_nn (Int.le_refl 0), Int.zero_mul, Int.zero_mul, Int.zero_add]
  have e : S (-t * l) * D = -(S (t * l) * D) := by rw [Int.neg_mul, S_neg, Int.neg_mul]
  rw [e]
  generalize hq : S (t * l) * D = q
  have ex : u * L - A * l = -(A * l - u * L) := by omega
  rw [ex, S_neg, Int.zero_mul, Int.mul_zero, Int.add_zero, ← sg_neg]
  generalize S (A * l - u * L) = y
  rw [sg_S]
  congr 1
  rcases sg_cases (-q) with a | a | a
  · rw [a.1]; omega
  · rw [a.1]; omega
  · rw [a.1]; omega
theorem cmpN_frac' {xs : List Int} {A t D L u l : Int} (h : NumR xs A t D L) (hl : 0 < l) : cmpN A t D L u 0 0 l = cut xs u l := by
  rw [cmpN_turn (Int.le_refl 0) h.D_nn, cmpN_frac h hl, Int.neg_neg]
end RM

set_option maxHeartbeats 4000000
namespace RM
/-! between two numbers, the one less, lies a fraction -/
theorem isqrt_ex : ∀ n : Nat, ∃ k : Nat, k * k ≤ n ∧ n < (k + 1) * (k + 1)
  | 0 => ⟨0, by decide, by decide⟩
  | n + 1 => by
    obtain ⟨k, h1, h2⟩ := isqrt_ex n
    by_cases h : n + 1 < (k + 1) * (k + 1)
    · exact ⟨k, by omega, h⟩
    · exact ⟨k + 1, by omega, by grind⟩
theorem S_ceil (R : Int) : ∃ a : Int, R < S a ∧ S (a - 1) ≤ R := by
  rcases Int.lt_or_le R 0 with h | h
  · obtain ⟨k, h1, h2⟩ := isqrt_ex (-R - 1).toNat
    refine ⟨-(k : Int), ?_, ?_⟩
    · rw [S_np (by omega), Int.neg_mul_neg]
      have : ((k * k : Nat) : Int) ≤ -R - 1 := by omega
      rw [Int.natCast_mul] at this
      omega
    · rw [S_np (by omega), show (-(k : Int) - 1) * (-(k : Int) - 1) = ((k : Int) + 1) * ((k : Int) + 1) by grind]
      have : (-R - 1 : Int) < (((k + 1) * (k + 1) : Nat) : Int) := by omega
      rw [Int.natCast_mul, Int.natCast_add] at this
      have e : ((1 : Nat) : Int) = 1 := rfl
      rw [e] at this
      omega
  · obtain ⟨k, h1, h2⟩ := isqrt_ex R.toNat
    refine ⟨(k : Int) + 1, ?_, ?_⟩
    · rw [S_nn (by omega)]
      have : R < (((k + 1) * (k + 1) : Nat) : Int) := by omega
      rw [Int.natCast_mul, Int.natCast_add] at this
      have e : ((1 : Nat) : Int) = 1 := rfl
      rw [e] at this
      omega
    · rw [show (k : Int) + 1 - 1 = k by omega, S_nn (by omega)]
      have : ((k * k : Nat) : Int) ≤ R := by omega
      rw [Int.natCast_mul] at this
      omega
theorem F_mono {X Y P Q : Int} (h : X ≤ Y) : F X P Q ≤ F Y P Q := by
  unfold F
  refine sg_le ?_
  have := S_le h
  have := S_le (show S X + sg (P + Q) * ((P.natAbs : Int) + (Q.natAbs : Int)) ≤ S Y + sg (P + Q) * ((P.natAbs : Int) + (Q.natAbs : Int)) by omega)
  omega
/-- how far S leads -/
theorem S_near {x d : Int} (hd : 0 ≤ d) : S (x + d) ≤ S x + 2 * d * ((x.natAbs : Int) + d) := by
  have dd := Int.mul_nonneg hd hd
  rcases Int.lt_or_le x 0 with h | h
  · have e : (x.natAbs : Int) = -x := by omega
    rw [e, S_np (show x ≤ 0 by omega)]
    have dx := Int.mul_nonneg hd (show 0 ≤ -x by omega)
    rw [Int.mul_neg] at dx
    rcases Int.lt_or_le (x + d) 0 with g | g
    · rw [S_np (show x + d ≤ 0 by omega)]
      grind
    · rw [S_nn g]
      have : x * x ≤ d * d := by
        have := sq_le (x := -x) (y := d) (by omega) (by omega)
        rw [Int.neg_mul_neg] at this
        exact this
      have : 0 ≤ (x + d) * (-x) := Int.mul_nonneg g (by omega)
      grind
  · have e : (x.natAbs : Int) = x := by omega
    rw [e, S_nn h, S_nn (by omega)]
    grind
theorem gap {X P Q w T N : Int} (h : F X P Q = -1) (hw : ((S X + sg (P + Q) * ((P.natAbs : Int) + (Q.natAbs : Int))).natAbs : Int) ≤ w) (hT : (X.natAbs : Int) + 2 ≤ T) (hN : 8 * T * (w + 4 * T) < N) : F (N * X + 2) (N * N * P) (N * N * Q) = -1 := by
  have T1 : 1 ≤ T := by omega
  have w0 : 0 ≤ w := by omega
  have tw : 0 ≤ 8 * T * (w + 4 * T) := Int.mul_nonneg (by omega) (by omega)
  have N1 : 1 ≤ N := by omega
  have NN : 0 < N * N := Int.mul_pos (by omega) (by omega)
  unfold F at h ⊢
  have es : sg (N * N * P + N * N * Q) = sg (P + Q) := by rw [← Int.mul_add, sg_scale NN]
  have ea : ∀ x : Int, ((N * N * x).natAbs : Int) = N * N * (x.natAbs : Int) := fun x => by
    rw [Int.natAbs_mul, Int.natCast_mul, show ((N * N).natAbs : Int) = N * N by omega]
  rw [es, ea, ea]
  have V0 : S (S X + sg (P + Q) * ((P.natAbs : Int) + (Q.natAbs : Int))) + sg (P + Q) * 4 * (P * Q) ≤ -1 := by
    generalize S (S X + sg (P + Q) * ((P.natAbs : Int) + (Q.natAbs : Int))) + sg (P + Q) * 4 * (P * Q) = v at h
    rcases sg_cases v with z | z | z <;> omega
  have e4 : sg (P + Q) * 4 * (N * N * P * (N * N * Q)) = N * N * (N * N) * (sg (P + Q) * 4 * (P * Q)) := by grind
  have e5 : sg (P + Q) * (N * N * (P.natAbs : Int) + N * N * (Q.natAbs : Int)) = N * N * (sg (P + Q) * ((P.natAbs : Int) + (Q.natAbs : Int))) := by grind
  rw [e4, e5]
  generalize sg (P + Q) * 4 * (P * Q) = z at *
  generalize sg (P + Q) * ((P.natAbs : Int) + (Q.natAbs : Int)) = k at *
  -- the inner one
  have i1 := S_near (x := N * X) (d := 2) (by decide)
  have e6 : S (N * X) = N * N * S X := by rw [S_mul, S_nn (show 0 ≤ N by omega)]
  have e7 : ((N * X).natAbs : Int) = N * (X.natAbs : Int) := by rw [Int.natAbs_mul, Int.natCast_mul, show (N.natAbs : Int) = N by omega]
  rw [e6, e7] at i1
  have i2 : N * (X.natAbs : Int) + 2 ≤ N * T := by
    have := Int.mul_le_mul_of_nonneg_left hT (show 0 ≤ N by omega)
    rw [Int.mul_add] at this
    omega
  have i3 : S (N * X + 2) ≤ N * N * S X + 4 * (N * T) := by
    have NT := Int.mul_le_mul (show 1 ≤ N by omega) T1 (by decide) (by omega)
    omega
  have i4 : S (N * X + 2) + N * N * k ≤ N * N * (S X + k) + 4 * (N * T) := by rw [Int.mul_add]; omega
  have NT0 : 0 ≤ N * T := Int.mul_nonneg (by omega) (by omega)
  have i5 := S_near (x := N * N * (S X + k)) (d := 4 * (N * T)) (by omega)
  have i6 := S_le i4
  have e8 : S (N * N * (S X + k)) = N * N * (N * N) * S (S X + k) := by rw [S_mul, S_nn (show 0 ≤ N * N by omega)]
  have e9 : ((N * N * (S X + k)).natAbs : Int) = N * N * ((S X + k).natAbs : Int) := ea _
  rw [e8, e9] at i5
  generalize S (S X + k) = v at *
  generalize ((S X + k).natAbs : Int) = v' at *
  generalize S (S (N * X + 2) + N * N * k) = y at *
  have N4 : 0 < N * N * (N * N) := Int.mul_pos NN NN
  have c1 : N * N * (N * N) * (v + z) ≤ -(N * N * (N * N)) := by
    have := Int.mul_le_mul_of_nonneg_left V0 (show 0 ≤ N * N * (N * N) by omega)
    omega
  have c2 : 2 * (4 * (N * T)) * (N * N * v' + 4 * (N * T)) ≤ N * N * N * (8 * T * (w + 4 * T)) := by
    have d1 := Int.mul_le_mul_of_nonneg_left hw (show 0 ≤ N * N by omega)
    have d2 : N * T ≤ N * N * T := by
      have := Int.mul_le_mul_of_nonneg_right N1 NT0
      grind
    have d3 := Int.mul_le_mul_of_nonneg_left (show N * N * v' + 4 * (N * T) ≤ N * N * w + 4 * (N * N * T) by omega) (show 0 ≤ 2 * (4 * (N * T)) by omega)
    grind
  have c3 : N * N * N * (8 * T * (w + 4 * T)) < N * N * N * N := Int.mul_lt_mul_of_pos_left hN (Int.mul_pos NN (by omega))
  rw [Int.mul_add] at c1
  have e10 : N * N * N * N = N * N * (N * N) := by grind
  exact sg_nega (by omega)
theorem dense {xs ys : List Int} {A1 t1 D1 L1 A2 t2 D2 L2 w T : Int} (h1 : NumR xs A1 t1 D1 L1) (h2 : NumR ys A2 t2 D2 L2) (hc : cmpN A1 t1 D1 L1 A2 t2 D2 L2 = -1)
    (hw : ((S (A1 * L2 - A2 * L1) + sg (S (t1 * L2) * D1 + S (-t2 * L1) * D2) * (((S (t1 * L2) * D1).natAbs : Int) + ((S (-t2 * L1) * D2).natAbs : Int))).natAbs : Int) ≤ w) (hT : ((A1 * L2 - A2 * L1).natAbs : Int) + 2 ≤ T) :
    ∃ u l : Int, l = L1 * L2 * (8 * T * (w + 4 * T) + 1) ∧ 0 < l ∧ cut xs u l = -1 ∧ cut ys u l = 1 := by
  unfold cmpN at hc
  rw [cmp2_F h1.D_nn h2.D_nn] at hc
  have hg := gap hc hw hT (show 8 * T * (w + 4 * T) < 8 * T * (w + 4 * T) + 1 by omega)
  have tw : 0 ≤ 8 * T * (w + 4 * T) := Int.mul_nonneg (by omega) (by omega)
  obtain ⟨N, hN⟩ : ∃ N, 8 * T * (w + 4 * T) + 1 = N := ⟨_, rfl⟩
  rw [hN] at hg ⊢
  have N1 : 0 < N := by omega
  have l1 := h1.L_pos
  have l2 := h2.L_pos
  have hl : 0 < L1 * L2 * N := Int.mul_pos (Int.mul_pos l1 l2) N1
  obtain ⟨a, a1, a2⟩ := S_ceil (N * N * (S (t1 * L2) * D1))
  obtain ⟨c, c1, c2⟩ := S_ceil (N * N * (S (-t2 * L1) * D2))
  have key : a + c ≤ -(N * (A1 * L2 - A2 * L1)) := by
    rcases Int.lt_or_le (-(N * (A1 * L2 - A2 * L1))) (a + c) with z | z
    · exfalso
      have a3 : S (a - 2) < N * N * (S (t1 * L2) * D1) := by
        have := S_lt (show a - 2 < a - 1 by omega)
        omega
      have f := F_less (P := -(N * N * (S (t1 * L2) * D1))) (Q := -(N * N * (S (-t2 * L1) * D2))) (a := -(a - 2)) (c := -(c - 1)) (by rw [S_neg]; omega) (by rw [S_neg]; omega) (.inl (by rw [S_neg]; omega))
      rw [show -(-(a - 2) + -(c - 1)) = -(-((a - 2) + (c - 1))) by omega, F_neg] at f
      have m := F_mono (P := N * N * (S (t1 * L2) * D1)) (Q := N * N * (S (-t2 * L1) * D2)) (show -((a - 2) + (c - 1)) ≤ N * (A1 * L2 - A2 * L1) + 2 by omega)
      omega
    · exact z
  refine ⟨A1 * L2 * N + a, _, rfl, hl, ?_, ?_⟩
  · rw [cut_sA h1 hl]
    refine sg_nega ?_
    unfold sA
    rw [show A1 * (L1 * L2 * N) - (A1 * L2 * N + a) * L1 = -(a * L1) by grind, S_neg, S_mul, S_nn (show 0 ≤ L1 by omega), show t1 * (L1 * L2 * N) = t1 * L2 * (N * L1) by grind, S_mul _ (N * L1), S_nn (show 0 ≤ N * L1 from Int.mul_nonneg (by omega) (by omega))]
    have := Int.mul_lt_mul_of_pos_right a1 (Int.mul_pos l1 l1)
    grind
  · rw [cut_sA h2 hl]
    refine sg_pos ?_
    unfold sA
    obtain ⟨z, hz⟩ : ∃ z, -(N * (A1 * L2 - A2 * L1) + a) = z := ⟨_, rfl⟩
    have e1 : A2 * (L1 * L2 * N) - (A1 * L2 * N + a) * L2 = z * L2 := by grind
    have e2 : t2 * (L1 * L2 * N) = -(-t2 * L1 * (N * L2)) := by grind
    rw [e1, S_mul, S_nn (show 0 ≤ L2 by omega), e2, S_neg, S_mul _ (N * L2), S_nn (show 0 ≤ N * L2 from Int.mul_nonneg (by omega) (by omega))]
    have s1 := S_le (show c ≤ z by omega)
    have := Int.mul_lt_mul_of_pos_right (show N * N * (S (-t2 * L1) * D2) < S z by omega) (Int.mul_pos l2 l2)
    grind
end RM

set_option maxHeartbeats 4000000
namespace RM
/-! what a number leads to -/
/-- n: the greatest whole number that is no greater -/
inductive PartOf : List Int → Int → Prop where
  | frac {u l n : Int} (h1 : n * l ≤ u) (h2 : u < (n + 1) * l) : PartOf [u, l] n
  | root {a b c s n : Int} (h1 : abv a b c s n 1 = true) (h2 : abv a b c s (n + 1) 1 = false) (hb : n.natAbs ≤ (heart a b c).natAbs + b.natAbs + 1) : PartOf [a, b, c, s] n
/-- P, B, A: the turned root at n -/
noncomputable def TurnOf (a b c s n P B A : Int) : Prop := Root P B A (if 0 < a * n * n + b * n + c then 1 - s else s) ∧ ∃ g : Int, g ≠ 0 ∧ a * n * n + b * n + c = P * g ∧ 2 * a * n + b = B * g ∧ a = A * g
inductive Led : List Int → Int → List Int → Prop where
  | frac {u l n : Int} (h : 0 < u - n * l) : Led [u, l] n [l, u - n * l]
  | root {a b c s n P B A : Int} (h : TurnOf a b c s n P B A) : Led [a, b, c, s] n [P, B, A, if 0 < a * n * n + b * n + c then 1 - s else s]
theorem PartOf.cuts {xs : List Int} {A t D L n : Int} (h : NumR xs A t D L) (p : PartOf xs n) : 0 ≤ cut xs n 1 ∧ cut xs (n + 1) 1 = -1 := by
  cases p with
  | @frac u l _ h1 h2 =>
    constructor
    · show 0 ≤ sg (u * 1 - n * l)
      rcases sg_cases (u * 1 - n * l) with z | z | z <;> omega
    · exact sg_nega (by omega)
  | @root a b c s _ h1 h2 hb =>
    constructor
    · show 0 ≤ (if abv a b c s n 1 = true then (1 : Int) else -1)
      rw [if_pos h1]; decide
    · show (if abv a b c s (n + 1) 1 = true then (1 : Int) else -1) = -1
      rw [h2]; rfl
theorem cut_root {a b c s u l : Int} : cut [a, b, c, s] u l = if abv a b c s u l = true then 1 else -1 := rfl
theorem cut_frac {p q u l : Int} : cut [p, q] u l = sg (p * l - u * q) := rfl
theorem Led.num {xs ys : List Int} {A t D L n : Int} (h : NumR xs A t D L) (p : Led xs n ys) : ∃ A' t' D' L', NumR ys A' t' D' L' := by
  cases p with
  | @frac u l _ z =>
    cases h with
    | frac hl hg =>
      refine ⟨_, _, _, _, .frac z ?_⟩
      rw [Int.gcd_comm] at hg
      simpa using hg
  | root z => exact ⟨_, _, _, _, .root z.1⟩
theorem Led.cuts {xs ys : List Int} {A t D L n u l : Int} (h : NumR xs A t D L) (hn : cut xs n 1 = 1) (p : Led xs n ys) (hu : 0 < u) (hl : 0 < l) : cut ys u l = -(cut xs (n * u + l) u) := by
  cases p with
  | @frac x q _ z =>
    rw [cut_frac, cut_frac, ← sg_neg]
    congr 1
    grind
  | @root a b c s _ P B A z =>
    cases h with
    | root r =>
      obtain ⟨rt, g, hg, e1, e2, e3⟩ := z
      have tr := turned_up (n := n) r hg e1 e2 e3 rt.pos (u := u) hu hl
      rw [cut_root] at hn ⊢
      have hn' : abv a b c s n 1 = true := by
        rcases Bool.eq_false_or_eq_true (abv a b c s n 1) with y | y
        · exact y
        · rw [y] at hn; exact absurd hn (by decide)
      rw [tr, cut_root]
      unfold due
      rw [if_neg (show ¬ u = 0 by omega), if_pos hu, hn', Bool.true_and]
      cases abv a b c s (n * u + l) u <;> rfl



/-! how great they grow -/
noncomputable def Sz (D M : Int) : List Int → Prop
  | [u, l] => -M ≤ u ∧ u ≤ M ∧ l ≤ M
  | [a, b, c, _] => heart a b c ≤ D ∧ a ≤ M ∧ -(2 * M + D) ≤ b ∧ b ≤ 2 * M + D ∧ -M ≤ c ∧ c ≤ M
  | _ => False
theorem sq_bound {y h s : Int} (s0 : 0 ≤ s) (hs : h < (s + 1) * (s + 1)) (z : y * y ≤ h) : -s ≤ y ∧ y ≤ s := by
  constructor
  · have := lt_of_sq (x := -y) (y := s + 1) (by omega) (by rw [Int.neg_mul_neg]; omega)
    omega
  · have := lt_of_sq (x := y) (y := s + 1) (by omega) (by omega)
    omega
theorem part_mid {a b c s n m : Int} (r : Root a b c s) (h1 : abv a b c s n 1 = true) (h2 : abv a b c s (n + 1) 1 = false) (m0 : 0 ≤ m) (hm : heart a b c < (m + 1) * (m + 1)) : -m - 2 * a ≤ 2 * a * n + b ∧ 2 * a * n + b ≤ m := by
  have ha := r.pos
  have e4 : ∀ m : Int, 4 * a * (a * m * m + b * m * 1 + c * 1 * 1) = (2 * a * m + b * 1) * (2 * a * m + b * 1) - heart a b c := fun m => by unfold heart; grind
  have neg : ∀ m : Int, a * m * m + b * m * 1 + c * 1 * 1 ≤ 0 → (2 * a * m + b * 1) * (2 * a * m + b * 1) ≤ heart a b c := fun m z => by
    have := Int.mul_nonpos_of_nonneg_of_nonpos (show 0 ≤ 4 * a by omega) z
    have := e4 m
    omega
  constructor
  · have h2' := Bool.eq_false_iff.mp h2
    rw [abv_S, ne_eq, abvS_iff] at h2'
    have : 2 * a * (n + 1) = 2 * a * n + 2 * a := by grind
    rcases Int.lt_or_le 0 (2 * a * (n + 1) + b * 1) with z | z
    · omega
    · have := sq_bound m0 hm (neg (n + 1) (by omega))
      omega
  · rw [abv_S, abvS_iff] at h1
    rcases Int.lt_or_le 0 (2 * a * n + b * 1) with z | z
    · have := sq_bound m0 hm (neg n (by omega))
      omega
    · omega
theorem grow {a f y h m : Int} (ha : 0 < a) (h0 : 0 < h) (m0 : 0 ≤ m) (hm : m * m ≤ h) (e : 4 * a * f = y * y - h) (y1 : -m - 2 * a ≤ y) (y2 : y ≤ m) : -h ≤ f ∧ f ≤ a + m := by
  have yy := Int.mul_self_nonneg' y
  constructor
  · rcases Int.lt_or_le f 0 with z | z
    · have := Int.mul_le_mul_of_nonneg_right (show 1 ≤ 4 * a by omega) (show 0 ≤ -f by omega)
      simp only [Int.mul_neg, Int.one_mul] at this
      omega
    · omega
  · have b1 : y * y ≤ (m + 2 * a) * (m + 2 * a) := by
      rcases Int.lt_or_le y 0 with q | q
      · have := sq_le (x := -y) (y := m + 2 * a) (by omega) (by omega)
        rw [Int.neg_mul_neg] at this
        exact this
      · exact sq_le q (by omega)
    have b2 : (m + 2 * a) * (m + 2 * a) = m * m + 4 * a * (a + m) := by grind
    exact Int.le_of_mul_le_mul_left (show 4 * a * f ≤ 4 * a * (a + m) by omega) (show 0 < 4 * a by omega)
theorem isqrt_int {h : Int} (h0 : 0 ≤ h) : ∃ m : Int, 0 ≤ m ∧ m * m ≤ h ∧ h < (m + 1) * (m + 1) ∧ m ≤ h := by
  obtain ⟨k, h1, h2⟩ := isqrt_ex h.toNat
  have a1 : ((k * k : Nat) : Int) ≤ h := by omega
  have a2 : h < (((k + 1) * (k + 1) : Nat) : Int) := by omega
  rw [Int.natCast_mul] at a1 a2
  rw [Int.natCast_add] at a2
  exact ⟨k, by omega, a1, a2, sqrt_le (by omega) a1⟩
theorem Led.size {xs ys : List Int} {A t D' L n D M : Int} (h : NumR xs A t D' L) (p : PartOf xs n) (q : Led xs n ys) (z : Sz D M xs) (D0 : 0 ≤ D) : Sz D (M + D) ys := by
  cases q with
  | @frac u l _ z' =>
    cases h with
    | frac hl hg =>
      cases p with
      | frac h1 h2 =>
        obtain ⟨z1, z2, z3⟩ := z
        have e : (n + 1) * L = n * L + L := by grind
        refine ⟨?_, ?_, ?_⟩ <;> omega
  | @root a b c s _ P B A' z' =>
    cases h with
    | root r =>
      cases p with
      | root h1 h2 hb =>
        obtain ⟨z1, z2, z3, z4, z5, z6⟩ := z
        obtain ⟨rt, g, hg, e1, e2, e3⟩ := z'
        have hp := r.hp
        obtain ⟨m, m0, m1, m2, m3⟩ := isqrt_int (show 0 ≤ heart a b c by omega)
        have md := part_mid r h1 h2 m0 m2
        have e4 : 4 * a * (a * n * n + b * n + c) = (2 * a * n + b) * (2 * a * n + b) - heart a b c := by unfold heart; grind
        have gr := grow r.pos r.hp m0 m1 e4 md.1 md.2
        have hh := (turned_ht (n := n) r).2
        have ha := r.pos
        have sm : ∀ {x y : Int}, x = y * g → y.natAbs ≤ x.natAbs := fun {x y} e => by
          rw [e, Int.natAbs_mul]
          exact Nat.le_mul_of_pos_right _ (by omega)
        have s1 := sm e1
        have s2 := sm e2
        have s3 := sm e3
        have hz : heart P B A' ≤ D := by
          refine Int.le_trans ?_ z1
          rw [← hh, e1, e2]
          conv => rhs; rw [e3]
          rw [heart_mul]
          have gg := Int.mul_self_nonneg_pos hg
          have := Int.mul_le_mul_of_nonneg_right (show 1 ≤ g * g by omega) (show 0 ≤ heart P B A' by have := rt.hp; omega)
          omega
        exact ⟨hz, by omega, by omega, by omega, by omega, by omega⟩
/-- what turned asks -/
theorem turn_ok {a b c s n D M : Int} (r : Root a b c s) (p : PartOf [a, b, c, s] n) (z : Sz D M [a, b, c, s]) : -(M + D) ≤ a * n * n + b * n + c ∧ a * n * n + b * n + c ≤ M + D ∧ -(D + 2 * M) ≤ 2 * a * n + b ∧ 2 * a * n + b ≤ D + 2 * M ∧ n.natAbs ≤ 2 * (D + M).natAbs + 1 := by
  cases p with
  | root h1 h2 hb =>
    obtain ⟨z1, z2, z3, z4, z5, z6⟩ := z
    have hp := r.hp
    have ha := r.pos
    obtain ⟨m, m0, m1, m2, m3⟩ := isqrt_int (show 0 ≤ heart a b c by omega)
    have md := part_mid r h1 h2 m0 m2
    have e4 : 4 * a * (a * n * n + b * n + c) = (2 * a * n + b) * (2 * a * n + b) - heart a b c := by unfold heart; grind
    have gr := grow r.pos r.hp m0 m1 e4 md.1 md.2
    exact ⟨by omega, by omega, by omega, by omega, by omega⟩
end RM

set_option maxHeartbeats 4000000
namespace RM
/-! the simplest fraction between two numbers -/
/-- parts ahead of a fraction -/
noncomputable def run : List Int → Int × Int → Int × Int
  | [], p => p
  | n :: r, p => (n * (run r p).1 + (run r p).2, (run r p).1)
theorem run_snoc (n : Int) (p : Int × Int) : ∀ ns : List Int, run (ns ++ [n]) p = run ns (n * p.1 + p.2, p.1)
  | [] => rfl
  | a :: r => by
    show (a * (run (r ++ [n]) p).1 + (run (r ++ [n]) p).2, (run (r ++ [n]) p).1) = _
    rw [run_snoc n p r]; rfl
theorem st_run (x : Int) : ∀ ns : List Int, st (ns ++ [x]) = run ns (x, 1)
  | [] => rfl
  | a :: r => by
    rw [List.cons_append, st_cons (by simp), st_run x r]; rfl
theorem run_mono {a b a' b' : Int} (h1 : a ≤ a') (h2 : b ≤ b') : ∀ {ns : List Int}, (∀ n ∈ ns, 0 ≤ n) → (run ns (a, b)).1 ≤ (run ns (a', b')).1 ∧ (run ns (a, b)).2 ≤ (run ns (a', b')).2
  | [], _ => ⟨h1, h2⟩
  | n :: r, h => by
    have ih := run_mono h1 h2 (ns := r) (fun x hx => h x (List.mem_cons_of_mem _ hx))
    have n0 := h n (List.mem_cons_self ..)
    have := Int.mul_le_mul_of_nonneg_left ih.1 n0
    exact ⟨by show n * _ + _ ≤ n * _ + _; omega, ih.1⟩
noncomputable def Btw (xs : List Int) (yo : Option (List Int)) (u l : Int) : Prop := cut xs u l = -1 ∧ ∀ ys, yo = some ys → cut ys u l = 1
noncomputable def Num (xs : List Int) : Prop := ∃ A t D L, NumR xs A t D L
noncomputable def LedO (xs : List Int) (n : Int) : Option (List Int) → Prop
  | none => cut xs n 1 = 0
  | some ys => cut xs n 1 = 1 ∧ Led xs n ys
structure SInv (x0 : List Int) (y0 : Option (List Int)) (ns xs : List Int) (yo : Option (List Int)) (u0 l0 U L : Int) : Prop where
  nx : Num xs
  ny : ∀ ys, yo = some ys → Num ys
  low : 0 ≤ cut xs 0 1
  one : ns ≠ [] → 0 ≤ cut xs 1 1
  wit : Btw xs yo u0 l0
  lpos : 0 < l0
  wrun : run ns (u0, l0) = (U, L)
  down : ∀ u l, 0 < l → Btw x0 y0 u l → ∃ u' l', 0 < l' ∧ Btw xs yo u' l' ∧ run ns (u', l') = (u, l)
  up : ∀ u l, 0 < u → 0 < l → Btw xs yo u l → Btw x0 y0 (run ns (u, l)).1 (run ns (u, l)).2 ∧ 0 < (run ns (u, l)).2
  nn : ∀ n ∈ ns, 0 ≤ n
  ups : Ups (ns.drop 1)
theorem SInv.start {x0 : List Int} {y0 : Option (List Int)} {U L : Int} (nx : Num x0) (ny : ∀ ys, y0 = some ys → Num ys) (low : 0 ≤ cut x0 0 1) (w : Btw x0 y0 U L) (hL : 0 < L) : SInv x0 y0 [] x0 y0 U L U L where
  nx := nx
  ny := ny
  low := low
  one := fun h => absurd rfl h
  wit := w
  lpos := hL
  wrun := rfl
  down := fun u l hl b => ⟨u, l, hl, b, rfl⟩
  up := fun u l _ hl b => ⟨b, hl⟩
  nn := fun n hn => by cases hn
  ups := fun n hn => by cases hn
theorem above_part {xs : List Int} {n u l : Int} (nx : Num xs) (hl : 0 < l) (h0 : 0 ≤ cut xs n 1) (h : cut xs u l = -1) : n * l < u := by
  obtain ⟨A, t, D, L, nx⟩ := nx
  rcases Int.lt_or_le (n * l) u with z | z
  · exact z
  · have := cut_le nx hl (show (0 : Int) < 1 by decide) (u := u) (u' := n) (by omega)
    omega
theorem below_part {xs : List Int} {n u l : Int} (nx : Num xs) (hl : 0 < l) (h0 : cut xs n 1 ≤ 0) (h : cut xs u l = 1) : u < n * l := by
  obtain ⟨A, t, D, L, nx⟩ := nx
  rcases Int.lt_or_le u (n * l) with z | z
  · exact z
  · have := cut_le nx (show (0 : Int) < 1 by decide) hl (u := n) (u' := u) (by omega)
    omega
theorem part_nn {xs : List Int} {n m : Int} (nx : Num xs) (h0 : 0 ≤ cut xs m 1) (h : cut xs (n + 1) 1 = -1) : m ≤ n := by
  have := above_part nx (show (0 : Int) < 1 by decide) h0 h
  omega
theorem SInv.next {x0 : List Int} {y0 : Option (List Int)} {ns xs ys lo : List Int} {hi : Option (List Int)} {u0 l0 U L n : Int} (I : SInv x0 y0 ns xs (some ys) u0 l0 U L)
    (p0 : 0 ≤ cut xs n 1) (p1 : cut xs (n + 1) 1 = -1) (hb : cut ys (n + 1) 1 ≤ 0) (hlo : Led ys n lo) (hhi : LedO xs n hi) :
    SInv x0 y0 (ns ++ [n]) lo hi l0 (u0 - n * l0) U L ∧ u0 - n * l0 < l0 := by
  have nx := I.nx
  have ny := I.ny ys rfl
  obtain ⟨A, t, D, L', ny'⟩ := ny
  obtain ⟨A2, t2, D2, L2, nx'⟩ := nx
  have c1 : (0 : Int) < 1 := by decide
  have n0 : 0 ≤ n := part_nn I.nx I.low p1
  have yn : cut ys n 1 = 1 := by
    have a := above_part I.nx I.lpos p0 I.wit.1
    have b := cut_le ny' c1 I.lpos (u := n) (u' := u0) (by omega)
    have := I.wit.2 ys rfl
    rcases cut_01 ys n 1 with z | z | z <;> omega
  -- between, turned
  have dn : ∀ u l, 0 < l → Btw xs (some ys) u l → 0 < u - n * l ∧ u - n * l < l ∧ Btw lo hi l (u - n * l) := fun u l hl b => by
    have a := above_part I.nx hl p0 b.1
    have c := below_part ⟨_, _, _, _, ny'⟩ hl hb (b.2 ys rfl)
    rw [Int.add_mul, Int.one_mul] at c
    refine ⟨by omega, by omega, ?_, fun h' e => ?_⟩
    · rw [hlo.cuts ny' yn hl (by omega), show n * l + (u - n * l) = u by omega, b.2 ys rfl]
    · subst e
      rw [hhi.2.cuts nx' hhi.1 hl (by omega), show n * l + (u - n * l) = u by omega, b.1]; rfl
  have un : ∀ u l, 0 < u → 0 < l → Btw lo hi u l → Btw xs (some ys) (n * u + l) u := fun u l hu hl b => by
    refine ⟨?_, fun h' e => ?_⟩
    · cases hi with
      | none =>
        have z : cut xs n 1 = 0 := hhi
        exact (cut_lt nx' c1 hu (u := n) (u' := n * u + l) (by omega)).1 (by omega)
      | some hs =>
        have := hhi.2.cuts nx' hhi.1 hu hl
        rw [b.2 hs rfl] at this
        omega
    · cases e
      have := hlo.cuts ny' yn hu hl
      rw [b.1] at this
      omega
  have w := dn u0 l0 I.lpos I.wit
  have l1 : 0 ≤ cut lo 1 1 := by
    rw [hlo.cuts ny' yn c1 c1, Int.mul_one]
    omega
  obtain ⟨A3, t3, D3, L3, nl⟩ := hlo.num ny'
  refine ⟨⟨⟨_, _, _, _, nl⟩, ?_, ?_, fun _ => l1, w.2.2, w.1, ?_, ?_, ?_, ?_, ?_⟩, w.2.1⟩
  · intro h' e
    subst e
    obtain ⟨_, _, _, _, z⟩ := hhi.2.num nx'
    exact ⟨_, _, _, _, z⟩
  · have := cut_le nl c1 c1 (u := 0) (u' := 1) (by decide)
    omega
  · rw [run_snoc]
    show run ns (n * l0 + (u0 - n * l0), l0) = _
    rw [show n * l0 + (u0 - n * l0) = u0 by omega]
    exact I.wrun
  · intro u l hl b
    obtain ⟨u', l', h1, h2, h3⟩ := I.down u l hl b
    have z := dn u' l' h1 h2
    refine ⟨l', u' - n * l', z.1, z.2.2, ?_⟩
    rw [run_snoc]
    show run ns (n * l' + (u' - n * l'), l') = _
    rw [show n * l' + (u' - n * l') = u' by omega]
    exact h3
  · intro u l hu hl b
    rw [run_snoc]
    have := Int.mul_nonneg n0 (show 0 ≤ u by omega)
    exact I.up (n * u + l) u (by omega) hu (un u l hu hl b)
  · intro m hm
    rcases List.mem_append.mp hm with z | z
    · exact I.nn m z
    · rw [List.mem_singleton] at z; omega
  · intro m hm
    by_cases e : ns = []
    · subst e; cases hm
    · rw [List.drop_append_of_le_length (List.length_pos_iff.mpr e)] at hm
      rcases List.mem_append.mp hm with z | z
      · exact I.ups m z
      · rw [List.mem_singleton] at z
        have := part_nn I.nx (I.one e) p1
        omega
/-- the told one is between, and none between is simpler -/
theorem SInv.stop {x0 : List Int} {y0 : Option (List Int)} {ns xs : List Int} {yo : Option (List Int)} {u0 l0 U L n : Int} (I : SInv x0 y0 ns xs yo u0 l0 U L)
    (p0 : 0 ≤ cut xs n 1) (p1 : cut xs (n + 1) 1 = -1) (hb : ∀ ys, yo = some ys → cut ys (n + 1) 1 = 1) :
    Btw x0 y0 (st (ns ++ [n + 1])).1 (st (ns ++ [n + 1])).2 ∧ 0 < (st (ns ++ [n + 1])).2 ∧ (∀ u l, 0 < l → Btw x0 y0 u l → (st (ns ++ [n + 1])).2 ≤ l ∧ (st (ns ++ [n + 1])).1 ≤ u) ∧ Ups ((ns ++ [n + 1]).drop 1) ∧ (∀ m ∈ ns ++ [n + 1], 0 ≤ m) := by
  have n0 : 0 ≤ n := part_nn I.nx I.low p1
  rw [st_run]
  have z := I.up (n + 1) 1 (by omega) (by decide) ⟨p1, hb⟩
  refine ⟨z.1, z.2, fun u l hl b => ?_, ?_, ?_⟩
  · obtain ⟨u', l', h1, h2, h3⟩ := I.down u l hl b
    have a := above_part I.nx h1 p0 h2.1
    have : n * 1 ≤ n * l' := Int.mul_le_mul_of_nonneg_left (by omega) n0
    have m := run_mono (a := n + 1) (b := 1) (a' := u') (b' := l') (by omega) (by omega) I.nn
    rw [h3] at m
    exact ⟨m.2, m.1⟩
  · intro m hm
    by_cases e : ns = []
    · subst e; cases hm
    · rw [List.drop_append_of_le_length (List.length_pos_iff.mpr e)] at hm
      rcases List.mem_append.mp hm with z | z
      · exact I.ups m z
      · rw [List.mem_singleton] at z
        omega
  · intro m hm
    rcases List.mem_append.mp hm with z | z
    · exact I.nn m z
    · rw [List.mem_singleton] at z; omega
theorem st_suffix : ∀ {r : List Int} {k : Nat}, Ups r → k < r.length → (st (r.drop k)).1 ≤ (st r).1
  | [], k, _, h => by simp at h
  | a :: r, 0, _, _ => Int.le_refl _
  | a :: r, k + 1, hu, h => by
    have hr : r ≠ [] := fun e => by subst e; simp at h
    have ur : Ups r := fun x hx => hu x (List.mem_cons_of_mem _ hx)
    have ih := st_suffix (r := r) (k := k) ur (by simpa using h)
    rw [List.drop_succ_cons, st_cons hr]
    obtain ⟨p1, p2, _⟩ := st_pos hr ur
    have a1 := hu a (List.mem_cons_self ..)
    have := Int.mul_le_mul_of_nonneg_right a1 (show 0 ≤ (st r).1 by omega)
    show _ ≤ a * (st r).1 + (st r).2
    omega
/-- all on the way keeps below what comes out -/
theorem st_way {a : Int} {r : List Int} {k : Nat} {B : Int} (hu : Ups r) (ha : 0 ≤ a) (h1 : (st (a :: r)).1 ≤ B) (h2 : (st (a :: r)).2 ≤ B) (hk : k < (a :: r).length) : 0 ≤ (st ((a :: r).drop k)).1 ∧ (st ((a :: r).drop k)).1 ≤ B := by
  cases k with
  | zero =>
    refine ⟨?_, h1⟩
    rw [List.drop_zero]
    cases r with
    | nil => exact ha
    | cons b r =>
      rw [st_cons (by simp)]
      obtain ⟨p1, p2, _⟩ := st_pos (r := b :: r) (by simp) hu
      have := Int.mul_nonneg ha (show 0 ≤ (st (b :: r)).1 by omega)
      show 0 ≤ a * (st (b :: r)).1 + (st (b :: r)).2
      omega
  | succ k =>
    rw [List.drop_succ_cons]
    have hk' : k < r.length := by simpa using hk
    have hr : r ≠ [] := fun e => by subst e; simp at hk'
    have := st_suffix hu hk'
    rw [st_cons hr] at h2
    have z := st_pos (r := r.drop k) (by intro e; have := congrArg List.length e; rw [List.length_drop] at this; simp at this; omega) (fun x hx => hu x (List.mem_of_mem_drop hx))
    exact ⟨by omega, Int.le_trans this h2⟩
end RM

set_option maxHeartbeats 4000000
namespace RM
/-! the fractions next to a number, of all with a lower number up to most -/
theorem no_root {a b c s most : Int} : ∀ u l, 0 < l → l ≤ most → cut [a, b, c, s] u l ≠ 0 := fun u l _ _ => by
  rw [cut_root]; split <;> decide
end RM

set_option maxHeartbeats 4000000
namespace RM
/-! the nearest -/
end RM

set_option maxHeartbeats 4000000
namespace RM
/-! all fractions with a lower number up to most, in their order -/














/-- the way to the end grows shorter -/
noncomputable def far (hi0 hi1 c d : Int) : Int := hi0 * 2520 - hi1 * (c * (2520 / d))
end RM

set_option maxHeartbeats 4000000
namespace RM
/-! a root's row, reckoned -/
noncomputable def isqB : Nat → Nat → Nat
  | 0, _ => 0
  | k + 1, n => if (2 * isqB k (n / 4) + 1) * (2 * isqB k (n / 4) + 1) ≤ n then 2 * isqB k (n / 4) + 1 else 2 * isqB k (n / 4)
theorem isqB_ok : ∀ {k n : Nat}, n < 4 ^ k → isqB k n * isqB k n ≤ n ∧ n < (isqB k n + 1) * (isqB k n + 1)
  | 0, n, h => by
    have : n = 0 := by simpa using h
    subst this
    exact ⟨by decide, by decide⟩
  | k + 1, n, h => by
    have ih := isqB_ok (k := k) (n := n / 4) (by rw [Nat.pow_succ] at h; omega)
    rw [isqB]
    generalize isqB k (n / 4) = r at *
    split
    · exact ⟨by assumption, by grind⟩
    · exact ⟨by grind, by omega⟩
noncomputable def isq (n : Nat) : Nat := isqB (n.log2 / 2 + 1) n
theorem isq_ok (n : Nat) : isq n * isq n ≤ n ∧ n < (isq n + 1) * (isq n + 1) := by
  refine isqB_ok ?_
  have h := Nat.lt_log2_self (n := n)
  refine Nat.lt_of_lt_of_le h ?_
  rw [show 4 = 2 ^ 2 from rfl, ← Nat.pow_mul]
  exact Nat.pow_le_pow_right (by decide) (by omega)
noncomputable def pt : List Int → Int
  | [a, b, c, s] => ((if s = 0 then -(isq (heart a b c).toNat : Int) - 1 else (isq (heart a b c).toNat : Int)) - b) / (2 * a)
  | _ => 0
noncomputable def nxtN (a b c s n : Int) : List Int := [(a * n * n + b * n + c).fdiv (by3 (a * n * n + b * n + c) (2 * a * n + b) a), (2 * a * n + b).fdiv (by3 (a * n * n + b * n + c) (2 * a * n + b) a), a.fdiv (by3 (a * n * n + b * n + c) (2 * a * n + b) a), if 0 < a * n * n + b * n + c then 1 - s else s]
noncomputable def nxt : List Int → List Int
  | [a, b, c, s] => nxtN a b c s (pt [a, b, c, s])
  | _ => []
noncomputable def IsR (xs : List Int) : Prop := ∃ a b c s, xs = [a, b, c, s] ∧ Root a b c s
theorem IsR.num {xs : List Int} (h : IsR xs) : Num xs := by
  obtain ⟨a, b, c, s, rfl, r⟩ := h
  exact ⟨_, _, _, _, .root r⟩
theorem part_small' {a b h g s n : Int} (ha : 0 < a) (hh : 0 ≤ h) (g0 : 0 ≤ g) (g1 : g * g ≤ h) (hn : n = ((if s = 0 then -g - 1 else g) - b) / (2 * a)) : n.natAbs ≤ h.natAbs + b.natAbs + 1 := by
  have gl := sqrt_le g0 g1
  have lo := Int.mul_ediv_self_le (x := (if s = 0 then -g - 1 else g) - b) (k := 2 * a) (by omega)
  have hi := Int.lt_mul_ediv_self_add (x := (if s = 0 then -g - 1 else g) - b) (k := 2 * a) (by omega)
  rw [← hn] at lo hi
  obtain ⟨w, hw⟩ : ∃ w, (if s = 0 then -g - 1 else g) = w := ⟨_, rfl⟩
  have hwb : -h - 1 ≤ w ∧ w ≤ h := by rw [← hw]; split <;> omega
  rw [hw] at lo hi
  rcases Int.lt_or_le n 0 with z | z
  · have := Int.mul_le_mul_of_nonneg_right (show (2 : Int) ≤ 2 * a by omega) (show 0 ≤ -n - 1 by omega)
    rw [show 2 * a * (-n - 1) = -(2 * a * n) - 2 * a by grind] at this
    omega
  · have := Int.mul_le_mul_of_nonneg_right (show (2 : Int) ≤ 2 * a by omega) z
    omega
theorem pt_ok {a b c s : Int} (r : Root a b c s) : PartOf [a, b, c, s] (pt [a, b, c, s]) := by
  have hp := r.hp
  obtain ⟨i1, i2⟩ := isq_ok (heart a b c).toNat
  have g1 : ((isq (heart a b c).toNat : Nat) : Int) * (isq (heart a b c).toNat : Int) ≤ heart a b c := by
    rw [← Int.natCast_mul]; omega
  have g2 : heart a b c < ((isq (heart a b c).toNat : Int) + 1) * ((isq (heart a b c).toNat : Int) + 1) := by
    have : ((((isq (heart a b c).toNat + 1) * (isq (heart a b c).toNat + 1) : Nat)) : Int) = ((isq (heart a b c).toNat : Int) + 1) * ((isq (heart a b c).toNat : Int) + 1) := by rw [Int.natCast_mul, Int.natCast_add]; rfl
    omega
  have hn := part_right r (by omega) g1 g2 rfl
  have hs := part_small' (s := s) (b := b) r.pos (by omega) (show (0 : Int) ≤ (isq (heart a b c).toNat : Int) by omega) g1 rfl
  exact .root hn.1 hn.2 hs
theorem nxt_turn {a b c s : Int} (r : Root a b c s) (n : Int) : ∃ P B A : Int, TurnOf a b c s n P B A ∧ nxtN a b c s n = [P, B, A, if 0 < a * n * n + b * n + c then 1 - s else s] := by
  have tr := turned_ht (n := n) r
  have hsq : ¬ IsSq (heart (a * n * n + b * n + c) (2 * a * n + b) a) := by rw [tr.2]; exact r.ns
  have hnn : 0 ≤ heart (a * n * n + b * n + c) (2 * a * n + b) a := by rw [tr.2]; have := r.hp; omega
  have sd := r.side
  have rt := root_low tr.1 hnn hsq (s := if 0 < a * n * n + b * n + c then 1 - s else s) (by split <;> omega)
  obtain ⟨A', B', C', ea, eb, ec, fa, fb', fc, hA', hg'⟩ := by3_split (b := 2 * a * n + b) (c := a) tr.1
  rw [fa, fb', fc] at rt
  refine ⟨A', B', C', ⟨rt, _, by3_ne tr.1, ea, eb, ec⟩, ?_⟩
  unfold nxtN
  rw [fa, fb', fc]
theorem nxt_ok {xs : List Int} (h : IsR xs) : PartOf xs (pt xs) ∧ Led xs (pt xs) (nxt xs) ∧ IsR (nxt xs) := by
  obtain ⟨a, b, c, s, rfl, r⟩ := h
  obtain ⟨P, B, A, t, e⟩ := nxt_turn r (pt [a, b, c, s])
  refine ⟨pt_ok r, ?_, ?_⟩
  · show Led _ _ (nxtN a b c s (pt [a, b, c, s]))
    rw [e]
    exact .root t
  · exact ⟨P, B, A, _, e, t.1⟩
/-- the row by steps -/
noncomputable def sq (x : List Int) : Nat → List Int
  | 0 => x
  | k + 1 => nxt (sq x k)
theorem strict_part {xs : List Int} (h : IsR xs) {n : Int} (p : PartOf xs n) : cut xs n 1 = 1 ∧ cut xs (n + 1) 1 = -1 := by
  have a := p.cuts h.num.choose_spec.choose_spec.choose_spec.choose_spec
  obtain ⟨x, b, c, s, rfl, r⟩ := h
  refine ⟨?_, a.2⟩
  have := no_root (a := x) (b := b) (c := c) (s := s) (most := 1) n 1 (by decide) (by decide)
  rcases cut_01 [x, b, c, s] n 1 with z | z | z <;> omega
/-! where a row goes round -/




end RM

set_option maxHeartbeats 4000000
namespace RM
/-! the root of a row that goes round -/
structure M22 where
  p : Int
  q : Int
  r : Int
  s : Int
noncomputable def mst (m : M22) (a : Int) : M22 := ⟨a * m.p + m.q, m.p, a * m.r + m.s, m.r⟩
noncomputable def mat (w : List Int) : M22 := w.foldl mst ⟨1, 0, 0, 1⟩








/-- the round's equation -/
noncomputable def rrE (w : List Int) : Int × Int × Int := ((mat w).r, (mat w).s - (mat w).p, -(mat w).q)





noncomputable def nrm (A B C s : Int) : List Int := [A.fdiv (by3 A B C), B.fdiv (by3 A B C), C.fdiv (by3 A B C), s]
noncomputable def rr (w : List Int) : List Int := nrm (rrE w).1 (rrE w).2.1 (rrE w).2.2 1
theorem pt_by {xs : List Int} {n : Int} (h : IsR xs) (h0 : cut xs n 1 = 1) (h1 : cut xs (n + 1) 1 = -1) : pt xs = n := by
  have a := strict_part h (nxt_ok h).1
  have := part_nn h.num (show 0 ≤ cut xs n 1 by omega) a.2
  have := part_nn h.num (show 0 ≤ cut xs (pt xs) 1 by omega) h1
  omega
end RM

set_option maxHeartbeats 4000000
set_option maxRecDepth 100000
namespace RM
/-! rounds, found by reckoning -/
/-! pairs put together -/
noncomputable def nm (d : Int) (p : Int × Int) : Int := p.1 * p.1 - d * p.2 * p.2
noncomputable def xd (d : Int) : List Int := [1, 0, -d, 1]
end RM

set_option Elab.async false
set_option linter.all false
set_option maxRecDepth 100000
set_option maxHeartbeats 4000000
namespace Own
open PySem L2 RM
/-! ### the text by places -/
noncomputable def top (i : Nat) : Stmt := PySem.Challenge.pw_rootrow_k07_whole_simplest_between.main.body.getD i (.Pass ⟨0, 0, 0, 0⟩)
noncomputable abbrev s_common_divisor : Stmt := top 4
noncomputable abbrev s_least_square : Stmt := top 5
noncomputable abbrev s_heart_of : Stmt := top 7
noncomputable abbrev s_is_square : Stmt := top 8
noncomputable abbrev s_divisor_of_all : Stmt := top 9
noncomputable abbrev s_root_of : Stmt := top 10
noncomputable abbrev s_part_of : Stmt := top 11
noncomputable abbrev s_turned : Stmt := top 12
noncomputable abbrev s_led_to : Stmt := top 13
noncomputable abbrev s_sign_of : Stmt := top 15
noncomputable abbrev s_signed_square : Stmt := top 16
noncomputable abbrev s_spread_out : Stmt := top 17
noncomputable abbrev s_sign_with_root : Stmt := top 18
noncomputable abbrev s_sign_with_two_roots : Stmt := top 19
noncomputable abbrev s_compare : Stmt := top 20
noncomputable abbrev s_fraction_of : Stmt := top 22
noncomputable abbrev s_mirrored : Stmt := top 25
noncomputable abbrev s_simplest_above : Stmt := top 26
noncomputable abbrev s_simplest : Stmt := top 27
noncomputable abbrev s_law_cell : Stmt := top 29
noncomputable abbrev s_law_mix : Stmt := top 30
noncomputable abbrev s_law_whole : Stmt := top 31
noncomputable abbrev s_law_divisor : Stmt := top 32
noncomputable abbrev s_law_lowest : Stmt := top 33
noncomputable abbrev s_law_fraction : Stmt := top 34
noncomputable abbrev s_law_square : Stmt := top 35
noncomputable abbrev s_law_root : Stmt := top 37
noncomputable abbrev s_law_above : Stmt := top 38
noncomputable abbrev s_law_below : Stmt := top 39
noncomputable abbrev s_law_over : Stmt := top 40
noncomputable abbrev s_law_number : Stmt := top 41
noncomputable abbrev s_law_said : Stmt := top 42
noncomputable abbrev s_law_within : Stmt := top 43
noncomputable abbrev s_law : Stmt := top 44
/-- what the top has bound -/
structure Txt (K : PySem.W.Frag) (mg : Str → Option Value) (C_RowError : Addr) (C_NoNumber : Addr) (C_ZERO : Addr) : Prop where
  n_abs : mg "abs" = none
  n_len : mg "len" = none
  n_any : mg "any" = none
  n_reversed : mg "reversed" = none
  n_tuple : mg "tuple" = none
  n_isinstance : mg "isinstance" = none
  n_int : mg "int" = none
  n_bool : mg "bool" = none
  n_range : mg "range" = none
  n_ValueError : mg "ValueError" = none
  n_min : mg "min" = none
  n_all : mg "all" = none
  m_RowError : mg "RowError" = some (.ref C_RowError)
  m_NoNumber : mg "NoNumber" = some (.ref C_NoNumber)
  x_RowError : PySem.W.excIn K C_RowError [.type "ValueError", .type "Exception", .type "BaseException", .type "object"] "ValueError.__new__" = true
  x_NoNumber : PySem.W.excIn K C_NoNumber [.type "ValueError", .type "Exception", .type "BaseException", .type "object"] "ValueError.__new__" = true
  ex : PySem.W.exmOne K (.ref C_NoNumber) (.ref C_RowError) = some true
  iv : PySem.W.kitOne K (.ref C_NoNumber) (.type "ValueError") = some true
  m_ZERO : mg "ZERO" = some (.ref C_ZERO)
  c_ZERO : ∀ H : Hp, SqT K H C_ZERO [.int 0, .int 1]
/-! ### what the defs promise -/
theorem ifF {c A B : Prop} [Decidable c] (hc : ¬ c) (h : B) : if c then A else B := by rw [if_neg hc]; exact h
theorem ifT {c A B : Prop} [Decidable c] (hc : c) (h : A) : if c then A else B := by rw [if_pos hc]; exact h
theorem flat_int (ns : List Int) : (ns.map V.int).all flatV = true := by
  rw [List.all_eq_true]
  intro x hx
  obtain ⟨i, _, rfl⟩ := List.mem_map.mp hx
  rfl
noncomputable def wholeV : V → Option Bool
  | .int _ => some true
  | .bl _ => some false
  | .str _ => some false
  | .non => some false
  | _ => none
noncomputable def sp_whole : Sp := fun vs H Q _ => ∃ v b, vs = [v] ∧ wholeV v = some b ∧ Q (.bl b) H
noncomputable def sp_gcd : Sp := fun vs H Q _ => ∃ a b : Int, vs = [.int a, .int b] ∧ Q (.int (Int.gcd a b : Nat)) H
noncomputable def sp_sqrt : Sp := fun vs H Q _ => ∃ n : Int, vs = [.int n] ∧ 0 ≤ n ∧ n < 10 ^ 90 ∧ ∀ g : Int, 0 ≤ g → g * g ≤ n → n < (g + 1) * (g + 1) → Q (.int g) H
noncomputable def low (u l : Int) : List V := [.int (u.fdiv (by_ u l)), .int (l.fdiv (by_ u l))]
noncomputable def sp_cell (K : PySem.W.Frag) : Sp := fun vs H Q _ => ∃ (a : Addr) (ns : List Int) (k : Int), vs = [.ref a, .int k] ∧ SqL K H a (ns.map V.int) ∧ 0 ≤ k ∧ Q (.int (ns.getD k.toNat 0)) H
noncomputable def sp_llow : Sp := fun vs H Q _ => ∃ u l : Int, vs = [.int u, .int l] ∧ l ≠ 0 ∧ Fit l ∧ newQ H (.tup (low u l)) Q
noncomputable def sp_mix : Sp := fun vs H Q _ => ∃ c p m : Int, vs = [.int c, .int p, .int m] ∧ 0 < p ∧ 0 < m ∧ ∀ r : Int, 0 ≤ r → r < m → Q (.int r) H
noncomputable def sp_fraction : Sp := fun vs H Q _ => ∃ c o m : Int, vs = [.int c, .int o, .int m] ∧ 0 < m ∧ m < 10 ^ 9 ∧ ∀ U L : Int, 0 < L → L ≤ m → -m ≤ U → U ≤ m → Int.gcd U L = 1 → newQ H (.tup [.int U, .int L]) Q
noncomputable def Bd (x : Int) : Prop := -(10 ^ 40) < x ∧ x < 10 ^ 40
noncomputable def sp_heart : Sp := fun vs H Q _ => ∃ a b c : Int, vs = [.int a, .int b, .int c] ∧ Bd a ∧ Bd b ∧ Bd c ∧ Q (.int (heart a b c)) H
noncomputable def sp_issq : Sp := fun vs H Q _ => ∃ n : Int, vs = [.int n] ∧ 0 ≤ n ∧ n < 10 ^ 90 ∧ ∀ t : Bool, (t = true ↔ IsSq n) → Q (.bl t) H
noncomputable def sp_g3 : Sp := fun vs H Q _ => ∃ a b c : Int, vs = [.int a, .int b, .int c] ∧ Q (.int (g3 a b c)) H
noncomputable def sp_root_of (CN : Addr) : Sp := fun vs H Q E => ∃ a b c s : Int, vs = [.int a, .int b, .int c, .int s] ∧ Bd a ∧ Bd b ∧ Bd c ∧ (a = 0 ∨ heart a b c < 0 ∨ IsSq (heart a b c) → E (.ref CN) none H) ∧
  (a ≠ 0 → 0 ≤ heart a b c → ¬ IsSq (heart a b c) → newQ H (.tup [.int (a.fdiv (by3 a b c)), .int (b.fdiv (by3 a b c)), .int (c.fdiv (by3 a b c)), .int s]) Q)





noncomputable def sp_root : Sp := fun vs H Q _ => ∃ c o m : Int, vs = [.int c, .int o, .int m] ∧ 2 ≤ m ∧ m < 10 ^ 9 ∧ ∀ A B C S : Int, Root A B C S → A ≤ m → -m ≤ B → B ≤ m → -m ≤ C → C ≤ m → newQ H (.tup [.int A, .int B, .int C, .int S]) Q
noncomputable def sp_part (K : PySem.W.Frag) : Sp := fun vs H Q _ => ∃ (p : Addr) (xs : List Int) (A t D L : Int), vs = [.ref p] ∧ SqT K H p (xs.map V.int) ∧ NumR xs A t D L ∧ (∀ x ∈ xs, Bd x) ∧ ∀ n, PartOf xs n → Q (.int n) H
noncomputable def Sm (x : Int) : Prop := -(2 ^ 64) < x ∧ x < 2 ^ 64
noncomputable def sp_above (K : PySem.W.Frag) : Sp := fun vs H Q _ => ∃ (p : Addr) (a b c s u l : Int), vs = [.ref p, .int u, .int l] ∧ SqT K H p [.int a, .int b, .int c, .int s] ∧ Sm u ∧ Sm l ∧ Q (.bl (abv a b c s u l)) H
noncomputable def sp_sg : Sp := fun vs H Q _ => ∃ n : Int, vs = [.int n] ∧ Q (.int (sg n)) H
noncomputable def sp_S : Sp := fun vs H Q _ => ∃ n : Int, vs = [.int n] ∧ Fit n ∧ Q (.int (S n)) H
noncomputable def sp_spread (K : PySem.W.Frag) : Sp := fun vs H Q _ => ∃ (p : Addr) (xs : List Int) (A t D L : Int), vs = [.ref p] ∧ SqT K H p (xs.map V.int) ∧ NumR xs A t D L ∧ (∀ x ∈ xs, Bd x) ∧ newQ H (.tup [.int A, .int t, .int D, .int L]) Q
noncomputable def sp_swr : Sp := fun vs H Q _ => ∃ w t h : Int, vs = [.int w, .int t, .int h] ∧ Fit w ∧ Fit t ∧ Fit (S t) ∧ Fit h ∧ Q (.int (sg (S w + S t * h))) H
noncomputable def sp_swtr : Sp := fun vs H Q _ => ∃ X p D q E : Int, vs = [.int X, .int p, .int D, .int q, .int E] ∧ X.natAbs < 10 ^ 44 ∧ p.natAbs < 10 ^ 22 ∧ D.natAbs < 10 ^ 44 ∧ q.natAbs < 10 ^ 22 ∧ E.natAbs < 10 ^ 44 ∧ Q (.int (cmp2 X p D q E)) H
noncomputable def sp_compare (K : PySem.W.Frag) : Sp := fun vs H Q _ => ∃ (p q : Addr) (xs ys : List Int) (A1 t1 D1 L1 A2 t2 D2 L2 : Int), vs = [.ref p, .ref q] ∧ SqT K H p (xs.map V.int) ∧ SqT K H q (ys.map V.int) ∧ NumR xs A1 t1 D1 L1 ∧ NumR ys A2 t2 D2 L2 ∧ (∀ x ∈ xs, x.natAbs < 10 ^ 21) ∧ (∀ x ∈ ys, x.natAbs < 10 ^ 21) ∧ ∀ H', Same H H' → Q (.int (cmpN A1 t1 D1 L1 A2 t2 D2 L2)) H'
noncomputable def sp_below (K : PySem.W.Frag) : Sp := fun vs H Q _ => ∃ (p : Addr) (xs : List Int) (A t D L u l : Int), vs = [.ref p, .int u, .int l] ∧ SqT K H p (xs.map V.int) ∧ NumR xs A t D L ∧ Sm u ∧ Sm l ∧ 0 < l ∧ ∀ r : Bool, (r = true → sA A t D L u l < 0) → (r = false → 0 ≤ sA A t D L u l) → Q (.bl r) H
noncomputable def sp_number (K : PySem.W.Frag) : Sp := fun vs H Q _ => ∃ (a : Addr) (ns : List Int) (k m : Int), vs = [.ref a, .int k, .int m] ∧ SqL K H a (ns.map V.int) ∧ 0 ≤ k ∧ 2 ≤ m ∧ m < 10 ^ 9 ∧ ∀ (xs : List Int) (A t D L : Int), NumR xs A t D L → (∀ x ∈ xs, -m ≤ x ∧ x ≤ m) → newQ H (.tup (xs.map V.int)) Q
noncomputable def BadRow (ns : List Int) : Prop := ns = [] ∨ ∃ x ∈ ns.drop 1, x < 1
/-- the numbers on the way keep within 200 figures -/
noncomputable def RowFit (ns : List Int) : Prop := (∀ y ∈ ns, Fit y) ∧ ∀ k, k < ns.length → Fit (st (ns.drop k)).1
noncomputable def sp_fraction_of (K : PySem.W.Frag) (CN : Addr) : Sp := fun vs H Q E => ∃ (a : Addr) (ns : List Int), vs = [.ref a] ∧ SqT K H a (ns.map V.int) ∧ ns.length < sizeLine ∧ (BadRow ns → ∀ H', Same H H' → E (.ref CN) none H') ∧
  (¬ BadRow ns → RowFit ns ∧ ∀ p H', Same H H' → SqT K H' p [.int (st ns).1, .int (st ns).2] → Q (.ref p) H')
noncomputable def sp_turned (K : PySem.W.Frag) : Sp := fun vs H Q _ => ∃ (p : Addr) (a b c s n : Int), vs = [.ref p, .int n] ∧ SqT K H p [.int a, .int b, .int c, .int s] ∧ Root a b c s ∧ (Sm n ∨ Bd n ∧ Bd b) ∧ Bd (a * n * n + b * n + c) ∧ Bd (2 * a * n + b) ∧ Bd a ∧ ∀ P B A : Int, TurnOf a b c s n P B A → newQ H (.tup [.int P, .int B, .int A, .int (if 0 < a * n * n + b * n + c then 1 - s else s)]) Q
/-- n: the part, or one less where the number is whole -/
noncomputable def PartUp (xs : List Int) (n : Int) : Prop := PartOf xs n ∨ ∃ l : Int, xs = [(n + 1) * l, l]
noncomputable def sp_led (K : PySem.W.Frag) : Sp := fun vs H Q _ => ∃ (p : Addr) (xs : List Int) (n A t D L D0 M : Int), vs = [.ref p, .int n] ∧ SqT K H p (xs.map V.int) ∧ NumR xs A t D L ∧ PartUp xs n ∧ Sz D0 M xs ∧ 0 ≤ D0 ∧ D0 + M < 10 ^ 38 ∧
  (cut xs n 1 = 0 → Q .non H) ∧ (∀ ys, Led xs n ys → cut xs n 1 = 1 → newQ H (.tup (ys.map V.int)) Q)









noncomputable def T2 (p : Int × Int) : List V := [.int p.1, .int p.2]
noncomputable def sp_over (K : PySem.W.Frag) : Sp := fun vs H Q _ => ∃ (p : Addr) (xs : List Int) (A t D L u l : Int), vs = [.ref p, .int u, .int l] ∧ SqT K H p (xs.map V.int) ∧ NumR xs A t D L ∧ Sm u ∧ Sm l ∧ 0 < l ∧ Q (.bl (decide (cut xs u l = 1))) H
noncomputable def mir : List Int → List Int
  | [u, l] => [-u, l]
  | [a, b, c, s] => [a, -b, c, 1 - s]
  | _ => []
noncomputable def sp_mirror (K : PySem.W.Frag) : Sp := fun vs H Q _ => ∃ (p : Addr) (xs : List Int) (A t D L : Int), vs = [.ref p] ∧ SqT K H p (xs.map V.int) ∧ NumR xs A t D L ∧ newQ H (.tup ((mir xs).map V.int)) Q
/-- what is told between x and y -/
structure Simp (xs : List Int) (yo : Option (List Int)) (p q : Int) : Prop where
  btw : Btw xs yo p q
  pos : 0 < q
  least : ∀ u l, 0 < l → Btw xs yo u l → q ≤ l ∧ p ≤ u
  gcd : Int.gcd p q = 1
  nn : 0 ≤ p
noncomputable def sp_simp (K : PySem.W.Frag) : Sp := fun vs H Q _ => ∃ (p r : Addr) (xs ys : List Int) (A t D L A2 t2 D2 L2 D0 M U W : Int), vs = [.ref p, .ref r] ∧ SqT K H p (xs.map V.int) ∧ SqT K H r (ys.map V.int) ∧ NumR xs A t D L ∧ NumR ys A2 t2 D2 L2 ∧ Sz D0 M xs ∧ Sz D0 M ys ∧ 0 ≤ D0 ∧ D0 ≤ 5000 ∧ 0 ≤ M ∧ M ≤ 100 ∧ 0 ≤ cut xs 0 1 ∧ Btw xs (some ys) U W ∧ 0 < W ∧ W < 10 ^ 16 ∧ U < 10 ^ 30 ∧
  ∀ u l, Simp xs (some ys) u l → ∀ r H', Same H H' → SqT K H' r [.int u, .int l] → Q (.ref r) H'
noncomputable def sp_simplest (K : PySem.W.Frag) (CN : Addr) : Sp := fun vs H Q E => ∃ (p r : Addr) (xs ys : List Int) (A t D L A2 t2 D2 L2 : Int), vs = [.ref p, .ref r] ∧ SqT K H p (xs.map V.int) ∧ SqT K H r (ys.map V.int) ∧ NumR xs A t D L ∧ NumR ys A2 t2 D2 L2 ∧ (∀ x ∈ xs, -30 ≤ x ∧ x ≤ 30) ∧ (∀ x ∈ ys, -30 ≤ x ∧ x ≤ 30) ∧
  (0 ≤ cmpN A t D L A2 t2 D2 L2 → ∀ H', Same H H' → E (.ref CN) none H') ∧
  (cmpN A t D L A2 t2 D2 L2 = -1 → ∀ u l, 0 < l → l < 10 ^ 16 → u.natAbs < 10 ^ 30 → Int.gcd u l = 1 → Btw xs (some ys) u l → (∀ u' l', 0 < l' → Btw xs (some ys) u' l' → l ≤ l' ∧ (l' = l → u.natAbs ≤ u'.natAbs)) → ∀ r H', Same H H' → SqT K H' r [.int u, .int l] → Q (.ref r) H')
local macro_rules | `(tactic| walk_at "wp") => `(tactic| simp only [cxOf_K, L2.start, List.map_cons, List.map_nil, List.reduceReplicate, Nat.reduceSub, Nat.reduceAdd, tSeq, tNext, tIfS, tRet, tRetN, tRaise, tDrop, tAsg, gName, gTup, gCons, gNil, tTest, tB, tOp, tUn, tVar, tC, rI0, rI, rU, rEq, rNe, scal, tAnd, tOr, tNot, tAndV, tOrV, tNotV, tIf, tChain, tCons, tNil, tCB, tTup, tLst, tTupS, tLstS, rCatTS, rCatTG, rLtT, rCatS, rInsertS, iRevT, iRevL, iRevA, rSlTG, rSlA, rIxA, rRepG, rEqLs, rExtendS, rRepS, rSlLS, rSlTS, rIn, iTup, iList, iRng1, iRng2, tComp, rIxT, rIxL, rAppendS, tCall, tCallS, tPar, tBreak, tDGet, tDIn, tDNotIn, sDPut, tDNewT, tBM, tBM0, tSl, tPart, tNoPart, CM, CD, CDN, rEqT, List.getElem?_cons_zero, List.getElem?_cons_succ, List.set_cons_zero, List.set_cons_succ, List.append_nil, List.nil_append, List.cons_append, Option.some.injEq, V.int.injEq, V.bl.injEq, V.ref.injEq, V.str.injEq, List.cons.injEq, exists_eq_left', exists_eq_left, exists_eq_right, exists_and_left, exists_and_right, exists_eq, and_true, true_and, exists_const, exists_eq_right_right, and_self, List.length_cons, List.length_nil, decide_true, decide_false, ↓reduceIte, Bool.false_eq_true, if_true, if_false, Bool.not_true, Bool.not_false])
local macro_rules | `(tactic| walk_at "splen") => `(tactic| (intro vs H Q E h; first | (obtain ⟨_, e, _⟩ := h; subst e; rfl) | (obtain ⟨_, _, e, _⟩ := h; subst e; rfl) | (obtain ⟨_, _, _, e, _⟩ := h; subst e; rfl) | (obtain ⟨_, _, _, _, e, _⟩ := h; subst e; rfl) | (obtain ⟨_, _, _, _, _, e, _⟩ := h; subst e; rfl) | (obtain ⟨_, _, _, _, _, _, e, _⟩ := h; subst e; rfl) | (obtain ⟨_, _, _, _, _, _, _, e, _⟩ := h; subst e; rfl) | (obtain ⟨_, _, _, _, _, _, _, _, e, _⟩ := h; subst e; rfl) | (obtain ⟨_, _, _, _, _, _, _, _, _, e, _⟩ := h; subst e; rfl) | (obtain ⟨_, _, _, _, _, _, _, _, _, _, e, _⟩ := h; subst e; rfl) | (obtain ⟨_, _, _, _, _, _, _, _, _, _, _, e, _⟩ := h; subst e; rfl) | (obtain ⟨_, _, _, _, _, _, _, _, _, _, _, _, e, _⟩ := h; subst e; rfl) | (obtain ⟨_, _, _, _, _, _, _, _, _, _, _, _, _, e, _⟩ := h; subst e; rfl) | (obtain ⟨_, _, _, _, _, _, _, _, _, _, _, _, _, _, e, _⟩ := h; subst e; rfl) | (obtain ⟨_, _, _, _, _, _, _, _, _, _, _, _, _, _, _, e, _⟩ := h; subst e; rfl) | (obtain ⟨_, _, _, _, _, _, _, _, _, _, _, _, _, _, _, _, e, _⟩ := h; subst e; rfl) | (obtain ⟨_, _, _, _, _, _, _, _, _, _, _, _, _, _, _, _, _, e, _⟩ := h; subst e; rfl) | (obtain ⟨_, _, _, _, _, _, _, _, _, _, _, _, _, _, _, _, _, _, e, _⟩ := h; subst e; rfl) | (obtain ⟨_, _, _, _, _, _, _, _, _, _, _, _, _, _, _, _, _, _, _, e, _⟩ := h; subst e; rfl)))
section
variable {P : Program} {w : World} {K : PySem.W.Frag} {mg : Str → Option Value} {base : Heap} {C_RowError C_NoNumber C_ZERO : Addr}
theorem sc_common_divisor : FnScope ["one", "other", "greater", "lesser", "rest"] ["one", "other"] (defScope s_common_divisor) := ⟨rfl, rfl, rfl, by decide +kernel, rfl, by decide +kernel, by decide +kernel⟩
theorem d_common_divisor (F : In K mg "common_divisor" s_common_divisor ["one", "other"]) (T : Txt K mg C_RowError C_NoNumber C_ZERO)  : Def P w K mg base CX0 1 "common_divisor" ["one", "other"] sp_gcd := by
  refine F.ok0 sc_common_divisor (by walk_at "splen") (fun f cdv A outer s H vs Q E hr h => ?_)
  obtain ⟨a, b, rfl, q⟩ := h
  refine ⟨_, (pss_cons (ps_set (i := 2) sc_common_divisor.nd rfl (Or.inl rfl) (pe_callB call_abs rfl T.n_abs (by decide +kernel) (pa_cons (pv 0) pa_nil)))
    (pss_cons (ps_set (i := 3) sc_common_divisor.nd rfl (Or.inl rfl) (pe_callB call_abs rfl T.n_abs (by decide +kernel) (pa_cons (pv 1) pa_nil)))
    (pss_cons (ps_while PassesOwn.never (pt_cmpR op_ne (pv 3) pe_int (nomark _)) (pss_cons (ps_set (i := 4) sc_common_divisor.nd rfl (Or.inl rfl) (pe_op op_mod (pv 2) (pv 3)))
    (pss_cons (ps_set (i := 2) sc_common_divisor.nd rfl (Or.inl rfl) (pv 3))
    (pss_one (ps_set (i := 3) sc_common_divisor.nd rfl (Or.inl rfl) (pv 4))))))
    (pss_one (ps_ret (pv 2)))))), ?_⟩
  walk_at "wp"
  -- while lesser != 0
  refine ⟨fun m σ H1 => ∃ (x y : Int) (r : Option V), σ = [some (.int a), some (.int b), some (.int x), some (.int y), r] ∧ H1 = H ∧ m = y.toNat ∧ 0 ≤ x ∧ 0 ≤ y ∧ Int.gcd x y = Int.gcd a b, ⟨_, _, _, _, rfl, rfl, rfl, ?_, ?_, gcd_abs a b⟩, ?_⟩
  · split <;> omega
  · split <;> omega
  rintro m σ H1 ⟨x, y, r, rfl, rfl, rfl, hx, hy, hg⟩
  walk_at "wp"
  refine ite2 (fun c => ?_) (fun c => ?_)
  · have hy0 : y ≠ 0 := by simpa using c
    have hm0 := Int.emod_nonneg x hy0
    have hm1 := Int.emod_lt_of_pos x (show 0 < y by omega)
    exact ⟨_, fun _ _ h => h, by omega, _, by omega, y, x % y, ⟨_, rfl⟩, rfl, rfl, hy, hm0, (gcd_step hx (by omega)).trans hg⟩
  · have hy0 : y = 0 := by simpa using c
    subst hy0
    rw [← hg, gcd_end hx] at q
    exact q
theorem kt_ii : PySem.W.kitOne K (.type "int") (.type "int") = some true := by kernel_rfl
theorem kt_ib : PySem.W.kitOne K (.type "int") (.type "bool") = some false := by kernel_rfl
theorem kt_bi : PySem.W.kitOne K (.type "bool") (.type "int") = some true := by kernel_rfl
theorem kt_bb : PySem.W.kitOne K (.type "bool") (.type "bool") = some true := by kernel_rfl
theorem kt_si : PySem.W.kitOne K (.type "str") (.type "int") = some false := by kernel_rfl
theorem kt_ni : PySem.W.kitOne K (.type "NoneType") (.type "int") = some false := by kernel_rfl
theorem kt_tt : PySem.W.kitOne K (.type "tuple") (.type "tuple") = some true := by kernel_rfl
noncomputable def rIsi (K : PySem.W.Frag) : List V → Hp → VK → Prop := fun xs H Q => ∃ x c t cv b, xs = [x, c] ∧ ClsV c cv ∧ TyX K H x t ∧ PySem.W.kitOne K t cv = some b ∧ Q (.bl b) H
theorem whole_rd {v : V} {b : Bool} {H : Hp} {Q : VK} (hw : wholeV v = some b) (q : Q (.bl b) H) :
    tAndV (tCB (rIsi K) (tCons (tVar 0) (tCons (tC (.ty "int")) tNil))) (tNotV (tCB (rIsi K) (tCons (tVar 0) (tCons (tC (.ty "bool")) tNil)))) [some v] H Q := by
  walk_at "wp"
  cases v with
  | int i =>
    cases hw
    exact ⟨_, _, _, _, _, rfl, .ty _, .of (.int i), kt_ii, true, rfl, iteT ⟨_, _, _, _, _, rfl, .ty _, .of (.int i), kt_ib, false, rfl, q⟩⟩
  | bl c =>
    cases hw
    exact ⟨_, _, _, _, _, rfl, .ty _, .of (.bl c), kt_bi, true, rfl, iteT ⟨_, _, _, _, _, rfl, .ty _, .of (.bl c), kt_bb, true, rfl, q⟩⟩
  | str x =>
    cases hw
    exact ⟨_, _, _, _, _, rfl, .ty _, .of (.str x), kt_si, false, rfl, iteF q⟩
  | non =>
    cases hw
    exact ⟨_, _, _, _, _, rfl, .ty _, .of .non, kt_ni, false, rfl, iteF q⟩
  | _ => cases hw
theorem pow_le_60 {e : Nat} (h : e ≤ 150) : (2 : Nat) ^ e < 10 ^ 60 :=
  Nat.lt_of_le_of_lt (Nat.pow_le_pow_right (by decide) h) (by decide +kernel)
theorem bits_top {n : Int} (h : 0 ≤ n) : n < ((2 ^ ((Builtin.Int.intBits n + 1) / 2) * 2 ^ ((Builtin.Int.intBits n + 1) / 2) : Nat) : Int) := by
  have q : n.natAbs < 2 ^ Builtin.Int.intBits n := PySem.intBits_le_iff.mp (Nat.le_refl _)
  have z : 2 ^ Builtin.Int.intBits n ≤ 2 ^ ((Builtin.Int.intBits n + 1) / 2) * 2 ^ ((Builtin.Int.intBits n + 1) / 2) := by
    rw [← Nat.pow_add]
    exact Nat.pow_le_pow_right (by decide) (by omega)
  omega
theorem bits_small {n : Int} (h : 0 ≤ n) (h1 : n < 10 ^ 90) : Builtin.Int.intBits n ≤ 299 := by
  refine PyProof.Rows.intBits_le (Nat.lt_of_lt_of_le (show n.natAbs < 10 ^ 90 by omega) ?_)
  decide +kernel
theorem sc_least_square : FnScope ["n", "guess"] ["n"] (defScope s_least_square) := ⟨rfl, rfl, rfl, by decide +kernel, rfl, by decide +kernel, by decide +kernel⟩
theorem d_least_square (F : In K mg "least_square" s_least_square ["n"]) (T : Txt K mg C_RowError C_NoNumber C_ZERO)  : Def P w K mg base CX0 1 "least_square" ["n"] sp_sqrt := by
  refine F.ok0 sc_least_square (by walk_at "splen") (fun f cdv A outer s H vs Q E hr h => ?_)
  obtain ⟨n, rfl, h0, h1, q⟩ := h
  refine ⟨_, (pss_cons (ps_set (i := 1) sc_least_square.nd rfl (Or.inl rfl) (pe_op op_shl pe_int (pe_op op_fdivP (pe_op op_add (pe_bm0 PySem.F.plainAttrs_int PySem.F.slot_int_bit_length PySem.F.type_int_bit_length mt_bits (pv 0)) pe_int) pe_int)))
    (pss_cons (ps_while PassesOwn.never (PW.pt (pw_and (pt_cmpR op_gt (pv 1) pe_int (nomark _)) (pw_and1 (pt_cmpR op_gt (pe_op op_mulB (pv 1) (pv 1)) (pv 0) (nomark _))))) (pss_one (ps_set (i := 1) sc_least_square.nd rfl (Or.inl rfl) (pe_op op_fdivP (pe_op op_add (pv 1) (pe_op op_fdivP (pv 0) (pv 1))) pe_int))))
    (pss_one (ps_ret (pv 1))))), ?_⟩
  walk_at "wp"
  have hb := bits_top h0
  have hb2 := bits_small h0 h1
  refine ⟨rfl, ⟨by decide, by constructor <;> decide⟩, ⟨by omega, by omega, by decide⟩, ?_⟩
  refine ⟨fun m σ H1 => ∃ g : Int, σ = [some (.int n), some (.int g)] ∧ H1 = H ∧ m = g.toNat ∧ 0 ≤ g ∧ g < 10 ^ 60 ∧ n < (g + 1) * (g + 1), ⟨_, _, rfl, rfl, rfl, ?_⟩, ?_⟩
  · have ee : ((((Builtin.Int.intBits n : Nat) : Int) + 1) / 2).toNat = (Builtin.Int.intBits n + 1) / 2 := by omega
    rw [ee]
    have p60 := pow_le_60 (e := (Builtin.Int.intBits n + 1) / 2) (by omega)
    have ec : (1 : Int) * 2 ^ ((Builtin.Int.intBits n + 1) / 2) = ((2 ^ ((Builtin.Int.intBits n + 1) / 2) : Nat) : Int) := by
      rw [Int.one_mul, Int.natCast_pow] <;> rfl
    rw [ec]
    rw [Int.natCast_mul] at hb
    generalize ((2 ^ ((Builtin.Int.intBits n + 1) / 2) : Nat)) = z at hb p60
    refine ⟨by omega, by omega, ?_⟩
    have x1 : ((z : Int) + 1) * ((z : Int) + 1) = (z : Int) * z + 2 * z + 1 := by
      simp only [Int.add_mul, Int.mul_add, Int.one_mul, Int.mul_one]; omega
    omega
  rintro m σ H1 ⟨g, rfl, rfl, rfl, hg, hg2, hn⟩
  walk_at "wp"
  have fg : Fit g := ⟨by omega, by omega⟩
  refine ite2 (fun c => ?_) (fun c => ?_)
  · have g0 : 0 < g := by simpa using c
    refine ⟨.inr fg, ite2 (fun c => ?_) (fun c => ?_)⟩
    · have c1 : n < g * g := by simpa using c
      obtain ⟨n1, n2⟩ := newton_falls g0 h0 c1
      exact ⟨_, fun _ _ h => h, ⟨g0, fg⟩, ⟨by decide, by constructor <;> decide⟩, _, by omega, _, rfl, rfl, rfl, n2, by omega, newton g0 h0⟩
    · have c1 : ¬ n < g * g := by simpa using c
      exact q g hg (by omega) hn
  · have g0 : ¬ 0 < g := by simpa using c
    have gz : g = 0 := by omega
    subst gz
    exact q 0 (by omega) (by omega) hn
theorem fit_by {u l : Int} (hl : l ≠ 0) (f : Fit l) : Fit (by_ u l) := by
  have hg := Int.gcd_pos_of_ne_zero_right u hl
  have h1 : Int.gcd u l ≤ l.natAbs := Nat.gcd_le_right _ (by omega)
  obtain ⟨a, b⟩ := f
  unfold by_
  constructor <;> split <;> omega
theorem cell_at {ns : List Int} {k : Int} (h0 : 0 ≤ k) (h : k < (ns.length : Int)) : atI (ns.map V.int) k = some (.int (ns.getD k.toNat 0)) := by
  have hk : k.toNat < ns.length := by omega
  have ek : k = ((k.toNat : Nat) : Int) := by omega
  have q : atI (ns.map V.int) ((k.toNat : Nat) : Int) = some (.int (ns.getD k.toNat 0)) := atI_nat (by rw [List.getElem?_map, List.getD_eq_getElem?_getD, List.getElem?_eq_getElem hk] <;> rfl)
  rw [← ek] at q
  exact q
theorem cell_out {ns : List Int} {k : Int} (h : (ns.length : Int) ≤ k) : ns.getD k.toNat 0 = 0 := by
  rw [List.getD_eq_getElem?_getD, List.getElem?_eq_none (by omega)] <;> rfl
theorem sc_law_cell : FnScope ["_law_script", "_law_k"] ["_law_script", "_law_k"] (defScope s_law_cell) := ⟨rfl, rfl, rfl, by decide +kernel, rfl, by decide +kernel, by decide +kernel⟩
theorem d_law_cell (F : In K mg "_law_cell" s_law_cell ["_law_script", "_law_k"]) (T : Txt K mg C_RowError C_NoNumber C_ZERO)  : Def P w K mg base CX0 1 "_law_cell" ["_law_script", "_law_k"] (sp_cell K) := by
  refine F.ok0 sc_law_cell (by walk_at "splen") (fun f cdv A outer s H vs Q E hr h => ?_)
  obtain ⟨a, ns, k, rfl, hS, hk, q⟩ := h
  refine ⟨_, (pss_cons (ps_if (pt_cmpR op_lt (pv 1) (pe_callB call_len_seq rfl T.n_len (by decide +kernel) (pa_cons (pv 0) pa_nil)) (nomark _)) (pss_one (ps_ret (pe_ix ix_list (pv 0) (pv 1) (fun _ _ => rfl)))) pss_nil)
    (pss_one (ps_ret pe_int))), ?_⟩
  walk_at "wp"
  refine ⟨_, .inl hS, ?_⟩
  rw [List.length_map]
  refine ite2 (fun c => ?_) (fun c => ?_)
  · have hlt : k < (ns.length : Int) := by simpa using c
    exact ⟨_, hS, _, cell_at hk hlt, q⟩
  · have hge : ¬ k < (ns.length : Int) := by simpa using c
    rw [cell_out (by omega)] at q
    exact q
theorem sc_law_mix : FnScope ["_law_cell_here", "_law_prime", "_law_many"] ["_law_cell_here", "_law_prime", "_law_many"] (defScope s_law_mix) := ⟨rfl, rfl, rfl, by decide +kernel, rfl, by decide +kernel, by decide +kernel⟩
theorem d_law_mix (F : In K mg "_law_mix" s_law_mix ["_law_cell_here", "_law_prime", "_law_many"]) (T : Txt K mg C_RowError C_NoNumber C_ZERO)  : Def P w K mg base CX0 1 "_law_mix" ["_law_cell_here", "_law_prime", "_law_many"] sp_mix := by
  refine F.ok0 sc_law_mix (by walk_at "splen") (fun f cdv A outer s H vs Q E hr h => ?_)
  obtain ⟨c, p, m, rfl, hp, hm, q⟩ := h
  refine ⟨_, (pss_one (ps_ret (pe_op op_mod (pe_op op_mod (pe_op op_mulB (pv 0) pe_int) (pv 1)) (pv 2)))), ?_⟩
  walk_at "wp"
  first | exact ⟨.inl (.inr ⟨by decide, by decide⟩), hp, hm, q _ (Int.emod_nonneg _ (by omega)) (Int.emod_lt_of_pos _ hm)⟩ | exact ⟨.inl (.inr ⟨by decide, by decide⟩), hp, hm, q⟩
theorem sc_law_whole : FnScope ["_law_found"] ["_law_found"] (defScope s_law_whole) := ⟨rfl, rfl, rfl, by decide +kernel, rfl, by decide +kernel, by decide +kernel⟩
theorem d_law_whole (F : In K mg "_law_whole" s_law_whole ["_law_found"]) (T : Txt K mg C_RowError C_NoNumber C_ZERO)  : Def P w K mg base CX0 1 "_law_whole" ["_law_found"] sp_whole := by
  refine F.ok0 sc_law_whole (by walk_at "splen") (fun f cdv A outer s H vs Q E hr h => ?_)
  obtain ⟨v, b, rfl, hw, q⟩ := h
  refine ⟨_, (pss_one (ps_ret (pe_and (pe_callB call_isi rfl T.n_isinstance (by decide +kernel) (pa_cons (pv 0) (pa_cons (pe_bltn (v := .ty "int") (u := .type "int") rfl T.n_int (by decide +kernel) rfl) pa_nil))) (pe_one (pe_not (pe_callB call_isi rfl T.n_isinstance (by decide +kernel) (pa_cons (pv 0) (pa_cons (pe_bltn (v := .ty "bool") (u := .type "bool") rfl T.n_bool (by decide +kernel) rfl) pa_nil)))))))), ?_⟩
  exact whole_rd hw q
theorem sc_law_divisor : FnScope ["_law_one", "_law_other"] ["_law_one", "_law_other"] (defScope s_law_divisor) := ⟨rfl, rfl, rfl, by decide +kernel, rfl, by decide +kernel, by decide +kernel⟩
theorem d_law_divisor (F : In K mg "_law_divisor" s_law_divisor ["_law_one", "_law_other"]) (T : Txt K mg C_RowError C_NoNumber C_ZERO)  : Def P w K mg base CX0 1 "_law_divisor" ["_law_one", "_law_other"] sp_gcd := by
  refine F.ok0 sc_law_divisor (by walk_at "splen") (fun f cdv A outer s H vs Q E hr h => ?_)
  obtain ⟨a, b, rfl, q⟩ := h
  refine ⟨_, (pss_cons (ps_set (i := 0) sc_law_divisor.nd rfl (Or.inl rfl) (pe_callB call_abs rfl T.n_abs (by decide +kernel) (pa_cons (pv 0) pa_nil)))
    (pss_cons (ps_set (i := 1) sc_law_divisor.nd rfl (Or.inl rfl) (pe_callB call_abs rfl T.n_abs (by decide +kernel) (pa_cons (pv 1) pa_nil)))
    (pss_cons (ps_while PassesOwn.never (pt_cmpR op_gt (pv 1) pe_int (nomark _)) (pss_one (ps_par (i := 0) (j := 1) rfl sc_law_divisor.nd rfl rfl (by decide) rfl rfl (pa_cons (pv 1) (pa_cons (pe_op op_mod (pv 0) (pv 1)) pa_nil)) (by with_unfolding_all rfl))))
    (pss_one (ps_ret (pv 0)))))), ?_⟩
  walk_at "wp"
  refine ⟨fun m σ H1 => ∃ (x y : Int), σ = [some (.int x), some (.int y)] ∧ H1 = H ∧ m = y.toNat ∧ 0 ≤ x ∧ 0 ≤ y ∧ Int.gcd x y = Int.gcd a b, ⟨_, _, _, rfl, rfl, rfl, ?_, ?_, gcd_abs a b⟩, ?_⟩
  · split <;> omega
  · split <;> omega
  rintro m σ H1 ⟨x, y, rfl, rfl, rfl, hx, hy, hg⟩
  walk_at "wp"
  refine ite2 (fun c => ?_) (fun c => ?_)
  · have hy0 : 0 < y := by simpa using c
    have hm0 := Int.emod_nonneg x (show y ≠ 0 by omega)
    have hm1 := Int.emod_lt_of_pos x hy0
    exact ⟨_, fun _ _ h => h, hy0, _, _, ⟨rfl, rfl⟩, _, by omega, y, x % y, rfl, rfl, rfl, hy, hm0, (gcd_step hx hy0).trans hg⟩
  · have hy0 : y = 0 := by
      have : ¬ 0 < y := by simpa using c
      omega
    subst hy0
    rw [← hg, gcd_end hx] at q
    exact q
theorem sc_law_lowest : FnScope ["_law_upper", "_law_lower", "_law_by"] ["_law_upper", "_law_lower"] (defScope s_law_lowest) := ⟨rfl, rfl, rfl, by decide +kernel, rfl, by decide +kernel, by decide +kernel⟩
theorem d_law_lowest (F : In K mg "_law_lowest" s_law_lowest ["_law_upper", "_law_lower"]) (T : Txt K mg C_RowError C_NoNumber C_ZERO) (D_law_divisor : Def P w K mg base CX0 1 "_law_divisor" ["_law_one", "_law_other"] sp_gcd) : Def P w K mg base CX0 2 "_law_lowest" ["_law_upper", "_law_lower"] sp_llow := by
  refine F.ok0 sc_law_lowest (by walk_at "splen") (fun f cdv A outer s H vs Q E hr h => ?_)
  obtain ⟨u, l, rfl, hl, fl, q⟩ := h
  refine ⟨_, (pss_cons (ps_set (i := 2) sc_law_lowest.nd rfl (Or.inl rfl) (pe_callD D_law_divisor hr rfl pass0 (pa_cons (pv 0) (pa_cons (pv 1) pa_nil))))
    (pss_cons (ps_if (pt_cmpR op_lt (pv 1) pe_int (nomark _)) (pss_one (ps_set (i := 2) sc_law_lowest.nd rfl (Or.inl rfl) (pe_op op_sub pe_int (pv 2)))) pss_nil)
    (pss_one (ps_ret (pe_tupS (pa_cons (pe_op op_fdivM (pv 0) (pv 2)) (pa_cons (pe_op op_fdivM (pv 1) (pv 2)) pa_nil))))))), ?_⟩
  walk_at "wp"
  have fb := fit_by (u := u) hl fl
  have nb := by_ne (u := u) hl
  have two : 2 ≤ sizeLine := by decide
  refine ⟨u, l, rfl, ?_⟩
  refine ite2 (fun c => ?_) (fun c => ?_)
  · have hn : l < 0 := by simpa using c
    have e : by_ u l = 0 - ((Int.gcd u l : Nat) : Int) := by rw [Int.zero_sub]; exact if_pos hn
    rw [e] at fb nb
    refine ⟨_, rfl, ⟨nb, fb⟩, ⟨nb, fb⟩, two, ?_⟩
    have z := q
    unfold low at z
    rw [e] at z
    exact z
  · have hn : ¬ l < 0 := by simpa using c
    have e : by_ u l = ((Int.gcd u l : Nat) : Int) := if_neg hn
    rw [e] at fb nb
    refine ⟨_, rfl, ⟨nb, fb⟩, _, rfl, ⟨nb, fb⟩, two, ?_⟩
    have z := q
    unfold low at z
    rw [e] at z
    exact z
theorem low_small {u l m : Int} (hl : 0 < l) (hm : l ≤ m) (h1 : -m ≤ u) (h2 : u ≤ m) : l.fdiv (by_ u l) ≤ m ∧ -m ≤ u.fdiv (by_ u l) ∧ u.fdiv (by_ u l) ≤ m := by
  have e : by_ u l = ((Int.gcd u l : Nat) : Int) := if_neg (by omega)
  have hg : 0 < Int.gcd u l := Int.gcd_pos_of_ne_zero_right u (by omega)
  obtain ⟨x, hx⟩ := by_dvd_u u l
  obtain ⟨y, hy⟩ := by_dvd_l u l
  rw [e] at hx hy ⊢
  generalize Int.gcd u l = g at *
  have g0 : (0 : Int) < (g : Int) := by omega
  rw [Int.fdiv_eq_ediv_of_nonneg _ (by omega), Int.fdiv_eq_ediv_of_nonneg _ (by omega)]
  have eu : u / (g : Int) = x := by rw [hx]; exact Int.mul_ediv_cancel_left x (by omega)
  have el : l / (g : Int) = y := by rw [hy]; exact Int.mul_ediv_cancel_left y (by omega)
  rw [eu, el]
  have b1 : ∀ z : Int, 0 ≤ z → z ≤ (g : Int) * z := fun z hz => by
    have := Int.mul_le_mul_of_nonneg_right (show (1 : Int) ≤ g by omega) hz
    omega
  have y0 : 0 ≤ y := by
    rcases Int.lt_or_le y 0 with h | h
    · have := Int.mul_neg_of_pos_of_neg g0 h
      omega
    · exact h
  refine ⟨by have := b1 y y0; omega, ?_, ?_⟩
  · rcases Int.lt_or_le x 0 with h | h
    · have := b1 (-x) (by omega)
      rw [Int.mul_neg] at this
      omega
    · omega
  · rcases Int.lt_or_le x 0 with h | h
    · omega
    · have := b1 x h
      omega
theorem sc_law_fraction : FnScope ["_law_cell_here", "_law_other", "_law_wide", "_law_upper"] ["_law_cell_here", "_law_other", "_law_wide"] (defScope s_law_fraction) := ⟨rfl, rfl, rfl, by decide +kernel, rfl, by decide +kernel, by decide +kernel⟩
theorem d_law_fraction (F : In K mg "_law_fraction" s_law_fraction ["_law_cell_here", "_law_other", "_law_wide"]) (T : Txt K mg C_RowError C_NoNumber C_ZERO) (D_law_lowest : Def P w K mg base CX0 2 "_law_lowest" ["_law_upper", "_law_lower"] sp_llow) (D_law_mix : Def P w K mg base CX0 1 "_law_mix" ["_law_cell_here", "_law_prime", "_law_many"] sp_mix) : Def P w K mg base CX0 3 "_law_fraction" ["_law_cell_here", "_law_other", "_law_wide"] sp_fraction := by
  refine F.ok0 sc_law_fraction (by walk_at "splen") (fun f cdv A outer s H vs Q E hr h => ?_)
  obtain ⟨c, o, m, rfl, hm, hb, q⟩ := h
  refine ⟨_, (pss_cons (ps_set (i := 3) sc_law_fraction.nd rfl (Or.inl rfl) (pe_op op_sub (pe_callD D_law_mix hr rfl pass0 (pa_cons (pv 0) (pa_cons pe_int (pa_cons (pe_op op_add (pe_op op_mulB pe_int (pv 2)) pe_int) pa_nil)))) (pv 2)))
    (pss_one (ps_ret (pe_callD D_law_lowest hr rfl pass0 (pa_cons (pv 3) (pa_cons (pe_op op_add pe_int (pe_callD D_law_mix hr rfl pass0 (pa_cons (pv 1) (pa_cons pe_int (pa_cons (pv 2) pa_nil))))) pa_nil)))))), ?_⟩
  walk_at "wp"
  refine ⟨.inl (.inl ⟨by decide, by decide⟩), _, _, _, rfl, by decide, by omega, fun r hr0 hr1 => ⟨_, rfl, ?_⟩⟩
  refine ⟨_, _, _, rfl, by decide, by omega, fun r2 h20 h21 => ⟨_, rfl, ?_⟩⟩
  refine ⟨_, _, rfl, by omega, ⟨by omega, by omega⟩, ?_⟩
  have z := low_small (u := r - m) (l := 1 + r2) (m := m) (by omega) (by omega) (by omega) (by omega)
  exact q _ _ (low_pos (by omega)) z.1 z.2.1 z.2.2 (low_gcd (by omega))
theorem Bd.fit {x : Int} (h : Bd x) : Fit x := by
  obtain ⟨h1, h2⟩ := h
  constructor <;> omega
theorem bd_mul {x y : Int} {m n : Nat} (hx : x.natAbs < 10 ^ m) (hy : y.natAbs < 10 ^ n) : (x * y).natAbs < 10 ^ (m + n) := by
  rw [Int.natAbs_mul, Nat.pow_add]
  exact Nat.mul_lt_mul'' hx hy
theorem Bd.nat {x : Int} (h : Bd x) : x.natAbs < 10 ^ 40 := by
  obtain ⟨h1, h2⟩ := h
  omega
theorem heart_small {a b c : Int} (ha : Bd a) (hb : Bd b) (hc : Bd c) : heart a b c < 10 ^ 90 := by
  have h1 := bd_mul hb.nat hb.nat
  have h2 := bd_mul (bd_mul (show (4 : Int).natAbs < 10 ^ 1 by decide) ha.nat) hc.nat
  unfold heart
  omega
theorem sc_heart_of : FnScope ["a", "b", "c"] ["a", "b", "c"] (defScope s_heart_of) := ⟨rfl, rfl, rfl, by decide +kernel, rfl, by decide +kernel, by decide +kernel⟩
theorem d_heart_of (F : In K mg "heart_of" s_heart_of ["a", "b", "c"]) (T : Txt K mg C_RowError C_NoNumber C_ZERO)  : Def P w K mg base CX0 1 "heart_of" ["a", "b", "c"] sp_heart := by
  refine F.ok0 sc_heart_of (by walk_at "splen") (fun f cdv A outer s H vs Q E hr h => ?_)
  obtain ⟨a, b, c, rfl, ha, hb, hc, q⟩ := h
  refine ⟨_, (pss_one (ps_ret (pe_op op_sub (pe_op op_mulB (pv 1) (pv 1)) (pe_op op_mulB (pe_op op_mulB pe_int (pv 0)) (pv 2))))), ?_⟩
  walk_at "wp"
  have h1 := bd_mul (show (4 : Int).natAbs < 10 ^ 1 by decide) ha.nat
  refine ⟨.inr hb.fit, .inl (.inl ⟨by decide, by decide⟩), .inr ⟨⟨by omega, by omega⟩, hc.fit⟩, q⟩
theorem sc_is_square : FnScope ["n"] ["n"] (defScope s_is_square) := ⟨rfl, rfl, rfl, by decide +kernel, rfl, by decide +kernel, by decide +kernel⟩
theorem d_is_square (F : In K mg "is_square" s_is_square ["n"]) (T : Txt K mg C_RowError C_NoNumber C_ZERO) (D_least_square : Def P w K mg base CX0 1 "least_square" ["n"] sp_sqrt) : Def P w K mg base CX0 2 "is_square" ["n"] sp_issq := by
  refine F.ok0 sc_is_square (by walk_at "splen") (fun f cdv A outer s H vs Q E hr h => ?_)
  obtain ⟨n, rfl, h0, h1, q⟩ := h
  refine ⟨_, (pss_one (ps_ret (pe_cmpR op_eq (pe_op op_powB (pe_callD D_least_square hr rfl pass0 (pa_cons (pv 0) pa_nil)) pe_int) (pv 0) (nomark _)))), ?_⟩
  walk_at "wp"
  refine ⟨n, rfl, h0, h1, fun g g0 g1 g2 => ?_⟩
  have gn : g ≤ n ∨ g = 0 := by
    by_cases z : g = 0
    · exact .inr z
    · have := Int.mul_le_mul_of_nonneg_left (show 1 ≤ g by omega) g0
      exact .inl (by omega)
  refine ⟨g, rfl, ⟨by decide, by decide, by omega, by omega⟩, q _ ?_⟩
  rw [decide_eq_true_iff, show Int.toNat 2 = 2 from rfl, ← sq_iff g0 g1 g2]
  rw [Int.pow_succ, Int.pow_succ, Int.pow_zero, Int.one_mul]
theorem sc_divisor_of_all : FnScope ["a", "b", "c"] ["a", "b", "c"] (defScope s_divisor_of_all) := ⟨rfl, rfl, rfl, by decide +kernel, rfl, by decide +kernel, by decide +kernel⟩
theorem d_divisor_of_all (F : In K mg "divisor_of_all" s_divisor_of_all ["a", "b", "c"]) (T : Txt K mg C_RowError C_NoNumber C_ZERO) (D_common_divisor : Def P w K mg base CX0 1 "common_divisor" ["one", "other"] sp_gcd) : Def P w K mg base CX0 2 "divisor_of_all" ["a", "b", "c"] sp_g3 := by
  refine F.ok0 sc_divisor_of_all (by walk_at "splen") (fun f cdv A outer s H vs Q E hr h => ?_)
  obtain ⟨a, b, c, rfl, q⟩ := h
  refine ⟨_, (pss_one (ps_ret (pe_callD D_common_divisor hr rfl pass0 (pa_cons (pe_callD D_common_divisor hr rfl pass0 (pa_cons (pv 0) (pa_cons (pv 1) pa_nil))) (pa_cons (pv 2) pa_nil))))), ?_⟩
  walk_at "wp"
  exact ⟨_, _, rfl, _, _, rfl, q⟩
theorem sc_root_of : FnScope ["a", "b", "c", "side", "heart", "divisor"] ["a", "b", "c", "side"] (defScope s_root_of) := ⟨rfl, rfl, rfl, by decide +kernel, rfl, by decide +kernel, by decide +kernel⟩
theorem d_root_of (F : In K mg "root_of" s_root_of ["a", "b", "c", "side"]) (T : Txt K mg C_RowError C_NoNumber C_ZERO) (D_heart_of : Def P w K mg base CX0 1 "heart_of" ["a", "b", "c"] sp_heart) (D_divisor_of_all : Def P w K mg base CX0 2 "divisor_of_all" ["a", "b", "c"] sp_g3) (D_is_square : Def P w K mg base CX0 2 "is_square" ["n"] sp_issq) : Def P w K mg base (CXE P w) 3 "root_of" ["a", "b", "c", "side"] (sp_root_of C_NoNumber) := by
  refine F.okX sc_root_of (by walk_at "splen") (fun f cdv A outer s H vs Q E hr h => ?_)
  obtain ⟨a, b, c, s, rfl, ha, hb, hc, h0, h1⟩ := h
  refine ⟨_, (pss_cons (ps_if (pt_cmpR op_eq (pv 0) pe_int (nomark _)) (pss_one (ps_raise raises_cx rfl PySem.F.excBase_ValueError rfl T.m_NoNumber T.x_NoNumber (pa_cons pe_str pa_nil))) pss_nil)
    (pss_cons (ps_set (i := 4) sc_root_of.nd rfl (Or.inl rfl) (pe_callD D_heart_of hr rfl pass0 (pa_cons (pv 0) (pa_cons (pv 1) (pa_cons (pv 2) pa_nil)))))
    (pss_cons (ps_if (PW.pt (pw_or (pt_cmpR op_lt (pv 4) pe_int (nomark _)) (pw_or1 (pt_val (pe_callD D_is_square hr rfl pass0 (pa_cons (pv 4) pa_nil)))))) (pss_one (ps_raise raises_cx rfl PySem.F.excBase_ValueError rfl T.m_NoNumber T.x_NoNumber (pa_cons pe_str pa_nil))) pss_nil)
    (pss_cons (ps_set (i := 5) sc_root_of.nd rfl (Or.inl rfl) (pe_callD D_divisor_of_all hr rfl pass0 (pa_cons (pv 0) (pa_cons (pv 1) (pa_cons (pv 2) pa_nil)))))
    (pss_cons (ps_if (pt_cmpR op_lt (pv 0) pe_int (nomark _)) (pss_one (ps_set (i := 5) sc_root_of.nd rfl (Or.inl rfl) (pe_un un_neg (pv 5)))) pss_nil)
    (pss_one (ps_ret (pe_tupS (pa_cons (pe_op op_fdivM (pv 0) (pv 5)) (pa_cons (pe_op op_fdivM (pv 1) (pv 5)) (pa_cons (pe_op op_fdivM (pv 2) (pv 5)) (pa_cons (pv 3) pa_nil)))))))))))), ?_⟩
  walk_at "wp"
  have one : 1 ≤ sizeLine := by decide
  refine ite2 (fun z => ?_) (fun z => ?_)
  · exact ⟨one, h0 (.inl (by simpa using z))⟩
  have a0 : a ≠ 0 := by simpa using z
  refine ⟨_, _, _, rfl, ha, hb, hc, _, rfl, ?_⟩
  refine ite2 (fun z => ?_) (fun z => ?_)
  · exact ⟨one, h0 (.inr (.inl (by simpa using z)))⟩
  have hn : ¬ heart a b c < 0 := by simpa using z
  refine ⟨_, rfl, by omega, heart_small ha hb hc, fun u hu => ⟨u, rfl, ?_⟩⟩
  refine ite2 (fun z => ?_) (fun z => ?_)
  · exact ⟨one, h0 (.inr (.inr (hu.mp z)))⟩
  have q := h1 a0 (by omega) (fun y => z (hu.mpr y))
  have nb := by3_ne (b := b) (c := c) a0
  have fb : Fit (by3 a b c) := by
    have g1 := by3_abs a b c
    have g2 : g3 a b c ≤ (a.natAbs : Int) := by
      rw [g3_eq]
      have := Nat.le_trans (Nat.gcd_le_left c.natAbs (Nat.gcd_pos_of_pos_left b.natAbs (show 0 < a.natAbs by omega))) (Nat.gcd_le_left b.natAbs (show 0 < a.natAbs by omega))
      omega
    obtain ⟨x, y⟩ := ha
    constructor <;> omega
  have four : 4 ≤ sizeLine := by decide
  refine ⟨_, _, _, rfl, ?_⟩
  refine ite2 (fun z => ?_) (fun z => ?_)
  · have hn : a < 0 := by simpa using z
    have e : by3 a b c = -(g3 a b c) := if_pos hn
    rw [e] at fb nb q
    exact ⟨_, rfl, ⟨nb, fb⟩, ⟨nb, fb⟩, ⟨nb, fb⟩, four, q⟩
  · have hn : ¬ a < 0 := by simpa using z
    have e : by3 a b c = g3 a b c := if_neg hn
    rw [e] at fb nb q
    exact ⟨_, rfl, ⟨nb, fb⟩, _, rfl, ⟨nb, fb⟩, _, rfl, ⟨nb, fb⟩, four, q⟩
theorem sc_law_square : FnScope ["_law_n", "_law_low", "_law_high", "_law_half"] ["_law_n"] (defScope s_law_square) := ⟨rfl, rfl, rfl, by decide +kernel, rfl, by decide +kernel, by decide +kernel⟩
theorem d_law_square (F : In K mg "_law_square" s_law_square ["_law_n"]) (T : Txt K mg C_RowError C_NoNumber C_ZERO)  : Def P w K mg base CX0 1 "_law_square" ["_law_n"] sp_sqrt := by
  refine F.ok0 sc_law_square (by walk_at "splen") (fun f cdv A outer s H vs Q E hr h => ?_)
  obtain ⟨n, rfl, h0, h1, q⟩ := h
  refine ⟨_, (pss_cons (ps_set (i := 1) sc_law_square.nd rfl (Or.inl rfl) pe_int)
    (pss_cons (ps_set (i := 2) sc_law_square.nd rfl (Or.inl rfl) (pe_op op_add (pv 0) pe_int))
    (pss_cons (ps_while PassesOwn.never (pt_cmpR op_gt (pe_op op_sub (pv 2) (pv 1)) pe_int (nomark _)) (pss_cons (ps_set (i := 3) sc_law_square.nd rfl (Or.inl rfl) (pe_op op_fdivP (pe_op op_add (pv 1) (pv 2)) pe_int))
    (pss_one (ps_if (pt_cmpR op_le (pe_op op_mulB (pv 3) (pv 3)) (pv 0) (nomark _)) (pss_one (ps_set (i := 1) sc_law_square.nd rfl (Or.inl rfl) (pv 3))) (pss_one (ps_set (i := 2) sc_law_square.nd rfl (Or.inl rfl) (pv 3)))))))
    (pss_one (ps_ret (pv 1)))))), ?_⟩
  walk_at "wp"
  refine ⟨fun m σ H1 => ∃ (x y : Int) (r : Option V), σ = [some (.int n), some (.int x), some (.int y), r] ∧ H1 = H ∧ m = (y - x).toNat ∧ 0 ≤ x ∧ x < y ∧ y ≤ n + 1 ∧ x * x ≤ n ∧ n < y * y, ⟨_, 0, n + 1, _, rfl, rfl, rfl, by omega, by omega, by omega, by omega, ?_⟩, ?_⟩
  · have := Int.mul_nonneg h0 h0
    grind
  rintro m σ H1 ⟨x, y, r, rfl, rfl, rfl, hx, hxy, hy, h2, h3⟩
  walk_at "wp"
  refine ite2 (fun c => ?_) (fun c => ?_)
  · have hc : 1 < y - x := by simpa using c
    have f : Fit ((x + y) / 2) := ⟨by omega, by omega⟩
    refine ⟨_, fun _ _ h => h, ⟨by decide, by constructor <;> decide⟩, .inr f, ite2 (fun c => ?_) (fun c => ?_)⟩
    · have c1 : (x + y) / 2 * ((x + y) / 2) ≤ n := by simpa using c
      exact ⟨_, by omega, _, _, ⟨_, rfl⟩, rfl, rfl, by omega, by omega, by omega, c1, h3⟩
    · have c1 : ¬ (x + y) / 2 * ((x + y) / 2) ≤ n := by simpa using c
      exact ⟨_, by omega, _, _, ⟨_, rfl⟩, rfl, rfl, by omega, by omega, by omega, h2, by omega⟩
  · have hc : ¬ 1 < y - x := by simpa using c
    have ey : y = x + 1 := by omega
    subst ey
    exact q x hx h2 h3
theorem part_small {a b h g s n : Int} (ha : 0 < a) (hh : 0 ≤ h) (g0 : 0 ≤ g) (g1 : g * g ≤ h) (hn : n = ((if s = 0 then -g - 1 else g) - b) / (2 * a)) : n.natAbs ≤ h.natAbs + b.natAbs + 1 := by
  have gl := sqrt_le g0 g1
  have lo := Int.mul_ediv_self_le (x := (if s = 0 then -g - 1 else g) - b) (k := 2 * a) (by omega)
  have hi := Int.lt_mul_ediv_self_add (x := (if s = 0 then -g - 1 else g) - b) (k := 2 * a) (by omega)
  rw [← hn] at lo hi
  obtain ⟨w, hw⟩ : ∃ w, (if s = 0 then -g - 1 else g) = w := ⟨_, rfl⟩
  have hwb : -h - 1 ≤ w ∧ w ≤ h := by rw [← hw]; split <;> omega
  rw [hw] at lo hi
  rcases Int.lt_or_le n 0 with z | z
  · have := Int.mul_le_mul_of_nonneg_right (show (2 : Int) ≤ 2 * a by omega) (show 0 ≤ -n - 1 by omega)
    rw [show 2 * a * (-n - 1) = -(2 * a * n) - 2 * a by grind] at this
    omega
  · have := Int.mul_le_mul_of_nonneg_right (show (2 : Int) ≤ 2 * a by omega) z
    omega
theorem sc_part_of : FnScope ["number", "a", "b", "whole"] ["number"] (defScope s_part_of) := ⟨rfl, rfl, rfl, by decide +kernel, rfl, by decide +kernel, by decide +kernel⟩
theorem d_part_of (F : In K mg "part_of" s_part_of ["number"]) (T : Txt K mg C_RowError C_NoNumber C_ZERO) (D_least_square : Def P w K mg base CX0 1 "least_square" ["n"] sp_sqrt) (D_heart_of : Def P w K mg base CX0 1 "heart_of" ["a", "b", "c"] sp_heart) : Def P w K mg base CX0 2 "part_of" ["number"] (sp_part K) := by
  refine F.ok0 sc_part_of (by walk_at "splen") (fun f cdv A outer s H vs Q E hr h => ?_)
  obtain ⟨p, xs, A, t, D, L, rfl, hT, hN, hB, q⟩ := h
  refine ⟨_, (pss_cons (ps_if (pt_cmpR op_eq (pe_callB call_len_seq rfl T.n_len (by decide +kernel) (pa_cons (pv 0) pa_nil)) pe_int (nomark _)) (pss_one (ps_ret (pe_op op_fdivP (pe_ix ix_tup (pv 0) pe_int (fun _ _ => rfl)) (pe_ix ix_tup (pv 0) pe_int (fun _ _ => rfl))))) pss_nil)
    (pss_cons (ps_set (i := 1) sc_part_of.nd rfl (Or.inl rfl) (pe_ix ix_tup (pv 0) pe_int (fun _ _ => rfl)))
    (pss_cons (ps_set (i := 2) sc_part_of.nd rfl (Or.inl rfl) (pe_ix ix_tup (pv 0) pe_int (fun _ _ => rfl)))
    (pss_cons (ps_set (i := 3) sc_part_of.nd rfl (Or.inl rfl) (pe_callD D_least_square hr rfl pass0 (pa_cons (pe_callD D_heart_of hr rfl pass0 (pa_cons (pv 1) (pa_cons (pv 2) (pa_cons (pe_ix ix_tup (pv 0) pe_int (fun _ _ => rfl)) pa_nil)))) pa_nil)))
    (pss_cons (ps_if (pt_cmpR op_eq (pe_ix ix_tup (pv 0) pe_int (fun _ _ => rfl)) pe_int (nomark _)) (pss_one (ps_set (i := 3) sc_part_of.nd rfl (Or.inl rfl) (pe_op op_sub (pe_un un_neg (pv 3)) pe_int))) pss_nil)
    (pss_one (ps_ret (pe_op op_fdivP (pe_op op_sub (pv 3) (pv 2)) (pe_op op_mulB pe_int (pv 1)))))))))), ?_⟩
  walk_at "wp"
  cases hN with
  | frac hl hg =>
    refine ⟨_, .inr hT, iteT ?_⟩
    have bl := hB L (by simp)
    refine ⟨_, hT, _, rfl, _, hT, _, rfl, _, rfl, _, rfl, ⟨hl, bl.fit⟩, q _ (.frac ?_ ?_)⟩
    · rw [Int.mul_comm]; exact Int.mul_ediv_self_le (by omega)
    · have := Int.lt_mul_ediv_self_add (x := A) (k := L) hl
      rw [Int.add_mul, Int.mul_comm (A / L)]
      omega
  | @root a b c s r =>
    have ba := hB a (by simp)
    have bb := hB b (by simp)
    have bc := hB c (by simp)
    have pa := r.pos
    refine ⟨_, .inr hT, iteF ?_⟩
    refine ⟨_, hT, _, rfl, _, hT, _, rfl, _, hT, _, rfl, ?_⟩
    refine ⟨_, _, _, rfl, ba, bb, bc, _, rfl, by have := r.hp; omega, heart_small ba bb bc, fun g g0 g1 g2 => ?_⟩
    have fa : Fit (2 * a) := by
      have := ba.2
      constructor <;> omega
    refine ⟨_, hT, _, rfl, rfl, ?_⟩
    have hn := part_right r g0 g1 g2 rfl
    have hs := part_small (s := s) (b := b) pa (by have := r.hp; omega) g0 g1 rfl
    have c2 : CMul 2 a ∨ Fit 2 ∧ Fit a := .inl (.inl ⟨by decide, by decide⟩)
    refine ite2 (fun z => ?_) (fun z => ?_)
    · have s0 : s = 0 := by simpa using z
      rw [if_pos s0] at hn hs
      exact ⟨_, rfl, _, rfl, _, rfl, c2, ⟨by omega, fa⟩, q _ (.root hn.1 hn.2 hs)⟩
    · have s0 : ¬ s = 0 := by simpa using z
      rw [if_neg s0] at hn hs
      exact ⟨_, rfl, _, rfl, _, rfl, c2, ⟨by omega, fa⟩, q _ (.root hn.1 hn.2 hs)⟩
theorem sc_law_above : FnScope ["_law_root_here", "_law_upper", "_law_lower", "_law_a", "_law_b", "_law_c", "_law_side", "_law_found"] ["_law_root_here", "_law_upper", "_law_lower"] (defScope s_law_above) := ⟨rfl, rfl, rfl, by decide +kernel, rfl, by decide +kernel, by decide +kernel⟩
theorem d_law_above (F : In K mg "_law_above" s_law_above ["_law_root_here", "_law_upper", "_law_lower"]) (T : Txt K mg C_RowError C_NoNumber C_ZERO)  : Def P w K mg base CX0 1 "_law_above" ["_law_root_here", "_law_upper", "_law_lower"] (sp_above K) := by
  refine F.ok0 sc_law_above (by walk_at "splen") (fun f cdv A outer s H vs Q E hr h => ?_)
  obtain ⟨p, a, b, c, s0, u, l, rfl, hT, hu, hl, q⟩ := h
  refine ⟨_, (pss_cons (ps_asg (pv 0) (pg_tup (n := 4) rfl (pgs_cons (pg_name (i := 3) sc_law_above.nd rfl (Or.inl rfl)) (pgs_cons (pg_name (i := 4) sc_law_above.nd rfl (Or.inl rfl)) (pgs_cons (pg_name (i := 5) sc_law_above.nd rfl (Or.inl rfl)) (pgs_cons (pg_name (i := 6) sc_law_above.nd rfl (Or.inl rfl)) pgs_nil))))))
    (pss_cons (ps_set (i := 7) sc_law_above.nd rfl (Or.inl rfl) (pe_op op_add (pe_op op_add (pe_op op_mulB (pe_op op_mulB (pv 3) (pv 1)) (pv 1)) (pe_op op_mulB (pe_op op_mulB (pv 4) (pv 1)) (pv 2))) (pe_op op_mulB (pe_op op_mulB (pv 5) (pv 2)) (pv 2))))
    (pss_cons (ps_if (pt_cmpR op_gt (pe_op op_add (pe_op op_mulB (pe_op op_mulB pe_int (pv 3)) (pv 1)) (pe_op op_mulB (pv 4) (pv 2))) pe_int (nomark _)) (pss_one (ps_ret (pe_and (pe_cmpR op_eq (pv 6) pe_int (nomark _)) (pe_one (pe_cmpR op_lt (pv 7) pe_int (nomark _)))))) pss_nil)
    (pss_one (ps_ret (pe_or (pe_cmpR op_eq (pv 6) pe_int (nomark _)) (pe_one (pe_cmpR op_gt (pv 7) pe_int (nomark _))))))))), ?_⟩
  walk_at "wp"
  have cu : ∀ x : Int, CMul x u ∨ Fit x ∧ Fit u := fun x => .inl (.inr hu)
  have cl : ∀ x : Int, CMul x l ∨ Fit x ∧ Fit l := fun x => .inl (.inr hl)
  have c2 : CMul 2 a ∨ Fit 2 ∧ Fit a := .inl (.inl ⟨by decide, by decide⟩)
  refine ⟨_, hT, rfl, _, _, rfl, _, _, rfl, _, _, rfl, _, _, rfl, rfl, ?_⟩
  refine ⟨_, rfl, cu _, cu _, _, rfl, cu _, cl _, _, rfl, cl _, cl _, ?_⟩
  refine ⟨_, rfl, c2, cu _, _, rfl, cl _, ?_⟩
  unfold abv at q
  refine ite2 (fun z => ?_) (fun z => ?_)
  · rw [if_pos (of_decide_eq_true z)] at q
    refine ⟨rfl, ite2 (fun y => ?_) (fun y => ?_)⟩
    · have e : s0 = 1 := by simpa using y
      rw [decide_eq_true e, Bool.true_and] at q
      exact q
    · have e : ¬ s0 = 1 := by simpa using y
      rw [decide_eq_false e, Bool.false_and] at q
      exact q
  · rw [if_neg (fun y => z (decide_eq_true y))] at q
    refine ⟨rfl, ite2 (fun y => ?_) (fun y => ?_)⟩
    · have e : s0 = 1 := by simpa using y
      rw [decide_eq_true e, Bool.true_or] at q
      exact q
    · have e : ¬ s0 = 1 := by simpa using y
      rw [decide_eq_false e, Bool.false_or] at q
      exact q
theorem sc_law_root : FnScope ["_law_cell_here", "_law_other", "_law_wide", "_law_k", "_law_a", "_law_b", "_law_c", "_law_d", "_law_by"] ["_law_cell_here", "_law_other", "_law_wide"] (defScope s_law_root) := ⟨rfl, rfl, rfl, by decide +kernel, rfl, by decide +kernel, by decide +kernel⟩
theorem d_law_root (F : In K mg "_law_root" s_law_root ["_law_cell_here", "_law_other", "_law_wide"]) (T : Txt K mg C_RowError C_NoNumber C_ZERO) (D_law_mix : Def P w K mg base CX0 1 "_law_mix" ["_law_cell_here", "_law_prime", "_law_many"] sp_mix) (D_law_divisor : Def P w K mg base CX0 1 "_law_divisor" ["_law_one", "_law_other"] sp_gcd) (D_law_square : Def P w K mg base CX0 1 "_law_square" ["_law_n"] sp_sqrt) : Def P w K mg base CX0 2 "_law_root" ["_law_cell_here", "_law_other", "_law_wide"] sp_root := by
  refine F.ok0 sc_law_root (by walk_at "splen") (fun f cdv A outer s H vs Q E hr h => ?_)
  obtain ⟨c, o, m, rfl, hm, hb, q⟩ := h
  refine ⟨_, (pss_cons (ps_for PassesOwn.never rfl (pi_range1 rfl T.n_range (pa_cons pe_int pa_nil)) (pg_name (i := 3) sc_law_root.nd rfl (Or.inl rfl)) (pss_cons (ps_set (i := 4) sc_law_root.nd rfl (Or.inl rfl) (pe_op op_add pe_int (pe_callD D_law_mix hr rfl pass0 (pa_cons (pe_op op_add (pv 0) (pv 3)) (pa_cons pe_int (pa_cons (pv 2) pa_nil))))))
    (pss_cons (ps_set (i := 5) sc_law_root.nd rfl (Or.inl rfl) (pe_op op_sub (pe_callD D_law_mix hr rfl pass0 (pa_cons (pe_op op_add (pv 1) (pv 3)) (pa_cons pe_int (pa_cons (pe_op op_add (pe_op op_mulB pe_int (pv 2)) pe_int) pa_nil)))) (pv 2)))
    (pss_cons (ps_set (i := 6) sc_law_root.nd rfl (Or.inl rfl) (pe_op op_sub (pe_callD D_law_mix hr rfl pass0 (pa_cons (pe_op op_add (pe_op op_add (pv 0) (pv 1)) (pe_op op_mulB pe_int (pv 3))) (pa_cons pe_int (pa_cons (pe_op op_add (pe_op op_mulB pe_int (pv 2)) pe_int) pa_nil)))) (pv 2)))
    (pss_cons (ps_set (i := 7) sc_law_root.nd rfl (Or.inl rfl) (pe_op op_sub (pe_op op_mulB (pv 5) (pv 5)) (pe_op op_mulB (pe_op op_mulB pe_int (pv 4)) (pv 6))))
    (pss_one (ps_if (PW.pt (pw_and (pt_cmpR op_gt (pv 7) pe_int (nomark _)) (pw_and1 (pt_cmpR op_ne (pe_op op_mulB (pe_callD D_law_square hr rfl pass0 (pa_cons (pv 7) pa_nil)) (pe_callD D_law_square hr rfl pass0 (pa_cons (pv 7) pa_nil))) (pv 7) (nomark _))))) (pss_cons (ps_set (i := 8) sc_law_root.nd rfl (Or.inl rfl) (pe_callD D_law_divisor hr rfl pass0 (pa_cons (pe_callD D_law_divisor hr rfl pass0 (pa_cons (pv 4) (pa_cons (pv 5) pa_nil))) (pa_cons (pv 6) pa_nil))))
    (pss_one (ps_ret (pe_tupS (pa_cons (pe_op op_fdivP (pv 4) (pv 8)) (pa_cons (pe_op op_fdivP (pv 5) (pv 8)) (pa_cons (pe_op op_fdivP (pv 6) (pv 8)) (pa_cons (pe_op op_mod (pe_op op_add (pv 0) (pv 1)) pe_int) pa_nil)))))))) pss_nil)))))))
    (pss_one (ps_ret (pe_tupS (pa_cons pe_int (pa_cons pe_int (pa_cons (pe_un un_neg pe_int) (pa_cons (pe_op op_mod (pe_op op_add (pv 0) (pv 1)) pe_int) pa_nil)))))))), ?_⟩
  walk_at "wp"
  refine tFor_rd fun R hR => ?_
  walk_at "wp"
  refine ⟨by decide, by decide, hR _ _ ?_⟩
  clear hR
  have sd : (c + o) % 2 = 0 ∨ (c + o) % 2 = 1 := by omega
  have four : 4 ≤ sizeLine := by decide
  refine for_range (n := 8) (lo := 0) (fun i σ H1 => ∃ x1 x2 x3 x4 x5 x6, σ = [some (.int c), some (.int o), some (.int m), x1, x2, x3, x4, x5, x6] ∧ H1 = H) ⟨_, _, _, _, _, _, rfl, rfl⟩ (fun i σ H1 hi z => ?_) (fun σ H1 z => ?_)
  · obtain ⟨x1, x2, x3, x4, x5, x6, rfl, rfl⟩ := z
    walk_at "wp"
    refine ⟨_, _, _, rfl, by decide, by omega, fun ra ra0 ra1 => ⟨_, rfl, ?_⟩⟩
    refine ⟨.inl (.inl ⟨by decide, by decide⟩), _, _, _, rfl, by decide, by omega, fun rb rb0 rb1 => ⟨_, rfl, ?_⟩⟩
    refine ⟨.inl (.inl ⟨by decide, by decide⟩), .inl (.inl ⟨by decide, by decide⟩), _, _, _, rfl, by decide, by omega, fun rc rc0 rc1 => ⟨_, rfl, ?_⟩⟩
    obtain ⟨a, ha⟩ : ∃ a, 1 + ra = a := ⟨_, rfl⟩
    obtain ⟨b, hbb⟩ : ∃ b, rb - m = b := ⟨_, rfl⟩
    obtain ⟨cc, hc⟩ : ∃ cc, rc - m = cc := ⟨_, rfl⟩
    rw [ha, hbb, hc]
    have ba : Bd a := ⟨by omega, by omega⟩
    have bb : Bd b := ⟨by omega, by omega⟩
    have bc : Bd cc := ⟨by omega, by omega⟩
    have hs := heart_small ba bb bc
    refine ⟨.inr bb.fit, .inl (.inl ⟨by decide, by decide⟩), .inr ⟨⟨by omega, by omega⟩, bc.fit⟩, ?_⟩
    refine ite2 (fun z => ?_) (fun z => ⟨⟨_, rfl⟩, rfl⟩)
    have hpos : 0 < heart a b cc := of_decide_eq_true z
    refine ⟨heart a b cc, rfl, by omega, hs, fun g g0 g1 g2 => ⟨heart a b cc, rfl, by omega, hs, fun g' g0' g1' g2' => ⟨_, rfl, _, rfl, ?_, ?_⟩⟩⟩
    · have := sqrt_le g0 g1
      have := sqrt_le g0' g1'
      exact .inr ⟨⟨by omega, by omega⟩, ⟨by omega, by omega⟩⟩
    have e := sqrt_one g0 g1 g2 g0' g1' g2'
    subst e
    refine ite2 (fun z => ?_) (fun z => ⟨⟨_, rfl⟩, rfl⟩)
    have hne : ¬ g * g = heart a b cc := by simpa [heart] using z
    have hsq : ¬ IsSq (heart a b cc) := fun y => hne ((sq_iff g0 g1 g2).mpr y)
    have a0 : a ≠ 0 := by omega
    have rt := root_low a0 (show 0 ≤ heart a b cc by omega) hsq sd
    have gp := g3_pos (b := b) (c := cc) a0
    have e3 : by3 a b cc = g3 a b cc := if_neg (by omega)
    obtain ⟨A', B', C', ea, eb, ec, fa, fb', fc, hA', hg'⟩ := by3_split (b := b) (c := cc) a0
    rw [fa, fb', fc] at rt
    rw [e3] at ea eb ec fa fb' fc
    rw [Int.fdiv_eq_ediv_of_nonneg _ (by omega)] at fa fb' fc
    have sm : ∀ {x y : Int}, x = y * g3 a b cc → y.natAbs ≤ x.natAbs := fun {x y} e => by
      rw [e, Int.natAbs_mul]
      exact Nat.le_mul_of_pos_right _ (by omega)
    have bA := sm ea
    have bB := sm eb
    have bC := sm ec
    have fg : Fit (g3 a b cc) := by
      have h1 : g3 a b cc ≤ a := by
        have := Int.mul_le_mul_of_nonneg_right (show 1 ≤ A' by omega) (show 0 ≤ g3 a b cc by omega)
        omega
      constructor <;> omega
    refine ⟨_, _, rfl, _, _, rfl, _, rfl, ⟨gp, fg⟩, _, rfl, ⟨gp, fg⟩, _, rfl, ⟨gp, fg⟩, by decide, four, ?_⟩
    have key := q A' B' C' _ rt (by omega) (by omega) (by omega) (by omega) (by omega)
    rw [← fa, ← fb', ← fc] at key
    exact key
  · obtain ⟨x1, x2, x3, x4, x5, x6, rfl, rfl⟩ := z
    walk_at "wp"
    have r8 : Root 1 0 (-2) ((c + o) % 2) := ⟨by decide, sd, rfl, by decide, fun z => by
      have := (sq_iff (g := 2) (n := heart 1 0 (-2)) (by decide) (by decide) (by decide)).mpr z
      revert this
      decide⟩
    exact ⟨by decide, four, q _ _ _ _ r8 (by omega) (by omega) (by omega) (by omega) (by omega)⟩
theorem sc_sign_of : FnScope ["n"] ["n"] (defScope s_sign_of) := ⟨rfl, rfl, rfl, by decide +kernel, rfl, by decide +kernel, by decide +kernel⟩
theorem d_sign_of (F : In K mg "sign_of" s_sign_of ["n"]) (T : Txt K mg C_RowError C_NoNumber C_ZERO)  : Def P w K mg base CX0 1 "sign_of" ["n"] sp_sg := by
  refine F.ok0 sc_sign_of (by walk_at "splen") (fun f cdv A outer s H vs Q E hr h => ?_)
  obtain ⟨n, rfl, q⟩ := h
  refine ⟨_, (pss_cons (ps_if (pt_cmpR op_gt (pv 0) pe_int (nomark _)) (pss_one (ps_ret pe_int)) pss_nil)
    (pss_cons (ps_if (pt_cmpR op_lt (pv 0) pe_int (nomark _)) (pss_one (ps_ret (pe_un un_neg pe_int))) pss_nil)
    (pss_one (ps_ret pe_int)))), ?_⟩
  walk_at "wp"
  refine ite2 (fun z => ?_) (fun z => ite2 (fun y => ?_) (fun y => ?_))
  · have h1 : 0 < n := by simpa using z
    rw [sg_pos h1] at q
    exact q
  · have h1 : n < 0 := by simpa using y
    rw [sg_nega h1] at q
    exact q
  · have h1 : ¬ 0 < n := by simpa using z
    have h2 : ¬ n < 0 := by simpa using y
    have e : n = 0 := by omega
    subst e
    exact q
theorem sc_signed_square : FnScope ["n"] ["n"] (defScope s_signed_square) := ⟨rfl, rfl, rfl, by decide +kernel, rfl, by decide +kernel, by decide +kernel⟩
theorem d_signed_square (F : In K mg "signed_square" s_signed_square ["n"]) (T : Txt K mg C_RowError C_NoNumber C_ZERO)  : Def P w K mg base CX0 1 "signed_square" ["n"] sp_S := by
  refine F.ok0 sc_signed_square (by walk_at "splen") (fun f cdv A outer s H vs Q E hr h => ?_)
  obtain ⟨n, rfl, hf, q⟩ := h
  refine ⟨_, (pss_one (ps_ret (pe_op op_mulB (pv 0) (pe_callB call_abs rfl T.n_abs (by decide +kernel) (pa_cons (pv 0) pa_nil))))), ?_⟩
  walk_at "wp"
  refine ⟨.inr ⟨hf, ?_⟩, ?_⟩
  · obtain ⟨h1, h2⟩ := hf
    constructor <;> split <;> omega
  · rw [S_abs]
    exact q
theorem sc_spread_out : FnScope ["number", "heart", "times"] ["number"] (defScope s_spread_out) := ⟨rfl, rfl, rfl, by decide +kernel, rfl, by decide +kernel, by decide +kernel⟩
theorem d_spread_out (F : In K mg "spread_out" s_spread_out ["number"]) (T : Txt K mg C_RowError C_NoNumber C_ZERO) (D_heart_of : Def P w K mg base CX0 1 "heart_of" ["a", "b", "c"] sp_heart) : Def P w K mg base CX0 2 "spread_out" ["number"] (sp_spread K) := by
  refine F.ok0 sc_spread_out (by walk_at "splen") (fun f cdv A outer s H vs Q E hr h => ?_)
  obtain ⟨p, xs, A, t, D, L, rfl, hT, hN, hB, q⟩ := h
  refine ⟨_, (pss_cons (ps_if (pt_cmpR op_eq (pe_callB call_len_seq rfl T.n_len (by decide +kernel) (pa_cons (pv 0) pa_nil)) pe_int (nomark _)) (pss_one (ps_ret (pe_tupS (pa_cons (pe_ix ix_tup (pv 0) pe_int (fun _ _ => rfl)) (pa_cons pe_int (pa_cons pe_int (pa_cons (pe_ix ix_tup (pv 0) pe_int (fun _ _ => rfl)) pa_nil))))))) pss_nil)
    (pss_cons (ps_set (i := 1) sc_spread_out.nd rfl (Or.inl rfl) (pe_callD D_heart_of hr rfl pass0 (pa_cons (pe_ix ix_tup (pv 0) pe_int (fun _ _ => rfl)) (pa_cons (pe_ix ix_tup (pv 0) pe_int (fun _ _ => rfl)) (pa_cons (pe_ix ix_tup (pv 0) pe_int (fun _ _ => rfl)) pa_nil)))))
    (pss_cons (ps_set (i := 2) sc_spread_out.nd rfl (Or.inl rfl) (pe_ifExp (pt_cmpR op_eq (pe_ix ix_tup (pv 0) pe_int (fun _ _ => rfl)) pe_int (nomark _)) pe_int (pe_un un_neg pe_int)))
    (pss_one (ps_ret (pe_tupS (pa_cons (pe_un un_neg (pe_ix ix_tup (pv 0) pe_int (fun _ _ => rfl))) (pa_cons (pv 2) (pa_cons (pv 1) (pa_cons (pe_op op_mulB pe_int (pe_ix ix_tup (pv 0) pe_int (fun _ _ => rfl))) pa_nil)))))))))), ?_⟩
  walk_at "wp"
  cases hN with
  | frac hl hg =>
    exact ⟨_, .inr hT, iteT ⟨_, hT, _, rfl, _, hT, _, rfl, by decide, q⟩⟩
  | @root a b c s r =>
    have ba := hB a (by simp)
    have bb := hB b (by simp)
    have bc := hB c (by simp)
    refine ⟨_, .inr hT, iteF ?_⟩
    refine ⟨_, hT, _, rfl, _, hT, _, rfl, _, hT, _, rfl, ?_⟩
    refine ⟨_, _, _, rfl, ba, bb, bc, _, hT, _, rfl, rfl, ?_⟩
    have c2 : CMul 2 a ∨ Fit 2 ∧ Fit a := .inl (.inl ⟨by decide, by decide⟩)
    refine ite2 (fun z => ?_) (fun z => ?_)
    · have e : s = 1 := by simpa using z
      rw [if_pos e] at q
      exact ⟨_, hT, _, rfl, _, rfl, _, hT, _, rfl, _, rfl, c2, by decide, q⟩
    · have e : ¬ s = 1 := by simpa using z
      rw [if_neg e] at q
      exact ⟨_, hT, _, rfl, _, rfl, _, hT, _, rfl, _, rfl, c2, by decide, q⟩
theorem sc_sign_with_root : FnScope ["whole", "times", "heart"] ["whole", "times", "heart"] (defScope s_sign_with_root) := ⟨rfl, rfl, rfl, by decide +kernel, rfl, by decide +kernel, by decide +kernel⟩
theorem d_sign_with_root (F : In K mg "sign_with_root" s_sign_with_root ["whole", "times", "heart"]) (T : Txt K mg C_RowError C_NoNumber C_ZERO) (D_sign_of : Def P w K mg base CX0 1 "sign_of" ["n"] sp_sg) (D_signed_square : Def P w K mg base CX0 1 "signed_square" ["n"] sp_S) : Def P w K mg base CX0 2 "sign_with_root" ["whole", "times", "heart"] sp_swr := by
  refine F.ok0 sc_sign_with_root (by walk_at "splen") (fun f cdv A outer s H vs Q E hr h => ?_)
  obtain ⟨w, t, h, rfl, hw, ht, hS, hh, q⟩ := h
  refine ⟨_, (pss_one (ps_ret (pe_callD D_sign_of hr rfl pass0 (pa_cons (pe_op op_add (pe_callD D_signed_square hr rfl pass0 (pa_cons (pv 0) pa_nil)) (pe_op op_mulB (pe_callD D_signed_square hr rfl pass0 (pa_cons (pv 1) pa_nil)) (pv 2))) pa_nil)))), ?_⟩
  walk_at "wp"
  exact ⟨_, rfl, hw, _, rfl, ht, _, rfl, .inr ⟨hS, hh⟩, _, rfl, _, rfl, q⟩
theorem fit_of {x : Int} {m : Nat} (h : x.natAbs < 10 ^ m) (hm : m ≤ 199) : Fit x := by
  have : 10 ^ m ≤ 10 ^ 199 := Nat.pow_le_pow_right (by decide) hm
  constructor <;> omega
theorem bd_add {x y : Int} {m : Nat} (hx : x.natAbs < 10 ^ m) (hy : y.natAbs < 10 ^ m) : (x + y).natAbs < 10 ^ (m + 1) := by
  rw [Nat.pow_succ]
  omega
theorem bd_mono {x : Int} {m n : Nat} (hx : x.natAbs < 10 ^ m) (h : m ≤ n) : x.natAbs < 10 ^ n := Nat.lt_of_lt_of_le hx (Nat.pow_le_pow_right (by decide) h)
theorem bd_S {x : Int} {m : Nat} (hx : x.natAbs < 10 ^ m) : (S x).natAbs < 10 ^ (m + m) := by
  unfold S
  exact bd_mul hx (by rw [Int.natAbs_natCast]; exact hx)
theorem bd_sg (x : Int) : (sg x).natAbs < 10 ^ 1 := by
  rcases sg_cases x with h | h | h <;> rw [h.1] <;> decide
theorem sc_sign_with_two_roots : FnScope ["whole", "times", "heart", "other_times", "other_heart", "sign", "squares"] ["whole", "times", "heart", "other_times", "other_heart"] (defScope s_sign_with_two_roots) := ⟨rfl, rfl, rfl, by decide +kernel, rfl, by decide +kernel, by decide +kernel⟩
theorem d_sign_with_two_roots (F : In K mg "sign_with_two_roots" s_sign_with_two_roots ["whole", "times", "heart", "other_times", "other_heart"]) (T : Txt K mg C_RowError C_NoNumber C_ZERO) (D_sign_of : Def P w K mg base CX0 1 "sign_of" ["n"] sp_sg) (D_sign_with_root : Def P w K mg base CX0 2 "sign_with_root" ["whole", "times", "heart"] sp_swr) (D_signed_square : Def P w K mg base CX0 1 "signed_square" ["n"] sp_S) : Def P w K mg base CX0 3 "sign_with_two_roots" ["whole", "times", "heart", "other_times", "other_heart"] sp_swtr := by
  refine F.ok0 sc_sign_with_two_roots (by walk_at "splen") (fun f cdv A outer s H vs Q E hr h => ?_)
  obtain ⟨X, p, D, q, E, rfl, hX, hp, hD, hq, hE, k⟩ := h
  refine ⟨_, (pss_cons (ps_set (i := 5) sc_sign_with_two_roots.nd rfl (Or.inl rfl) (pe_callD D_sign_of hr rfl pass0 (pa_cons (pe_op op_add (pe_op op_mulB (pe_callD D_signed_square hr rfl pass0 (pa_cons (pv 1) pa_nil)) (pv 2)) (pe_op op_mulB (pe_callD D_signed_square hr rfl pass0 (pa_cons (pv 3) pa_nil)) (pv 4))) pa_nil)))
    (pss_cons (ps_set (i := 6) sc_sign_with_two_roots.nd rfl (Or.inl rfl) (pe_op op_add (pe_op op_mulB (pe_op op_mulB (pv 1) (pv 1)) (pv 2)) (pe_op op_mulB (pe_op op_mulB (pv 3) (pv 3)) (pv 4))))
    (pss_one (ps_ret (pe_callD D_sign_with_root hr rfl pass0 (pa_cons (pe_op op_add (pe_callD D_signed_square hr rfl pass0 (pa_cons (pv 0) pa_nil)) (pe_op op_mulB (pv 5) (pv 6))) (pa_cons (pe_op op_mulB (pe_op op_mulB (pe_op op_mulB (pv 5) pe_int) (pv 1)) (pv 3)) (pa_cons (pe_op op_mulB (pv 2) (pv 4)) pa_nil)))))))), ?_⟩
  walk_at "wp"
  have sp := bd_S hp
  have sq := bd_S hq
  have sX := bd_S hX
  have pp := bd_mul hp hp
  have qq := bd_mul hq hq
  have ppD := bd_mul pp hD
  have qqE := bd_mul qq hE
  have sqs := bd_add ppD qqE
  have fp : Fit p := fit_of hp (by decide)
  have fq : Fit q := fit_of hq (by decide)
  have fD : Fit D := fit_of hD (by decide)
  have fE : Fit E := fit_of hE (by decide)
  refine ⟨_, rfl, fp, _, rfl, .inr ⟨fit_of sp (by decide), fD⟩, _, rfl, fq, _, rfl, .inr ⟨fit_of sq (by decide), fE⟩, _, rfl, ?_⟩
  refine ⟨.inr fp, .inr ⟨fit_of pp (by decide), fD⟩, .inr fq, .inr ⟨fit_of qq (by decide), fE⟩, _, rfl, fit_of hX (by decide), ?_⟩
  have g1 := bd_sg (S p * D + S q * E)
  unfold cmp2 at k
  generalize sg (S p * D + S q * E) = g at *
  have w1 := bd_mul g1 sqs
  have w2 := bd_add (bd_mono sX (show 44 + 44 ≤ 1 + (22 + 22 + 44 + 1) by decide)) w1
  have v1 := bd_mul g1 (show (2 : Int).natAbs < 10 ^ 1 by decide)
  have v2 := bd_mul v1 hp
  have v3 := bd_mul v2 hq
  have v4 := bd_S v3
  have de := bd_mul hD hE
  refine ⟨_, rfl, .inr ⟨fit_of g1 (by decide), fit_of sqs (by decide)⟩, _, rfl, _, rfl, .inl (.inr ⟨by decide, by decide⟩), .inr ⟨fit_of v1 (by decide), fp⟩, .inr ⟨fit_of v2 (by decide), fq⟩, .inr ⟨fD, fE⟩, ?_⟩
  exact ⟨_, _, _, rfl, fit_of w2 (by decide), fit_of v3 (by decide), fit_of v4 (by decide), fit_of de (by decide), k⟩
theorem num_small {xs : List Int} {A t D L : Int} (h : NumR xs A t D L) (hB : ∀ x ∈ xs, x.natAbs < 10 ^ 21) : A.natAbs < 10 ^ 21 ∧ t.natAbs < 10 ^ 1 ∧ D.natAbs < 10 ^ 44 ∧ L.natAbs < 10 ^ 21 * 2 := by
  cases h with
  | frac hl hg =>
    have h1 := hB A (by simp)
    have h2 := hB L (by simp)
    exact ⟨h1, by decide, by decide, by omega⟩
  | @root a b c s r =>
    have h1 := hB a (by simp)
    have h2 := hB b (by simp)
    have h3 := hB c (by simp)
    refine ⟨by omega, by split <;> decide, ?_, by omega⟩
    have e1 := bd_mul h2 h2
    have e2 := bd_mul (bd_mul (show (4 : Int).natAbs < 10 ^ 1 by decide) h1) h3
    unfold heart
    omega
theorem num_t {xs : List Int} {A t D L : Int} (h : NumR xs A t D L) : t.natAbs ≤ 1 := by
  cases h with
  | frac hl hg => decide
  | root r => split <;> decide
theorem sc_compare : FnScope ["one", "other", "first", "second", "whole", "times", "other_times"] ["one", "other"] (defScope s_compare) := ⟨rfl, rfl, rfl, by decide +kernel, rfl, by decide +kernel, by decide +kernel⟩
theorem d_compare (F : In K mg "compare" s_compare ["one", "other"]) (T : Txt K mg C_RowError C_NoNumber C_ZERO) (D_spread_out : Def P w K mg base CX0 2 "spread_out" ["number"] (sp_spread K)) (D_sign_with_two_roots : Def P w K mg base CX0 3 "sign_with_two_roots" ["whole", "times", "heart", "other_times", "other_heart"] sp_swtr) : Def P w K mg base CX0 4 "compare" ["one", "other"] (sp_compare K) := by
  refine F.ok0 sc_compare (by walk_at "splen") (fun f cdv A outer s H vs Q E hr h => ?_)
  obtain ⟨p, q, xs, ys, A1, t1, D1, L1, A2, t2, D2, L2, rfl, hT1, hT2, hN1, hN2, hB1, hB2, k⟩ := h
  refine ⟨_, (pss_cons (ps_set (i := 2) sc_compare.nd rfl (Or.inl rfl) (pe_callD D_spread_out hr rfl pass0 (pa_cons (pv 0) pa_nil)))
    (pss_cons (ps_set (i := 3) sc_compare.nd rfl (Or.inl rfl) (pe_callD D_spread_out hr rfl pass0 (pa_cons (pv 1) pa_nil)))
    (pss_cons (ps_set (i := 4) sc_compare.nd rfl (Or.inl rfl) (pe_op op_sub (pe_op op_mulB (pe_ix ix_tup (pv 2) pe_int (fun _ _ => rfl)) (pe_ix ix_tup (pv 3) pe_int (fun _ _ => rfl))) (pe_op op_mulB (pe_ix ix_tup (pv 3) pe_int (fun _ _ => rfl)) (pe_ix ix_tup (pv 2) pe_int (fun _ _ => rfl)))))
    (pss_cons (ps_set (i := 5) sc_compare.nd rfl (Or.inl rfl) (pe_op op_mulB (pe_ix ix_tup (pv 2) pe_int (fun _ _ => rfl)) (pe_ix ix_tup (pv 3) pe_int (fun _ _ => rfl))))
    (pss_cons (ps_set (i := 6) sc_compare.nd rfl (Or.inl rfl) (pe_op op_mulB (pe_un un_neg (pe_ix ix_tup (pv 3) pe_int (fun _ _ => rfl))) (pe_ix ix_tup (pv 2) pe_int (fun _ _ => rfl))))
    (pss_one (ps_ret (pe_callD D_sign_with_two_roots hr rfl pass0 (pa_cons (pv 4) (pa_cons (pv 5) (pa_cons (pe_ix ix_tup (pv 2) pe_int (fun _ _ => rfl)) (pa_cons (pv 6) (pa_cons (pe_ix ix_tup (pv 3) pe_int (fun _ _ => rfl)) pa_nil))))))))))))), ?_⟩
  walk_at "wp"
  have bdd : ∀ {zs : List Int}, (∀ x ∈ zs, x.natAbs < 10 ^ 21) → ∀ x ∈ zs, Bd x := fun h x hx => by
    have := h x hx
    constructor <;> omega
  obtain ⟨a1, a2, a3, a4⟩ := num_small hN1 hB1
  obtain ⟨b1, b2, b3, b4⟩ := num_small hN2 hB2
  refine ⟨p, xs, A1, t1, D1, L1, rfl, hT1, hN1, bdd hB1, fun r1 H1 n1 s1 u1 => ?_⟩
  refine ⟨q, ys, A2, t2, D2, L2, rfl, s1.seqT hT2, hN2, bdd hB2, fun r2 H2 n2 s2 u2 => ?_⟩
  have T1 := SqT.of (K := K) (s2 _ _ u1)
  have T2 := SqT.of (K := K) u2
  have fA1 : Fit A1 := fit_of a1 (by decide)
  have fA2 : Fit A2 := fit_of b1 (by decide)
  have fL1 : Fit L1 := ⟨by omega, by omega⟩
  have fL2 : Fit L2 := ⟨by omega, by omega⟩
  have ft1 : Fit t1 := fit_of a2 (by decide)
  have ft2 : Fit (-t2) := fit_of (m := 1) (by rw [Int.natAbs_neg]; exact b2) (by decide)
  have lb1 : L1.natAbs < 10 ^ 22 := by omega
  have lb2 : L2.natAbs < 10 ^ 22 := by omega
  have w1 := bd_add (bd_mul a1 lb2) (show (-(A2 * L1)).natAbs < _ by rw [Int.natAbs_neg]; exact bd_mul b1 lb1)
  rw [← Int.sub_eq_add_neg] at w1
  have tl : ∀ {t L : Int}, t.natAbs ≤ 1 → L.natAbs < 10 ^ 22 → (t * L).natAbs < 10 ^ 22 := fun {t L} h1 h2 => by
    rw [Int.natAbs_mul]
    have := Nat.mul_le_mul_right L.natAbs h1
    omega
  have k1 : t1.natAbs ≤ 1 := num_t hN1
  have k2 : (-t2).natAbs ≤ 1 := by rw [Int.natAbs_neg]; exact num_t hN2
  refine ⟨_, rfl, _, T1, _, rfl, _, rfl, _, T2, _, rfl, _, rfl, _, rfl, .inr ⟨fA1, fL2⟩, ?_⟩
  refine ⟨_, rfl, _, T2, _, rfl, _, rfl, _, T1, _, rfl, _, rfl, _, rfl, .inr ⟨fA2, fL1⟩, ?_⟩
  refine ⟨_, rfl, _, T1, _, rfl, _, rfl, _, T2, _, rfl, _, rfl, _, rfl, .inr ⟨ft1, fL2⟩, ?_⟩
  refine ⟨_, rfl, _, T2, _, rfl, _, rfl, _, rfl, _, T1, _, rfl, _, rfl, .inr ⟨ft2, fL1⟩, _, rfl, _, T1, _, rfl, _, rfl, _, T2, _, rfl, ?_⟩
  exact ⟨_, _, _, _, _, rfl, w1, tl k1 lb2, a3, tl k2 lb1, b3, k _ (s1.trans s2)⟩
theorem sc_law_below : FnScope ["_law_number_here", "_law_upper", "_law_lower"] ["_law_number_here", "_law_upper", "_law_lower"] (defScope s_law_below) := ⟨rfl, rfl, rfl, by decide +kernel, rfl, by decide +kernel, by decide +kernel⟩
theorem d_law_below (F : In K mg "_law_below" s_law_below ["_law_number_here", "_law_upper", "_law_lower"]) (T : Txt K mg C_RowError C_NoNumber C_ZERO) (D_law_above : Def P w K mg base CX0 1 "_law_above" ["_law_root_here", "_law_upper", "_law_lower"] (sp_above K)) : Def P w K mg base CX0 2 "_law_below" ["_law_number_here", "_law_upper", "_law_lower"] (sp_below K) := by
  refine F.ok0 sc_law_below (by walk_at "splen") (fun f cdv A outer s H vs Q E hr h => ?_)
  obtain ⟨p, xs, A, t, D, L, u, l, rfl, hT, hN, hu, hl, l0, q⟩ := h
  refine ⟨_, (pss_cons (ps_if (pt_cmpR op_eq (pe_callB call_len_seq rfl T.n_len (by decide +kernel) (pa_cons (pv 0) pa_nil)) pe_int (nomark _)) (pss_one (ps_ret (pe_not (pe_callD D_law_above hr rfl pass0 (pa_cons (pv 0) (pa_cons (pv 1) (pa_cons (pv 2) pa_nil))))))) pss_nil)
    (pss_one (ps_ret (pe_cmpR op_lt (pe_op op_mulB (pe_ix ix_tup (pv 0) pe_int (fun _ _ => rfl)) (pv 2)) (pe_op op_mulB (pv 1) (pe_ix ix_tup (pv 0) pe_int (fun _ _ => rfl))) (nomark _))))), ?_⟩
  walk_at "wp"
  cases hN with
  | frac hL hg =>
    refine ⟨_, .inr hT, iteF ?_⟩
    have e : sA A 0 0 L u l = S (A * l - u * L) := by unfold sA; simp
    rw [e] at q
    refine ⟨_, hT, _, rfl, _, rfl, .inl (.inr hl), _, hT, _, rfl, _, rfl, .inl (.inl hu), q _ ?_ ?_⟩
    · intro z
      have z := of_decide_eq_true z
      rw [S_np (by omega)]
      have := Int.mul_self_nonneg_pos (show A * l - u * L ≠ 0 by omega)
      omega
    · intro z
      have z := of_decide_eq_false z
      rw [S_nn (by omega)]
      exact Int.mul_self_nonneg' _
  | @root a b c s r =>
    have h := abv_sA (u := u) r l0
    refine ⟨_, .inr hT, iteT ⟨p, a, b, c, s, u, l, rfl, hT, hu, hl, _, rfl, q _ ?_ ?_⟩⟩
    · intro z
      exact h.2 (by simpa using z)
    · intro z
      have := h.1 (by simpa using z)
      omega
theorem sc_law_number : FnScope ["_law_script", "_law_k", "_law_wide"] ["_law_script", "_law_k", "_law_wide"] (defScope s_law_number) := ⟨rfl, rfl, rfl, by decide +kernel, rfl, by decide +kernel, by decide +kernel⟩
theorem d_law_number (F : In K mg "_law_number" s_law_number ["_law_script", "_law_k", "_law_wide"]) (T : Txt K mg C_RowError C_NoNumber C_ZERO) (D_law_root : Def P w K mg base CX0 2 "_law_root" ["_law_cell_here", "_law_other", "_law_wide"] sp_root) (D_law_fraction : Def P w K mg base CX0 3 "_law_fraction" ["_law_cell_here", "_law_other", "_law_wide"] sp_fraction) (D_law_cell : Def P w K mg base CX0 1 "_law_cell" ["_law_script", "_law_k"] (sp_cell K)) : Def P w K mg base CX0 4 "_law_number" ["_law_script", "_law_k", "_law_wide"] (sp_number K) := by
  refine F.ok0 sc_law_number (by walk_at "splen") (fun f cdv A outer s H vs Q E hr h => ?_)
  obtain ⟨a, ns, k, m, rfl, hS, hk, hm, hb, q⟩ := h
  refine ⟨_, (pss_cons (ps_if (pt_cmpR op_eq (pe_op op_mod (pe_callD D_law_cell hr rfl pass0 (pa_cons (pv 0) (pa_cons (pv 1) pa_nil))) pe_int) pe_int (nomark _)) (pss_one (ps_ret (pe_callD D_law_fraction hr rfl pass0 (pa_cons (pe_op op_fdivP (pe_callD D_law_cell hr rfl pass0 (pa_cons (pv 0) (pa_cons (pv 1) pa_nil))) pe_int) (pa_cons (pe_callD D_law_cell hr rfl pass0 (pa_cons (pv 0) (pa_cons (pe_op op_add (pv 1) pe_int) pa_nil))) (pa_cons (pv 2) pa_nil)))))) pss_nil)
    (pss_one (ps_ret (pe_callD D_law_root hr rfl pass0 (pa_cons (pe_op op_fdivP (pe_callD D_law_cell hr rfl pass0 (pa_cons (pv 0) (pa_cons (pv 1) pa_nil))) pe_int) (pa_cons (pe_callD D_law_cell hr rfl pass0 (pa_cons (pv 0) (pa_cons (pe_op op_add (pv 1) pe_int) pa_nil))) (pa_cons (pv 2) pa_nil))))))), ?_⟩
  walk_at "wp"
  have f2 : (0 : Int) < 2 ∧ Fit 2 := ⟨by decide, by constructor <;> decide⟩
  refine ⟨a, ns, k, rfl, hS, hk, _, rfl, by decide, ite2 (fun _ => ?_) (fun _ => ?_)⟩
  · refine ⟨a, ns, k, rfl, hS, hk, _, rfl, f2, a, ns, k + 1, rfl, hS, by omega, ?_⟩
    refine ⟨_, _, _, rfl, by omega, hb, fun U L h1 h2 h3 h4 h5 => ?_⟩
    have := q [U, L] _ _ _ _ (.frac h1 h5) (fun x hx => by
      simp only [List.mem_cons, List.not_mem_nil, or_false] at hx
      rcases hx with rfl | rfl <;> omega)
    exact this
  · refine ⟨a, ns, k, rfl, hS, hk, _, rfl, f2, a, ns, k + 1, rfl, hS, by omega, ?_⟩
    refine ⟨_, _, _, rfl, hm, hb, fun A B C S' r h1 h2 h3 h4 h5 => ?_⟩
    have := q [A, B, C, S'] _ _ _ _ (.root r) (fun x hx => by
      have := r.pos
      have := r.side
      simp only [List.mem_cons, List.not_mem_nil, or_false] at hx
      rcases hx with rfl | rfl | rfl | rfl <;> omega)
    exact this
theorem sc_turned : FnScope ["root", "n", "a", "b", "side", "at_n"] ["root", "n"] (defScope s_turned) := ⟨rfl, rfl, rfl, by decide +kernel, rfl, by decide +kernel, by decide +kernel⟩
theorem d_turned (F : In K mg "turned" s_turned ["root", "n"]) (T : Txt K mg C_RowError C_NoNumber C_ZERO) (D_root_of : Def P w K mg base (CXE P w) 3 "root_of" ["a", "b", "c", "side"] (sp_root_of C_NoNumber)) : Def P w K mg base (CXE P w) 4 "turned" ["root", "n"] (sp_turned K) := by
  refine F.okX sc_turned (by walk_at "splen") (fun f cdv A outer s H vs Q E hr h => ?_)
  obtain ⟨p, a, b, c, s0, n, rfl, hT, r, hn, b1, b2, b3, q⟩ := h
  refine ⟨_, (pss_cons (ps_set (i := 2) sc_turned.nd rfl (Or.inl rfl) (pe_ix ix_tup (pv 0) pe_int (fun _ _ => rfl)))
    (pss_cons (ps_set (i := 3) sc_turned.nd rfl (Or.inl rfl) (pe_ix ix_tup (pv 0) pe_int (fun _ _ => rfl)))
    (pss_cons (ps_set (i := 4) sc_turned.nd rfl (Or.inl rfl) (pe_ix ix_tup (pv 0) pe_int (fun _ _ => rfl)))
    (pss_cons (ps_set (i := 5) sc_turned.nd rfl (Or.inl rfl) (pe_op op_add (pe_op op_add (pe_op op_mulB (pe_op op_mulB (pv 2) (pv 1)) (pv 1)) (pe_op op_mulB (pv 3) (pv 1))) (pe_ix ix_tup (pv 0) pe_int (fun _ _ => rfl))))
    (pss_cons (ps_if (pt_cmpR op_gt (pv 5) pe_int (nomark _)) (pss_one (ps_set (i := 4) sc_turned.nd rfl (Or.inl rfl) (pe_op op_sub pe_int (pv 4)))) pss_nil)
    (pss_one (ps_ret (pe_callD D_root_of hr rfl passes_cx (pa_cons (pv 5) (pa_cons (pe_op op_add (pe_op op_mulB (pe_op op_mulB pe_int (pv 2)) (pv 1)) (pv 3)) (pa_cons (pv 2) (pa_cons (pv 4) pa_nil)))))))))))), ?_⟩
  walk_at "wp"
  have cn : ∀ x : Int, (Bd n → Bd b → Fit x) → CMul x n ∨ Fit x ∧ Fit n := fun x fx => by
    rcases hn with hn | ⟨hn, hb⟩
    · exact .inl (.inr hn)
    · exact .inr ⟨fx hn hb, hn.fit⟩
  have cn1 := cn a (fun _ _ => b3.fit)
  have cn2 := cn (a * n) (fun z _ => fit_of (bd_mul b3.nat z.nat) (by decide))
  have cn3 := cn b (fun _ z => z.fit)
  have cn4 := cn (2 * a) (fun _ _ => fit_of (bd_mul (show (2 : Int).natAbs < 10 ^ 1 by decide) b3.nat) (by decide))
  have c2 : CMul 2 a ∨ Fit 2 ∧ Fit a := .inl (.inl ⟨by decide, by decide⟩)
  have tr := turned_ht (n := n) r
  refine ⟨_, hT, _, rfl, _, hT, _, rfl, _, hT, _, rfl, _, rfl, cn1, cn2, _, rfl, cn3, _, hT, _, rfl, _, rfl, ?_⟩
  have sd := r.side
  have hsq : ¬ IsSq (heart (a * n * n + b * n + c) (2 * a * n + b) a) := by rw [tr.2]; exact r.ns
  have hnn : 0 ≤ heart (a * n * n + b * n + c) (2 * a * n + b) a := by rw [tr.2]; have := r.hp; omega
  have fin : ∀ s' : Int, s' = (if 0 < a * n * n + b * n + c then 1 - s0 else s0) → sp_root_of C_NoNumber [.int (a * n * n + b * n + c), .int (2 * a * n + b), .int a, .int s'] H Q E := fun s' es => by
    have sd' : s' = 0 ∨ s' = 1 := by rw [es]; split <;> omega
    refine ⟨_, _, _, _, rfl, b1, b2, b3, fun z => ?_, fun _ _ _ => ?_⟩
    · exfalso
      rcases z with z | z | z
      · exact tr.1 z
      · omega
      · exact hsq z
    · have rt := root_low tr.1 hnn hsq sd'
      obtain ⟨A', B', C', ea, eb, ec, fa, fb', fc, hA', hg'⟩ := by3_split (b := 2 * a * n + b) (c := a) tr.1
      rw [fa, fb', fc] at rt ⊢
      subst es
      exact q A' B' C' ⟨rt, _, by3_ne tr.1, ea, eb, ec⟩
  refine ite2 (fun z => ?_) (fun z => ?_)
  · have hz : 0 < a * n * n + b * n + c := by simpa using z
    exact ⟨_, rfl, _, rfl, c2, cn4, _, rfl, fin _ (by rw [if_pos hz])⟩
  · have hz : ¬ 0 < a * n * n + b * n + c := by simpa using z
    exact ⟨_, rfl, c2, cn4, _, rfl, fin _ (by rw [if_neg hz])⟩
theorem frac_part {u l n M : Int} (hl : 0 < l) (h1 : n * l ≤ u) (h2 : u < (n + 1) * l) (b1 : -M ≤ u) (b2 : u ≤ M) : -M ≤ n + 1 ∧ n ≤ M := by
  rw [Int.add_mul, Int.one_mul] at h2
  constructor
  · rcases Int.lt_or_le n 0 with z | z
    · have := Int.mul_le_mul_of_nonneg_left (show 1 ≤ l by omega) (show 0 ≤ -n - 1 by omega)
      have e : (-n - 1) * l = -(n * l) - l := by grind
      omega
    · omega
  · rcases Int.lt_or_le 0 n with z | z
    · have := Int.mul_le_mul_of_nonneg_left (show 1 ≤ l by omega) (show 0 ≤ n by omega)
      omega
    · have : 0 ≤ M := by omega
      omega
noncomputable def kv (x : List Int) (k : Nat) : List (List Key × V) := (List.range k).map fun i => ((sq x i).map Sum.inl, V.int (i : Int))




theorem Sz.mono {D M M' : Int} {xs : List Int} (z : Sz D M xs) (h : M ≤ M') : Sz D M' xs := by
  unfold Sz at *
  split at z
  · obtain ⟨a, b, c⟩ := z
    exact ⟨by omega, by omega, by omega⟩
  · obtain ⟨a, b, c, d, e, f⟩ := z
    exact ⟨a, by omega, by omega, by omega, by omega, by omega⟩
  · exact z
theorem sc_led_to : FnScope ["number", "n", "rest"] ["number", "n"] (defScope s_led_to) := ⟨rfl, rfl, rfl, by decide +kernel, rfl, by decide +kernel, by decide +kernel⟩
theorem d_led_to (F : In K mg "led_to" s_led_to ["number", "n"]) (T : Txt K mg C_RowError C_NoNumber C_ZERO) (D_turned : Def P w K mg base (CXE P w) 4 "turned" ["root", "n"] (sp_turned K)) : Def P w K mg base (CXE P w) 5 "led_to" ["number", "n"] (sp_led K) := by
  refine F.okX sc_led_to (by walk_at "splen") (fun f cdv A outer s H vs Q E hr h => ?_)
  obtain ⟨p, xs, n, A, t, D, L, D0, M, rfl, hT, hN, hP, hZ, d0, hb, q0, q1⟩ := h
  refine ⟨_, (pss_cons (ps_if (pt_cmpR op_eq (pe_callB call_len_seq rfl T.n_len (by decide +kernel) (pa_cons (pv 0) pa_nil)) pe_int (nomark _)) (pss_one (ps_ret (pe_callD D_turned hr rfl passes_cx (pa_cons (pv 0) (pa_cons (pv 1) pa_nil))))) pss_nil)
    (pss_cons (ps_set (i := 2) sc_led_to.nd rfl (Or.inl rfl) (pe_op op_sub (pe_ix ix_tup (pv 0) pe_int (fun _ _ => rfl)) (pe_op op_mulB (pv 1) (pe_ix ix_tup (pv 0) pe_int (fun _ _ => rfl)))))
    (pss_one (ps_ret (pe_ifExp (pt_cmpR op_eq (pv 2) pe_int (nomark _)) pe_non (pe_tupS (pa_cons (pe_ix ix_tup (pv 0) pe_int (fun _ _ => rfl)) (pa_cons (pv 2) pa_nil)))))))), ?_⟩
  walk_at "wp"
  cases hN with
  | frac hl hg =>
    refine ⟨_, .inr hT, iteF ?_⟩
    obtain ⟨z1, z2, z3⟩ := hZ
    have hh : n * L ≤ A ∧ -M ≤ n + 1 ∧ n ≤ M := by
      rcases hP with hP | ⟨l, e⟩
      · cases hP with
        | frac h1 h2 => exact ⟨h1, frac_part hl h1 h2 z1 z2⟩
      · simp only [List.cons.injEq, and_true] at e
        obtain ⟨e1, e2⟩ := e
        subst e2
        have e3 : (n + 1) * L = n * L + L := by rw [Int.add_mul, Int.one_mul]
        have := frac_part (u := A) (l := L) (n := n + 1) (M := M) hl (by omega) (by rw [Int.add_mul]; omega) z1 z2
        have h0 : -M ≤ n + 1 := by
          rcases Int.lt_or_le (n + 1) 0 with y | y
          · have := Int.mul_le_mul_of_nonneg_left (show 1 ≤ L by omega) (show 0 ≤ -(n + 1) by omega)
            have e4 : -(n + 1) * L = -((n + 1) * L) := Int.neg_mul ..
            omega
          · omega
        exact ⟨by omega, h0, by omega⟩
    obtain ⟨h1, nb1, nb2⟩ := hh
    · have fn : Fit n := ⟨by omega, by omega⟩
      have fl : Fit L := ⟨by omega, by omega⟩
      refine ⟨_, hT, _, rfl, _, hT, _, rfl, _, rfl, .inr ⟨fn, fl⟩, _, rfl, ?_⟩
      refine ite2 (fun c => ?_) (fun c => ?_)
      · have e : A - n * L = 0 := by simpa using c
        exact q0 (by rw [cut_frac, show A * 1 - n * L = 0 by omega]; rfl)
      · have e : A - n * L ≠ 0 := by simpa using c
        refine ⟨_, hT, _, rfl, by decide, q1 _ (.frac (by omega)) ?_⟩
        rw [cut_frac]
        exact sg_pos (by omega)
  | @root a b c s r =>
    refine ⟨_, .inr hT, iteT ?_⟩
    have hP : PartOf [a, b, c, s] n := by
      rcases hP with h | ⟨l, e⟩
      · exact h
      · simp at e
    obtain ⟨o1, o2, o3, o4, o5⟩ := turn_ok r hP hZ
    obtain ⟨z1, z2, z3, z4, z5, z6⟩ := hZ
    have ha := r.pos
    have hp := r.hp
    have sp := strict_part ⟨a, b, c, s, rfl, r⟩ hP
    exact ⟨p, a, b, c, s, n, rfl, hT, r, .inr ⟨⟨by omega, by omega⟩, ⟨by omega, by omega⟩⟩, ⟨by omega, by omega⟩, ⟨by omega, by omega⟩, ⟨by omega, by omega⟩, fun P' B' A' ht => q1 _ (.root ht) sp.1⟩
theorem root_bd {x : List Int} {D0 M : Int} (hR : IsR x) (z : Sz D0 M x) (d0 : 0 ≤ D0) (h : D0 + 2 * M < 10 ^ 39) : ∀ y ∈ x, Bd y := by
  obtain ⟨a, b, c, s, rfl, r⟩ := hR
  obtain ⟨z1, z2, z3, z4, z5, z6⟩ := z
  have ha := r.pos
  have hs := r.side
  intro y hy
  simp only [List.mem_cons, List.not_mem_nil, or_false] at hy
  rcases hy with e | e | e | e <;> subst e <;> constructor <;> omega
theorem size_line : (10 : Nat) ^ 6 < sizeLine := by decide
theorem cut_init (ns : List Int) : cutV (ns.map V.int) none (some (-1)) = ns.dropLast.map V.int := by
  unfold cutV
  rw [HT.sIx_none, List.drop_zero, List.dropLast_eq_take, List.map_take, List.length_map]
  congr 1
  unfold HT.sIx
  simp only [show (-1 : Int) < 0 by decide, if_true]
  omega
theorem drop_last {ns : List Int} (h : ns ≠ []) : ns.drop (ns.length - 1) = [ns.getLast h] := by
  have hl := List.length_pos_iff.mpr h
  rw [List.drop_eq_getElem_cons (by omega), List.drop_of_length_le (by omega), List.getLast_eq_getElem]
theorem at_last {ns : List Int} (h : ns ≠ []) : atI (ns.map V.int) (-1) = some (.int (ns.getLast h)) := by
  have e : ns.map V.int = (ns.dropLast.map V.int) ++ [.int (ns.getLast h)] := by
    rw [← List.map_singleton, ← List.map_append, List.dropLast_concat_getLast]
  rw [e]
  exact atI_last _ _
theorem rev_part {ns : List Int} {i : Nat} {x : V} (hx : (ns.dropLast.map V.int).reverse[i]? = some x) : ∃ k : Nat, k + 1 + i = ns.length - 1 ∧ ∃ h : k < ns.length, x = .int (ns[k]'h) := by
  have hi : i < (ns.dropLast.map V.int).length := by
    have := (List.getElem?_eq_some_iff.mp hx).1
    rw [List.length_reverse] at this
    exact this
  rw [rev_at hi, List.length_map, List.length_dropLast, List.getElem?_map] at hx
  obtain ⟨y, hy, rfl⟩ := Option.map_eq_some_iff.mp hx
  rw [List.length_map, List.length_dropLast] at hi
  refine ⟨ns.length - 1 - 1 - i, by omega, by omega, ?_⟩
  rw [List.getElem?_dropLast, if_pos (by omega), List.getElem?_eq_getElem (by omega)] at hy
  rw [Option.some.inj hy]
theorem row_step {ns : List Int} {i k : Nat} (hk : k + 1 + i = ns.length - 1) (h : k < ns.length) : st (ns.drop (ns.length - 1 - (i + 1))) = (ns[k] * (st (ns.drop (ns.length - 1 - i))).1 + (st (ns.drop (ns.length - 1 - i))).2, (st (ns.drop (ns.length - 1 - i))).1) := by
  rw [show ns.length - 1 - (i + 1) = k by omega, show ns.length - 1 - i = k + 1 by omega, List.drop_eq_getElem_cons h]
  exact st_cons (by
    intro e
    have := congrArg List.length e
    rw [List.length_drop, List.length_nil] at this
    omega)
theorem sc_fraction_of : FnScope ["row", "upper", "lower", "part", "whole"] ["row"] (defScope s_fraction_of) := ⟨rfl, rfl, rfl, by decide +kernel, rfl, by decide +kernel, by decide +kernel⟩
theorem d_fraction_of (F : In K mg "fraction_of" s_fraction_of ["row"]) (T : Txt K mg C_RowError C_NoNumber C_ZERO)  : Def P w K mg base (CXE P w) 1 "fraction_of" ["row"] (sp_fraction_of K C_NoNumber) := by
  refine F.okX sc_fraction_of (by walk_at "splen") (fun f cdv A outer s H vs Q E hr h => ?_)
  obtain ⟨a, ns, rfl, hT, hz, qb, qg⟩ := h
  refine ⟨_, (pss_cons (ps_if (pt_cmpR op_eq (pe_callB call_len_seq rfl T.n_len (by decide +kernel) (pa_cons (pv 0) pa_nil)) pe_int (nomark _)) (pss_one (ps_raise raises_cx rfl PySem.F.excBase_ValueError rfl T.m_NoNumber T.x_NoNumber (pa_cons pe_str pa_nil))) pss_nil)
    (pss_cons (ps_if (pt_val (pe_callB (call_anyL rfl) rfl T.n_any (by decide +kernel) (pa_cons (pe_comp rfl (Clos.none (by decide +kernel)) (by decide +kernel) rfl (by decide +kernel) rfl (by decide +kernel) (pi_tup (pe_slice sl_tupS (pv 0) (po_some pe_int) po_none)) (fun _ _ _ _ => (pe_cmpR op_lt (pv 0) pe_int (nomark _)))) pa_nil))) (pss_one (ps_raise raises_cx rfl PySem.F.excBase_ValueError rfl T.m_NoNumber T.x_NoNumber (pa_cons pe_str pa_nil))) pss_nil)
    (pss_cons (ps_set (i := 1) sc_fraction_of.nd rfl (Or.inl rfl) (pe_ix ix_tup (pv 0) (pe_un un_neg pe_int) (fun _ _ => rfl)))
    (pss_cons (ps_set (i := 2) sc_fraction_of.nd rfl (Or.inl rfl) pe_int)
    (pss_cons (ps_for PassesOwn.leaving rfl (pi_revT rfl T.n_reversed (pa_cons (pe_slice sl_tupS (pv 0) po_none (po_some (pe_un un_neg pe_int))) pa_nil)) (pg_name (i := 3) sc_fraction_of.nd rfl (Or.inl rfl)) (pss_cons (ps_set (i := 4) sc_fraction_of.nd rfl (Or.inl rfl) (pe_op op_add (pe_op op_mulB (pv 3) (pv 1)) (pv 2)))
    (pss_cons (ps_set (i := 2) sc_fraction_of.nd rfl (Or.inl rfl) (pv 1))
    (pss_one (ps_set (i := 1) sc_fraction_of.nd rfl (Or.inl rfl) (pv 4))))))
    (pss_one (ps_ret (pe_tupS (pa_cons (pv 1) (pa_cons (pv 2) pa_nil)))))))))), ?_⟩
  walk_at "wp"
  refine ⟨_, .inr hT, ?_⟩
  rw [List.length_map]
  refine ite2 (fun c => ?_) (fun c => ?_)
  · have e : ns = [] := by
      have : (ns.length : Int) = 0 := by simpa using c
      exact List.length_eq_zero_iff.mp (by omega)
    exact ⟨(by show 1 ≤ sizeLine; decide), qb (.inl e) H (Same.refl H)⟩
  have hne : ns ≠ [] := fun e => by
    subst e
    exact c rfl
  have hpos : 0 < ns.length := List.length_pos_iff.mpr hne
  refine ⟨_, hT, ?_, fun d H1 n1 s1 t1 => ?_⟩
  · rw [List.length_map]
    rintro ⟨z, _⟩
    have := HT.sIx_nat ns.length 0 1
    rw [show ((1 : Nat) : Int) = 1 from rfl] at this
    rw [this] at z
    omega
  have ec : cutV (ns.map V.int) (some 1) none = (ns.drop 1).map V.int := by
    unfold cutV
    have := HT.sIx_nat (ns.map V.int).length 0 1
    rw [show ((1 : Nat) : Int) = 1 from rfl] at this
    rw [this, List.length_map, HT.sIx_none, show min 1 ns.length = 1 by omega, ← List.map_drop]
    exact List.take_of_length_le (by rw [List.length_map, List.length_drop]; omega)
  rw [ec] at t1
  refine ⟨_, rfl, ⟨_, SqT.of t1⟩, comp_mapT (fun v => .bl (match v with | .int i => decide (i < 1) | _ => false)) (SqT.of t1) (by rw [List.length_map, List.length_drop]; omega) ?_ ?_⟩
  · intro y hy H2 R s2 hR
    obtain ⟨i, _, rfl⟩ := List.mem_map.mp hy
    walk_at "wp"
    exact hR H2 (Same.refl _)
  intro d2 H2 n2 s2 t2
  refine ⟨d2, rfl, (ns.drop 1).map (fun i => decide (i < 1)), ?_, ?_⟩
  · rw [List.map_map] at t2
    rw [List.map_map]
    exact SqL.of t2
  refine ite2 (fun c => ?_) (fun c => ?_)
  · rw [List.any_map, List.any_eq_true] at c
    obtain ⟨x, hx, hx1⟩ := c
    exact ⟨(by show 1 ≤ sizeLine; decide), qb (.inr ⟨x, hx, by simpa using hx1⟩) _ (s1.trans s2)⟩
  have good : ¬ BadRow ns := by
    rintro (e | ⟨x, hx, hx1⟩)
    · exact hne e
    · refine c ?_
      rw [List.any_map, List.any_eq_true]
      exact ⟨x, hx, by simpa using hx1⟩
  obtain ⟨⟨f1, f2⟩, q⟩ := qg good
  have s12 := s1.trans s2
  have hT2 := s12.seqT hT
  refine ⟨_, hT2, _, at_last hne, ?_⟩
  refine tFor_rd fun R hR => ?_
  walk_at "wp"
  refine ⟨_, hT2, ?_, fun d3 H3 n3 s3 t3 => ?_⟩
  · rw [List.length_map]
    rintro ⟨_, z⟩
    unfold HT.sIx at z
    simp only [show (-1 : Int) < 0 by decide, if_true] at z
    omega
  rw [cut_init] at t3
  refine ⟨_, rfl, _, SqT.of t3, hR _ _ ?_⟩
  clear hR
  have sH3 := s12.trans s3
  refine for_revT (fun i σ H4 => ∃ (x y : Option V), σ = [some (.ref a), some (.int (st (ns.drop (ns.length - 1 - i))).1), some (.int (st (ns.drop (ns.length - 1 - i))).2), x, y] ∧ H4 = H3) ⟨none, none, ?_, rfl⟩ (fun i σ H4 hi z => ?_) (fun i x σ H4 hx z => ?_) (fun σ H4 z => ?_)
  · rw [Nat.sub_zero, drop_last hne] <;> rfl
  · obtain ⟨_, _, _, rfl⟩ := z
    exact SqT.of t3
  · obtain ⟨x0, y0, rfl, rfl⟩ := z
    obtain ⟨k, hk, hkl, rfl⟩ := rev_part hx
    walk_at "wp"
    refine ⟨.inr ⟨f1 _ (List.getElem_mem hkl), f2 _ (by omega)⟩, ?_⟩
    rw [row_step hk hkl]
    exact ⟨rfl, rfl, _, rfl⟩
  · obtain ⟨x0, y0, rfl, rfl⟩ := z
    rw [List.length_map, List.length_dropLast, Nat.sub_self, List.drop_zero]
    walk_at "wp"
    exact ⟨by decide, fun p H5 n5 s5 t5 => q _ _ (sH3.trans s5) (SqT.of t5)⟩
theorem num_bd {xs : List Int} {A t D L D0 M : Int} (h : NumR xs A t D L) (z : Sz D0 M xs) (d0 : 0 ≤ D0) (hb : D0 + 2 * M < 10 ^ 39) : ∀ x ∈ xs, Bd x := by
  cases h with
  | frac hl hg =>
    obtain ⟨z1, z2, z3⟩ := z
    intro x hx
    simp only [List.mem_cons, List.not_mem_nil, or_false] at hx
    rcases hx with rfl | rfl <;> constructor <;> omega
  | root r => exact root_bd ⟨_, _, _, _, rfl, r⟩ z d0 hb
theorem num_part {xs : List Int} {A t D L D0 M n : Int} (h : NumR xs A t D L) (z : Sz D0 M xs) (d0 : 0 ≤ D0) (m0 : 0 ≤ M) (hn : PartOf xs n) : n.natAbs ≤ (2 * (D0 + M) + 1).toNat := by
  cases h with
  | frac hl hg =>
    cases hn with
    | frac h1 h2 =>
      obtain ⟨z1, z2, z3⟩ := z
      have := frac_part hl h1 h2 z1 z2
      omega
  | root r =>
    have := (turn_ok r hn z).2.2.2.2
    omega
theorem sc_law_over : FnScope ["_law_number_here", "_law_upper", "_law_lower"] ["_law_number_here", "_law_upper", "_law_lower"] (defScope s_law_over) := ⟨rfl, rfl, rfl, by decide +kernel, rfl, by decide +kernel, by decide +kernel⟩
theorem d_law_over (F : In K mg "_law_over" s_law_over ["_law_number_here", "_law_upper", "_law_lower"]) (T : Txt K mg C_RowError C_NoNumber C_ZERO) (D_law_above : Def P w K mg base CX0 1 "_law_above" ["_law_root_here", "_law_upper", "_law_lower"] (sp_above K)) : Def P w K mg base CX0 2 "_law_over" ["_law_number_here", "_law_upper", "_law_lower"] (sp_over K) := by
  refine F.ok0 sc_law_over (by walk_at "splen") (fun f cdv A outer s H vs Q E hr h => ?_)
  obtain ⟨p, xs, A, t, D, L, u, l, rfl, hT, hN, hu, hl, l0, q⟩ := h
  refine ⟨_, (pss_cons (ps_if (pt_cmpR op_eq (pe_callB call_len_seq rfl T.n_len (by decide +kernel) (pa_cons (pv 0) pa_nil)) pe_int (nomark _)) (pss_one (ps_ret (pe_callD D_law_above hr rfl pass0 (pa_cons (pv 0) (pa_cons (pv 1) (pa_cons (pv 2) pa_nil)))))) pss_nil)
    (pss_one (ps_ret (pe_cmpR op_gt (pe_op op_mulB (pe_ix ix_tup (pv 0) pe_int (fun _ _ => rfl)) (pv 2)) (pe_op op_mulB (pv 1) (pe_ix ix_tup (pv 0) pe_int (fun _ _ => rfl))) (nomark _))))), ?_⟩
  walk_at "wp"
  cases hN with
  | frac hL hg =>
    refine ⟨_, .inr hT, iteF ?_⟩
    refine ⟨_, hT, _, rfl, _, rfl, .inl (.inr hl), _, hT, _, rfl, _, rfl, .inl (.inl hu), ?_⟩
    have e : decide (cut [A, L] u l = 1) = decide (u * L < A * l) := by
      rw [decide_eq_decide, cut_frac]
      rcases sg_cases (A * l - u * L) with z | z | z <;> constructor <;> intro y <;> omega
    rw [e] at q
    exact q
  | @root a b c s r =>
    refine ⟨_, .inr hT, iteT ⟨p, a, b, c, s, u, l, rfl, hT, hu, hl, ?_⟩⟩
    have e : decide (cut [a, b, c, s] u l = 1) = abv a b c s u l := by
      rw [cut_root]
      cases abv a b c s u l <;> rfl
    rw [e] at q
    exact q
theorem sc_mirrored : FnScope ["number"] ["number"] (defScope s_mirrored) := ⟨rfl, rfl, rfl, by decide +kernel, rfl, by decide +kernel, by decide +kernel⟩
theorem d_mirrored (F : In K mg "mirrored" s_mirrored ["number"]) (T : Txt K mg C_RowError C_NoNumber C_ZERO)  : Def P w K mg base CX0 1 "mirrored" ["number"] (sp_mirror K) := by
  refine F.ok0 sc_mirrored (by walk_at "splen") (fun f cdv A outer s H vs Q E hr h => ?_)
  obtain ⟨p, xs, A', t, D, L, rfl, hT, hN, q⟩ := h
  refine ⟨_, (pss_cons (ps_if (pt_cmpR op_eq (pe_callB call_len_seq rfl T.n_len (by decide +kernel) (pa_cons (pv 0) pa_nil)) pe_int (nomark _)) (pss_one (ps_ret (pe_tupS (pa_cons (pe_un un_neg (pe_ix ix_tup (pv 0) pe_int (fun _ _ => rfl))) (pa_cons (pe_ix ix_tup (pv 0) pe_int (fun _ _ => rfl)) pa_nil))))) pss_nil)
    (pss_one (ps_ret (pe_tupS (pa_cons (pe_ix ix_tup (pv 0) pe_int (fun _ _ => rfl)) (pa_cons (pe_un un_neg (pe_ix ix_tup (pv 0) pe_int (fun _ _ => rfl))) (pa_cons (pe_ix ix_tup (pv 0) pe_int (fun _ _ => rfl)) (pa_cons (pe_op op_sub pe_int (pe_ix ix_tup (pv 0) pe_int (fun _ _ => rfl))) pa_nil)))))))), ?_⟩
  walk_at "wp"
  cases hN with
  | frac hl hg =>
    exact ⟨_, .inr hT, iteT ⟨_, hT, _, rfl, _, rfl, _, hT, _, rfl, by decide, q⟩⟩
  | @root a b c s r =>
    refine ⟨_, .inr hT, iteF ?_⟩
    exact ⟨_, hT, _, rfl, _, hT, _, rfl, _, rfl, _, hT, _, rfl, _, hT, _, rfl, _, rfl, by decide, q⟩
theorem simp_fit {a : Int} {r : List Int} {B : Int} (hu : Ups r) (hn : ∀ m ∈ a :: r, 0 ≤ m) (h1 : (st (a :: r)).1 ≤ B) (h2 : (st (a :: r)).2 ≤ B) (hB : B < 10 ^ 100) : RowFit (a :: r) := by
  have way : ∀ k, k < (a :: r).length → 0 ≤ (st ((a :: r).drop k)).1 ∧ (st ((a :: r).drop k)).1 ≤ B := fun k hk => st_way hu (hn a (List.mem_cons_self ..)) h1 h2 hk
  refine ⟨fun y hy => ?_, fun k hk => ?_⟩
  · obtain ⟨k, hk, e⟩ := List.mem_iff_getElem.mp hy
    have w := way k hk
    have y0 := hn y hy
    rw [List.drop_eq_getElem_cons hk, e] at w
    have yb : y ≤ B := by
      by_cases z : (a :: r).drop (k + 1) = []
      · rw [z] at w
        exact w.2
      · rw [st_cons z] at w
        have ud : Ups ((a :: r).drop (k + 1)) := fun x hx => hu x (by rw [List.drop_succ_cons] at hx; exact List.mem_of_mem_drop hx)
        have sp := st_pos z ud
        have := Int.mul_le_mul_of_nonneg_left sp.1 y0
        have w2 : y * (st ((a :: r).drop (k + 1))).1 + (st ((a :: r).drop (k + 1))).2 ≤ B := w.2
        omega
    constructor <;> omega
  · have w := way k hk
    constructor <;> omega
theorem run_big : ∀ {r : List Int} {u l : Int}, Ups r → 1 ≤ u → 0 ≤ l → ((2 ^ (r.length / 2) : Nat) : Int) ≤ (run r (u, l)).1 ∧ 0 ≤ (run r (u, l)).2
  | [], u, l, _, h1, h2 => ⟨h1, h2⟩
  | [a], u, l, hu, h1, h2 => by
    have ha := hu a (List.mem_cons_self ..)
    have := Int.mul_le_mul_of_nonneg_right ha (show 0 ≤ u by omega)
    refine ⟨?_, by show 0 ≤ u; omega⟩
    have e : (run [a] (u, l)).1 = a * u + l := rfl
    rw [e, show [a].length / 2 = 0 by simp, Nat.pow_zero]
    omega
  | a :: b :: r, u, l, hu, h1, h2 => by
    have ih := run_big (r := r) (u := u) (l := l) (fun x hx => hu x (List.mem_cons_of_mem _ (List.mem_cons_of_mem _ hx))) h1 h2
    have ha := hu a (List.mem_cons_self ..)
    have hb := hu b (List.mem_cons_of_mem _ (List.mem_cons_self ..))
    have e : (a :: b :: r).length / 2 = r.length / 2 + 1 := by rw [List.length_cons, List.length_cons]; omega
    have p0 : (0 : Int) < ((2 ^ (r.length / 2) : Nat) : Int) := by have := Nat.two_pow_pos (r.length / 2); omega
    rw [e, Nat.pow_succ]
    have m1 := Int.mul_le_mul_of_nonneg_right hb (show 0 ≤ (run r (u, l)).1 by omega)
    have m2 := Int.mul_le_mul_of_nonneg_right ha (show 0 ≤ b * (run r (u, l)).1 + (run r (u, l)).2 by omega)
    refine ⟨?_, ?_⟩
    · show _ ≤ a * (b * (run r (u, l)).1 + (run r (u, l)).2) + (run r (u, l)).1
      omega
    · show 0 ≤ b * (run r (u, l)).1 + (run r (u, l)).2
      omega
theorem row_short {x0 ns xs : List Int} {y0 yo : Option (List Int)} {u0 l0 U W : Int} (I : SInv x0 y0 ns xs yo u0 l0 U W) (hW : W < 10 ^ 16) : ns.length ≤ 110 := by
  cases ns with
  | nil => simp
  | cons a r =>
    have u1 := above_part I.nx I.lpos I.low I.wit.1
    have b := run_big (r := r) (u := u0) (l := l0) I.ups (by omega) (by have := I.lpos; omega)
    have w := I.wrun
    have e : (run r (u0, l0)).1 = W := congrArg Prod.snd w
    rcases Nat.lt_or_ge (r.length / 2) 54 with z | z
    · rw [List.length_cons]; omega
    · have h := Nat.pow_le_pow_right (show 0 < 2 by decide) z
      have h2 : (10 : Nat) ^ 16 < 2 ^ 54 := by decide
      omega
theorem sc_simplest_above : FnScope ["low", "high", "parts", "part", "next_high"] ["low", "high"] (defScope s_simplest_above) := ⟨rfl, rfl, rfl, by decide +kernel, rfl, by decide +kernel, by decide +kernel⟩
theorem d_simplest_above (F : In K mg "simplest_above" s_simplest_above ["low", "high"]) (T : Txt K mg C_RowError C_NoNumber C_ZERO) (D_part_of : Def P w K mg base CX0 2 "part_of" ["number"] (sp_part K)) (D_fraction_of : Def P w K mg base (CXE P w) 1 "fraction_of" ["row"] (sp_fraction_of K C_NoNumber)) (D_led_to : Def P w K mg base (CXE P w) 5 "led_to" ["number", "n"] (sp_led K)) (D_compare : Def P w K mg base CX0 4 "compare" ["one", "other"] (sp_compare K)) : Def P w K mg base (CXE P w) 6 "simplest_above" ["low", "high"] (sp_simp K) := by
  refine F.okX sc_simplest_above (by walk_at "splen") (fun f cdv A outer s H vs Q E hr h => ?_)
  obtain ⟨p, r, xs, ys, A', t, D, L, A2, t2, D2, L2, D0, M, U, W, rfl, hp, hr', hN, hN2, hZ, hZ2, d0, d1, m0, m1, h0, wit, w0, w1, u1, q⟩ := h
  refine ⟨_, (pss_cons (ps_set (i := 2) sc_simplest_above.nd rfl (Or.inl rfl) (pe_lstS pa_nil))
    (pss_cons (ps_set (i := 3) sc_simplest_above.nd rfl (Or.inl rfl) (pe_callD D_part_of hr rfl pass0 (pa_cons (pv 0) pa_nil)))
    (pss_cons (ps_while PassesOwn.leaving (PW.pt (pw_and (pt_cmpR op_notN (pv 1) pe_non (nomark _)) (pw_and1 (pt_cmpR op_ge (pe_callD D_compare hr rfl pass0 (pa_cons (pe_tupS (pa_cons (pe_op op_add (pv 3) pe_int) (pa_cons pe_int pa_nil))) (pa_cons (pv 1) pa_nil))) pe_int (nomark _))))) (pss_cons (ps_expr (pe_bm PySem.F.plainAttrs_list PySem.F.slot_list_append PySem.F.type_list_append mt_appendS (pv 2) (pa_cons (pv 3) pa_nil)))
    (pss_cons (ps_set (i := 4) sc_simplest_above.nd rfl (Or.inl rfl) (pe_callD D_led_to hr rfl passes_cx (pa_cons (pv 0) (pa_cons (pv 3) pa_nil))))
    (pss_cons (ps_set (i := 0) sc_simplest_above.nd rfl (Or.inl rfl) (pe_callD D_led_to hr rfl passes_cx (pa_cons (pv 1) (pa_cons (pv 3) pa_nil))))
    (pss_cons (ps_set (i := 1) sc_simplest_above.nd rfl (Or.inl rfl) (pv 4))
    (pss_one (ps_set (i := 3) sc_simplest_above.nd rfl (Or.inl rfl) (pe_callD D_part_of hr rfl pass0 (pa_cons (pv 0) pa_nil)))))))))
    (pss_cons (ps_expr (pe_bm PySem.F.plainAttrs_list PySem.F.slot_list_append PySem.F.type_list_append mt_appendS (pv 2) (pa_cons (pe_op op_add (pv 3) pe_int) pa_nil)))
    (pss_one (ps_ret (pe_callD D_fraction_of hr rfl passes_cx (pa_cons (pe_callTy call_tupleS rfl T.n_tuple (by decide +kernel) (pa_cons (pv 2) pa_nil)) pa_nil)))))))), ?_⟩
  walk_at "wp"
  have num21 : ∀ {zs : List Int} {a t d l k : Int}, NumR zs a t d l → Sz D0 (M + k * D0) zs → 0 ≤ k → k < 10 ^ 16 → ∀ x ∈ zs, x.natAbs < 10 ^ 21 := fun {zs a t d l k} hn hz k0 k1 x hx => by
    have kd : k * D0 ≤ 10 ^ 16 * 5000 := Int.mul_le_mul (by omega) d1 d0 (by decide)
    have kd0 : 0 ≤ k * D0 := Int.mul_nonneg k0 d0
    cases hn with
    | frac hl hg =>
      obtain ⟨z1, z2, z3⟩ := hz
      simp only [List.mem_cons, List.not_mem_nil, or_false] at hx
      rcases hx with rfl | rfl <;> omega
    | root r =>
      obtain ⟨z1, z2, z3, z4, z5, z6⟩ := hz
      have := r.pos
      have := r.side
      simp only [List.mem_cons, List.not_mem_nil, or_false] at hx
      rcases hx with rfl | rfl | rfl | rfl <;> omega
  have bd21 : ∀ {zs : List Int}, (∀ x ∈ zs, x.natAbs < 10 ^ 21) → ∀ x ∈ zs, Bd x := fun h x hx => by
    have := h x hx
    constructor <;> omega
  refine ⟨Nat.zero_le _, fun d H1 n1 s1 t1 => ⟨p, xs, A', t, D, L, rfl, s1.seqT hp, hN, bd21 (num21 (k := 0) hN (by rw [Int.zero_mul, Int.add_zero]; exact hZ) (by decide) (by decide)), fun n0 hn0 => ?_⟩⟩
  have I0 := SInv.start ⟨A', t, D, L, hN⟩ (fun y e => by cases e; exact ⟨A2, t2, D2, L2, hN2⟩) h0 wit w0
  refine ⟨fun m σ H2 => ∃ (ns : List Int) (lo : Addr) (zs : List Int) (yo : Option (List Int)) (v : V) (n u0 l0 : Int) (x4 : Option V), σ = [some (.ref lo), some v, some (.ref d), some (.int n), x4] ∧ Same H H2 ∧ H2 d = some (.lst (ns.map V.int)) ∧ SqT K H2 lo (zs.map V.int) ∧ ((v = .non ∧ yo = none) ∨ ∃ (b : Addr) (hs : List Int), v = .ref b ∧ yo = some hs ∧ SqT K H2 b (hs.map V.int) ∧ Sz D0 (M + (W - l0) * D0) hs) ∧ SInv xs (some ys) ns zs yo u0 l0 U W ∧ PartOf zs n ∧ Sz D0 (M + (W - l0) * D0) zs ∧ l0 ≤ W ∧ m = l0.toNat,
    ⟨_, [], p, xs, some ys, .ref r, n0, U, W, none, rfl, s1, t1, s1.seqT hp, .inr ⟨r, ys, rfl, rfl, s1.seqT hr', by rw [Int.sub_self, Int.zero_mul, Int.add_zero]; exact hZ2⟩, I0, hn0, by rw [Int.sub_self, Int.zero_mul, Int.add_zero]; exact hZ, Int.le_refl _, rfl⟩, ?_⟩
  rintro m σ H2 ⟨ns, lo, zs, yo, v, n, u0, l0, x4, rfl, s2, td, tz, hv, I, hn, sz, lW, rfl⟩
  walk_at "wp"
  have short := row_short I w1
  have szl := size_line
  have lp := I.lpos
  obtain ⟨A3, t3', D3, L3, nz⟩ := id I.nx
  have cu := hn.cuts nz
  have n0' : 0 ≤ n := part_nn I.nx I.low cu.2
  have kd : (W - l0) * D0 ≤ 10 ^ 16 * 5000 := Int.mul_le_mul (by omega) d1 d0 (by decide)
  have kd0 : 0 ≤ (W - l0) * D0 := Int.mul_nonneg (by omega) d0
  have fin : ∀ (H1 : Hp), Same H2 H1 → (∀ hs, yo = some hs → cut hs (n + 1) 1 = 1) → (tyV K "list" (V.ref d) H1 ∧ ∃ x, H1 d = some (HO.lst x) ∧ x.length < sizeLine ∧ ∀ (H' : Hp), SameX d H1 H' → H' d = some (HO.lst (x ++ [V.int (n + 1)])) → ∃ x, (SqL K H' d x ∨ SqT K H' d x) ∧ ∀ (l : Addr) (H'_1 : Hp), Same H' H'_1 → SqT K H'_1 l x → sp_fraction_of K C_NoNumber [V.ref l] H'_1 Q E) := fun H1 s1' hb => by
    have td1 := s1' _ _ td
    obtain ⟨bt, ps, ls, ups, nn⟩ := I.stop cu.1 cu.2 hb
    refine ⟨.inl ⟨rfl, _, SqL.of td1⟩, _, td1, by rw [List.length_map]; omega, fun H3 sx t3 => ⟨_, .inl (SqL.of t3), fun w H4 s4 t4 => ?_⟩⟩
    have e : ns.map V.int ++ [V.int (n + 1)] = (ns ++ [n + 1]).map V.int := by rw [List.map_append]; rfl
    rw [e] at t4
    have wl := ls U W w0 wit
    obtain ⟨a, r', ar⟩ : ∃ a r', ns ++ [n + 1] = a :: r' := by
      cases ns with
      | nil => exact ⟨_, _, rfl⟩
      | cons a r' => exact ⟨_, _, rfl⟩
    have lenn : (ns ++ [n + 1]).length < sizeLine := by rw [List.length_append, List.length_singleton]; omega
    have g := (st_low (a := a) (r := r') (by rw [ar] at ups; exact ups)).2
    have ff : RowFit (ns ++ [n + 1]) := by
      rw [ar] at ups nn wl ⊢
      exact simp_fit (B := 10 ^ 30) ups nn (by omega) (by omega) (by decide)
    have sF : Same H H4 := (s2.trans s1').thenX n1 sx |>.trans s4
    refine ⟨w, ns ++ [n + 1], rfl, t4, lenn, fun bad => ?_, fun _ => ⟨ff, fun o H5 s5 t5 => q _ _ ⟨bt, ps, ls, by rw [ar]; exact g, ?_⟩ o H5 (sF.trans s5) t5⟩⟩
    · exfalso
      rcases bad with e | ⟨x, hx, hx1⟩
      · rw [ar] at e; cases e
      · have := ups x hx
        omega
    · have := above_part ⟨A', t, D, L, hN⟩ ps h0 bt.1
      omega
  rcases hv with ⟨rfl, e⟩ | ⟨b, hs, rfl, e, tb, szh⟩
  · exact iteF (fin H2 (Same.refl _) (fun hs eh => by rw [e] at eh; cases eh))
  subst e
  obtain ⟨A4, t4', D4, L4, nh⟩ := I.ny hs rfl
  have nb := num_part nz sz d0 (by omega) hn
  refine iteT ⟨by decide, fun w1' H3 n3 s3 t3 => ⟨w1', b, [n + 1, 1], hs, n + 1, 0, 0, 1, A4, t4', D4, L4, rfl, SqT.of t3, s3.seqT tb, .frac (by decide) (by simp), nh, ?_, num21 nh szh (by omega) (by omega), fun H4 s4 => ⟨_, rfl, ?_⟩⟩⟩
  · intro x hx
    simp only [List.mem_cons, List.not_mem_nil, or_false] at hx
    rcases hx with rfl | rfl
    · omega
    · decide
  rw [cmpN_frac nh (by decide)]
  have s34 := s3.trans s4
  refine ite2 (fun z => ?_) (fun z => ?_)
  · have z : 0 ≤ -(cut hs (n + 1) 1) := by simpa using z
    have hb : cut hs (n + 1) 1 ≤ 0 := by omega
    have td4 := s34 _ _ td
    refine ⟨_, fun _ _ h => h, .inl ⟨rfl, _, SqL.of td4⟩, _, td4, by rw [List.length_map]; omega, fun H5 sx t5 => ?_⟩
    have t5' : H5 d = some (.lst ((ns ++ [n]).map V.int)) := by rw [t5, List.map_append]; rfl
    have s5 : Same H H5 := (s2.trans s34).thenX n1 sx
    have tz5 := sx.seqT td4 (s34.seqT tz)
    have tb5 := sx.seqT td4 (s34.seqT tb)
    -- the high one
    have a0 := above_part I.nx lp cu.1 I.wit.1
    have yn : cut hs n 1 = 1 := by
      have b1 := cut_le nh (show (0 : Int) < 1 by decide) lp (u := n) (u' := u0) (by omega)
      have := I.wit.2 hs rfl
      rcases cut_01 hs n 1 with z | z | z <;> omega
    have pup : PartUp hs n := by
      cases nh with
      | frac hl hg =>
        rw [cut_frac] at yn hb
        have y1 : 0 < A4 * 1 - n * L4 := by rcases sg_cases (A4 * 1 - n * L4) with w | w | w <;> omega
        have y2 : A4 * 1 - (n + 1) * L4 ≤ 0 := by rcases sg_cases (A4 * 1 - (n + 1) * L4) with w | w | w <;> omega
        by_cases y3 : A4 = (n + 1) * L4
        · exact .inr ⟨L4, by rw [← y3]⟩
        · exact .inl (.frac (by omega) (by omega))
      | @root ra rb rc rs r0 =>
        have ir : IsR [ra, rb, rc, rs] := ⟨_, _, _, _, rfl, r0⟩
        have hb' : cut [ra, rb, rc, rs] (n + 1) 1 = -1 := by
          have := no_root (a := ra) (b := rb) (c := rc) (s := rs) (most := 1) (n + 1) 1 (by decide) (by decide)
          rcases cut_01 [ra, rb, rc, rs] (n + 1) 1 with w | w | w <;> omega
        have := pt_by ir yn hb'
        rw [← this]
        exact .inl (pt_ok r0)
    have dstep : u0 - n * l0 < l0 := by
      have := below_part ⟨A4, t4', D4, L4, nh⟩ lp hb (I.wit.2 hs rfl)
      rw [Int.add_mul, Int.one_mul] at this
      omega
    have growS : ∀ {zz : List Int}, Sz D0 (M + (W - l0) * D0 + D0) zz → Sz D0 (M + (W - (u0 - n * l0)) * D0) zz := fun h => Sz.mono h (by
      have := Int.mul_le_mul_of_nonneg_right (show W - l0 + 1 ≤ W - (u0 - n * l0) by omega) d0
      rw [Int.add_mul, Int.one_mul] at this
      omega)
    -- behind both
    have last : ∀ (v : V) (yo' : Option (List Int)) (H6 : Hp), Same H5 H6 → LedO zs n yo' → ((v = .non ∧ yo' = none) ∨ ∃ (b : Addr) (hs : List Int), v = .ref b ∧ yo' = some hs ∧ SqT K H6 b (hs.map V.int) ∧ Sz D0 (M + (W - (u0 - n * l0)) * D0) hs) → sp_led K [V.ref b, V.int n] H6 (fun x_1 H1 => sp_part K [x_1] H1 (fun x_2 H1 => ∃ m', m' < l0.toNat ∧ ∃ ns lo zs yo v_1 n, (∃ x, [some x_1, some v, some (V.ref d), some x_2, some v] = [some (V.ref lo), some v_1, some (V.ref d), some (V.int n), x]) ∧ Same H H1 ∧ H1 d = some (HO.lst (List.map V.int ns)) ∧ SqT K H1 lo (List.map V.int zs) ∧ ∃ x x_1, (v_1 = V.non ∧ yo = none ∨ ∃ b, v_1 = V.ref b ∧ ∃ x, yo = some x ∧ SqT K H1 b (List.map V.int x) ∧ Sz D0 (M + (W - x_1) * D0) x) ∧ SInv xs (some ys) ns zs yo x x_1 U W ∧ PartOf zs n ∧ Sz D0 (M + (W - x_1) * D0) zs ∧ x_1 ≤ W ∧ m' = x_1.toNat) E0) E := fun v yo' H6 s6 ldo hv' => by
      refine ⟨b, hs, n, A4, t4', D4, L4, D0, M + (W - l0) * D0, rfl, s6.seqT tb5, nh, pup, szh, d0, by omega, fun z0 => by omega, fun lo' hl' _ w7 H7 n7 s7 t7 => ?_⟩
      obtain ⟨I', _⟩ := I.next cu.1 cu.2 hb hl' ldo
      have lp' := I'.lpos
      obtain ⟨A5, t5'', D5, L5, n5⟩ := hl'.num nh
      have sz7 : Sz D0 (M + (W - (u0 - n * l0)) * D0) lo' := by
        rcases pup with hp' | ⟨l, e⟩
        · exact growS (hl'.size nh hp' szh d0)
        · subst e
          cases hl' with
          | frac pz =>
            obtain ⟨z1, z2, z3⟩ := szh
            have e9 : (n + 1) * l - n * l = l := by rw [Int.add_mul, Int.one_mul]; omega
            rw [e9]
            refine growS ⟨?_, ?_, ?_⟩ <;> (cases nh; omega)
      have k2 : (W - (u0 - n * l0)) * D0 ≤ 10 ^ 16 * 5000 := Int.mul_le_mul (by omega) d1 d0 (by decide)
      refine ⟨w7, lo', A5, t5'', D5, L5, rfl, SqT.of t7, n5, bd21 (num21 n5 sz7 (by omega) (by omega)), fun n2 hn2 => ?_⟩
      refine ⟨_, ?_, ns ++ [n], w7, lo', yo', v, n2, ⟨_, rfl⟩, s5.trans (s6.trans s7), s7 _ _ (s6 _ _ t5'), SqT.of t7, l0, u0 - n * l0, ?_, I', hn2, sz7, by omega, rfl⟩
      · omega
      · rcases hv' with h | ⟨b', hs', e1, e2, e3, e4⟩
        · exact .inl h
        · exact .inr ⟨b', e1, hs', e2, s7.seqT e3, e4⟩
    refine ⟨lo, zs, n, A3, t3', D3, L3, D0, M + (W - l0) * D0, rfl, tz5, nz, .inl hn, sz, d0, by omega, fun z0 => ?_, fun hi' hl' hc w6 H6 n6 s6 t6 => ?_⟩
    · exact last .non none H5 (Same.refl _) z0 (.inl ⟨rfl, rfl⟩)
    · exact last (.ref w6) (some hi') H6 s6 ⟨hc, hl'⟩ (.inr ⟨w6, hi', rfl, rfl, SqT.of t6, growS (hl'.size nz hn sz d0)⟩)
  · have z : ¬ 0 ≤ -(cut hs (n + 1) 1) := by simpa using z
    refine fin H4 s34 (fun hs' e => ?_)
    cases e
    rcases cut_01 hs (n + 1) 1 with w | w | w <;> omega
theorem mir_num {xs : List Int} {A t D L : Int} (h : NumR xs A t D L) : NumR (mir xs) (-A) (-t) D L := by
  cases h with
  | frac hl hg => exact .frac hl (by rw [Int.neg_gcd]; exact hg)
  | @root a b c s r =>
    have hh : heart a (-b) c = heart a b c := by unfold heart; grind
    have r' : Root a (-b) c (1 - s) := ⟨r.pos, by have := r.side; omega, by have := r.low; rw [g3_eq] at this ⊢; rw [Int.natAbs_neg]; exact this, by rw [hh]; exact r.hp, by rw [hh]; exact r.ns⟩
    have e : NumR [a, -b, c, 1 - s] (-(-b)) (if 1 - s = 1 then 1 else -1) (heart a (-b) c) (2 * a) := .root r'
    rw [hh] at e
    have es : (if 1 - s = 1 then (1 : Int) else -1) = -(if s = 1 then 1 else -1) := by
      rcases r.side with z | z <;> subst z <;> decide
    rw [es] at e
    exact e
theorem cut_mir {xs : List Int} {A t D L u l : Int} (h : NumR xs A t D L) (hl : 0 < l) : cut (mir xs) u l = -(cut xs (-u) l) := by
  rw [cut_sA h hl, cut_sA (mir_num h) hl, ← sg_neg]
  congr 1
  unfold sA
  rw [show -A * l - u * L = -(A * l - -u * L) by grind, show -t * l = -(t * l) by grind, S_neg, S_neg]
  grind
theorem mir_b {xs : List Int} {A t D L : Int} (h : NumR xs A t D L) (hb : ∀ x ∈ xs, -30 ≤ x ∧ x ≤ 30) : Sz 5000 30 (mir xs) ∧ Sz 5000 30 xs := by
  cases h with
  | frac hl hg =>
    have h1 := hb A (by simp)
    have h2 := hb L (by simp)
    exact ⟨⟨by omega, by omega, by omega⟩, ⟨by omega, by omega, by omega⟩⟩
  | @root a b c s r =>
    have h1 := hb a (by simp)
    have h2 := hb b (by simp)
    have h3 := hb c (by simp)
    have e1 : (b * b).natAbs ≤ 30 * 30 := by rw [Int.natAbs_mul]; exact Nat.mul_le_mul (by omega) (by omega)
    have e2 : (4 * a * c).natAbs ≤ 120 * 30 := by rw [Int.natAbs_mul]; exact Nat.mul_le_mul (by omega) (by omega)
    have hh : heart a (-b) c = heart a b c := by unfold heart; grind
    have hk : heart a b c ≤ 5000 := by unfold heart; omega
    exact ⟨⟨by rw [hh]; exact hk, by omega, by omega, by omega, by omega, by omega⟩, ⟨hk, by omega, by omega, by omega, by omega, by omega⟩⟩
theorem num_30 {xs : List Int} {A t D L : Int} (h : NumR xs A t D L) (hb : ∀ x ∈ xs, -30 ≤ x ∧ x ≤ 30) : A.natAbs ≤ 30 ∧ t.natAbs ≤ 1 ∧ D.natAbs ≤ 4500 ∧ L.natAbs ≤ 60 := by
  cases h with
  | frac hl hg =>
    have h1 := hb A (by simp)
    have h2 := hb L (by simp)
    exact ⟨by omega, by decide, by decide, by omega⟩
  | @root a b c s r =>
    have h1 := hb a (by simp)
    have h2 := hb b (by simp)
    have h3 := hb c (by simp)
    have e1 : (b * b).natAbs ≤ 30 * 30 := by rw [Int.natAbs_mul]; exact Nat.mul_le_mul (by omega) (by omega)
    have e2 : (4 * a * c).natAbs ≤ 120 * 30 := by rw [Int.natAbs_mul]; exact Nat.mul_le_mul (by omega) (by omega)
    exact ⟨by omega, by split <;> decide, by unfold heart; omega, by omega⟩
theorem dense_30 {xs ys : List Int} {A t D L A2 t2 D2 L2 : Int} (h : NumR xs A t D L) (h2 : NumR ys A2 t2 D2 L2) (hb : ∀ x ∈ xs, -30 ≤ x ∧ x ≤ 30) (hb2 : ∀ x ∈ ys, -30 ≤ x ∧ x ≤ 30) (hc : cmpN A t D L A2 t2 D2 L2 = -1) :
    ∃ U W, Btw xs (some ys) U W ∧ 0 < W ∧ W < 10 ^ 16 ∧ U.natAbs < 10 ^ 30 := by
  obtain ⟨a1, a2, a3, a4⟩ := num_30 h hb
  obtain ⟨b1, b2, b3, b4⟩ := num_30 h2 hb2
  have mm : ∀ {x y : Int} {m n : Nat}, x.natAbs ≤ m → y.natAbs ≤ n → (x * y).natAbs ≤ m * n := fun hx hy => by rw [Int.natAbs_mul]; exact Nat.mul_le_mul hx hy
  have x1 := mm a1 b4
  have x2 := mm b1 a4
  have hX : (A * L2 - A2 * L).natAbs ≤ 3600 := by omega
  have sS : ∀ {x : Int} {m : Nat}, x.natAbs ≤ m → (S x).natAbs ≤ m * m := fun {x m} hx => by unfold S; exact mm hx (by rw [Int.natAbs_natCast]; exact hx)
  have sX := sS hX
  have p1 := mm (sS (mm a2 b4)) a3
  have p2 := mm (sS (mm (show (-t2).natAbs ≤ 1 by omega) a4)) b3
  obtain ⟨u, l, el, l0, c1, c2⟩ := dense (w := 50000000) (T := 3602) h h2 hc (by
    have g := bd_sg (S (t * L2) * D + S (-t2 * L) * D2)
    generalize S (t * L2) * D = P at *
    generalize S (-t2 * L) * D2 = Q at *
    have g1 : (sg (P + Q)).natAbs ≤ 1 := by rcases sg_cases (P + Q) with z | z | z <;> rw [z.1] <;> decide
    have g2 := mm g1 (show ((P.natAbs : Int) + (Q.natAbs : Int)).natAbs ≤ 32400000 by omega)
    omega) (by omega)
  have lb : l < 10 ^ 16 := by
    have e1 : L * L2 ≤ 60 * 60 := Int.mul_le_mul (by omega) (by omega) (by have := h2.L_pos; omega) (by decide)
    have e2 := Int.mul_le_mul_of_nonneg_right e1 (show (0 : Int) ≤ 8 * 3602 * (50000000 + 4 * 3602) + 1 by decide)
    omega
  refine ⟨u, l, ⟨c1, fun zs e => by cases e; exact c2⟩, l0, lb, ?_⟩
  obtain ⟨m1, m2⟩ := mir_b h2 hb2
  obtain ⟨m3, m4⟩ := mir_b h hb
  have hx : ∃ n, PartOf ys n := by
    cases h2 with
    | frac hl hg => exact ⟨A2 / L2, .frac (by rw [Int.mul_comm]; exact Int.mul_ediv_self_le (by omega)) (by rw [Int.add_mul, Int.one_mul, Int.mul_comm]; exact Int.lt_mul_ediv_self_add hl)⟩
    | root r => exact ⟨_, pt_ok r⟩
  have hy : ∃ n, PartOf xs n := by
    cases h with
    | frac hl hg => exact ⟨A / L, .frac (by rw [Int.mul_comm]; exact Int.mul_ediv_self_le (by omega)) (by rw [Int.add_mul, Int.one_mul, Int.mul_comm]; exact Int.lt_mul_ediv_self_add hl)⟩
    | root r => exact ⟨_, pt_ok r⟩
  obtain ⟨n, hn⟩ := hx
  obtain ⟨k, hk⟩ := hy
  have nb := num_part h2 m2 (by decide) (by decide) hn
  have kb := num_part h m4 (by decide) (by decide) hk
  have nb' : n.natAbs ≤ 10061 := nb
  have kb' : k.natAbs ≤ 10061 := kb
  have cu := hn.cuts h2
  have cu2 := hk.cuts h
  have q1 := below_part ⟨_, _, _, _, h2⟩ l0 (show cut ys (n + 1) 1 ≤ 0 by omega) c2
  have q2 := above_part ⟨_, _, _, _, h⟩ l0 cu2.1 c1
  have q3 := mm (show (n + 1).natAbs ≤ 10062 by omega) (show l.natAbs ≤ 10 ^ 16 by omega)
  have q4 := mm kb' (show l.natAbs ≤ 10 ^ 16 by omega)
  omega
theorem sc_simplest : FnScope ["low", "high"] ["low", "high"] (defScope s_simplest) := ⟨rfl, rfl, rfl, by decide +kernel, rfl, by decide +kernel, by decide +kernel⟩
theorem d_simplest (F : In K mg "simplest" s_simplest ["low", "high"]) (T : Txt K mg C_RowError C_NoNumber C_ZERO) (D_mirrored : Def P w K mg base CX0 1 "mirrored" ["number"] (sp_mirror K)) (D_compare : Def P w K mg base CX0 4 "compare" ["one", "other"] (sp_compare K)) (D_simplest_above : Def P w K mg base (CXE P w) 6 "simplest_above" ["low", "high"] (sp_simp K)) : Def P w K mg base (CXE P w) 7 "simplest" ["low", "high"] (sp_simplest K C_NoNumber) := by
  refine F.okX sc_simplest (by walk_at "splen") (fun f cdv A outer s H vs Q E hr h => ?_)
  obtain ⟨p, r, xs, ys, A', t, D, L, A2, t2, D2, L2, rfl, hp, hr', hN, hN2, hb, hb2, qe, qg⟩ := h
  refine ⟨_, (pss_cons (ps_if (pt_cmpR op_ge (pe_callD D_compare hr rfl pass0 (pa_cons (pv 0) (pa_cons (pv 1) pa_nil))) pe_int (nomark _)) (pss_one (ps_raise raises_cx rfl PySem.F.excBase_ValueError rfl T.m_NoNumber T.x_NoNumber (pa_cons pe_str pa_nil))) pss_nil)
    (pss_cons (ps_if (pt_cmpR op_ge (pe_callD D_compare hr rfl pass0 (pa_cons (pv 0) (pa_cons (pe_glob (v := .ref _) rfl T.m_ZERO rfl) pa_nil))) pe_int (nomark _)) (pss_one (ps_ret (pe_callD D_simplest_above hr rfl passes_cx (pa_cons (pv 0) (pa_cons (pv 1) pa_nil))))) pss_nil)
    (pss_cons (ps_if (pt_cmpR op_gt (pe_callD D_compare hr rfl pass0 (pa_cons (pv 1) (pa_cons (pe_glob (v := .ref _) rfl T.m_ZERO rfl) pa_nil))) pe_int (nomark _)) (pss_one (ps_ret (pe_glob (v := .ref _) rfl T.m_ZERO rfl))) pss_nil)
    (pss_one (ps_ret (pe_callD D_mirrored hr rfl pass0 (pa_cons (pe_callD D_simplest_above hr rfl passes_cx (pa_cons (pe_callD D_mirrored hr rfl pass0 (pa_cons (pv 1) pa_nil)) (pa_cons (pe_callD D_mirrored hr rfl pass0 (pa_cons (pv 0) pa_nil)) pa_nil))) pa_nil))))))), ?_⟩
  walk_at "wp"
  have b21 : ∀ {zs : List Int}, (∀ x ∈ zs, -30 ≤ x ∧ x ≤ 30) → ∀ x ∈ zs, x.natAbs < 10 ^ 21 := fun h x hx => by have := h x hx; omega
  have z21 : ∀ x ∈ [(0 : Int), 1], x.natAbs < 10 ^ 21 := by decide
  refine ⟨p, r, xs, ys, A', t, D, L, A2, t2, D2, L2, rfl, hp, hr', hN, hN2, b21 hb, b21 hb2, fun H1 s1 => ⟨_, rfl, ite2 (fun z => ?_) (fun z => ?_)⟩⟩
  · exact ⟨by decide, qe (by simpa using z) H1 s1⟩
  have hc : cmpN A' t D L A2 t2 D2 L2 = -1 := by
    have z : ¬ 0 ≤ cmpN A' t D L A2 t2 D2 L2 := by simpa using z
    rcases cmpN_01 A' t D L A2 t2 D2 L2 with w | w | w <;> omega
  have q := qg hc
  obtain ⟨U, W, wit, w0, w1, u1⟩ := dense_30 hN hN2 hb hb2 hc
  obtain ⟨mz, nz⟩ := mir_b hN hb
  obtain ⟨mz2, nz2⟩ := mir_b hN2 hb2
  refine ⟨p, C_ZERO, xs, [0, 1], A', t, D, L, 0, 0, 0, 1, rfl, s1.seqT hp, T.c_ZERO H1, hN, .frac (by decide) (by decide), b21 hb, z21, fun H2 s2 => ⟨_, rfl, ?_⟩⟩
  rw [cmpN_frac' hN (by decide)]
  have s12 := s1.trans s2
  refine ite2 (fun z => ?_) (fun z => ?_)
  · have z : 0 ≤ cut xs 0 1 := by simpa using z
    refine ⟨p, r, xs, ys, A', t, D, L, A2, t2, D2, L2, 5000, 30, U, W, rfl, s12.seqT hp, s12.seqT hr', hN, hN2, nz, nz2, by decide, by decide, by decide, by decide, z, wit, w0, w1, by omega, fun u l S o H3 s3 t3 => ?_⟩
    have w := S.least U W w0 wit
    have nn := S.nn
    exact q u l S.pos (by omega) (by omega) S.gcd S.btw (fun u' l' h1 h2 => by
      have w' := S.least u' l' h1 h2
      exact ⟨w'.1, fun _ => by omega⟩) o H3 (s12.trans s3) t3
  have z : ¬ 0 ≤ cut xs 0 1 := by simpa using z
  refine ⟨r, C_ZERO, ys, [0, 1], A2, t2, D2, L2, 0, 0, 0, 1, rfl, s12.seqT hr', T.c_ZERO H2, hN2, .frac (by decide) (by decide), b21 hb2, z21, fun H3 s3 => ⟨_, rfl, ?_⟩⟩
  rw [cmpN_frac' hN2 (by decide)]
  have s13 := s12.trans s3
  refine ite2 (fun y => ?_) (fun y => ?_)
  · have y : 0 < cut ys 0 1 := by simpa using y
    refine q 0 1 (by decide) (by decide) (by decide) (by decide) ⟨?_, fun zs e => ?_⟩ (fun u' l' h1 _ => ⟨by omega, fun _ => by simp⟩) C_ZERO H3 s13 (T.c_ZERO H3)
    · rcases cut_01 xs 0 1 with w | w | w <;> omega
    · cases e
      rcases cut_01 ys 0 1 with w | w | w <;> omega
  have y : ¬ 0 < cut ys 0 1 := by simpa using y
  refine ⟨r, ys, A2, t2, D2, L2, rfl, s13.seqT hr', hN2, fun w1' H4 n4 s4 t4 => ⟨p, xs, A', t, D, L, rfl, (s13.trans s4).seqT hp, hN, fun w2 H5 n5 s5 t5 => ?_⟩⟩
  have cz := cut_mir (u := 0) (l := 1) hN2 (by decide)
  rw [Int.neg_zero] at cz
  have wm : Btw (mir ys) (some (mir xs)) (-U) W := by
    refine ⟨?_, fun zs e => ?_⟩
    · rw [cut_mir hN2 w0, Int.neg_neg, wit.2 ys rfl]
    · cases e
      rw [cut_mir hN w0, Int.neg_neg, wit.1]; rfl
  refine ⟨w1', w2, mir ys, mir xs, _, _, _, _, _, _, _, _, 5000, 30, -U, W, rfl, SqT.of (s5 _ _ t4), SqT.of t5, mir_num hN2, mir_num hN, mz2, mz, by decide, by decide, by decide, by decide, by omega, wm, w0, w1, by omega, fun u l S o H6 s6 t6 => ?_⟩
  have w := S.least (-U) W w0 wm
  have nn := S.nn
  refine ⟨o, [u, l], u, 0, 0, l, rfl, t6, .frac S.pos S.gcd, fun o2 H7 n7 s7 t7 => ?_⟩
  refine q (-u) l S.pos (by omega) (by omega) (by rw [Int.neg_gcd]; exact S.gcd) ⟨?_, fun zs e => ?_⟩ (fun u' l' h1 h2 => ?_) o2 H7 (s13.trans (s4.trans (s5.trans (s6.trans s7)))) (SqT.of t7)
  · have := S.btw.2 (mir xs) rfl
    rw [cut_mir hN S.pos] at this
    omega
  · cases e
    have := S.btw.1
    rw [cut_mir hN2 S.pos] at this
    omega
  · have w' := S.least (-u') l' h1 ⟨by rw [cut_mir hN2 h1, Int.neg_neg, h2.2 ys rfl], fun zs e => by cases e; rw [cut_mir hN h1, Int.neg_neg, h2.1]; rfl⟩
    exact ⟨w'.1, fun _ => by omega⟩


















end




set_option Elab.async false
set_option linter.all false
set_option maxRecDepth 100000
set_option maxHeartbeats 4000000




section
variable {P : Program} {w : World} {K : PySem.W.Frag} {mg : Str → Option Value} {base : Heap} {C_RowError C_NoNumber C_ZERO : Addr}
noncomputable def sp_law (K : PySem.W.Frag) : Sp := fun vs H Q _ => ∃ (a : Addr) (ns : List Int), vs = [.ref a] ∧ SqL K H a (ns.map V.int) ∧ ns.length ≤ 63 ∧ ∀ H', Q (.bl true) H'
structure Told (xs ys : List Int) (u l : Int) : Prop where
  l0 : 0 < l
  gcd : Int.gcd u l = 1
  lb : l < 10 ^ 16
  btw : Btw xs (some ys) u l
  least : ∀ u' l', 0 < l' → Btw xs (some ys) u' l' → l ≤ l' ∧ (l' = l → u.natAbs ≤ u'.natAbs)
noncomputable def sp_said (K : PySem.W.Frag) : Sp := fun vs H Q _ => ∃ (p r : Addr) (xs ys : List Int) (A t D L A2 t2 D2 L2 : Int), vs = [.ref p, .ref r] ∧ SqT K H p (xs.map V.int) ∧ SqT K H r (ys.map V.int) ∧ NumR xs A t D L ∧ NumR ys A2 t2 D2 L2 ∧ (∀ x ∈ xs, -30 ≤ x ∧ x ≤ 30) ∧ (∀ x ∈ ys, -30 ≤ x ∧ x ≤ 30) ∧
  (0 ≤ cmpN A t D L A2 t2 D2 L2 → ∀ H', Same H H' → Q (.str "none") H') ∧ (cmpN A t D L A2 t2 D2 L2 = -1 → ∀ u l, Told xs ys u l → ∀ r H', Same H H' → SqT K H' r [.int u, .int l] → Q (.ref r) H')
noncomputable def wB (xs ys : List Int) (u l : Int) : Bool := decide (cut xs u l = -1) && decide (cut ys u l = 1)
noncomputable def sp_within (K : PySem.W.Frag) : Sp := fun vs H Q _ => ∃ (p r : Addr) (xs ys : List Int) (A t D L A2 t2 D2 L2 u l : Int), vs = [.ref p, .ref r, .int u, .int l] ∧ SqT K H p (xs.map V.int) ∧ SqT K H r (ys.map V.int) ∧ NumR xs A t D L ∧ NumR ys A2 t2 D2 L2 ∧ Sm u ∧ Sm l ∧ 0 < l ∧ Q (.bl (wB xs ys u l)) H
noncomputable def MidW (K : PySem.W.Frag) (a : Addr) : St → Hp → Prop := fun σ H' => ∃ (p r f : Addr) (xs ys : List Int) (A t D L A2 t2 D2 L2 u l : Int) (x4 x5 x6 : Option V), σ = [some (.ref a), some (.ref p), some (.ref r), some (.ref f), x4, x5, x6] ∧ SqT K H' p (xs.map V.int) ∧ SqT K H' r (ys.map V.int) ∧ SqT K H' f [.int u, .int l] ∧ NumR xs A t D L ∧ NumR ys A2 t2 D2 L2 ∧ (∀ x ∈ xs, -30 ≤ x ∧ x ≤ 30) ∧ Told xs ys u l
theorem far_up {xs : List Int} {A t D L : Int} (h : NumR xs A t D L) (hb : ∀ x ∈ xs, -30 ≤ x ∧ x ≤ 30) : cut xs 100 1 = -1 ∧ cut xs (-100) 1 = 1 := by
  obtain ⟨a1, a2, a3, a4⟩ := num_30 h hb
  have lp := h.L_pos
  have dn := h.D_nn
  have tt : t = 0 ∨ t = 1 ∨ t = -1 := by omega
  have sd : (S (t * 1) * D).natAbs ≤ 4500 := by
    rcases tt with e | e | e <;> subst e
    · rw [show S (0 * 1) = 0 from rfl, Int.zero_mul]; decide
    · rw [show S (1 * 1) = 1 from rfl, Int.one_mul]; exact a3
    · rw [show S (-1 * 1) = -1 from rfl, Int.neg_mul, Int.one_mul, Int.natAbs_neg]; exact a3
  have l2 : t = 0 ∨ 2 ≤ L := by
    cases h with
    | frac => exact .inl rfl
    | root r => have := r.pos; exact .inr (by omega)
  constructor
  · rw [cut_sA h (by decide)]
    refine sg_nega ?_
    unfold sA
    rcases l2 with e | e
    · subst e
      rw [show S (0 * 1) = 0 from rfl, Int.zero_mul, S_np (by omega)]
      have := Int.mul_self_nonneg_pos (show A * 1 - 100 * L ≠ 0 by omega)
      omega
    · rw [S_np (by omega)]
      have := sq_le (x := 170) (y := -(A * 1 - 100 * L)) (by decide) (by omega)
      rw [Int.neg_mul_neg] at this
      omega
  · rw [cut_sA h (by decide)]
    refine sg_pos ?_
    unfold sA
    rcases l2 with e | e
    · subst e
      rw [show S (0 * 1) = 0 from rfl, Int.zero_mul, S_nn (by omega)]
      have := Int.mul_self_nonneg_pos (show A * 1 - -100 * L ≠ 0 by omega)
      omega
    · rw [S_nn (by omega)]
      have := sq_le (x := 170) (y := A * 1 - -100 * L) (by decide) (by omega)
      omega
theorem sc_law_said : FnScope ["_law_low", "_law_high", "_law_told", "e"] ["_law_low", "_law_high"] (defScope s_law_said) := ⟨rfl, rfl, rfl, by decide +kernel, rfl, by decide +kernel, by decide +kernel⟩
theorem d_law_said (F : In K mg "_law_said" s_law_said ["_law_low", "_law_high"]) (T : Txt K mg C_RowError C_NoNumber C_ZERO) (D_simplest : Def P w K mg base (CXE P w) 7 "simplest" ["low", "high"] (sp_simplest K C_NoNumber)) : Def P w K mg base CX0 8 "_law_said" ["_law_low", "_law_high"] (sp_said K) := by
  refine F.ok0 sc_law_said (by walk_at "splen") (fun f cdv A outer s H vs Q E hr h => ?_)
  obtain ⟨p, r, xs, ys, A', t, D, L, A2, t2, D2, L2, rfl, hp, hr', hN, hN2, hb, hb2, qe, qg⟩ := h
  refine ⟨_, (pss_cons (ps_set (i := 2) sc_law_said.nd rfl (Or.inl rfl) pe_non)
    (pss_cons (ps_tryAs (i := 3) (E := (fun σ cls _ H' => σ = [some (.ref p), some (.ref r), some .non, none] ∧ cls = .ref C_NoNumber ∧ Same H H' ∧ 0 ≤ cmpN A' t D L A2 t2 D2 L2)) sc_law_said.nd rfl rfl rfl T.m_RowError (fun pn xe hx => (pss_one (ps_set (i := 2) sc_law_said.nd rfl (Or.inl rfl) (pe_callDS D_simplest hr rfl hx (pa_cons (pv 0) (pa_cons (pv 1) pa_nil)))))) (fun a => (pss_one (ps_if (PW.pt (pw_and (pt_val (pe_callB (call_isiE (K := K) rfl) rfl T.n_isinstance (by decide +kernel) (pa_cons (pv 3) (pa_cons (pe_glob (v := .ref _) rfl T.m_NoNumber rfl) pa_nil)))) (pw_and1 (pt_val (pe_callB (call_isiE (K := K) rfl) rfl T.n_isinstance (by decide +kernel) (pa_cons (pv 3) (pa_cons (pe_bltn (v := .ty "ValueError") (u := .type "ValueError") rfl T.n_ValueError (by decide +kernel) rfl) pa_nil))))))) (pss_one (ps_set (i := 2) sc_law_said.nd rfl (Or.inl rfl) pe_str)) pss_nil))))
    (pss_one (ps_ret (pv 2))))), ?_⟩
  walk_at "wp"
  refine ⟨?_, fun σ' cls H' e hE na => ?_⟩
  · walk_at "wp"
    exact ⟨p, r, xs, ys, A', t, D, L, A2, t2, D2, L2, rfl, hp, hr', hN, hN2, hb, hb2, fun hc H1 s1 => ⟨rfl, s1, hc⟩, fun hc u l l0 lb _ g bt ls o H1 s1 t1 => qg hc u l ⟨l0, g, lb, bt, ls⟩ o H1 s1 t1⟩
  · obtain ⟨rfl, rfl, hs, hc⟩ := hE
    refine ⟨T.ex, ?_⟩
    have self : PySem.W.kitOne K (.ref C_NoNumber) (.ref C_NoNumber) = some true := if_pos (beq_self_eq_true _)
    have sm : Same H (upd H' e (excO e (.ref C_NoNumber))) := fun b o z => by
      rw [upd_ne (ne_of_none (hs b o z) na)]
      exact hs b o z
    walk_at "wp"
    exact ⟨e, _, _, ⟨rfl, rfl⟩, _, .own C_NoNumber, upd_same, self, e, _, _, ⟨rfl, rfl⟩, _, .ty _, upd_same, T.iv, qe hc _ sm⟩
theorem sc_law_within : FnScope ["_law_low", "_law_high", "_law_upper", "_law_lower"] ["_law_low", "_law_high", "_law_upper", "_law_lower"] (defScope s_law_within) := ⟨rfl, rfl, rfl, by decide +kernel, rfl, by decide +kernel, by decide +kernel⟩
theorem d_law_within (F : In K mg "_law_within" s_law_within ["_law_low", "_law_high", "_law_upper", "_law_lower"]) (T : Txt K mg C_RowError C_NoNumber C_ZERO) (D_law_below : Def P w K mg base CX0 2 "_law_below" ["_law_number_here", "_law_upper", "_law_lower"] (sp_below K)) (D_law_over : Def P w K mg base CX0 2 "_law_over" ["_law_number_here", "_law_upper", "_law_lower"] (sp_over K)) : Def P w K mg base CX0 3 "_law_within" ["_law_low", "_law_high", "_law_upper", "_law_lower"] (sp_within K) := by
  refine F.ok0 sc_law_within (by walk_at "splen") (fun f cdv A outer s H vs Q E hr h => ?_)
  obtain ⟨p, r, xs, ys, A', t, D, L, A2, t2, D2, L2, u, l, rfl, hp, hr', hN, hN2, su, sl, l0, q⟩ := h
  refine ⟨_, (pss_one (ps_ret (pe_and (pe_callD D_law_below hr rfl pass0 (pa_cons (pv 0) (pa_cons (pv 2) (pa_cons (pv 3) pa_nil)))) (pe_one (pe_callD D_law_over hr rfl pass0 (pa_cons (pv 1) (pa_cons (pv 2) (pa_cons (pv 3) pa_nil)))))))), ?_⟩
  walk_at "wp"
  refine ⟨p, xs, A', t, D, L, u, l, rfl, hp, hN, su, sl, l0, fun b h1 h2 => ?_⟩
  have e : decide (cut xs u l = -1) = b := by
    rw [Bool.eq_iff_iff, decide_eq_true_iff, cut_sA hN l0]
    cases b with
    | true =>
      have := h1 rfl
      exact ⟨fun _ => rfl, fun _ => sg_nega this⟩
    | false =>
      have := h2 rfl
      refine ⟨fun y => ?_, fun y => by cases y⟩
      rcases sg_cases (sA A' t D L u l) with w | w | w <;> omega
  unfold wB at q
  rw [e] at q
  refine ⟨b, rfl, ?_⟩
  cases b with
  | true => exact iteT ⟨r, ys, A2, t2, D2, L2, u, l, rfl, hr', hN2, su, sl, l0, by rw [Bool.true_and] at q; exact q⟩
  | false => exact iteF q
theorem sc_law : FnScope ["_law_script", "_law_low", "_law_high", "_law_found", "_law_upper", "_law_lower", "_law_first"] ["_law_script"] (defScope s_law) := ⟨rfl, rfl, rfl, by decide +kernel, rfl, by decide +kernel, by decide +kernel⟩
theorem ok_law {f : Addr} {fd : FuncData} (F : Fun K "law" "law" s_law f fd) (T : Txt K mg C_RowError C_NoNumber C_ZERO) (D_law_number : Def P w K mg base CX0 4 "_law_number" ["_law_script", "_law_k", "_law_wide"] (sp_number K)) (D_law_said : Def P w K mg base CX0 8 "_law_said" ["_law_low", "_law_high"] (sp_said K)) (D_compare : Def P w K mg base CX0 4 "compare" ["one", "other"] (sp_compare K)) (D_law_lowest : Def P w K mg base CX0 2 "_law_lowest" ["_law_upper", "_law_lower"] sp_llow) (D_law_within : Def P w K mg base CX0 3 "_law_within" ["_law_low", "_law_high", "_law_upper", "_law_lower"] (sp_within K)) (D_part_of : Def P w K mg base CX0 2 "part_of" ["number"] (sp_part K)) (D_law_whole : Def P w K mg base CX0 1 "_law_whole" ["_law_found"] sp_whole) : FnOk P w K mg base CX0 9 f fd ["_law_script"] (sp_law K) := by
  refine F.ok sc_law (by walk_at "splen") (fun cdv A outer s H vs Q E hr h => ?_)
  obtain ⟨a, ns, rfl, hS, h63, q⟩ := h
  refine ⟨_, (pss_cons (ps_set (i := 1) sc_law.nd rfl (Or.inl rfl) (pe_callD D_law_number hr rfl pass0 (pa_cons (pv 0) (pa_cons pe_int (pa_cons pe_int pa_nil)))))
    (pss_cons (ps_set (i := 2) sc_law.nd rfl (Or.inl rfl) (pe_callD D_law_number hr rfl pass0 (pa_cons (pv 0) (pa_cons pe_int (pa_cons pe_int pa_nil)))))
    (pss_cons (ps_set (i := 3) sc_law.nd rfl (Or.inl rfl) (pe_callD D_law_said hr rfl pass0 (pa_cons (pv 1) (pa_cons (pv 2) pa_nil))))
    (pss_cons (ps_if (pt_cmpR op_ge (pe_callD D_compare hr rfl pass0 (pa_cons (pv 1) (pa_cons (pv 2) pa_nil))) pe_int (nomark _)) (pss_one (ps_ret (pe_cmpR op_eq (pv 3) pe_str (nomark _)))) pss_nil)
    (pss_cons (ps_if (PW.pt (pw_or (pt_not (pt_val (pe_callB call_isi rfl T.n_isinstance (by decide +kernel) (pa_cons (pv 3) (pa_cons (pe_bltn (v := .ty "tuple") (u := .type "tuple") rfl T.n_tuple (by decide +kernel) rfl) pa_nil))))) (pw_or (pt_cmpR op_ne (pe_callB call_len_seq rfl T.n_len (by decide +kernel) (pa_cons (pv 3) pa_nil)) pe_int (nomark _)) (pw_or1 (pt_not (pt_val (pe_callB (call_allL rfl) rfl T.n_all (by decide +kernel) (pa_cons (pe_comp rfl (Clos.none (by decide +kernel)) (by decide +kernel) rfl (by decide +kernel) rfl (by decide +kernel) (pi_tup (pv 3)) (fun _ _ _ _ => (pe_callD D_law_whole hr rfl pass0 (pa_cons (pv 0) pa_nil)))) pa_nil)))))))) (pss_one (ps_ret pe_bl)) pss_nil)
    (pss_cons (ps_if (PW.pt (pw_or (pt_cmpR op_lt (pe_ix ix_tup (pv 3) pe_int (fun _ _ => rfl)) pe_int (nomark _)) (pw_or (pt_cmpR (op_neT (hu_of hr)) (pe_callD D_law_lowest hr rfl pass0 (pa_cons (pe_ix ix_tup (pv 3) pe_int (fun _ _ => rfl)) (pa_cons (pe_ix ix_tup (pv 3) pe_int (fun _ _ => rfl)) pa_nil))) (pv 3) (nomark _)) (pw_or1 (pt_not (pt_val (pe_callD D_law_within hr rfl pass0 (pa_cons (pv 1) (pa_cons (pv 2) (pa_cons (pe_ix ix_tup (pv 3) pe_int (fun _ _ => rfl)) (pa_cons (pe_ix ix_tup (pv 3) pe_int (fun _ _ => rfl)) pa_nil))))))))))) (pss_one (ps_ret pe_bl)) pss_nil)
    (pss_cut (MidW K a) (ps_if (pt_cmpR op_eq (pe_ix ix_tup (pv 3) pe_int (fun _ _ => rfl)) pe_int (nomark _)) (pss_one (ps_for PassesOwn.never rfl (pi_range2 rfl T.n_range (pa_cons (pe_op op_sub pe_int (pe_callB call_abs rfl T.n_abs (by decide +kernel) (pa_cons (pe_ix ix_tup (pv 3) pe_int (fun _ _ => rfl)) pa_nil))) (pa_cons (pe_callB call_abs rfl T.n_abs (by decide +kernel) (pa_cons (pe_ix ix_tup (pv 3) pe_int (fun _ _ => rfl)) pa_nil)) pa_nil))) (pg_name (i := 4) sc_law.nd rfl (Or.inl rfl)) (pss_one (ps_if (pt_val (pe_callD D_law_within hr rfl pass0 (pa_cons (pv 1) (pa_cons (pv 2) (pa_cons (pv 4) (pa_cons pe_int pa_nil)))))) (pss_one (ps_ret pe_bl)) pss_nil)))) pss_nil)
    (pss_cons (ps_for PassesOwn.never rfl (pi_range2 rfl T.n_range (pa_cons pe_int (pa_cons (pe_callB (call_min2 rfl) rfl T.n_min (by decide +kernel) (pa_cons (pe_ix ix_tup (pv 3) pe_int (fun _ _ => rfl)) (pa_cons pe_int pa_nil))) pa_nil))) (pg_name (i := 5) sc_law.nd rfl (Or.inl rfl)) (pss_cons (ps_set (i := 6) sc_law.nd rfl (Or.inl rfl) (pe_op op_mulB (pe_callD D_part_of hr rfl pass0 (pa_cons (pv 1) pa_nil)) (pv 5)))
    (pss_one (ps_for PassesOwn.never rfl (pi_range2 rfl T.n_range (pa_cons (pv 6) (pa_cons (pe_op op_add (pe_op op_add (pv 6) (pv 5)) pe_int) pa_nil))) (pg_name (i := 4) sc_law.nd rfl (Or.inl rfl)) (pss_one (ps_if (pt_val (pe_callD D_law_within hr rfl pass0 (pa_cons (pv 1) (pa_cons (pv 2) (pa_cons (pv 4) (pa_cons (pv 5) pa_nil)))))) (pss_one (ps_ret pe_bl)) pss_nil))))))
    (pss_one (ps_ret pe_bl)))))))))), ?_⟩
  walk_at "wp"
  refine ⟨a, ns, 0, 30, rfl, hS, by decide, by decide, by decide, fun xs A' t D L hN hb p H1 n1 s1 t1 => ?_⟩
  refine ⟨a, ns, 2, 30, rfl, s1.seq hS, by decide, by decide, by decide, fun ys A2 t2 D2 L2 hN2 hb2 r H2 n2 s2 t2' => ?_⟩
  have tp := SqT.of (K := K) (s2 _ _ t1)
  have tr := SqT.of (K := K) t2'
  have b21 : ∀ {zs : List Int}, (∀ x ∈ zs, -30 ≤ x ∧ x ≤ 30) → ∀ x ∈ zs, x.natAbs < 10 ^ 21 := fun h x hx => by have := h x hx; omega
  refine ⟨p, r, xs, ys, A', t, D, L, A2, t2, D2, L2, rfl, tp, tr, hN, hN2, hb, hb2, fun hc H3 s3 => ?_, fun hc u l td f' H3 s3 tf => ?_⟩
  · refine ⟨p, r, xs, ys, A', t, D, L, A2, t2, D2, L2, rfl, s3.seqT tp, s3.seqT tr, hN, hN2, b21 hb, b21 hb2, fun H4 s4 => ⟨_, rfl, ifT (by simpa using hc) ?_⟩⟩
    exact ⟨rfl, by rw [decide_eq_true rfl]; exact q _⟩
  · refine ⟨p, r, xs, ys, A', t, D, L, A2, t2, D2, L2, rfl, s3.seqT tp, s3.seqT tr, hN, hN2, b21 hb, b21 hb2, fun H4 s4 => ⟨_, rfl, ifF (by simp; omega) ?_⟩⟩
    have tf4 := s4.seqT tf
    have tp4 := (s3.trans s4).seqT tp
    have tr4 := (s3.trans s4).seqT tr
    have l0 := td.l0
    have lb := td.lb
    have fx := far_up hN hb
    have fy := far_up hN2 hb2
    have ub1 := below_part ⟨A2, t2, D2, L2, hN2⟩ l0 (show cut ys 100 1 ≤ 0 by omega) (td.btw.2 ys rfl)
    have ub2 := above_part ⟨A', t, D, L, hN⟩ l0 (show 0 ≤ cut xs (-100) 1 by omega) td.btw.1
    have su : Sm u := ⟨by omega, by omega⟩
    have sl : Sm l := ⟨by omega, by omega⟩
    refine ⟨_, _, ⟨rfl, rfl⟩, _, _, .ty _, .tup tf4, true, kt_tt, iteF ⟨f', rfl, _, .inr tf4, iteF ⟨f', rfl, ⟨_, tf4⟩, comp_mapT (fun _ => .bl true) tf4 (by show 2 ≤ sizeLine; decide) ?_ ?_⟩⟩⟩
    · intro x hx H5 R s5 hR
      have hw : wholeV x = some true := by
        simp only [List.mem_cons, List.not_mem_nil, or_false] at hx
        rcases hx with rfl | rfl <;> rfl
      exact ⟨x, rfl, x, true, rfl, hw, hR H5 (Same.refl _)⟩
    intro d5 H5 n5 s5 t5
    refine ⟨d5, rfl, [true, true], SqL.of t5, iteF ?_⟩
    have tf5 := s5.seqT tf4
    have fl : Fit l := ⟨by omega, by omega⟩
    refine ⟨f', rfl, _, tf5, _, rfl, _, rfl, ifF (by simp; omega) ⟨f', rfl, _, tf5, _, rfl, f', rfl, _, tf5, _, rfl, u, l, rfl, by omega, fl, fun w1 H6 n6 s6 t6 => ?_⟩⟩
    have elow : low u l = [u, l].map V.int := by
      have e : by_ u l = 1 := by
        unfold by_
        rw [if_neg (by omega), td.gcd]; rfl
      unfold low
      rw [e, Int.fdiv_one, Int.fdiv_one]; rfl
    rw [elow] at t6
    refine ⟨w1, rfl, f', rfl, _, SqT.of t6, _, s6.seqT tf5, flat_int _, flat_int [_, _], ?_⟩
    have eqq : eqL ([u, l].map V.int) [V.int u, V.int l] = true := by
      rw [show [V.int u, V.int l] = [u, l].map V.int from rfl, eqL_int]
      exact decide_eq_true rfl
    rw [eqq]
    have s46 := s5.trans s6
    have tf6 := s6.seqT tf5
    have wt : wB xs ys u l = true := by unfold wB; rw [decide_eq_true td.btw.1, decide_eq_true (td.btw.2 ys rfl)]; rfl
    have wf : ∀ {u' l' : Int}, 0 < l' → (l' < l ∨ l' = l ∧ u'.natAbs < u.natAbs) → wB xs ys u' l' = false := fun {u' l'} h0 h => by
      rw [Bool.eq_false_iff]
      intro hw
      unfold wB at hw
      rw [Bool.and_eq_true, decide_eq_true_iff, decide_eq_true_iff] at hw
      have := td.least u' l' h0 ⟨hw.1, fun zs e => by cases e; exact hw.2⟩
      rcases h with h | ⟨h1, h2⟩
      · omega
      · have := this.2 h1
        omega
    refine iteF ⟨f', rfl, _, tf6, _, rfl, f', rfl, _, tf6, _, rfl, p, r, xs, ys, A', t, D, L, A2, t2, D2, L2, u, l, rfl, s46.seqT tp4, s46.seqT tr4, hN, hN2, su, sl, l0, _, rfl, ?_⟩
    rw [wt]
    refine iteF ?_
    have tp6 := s46.seqT tp4
    have tr6 := s46.seqT tr4
    have one : Sm 1 := ⟨by decide, by decide⟩
    refine ⟨?_, ?_⟩
    · walk_at "wp"
      refine ⟨_, tf6, _, rfl, rfl, ite2 (fun z => ?_) (fun z => ?_)⟩
      · have z : l = 1 := by simpa using z
        refine tFor_rd fun R hR => ?_
        walk_at "wp"
        refine ⟨_, tf6, _, rfl, _, rfl, _, tf6, _, rfl, _, rfl, ?_⟩
        have ab : (if u < 0 then -u else u) = (u.natAbs : Int) := by split <;> omega
        rw [ab]
        refine ⟨_, _, ⟨rfl, rfl⟩, ⟨by omega, by omega, by omega, by omega⟩, hR _ _ ?_⟩
        clear hR
        refine for_range (n := ((u.natAbs : Int) - (1 - (u.natAbs : Int))).toNat) (lo := 1 - (u.natAbs : Int)) (fun i σ H' => ∃ x4, σ = [some (.ref a), some (.ref p), some (.ref r), some (.ref f'), x4, none, none] ∧ H' = H6) ⟨_, rfl, rfl⟩ (fun i σ H' hi z' => ?_) (fun σ H' z' => ?_)
        · obtain ⟨x4, rfl, rfl⟩ := z'
          walk_at "wp"
          obtain ⟨uu, huu⟩ : ∃ uu, 1 - (u.natAbs : Int) + (i : Int) = uu := ⟨_, rfl⟩
          rw [huu]
          refine ⟨p, r, xs, ys, A', t, D, L, A2, t2, D2, L2, uu, 1, rfl, tp6, tr6, hN, hN2, ⟨by omega, by omega⟩, one, by decide, _, rfl, ?_⟩
          rw [wf (by decide) (.inr ⟨z.symm, by omega⟩)]
          exact iteF rfl
        · obtain ⟨x4, rfl, rfl⟩ := z'
          walk_at "wp"
          exact ⟨p, r, f', xs, ys, A', t, D, L, A2, t2, D2, L2, u, l, _, _, _, rfl, tp6, tr6, tf6, hN, hN2, hb, td⟩
      · exact ⟨p, r, f', xs, ys, A', t, D, L, A2, t2, D2, L2, u, l, _, _, _, rfl, tp6, tr6, tf6, hN, hN2, hb, td⟩
    rintro σ7 H7 ⟨p, r, f', xs, ys, A', t, D, L, A2, t2, D2, L2, u, l, x4, x5, x6, rfl, tp, tr, tf, hN, hN2, hb, td⟩
    walk_at "wp"
    have wf : ∀ {u' l' : Int}, 0 < l' → l' < l → wB xs ys u' l' = false := fun {u' l'} h0 h => by
      rw [Bool.eq_false_iff]
      intro hw
      unfold wB at hw
      rw [Bool.and_eq_true, decide_eq_true_iff, decide_eq_true_iff] at hw
      have := td.least u' l' h0 ⟨hw.1, fun zs e => by cases e; exact hw.2⟩
      omega
    have l0 := td.l0
    obtain ⟨_, nz⟩ := mir_b hN hb
    refine tFor_rd fun R hR => ?_
    walk_at "wp"
    refine ⟨_, tf, _, rfl, _, _, ⟨rfl, rfl⟩, ?_⟩
    have mn : (if (60 : Int) < l then (60 : Int) else l) ≤ 60 ∧ (if (60 : Int) < l then (60 : Int) else l) ≤ l ∧ 1 ≤ (if (60 : Int) < l then (60 : Int) else l) := by split <;> omega
    generalize (if (60 : Int) < l then (60 : Int) else l) = mb at *
    refine ⟨1, mb, ⟨rfl, rfl⟩, ⟨by decide, by decide, by omega, by omega⟩, hR _ _ ?_⟩
    clear hR
    refine for_range (n := (mb - 1).toNat) (lo := 1) (fun i σ H' => ∃ x4 x5 x6, σ = [some (.ref a), some (.ref p), some (.ref r), some (.ref f'), x4, x5, x6] ∧ H' = H7) ⟨_, _, _, rfl, rfl⟩ (fun i σ H' hi z' => ?_) (fun σ H' z' => ?_)
    · obtain ⟨x4, x5, x6, rfl, rfl⟩ := z'
      walk_at "wp"
      obtain ⟨lw, hlw⟩ : ∃ lw, (1 : Int) + (i : Int) = lw := ⟨_, rfl⟩
      rw [hlw]
      refine ⟨p, xs, A', t, D, L, rfl, tp, hN, num_bd hN nz (by decide) (by decide), fun n hn => ?_⟩
      have nb := num_part hN nz (by decide) (by decide) hn
      have nb' : n.natAbs ≤ 10061 := nb
      have nl : (n * lw).natAbs ≤ 10061 * 60 := by rw [Int.natAbs_mul]; exact Nat.mul_le_mul nb' (by omega)
      refine ⟨_, rfl, .inr ⟨⟨by omega, by omega⟩, ⟨by omega, by omega⟩⟩, ?_⟩
      generalize n * lw = fst at *
      refine tFor_rd fun R hR => ?_
      walk_at "wp"
      refine ⟨_, _, ⟨rfl, rfl⟩, ⟨by omega, by omega, by omega, by omega⟩, hR _ _ ?_⟩
      clear hR
      refine for_range (n := (fst + lw + 2 - fst).toNat) (lo := fst) (fun j σ H'' => ∃ x4, σ = [some (.ref a), some (.ref p), some (.ref r), some (.ref f'), x4, some (.int lw), some (.int fst)] ∧ H'' = H') ⟨_, rfl, rfl⟩ (fun j σ H'' hj z'' => ?_) (fun σ H'' z'' => ?_)
      · obtain ⟨x4, rfl, rfl⟩ := z''
        walk_at "wp"
        refine ⟨p, r, xs, ys, A', t, D, L, A2, t2, D2, L2, _, lw, rfl, tp, tr, hN, hN2, ⟨by omega, by omega⟩, ⟨by omega, by omega⟩, by omega, _, rfl, ?_⟩
        rw [wf (by omega) (by omega)]
        exact iteF rfl
      · obtain ⟨x4, rfl, rfl⟩ := z''
        walk_at "wp"
        exact ⟨_, rfl⟩
    · obtain ⟨x4, x5, x6, rfl, rfl⟩ := z'
      walk_at "wp"
      exact q _
end
/-! ### the program's top -/
theorem all_mk {l : PySem.W.OpenLaw} {w : World} {K : PySem.W.Frag} {h : Heap} {mg : Str → Option Value} {fa C_ZERO C_NoNumber C_RowError f0 f1 f2 f3 f4 f5 f6 f7 f8 f9 f10 f11 f12 f13 f14 f15 f16 f17 f18 f19 f20 f21 f22 f23 f24 f25 f26 f27 f28 f29 f30 f31 f32 f33 : Addr} {od0 an0 od1 an1 od2 an2 od3 an3 od4 an4 od5 an5 od6 an6 od7 an7 od8 an8 od9 an9 od10 an10 od11 an11 od12 an12 od13 an13 od14 an14 od15 an15 od16 an16 od17 an17 od18 an18 od19 an19 od20 an20 od21 an21 od22 an22 od23 an23 od24 an24 od25 an25 od26 an26 od27 an27 od28 an28 od29 an29 od30 an30 od31 an31 od32 an32 od33 an33 : Option Addr} {sl0 sl1 sl2 sl3 sl4 sl5 sl6 sl7 sl8 sl9 sl10 sl11 sl12 sl13 sl14 sl15 sl16 sl17 sl18 sl19 sl20 sl21 sl22 sl23 sl24 sl25 sl26 sl27 sl28 sl29 sl30 sl31 sl32 sl33 : Array (Option Value)} {oc0 kV0 dc0 pm0 cd0 ct0 oc1 kV1 dc1 pm1 cd1 ct1 oc2 kV2 dc2 pm2 cd2 ct2 oc3 kV3 dc3 pm3 cd3 ct3 oc4 kV4 dc4 pm4 cd4 ct4 oc5 kV5 dc5 pm5 cd5 ct5 oc6 kV6 dc6 pm6 cd6 ct6 oc7 kV7 dc7 pm7 cd7 ct7 oc8 kV8 dc8 pm8 cd8 ct8 oc9 kV9 dc9 pm9 cd9 ct9 oc10 kV10 dc10 pm10 cd10 ct10 oc11 kV11 dc11 pm11 cd11 ct11 oc12 kV12 dc12 pm12 cd12 ct12 oc13 kV13 dc13 pm13 cd13 ct13 oc14 kV14 dc14 pm14 cd14 ct14 oc15 kV15 dc15 pm15 cd15 ct15 oc16 kV16 dc16 pm16 cd16 ct16 oc17 kV17 dc17 pm17 cd17 ct17 oc18 kV18 dc18 pm18 cd18 ct18 oc19 kV19 dc19 pm19 cd19 ct19 oc20 kV20 dc20 pm20 cd20 ct20 oc21 kV21 dc21 pm21 cd21 ct21 oc22 kV22 dc22 pm22 cd22 ct22 oc23 kV23 dc23 pm23 cd23 ct23 oc24 kV24 dc24 pm24 cd24 ct24 oc25 kV25 dc25 pm25 cd25 ct25 oc26 kV26 dc26 pm26 cd26 ct26 oc27 kV27 dc27 pm27 cd27 ct27 oc28 kV28 dc28 pm28 cd28 ct28 oc29 kV29 dc29 pm29 cd29 ct29 oc30 kV30 dc30 pm30 cd30 ct30 oc31 kV31 dc31 pm31 cd31 ct31 oc32 kV32 dc32 pm32 cd32 ct32 oc33 kV33 dc33 pm33 cd33 ct33 : Value} {t0_ZERO t1_ZERO : Tok} {n_ZERO : Nat} {o_ZERO : Option Addr} {g_ZERO : Array (Option Value)} (X : K.In h) (G : h.Ns mainGlobals mg) (hfa : mg "law" = some (.ref fa))
    (a0 : PySem.W.nsIn K mainGlobals "common_divisor" = some (some (.ref f0))) (l0 : K.lookup f0 = some ⟨oc0, od0, .func (PySem.W.fnOf "common_divisor" "common_divisor" (defArgs s_common_divisor) (defBody s_common_divisor) (defScope s_common_divisor) .none kV0 dc0 pm0 an0 cd0 ct0), sl0⟩) (c0 : PySem.W.codeIn K cd0 "common_divisor" = true) (k0 : PySem.W.keepIn K (.ref f0) = true)
    (a1 : PySem.W.nsIn K mainGlobals "least_square" = some (some (.ref f1))) (l1 : K.lookup f1 = some ⟨oc1, od1, .func (PySem.W.fnOf "least_square" "least_square" (defArgs s_least_square) (defBody s_least_square) (defScope s_least_square) .none kV1 dc1 pm1 an1 cd1 ct1), sl1⟩) (c1 : PySem.W.codeIn K cd1 "least_square" = true) (k1 : PySem.W.keepIn K (.ref f1) = true)
    (a2 : PySem.W.nsIn K mainGlobals "heart_of" = some (some (.ref f2))) (l2 : K.lookup f2 = some ⟨oc2, od2, .func (PySem.W.fnOf "heart_of" "heart_of" (defArgs s_heart_of) (defBody s_heart_of) (defScope s_heart_of) .none kV2 dc2 pm2 an2 cd2 ct2), sl2⟩) (c2 : PySem.W.codeIn K cd2 "heart_of" = true) (k2 : PySem.W.keepIn K (.ref f2) = true)
    (a3 : PySem.W.nsIn K mainGlobals "is_square" = some (some (.ref f3))) (l3 : K.lookup f3 = some ⟨oc3, od3, .func (PySem.W.fnOf "is_square" "is_square" (defArgs s_is_square) (defBody s_is_square) (defScope s_is_square) .none kV3 dc3 pm3 an3 cd3 ct3), sl3⟩) (c3 : PySem.W.codeIn K cd3 "is_square" = true) (k3 : PySem.W.keepIn K (.ref f3) = true)
    (a4 : PySem.W.nsIn K mainGlobals "divisor_of_all" = some (some (.ref f4))) (l4 : K.lookup f4 = some ⟨oc4, od4, .func (PySem.W.fnOf "divisor_of_all" "divisor_of_all" (defArgs s_divisor_of_all) (defBody s_divisor_of_all) (defScope s_divisor_of_all) .none kV4 dc4 pm4 an4 cd4 ct4), sl4⟩) (c4 : PySem.W.codeIn K cd4 "divisor_of_all" = true) (k4 : PySem.W.keepIn K (.ref f4) = true)
    (a5 : PySem.W.nsIn K mainGlobals "root_of" = some (some (.ref f5))) (l5 : K.lookup f5 = some ⟨oc5, od5, .func (PySem.W.fnOf "root_of" "root_of" (defArgs s_root_of) (defBody s_root_of) (defScope s_root_of) .none kV5 dc5 pm5 an5 cd5 ct5), sl5⟩) (c5 : PySem.W.codeIn K cd5 "root_of" = true) (k5 : PySem.W.keepIn K (.ref f5) = true)
    (a6 : PySem.W.nsIn K mainGlobals "part_of" = some (some (.ref f6))) (l6 : K.lookup f6 = some ⟨oc6, od6, .func (PySem.W.fnOf "part_of" "part_of" (defArgs s_part_of) (defBody s_part_of) (defScope s_part_of) .none kV6 dc6 pm6 an6 cd6 ct6), sl6⟩) (c6 : PySem.W.codeIn K cd6 "part_of" = true) (k6 : PySem.W.keepIn K (.ref f6) = true)
    (a7 : PySem.W.nsIn K mainGlobals "turned" = some (some (.ref f7))) (l7 : K.lookup f7 = some ⟨oc7, od7, .func (PySem.W.fnOf "turned" "turned" (defArgs s_turned) (defBody s_turned) (defScope s_turned) .none kV7 dc7 pm7 an7 cd7 ct7), sl7⟩) (c7 : PySem.W.codeIn K cd7 "turned" = true) (k7 : PySem.W.keepIn K (.ref f7) = true)
    (a8 : PySem.W.nsIn K mainGlobals "led_to" = some (some (.ref f8))) (l8 : K.lookup f8 = some ⟨oc8, od8, .func (PySem.W.fnOf "led_to" "led_to" (defArgs s_led_to) (defBody s_led_to) (defScope s_led_to) .none kV8 dc8 pm8 an8 cd8 ct8), sl8⟩) (c8 : PySem.W.codeIn K cd8 "led_to" = true) (k8 : PySem.W.keepIn K (.ref f8) = true)
    (a9 : PySem.W.nsIn K mainGlobals "sign_of" = some (some (.ref f9))) (l9 : K.lookup f9 = some ⟨oc9, od9, .func (PySem.W.fnOf "sign_of" "sign_of" (defArgs s_sign_of) (defBody s_sign_of) (defScope s_sign_of) .none kV9 dc9 pm9 an9 cd9 ct9), sl9⟩) (c9 : PySem.W.codeIn K cd9 "sign_of" = true) (k9 : PySem.W.keepIn K (.ref f9) = true)
    (a10 : PySem.W.nsIn K mainGlobals "signed_square" = some (some (.ref f10))) (l10 : K.lookup f10 = some ⟨oc10, od10, .func (PySem.W.fnOf "signed_square" "signed_square" (defArgs s_signed_square) (defBody s_signed_square) (defScope s_signed_square) .none kV10 dc10 pm10 an10 cd10 ct10), sl10⟩) (c10 : PySem.W.codeIn K cd10 "signed_square" = true) (k10 : PySem.W.keepIn K (.ref f10) = true)
    (a11 : PySem.W.nsIn K mainGlobals "spread_out" = some (some (.ref f11))) (l11 : K.lookup f11 = some ⟨oc11, od11, .func (PySem.W.fnOf "spread_out" "spread_out" (defArgs s_spread_out) (defBody s_spread_out) (defScope s_spread_out) .none kV11 dc11 pm11 an11 cd11 ct11), sl11⟩) (c11 : PySem.W.codeIn K cd11 "spread_out" = true) (k11 : PySem.W.keepIn K (.ref f11) = true)
    (a12 : PySem.W.nsIn K mainGlobals "sign_with_root" = some (some (.ref f12))) (l12 : K.lookup f12 = some ⟨oc12, od12, .func (PySem.W.fnOf "sign_with_root" "sign_with_root" (defArgs s_sign_with_root) (defBody s_sign_with_root) (defScope s_sign_with_root) .none kV12 dc12 pm12 an12 cd12 ct12), sl12⟩) (c12 : PySem.W.codeIn K cd12 "sign_with_root" = true) (k12 : PySem.W.keepIn K (.ref f12) = true)
    (a13 : PySem.W.nsIn K mainGlobals "sign_with_two_roots" = some (some (.ref f13))) (l13 : K.lookup f13 = some ⟨oc13, od13, .func (PySem.W.fnOf "sign_with_two_roots" "sign_with_two_roots" (defArgs s_sign_with_two_roots) (defBody s_sign_with_two_roots) (defScope s_sign_with_two_roots) .none kV13 dc13 pm13 an13 cd13 ct13), sl13⟩) (c13 : PySem.W.codeIn K cd13 "sign_with_two_roots" = true) (k13 : PySem.W.keepIn K (.ref f13) = true)
    (a14 : PySem.W.nsIn K mainGlobals "compare" = some (some (.ref f14))) (l14 : K.lookup f14 = some ⟨oc14, od14, .func (PySem.W.fnOf "compare" "compare" (defArgs s_compare) (defBody s_compare) (defScope s_compare) .none kV14 dc14 pm14 an14 cd14 ct14), sl14⟩) (c14 : PySem.W.codeIn K cd14 "compare" = true) (k14 : PySem.W.keepIn K (.ref f14) = true)
    (a15 : PySem.W.nsIn K mainGlobals "fraction_of" = some (some (.ref f15))) (l15 : K.lookup f15 = some ⟨oc15, od15, .func (PySem.W.fnOf "fraction_of" "fraction_of" (defArgs s_fraction_of) (defBody s_fraction_of) (defScope s_fraction_of) .none kV15 dc15 pm15 an15 cd15 ct15), sl15⟩) (c15 : PySem.W.codeIn K cd15 "fraction_of" = true) (k15 : PySem.W.keepIn K (.ref f15) = true)
    (a16 : PySem.W.nsIn K mainGlobals "mirrored" = some (some (.ref f16))) (l16 : K.lookup f16 = some ⟨oc16, od16, .func (PySem.W.fnOf "mirrored" "mirrored" (defArgs s_mirrored) (defBody s_mirrored) (defScope s_mirrored) .none kV16 dc16 pm16 an16 cd16 ct16), sl16⟩) (c16 : PySem.W.codeIn K cd16 "mirrored" = true) (k16 : PySem.W.keepIn K (.ref f16) = true)
    (a17 : PySem.W.nsIn K mainGlobals "simplest_above" = some (some (.ref f17))) (l17 : K.lookup f17 = some ⟨oc17, od17, .func (PySem.W.fnOf "simplest_above" "simplest_above" (defArgs s_simplest_above) (defBody s_simplest_above) (defScope s_simplest_above) .none kV17 dc17 pm17 an17 cd17 ct17), sl17⟩) (c17 : PySem.W.codeIn K cd17 "simplest_above" = true) (k17 : PySem.W.keepIn K (.ref f17) = true)
    (a18 : PySem.W.nsIn K mainGlobals "simplest" = some (some (.ref f18))) (l18 : K.lookup f18 = some ⟨oc18, od18, .func (PySem.W.fnOf "simplest" "simplest" (defArgs s_simplest) (defBody s_simplest) (defScope s_simplest) .none kV18 dc18 pm18 an18 cd18 ct18), sl18⟩) (c18 : PySem.W.codeIn K cd18 "simplest" = true) (k18 : PySem.W.keepIn K (.ref f18) = true)
    (a19 : PySem.W.nsIn K mainGlobals "_law_cell" = some (some (.ref f19))) (l19 : K.lookup f19 = some ⟨oc19, od19, .func (PySem.W.fnOf "_law_cell" "_law_cell" (defArgs s_law_cell) (defBody s_law_cell) (defScope s_law_cell) .none kV19 dc19 pm19 an19 cd19 ct19), sl19⟩) (c19 : PySem.W.codeIn K cd19 "_law_cell" = true) (k19 : PySem.W.keepIn K (.ref f19) = true)
    (a20 : PySem.W.nsIn K mainGlobals "_law_mix" = some (some (.ref f20))) (l20 : K.lookup f20 = some ⟨oc20, od20, .func (PySem.W.fnOf "_law_mix" "_law_mix" (defArgs s_law_mix) (defBody s_law_mix) (defScope s_law_mix) .none kV20 dc20 pm20 an20 cd20 ct20), sl20⟩) (c20 : PySem.W.codeIn K cd20 "_law_mix" = true) (k20 : PySem.W.keepIn K (.ref f20) = true)
    (a21 : PySem.W.nsIn K mainGlobals "_law_whole" = some (some (.ref f21))) (l21 : K.lookup f21 = some ⟨oc21, od21, .func (PySem.W.fnOf "_law_whole" "_law_whole" (defArgs s_law_whole) (defBody s_law_whole) (defScope s_law_whole) .none kV21 dc21 pm21 an21 cd21 ct21), sl21⟩) (c21 : PySem.W.codeIn K cd21 "_law_whole" = true) (k21 : PySem.W.keepIn K (.ref f21) = true)
    (a22 : PySem.W.nsIn K mainGlobals "_law_divisor" = some (some (.ref f22))) (l22 : K.lookup f22 = some ⟨oc22, od22, .func (PySem.W.fnOf "_law_divisor" "_law_divisor" (defArgs s_law_divisor) (defBody s_law_divisor) (defScope s_law_divisor) .none kV22 dc22 pm22 an22 cd22 ct22), sl22⟩) (c22 : PySem.W.codeIn K cd22 "_law_divisor" = true) (k22 : PySem.W.keepIn K (.ref f22) = true)
    (a23 : PySem.W.nsIn K mainGlobals "_law_lowest" = some (some (.ref f23))) (l23 : K.lookup f23 = some ⟨oc23, od23, .func (PySem.W.fnOf "_law_lowest" "_law_lowest" (defArgs s_law_lowest) (defBody s_law_lowest) (defScope s_law_lowest) .none kV23 dc23 pm23 an23 cd23 ct23), sl23⟩) (c23 : PySem.W.codeIn K cd23 "_law_lowest" = true) (k23 : PySem.W.keepIn K (.ref f23) = true)
    (a24 : PySem.W.nsIn K mainGlobals "_law_fraction" = some (some (.ref f24))) (l24 : K.lookup f24 = some ⟨oc24, od24, .func (PySem.W.fnOf "_law_fraction" "_law_fraction" (defArgs s_law_fraction) (defBody s_law_fraction) (defScope s_law_fraction) .none kV24 dc24 pm24 an24 cd24 ct24), sl24⟩) (c24 : PySem.W.codeIn K cd24 "_law_fraction" = true) (k24 : PySem.W.keepIn K (.ref f24) = true)
    (a25 : PySem.W.nsIn K mainGlobals "_law_square" = some (some (.ref f25))) (l25 : K.lookup f25 = some ⟨oc25, od25, .func (PySem.W.fnOf "_law_square" "_law_square" (defArgs s_law_square) (defBody s_law_square) (defScope s_law_square) .none kV25 dc25 pm25 an25 cd25 ct25), sl25⟩) (c25 : PySem.W.codeIn K cd25 "_law_square" = true) (k25 : PySem.W.keepIn K (.ref f25) = true)
    (a26 : PySem.W.nsIn K mainGlobals "_law_root" = some (some (.ref f26))) (l26 : K.lookup f26 = some ⟨oc26, od26, .func (PySem.W.fnOf "_law_root" "_law_root" (defArgs s_law_root) (defBody s_law_root) (defScope s_law_root) .none kV26 dc26 pm26 an26 cd26 ct26), sl26⟩) (c26 : PySem.W.codeIn K cd26 "_law_root" = true) (k26 : PySem.W.keepIn K (.ref f26) = true)
    (a27 : PySem.W.nsIn K mainGlobals "_law_above" = some (some (.ref f27))) (l27 : K.lookup f27 = some ⟨oc27, od27, .func (PySem.W.fnOf "_law_above" "_law_above" (defArgs s_law_above) (defBody s_law_above) (defScope s_law_above) .none kV27 dc27 pm27 an27 cd27 ct27), sl27⟩) (c27 : PySem.W.codeIn K cd27 "_law_above" = true) (k27 : PySem.W.keepIn K (.ref f27) = true)
    (a28 : PySem.W.nsIn K mainGlobals "_law_below" = some (some (.ref f28))) (l28 : K.lookup f28 = some ⟨oc28, od28, .func (PySem.W.fnOf "_law_below" "_law_below" (defArgs s_law_below) (defBody s_law_below) (defScope s_law_below) .none kV28 dc28 pm28 an28 cd28 ct28), sl28⟩) (c28 : PySem.W.codeIn K cd28 "_law_below" = true) (k28 : PySem.W.keepIn K (.ref f28) = true)
    (a29 : PySem.W.nsIn K mainGlobals "_law_over" = some (some (.ref f29))) (l29 : K.lookup f29 = some ⟨oc29, od29, .func (PySem.W.fnOf "_law_over" "_law_over" (defArgs s_law_over) (defBody s_law_over) (defScope s_law_over) .none kV29 dc29 pm29 an29 cd29 ct29), sl29⟩) (c29 : PySem.W.codeIn K cd29 "_law_over" = true) (k29 : PySem.W.keepIn K (.ref f29) = true)
    (a30 : PySem.W.nsIn K mainGlobals "_law_number" = some (some (.ref f30))) (l30 : K.lookup f30 = some ⟨oc30, od30, .func (PySem.W.fnOf "_law_number" "_law_number" (defArgs s_law_number) (defBody s_law_number) (defScope s_law_number) .none kV30 dc30 pm30 an30 cd30 ct30), sl30⟩) (c30 : PySem.W.codeIn K cd30 "_law_number" = true) (k30 : PySem.W.keepIn K (.ref f30) = true)
    (a31 : PySem.W.nsIn K mainGlobals "_law_said" = some (some (.ref f31))) (l31 : K.lookup f31 = some ⟨oc31, od31, .func (PySem.W.fnOf "_law_said" "_law_said" (defArgs s_law_said) (defBody s_law_said) (defScope s_law_said) .none kV31 dc31 pm31 an31 cd31 ct31), sl31⟩) (c31 : PySem.W.codeIn K cd31 "_law_said" = true) (k31 : PySem.W.keepIn K (.ref f31) = true)
    (a32 : PySem.W.nsIn K mainGlobals "_law_within" = some (some (.ref f32))) (l32 : K.lookup f32 = some ⟨oc32, od32, .func (PySem.W.fnOf "_law_within" "_law_within" (defArgs s_law_within) (defBody s_law_within) (defScope s_law_within) .none kV32 dc32 pm32 an32 cd32 ct32), sl32⟩) (c32 : PySem.W.codeIn K cd32 "_law_within" = true) (k32 : PySem.W.keepIn K (.ref f32) = true)
    (a33 : PySem.W.nsIn K mainGlobals "law" = some (some (.ref f33))) (l33 : K.lookup f33 = some ⟨oc33, od33, .func (PySem.W.fnOf "law" "law" (defArgs s_law) (defBody s_law) (defScope s_law) .none kV33 dc33 pm33 an33 cd33 ct33), sl33⟩) (c33 : PySem.W.codeIn K cd33 "law" = true) (k33 : PySem.W.keepIn K (.ref f33) = true)
    (z_abs : PySem.W.nsIn K mainGlobals "abs" = some none)
    (z_len : PySem.W.nsIn K mainGlobals "len" = some none)
    (z_any : PySem.W.nsIn K mainGlobals "any" = some none)
    (z_reversed : PySem.W.nsIn K mainGlobals "reversed" = some none)
    (z_tuple : PySem.W.nsIn K mainGlobals "tuple" = some none)
    (z_isinstance : PySem.W.nsIn K mainGlobals "isinstance" = some none)
    (z_int : PySem.W.nsIn K mainGlobals "int" = some none)
    (z_bool : PySem.W.nsIn K mainGlobals "bool" = some none)
    (z_range : PySem.W.nsIn K mainGlobals "range" = some none)
    (z_ValueError : PySem.W.nsIn K mainGlobals "ValueError" = some none)
    (z_min : PySem.W.nsIn K mainGlobals "min" = some none)
    (z_all : PySem.W.nsIn K mainGlobals "all" = some none)
    (e_RowError : PySem.W.nsIn K mainGlobals "RowError" = some (some (.ref C_RowError))) (x_RowError : PySem.W.excIn K C_RowError [.type "ValueError", .type "Exception", .type "BaseException", .type "object"] "ValueError.__new__" = true)
    (e_NoNumber : PySem.W.nsIn K mainGlobals "NoNumber" = some (some (.ref C_NoNumber))) (x_NoNumber : PySem.W.excIn K C_NoNumber [.type "ValueError", .type "Exception", .type "BaseException", .type "object"] "ValueError.__new__" = true)
    (xe : PySem.W.exmOne K (.ref C_NoNumber) (.ref C_RowError) = some true) (xv : PySem.W.kitOne K (.ref C_NoNumber) (.type "ValueError") = some true)
    (e_ZERO : PySem.W.nsIn K mainGlobals "ZERO" = some (some (.ref C_ZERO))) (y_ZERO : K.lookup C_ZERO = some ⟨.type "tuple", o_ZERO, .seq #[.int 0 t0_ZERO, .int 1 t1_ZERO] n_ZERO, g_ZERO⟩) :
    ∃ fd : FuncData, (∀ (s : Shared) (v : Value), BindsTo s fd ⟨[v], []⟩ [("_law_script", v)]) ∧ ∀ base : Heap, K.In base → base.Ns mainGlobals mg → FnOk l.prog w K mg base CX0 9 fa fd ["_law_script"] (sp_law K) := by
  have e := hfa.symm.trans (PySem.W.mg_of X G a33)
  cases e
  have T : Txt K mg C_RowError C_NoNumber C_ZERO := ⟨PySem.W.mg_none_of X G z_abs, PySem.W.mg_none_of X G z_len, PySem.W.mg_none_of X G z_any, PySem.W.mg_none_of X G z_reversed, PySem.W.mg_none_of X G z_tuple, PySem.W.mg_none_of X G z_isinstance, PySem.W.mg_none_of X G z_int, PySem.W.mg_none_of X G z_bool, PySem.W.mg_none_of X G z_range, PySem.W.mg_none_of X G z_ValueError, PySem.W.mg_none_of X G z_min, PySem.W.mg_none_of X G z_all, PySem.W.mg_of X G e_RowError, PySem.W.mg_of X G e_NoNumber, x_RowError, x_NoNumber, xe, xv, PySem.W.mg_of X G e_ZERO, fun _ => .inr ⟨_, _, _, y_ZERO, rfl, rfl, (show 2 ≤ sizeLine by decide), .cons ⟨_, rfl⟩ (.cons ⟨_, rfl⟩ (.nil))⟩⟩
  have F0 : In K mg "common_divisor" s_common_divisor ["one", "other"] := ⟨_, _, PySem.W.mg_of X G a0, fun_mk (st := s_common_divisor) l0 c0 k0, (fun_mk (st := s_common_divisor) l0 c0 k0).binds (ps := ["one", "other"]) fun _ _ _ _ _ _ us hl => match us, hl with | [_, _], _ => rfl⟩
  have F1 : In K mg "least_square" s_least_square ["n"] := ⟨_, _, PySem.W.mg_of X G a1, fun_mk (st := s_least_square) l1 c1 k1, (fun_mk (st := s_least_square) l1 c1 k1).binds (ps := ["n"]) fun _ _ _ _ _ _ us hl => match us, hl with | [_], _ => rfl⟩
  have F2 : In K mg "heart_of" s_heart_of ["a", "b", "c"] := ⟨_, _, PySem.W.mg_of X G a2, fun_mk (st := s_heart_of) l2 c2 k2, (fun_mk (st := s_heart_of) l2 c2 k2).binds (ps := ["a", "b", "c"]) fun _ _ _ _ _ _ us hl => match us, hl with | [_, _, _], _ => rfl⟩
  have F3 : In K mg "is_square" s_is_square ["n"] := ⟨_, _, PySem.W.mg_of X G a3, fun_mk (st := s_is_square) l3 c3 k3, (fun_mk (st := s_is_square) l3 c3 k3).binds (ps := ["n"]) fun _ _ _ _ _ _ us hl => match us, hl with | [_], _ => rfl⟩
  have F4 : In K mg "divisor_of_all" s_divisor_of_all ["a", "b", "c"] := ⟨_, _, PySem.W.mg_of X G a4, fun_mk (st := s_divisor_of_all) l4 c4 k4, (fun_mk (st := s_divisor_of_all) l4 c4 k4).binds (ps := ["a", "b", "c"]) fun _ _ _ _ _ _ us hl => match us, hl with | [_, _, _], _ => rfl⟩
  have F5 : In K mg "root_of" s_root_of ["a", "b", "c", "side"] := ⟨_, _, PySem.W.mg_of X G a5, fun_mk (st := s_root_of) l5 c5 k5, (fun_mk (st := s_root_of) l5 c5 k5).binds (ps := ["a", "b", "c", "side"]) fun _ _ _ _ _ _ us hl => match us, hl with | [_, _, _, _], _ => rfl⟩
  have F6 : In K mg "part_of" s_part_of ["number"] := ⟨_, _, PySem.W.mg_of X G a6, fun_mk (st := s_part_of) l6 c6 k6, (fun_mk (st := s_part_of) l6 c6 k6).binds (ps := ["number"]) fun _ _ _ _ _ _ us hl => match us, hl with | [_], _ => rfl⟩
  have F7 : In K mg "turned" s_turned ["root", "n"] := ⟨_, _, PySem.W.mg_of X G a7, fun_mk (st := s_turned) l7 c7 k7, (fun_mk (st := s_turned) l7 c7 k7).binds (ps := ["root", "n"]) fun _ _ _ _ _ _ us hl => match us, hl with | [_, _], _ => rfl⟩
  have F8 : In K mg "led_to" s_led_to ["number", "n"] := ⟨_, _, PySem.W.mg_of X G a8, fun_mk (st := s_led_to) l8 c8 k8, (fun_mk (st := s_led_to) l8 c8 k8).binds (ps := ["number", "n"]) fun _ _ _ _ _ _ us hl => match us, hl with | [_, _], _ => rfl⟩
  have F9 : In K mg "sign_of" s_sign_of ["n"] := ⟨_, _, PySem.W.mg_of X G a9, fun_mk (st := s_sign_of) l9 c9 k9, (fun_mk (st := s_sign_of) l9 c9 k9).binds (ps := ["n"]) fun _ _ _ _ _ _ us hl => match us, hl with | [_], _ => rfl⟩
  have F10 : In K mg "signed_square" s_signed_square ["n"] := ⟨_, _, PySem.W.mg_of X G a10, fun_mk (st := s_signed_square) l10 c10 k10, (fun_mk (st := s_signed_square) l10 c10 k10).binds (ps := ["n"]) fun _ _ _ _ _ _ us hl => match us, hl with | [_], _ => rfl⟩
  have F11 : In K mg "spread_out" s_spread_out ["number"] := ⟨_, _, PySem.W.mg_of X G a11, fun_mk (st := s_spread_out) l11 c11 k11, (fun_mk (st := s_spread_out) l11 c11 k11).binds (ps := ["number"]) fun _ _ _ _ _ _ us hl => match us, hl with | [_], _ => rfl⟩
  have F12 : In K mg "sign_with_root" s_sign_with_root ["whole", "times", "heart"] := ⟨_, _, PySem.W.mg_of X G a12, fun_mk (st := s_sign_with_root) l12 c12 k12, (fun_mk (st := s_sign_with_root) l12 c12 k12).binds (ps := ["whole", "times", "heart"]) fun _ _ _ _ _ _ us hl => match us, hl with | [_, _, _], _ => rfl⟩
  have F13 : In K mg "sign_with_two_roots" s_sign_with_two_roots ["whole", "times", "heart", "other_times", "other_heart"] := ⟨_, _, PySem.W.mg_of X G a13, fun_mk (st := s_sign_with_two_roots) l13 c13 k13, (fun_mk (st := s_sign_with_two_roots) l13 c13 k13).binds (ps := ["whole", "times", "heart", "other_times", "other_heart"]) fun _ _ _ _ _ _ us hl => match us, hl with | [_, _, _, _, _], _ => rfl⟩
  have F14 : In K mg "compare" s_compare ["one", "other"] := ⟨_, _, PySem.W.mg_of X G a14, fun_mk (st := s_compare) l14 c14 k14, (fun_mk (st := s_compare) l14 c14 k14).binds (ps := ["one", "other"]) fun _ _ _ _ _ _ us hl => match us, hl with | [_, _], _ => rfl⟩
  have F15 : In K mg "fraction_of" s_fraction_of ["row"] := ⟨_, _, PySem.W.mg_of X G a15, fun_mk (st := s_fraction_of) l15 c15 k15, (fun_mk (st := s_fraction_of) l15 c15 k15).binds (ps := ["row"]) fun _ _ _ _ _ _ us hl => match us, hl with | [_], _ => rfl⟩
  have F16 : In K mg "mirrored" s_mirrored ["number"] := ⟨_, _, PySem.W.mg_of X G a16, fun_mk (st := s_mirrored) l16 c16 k16, (fun_mk (st := s_mirrored) l16 c16 k16).binds (ps := ["number"]) fun _ _ _ _ _ _ us hl => match us, hl with | [_], _ => rfl⟩
  have F17 : In K mg "simplest_above" s_simplest_above ["low", "high"] := ⟨_, _, PySem.W.mg_of X G a17, fun_mk (st := s_simplest_above) l17 c17 k17, (fun_mk (st := s_simplest_above) l17 c17 k17).binds (ps := ["low", "high"]) fun _ _ _ _ _ _ us hl => match us, hl with | [_, _], _ => rfl⟩
  have F18 : In K mg "simplest" s_simplest ["low", "high"] := ⟨_, _, PySem.W.mg_of X G a18, fun_mk (st := s_simplest) l18 c18 k18, (fun_mk (st := s_simplest) l18 c18 k18).binds (ps := ["low", "high"]) fun _ _ _ _ _ _ us hl => match us, hl with | [_, _], _ => rfl⟩
  have F19 : In K mg "_law_cell" s_law_cell ["_law_script", "_law_k"] := ⟨_, _, PySem.W.mg_of X G a19, fun_mk (st := s_law_cell) l19 c19 k19, (fun_mk (st := s_law_cell) l19 c19 k19).binds (ps := ["_law_script", "_law_k"]) fun _ _ _ _ _ _ us hl => match us, hl with | [_, _], _ => rfl⟩
  have F20 : In K mg "_law_mix" s_law_mix ["_law_cell_here", "_law_prime", "_law_many"] := ⟨_, _, PySem.W.mg_of X G a20, fun_mk (st := s_law_mix) l20 c20 k20, (fun_mk (st := s_law_mix) l20 c20 k20).binds (ps := ["_law_cell_here", "_law_prime", "_law_many"]) fun _ _ _ _ _ _ us hl => match us, hl with | [_, _, _], _ => rfl⟩
  have F21 : In K mg "_law_whole" s_law_whole ["_law_found"] := ⟨_, _, PySem.W.mg_of X G a21, fun_mk (st := s_law_whole) l21 c21 k21, (fun_mk (st := s_law_whole) l21 c21 k21).binds (ps := ["_law_found"]) fun _ _ _ _ _ _ us hl => match us, hl with | [_], _ => rfl⟩
  have F22 : In K mg "_law_divisor" s_law_divisor ["_law_one", "_law_other"] := ⟨_, _, PySem.W.mg_of X G a22, fun_mk (st := s_law_divisor) l22 c22 k22, (fun_mk (st := s_law_divisor) l22 c22 k22).binds (ps := ["_law_one", "_law_other"]) fun _ _ _ _ _ _ us hl => match us, hl with | [_, _], _ => rfl⟩
  have F23 : In K mg "_law_lowest" s_law_lowest ["_law_upper", "_law_lower"] := ⟨_, _, PySem.W.mg_of X G a23, fun_mk (st := s_law_lowest) l23 c23 k23, (fun_mk (st := s_law_lowest) l23 c23 k23).binds (ps := ["_law_upper", "_law_lower"]) fun _ _ _ _ _ _ us hl => match us, hl with | [_, _], _ => rfl⟩
  have F24 : In K mg "_law_fraction" s_law_fraction ["_law_cell_here", "_law_other", "_law_wide"] := ⟨_, _, PySem.W.mg_of X G a24, fun_mk (st := s_law_fraction) l24 c24 k24, (fun_mk (st := s_law_fraction) l24 c24 k24).binds (ps := ["_law_cell_here", "_law_other", "_law_wide"]) fun _ _ _ _ _ _ us hl => match us, hl with | [_, _, _], _ => rfl⟩
  have F25 : In K mg "_law_square" s_law_square ["_law_n"] := ⟨_, _, PySem.W.mg_of X G a25, fun_mk (st := s_law_square) l25 c25 k25, (fun_mk (st := s_law_square) l25 c25 k25).binds (ps := ["_law_n"]) fun _ _ _ _ _ _ us hl => match us, hl with | [_], _ => rfl⟩
  have F26 : In K mg "_law_root" s_law_root ["_law_cell_here", "_law_other", "_law_wide"] := ⟨_, _, PySem.W.mg_of X G a26, fun_mk (st := s_law_root) l26 c26 k26, (fun_mk (st := s_law_root) l26 c26 k26).binds (ps := ["_law_cell_here", "_law_other", "_law_wide"]) fun _ _ _ _ _ _ us hl => match us, hl with | [_, _, _], _ => rfl⟩
  have F27 : In K mg "_law_above" s_law_above ["_law_root_here", "_law_upper", "_law_lower"] := ⟨_, _, PySem.W.mg_of X G a27, fun_mk (st := s_law_above) l27 c27 k27, (fun_mk (st := s_law_above) l27 c27 k27).binds (ps := ["_law_root_here", "_law_upper", "_law_lower"]) fun _ _ _ _ _ _ us hl => match us, hl with | [_, _, _], _ => rfl⟩
  have F28 : In K mg "_law_below" s_law_below ["_law_number_here", "_law_upper", "_law_lower"] := ⟨_, _, PySem.W.mg_of X G a28, fun_mk (st := s_law_below) l28 c28 k28, (fun_mk (st := s_law_below) l28 c28 k28).binds (ps := ["_law_number_here", "_law_upper", "_law_lower"]) fun _ _ _ _ _ _ us hl => match us, hl with | [_, _, _], _ => rfl⟩
  have F29 : In K mg "_law_over" s_law_over ["_law_number_here", "_law_upper", "_law_lower"] := ⟨_, _, PySem.W.mg_of X G a29, fun_mk (st := s_law_over) l29 c29 k29, (fun_mk (st := s_law_over) l29 c29 k29).binds (ps := ["_law_number_here", "_law_upper", "_law_lower"]) fun _ _ _ _ _ _ us hl => match us, hl with | [_, _, _], _ => rfl⟩
  have F30 : In K mg "_law_number" s_law_number ["_law_script", "_law_k", "_law_wide"] := ⟨_, _, PySem.W.mg_of X G a30, fun_mk (st := s_law_number) l30 c30 k30, (fun_mk (st := s_law_number) l30 c30 k30).binds (ps := ["_law_script", "_law_k", "_law_wide"]) fun _ _ _ _ _ _ us hl => match us, hl with | [_, _, _], _ => rfl⟩
  have F31 : In K mg "_law_said" s_law_said ["_law_low", "_law_high"] := ⟨_, _, PySem.W.mg_of X G a31, fun_mk (st := s_law_said) l31 c31 k31, (fun_mk (st := s_law_said) l31 c31 k31).binds (ps := ["_law_low", "_law_high"]) fun _ _ _ _ _ _ us hl => match us, hl with | [_, _], _ => rfl⟩
  have F32 : In K mg "_law_within" s_law_within ["_law_low", "_law_high", "_law_upper", "_law_lower"] := ⟨_, _, PySem.W.mg_of X G a32, fun_mk (st := s_law_within) l32 c32 k32, (fun_mk (st := s_law_within) l32 c32 k32).binds (ps := ["_law_low", "_law_high", "_law_upper", "_law_lower"]) fun _ _ _ _ _ _ us hl => match us, hl with | [_, _, _, _], _ => rfl⟩
  have F33 : In K mg "law" s_law ["_law_script"] := ⟨_, _, PySem.W.mg_of X G a33, fun_mk (st := s_law) l33 c33 k33, (fun_mk (st := s_law) l33 c33 k33).binds (ps := ["_law_script"]) fun _ _ _ _ _ _ us hl => match us, hl with | [_], _ => rfl⟩
  have FL := fun_mk (st := s_law) l33 c33 k33
  refine ⟨PySem.W.fnOf "law" "law" (defArgs s_law) (defBody s_law) (defScope s_law) .none kV33 dc33 pm33 an33 cd33 ct33, fun s v => .of_eq rfl, fun base _ _ => ?_⟩
  have D_law_mix := d_law_mix (P := l.prog) (w := w) (base := base) F20 T
  have D_law_divisor := d_law_divisor (P := l.prog) (w := w) (base := base) F22 T
  have D_law_square := d_law_square (P := l.prog) (w := w) (base := base) F25 T
  have D_law_root := d_law_root (P := l.prog) (w := w) (base := base) F26 T D_law_mix D_law_divisor D_law_square
  have D_law_lowest := d_law_lowest (P := l.prog) (w := w) (base := base) F23 T D_law_divisor
  have D_law_fraction := d_law_fraction (P := l.prog) (w := w) (base := base) F24 T D_law_lowest D_law_mix
  have D_law_cell := d_law_cell (P := l.prog) (w := w) (base := base) F19 T
  have D_law_number := d_law_number (P := l.prog) (w := w) (base := base) F30 T D_law_root D_law_fraction D_law_cell
  have D_mirrored := d_mirrored (P := l.prog) (w := w) (base := base) F16 T
  have D_heart_of := d_heart_of (P := l.prog) (w := w) (base := base) F2 T
  have D_spread_out := d_spread_out (P := l.prog) (w := w) (base := base) F11 T D_heart_of
  have D_sign_of := d_sign_of (P := l.prog) (w := w) (base := base) F9 T
  have D_signed_square := d_signed_square (P := l.prog) (w := w) (base := base) F10 T
  have D_sign_with_root := d_sign_with_root (P := l.prog) (w := w) (base := base) F12 T D_sign_of D_signed_square
  have D_sign_with_two_roots := d_sign_with_two_roots (P := l.prog) (w := w) (base := base) F13 T D_sign_of D_sign_with_root D_signed_square
  have D_compare := d_compare (P := l.prog) (w := w) (base := base) F14 T D_spread_out D_sign_with_two_roots
  have D_least_square := d_least_square (P := l.prog) (w := w) (base := base) F1 T
  have D_part_of := d_part_of (P := l.prog) (w := w) (base := base) F6 T D_least_square D_heart_of
  have D_fraction_of := d_fraction_of (P := l.prog) (w := w) (base := base) F15 T
  have D_common_divisor := d_common_divisor (P := l.prog) (w := w) (base := base) F0 T
  have D_divisor_of_all := d_divisor_of_all (P := l.prog) (w := w) (base := base) F4 T D_common_divisor
  have D_is_square := d_is_square (P := l.prog) (w := w) (base := base) F3 T D_least_square
  have D_root_of := d_root_of (P := l.prog) (w := w) (base := base) F5 T D_heart_of D_divisor_of_all D_is_square
  have D_turned := d_turned (P := l.prog) (w := w) (base := base) F7 T D_root_of
  have D_led_to := d_led_to (P := l.prog) (w := w) (base := base) F8 T D_turned
  have D_simplest_above := d_simplest_above (P := l.prog) (w := w) (base := base) F17 T D_part_of D_fraction_of D_led_to D_compare
  have D_simplest := d_simplest (P := l.prog) (w := w) (base := base) F18 T D_mirrored D_compare D_simplest_above
  have D_law_said := d_law_said (P := l.prog) (w := w) (base := base) F31 T D_simplest
  have D_law_above := d_law_above (P := l.prog) (w := w) (base := base) F27 T
  have D_law_below := d_law_below (P := l.prog) (w := w) (base := base) F28 T D_law_above
  have D_law_over := d_law_over (P := l.prog) (w := w) (base := base) F29 T D_law_above
  have D_law_within := d_law_within (P := l.prog) (w := w) (base := base) F32 T D_law_below D_law_over
  have D_law_whole := d_law_whole (P := l.prog) (w := w) (base := base) F21 T
  exact ok_law FL T D_law_number D_law_said D_compare D_law_lowest D_law_within D_part_of D_law_whole
theorem walk {l : PySem.W.OpenLaw} {q : Program} {loose : List Str} {XP : (Str → Option Value) → Heap → Prop} {YP : World → Heap → Prop} {d : DefRec} {K : Params → PySem.W.Frag} (hn : l.most = some 63) (hdf : d.params.defaults = [])
    (hY : ∀ (w : World) (h : Heap), YP w h → (K w.params).In h)
    (F : ∀ (w : World) (mg : Str → Option Value) (fa : Addr) (h : Heap), (K w.params).In h → h.Ns mainGlobals mg → mg d.name = some (.ref fa) →
      ∃ fd : FuncData, (∀ (s : Shared) (u : Value), BindsTo s fd ⟨[u], []⟩ [("_law_script", u)]) ∧ ∀ base : Heap, (K w.params).In base → base.Ns mainGlobals mg → FnOk l.prog w (K w.params) mg base CX0 9 fa fd ["_law_script"] (sp_law (K w.params))) :
    PySem.W.WalkO q loose XP YP l.row.toRowW d [] (fun f vs => PySem.call f vs) :=
  L2.walk_of (n := 63) (k := 9) (x := "_law_script") (CX := fun _ => CX0) (sp := fun w => sp_law (K w.params)) hn (by decide) hdf ⟨rfl, by decide, by decide⟩ hY F (fun _ _ a ns hl _ hS => ⟨a, ns, rfl, hS, hl, fun _ => rfl⟩) fun _ _ _ _ _ z => z
end Own
open PySem PySem.W PyProof.Rows
set_option maxRecDepth 100000 in
set_option maxHeartbeats 0 in
theorem PySem.Challenge.cw_rootrow_k07_whole_simplest_between_holds : PySem.Challenge.rw_rootrow_k07_whole_simplest_between.Holds := by
  w_on; o_law; k_head; (case hw => w_witness2)
  k_fill
  refine Own.walk (l := PySem.Challenge.rw_rootrow_k07_whole_simplest_between) rfl rfl (fun w h Y => PySem.W.kIn_of Y) ?F
  case F =>
    intro w mg fa h KX G hmg
    refine' Own.all_mk KX G hmg ?a0 ?l0 ?c0 ?k0 ?a1 ?l1 ?c1 ?k1 ?a2 ?l2 ?c2 ?k2 ?a3 ?l3 ?c3 ?k3 ?a4 ?l4 ?c4 ?k4 ?a5 ?l5 ?c5 ?k5 ?a6 ?l6 ?c6 ?k6 ?a7 ?l7 ?c7 ?k7 ?a8 ?l8 ?c8 ?k8 ?a9 ?l9 ?c9 ?k9 ?a10 ?l10 ?c10 ?k10 ?a11 ?l11 ?c11 ?k11 ?a12 ?l12 ?c12 ?k12 ?a13 ?l13 ?c13 ?k13 ?a14 ?l14 ?c14 ?k14 ?a15 ?l15 ?c15 ?k15 ?a16 ?l16 ?c16 ?k16 ?a17 ?l17 ?c17 ?k17 ?a18 ?l18 ?c18 ?k18 ?a19 ?l19 ?c19 ?k19 ?a20 ?l20 ?c20 ?k20 ?a21 ?l21 ?c21 ?k21 ?a22 ?l22 ?c22 ?k22 ?a23 ?l23 ?c23 ?k23 ?a24 ?l24 ?c24 ?k24 ?a25 ?l25 ?c25 ?k25 ?a26 ?l26 ?c26 ?k26 ?a27 ?l27 ?c27 ?k27 ?a28 ?l28 ?c28 ?k28 ?a29 ?l29 ?c29 ?k29 ?a30 ?l30 ?c30 ?k30 ?a31 ?l31 ?c31 ?k31 ?a32 ?l32 ?c32 ?k32 ?a33 ?l33 ?c33 ?k33 ?z_abs ?z_len ?z_any ?z_reversed ?z_tuple ?z_isinstance ?z_int ?z_bool ?z_range ?z_ValueError ?z_min ?z_all ?e_RowError ?x_RowError ?e_NoNumber ?x_NoNumber ?xe ?xv ?e_ZERO ?y_ZERO
    (case a0 => k_is)
    (case l0 => k_is)
    (case c0 => k_is)
    (case k0 => k_is)
    (case a1 => k_is)
    (case l1 => k_is)
    (case c1 => k_is)
    (case k1 => k_is)
    (case a2 => k_is)
    (case l2 => k_is)
    (case c2 => k_is)
    (case k2 => k_is)
    (case a3 => k_is)
    (case l3 => k_is)
    (case c3 => k_is)
    (case k3 => k_is)
    (case a4 => k_is)
    (case l4 => k_is)
    (case c4 => k_is)
    (case k4 => k_is)
    (case a5 => k_is)
    (case l5 => k_is)
    (case c5 => k_is)
    (case k5 => k_is)
    (case a6 => k_is)
    (case l6 => k_is)
    (case c6 => k_is)
    (case k6 => k_is)
    (case a7 => k_is)
    (case l7 => k_is)
    (case c7 => k_is)
    (case k7 => k_is)
    (case a8 => k_is)
    (case l8 => k_is)
    (case c8 => k_is)
    (case k8 => k_is)
    (case a9 => k_is)
    (case l9 => k_is)
    (case c9 => k_is)
    (case k9 => k_is)
    (case a10 => k_is)
    (case l10 => k_is)
    (case c10 => k_is)
    (case k10 => k_is)
    (case a11 => k_is)
    (case l11 => k_is)
    (case c11 => k_is)
    (case k11 => k_is)
    (case a12 => k_is)
    (case l12 => k_is)
    (case c12 => k_is)
    (case k12 => k_is)
    (case a13 => k_is)
    (case l13 => k_is)
    (case c13 => k_is)
    (case k13 => k_is)
    (case a14 => k_is)
    (case l14 => k_is)
    (case c14 => k_is)
    (case k14 => k_is)
    (case a15 => k_is)
    (case l15 => k_is)
    (case c15 => k_is)
    (case k15 => k_is)
    (case a16 => k_is)
    (case l16 => k_is)
    (case c16 => k_is)
    (case k16 => k_is)
    (case a17 => k_is)
    (case l17 => k_is)
    (case c17 => k_is)
    (case k17 => k_is)
    (case a18 => k_is)
    (case l18 => k_is)
    (case c18 => k_is)
    (case k18 => k_is)
    (case a19 => k_is)
    (case l19 => k_is)
    (case c19 => k_is)
    (case k19 => k_is)
    (case a20 => k_is)
    (case l20 => k_is)
    (case c20 => k_is)
    (case k20 => k_is)
    (case a21 => k_is)
    (case l21 => k_is)
    (case c21 => k_is)
    (case k21 => k_is)
    (case a22 => k_is)
    (case l22 => k_is)
    (case c22 => k_is)
    (case k22 => k_is)
    (case a23 => k_is)
    (case l23 => k_is)
    (case c23 => k_is)
    (case k23 => k_is)
    (case a24 => k_is)
    (case l24 => k_is)
    (case c24 => k_is)
    (case k24 => k_is)
    (case a25 => k_is)
    (case l25 => k_is)
    (case c25 => k_is)
    (case k25 => k_is)
    (case a26 => k_is)
    (case l26 => k_is)
    (case c26 => k_is)
    (case k26 => k_is)
    (case a27 => k_is)
    (case l27 => k_is)
    (case c27 => k_is)
    (case k27 => k_is)
    (case a28 => k_is)
    (case l28 => k_is)
    (case c28 => k_is)
    (case k28 => k_is)
    (case a29 => k_is)
    (case l29 => k_is)
    (case c29 => k_is)
    (case k29 => k_is)
    (case a30 => k_is)
    (case l30 => k_is)
    (case c30 => k_is)
    (case k30 => k_is)
    (case a31 => k_is)
    (case l31 => k_is)
    (case c31 => k_is)
    (case k31 => k_is)
    (case a32 => k_is)
    (case l32 => k_is)
    (case c32 => k_is)
    (case k32 => k_is)
    (case a33 => k_is)
    (case l33 => k_is)
    (case c33 => k_is)
    (case k33 => k_is)
    (case z_abs => k_is)
    (case z_len => k_is)
    (case z_any => k_is)
    (case z_reversed => k_is)
    (case z_tuple => k_is)
    (case z_isinstance => k_is)
    (case z_int => k_is)
    (case z_bool => k_is)
    (case z_range => k_is)
    (case z_ValueError => k_is)
    (case z_min => k_is)
    (case z_all => k_is)
    (case e_RowError => k_is)
    (case x_RowError => k_exc)
    (case e_NoNumber => k_is)
    (case x_NoNumber => k_exc)
    (case xe => kts_exm)
    (case xv => kit_is)
    (case e_ZERO => k_is)
    (case y_ZERO => k_is)
#print axioms PySem.Challenge.cw_rootrow_k07_whole_simplest_between_holds




