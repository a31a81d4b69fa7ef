import PyProof.Rows.All
import Wide.All
import OpenK.AllK
import Wide.FinOn
import Lean
import PyProof.EqAt
import PyProof.EqKinds
import PyProof.TupleCall
import PyProof.NeKinds
import PyProof.FitsBits
import PyProof.AutoIntG2
import PyProof.FactsAll.int_6
import PyProof.CompFree
import PyProof.ConsumeWalk
import KE.KTupSum
import KE.KRevIter
import PyProof.Draws
import PyProof.EnumMake
import PyProof.Rows.EnumRows
import PyProof.Rows.TupIter
import PySem.Challenge.RW_rootrow_k09_whole_neighbours
set_option Elab.async false
set_option linter.all false
set_option maxRecDepth 100000
/-! THE HAND LAYER, for ints, bools, texts, own classes, LISTS and tuples (index, slices, in, append, pop ..), calls, loops. Paste it whole ahead of your own text; what your proof does not reach may be deleted. -/
namespace L2
open PySem PySem.Spec PyProof.Rows

/-- a key: an int or a str -/
abbrev Key := Sum Int Str
def keyIs : Key → Value → Bool
  | .inl k, v => Value.isInt k v
  | .inr x, v => Value.isStrOf x v
def keyH (w : World) : Key → Int
  | .inl k => hashInt k
  | .inr x => hashStr w x
theorem keyIs_shape : ∀ {k : Key} {v : Value}, keyIs k v = true → (∃ i t, k = Sum.inl i ∧ v = Value.int i t) ∨ (∃ x t, k = Sum.inr x ∧ v = Value.str x t)
  | .inl i, v, h => by
    obtain ⟨t, e⟩ := Value.isInt_shape (k := i) (v := v) h
    exact .inl ⟨i, t, rfl, e⟩
  | .inr x, v, h => by
    obtain ⟨t, e⟩ := Value.isStrOf_shape (x := x) (v := v) h
    exact .inr ⟨x, t, rfl, e⟩
theorem key_ll (a b : Int) : decide ((Sum.inl a : Key) = Sum.inl b) = (a == b) := by
  by_cases e : a = b
  · subst e; simp
  · have h : ¬ (Sum.inl a : Key) = Sum.inl b := fun q => e (Sum.inl.inj q)
    rw [decide_eq_false h]
    exact (beq_eq_false_iff_ne.mpr e).symm
theorem key_rr (a b : Str) : decide ((Sum.inr a : Key) = Sum.inr b) = decide (a = b) := by
  by_cases e : a = b
  · subst e; simp
  · have h : ¬ (Sum.inr a : Key) = Sum.inr b := fun q => e (Sum.inr.inj q)
    rw [decide_eq_false h, decide_eq_false e]
theorem key_lr (a : Int) (b : Str) : decide ((Sum.inl a : Key) = Sum.inr b) = false := decide_eq_false (fun q => nomatch q)
theorem key_rl (a : Str) (b : Int) : decide ((Sum.inr a : Key) = Sum.inl b) = false := decide_eq_false (fun q => nomatch q)

def mixKind (prog : Program) (w : World) : PySem.KeyKind prog w Key where
  is := keyIs
  hash := keyH w
  inj := fun v a b ha hb => by
    rcases keyIs_shape ha with ⟨i, t, rfl, rfl⟩ | ⟨x, t, rfl, rfl⟩
    · rcases keyIs_shape hb with ⟨j, u, rfl, e⟩ | ⟨y, u, rfl, e⟩
      · injection e with e1 _; rw [e1]
      · exact nomatch e
    · rcases keyIs_shape hb with ⟨j, u, rfl, e⟩ | ⟨y, u, rfl, e⟩
      · exact nomatch e
      · injection e with e1 _; rw [e1]
  byValue := fun k v h => by
    rcases keyIs_shape h with ⟨i, t, rfl, rfl⟩ | ⟨x, t, rfl, rfl⟩ <;> rfl
  pyHash := fun hv h => by
    rcases keyIs_shape hv with ⟨i, t, rfl, rfl⟩ | ⟨x, t, rfl, rfl⟩
    · exact wpAny_pyHash_int h
    · exact wpAny_pyHash_str h
  eqBool := fun hu hv h => by
    rcases keyIs_shape hu with ⟨i, t, rfl, rfl⟩ | ⟨x, t, rfl, rfl⟩
    · rcases keyIs_shape hv with ⟨j, u, rfl, rfl⟩ | ⟨y, u, rfl, rfl⟩
      · rw [key_ll] at h; exact wpAny_eqBool_int h
      · rw [key_lr] at h; exact SeqAt.EqAt.int_str i t y u _ _ _ _ h
    · rcases keyIs_shape hv with ⟨j, u, rfl, rfl⟩ | ⟨y, u, rfl, rfl⟩
      · rw [key_rl] at h; exact SeqAt.EqAt.str_int x t j u _ _ _ _ h
      · rw [key_rr] at h; exact wpAny_eqBool_str h
  «strs» := fun k x t v h => by
    rcases keyIs_shape h with ⟨i, u, rfl, e⟩ | ⟨y, u, rfl, e⟩
    · exact nomatch e
    · injection e with e1 _
      subst e1
      cases v <;> rfl

end L2

namespace L2
open PySem PySem.Spec PyProof.Rows

/-- a value, without the heap -/
inductive V where
  | non | bl (b : Bool) | int (i : Int) | str (x : Str) | byt (b : Array UInt8) | flt (b : UInt64) | ref (a : Addr) | ty (n : String)
  deriving DecidableEq

def RelV : V → Value → Prop
  | .non, u => u = Value.none
  | .bl b, u => u = Value.bool b
  | .int i, u => ∃ t, u = Value.int i t
  | .str x, u => ∃ t, u = Value.str x t
  | .byt b, u => ∃ t, u = Value.bytes b t
  | .flt b, u => ∃ t, u = Value.float b t
  | .ref a, u => u = Value.ref a
  | .ty n, u => u = Value.type n

abbrev Vals : List V → List Value → Prop := Paired RelV
theorem Vals.length {xs : List V} {us : List Value} (r : Vals xs us) : xs.length = us.length := Paired.length r
theorem Vals.get : ∀ {xs : List V} {us : List Value} {i : Nat} {x : V}, Vals xs us → xs[i]? = some x → ∃ u, us[i]? = some u ∧ RelV x u
  | _, _, _, _, .nil, e => by simp at e
  | _, _, 0, _, .cons r _, e => by simp at e; subst e; exact ⟨_, rfl, r⟩
  | _, _, i + 1, x, .cons _ t, e => by
    obtain ⟨u, h1, h2⟩ := Vals.get (i := i) (x := x) t (by simpa using e)
    exact ⟨u, by simpa using h1, h2⟩
theorem Vals.set {x : V} {u : Value} (r : RelV x u) : ∀ {xs : List V} {us : List Value} (i : Nat), Vals xs us → Vals (xs.set i x) (us.set i u)
  | _, _, _, .nil => .nil
  | _, _, 0, .cons _ t => .cons r t
  | _, _, i + 1, .cons q t => .cons q (Vals.set r i t)
theorem Vals.append : ∀ {xs ys : List V} {us ws : List Value}, Vals xs us → Vals ys ws → Vals (xs ++ ys) (us ++ ws)
  | _, _, _, _, .nil, s => s
  | _, _, _, _, .cons r t, s => .cons r (Vals.append t s)
theorem Vals.take : ∀ {xs : List V} {us : List Value} (n : Nat), Vals xs us → Vals (xs.take n) (us.take n)
  | _, _, 0, _ => .nil
  | _, _, _ + 1, .nil => .nil
  | _, _, n + 1, .cons r t => .cons r (Vals.take n t)
theorem Vals.drop : ∀ {xs : List V} {us : List Value} (n : Nat), Vals xs us → Vals (xs.drop n) (us.drop n)
  | _, _, 0, r => r
  | _, _, _ + 1, .nil => .nil
  | _, _, n + 1, .cons _ t => Vals.drop n t
theorem Vals.none_of : ∀ {xs : List V} {us : List Value} {i : Nat}, Vals xs us → xs[i]? = none → us[i]? = none := fun {xs us i} r e => by
  have h1 := r.length
  have h2 : xs.length ≤ i := List.getElem?_eq_none_iff.mp e
  exact List.getElem?_eq_none_iff.mpr (by omega)

def RelO : Option V → Option Value → Prop
  | some v, some u => RelV v u
  | none, none => True
  | _, _ => False
def KV {κ : Type} : List (κ × V) → List (κ × Value) → Prop := Paired fun (p : κ × V) (q : κ × Value) => p.1 = q.1 ∧ RelV p.2 q.2

/-- a key of a dict (00_mix): an int or a text -/
def kV : Key → V
  | .inl i => .int i
  | .inr x => .str x

/-- what stands at a tracked address -/
inductive HO where
  /-- a list -/
  | lst (xs : List V)
  /-- a tuple (never changes) -/
  | tup (xs : List V)
  /-- a dict whose keys are ints and texts; one whose keys are tuples of ints and texts (the empty one is both) -/
  | dK (kvs : List (Key × V)) | dT (kvs : List (List Key × V))
  /-- a set of ints: its members, its size -/
  | set (S : Int → Bool) (n : Nat)
  /-- an instance of the class at C, its dict at dx, its attributes -/
  | ins (C dx : Addr) (fs : List (Str × V))
  /-- the dict of the instance at x -/
  | own (x : Addr)
  /-- the dict of an exception -/
  | xd (fs : List (Str × V))
  /-- a bound method, f of x -/
  | met (f x : Addr)
  /-- a range object lo, lo + 1, .. below hi -/
  | rng (lo hi : Int)
  /-- a thing that is known to the object (the script; a dict while a loop walks it): read, never written while it is so -/
  | frz (o : Obj) (u : HO)
  /-- a code object's table -/
  | tbl (ps : Array Value)
  /-- any other thing, by what is true of its one object (a def of one's own: SetO a S n := HO.ext fun h => ..) -/
  | ext (φ : Heap → Prop)

abbrev Hp := Addr → Option HO
def upd (H : Hp) (a : Addr) (o : HO) : Hp := fun b => if b = a then some o else H b
theorem upd_same {H : Hp} {a : Addr} {o : HO} : upd H a o a = some o := by unfold upd; rw [if_pos rfl]
theorem upd_ne {H : Hp} {a b : Addr} {o : HO} (h : b ≠ a) : upd H a o b = H b := by unfold upd; rw [if_neg h]
theorem ne_of_none {H : Hp} {a b : Addr} {o : HO} (h : H a = some o) (h' : H b = none) : a ≠ b := by
  intro e; subst e; rw [h] at h'; cases h'

section
variable (P : Program) (w : World)
def ObjOk (H : Hp) (h : Heap) (a : Addr) : HO → Prop
  | .lst xs => xs.length ≤ sizeLine ∧ ∃ (its : List Value) (n : Nat), Vals xs its ∧ h.get? a = some { cls := .type "list", data := .seq its.toArray n }
  | .tup xs => xs.length ≤ sizeLine ∧ ∃ its : List Value, Vals xs its ∧ IsTup h a its.toArray
  | .dK kvs => kvs.length ≤ sizeLine ∧ (a == sysModules) = false ∧ ∃ vs, KV kvs vs ∧ h.DictOf (mixKind P w) a vs
  | .dT kvs => kvs.length ≤ sizeLine ∧ (a == sysModules) = false ∧ ∃ xs : List (List Key × Addr × Value),
      Paired (fun (p : List Key × V) (q : List Key × Addr × Value) => p.1 = q.1 ∧ H q.2.1 = some (.tup (p.1.map kV)) ∧ RelV p.2 q.2.2) kvs xs ∧
      ∃ o es ep, h.get? a = some o ∧ o.ExactDict ∧ o.data = .dict es ep ∧ es.toList = xs.map (entryOfKey (tupleKind (mixKind P w))) ∧ (xs.map (·.1)).Nodup
  | .set S n => h.SetOf (intKind P w) a S n
  | .ins C dx fs => H dx = some (.own a) ∧ fs.length ≤ 1000 ∧ dx ≠ a ∧ h.get? a = some (PySem.W.instObj C dx) ∧
      ∃ mA, h.Ns1 dx mA ∧ (∀ f, RelO (fs.lookup f) (mA f)) ∧ PySem.Within mA (fs.map (·.1))
  | .own _ => ∃ o, h.get? a = some o
  | .xd fs => ∃ mA, h.Ns1 a mA ∧ ∀ f, RelO (fs.lookup f) (mA f)
  | .rng lo hi => ∃ t u v, h.get? a = some { cls := .type "range", data := .fields #[.int lo t, .int hi u, .int 1 v] }
  | .frz o u => h.get? a = some o ∧ ObjOk H h a u
  | .tbl ps => h.get? a = some { cls := .none, data := .fields ps }
  | .met f x => h.get? a = some (PySem.W.methodObj (.ref f) (.ref x))
  | .ext φ => φ h ∧ (∃ o, h.get? a = some o) ∧ ∀ h1 h2 : Heap, φ h1 → (∀ o, h1.get? a = some o → h2.get? a = some o) → φ h2
/-- the abstract heap is held -/
def HOk (H : Hp) (h : Heap) : Prop := ∀ a o, H a = some o → ObjOk P w H h a o
end

section
variable {P : Program} {w : World} {H H' : Hp} {h h' : Heap} {a : Addr} {o : HO}
theorem ObjOk.lt (x : ObjOk P w H h a o) : a < h.objs.size := by
  cases o with
  | lst xs => obtain ⟨_, _, _, _, e⟩ := x; exact Heap.lt_size e
  | tup xs => obtain ⟨_, _, _, p⟩ := x; exact p.lt
  | dK kvs => obtain ⟨_, _, _, _, o, _, _, e, _⟩ := x; exact Heap.lt_size e
  | dT kvs => obtain ⟨_, _, _, _, o, _, _, e, _⟩ := x; exact Heap.lt_size e
  | set S n => obtain ⟨o, _, _, _, e, _⟩ := x; exact Heap.lt_size e
  | ins C dx fs => obtain ⟨_, _, _, e, _⟩ := x; exact Heap.lt_size e
  | own y => obtain ⟨_, e⟩ := x; exact Heap.lt_size e
  | xd fs => obtain ⟨_, ⟨_, _, _, e, _⟩, _⟩ := x; exact Heap.lt_size e
  | rng lo hi => obtain ⟨_, _, _, e⟩ := x; exact Heap.lt_size e
  | frz ob u => obtain ⟨e, _⟩ := x; exact Heap.lt_size e
  | tbl ps => exact Heap.lt_size (show h.get? a = some _ from x)
  | met f y => exact Heap.lt_size (show h.get? a = some _ from x)
  | ext φ => obtain ⟨_, ⟨_, e⟩, _⟩ := x; exact Heap.lt_size e
theorem Paired.mapP {α β : Type} {F G : α → β → Prop} : ∀ {l₁ : List α} {l₂ : List β}, Paired F l₁ l₂ → (∀ a b, F a b → G a b) → Paired G l₁ l₂
  | _, _, .nil, _ => .nil
  | _, _, .cons r t, f => .cons (f _ _ r) (Paired.mapP t f)
/-- what an object's description leans on: its own object, its own dict, the tuples -/
theorem ObjOk.stay (x : ObjOk P w H h a o) (k : ∀ b u, (b = a ∨ H b = some (.own a)) → h.get? b = some u → h'.get? b = some u)
    (ho : ∀ b, H b = some (.own a) → H' b = some (.own a)) (ht : ∀ b xs, H b = some (.tup xs) → H' b = some (.tup xs)) : ObjOk P w H' h' a o := by
  induction o with
  | lst xs => obtain ⟨z, its, n, r, e⟩ := x; exact ⟨z, its, n, r, k _ _ (.inl rfl) e⟩
  | tup xs => obtain ⟨z, its, r, ob, e, c⟩ := x; exact ⟨z, its, r, ob, k _ _ (.inl rfl) e, c⟩
  | dK kvs => obtain ⟨z, y, vs, r, ob, es, ep, e, c⟩ := x; exact ⟨z, y, vs, r, ob, es, ep, k _ _ (.inl rfl) e, c⟩
  | dT kvs =>
    obtain ⟨z, y, xs, r, ob, es, ep, e, c⟩ := x
    exact ⟨z, y, xs, Paired.mapP r fun p q z => ⟨z.1, ht _ _ z.2.1, z.2.2⟩, ob, es, ep, k _ _ (.inl rfl) e, c⟩
  | set S n => obtain ⟨ob, es, ep, t, e, c⟩ := x; exact ⟨ob, es, ep, t, k _ _ (.inl rfl) e, c⟩
  | ins C dx fs =>
    obtain ⟨d, z, ne, e, mA, ⟨od, es, ep, e2, c⟩, r⟩ := x
    exact ⟨ho _ d, z, ne, k _ _ (.inl rfl) e, mA, ⟨od, es, ep, k _ _ (.inr d) e2, c⟩, r⟩
  | own y => obtain ⟨ob, e⟩ := x; exact ⟨ob, k _ _ (.inl rfl) e⟩
  | xd fs => obtain ⟨mA, ⟨od, es, ep, e, c⟩, r⟩ := x; exact ⟨mA, ⟨od, es, ep, k _ _ (.inl rfl) e, c⟩, r⟩
  | rng lo hi => obtain ⟨t, u, v, e⟩ := x; exact ⟨t, u, v, k _ _ (.inl rfl) e⟩
  | frz ob u ih => obtain ⟨e, q⟩ := x; exact ⟨k _ _ (.inl rfl) e, ih q⟩
  | tbl ps =>
    have e : h.get? a = some { cls := .none, data := .fields ps } := x
    show h'.get? a = some { cls := .none, data := .fields ps }
    exact k a _ (.inl rfl) e
  | met f y =>
    have e : h.get? a = some (PySem.W.methodObj (.ref f) (.ref y)) := x
    show h'.get? a = some (PySem.W.methodObj (.ref f) (.ref y))
    exact k a _ (.inl rfl) e
  | ext φ => obtain ⟨p, ⟨o, e⟩, st⟩ := x; exact ⟨st _ _ p fun o q => k _ _ (.inl rfl) q, ⟨o, k _ _ (.inl rfl) e⟩, st⟩
theorem HOk.lt (x : HOk P w H h) (e : H a = some o) : a < h.objs.size := (x a o e).lt
theorem HOk.fresh (x : HOk P w H h) (e : h.objs.size ≤ a) : H a = none := by
  cases q : H a with
  | none => rfl
  | some u => exact absurd (Nat.lt_of_lt_of_le (x.lt q) e) (Nat.lt_irrefl _)
/-- every object of the heap is kept -/
theorem HOk.kept (x : HOk P w H h) (k : ∀ b u, h.get? b = some u → h'.get? b = some u) : HOk P w H h' := fun a o e =>
  (x a o e).stay (fun b u _ q => k b u q) (fun _ q => q) fun _ _ q => q
/-- a new object is laid and tracked -/
theorem HOk.laid (x : HOk P w H h) (k : ∀ b u, h.get? b = some u → h'.get? b = some u) (hp : h.objs.size ≤ a) (new : ObjOk P w (upd H a o) h' a o) : HOk P w (upd H a o) h' := fun b u e => by
  have hn := x.fresh hp
  by_cases hb : b = a
  · subst hb; rw [upd_same] at e; cases e; exact new
  · rw [upd_ne hb] at e
    exact (x b u e).stay (fun c v _ q => k c v q) (fun c q => by rw [upd_ne (ne_of_none q hn)]; exact q) fun c xs q => by rw [upd_ne (ne_of_none q hn)]; exact q
end

/-- what may be read as u: it is u, or a known u -/
def Rd (H : Hp) (a : Addr) (u : HO) : Prop := H a = some u ∨ ∃ o, H a = some (.frz o u)
theorem Rd.of {H : Hp} {a : Addr} {u : HO} (h : H a = some u) : Rd H a u := .inl h
theorem Rd.ok {P : Program} {w : World} {H : Hp} {h : Heap} {a : Addr} {u : HO} (r : Rd H a u) (x : HOk P w H h) : ObjOk P w H h a u := by
  rcases r with r | ⟨o, r⟩
  · exact x a u r
  · obtain ⟨_, q⟩ := x a _ r
    exact q
/-- what may be written -/
def Mut : Option HO → Prop
  | some (.lst _) => True
  | some (.dK _) => True
  | some (.dT _) => True
  | some (.set _ _) => True
  | some (.ins _ _ _) => True
  | some (.ext _) => True
  | _ => False
section
variable {P : Program} {w : World} {H : Hp} {h h' : Heap} {x e : Addr} {o' : HO}
/-- the object at e is changed: x itself, or the dict of the instance x -/
theorem HOk.write (ok : HOk P w H h) (mu : Mut (H x)) (he : e = x ∨ H e = some (.own x)) (k : ∀ b u, b ≠ e → h.get? b = some u → h'.get? b = some u) (heo : ∃ u, h'.get? e = some u)
    (new : ObjOk P w (upd H x o') h' x o') : HOk P w (upd H x o') h' := fun b u q => by
  have nown : ∀ c y, H c = some (.own y) → c ≠ x := fun c y r z => by subst z; rw [r] at mu; exact mu
  have ntup : ∀ c xs, H c = some (.tup xs) → c ≠ x := fun c xs r z => by subst z; rw [r] at mu; exact mu
  by_cases hb : b = x
  · subst hb; rw [upd_same] at q; cases q; exact new
  · rw [upd_ne hb] at q
    by_cases hbe : b = e
    · have q' : H b = some (.own x) := by
        rcases he with z | z
        · exact absurd (hbe.trans z) hb
        · rw [hbe]; exact z
      rw [q] at q'; cases q'
      obtain ⟨v, hv⟩ := heo
      exact ⟨v, by rw [hbe]; exact hv⟩
    · refine (ok b u q).stay (fun c v hc r => k c v ?_ r) (fun c r => by rw [upd_ne (nown c b r)]; exact r) fun c xs r => by rw [upd_ne (ntup c xs r)]; exact r
      rcases hc with rfl | hc
      · exact hbe
      · rintro rfl
        rcases he with z | z
        · exact nown c b hc z
        · rw [hc] at z; cases z; exact hb rfl
end

/-! ### kept unless tracked; of the frames at fs (the callers') the slots may change (an exception that passes writes there); of the records at ex (iterators) nothing is said -/
structure Un (fs ex : List Addr) (H H' : Hp) (h h' : Heap) : Prop where
  keep : ∀ b o, h.get? b = some o → H b = none → b ∉ fs → b ∉ ex → h'.get? b = some o
  slot : ∀ b o, h.get? b = some o → H b = none → b ∈ fs → b ∉ ex → ∃ sl, h'.get? b = some { o with slots := sl }
  free : ∀ b o, h.get? b = some o → H b = none → b ∉ ex → H' b = none
  there : ∀ b o, h.get? b = some o → b ∉ ex → ∃ o', h'.get? b = some o'
  tups : ∀ b xs, H b = some (.tup xs) → H' b = some (.tup xs)
  frzs : ∀ b o u, H b = some (.frz o u) → H' b = some (.frz o u)
  tbls : ∀ b ps, H b = some (.tbl ps) → ∃ more, H' b = some (.tbl (ps ++ more))
section
variable {fs fs' ex ex' : List Addr} {H H1 H2 : Hp} {h h1 h2 h' : Heap} {a x e : Addr} {o : HO}
theorem Un.any (u : Un fs ex H H1 h h1) {b : Addr} {ob : Obj} (q : h.get? b = some ob) (n : H b = none) (hx : b ∉ ex) : ∃ sl, h1.get? b = some { ob with slots := sl } := by
  by_cases hb : b ∈ fs
  · exact u.slot b ob q n hb hx
  · exact ⟨ob.slots, u.keep b ob q n hb hx⟩
theorem Un.trans (a : Un fs ex H H1 h h1) (b : Un fs ex H1 H2 h1 h2) : Un fs ex H H2 h h2 where
  keep := fun c ob q n hc hx => b.keep c ob (a.keep c ob q n hc hx) (a.free c ob q n hx) hc hx
  slot := fun c ob q n hc hx => by
    obtain ⟨sl, e1⟩ := a.slot c ob q n hc hx
    obtain ⟨sl', e2⟩ := b.slot c _ e1 (a.free c ob q n hx) hc hx
    exact ⟨sl', e2⟩
  free := fun c ob q n hx => by
    obtain ⟨o', e1⟩ := a.there c ob q hx
    exact b.free c o' e1 (a.free c ob q n hx) hx
  there := fun c ob q hx => by
    obtain ⟨o', e1⟩ := a.there c ob q hx
    exact b.there c o' e1 hx
  tups := fun c xs q => b.tups c xs (a.tups c xs q)
  frzs := fun c ob xs q => b.frzs c ob xs (a.frzs c ob xs q)
  tbls := fun c ps q => by
    obtain ⟨m1, e1⟩ := a.tbls c ps q
    obtain ⟨m2, e2⟩ := b.tbls c _ e1
    exact ⟨m1 ++ m2, by rw [e2, Array.append_assoc]⟩
theorem Un.kept (k : ∀ b u, h.get? b = some u → h'.get? b = some u) : Un fs ex H H h h' :=
  ⟨fun b ob q _ _ _ => k b ob q, fun b ob q _ _ _ => ⟨ob.slots, k b ob q⟩, fun _ _ _ n _ => n, fun b ob q _ => ⟨ob, k b ob q⟩, fun _ _ q => q, fun _ _ _ q => q, fun _ ps q => ⟨#[], by rw [q]; simp⟩⟩
theorem Un.refl : Un fs ex H H h h := Un.kept fun _ _ q => q
theorem Un.laid (k : ∀ b u, h.get? b = some u → h'.get? b = some u) (hp : h.objs.size ≤ a) (hn : H a = none) : Un fs ex H (upd H a o) h h' where
  keep := fun b u q _ _ _ => k b u q
  slot := fun b u q _ _ _ => ⟨u.slots, k b u q⟩
  free := fun b u q n _ => by rw [upd_ne (Nat.ne_of_lt (Nat.lt_of_lt_of_le (Heap.lt_size q) hp))]; exact n
  there := fun b u q _ => ⟨u, k b u q⟩
  tups := fun b xs q => by rw [upd_ne (ne_of_none q hn)]; exact q
  frzs := fun b u xs q => by rw [upd_ne (ne_of_none q hn)]; exact q
  tbls := fun b ps q => ⟨#[], by rw [upd_ne (ne_of_none q hn), q]; simp⟩
theorem Un.write (mu : Mut (H x)) (he : e = x ∨ H e = some (.own x)) (k : ∀ b u, b ≠ e → h.get? b = some u → h'.get? b = some u) (heo : ∃ u, h'.get? e = some u) : Un fs ex H (upd H x o) h h' := by
  have hx : ∀ b, H b = none → b ≠ x := fun b n z => by subst z; rw [n] at mu; exact mu
  have hb : ∀ b, H b = none → b ≠ e := fun b n z => by
    subst z
    rcases he with r | r
    · exact hx b n r
    · rw [n] at r; cases r
  have hm : ∀ b u, H b = some u → ¬ Mut (some u) → b ≠ x := fun b u q nm z => by subst z; rw [q] at mu; exact nm mu
  refine ⟨fun b u q n _ _ => k b u (hb b n) q, fun b u q n _ _ => ⟨u.slots, k b u (hb b n) q⟩, fun b u q n _ => by rw [upd_ne (hx b n)]; exact n, fun b u q _ => ?_,
    fun b xs q => by rw [upd_ne (hm b _ q fun z => z)]; exact q, fun b u xs q => by rw [upd_ne (hm b _ q fun z => z)]; exact q, fun b ps q => ⟨#[], by rw [upd_ne (hm b _ q fun z => z), q]; simp⟩⟩
  by_cases hbe : b = e
  · subst hbe; exact heo
  · exact ⟨u, k b u hbe q⟩
theorem Un.mono (u : Un fs ex H H1 h h1) (hs : ∀ b ∈ fs, b ∈ fs') (hx : ∀ b ∈ ex, b ∈ ex') : Un fs' ex' H H1 h h1 :=
  ⟨fun b ob q n hb he => u.keep b ob q n (fun z => hb (hs b z)) fun z => he (hx b z), fun _ _ q n _ he => u.any q n fun z => he (hx _ z), fun b ob q n he => u.free b ob q n fun z => he (hx b z), fun b ob q he => u.there b ob q fun z => he (hx b z), u.tups, u.frzs, u.tbls⟩
end

/-! ### the heap without what is tracked -/
def trk (h : Heap) (H : Hp) : List Addr := (List.range h.objs.size).filter fun a => (H a).isSome
def hidT (h : Heap) (H : Hp) : Heap := PySem.W.hideAll h (trk h H)
theorem hidT_size (h : Heap) (H : Hp) : (hidT h H).objs.size = h.objs.size := PySem.W.hideAll_size _ _
theorem hidT_get {h : Heap} {H : Hp} {b : Addr} {o : Obj} (e : h.get? b = some o) (n : H b = none) : (hidT h H).get? b = some o :=
  PySem.W.hideAll_get _ e fun hm => by
    have q : (H b).isSome = true := (List.mem_filter.mp hm).2
    rw [n] at q; simp at q
theorem of_hidT {h : Heap} {H : Hp} {b : Addr} {o : Obj} (e : (hidT h H).get? b = some o) : h.get? b = some o ∧ H b = none := by
  have e' : h.get? b = some o := PySem.W.of_hideAll (trk h H) e
  refine ⟨e', ?_⟩
  cases q : H b with
  | none => rfl
  | some x =>
    have hm : b ∈ trk h H := List.mem_filter.mpr ⟨List.mem_range.mpr (Heap.lt_size e'), by simp [q]⟩
    have z : (hidT h H).get? b = none := PySem.W.hideAll_none (trk h H) hm
    rw [z] at e; cases e

/-! ### OpenK's ledger, filled with every new object but one -/
def allNews (g h : Heap) (L : Addr) : List (Addr × Obj) := (List.range h.objs.size).filterMap fun a => if a = L ∨ (g.get? a).isSome = true then none else (h.get? a).map fun o => (a, o)
def rest (g h : Heap) (L d : Addr) : List (Addr × Obj) := (allNews g h L).filter fun p => decide (p.1 ≠ d)
end L2

namespace L2
open PySem PySem.Spec PyProof.Rows

/-- the module's facts, over the base: the heap at the law's entry without what is tracked there -/
structure Mod (K : PySem.W.Frag) (mg : Str → Option Value) (base : Heap) : Prop where
  kin : K.In base
  glob : base.Ns mainGlobals mg
  blt : ∃ mb, base.Ns builtinsNs mb ∧ ∀ x : Str, x ≠ "__name__" → mb x = bootBuiltins x
  nolimit : base.NoLimit

/-- the context: a def's body (or a comprehension's block) running. base: fixed through the whole law; s₀, H₀: the entry; outer: the frames whose slots others may change (a def's callers); stack: all frames that run;
   ex: iterators that were made ahead of the entry and are walked here (a comprehension's); fn: the names whose cells were made at the entry (a def: all; a comprehension's block: its own); calm: not within an except suite; pn: pins that every state bears; xe: what is wanted of an exception that leaves the code -/
structure Cx where
  prog : Program
  w : World
  K : PySem.W.Frag
  mg : Str → Option Value
  base : Heap
  A : Around
  N : List Str
  s₀ : Shared
  H₀ : Hp
  env : Env
  outer : List Env
  stack : List Env
  ex : List Addr
  fn : Str → Bool
  calm : Bool
  pn : List (Addr × Obj)
  xe : Value → Shared → Prop
/-- the callers' frames -/
def frs (l : List Env) : List Addr := l.filterMap (·.frame)
abbrev Cx.fs (X : Cx) : List Addr := frs X.outer

def Vis (sc : Scope) (x : Str) : Prop := sc.names.lookup x = some .local ∨ sc.names.lookup x = some .cell ∨ sc.names.lookup x = some .free
def Loc (sc : Scope) (x : Str) : Prop := sc.names.lookup x = some .local ∨ sc.names.lookup x = some .cell
def Look (env : Env) (h : Heap) (m : Str → Option Value) (x : Str) (u : Value) : Prop :=
  (env.kindOf x = some .local ∧ m x = some u) ∨ ((env.kindOf x = some .cell ∨ env.kindOf x = some .free) ∧ ∃ c, env.cells.lookup x = some c ∧ h.IsCell c (some u))

structure Cx.Ok (X : Cx) : Prop where
  mod : Mod X.K X.mg X.base
  kind : X.env.scope.kind = .function
  glob : X.env.globals = mainGlobals
  blt : X.env.builtins = builtinsNs
  above : X.s₀.heap.objs.size ≤ X.env.locals
  inj : ∀ x y c, X.env.cells.lookup x = some c → X.env.cells.lookup y = some c → x = y
  has : ∀ x, (X.env.kindOf x = some .cell ∨ X.env.kindOf x = some .free) → ∃ c, X.env.cells.lookup x = some c
  cab : ∀ x c, X.fn x = true → X.env.cells.lookup x = some c → X.s₀.heap.objs.size ≤ c
  hd : X.calm = true → X.A.handled = none
  frames : X.A.frames = some X.stack
  stk : X.stack = X.outer ∨ (X.stack = X.env :: X.outer ∧ X.env.frame = some X.env.locals)
  exf : ∀ b ∈ X.ex, b ≠ X.env.locals ∧ ∀ x c, X.env.cells.lookup x = some c → c ≠ b
  bs : ∀ b o, X.base.get? b = some o → X.s₀.heap.get? b = some o ∧ X.H₀ b = none
  bsz : X.base.objs.size ≤ X.s₀.heap.objs.size
  noex : ∀ b o, X.base.get? b = some o → b ∉ X.ex
  exfs : ∀ b ∈ X.ex, b ∉ X.fs
  funs : X.s₀.heap.FunFrames X.base X.outer
  frf : ∀ b ∈ X.fs, X.H₀ b = none

structure Inv (X : Cx) (pins : List (Addr × Obj)) (σ : List (Option V)) (H : Hp) (s : Shared) : Prop where
  ok : X.Ok
  os : s.os = X.s₀.os
  bare : AllBare s.gens
  base : Un X.fs X.ex X.H₀ H X.s₀.heap s.heap
  loc : ∃ m, s.heap.Ns X.env.locals m ∧ ∀ (i : Nat) (x : Str) (v : V), X.N[i]? = some x → σ[i]? = some (some v) → Vis X.env.scope x → ∃ u, RelV v u ∧ Look X.env s.heap m x u
  cell : ∀ x c, X.env.cells.lookup x = some c → ∃ v, s.heap.IsCell c v
  free : H X.env.locals = none
  freeC : ∀ x c, X.env.cells.lookup x = some c → H c = none
  pin : ∀ p ∈ X.pn ++ pins, s.heap.get? p.1 = some p.2 ∧ H p.1 = none ∧ p.1 ≠ X.env.locals ∧ p.1 ∉ X.fs ∧ ∀ v, p.2.data ≠ .cell v
  hok : HOk X.prog X.w H s.heap
  len : σ.length = X.N.length

section
variable {X : Cx} {pins : List (Addr × Obj)} {σ : List (Option V)} {H H' : Hp} {s : Shared} {h' : Heap}

theorem Cx.Ok.nofr (ok : X.Ok) {b : Addr} {o : Obj} (e : X.base.get? b = some o) : b ∉ X.fs := fun hb => by
  have := (ok.funs.mem hb).1
  rw [e] at this; cases this
theorem Inv.bs (I : Inv X pins σ H s) : ∀ b o, X.base.get? b = some o → s.heap.get? b = some o ∧ H b = none := fun b o e =>
  ⟨I.base.keep b o (I.ok.bs b o e).1 (I.ok.bs b o e).2 (I.ok.nofr e) (I.ok.noex b o e), I.base.free b o (I.ok.bs b o e).1 (I.ok.bs b o e).2 (I.ok.noex b o e)⟩
theorem Inv.bk (I : Inv X pins σ H s) : ∀ b o, X.base.get? b = some o → s.heap.get? b = some o := fun b o e => (I.bs b o e).1
theorem Inv.mod (I : Inv X pins σ H s) : Mod X.K X.mg X.base := I.ok.mod
theorem Inv.kIn (I : Inv X pins σ H s) : X.K.In s.heap := I.ok.mod.kin.keeps I.bk
theorem Inv.nolimit (I : Inv X pins σ H s) : s.heap.NoLimit := I.ok.mod.nolimit.keeps I.bk
/-- the frame over the base: for OpenK's rules (K.In X.base is I.mod.kin) -/
theorem Inv.fr (I : Inv X pins σ H s) : ∃ m, Fr X.base X.env.locals s.heap m :=
  let ⟨m, hn, _⟩ := I.loc
  ⟨m, hn, I.bk, Nat.le_trans I.ok.bsz I.ok.above⟩
theorem Inv.lt (I : Inv X pins σ H s) : X.env.locals < s.heap.objs.size := let ⟨_, hn, _⟩ := I.loc; hn.lt
theorem Inv.sz (I : Inv X pins σ H s) : X.s₀.heap.objs.size ≤ s.heap.objs.size := Nat.le_trans I.ok.above (Nat.le_of_lt I.lt)
theorem Inv.nofs (I : Inv X pins σ H s) {a : Addr} (h : s.heap.objs.size ≤ a) : a ∉ X.fs := fun hb => by
  obtain ⟨_, o, ho, _⟩ := I.ok.funs.mem hb
  exact absurd (Nat.lt_of_lt_of_le (Heap.lt_size ho) (Nat.le_trans I.sz h)) (Nat.lt_irrefl _)
theorem Inv.cne (I : Inv X pins σ H s) : ∀ x c, X.env.cells.lookup x = some c → c ≠ X.env.locals := fun x c e z => by
  obtain ⟨v, o, ho, hd⟩ := I.cell x c e
  obtain ⟨m, ⟨o', es, ep, ho', hd', _⟩, _⟩ := I.loc
  rw [z, ho'] at ho; cases ho; rw [hd'] at hd; cases hd
theorem Inv.funs (I : Inv X pins σ H s) : s.heap.FunFrames X.base X.outer := by
  have all : ∀ (l : List Env), (∀ b ∈ frs l, b ∈ X.fs) → X.s₀.heap.FunFrames X.base l → s.heap.FunFrames X.base l := by
    intro l
    induction l with
    | nil => intro _ _; trivial
    | cons env r ih =>
      intro hs hl
      obtain ⟨hk, ⟨L, o, hf, hn, ho, hd⟩, hr⟩ := hl
      have hL : L ∈ X.fs := hs L (by unfold frs; rw [List.filterMap_cons, hf]; exact List.mem_cons_self)
      obtain ⟨sl, e⟩ := I.base.slot L o ho (I.ok.frf L hL) hL fun z => I.ok.exfs L z hL
      exact ⟨hk, ⟨L, _, hf, hn, e, hd⟩, ih (fun b hb => hs b (by unfold frs; rw [List.filterMap_cons, hf]; exact List.mem_cons_of_mem _ hb)) hr⟩
  exact all X.outer (fun _ hb => hb) I.ok.funs

/-- the frames that run, for a call -/
theorem Inv.stack (I : Inv X pins σ H s) : s.heap.FunFrames X.base X.stack := by
  rcases I.ok.stk with e | ⟨e, hf⟩
  · rw [e]; exact I.funs
  · rw [e]
    obtain ⟨m, hn, _⟩ := I.loc
    refine .cons (by rw [I.ok.kind]; decide) hf hn ?_ I.funs
    exact Heap.get?_none_of_le (Nat.le_trans I.ok.bsz I.ok.above)
theorem Inv.stkSub (I : Inv X pins σ H s) : ∀ b ∈ frs X.stack, b ∈ X.env.locals :: X.fs := fun b hb => by
  rcases I.ok.stk with e | ⟨e, hf⟩
  · rw [e] at hb; exact List.mem_cons_of_mem _ hb
  · rw [e] at hb
    unfold frs at hb
    rw [List.filterMap_cons, hf] at hb
    exact hb
theorem Inv.stkFree (I : Inv X pins σ H s) : ∀ b ∈ frs X.stack, H b = none := fun b hb => by
  rcases List.mem_cons.mp (I.stkSub b hb) with e | hb
  · rw [e]; exact I.free
  · obtain ⟨_, o, ho, _⟩ := I.ok.funs.mem hb
    exact I.base.free b o ho (I.ok.frf b hb) fun z => I.ok.exfs b z hb

/-- THE STEP: the untracked objects but the frame and the records at ch are kept (the callers' frames up to slots), the frame's map is kept, the new abstract heap is held -/
theorem Inv.step {g' : Array GenState} {t' : Nat} {d' : Drawn} {ch : List Addr} (I : Inv X pins σ H s)
    (hch : ∀ b ∈ ch, (b ∈ X.ex ∨ X.s₀.heap.objs.size ≤ b) ∧ b ≠ X.env.locals ∧ (∀ x c, X.env.cells.lookup x = some c → c ≠ b) ∧ ∀ p ∈ X.pn ++ pins, p.1 ≠ b)
    (keep : ∀ b o, b ≠ X.env.locals → b ∉ X.fs → b ∉ ch → s.heap.get? b = some o → H b = none → h'.get? b = some o)
    (slot : ∀ b o, b ≠ X.env.locals → b ∈ X.fs → b ∉ ch → s.heap.get? b = some o → H b = none → ∃ sl, h'.get? b = some { o with slots := sl }) (free : ∀ b o, b ∉ ch → s.heap.get? b = some o → H b = none → H' b = none)
    (there : ∀ b o, b ∉ ch → s.heap.get? b = some o → ∃ o', h'.get? b = some o')
    (tups : ∀ b xs, H b = some (.tup xs) → H' b = some (.tup xs)) (frzs : ∀ b o u, H b = some (.frz o u) → H' b = some (.frz o u)) (tbls : ∀ b ps, H b = some (.tbl ps) → ∃ more, H' b = some (.tbl (ps ++ more)))
    (ns : ∀ m, s.heap.Ns X.env.locals m → h'.Ns X.env.locals m) (hok : HOk X.prog X.w H' h') (hg : AllBare g') :
    Inv X pins σ H' { s with heap := h', gens := g', drawn := d', toks := t' } := by
  have neL : ∀ b o, X.s₀.heap.get? b = some o → b ≠ X.env.locals := fun b o e => Nat.ne_of_lt (Nat.lt_of_lt_of_le (Heap.lt_size e) I.ok.above)
  have neC : ∀ b o, X.s₀.heap.get? b = some o → b ∉ X.ex → b ∉ ch := fun b o e hx hb => by
    rcases (hch b hb).1 with z | z
    · exact hx z
    · exact absurd (Nat.lt_of_lt_of_le (Heap.lt_size e) z) (Nat.lt_irrefl _)
  have cellK : ∀ x c, X.env.cells.lookup x = some c → ∀ v, s.heap.IsCell c v → h'.IsCell c v := fun x c e v ⟨o, ho, hd⟩ => by
    have nch : c ∉ ch := fun z => (hch c z).2.2.1 x c e rfl
    by_cases hc : c ∈ X.fs
    · obtain ⟨sl, q⟩ := slot c o (I.cne x c e) hc nch ho (I.freeC x c e)
      exact ⟨_, q, hd⟩
    · exact ⟨o, keep c o (I.cne x c e) hc nch ho (I.freeC x c e), hd⟩
  refine ⟨I.ok, I.os, hg, ⟨fun b o e n hb hx => ?_, fun b o e n hb hx => ?_, fun b o e n hx => ?_, fun b o e hx => ?_, fun b xs e => tups b xs (I.base.tups b xs e), fun b o xs e => frzs b o xs (I.base.frzs b o xs e), fun b ps e => ?_⟩, ?_, fun x c e => ?_, ?_, fun x c e => ?_, fun p hp => ?_, hok, I.len⟩
  · exact keep b o (neL b o e) hb (neC b o e hx) (I.base.keep b o e n hb hx) (I.base.free b o e n hx)
  · obtain ⟨sl, e1⟩ := I.base.slot b o e n hb hx
    obtain ⟨sl', e2⟩ := slot b _ (neL b o e) hb (neC b o e hx) e1 (I.base.free b o e n hx)
    exact ⟨sl', e2⟩
  · obtain ⟨o', e1⟩ := I.base.there b o e hx
    exact free b o' (neC b o e hx) e1 (I.base.free b o e n hx)
  · obtain ⟨o', e1⟩ := I.base.there b o e hx
    exact there b o' (neC b o e hx) e1
  · obtain ⟨m1, e1⟩ := I.base.tbls b ps e
    obtain ⟨m2, e2⟩ := tbls b _ e1
    exact ⟨m1 ++ m2, by rw [e2, Array.append_assoc]⟩
  · obtain ⟨m, hn, hl⟩ := I.loc
    refine ⟨m, ns m hn, fun i x v e1 e2 e3 => ?_⟩
    obtain ⟨u, r, l⟩ := hl i x v e1 e2 e3
    refine ⟨u, r, ?_⟩
    rcases l with l | ⟨k, c, e, z⟩
    · exact .inl l
    · exact .inr ⟨k, c, e, cellK x c e _ z⟩
  · obtain ⟨v, z⟩ := I.cell x c e
    exact ⟨v, cellK x c e v z⟩
  · obtain ⟨m, ⟨o, _, _, ho, _⟩, _⟩ := I.loc
    exact free _ o (fun z => (hch _ z).2.1 rfl) ho I.free
  · obtain ⟨v, o, ho, hd⟩ := I.cell x c e
    exact free c o (fun z => (hch c z).2.2.1 x c e rfl) ho (I.freeC x c e)
  · obtain ⟨e, n, ne, nf, d⟩ := I.pin p hp
    have nch : p.1 ∉ ch := fun z => (hch p.1 z).2.2.2 p hp rfl
    exact ⟨keep p.1 p.2 ne nf nch e n, free p.1 p.2 nch e n, ne, nf, d⟩
/-- .. where the frame's own object is kept too -/
theorem Inv.un {t' : Nat} (I : Inv X pins σ H s) (u : Un X.fs [] H H' s.heap h') (hok : HOk X.prog X.w H' h') : Inv X pins σ H' { s with heap := h', toks := t' } := by
  obtain ⟨m, ⟨o, es, ep, ho, r⟩, _⟩ := id I.loc
  obtain ⟨sl, hL⟩ := u.any ho I.free (by simp)
  exact I.step (g' := s.gens) (d' := s.drawn) (ch := []) (fun _ z => nomatch z) (fun b o _ hb _ e n => u.keep b o e n hb (by simp)) (fun b o _ hb _ e n => u.slot b o e n hb (by simp)) (fun b o _ e n => u.free b o e n (by simp)) (fun b o _ e => u.there b o e (by simp)) u.tups u.frzs u.tbls (fun m' hm => by
    obtain ⟨o', es', ep', ho', r'⟩ := hm
    rw [ho] at ho'; cases ho'
    exact ⟨_, es', ep', hL, r'⟩) hok I.bare
/-- behind a call (or a comprehension's block): the slots of this frame may have changed too, the records at ch may have turned -/
theorem Inv.call {g' : Array GenState} {t' : Nat} {d' : Drawn} {ch : List Addr} (I : Inv X pins σ H s) (u : Un (frs X.stack) ch H H' s.heap h') (hok : HOk X.prog X.w H' h') (hg : AllBare g')
    (hch : ∀ b ∈ ch, (b ∈ X.ex ∨ X.s₀.heap.objs.size ≤ b) ∧ b ≠ X.env.locals ∧ (∀ x c, X.env.cells.lookup x = some c → c ≠ b) ∧ ∀ p ∈ X.pn ++ pins, p.1 ≠ b) :
    Inv X pins σ H' { s with heap := h', gens := g', drawn := d', toks := t' } := by
  obtain ⟨m, ⟨o, es, ep, ho, r⟩, _⟩ := id I.loc
  obtain ⟨sl, hL⟩ := u.any ho I.free fun z => (hch _ z).2.1 rfl
  exact I.step (ch := ch) hch (fun b o hL hb hc e n => u.keep b o e n (fun z => (List.mem_cons.mp (I.stkSub b z)).elim hL hb) hc) (fun b o _ _ hc e n => u.any e n hc) (fun b o hc e n => u.free b o e n hc) (fun b o hc e => u.there b o e hc) u.tups u.frzs u.tbls (fun m' hm => by
    obtain ⟨o', es', ep', ho', r'⟩ := hm
    rw [ho] at ho'; cases ho'
    exact ⟨_, es', ep', hL, r'⟩) hok hg
/-- an untracked record of ours (an iterator) has turned -/
theorem Inv.turned {t' : Nat} {it : Addr} (I : Inv X pins σ H s) (k : ∀ b o, b ≠ it → s.heap.get? b = some o → h'.get? b = some o) (hn : H it = none) (hL : it ≠ X.env.locals)
    (h1 : it ∈ X.ex ∨ X.s₀.heap.objs.size ≤ it) (h2 : ∀ x c, X.env.cells.lookup x = some c → c ≠ it) (h3 : ∀ p ∈ X.pn ++ pins, p.1 ≠ it) : Inv X pins σ H { s with heap := h', toks := t' } := by
  have nit : ∀ b u, H b = some u → b ≠ it := fun b u e z => by rw [z, hn] at e; cases e
  refine I.step (g' := s.gens) (d' := s.drawn) (ch := [it]) (fun b hb => ?_) (fun b o _ _ hc e _ => k b o (fun z => hc (by simp [z])) e) (fun b o _ _ hc e _ => ⟨o.slots, k b o (fun z => hc (by simp [z])) e⟩) (fun _ _ _ _ n => n)
    (fun b o hc e => ⟨o, k b o (fun z => hc (by simp [z])) e⟩) (fun _ _ e => e) (fun _ _ _ e => e) (fun b ps e => ⟨#[], by rw [e]; simp⟩) (fun m hm => ?_) (fun b u e => ?_) I.bare
  · have e : b = it := by simpa using hb
    subst e
    exact ⟨h1, hL, h2, h3⟩
  · obtain ⟨o, es, ep, ho, r⟩ := hm
    exact ⟨o, es, ep, k _ o (Ne.symm hL) ho, r⟩
  · refine (I.hok b u e).stay (fun c v hc q => k c v ?_ q) (fun _ q => q) fun _ _ q => q
    rcases hc with z | z
    · rw [z]; exact nit b u e
    · exact nit c _ z
theorem Inv.tok (I : Inv X pins σ H s) (t : Nat) : Inv X pins σ H { s with toks := t } := I.un (h' := s.heap) (t' := t) Un.refl I.hok
/-- all objects kept -/
theorem Inv.kept {t' : Nat} (I : Inv X pins σ H s) (k : ∀ b u, s.heap.get? b = some u → h'.get? b = some u) : Inv X pins σ H { s with heap := h', toks := t' } := I.un (Un.kept k) (I.hok.kept k)
/-- a new object laid and tracked -/
theorem Inv.laid {a : Addr} {o : HO} {t' : Nat} (I : Inv X pins σ H s) (k : ∀ b u, s.heap.get? b = some u → h'.get? b = some u) (hp : s.heap.objs.size ≤ a) (new : ObjOk X.prog X.w (upd H a o) h' a o) :
    Inv X pins σ (upd H a o) { s with heap := h', toks := t' } := I.un (Un.laid k hp (I.hok.fresh hp)) (I.hok.laid k hp new)
/-- an object written -/
theorem Inv.write {x e : Addr} {o : HO} {t' : Nat} (I : Inv X pins σ H s) (mu : Mut (H x)) (he : e = x ∨ H e = some (.own x)) (k : ∀ b u, b ≠ e → s.heap.get? b = some u → h'.get? b = some u) (heo : ∃ u, h'.get? e = some u)
    (new : ObjOk X.prog X.w (upd H x o) h' x o) : Inv X pins σ (upd H x o) { s with heap := h', toks := t' } := I.un (Un.write mu he k heo) (I.hok.write mu he k heo new)
theorem Inv.pins_of {pins' : List (Addr × Obj)} (I : Inv X pins σ H s) (h : ∀ p ∈ pins', s.heap.get? p.1 = some p.2 ∧ H p.1 = none ∧ p.1 ≠ X.env.locals ∧ p.1 ∉ X.fs ∧ ∀ v, p.2.data ≠ .cell v) : Inv X pins' σ H s :=
  ⟨I.ok, I.os, I.bare, I.base, I.loc, I.cell, I.free, I.freeC, fun p hp => (List.mem_append.mp hp).elim (fun z => I.pin p (List.mem_append_left _ z)) (h p), I.hok, I.len⟩

theorem nodup_ix {N : List Str} (hN : N.Nodup) {i j : Nat} {x : Str} (a : N[i]? = some x) (b : N[j]? = some x) : i = j := by
  obtain ⟨h1, e1⟩ := List.getElem?_eq_some_iff.mp a
  obtain ⟨h2, e2⟩ := List.getElem?_eq_some_iff.mp b
  exact (List.getElem_inj hN).mp (e1.trans e2.symm)

/-- a name is stored; what changed -/
theorem store_ok2 {M : Model} {A : Around} {E : Value → Shared → Prop} {i : Nat} {x : Str} {v : V} {u : Value} {Q : Unit → Shared → Prop} (I : Inv X pins σ H s) (hN : X.N.Nodup) (hi : X.N[i]? = some x) (hx : Loc X.env.scope x) (r : RelV v u)
    (h : ∀ s', Inv X pins (σ.set i (some v)) H s' → (∃ a, Heap.SameBut a s.heap s'.heap ∧ (a = X.env.locals ∨ X.env.cells.lookup x = some a)) → Q () s') (hf : X.fn x = true ∨ X.env.scope.names.lookup x = some .local := by first | exact .inl rfl | exact .inr rfl | assumption) : wpAny M A (storeName X.env x u) Q E s := by
  obtain ⟨m, hn, hl⟩ := id I.loc
  have hcls : (X.env.scope.kind == .class || (X.env.scope.kind == .module && X.env.locals != X.env.globals)) = false := by rw [I.ok.kind]; rfl
  have hiσ : i < σ.length := by rw [I.len]; exact (List.getElem?_eq_some_iff.mp hi).1
  have cne := I.cne
  have tracked : ∀ {a : Addr} {h' : Heap}, (∃ o, s.heap.get? a = some o ∧ H a = none) → Heap.SameBut a s.heap h' → HOk X.prog X.w H h' := fun {a h'} ha hs b ob e => by
    obtain ⟨_, _, hfree⟩ := ha
    refine (I.hok b ob e).stay (fun c w' hc q => (hs.2 c ?_).trans q) (fun _ q => q) fun _ _ q => q
    rintro rfl
    rcases hc with rfl | hc
    · rw [hfree] at e; cases e
    · rw [hfree] at hc; cases hc
  rcases hx with hk | hk
  · refine wpAny_storeName_local hk hn (fun h' hn' hs => ?_) hcls
    obtain ⟨oL, _, _, hoL, _⟩ := id hn
    refine h _ ⟨I.ok, I.os, I.bare, ⟨fun b o e n hb hx => ?_, fun b o e n hb hx => ?_, I.base.free, fun b o e hx => ?_, I.base.tups, I.base.frzs, I.base.tbls⟩, ⟨_, hn', fun j y v' e1 e2 e3 => ?_⟩, fun y c e => ?_, I.free, I.freeC, fun p hp => ?_, tracked ⟨oL, hoL, I.free⟩ hs, by simpa using I.len⟩ ⟨_, hs, .inl rfl⟩
    · exact (hs.2 b (Nat.ne_of_lt (Nat.lt_of_lt_of_le (Heap.lt_size e) I.ok.above))).trans (I.base.keep b o e n hb hx)
    · obtain ⟨sl, e1⟩ := I.base.slot b o e n hb hx
      exact ⟨sl, (hs.2 b (Nat.ne_of_lt (Nat.lt_of_lt_of_le (Heap.lt_size e) I.ok.above))).trans e1⟩
    · obtain ⟨o', e1⟩ := I.base.there b o e hx
      exact ⟨o', (hs.2 b (Nat.ne_of_lt (Nat.lt_of_lt_of_le (Heap.lt_size e) I.ok.above))).trans e1⟩
    · by_cases hj : j = i
      · subst hj
        rw [hi] at e1; cases e1
        rw [List.getElem?_set_self hiσ] at e2
        cases e2
        exact ⟨u, r, .inl ⟨hk, by simp⟩⟩
      · rw [List.getElem?_set_ne (Ne.symm hj)] at e2
        obtain ⟨u', r', q⟩ := hl j y v' e1 e2 e3
        refine ⟨u', r', ?_⟩
        rcases q with ⟨k, e⟩ | ⟨k, c, e, z⟩
        · refine .inl ⟨k, ?_⟩
          have : y ≠ x := fun e => hj (nodup_ix hN e1 (e ▸ hi))
          simp [this, e]
        · exact .inr ⟨k, c, e, z.sameBut hs (cne y c e)⟩
    · obtain ⟨w', z⟩ := I.cell y c e
      exact ⟨w', z.sameBut hs (cne y c e)⟩
    · obtain ⟨e, n, ne, nf, d⟩ := I.pin p hp
      exact ⟨(hs.2 p.1 ne).trans e, n, ne, nf, d⟩
  · have hfn : X.fn x = true := by
      rcases hf with z | z
      · exact z
      · rw [z] at hk; cases hk
    obtain ⟨c, hc⟩ := I.ok.has x (.inl hk)
    obtain ⟨w', z⟩ := I.cell x c hc
    refine wpAny_storeName_cell I.ok.kind hk hc z (fun h' hc' hs => ?_)
    obtain ⟨oc, hoc, hocd⟩ := id z
    refine h { s with heap := h' } ⟨I.ok, I.os, I.bare, ⟨fun b o e n hb hx => ?_, fun b o e n hb hx => ?_, I.base.free, fun b o e hx => ?_, I.base.tups, I.base.frzs, I.base.tbls⟩, ⟨m, hn.sameBut hs (Ne.symm (cne x c hc)), fun j y v' e1 e2 e3 => ?_⟩, fun y c' e => ?_, I.free, I.freeC, fun p hp => ?_, tracked ⟨oc, hoc, I.freeC x c hc⟩ hs, by simpa using I.len⟩ ⟨c, hs, .inr hc⟩
    · exact (hs.2 b (Nat.ne_of_lt (Nat.lt_of_lt_of_le (Heap.lt_size e) (I.ok.cab x c hfn hc)))).trans (I.base.keep b o e n hb hx)
    · obtain ⟨sl, e1⟩ := I.base.slot b o e n hb hx
      exact ⟨sl, (hs.2 b (Nat.ne_of_lt (Nat.lt_of_lt_of_le (Heap.lt_size e) (I.ok.cab x c hfn hc)))).trans e1⟩
    · obtain ⟨o', e1⟩ := I.base.there b o e hx
      exact ⟨o', (hs.2 b (Nat.ne_of_lt (Nat.lt_of_lt_of_le (Heap.lt_size e) (I.ok.cab x c hfn hc)))).trans e1⟩
    · by_cases hj : j = i
      · subst hj
        rw [hi] at e1; cases e1
        rw [List.getElem?_set_self hiσ] at e2
        cases e2
        exact ⟨u, r, .inr ⟨.inl hk, c, hc, hc'⟩⟩
      · rw [List.getElem?_set_ne (Ne.symm hj)] at e2
        obtain ⟨u', r', q⟩ := hl j y v' e1 e2 e3
        refine ⟨u', r', ?_⟩
        rcases q with q | ⟨k, c', e, z'⟩
        · exact .inl q
        · refine .inr ⟨k, c', e, z'.sameBut hs ?_⟩
          rintro rfl
          exact hj (nodup_ix hN e1 (I.ok.inj _ _ _ e hc ▸ hi))
    · by_cases hcc : c' = c
      · subst hcc; exact ⟨_, hc'⟩
      · obtain ⟨w2, z2⟩ := I.cell y c' e
        exact ⟨w2, z2.sameBut hs hcc⟩
    · obtain ⟨e, n, ne, nf, d⟩ := I.pin p hp
      refine ⟨(hs.2 p.1 ?_).trans e, n, ne, nf, d⟩
      intro q
      rw [q, hoc] at e
      have q' : oc = p.2 := Option.some.inj e
      exact d w' (by rw [← q']; exact hocd)
theorem store_ok {M : Model} {A : Around} {E : Value → Shared → Prop} {i : Nat} {x : Str} {v : V} {u : Value} {Q : Unit → Shared → Prop} (I : Inv X pins σ H s) (hN : X.N.Nodup) (hi : X.N[i]? = some x) (hx : Loc X.env.scope x) (r : RelV v u)
    (h : ∀ s', Inv X pins (σ.set i (some v)) H s' → Q () s') (hf : X.fn x = true ∨ X.env.scope.names.lookup x = some .local := by first | exact .inl rfl | exact .inr rfl | assumption) : wpAny M A (storeName X.env x u) Q E s :=
  store_ok2 I hN hi hx r (fun s' I' _ => h s' I') hf
end

/-! ### the judgements -/
/-- an exception: its class, its own dict's address (where it has one), the abstract heap behind it -/
abbrev XK := Value → Option Addr → Hp → Prop
abbrev St := List (Option V)
abbrev VK := V → Hp → Prop
/-- an expression's reading; a test's; an argument list's -/
abbrev TE := St → Hp → VK → Prop
abbrev TT := St → Hp → (Bool → Hp → Prop) → Prop
abbrev TA := St → Hp → (List V → Hp → Prop) → Prop
/-- what is wanted behind a statement -/
structure Ends where
  nx : St → Hp → Prop
  rt : VK
  bk : St → Hp → Prop := fun _ _ => False
  ct : St → Hp → Prop := fun _ _ => False
abbrev TS := Ends → St → Hp → Prop

def EP (X : Cx) (pins : List (Addr × Obj)) (σ : St) (Q : VK) (u : Value) (s' : Shared) : Prop := ∃ v H', Inv X pins σ H' s' ∧ RelV v u ∧ Q v H'
def TP (X : Cx) (pins : List (Addr × Obj)) (σ : St) (Q : Bool → Hp → Prop) (b : Bool) (s' : Shared) : Prop := ∃ H', Inv X pins σ H' s' ∧ Q b H'
def AP (X : Cx) (pins : List (Addr × Obj)) (σ : St) (Q : List V → Hp → Prop) (us : List Value) (s' : Shared) : Prop := ∃ vs H', Inv X pins σ H' s' ∧ Vals vs us ∧ Q vs H'
def SP (X : Cx) (pins : List (Addr × Obj)) (D : Ends) (f : Flow) (s' : Shared) : Prop :=
  match f with
  | .next => ∃ σ' H', Inv X pins σ' H' s' ∧ D.nx σ' H'
  | .brk => ∃ σ' H', Inv X pins σ' H' s' ∧ D.bk σ' H'
  | .cont => ∃ σ' H', Inv X pins σ' H' s' ∧ D.ct σ' H'
  | .ret u => ∃ v σ' H', Inv X pins σ' H' s' ∧ RelV v u ∧ D.rt v H'

def PE (X : Cx) (e : Expr) (t : TE) : Prop :=
  ∀ (pins : List (Addr × Obj)) (s : Shared) (σ : St) (H : Hp) (Q : VK), Inv X pins σ H s → t σ H Q → wpAny (model X.prog X.w) X.A (eval e X.env) (EP X pins σ Q) X.xe s
def PT (X : Cx) (e : Expr) (t : TT) : Prop :=
  ∀ (pins : List (Addr × Obj)) (s : Shared) (σ : St) (H : Hp) (Q : Bool → Hp → Prop), Inv X pins σ H s → t σ H Q → wpAny (model X.prog X.w) X.A (isTrue e X.env (eval e X.env)) (TP X pins σ Q) X.xe s
/-- a test whatever its 'whole' is (and, or) -/
def PW (X : Cx) (e : Expr) (t : TT) : Prop :=
  ∀ (whole : Sem Value) (pins : List (Addr × Obj)) (s : Shared) (σ : St) (H : Hp) (Q : Bool → Hp → Prop), Inv X pins σ H s → t σ H Q → wpAny (model X.prog X.w) X.A (isTrue e X.env whole) (TP X pins σ Q) X.xe s
theorem PW.pt {X : Cx} {e : Expr} {t : TT} (h : PW X e t) : PT X e t := h _
/-- an argument list (no star), from the left -/
def PA (X : Cx) (es : List Expr) (t : TA) : Prop :=
  ∀ (pos : Pos) (pins : List (Addr × Obj)) (s : Shared) (σ : St) (H : Hp) (Q : List V → Hp → Prop), Inv X pins σ H s → t σ H Q → wpAny (model X.prog X.w) X.A (spliced (backTo pos (starEach es X.env))) (AP X pins σ Q) X.xe s
def PS (X : Cx) (st : Stmt) (t : TS) : Prop :=
  ∀ (pins : List (Addr × Obj)) (s : Shared) (σ : St) (H : Hp) (D : Ends), Inv X pins σ H s → t D σ H → wpAny (model X.prog X.w) X.A (exec st X.env) (SP X pins D) X.xe s
def PSs (X : Cx) (st : List Stmt) (t : TS) : Prop :=
  ∀ (pins : List (Addr × Obj)) (s : Shared) (σ : St) (H : Hp) (D : Ends), Inv X pins σ H s → t D σ H → wpAny (model X.prog X.w) X.A (execs st X.env) (SP X pins D) X.xe s
/-- weaken the end -/
theorem thn {α : Type} {t : Sem α} {Q Q' : α → Shared → Prop} {M : Model} {A : Around} {E : Value → Shared → Prop} {s : Shared} (h : wpAny M A t Q E s) (hQ : ∀ a s, Q a s → Q' a s) : wpAny M A t Q' E s := wpAny_mono h hQ fun _ _ x => x
end L2

namespace L2
open PySem PySem.Spec PyProof.Rows
section
variable {X : Cx}

/-! ### names and constants -/
def tVar (i : Nat) : TE := fun σ H Q => ∃ v, σ[i]? = some (some v) ∧ Q v H
def tC (v : V) : TE := fun _ H Q => Q v H
theorem pe_var {i : Nat} {x : Str} {pos : Pos} (hN : X.N[i]? = some x) (hv : Vis X.env.scope x) (hd : (x == ("__debug__" : Str)) = false := by decide) (hcd : (x == ("__classdict__" : Str)) = false := by decide) : PE X (.Name x pos) (tVar i) := by
  intro pins s σ H Q I h
  obtain ⟨v, e, h⟩ := h
  obtain ⟨m, hn, hl⟩ := I.loc
  obtain ⟨u, r, l⟩ := hl i x v hN e hv
  have fin : EP X pins σ Q u s := ⟨v, H, I, r, h⟩
  rcases l with ⟨hk, hm⟩ | ⟨hk, c, hc, hcell⟩
  · exact wpAny_Name (wpAny_loadName_local I.ok.kind hk hn hm fin) hd
  · rcases hk with hk | hk
    · exact wpAny_Name (wpAny_loadName_cell I.ok.kind hk hc hcell fin) hd
    · exact wpAny_Name (wpAny_loadName_free I.ok.kind hk hc hcell fin hcd) hd
theorem pe_int {i j pos} : PE X (.Constant (.int i) j pos) (tC (.int i)) := fun _ _ _ H _ I h => wpAny_Constant_int ⟨.int i, H, I.tok _, ⟨_, rfl⟩, h⟩
theorem pe_bl {b j pos} : PE X (.Constant (.bool b) j pos) (tC (.bl b)) := fun _ _ _ H _ I h => Constant_bool ⟨.bl b, H, I, rfl, h⟩
theorem pe_non {j pos} : PE X (.Constant .none j pos) (tC .non) := fun _ _ _ H _ I h => Constant_none ⟨.non, H, I, rfl, h⟩
theorem pe_str {x j pos} : PE X (.Constant (.str x) j pos) (tC (.str x)) := fun _ _ _ H _ I h => Calls.Constant_str ⟨.str x, H, I.tok _, ⟨_, rfl⟩, h⟩

/-- a global name of the def -/
def Gl (X : Cx) (x : Str) : Prop := X.env.kindOf x = some .globalImplicit
theorem ld_glob {E : Value → Shared → Prop} {pins : List (Addr × Obj)} {s : Shared} {σ : St} {H : Hp} {x : Str} {u : Value} {pos : Pos} {Q : Value → Shared → Prop} (I : Inv X pins σ H s) (hg : Gl X x) (hm : X.mg x = some u) (h : Q u s)
    (hd : (x == ("__debug__" : Str)) = false := by decide) : wpAny (model X.prog X.w) X.A (eval (.Name x pos) X.env) Q E s :=
  Calls.Name_function_global I.ok.kind hg (Calls.loadGlobal_global (by rw [I.ok.glob]; exact I.mod.glob.keeps I.bk) hm h) hd
theorem ld_blt {E : Value → Shared → Prop} {pins : List (Addr × Obj)} {s : Shared} {σ : St} {H : Hp} {x : Str} {u : Value} {pos : Pos} {Q : Value → Shared → Prop} (I : Inv X pins σ H s) (hg : Gl X x) (hm : X.mg x = none) (hv : bootBuiltins x = some u) (h : Q u s)
    (hn : x ≠ "__name__" := by decide) (hd : (x == ("__debug__" : Str)) = false := by decide) : wpAny (model X.prog X.w) X.A (eval (.Name x pos) X.env) Q E s := by
  obtain ⟨mb, h1, h2⟩ := I.mod.blt
  exact Calls.Name_function_global I.ok.kind hg (Calls.loadGlobal_builtin (by rw [I.ok.glob]; exact I.mod.glob.keeps I.bk) hm (by rw [I.ok.blt]; exact h1.keeps I.bk) ((h2 x hn).trans hv) h) hd
theorem pe_bltn {x : Str} {v : V} {u : Value} {pos : Pos} (hg : Gl X x) (hm : X.mg x = none) (hv : bootBuiltins x = some u) (r : RelV v u) (hn : x ≠ "__name__" := by decide) (hd : (x == ("__debug__" : Str)) = false := by decide) : PE X (.Name x pos) (tC v) :=
  fun _ _ _ H _ I h => ld_blt I hg hm hv ⟨v, H, I, r, h⟩ hn hd

/-! ### arithmetic -/
variable {a b : Expr} {ta tb : TE} {pos : Pos}
/-! ### comparisons -/
/-- a comparison as a value, as a test -/
def tB (t : TE) : TT := fun σ H Q => t σ H fun x H1 => ∃ c, x = .bl c ∧ Q c H1
/-- an expression whose value is a bool, as a test -/
theorem pt_val {e : Expr} {t : TE} (h : PE X e t) (he : ∀ whole, isTrue e X.env whole = (do let v ← whole; standAt e.pos; holding [v] (truthy v)) := by intro _; rfl) : PT X e (tB t) := by
  intro pins s σ H Q I hw
  refine isTrue_plain (thn (h pins s σ H _ I hw) fun v s1 ⟨x, H1, I1, r1, q1⟩ => ?_) (he _)
  obtain ⟨d, rfl, q⟩ := q1
  cases r1
  exact wpAny_truthy_bool ⟨H1, I1, q⟩

/-! ### and, or, not -/
variable {tA tB' : TT} {rest : List Expr}
def tAnd (t u : TT) : TT := fun σ H Q => t σ H fun c H1 => if c = true then u σ H1 Q else Q false H1
def tOr (t u : TT) : TT := fun σ H Q => t σ H fun c H1 => if c = true then Q true H1 else u σ H1 Q
def tNot (t : TT) : TT := fun σ H Q => t σ H fun c H1 => Q (!c) H1
theorem pw_and1 (ha : PT X a tA) : PW X (.BoolOp .And [a] pos) tA := by
  intro wh pins s σ H Q I h
  refine isTrue_and (thn (ha pins s σ H Q I h) fun c s1 e => ?_)
  cases c with
  | true => exact isTrue_and_nil e
  | false => exact e
theorem pw_or1 (ha : PT X a tA) : PW X (.BoolOp .Or [a] pos) tA := by
  intro wh pins s σ H Q I h
  refine isTrue_or (thn (ha pins s σ H Q I h) fun c s1 e => ?_)
  cases c with
  | false => exact isTrue_or_nil e
  | true => exact e
theorem pw_and (ha : PT X a tA) (hb : PW X (.BoolOp .And (b :: rest) pos) tB') : PW X (.BoolOp .And (a :: b :: rest) pos) (tAnd tA tB') := by
  intro wh pins s σ H Q I h
  refine isTrue_and (thn (ha pins s σ H _ I h) fun c s1 ⟨H1, I1, q1⟩ => ?_)
  cases c with
  | true => exact hb wh pins s1 σ H1 Q I1 q1
  | false => exact ⟨H1, I1, q1⟩
theorem pw_or (ha : PT X a tA) (hb : PW X (.BoolOp .Or (b :: rest) pos) tB') : PW X (.BoolOp .Or (a :: b :: rest) pos) (tOr tA tB') := by
  intro wh pins s σ H Q I h
  refine isTrue_or (thn (ha pins s σ H _ I h) fun c s1 ⟨H1, I1, q1⟩ => ?_)
  cases c with
  | true => exact ⟨H1, I1, q1⟩
  | false => exact hb wh pins s1 σ H1 Q I1 q1
theorem pt_not (ha : PT X a tA) : PT X (.UnaryOp .Not a pos) (tNot tA) := by
  intro pins s σ H Q I h
  exact isTrue_not (ha pins s σ H (fun c H1 => Q (!c) H1) I h)
/-- .. as values (bools) -/
def tAndV (ta tb : TE) : TE := fun σ H Q => ta σ H fun x H1 => ∃ c, x = .bl c ∧ if c = true then tb σ H1 Q else Q (.bl false) H1
def tOrV (ta tb : TE) : TE := fun σ H Q => ta σ H fun x H1 => ∃ c, x = .bl c ∧ if c = true then Q (.bl true) H1 else tb σ H1 Q
def tNotV (ta : TE) : TE := fun σ H Q => ta σ H fun x H1 => ∃ c, x = .bl c ∧ Q (.bl (!c)) H1
theorem pe_one {op} {t : TE} (h : PE X a t) : PE X (.BoolOp op [a] pos) t := fun pins s σ H Q I hw => BoolOp_one (h pins s σ H Q I hw)
theorem pe_and (ha : PE X a ta) (hb : PE X (.BoolOp .And (b :: rest) pos) tb) : PE X (.BoolOp .And (a :: b :: rest) pos) (tAndV ta tb) := by
  intro pins s σ H Q I h
  refine BoolOp_and (thn (ha pins s σ H _ I h) fun v s1 ⟨x, H1, I1, r1, q1⟩ => ?_)
  obtain ⟨c, rfl, q1⟩ := q1
  cases r1
  refine wpAny_truthy_bool ?_
  cases c with
  | true => exact hb pins s1 σ H1 Q I1 q1
  | false => exact ⟨.bl false, H1, I1, rfl, q1⟩
theorem pe_not (ha : PE X a ta) : PE X (.UnaryOp .Not a pos) (tNotV ta) := by
  intro pins s σ H Q I h
  refine UnaryOp_ (thn (ha pins s σ H _ I h) fun v s1 ⟨x, H1, I1, r1, q1⟩ => ?_)
  obtain ⟨c, rfl, q1⟩ := q1
  cases r1
  exact not_of (wpAny_truthy_bool ⟨.bl (!c), H1, I1, rfl, q1⟩)
/-- a if t else b -/
def tIf (t : TT) (ta tb : TE) : TE := fun σ H Q => t σ H fun c H1 => if c = true then ta σ H1 Q else tb σ H1 Q
theorem pe_ifExp {c : Expr} (hc : PT X c tA) (ha : PE X a ta) (hb : PE X b tb) : PE X (.IfExp c a b pos) (tIf tA ta tb) := by
  intro pins s σ H Q I h
  refine wpAny_IfExp (thn (hc pins s σ H _ I h) fun d s1 ⟨H1, I1, q1⟩ => ?_)
  cases d with
  | true => exact ha pins s1 σ H1 Q I1 q1
  | false => exact hb pins s1 σ H1 Q I1 q1
end
end L2

namespace L2
open PySem PySem.Spec PyProof.Rows

/-! ### a list, a tuple that is read: tracked, frozen, or an object of the module -/
def SqL (K : PySem.W.Frag) (H : Hp) (a : Addr) (xs : List V) : Prop :=
  Rd H a (.lst xs) ∨
    ∃ (o : Obj) (its : Array Value) (n : Nat), K.lookup a = some o ∧ o.cls = .type "list" ∧ o.dict = none ∧ o.data = .seq its n ∧ its.size ≤ sizeLine ∧ Vals xs its.toList
def SqT (K : PySem.W.Frag) (H : Hp) (a : Addr) (xs : List V) : Prop :=
  Rd H a (.tup xs) ∨
    ∃ (o : Obj) (its : Array Value) (n : Nat), K.lookup a = some o ∧ o.cls = .type "tuple" ∧ o.data = .seq its n ∧ its.size ≤ sizeLine ∧ Vals xs its.toList
def absV : Value → Option V
  | .none => some .non
  | .bool b => some (.bl b)
  | .int i _ => some (.int i)
  | .str x _ => some (.str x)
  | .bytes b _ => some (.byt b)
  | .float b _ => some (.flt b)
  | .ref a => some (.ref a)
  | .type n => some (.ty n)
  | _ => none
theorem RelV.abs {x : V} {u : Value} (r : RelV x u) : absV u = some x := by
  cases x with
  | non => cases r; rfl
  | bl _ => cases r; rfl
  | int _ => obtain ⟨t, rfl⟩ := r; rfl
  | str _ => obtain ⟨t, rfl⟩ := r; rfl
  | byt _ => obtain ⟨t, rfl⟩ := r; rfl
  | flt _ => obtain ⟨t, rfl⟩ := r; rfl
  | ref _ => cases r; rfl
  | ty _ => cases r; rfl
theorem RelV.inj {x y : V} {u : Value} (r : RelV x u) (q : RelV y u) : x = y := Option.some.inj (r.abs.symm.trans q.abs)
theorem Vals.inj : ∀ {xs ys : List V} {us : List Value}, Vals xs us → Vals ys us → xs = ys
  | _, _, _, .nil, .nil => rfl
  | _, _, _, .cons r t, .cons r' t' => by rw [r.inj r', Vals.inj t t']
section
variable {X : Cx} {pins : List (Addr × Obj)} {σ : St} {H : Hp} {s : Shared} {a : Addr} {xs ys : List V}
theorem SqL.of {K : PySem.W.Frag} (h : H a = some (.lst xs)) : SqL K H a xs := .inl (.inl h)
theorem SqT.of {K : PySem.W.Frag} (h : H a = some (.tup xs)) : SqT K H a xs := .inl (.inl h)
theorem Inv.list (I : Inv X pins σ H s) (h : SqL X.K H a xs) : ∃ its : List Value, Vals xs its ∧ PlainL s.heap a its.toArray ∧ xs.length ≤ sizeLine := by
  rcases h with h | ⟨o, its, n, hk, hc, hd, hs, hz, r⟩
  · obtain ⟨z, its, n, r, e⟩ := h.ok I.hok
    exact ⟨its, r, ⟨_, n, e, rfl, rfl, rfl⟩, z⟩
  · refine ⟨its.toList, r, ⟨o, n, I.kIn a o hk, hc, hd, by simpa using hs⟩, ?_⟩
    have e := r.length
    simp only [Array.length_toList] at e
    omega
theorem Inv.tuple (I : Inv X pins σ H s) (h : SqT X.K H a xs) : ∃ its : List Value, Vals xs its ∧ IsTup s.heap a its.toArray ∧ xs.length ≤ sizeLine := by
  rcases h with h | ⟨o, its, n, hk, hc, hs, hz, r⟩
  · obtain ⟨z, its, r, p⟩ := h.ok I.hok
    exact ⟨its, r, p, z⟩
  · refine ⟨its.toList, r, ⟨o, I.kIn a o hk, hc, n, by simpa using hs⟩, ?_⟩
    have e := r.length
    simp only [Array.length_toList] at e
    omega
end

/-! ### another wish about exceptions -/
abbrev Cx.wish (X : Cx) (E : Value → Shared → Prop) : Cx := { X with xe := E }
/-- no exception leaves -/
abbrev Cx.nox (X : Cx) : Cx := X.wish fun _ _ => False
theorem Cx.Ok.wish {X : Cx} (ok : X.Ok) (E : Value → Shared → Prop) : (X.wish E).Ok :=
  ⟨ok.mod, ok.kind, ok.glob, ok.blt, ok.above, ok.inj, ok.has, ok.cab, ok.hd, ok.frames, ok.stk, ok.exf, ok.bs, ok.bsz, ok.noex, ok.exfs, ok.funs, ok.frf⟩
theorem Cx.Ok.unwish {X : Cx} {E : Value → Shared → Prop} (ok : (X.wish E).Ok) : X.Ok :=
  ⟨ok.mod, ok.kind, ok.glob, ok.blt, ok.above, ok.inj, ok.has, ok.cab, ok.hd, ok.frames, ok.stk, ok.exf, ok.bs, ok.bsz, ok.noex, ok.exfs, ok.funs, ok.frf⟩
section
variable {X : Cx} {pins : List (Addr × Obj)} {σ : St} {H : Hp} {s : Shared} {E : Value → Shared → Prop}
theorem Inv.wish (I : Inv X pins σ H s) (E : Value → Shared → Prop) : Inv (X.wish E) pins σ H s := ⟨I.ok.wish E, I.os, I.bare, I.base, I.loc, I.cell, I.free, I.freeC, I.pin, I.hok, I.len⟩
theorem Inv.unwish (I : Inv (X.wish E) pins σ H s) : Inv X pins σ H s := ⟨I.ok.unwish, I.os, I.bare, I.base, I.loc, I.cell, I.free, I.freeC, I.pin, I.hok, I.len⟩
theorem SP.unwish {D : Ends} {f : Flow} {s' : Shared} (h : SP (X.wish E) pins D f s') : SP X pins D f s' := by
  cases f with
  | next => obtain ⟨σ', H', I, q⟩ := h; exact ⟨σ', H', I.unwish, q⟩
  | brk => obtain ⟨σ', H', I, q⟩ := h; exact ⟨σ', H', I.unwish, q⟩
  | cont => obtain ⟨σ', H', I, q⟩ := h; exact ⟨σ', H', I.unwish, q⟩
  | ret u => obtain ⟨v, σ', H', I, r, q⟩ := h; exact ⟨v, σ', H', I.unwish, r, q⟩
theorem PE.nox {e : Expr} {t : TE} (h : PE X.nox e t) : PE X e t := fun pins s σ H Q I hw =>
  wpAny_mono (h pins s σ H Q (I.wish _) hw) (fun _ _ ⟨v, H', I', r, q⟩ => ⟨v, H', I'.unwish, r, q⟩) fun _ _ z => False.elim z
theorem PT.nox {e : Expr} {t : TT} (h : PT X.nox e t) : PT X e t := fun pins s σ H Q I hw =>
  wpAny_mono (h pins s σ H Q (I.wish _) hw) (fun _ _ ⟨H', I', q⟩ => ⟨H', I'.unwish, q⟩) fun _ _ z => False.elim z
theorem PSs.nox {st : List Stmt} {t : TS} (h : PSs X.nox st t) : PSs X st t := fun pins s σ H D I hw =>
  wpAny_mono (h pins s σ H D (I.wish _) hw) (fun _ _ q => q.unwish) fun _ _ z => False.elim z
end

/-! ### blocks and small statements -/
section
variable {X : Cx} {st : Stmt} {rest : List Stmt} {t u : TS} {e : Expr} {te : TE} {pos : Pos}
def tNext : TS := fun D σ H => D.nx σ H
def tSeq (t u : TS) : TS := fun D σ H => t { D with nx := u D } σ H
theorem pss_nil : PSs X [] tNext := fun _ _ σ H _ I h => wpAny_execs_nil ⟨σ, H, I, h⟩
theorem pss_cons (h1 : PS X st t) (h2 : PSs X rest u) : PSs X (st :: rest) (tSeq t u) := by
  intro pins s σ H D I h
  refine wpAny_execs_cons (thn (h1 pins s σ H { D with nx := u D } I h) fun f s1 q => ?_)
  cases f with
  | next =>
    obtain ⟨σ', H', I', q⟩ := q
    exact h2 pins s1 σ' H' D I' q
  | ret v => exact q
  | brk => exact q
  | cont => exact q
theorem pss_one (h1 : PS X st t) : PSs X [st] t := by
  intro pins s σ H D I h
  refine wpAny_execs_cons (thn (h1 pins s σ H D I h) fun f s1 q => ?_)
  cases f with
  | next => exact wpAny_execs_nil q
  | ret v => exact q
  | brk => exact q
  | cont => exact q
def tBreak : TS := fun D σ H => D.bk σ H
theorem ps_break : PS X (.Break pos) tBreak := fun _ _ σ H _ I h => wpAny_Break ⟨σ, H, I, h⟩
/-- in a def's body nothing is shown -/
theorem Inv.quiet {pins : List (Addr × Obj)} {σ : St} {H : Hp} {s : Shared} (I : Inv X pins σ H s) : interactive X.env = false := by simp [interactive, I.ok.kind]
/-- an expression whose value is dropped -/
def tDrop (te : TE) : TS := fun D σ H => te σ H fun _ H1 => D.nx σ H1
theorem ps_expr (he : PE X e te) (hs : swapsWith e none pos.line X.env = pure false := by rfl) : PS X (.Expr e pos) (tDrop te) := by
  intro pins s σ H D I h
  exact wpAny_Expr_any (thn (he pins s σ H _ I h) fun v s1 ⟨x, H1, I1, r1, q1⟩ => ⟨σ, H1, I1, q1⟩) I.quiet hs
def tRet (te : TE) : TS := fun D σ H => te σ H D.rt
theorem ps_ret (he : PE X e te) : PS X (.Return (some e) pos) (tRet te) := by
  intro pins s σ H D I h
  exact wpAny_Return_some (thn (he pins s σ H _ I h) fun v s1 ⟨x, H1, I1, r1, q1⟩ => ⟨x, σ, H1, I1, r1, q1⟩)
def tRetN : TS := fun D _ H => D.rt .non H
def tIfS (c : TT) (t u : TS) : TS := fun D σ H => c σ H fun b H1 => if b = true then t D σ H1 else u D σ H1
theorem ps_if {c : Expr} {a b : List Stmt} {tc : TT} (hc : PT X c tc) (ha : PSs X a t) (hb : PSs X b u) : PS X (.If c a b pos) (tIfS tc t u) := by
  intro pins s σ H D I h
  refine wpAny_If (thn (hc pins s σ H _ I h) fun d s1 ⟨H1, I1, q1⟩ => ?_)
  cases d with
  | true => exact ha pins s1 σ H1 D I1 q1
  | false => exact hb pins s1 σ H1 D I1 q1
end

/-! ### targets -/
abbrev TG := V → St → Hp → (St → Hp → Prop) → Prop
abbrev TGs := List V → St → Hp → (St → Hp → Prop) → Prop
def PG (X : Cx) (target : Expr) (t : TG) : Prop :=
  ∀ (pins : List (Addr × Obj)) (s : Shared) (σ : St) (H : Hp) (v : V) (u : Value) (Q : St → Hp → Prop), Inv X pins σ H s → RelV v u → t v σ H Q →
    wpAny (model X.prog X.w) X.A (assign target X.env u) (fun _ s' => ∃ σ' H', Inv X pins σ' H' s' ∧ Q σ' H') X.xe s
/-- several targets, one after another -/
def PGs (X : Cx) (ts : List Expr) (t : TGs) : Prop :=
  ∀ (pins : List (Addr × Obj)) (s : Shared) (σ : St) (H : Hp) (vs : List V) (us : List Value) (Q : St → Hp → Prop), Inv X pins σ H s → Vals vs us → t vs σ H Q →
    wpAny (model X.prog X.w) X.A (assignInOrder ((assignEach ts X.env).map (·.2)) us) (fun _ s' => ∃ σ' H', Inv X pins σ' H' s' ∧ Q σ' H') X.xe s
section
variable {X : Cx} {pos : Pos}
def gName (i : Nat) : TG := fun v σ H Q => Q (σ.set i (some v)) H
theorem pg_name {i : Nat} {x : Str} (hN : X.N.Nodup) (hi : X.N[i]? = some x) (hx : Loc X.env.scope x) (hf : X.fn x = true ∨ X.env.scope.names.lookup x = some .local := by first | exact .inl rfl | exact .inr rfl | assumption) : PG X (.Name x pos) (gName i) := by
  intro pins s σ H v u Q I r h
  exact wpAny_assign_Name (store_ok I hN hi hx r (fun s' I' => ⟨_, H, I', h⟩) hf)
def gNil : TGs := fun vs σ H Q => vs = [] ∧ Q σ H
def gCons (t : TG) (u : TGs) : TGs := fun vs σ H Q => ∃ v r, vs = v :: r ∧ t v σ H fun σ' H' => u r σ' H' Q
theorem pgs_nil : PGs X [] gNil := by
  intro pins s σ H vs us Q I r h
  obtain ⟨e, h⟩ := h
  subst e
  cases r
  exact assignInOrder_nil ⟨σ, H, I, h⟩
theorem pgs_cons {e : Expr} {es : List Expr} {t : TG} {u : TGs} (h1 : PG X e t) (h2 : PGs X es u)
    (hs : (assignEach (e :: es) X.env).map (·.2) = assign e X.env :: (assignEach es X.env).map (·.2) := by rfl) : PGs X (e :: es) (gCons t u) := by
  intro pins s σ H vs us Q I r h
  obtain ⟨v, vr, e1, h⟩ := h
  subst e1
  cases r with
  | cons r rr =>
    rw [hs]
    refine assignInOrder_cons (thn (h1 pins s σ H _ _ _ I r h) fun _ s1 ⟨σ1, H1, I1, q1⟩ => ?_)
    exact h2 pins s1 σ1 H1 _ _ Q I1 rr q1
/-- (a, b, ..) = a tuple of that length -/
def gTup (K : PySem.W.Frag) (n : Nat) (t : TGs) : TG := fun v σ H Q => ∃ a xs, v = .ref a ∧ SqT K H a xs ∧ xs.length = n ∧ t xs σ H Q
theorem pg_tup {es : List Expr} {k : Nat} {t : TGs} {n : Nat} (hc : X.calm = true) (h : PGs X es t)
    (hn : (assignEach es X.env).length = n := by rfl) (hst : (assignEach es X.env).findIdx? (·.1) = none := by rfl) : PG X (.Tuple es k pos) (gTup X.K n t) := by
  intro pins s σ H v u Q I r hw
  obtain ⟨a, xs, e1, hq, hl, hw⟩ := hw
  subst e1
  cases r
  obtain ⟨its, rv, ht, hz⟩ := I.tuple hq
  refine assign_Tuple_tuple (I.ok.hd hc) ht (by simp [hn, ← hl, rv.length]) hst fun h' hx => ?_
  have I1 : Inv X pins σ H { s with heap := h' } := I.kept (t' := s.toks) fun b o e => hx b o (Nat.ne_of_lt (Heap.lt_size e)) e
  exact h pins _ σ H xs _ Q I1 (by simpa using rv) hw
/-- target = value -/
def tAsg (te : TE) (g : TG) : TS := fun D σ H => te σ H fun x H1 => g x σ H1 D.nx
/-- name = value -/
theorem ps_set {i : Nat} {x : Str} {e : Expr} {te : TE} {pos' : Pos} (hN : X.N.Nodup) (hi : X.N[i]? = some x) (hx : Loc X.env.scope x) (he : PE X e te) (hs : swapsWith e (some (.Name x pos')) pos.line X.env = pure false := by rfl) (hf : X.fn x = true ∨ X.env.scope.names.lookup x = some .local := by first | exact .inl rfl | exact .inr rfl | assumption) :
    PS X (.Assign [.Name x pos'] e pos) (tAsg te (gName i)) := by
  intro pins s σ H D I h
  refine wpAny_Assign_Name (thn (he pins s σ H _ I h) fun v s1 ⟨y, H1, I1, r1, q1⟩ => ?_) hs
  exact store_ok I1 hN hi hx r1 (fun s2 I2 => ⟨_, H1, I2, q1⟩) hf
/-- a, b = x, y with plain local names: stored from the right; the pair itself is not tracked (the opening rows as in PyProof/Rows/TupAssign.lean:23) -/
def tPar (i j : Nat) (ta : TA) : TS := fun D σ H => ta σ H fun vs H1 => ∃ v w, vs = [v, w] ∧ D.nx ((σ.set i (some v)).set j (some w)) H1
theorem ps_par {i j : Nat} {x y : Str} {a b : Expr} {ta : TA} {px py pt : Pos} {kt k2 pt2} (hc : X.calm = true) (hN : X.N.Nodup) (hi : X.N[i]? = some x) (hj : X.N[j]? = some y) (hij : i ≠ j)
    (hx : X.env.scope.names.lookup x = some .local) (hy : X.env.scope.names.lookup y = some .local) (ha : PA X [a, b] ta)
    (hw : swappedStores [.Tuple [.Name x px, .Name y py] kt pt] (.Tuple [a, b] k2 pt2) X.env = pure (some [x, y]))
    (hs : swapsWithSole [.Tuple [.Name x px, .Name y py] kt pt] (.Tuple [a, b] k2 pt2) pos.line X.env = pure false := by rfl) :
    PS X (.Assign [.Tuple [.Name x px, .Name y py] kt pt] (.Tuple [a, b] k2 pt2) pos) (tPar i j ta) := by
  intro pins s σ H D I h
  rw [exec_Assign_arm]
  refine wpAny_bind (wpAny_standAt ?_)
  rw [hs]
  refine wpAny_bind (wpAny_pure ?_)
  rw [if_neg (by decide)]
  refine wpAny_bind (Tuple_ (thn (ha _ pins s σ H _ I h) fun us s1 ⟨vs, H1, I1, r1, q1⟩ => ?_))
  obtain ⟨v, w, e1, q1⟩ := q1
  subst e1
  obtain ⟨u1, u2, rfl, rv, rw'⟩ : ∃ u1 u2, us = [u1, u2] ∧ RelV v u1 ∧ RelV w u2 := by
    cases r1 with
    | cons p q =>
      cases q with
      | cons p' q' =>
        cases q'
        exact ⟨_, _, rfl, p, p'⟩
  refine wpAny_newObj_type ?_ (by show 2 ≤ sizeLine; decide)
  have I2 : Inv X pins σ H1 { s1 with heap := s1.heap.push { cls := .type "tuple", data := .seq [u1, u2].toArray } } := I1.kept (t' := s1.toks) fun b o e => Heap.get?_push_of_some _ e
  rw [hw]
  refine wpAny_bind (wpAny_pure ?_)
  show wpAny (model X.prog X.w) X.A (do rule "assign.swapped-stores"; let items ← unpackItems (.ref s1.heap.objs.size) 2 none; assignInOrder [fun v => bindName X.env y v, fun v => bindName X.env x v] items.reverse; pure Flow.next) _ _ _
  refine wpAny_bind (wpAny_rule (wpAny_bind (unpackItems_tuple (items := #[u1, u2]) (I.ok.hd hc) (IsTup.new s1.heap _) fun h' hx' => ?_)))
  have I3 := I2.kept (h' := h') (t' := s1.toks) fun b o e => hx' b o (Nat.ne_of_lt (Heap.lt_size e)) e
  show wpAny _ _ (assignInOrder [fun v => bindName X.env y v, fun v => bindName X.env x v] [u2, u1] >>= fun _ => pure Flow.next) _ _ _
  refine wpAny_bind (assignInOrder_cons (wpAny_bindName (store_ok I3 hN hj (.inl hy) rw' (fun s2 I4 => ?_) (.inr hy))))
  refine assignInOrder_cons (wpAny_bindName (store_ok I4 hN hi (.inl hx) rv (fun s3 I5 => assignInOrder_nil (wpAny_pure ?_)) (.inr hx)))
  rw [List.set_comm _ _ (Ne.symm hij)] at I5
  exact ⟨_, H1, I5, q1⟩
end

/-! ### while -/
section
variable {X : Cx} {pos : Pos}
/-- the invariant W with its measure -/
def tWhile (c : TT) (tb : TS) : TS := fun D σ H => ∃ W : Nat → St → Hp → Prop, (∃ m, W m σ H) ∧ ∀ m σ H, W m σ H →
  c σ H fun b H1 => if b = true then ∃ N : St → Hp → Prop, (∀ σ' H', N σ' H' → ∃ m', m' < m ∧ W m' σ' H') ∧ tb { D with nx := N, ct := N, bk := D.nx } σ H1 else D.nx σ H1
theorem ps_while {c : Expr} {body : List Stmt} {tc : TT} {tb : TS} (hp : PassesOwn (model X.prog X.w) X.A X.env X.xe) (hc : PT X c tc) (hb : PSs X body tb) : PS X (.While c body [] pos) (tWhile tc tb) := by
  intro pins s σ H D I h
  obtain ⟨W, ⟨m0, w0⟩, turn⟩ := h
  refine wpAny_While (codeAny_whileLoop (fun n s' => ∃ σ' H', Inv X pins σ' H' s' ∧ W n σ' H') ?_ m0 ⟨σ, H, I, w0⟩)
  rintro n s1 ⟨σ1, H1, I1, w1⟩
  refine wpAny_passesOwn hp (thn (hc pins s1 σ1 H1 _ I1 (turn n σ1 H1 w1)) fun b s2 ⟨H2, I2, q2⟩ => ?_)
  cases b with
  | true =>
    obtain ⟨N, hN, q2⟩ := q2
    rw [if_pos rfl]
    refine wpAny_passesOwn hp (thn (hb pins s2 σ1 H2 _ I2 q2) fun f s3 q3 => ?_)
    cases f with
    | next =>
      obtain ⟨σ3, H3, I3, n3⟩ := q3
      obtain ⟨m', hm, w3⟩ := hN σ3 H3 n3
      exact ⟨m', hm, σ3, H3, I3, w3⟩
    | cont =>
      obtain ⟨σ3, H3, I3, n3⟩ := q3
      obtain ⟨m', hm, w3⟩ := hN σ3 H3 n3
      exact ⟨m', hm, σ3, H3, I3, w3⟩
    | brk => exact q3
    | ret v => exact q3
  | false =>
    rw [if_neg Bool.false_ne_true]
    exact wpAny_execs_nil ⟨σ1, H2, I2, q2⟩
end

/-! ### what a loop or a comprehension walks -/
/-- at turn i: it yields x (the heap may grow), or it stops -/
structure It where
  go : Nat → Hp → Prop
  yld : Nat → Hp → V → Hp → Prop
  stop : Nat → Hp → Prop
/-- the iterator's own objects may turn: they are not the frame's, not pinned, younger than the entry (or a comprehension's own) -/
def FpOk (X : Cx) (pins : List (Addr × Obj)) (H : Hp) (b : Addr) : Prop :=
  H b = none ∧ b ≠ X.env.locals ∧ b ∉ X.fs ∧ (b ∈ X.ex ∨ X.s₀.heap.objs.size ≤ b) ∧ (∀ x c, X.env.cells.lookup x = some c → c ≠ b) ∧ ∀ p ∈ X.pn ++ pins, p.1 ≠ b
theorem Inv.fpOk {X : Cx} {pins : List (Addr × Obj)} {σ : St} {H H' : Hp} {s : Shared} {b : Addr} (I : Inv X pins σ H s) (hb : s.heap.objs.size ≤ b) (hn : H' b = none) : FpOk X pins H' b := by
  refine ⟨hn, Nat.ne_of_gt (Nat.lt_of_lt_of_le I.lt hb), I.nofs hb, .inr (Nat.le_trans I.sz hb), fun x c e z => ?_, fun p hp z => ?_⟩
  · obtain ⟨v, q⟩ := I.cell x c e
    exact absurd (Nat.lt_of_lt_of_le q.lt (by rw [z]; exact hb)) (Nat.lt_irrefl _)
  · exact absurd (Nat.lt_of_lt_of_le (Heap.lt_size (I.pin p hp).1) (by rw [z]; exact hb)) (Nat.lt_irrefl _)
structure Turn (P : Program) (w : World) (K : PySem.W.Frag) (tg : Expr) (J : It) (fp : List Addr) (it : Addr) (tn : Nat → Heap → Prop) : Prop where
  mem : it ∈ fp
  obj : ∀ i h, tn i h → ∀ b ∈ fp, ∃ o, h.get? b = some o ∧ ∀ v, o.data ≠ .cell v
  keep : ∀ i h h', tn i h → (∀ b ∈ fp, ∀ o, h.get? b = some o → h'.get? b = some o) → tn i h'
  item : ∀ (X : Cx), X.prog = P → X.w = w → X.K = K → X.calm = true → ∀ (i : Nat) (pins : List (Addr × Obj)) (s : Shared) (σ : St) (H : Hp) (E : Value → Shared → Prop), Inv X pins σ H s → (∀ b ∈ fp, FpOk X pins H b) → tn i s.heap → J.go i H →
    wpAny (model P w) X.A (pyNext (.ref it)) (fun r s1 => ∃ u, r = some u ∧
      wpAny (model P w) X.A (letOwnedTupleGo tg (.ref it) u) (fun _ s2 => ∃ x H', Inv X pins σ H' s2 ∧ RelV x u ∧ J.yld i H x H' ∧ tn (i + 1) s2.heap ∧ ∀ b ∈ fp, H' b = none) E s1) E s
  done : ∀ (X : Cx), X.prog = P → X.w = w → X.K = K → X.calm = true → ∀ (i : Nat) (pins : List (Addr × Obj)) (s : Shared) (σ : St) (H : Hp) (E : Value → Shared → Prop), Inv X pins σ H s → (∀ b ∈ fp, FpOk X pins H b) → tn i s.heap → J.stop i H →
    wpAny (model P w) X.A (pyNext (.ref it)) (fun r s1 => r = none ∧ Inv X pins σ H s1) E s
  self : ∀ (A : Around) (i : Nat) (s : Shared) (Q : Value → Shared → Prop) (E : Value → Shared → Prop), tn i s.heap → Q (.ref it) s → wpAny (model P w) A (pyIter (.ref it)) Q E s
abbrev TI := St → Hp → (It → Hp → Prop) → Prop
/-- an iterator has come -/
def PIE (X : Cx) (pins : List (Addr × Obj)) (σ : St) (tg : Expr) (R : It → Hp → Prop) (itv : Value) (s2 : Shared) : Prop :=
  ∃ (it : Addr) (fp : List Addr) (tn : Nat → Heap → Prop) (J : It) (H' : Hp), itv = .ref it ∧ Inv X pins σ H' s2 ∧ Turn X.prog X.w X.K tg J fp it tn ∧ tn 0 s2.heap ∧ (∀ b ∈ fp, FpOk X pins H' b) ∧ R J H'
def PI (X : Cx) (tg iter : Expr) (wi : TI) : Prop :=
  ∀ (pins : List (Addr × Obj)) (s : Shared) (σ : St) (H : Hp) (R : It → Hp → Prop), Inv X pins σ H s → wi σ H R →
    wpAny (model X.prog X.w) X.A (eval iter X.env) (fun v s1 => wpAny (model X.prog X.w) X.A (pyIter v) (PIE X pins σ tg R) X.xe s1) X.xe s

/-- the step ahead of the store is nothing for an iterator that keeps no tuple -/
theorem go_of {M : Model} {A : Around} {E : Value → Shared → Prop} {s : Shared} {tg : Expr} {it : Addr} {u : Value} {o : Obj} {n : String} {vs : Array Value} {Q : Unit → Shared → Prop} (ho : s.heap.get? it = some o) (hc : o.cls = .type n) (hd : o.data = .fields vs)
    (hn : ["enumerate", "zip", "dict_itemiterator", "dict_reverseitemiterator", "odict_iterator", "itertools.zip_longest", "itertools.pairwise"].contains n = false) (hQ : Q () s) : wpAny M A (letOwnedTupleGo tg (.ref it) u) Q E s := by
  unfold letOwnedTupleGo
  cases tg <;> first
    | exact wpAny_pure hQ
    | (cases u <;> first
        | exact wpAny_pure hQ
        | (refine wpAny_bind (wpAny_load ho ?_)
           rw [hc, hd]
           show wpAny M A (if (["enumerate", "zip", "dict_itemiterator", "dict_reverseitemiterator", "odict_iterator", "itertools.zip_longest", "itertools.pairwise"].contains n && vs[0]? == some (rawInt _)) = true then _ else _) Q E s
           rw [if_neg (by intro h; rw [hn, Bool.false_and] at h; cases h)]
           exact wpAny_pure hQ))

/-- the list at a, as it stands at each turn (a loop may append to it) -/
def Itl (K : PySem.W.Frag) (a : Addr) : It :=
  ⟨fun i H => ∃ xs x, SqL K H a xs ∧ xs[i]? = some x, fun i H x H' => H' = H ∧ ∀ xs, SqL K H a xs → xs[i]? = some x, fun i H => ∃ xs, SqL K H a xs ∧ xs.length ≤ i⟩
def Itt (K : PySem.W.Frag) (a : Addr) : It :=
  ⟨fun i H => ∃ xs x, SqT K H a xs ∧ xs[i]? = some x, fun i H x H' => H' = H ∧ ∀ xs, SqT K H a xs → xs[i]? = some x, fun i H => ∃ xs, SqT K H a xs ∧ xs.length ≤ i⟩
/-- lo, lo + 1, .. (n of them) -/
def Itr (lo : Int) (n : Nat) : It := ⟨fun i _ => i < n, fun i H x H' => H' = H ∧ x = .int (lo + i), fun i _ => n ≤ i⟩
theorem turn_range {P : Program} {w : World} {K : PySem.W.Frag} {tg : Expr} (it : Addr) (lo : Int) (n : Nat) : Turn P w K tg (Itr lo n) [it] it (fun i h => IsRangeIter h it (lo + (i : Nat) * 1) ((n : Int) - (i : Nat)) 1) where
  mem := by simp
  obj := fun i h st b hb => by
    have e : b = it := by simpa using hb
    subst e
    exact ⟨_, st, fun v z => by
      have z' : Data.fields _ = Data.cell v := z
      cases z'⟩
  keep := fun i h h' st k => k it (by simp) _ st
  item := by
    intro X hP hw hK hc i pins s σ H E I hf st hg
    subst hP hw hK
    obtain ⟨f0, f1, f2, f3, f4, f5⟩ := hf it (by simp)
    have W := Walks.range (prog := X.prog) (w := X.w) (I.ok.hd hc) it lo 1 n
    refine W.item i s _ _ hg st fun v h' tk hv st' kk => ?_
    obtain ⟨t, rfl⟩ := hv
    have I1 : Inv X pins σ H { s with heap := h', toks := tk } := I.turned (fun b o hb e => kk b o (by simpa using hb) e) f0 f1 f3 f4 f5
    refine ⟨_, rfl, go_of (s := { s with heap := h', toks := tk }) (n := "range_iterator") st' rfl rfl (by decide) ⟨.int (lo + i), H, I1, ⟨t, ?_⟩, ⟨rfl, rfl⟩, st', fun b hb => (hf b hb).1⟩⟩
    rw [Int.mul_one]
  done := by
    intro X hP hw hK hc i pins s σ H E I hf st hg
    subst hP hw hK
    obtain ⟨f0, f1, f2, f3, f4, f5⟩ := hf it (by simp)
    exact wpAny_pyNext_range_end (I.ok.hd hc) st (by have : n ≤ i := hg; omega) fun h' eb => ⟨rfl, I.turned (t' := s.toks) (fun b o hb e => eb b o hb e) f0 f1 f3 f4 f5⟩
  self := fun _ _ _ _ _ st h => wpAny_pyIter_rangeiter st h
end L2

namespace L2
open PySem PySem.Spec PyProof.Rows
section
variable {X : Cx} {tg : Expr}
def iList (K : PySem.W.Frag) (tl : TE) : TI := fun σ H R => tl σ H fun x H1 => ∃ a, x = .ref a ∧ (∃ xs, SqL K H1 a xs) ∧ R (Itl K a) H1
def iTup (K : PySem.W.Frag) (tl : TE) : TI := fun σ H R => tl σ H fun x H1 => ∃ a, x = .ref a ∧ (∃ xs, SqT K H1 a xs) ∧ R (Itt K a) H1
/-- a range object just made, walked -/
theorem range_it {pins : List (Addr × Obj)} {σ : St} {H : Hp} {s : Shared} {R : It → Hp → Prop} {E : Value → Shared → Prop} {lo hi : Int} {t u v : Tok} {tk : Nat} (I : Inv X pins σ H s) (h1 : -(2 ^ 62) ≤ lo) (h2 : lo < 2 ^ 62) (h3 : -(2 ^ 62) ≤ hi) (h4 : hi < 2 ^ 62)
    (q : R (Itr lo (hi - lo).toNat) H) : wpAny (model X.prog X.w) X.A (pyIter (.ref s.heap.objs.size)) (PIE X pins σ tg R) E { s with heap := s.heap.push { cls := .type "range", data := .fields #[.int lo t, .int hi u, .int 1 v] }, toks := tk } := by
  refine wpAny_pyIter_range (IsRange.new ..) (small_one h1 h2 h3 h4) ?_
  have I1 : Inv X pins σ H { s with heap := s.heap.push { cls := .type "range", data := .fields #[.int lo t, .int hi u, .int 1 v] }, toks := tk } := I.kept fun b o e => Heap.get?_push_of_some _ e
  refine ⟨(s.heap.push { cls := .type "range", data := .fields #[.int lo t, .int hi u, .int 1 v] }).objs.size, [(s.heap.push { cls := .type "range", data := .fields #[.int lo t, .int hi u, .int 1 v] }).objs.size], _, _, H, rfl,
    I1.kept (t' := tk) fun b o e => Heap.get?_push_of_some _ e, turn_range _ lo (hi - lo).toNat, ?_, fun b hb => ?_, q⟩
  · have e1 : lo + ((0 : Nat) : Int) * 1 = lo := by simp
    have e2 : (((hi - lo).toNat : Nat) : Int) - ((0 : Nat) : Int) = Builtin.Range.rangeSize lo hi 1 := by rw [rangeSize_one]; split <;> omega
    show IsRangeIter _ _ (lo + ((0 : Nat) : Int) * 1) ((((hi - lo).toNat : Nat) : Int) - ((0 : Nat) : Int)) 1
    rw [e1, e2]
    exact Heap.get?_push_size _ rfl
  · have e : b = (s.heap.push { cls := .type "range", data := .fields #[.int lo t, .int hi u, .int 1 v] }).objs.size := by simpa using hb
    subst e
    exact I1.fpOk (Nat.le_refl _) (I1.hok.fresh (Nat.le_refl _))
def iRng1 (ta : TA) : TI := fun σ H R => ta σ H fun vs H1 => ∃ j : Int, vs = [.int j] ∧ -(2 ^ 62) ≤ j ∧ j < 2 ^ 62 ∧ R (Itr 0 j.toNat) H1
def iRng2 (ta : TA) : TI := fun σ H R => ta σ H fun vs H1 => ∃ i j : Int, vs = [.int i, .int j] ∧ (-(2 ^ 62) ≤ i ∧ i < 2 ^ 62 ∧ -(2 ^ 62) ≤ j ∧ j < 2 ^ 62) ∧ R (Itr i (j - i).toNat) H1
theorem pi_range2 {a b : Expr} {ta : TA} {p pos : Pos} (hg : Gl X "range") (hm : X.mg "range" = none) (ha : PA X [a, b] ta) (hs : starEach [a, b] X.env = [(false, eval a X.env), (false, eval b X.env)] := by rfl) (hs2 : starEach [b] X.env = [(false, eval b X.env)] := by rfl) :
    PI X tg (.Call (.Name "range" p) [a, b] [] pos) (iRng2 ta) := by
  intro pins s σ H R I h
  refine Call_ (ld_blt I hg hm boot_range (PyProof.Rows.callWith_type1 (thn (ha pos pins s σ H _ I h) fun us s1 ⟨vs, H1, I1, r1, q1⟩ => ?_) (by rw [hs, hs2]) (by rw [hs2]; rfl)))
  obtain ⟨i, j, e, ⟨q1, q2, q3, q4⟩, q⟩ := q1
  subst e
  cases r1 with
  | cons r rr =>
    cases rr with
    | cons r' rr =>
      cases rr
      obtain ⟨t, rfl⟩ := r
      obtain ⟨t', rfl⟩ := r'
      exact call_range_2 (range_it I1 q1 q2 q3 q4 q)

/-! ### for -/
/-- W: the invariant by the turn and a measure; N: what the body is to reach -/
def tFor (wi : TI) (g : TG) (tb : TS) : TS := fun D σ H => wi σ H fun J H1 => ∃ W : Nat → Nat → St → Hp → Prop, (∃ m, W 0 m σ H1) ∧ ∀ i m σ H, W i m σ H →
  (J.stop i H ∧ D.nx σ H) ∨ (J.go i H ∧ ∃ N : St → Hp → Prop, (∀ σ' H', N σ' H' → ∃ m', m' < m ∧ W (i + 1) m' σ' H') ∧ ∀ x H', J.yld i H x H' → g x σ H' fun σ2 H2 => tb { D with nx := N, ct := N, bk := D.nx } σ2 H2)
/-- the records at fp as they stand -/
def pinsAt (fp : List Addr) (h : Heap) : List (Addr × Obj) := fp.filterMap fun b => (h.get? b).map fun o => (b, o)
theorem mem_pinsAt {fp : List Addr} {h : Heap} {b : Addr} {o : Obj} (hb : b ∈ fp) (e : h.get? b = some o) : (b, o) ∈ pinsAt fp h := List.mem_filterMap.mpr ⟨b, hb, by rw [e]; rfl⟩
theorem of_pinsAt {fp : List Addr} {h : Heap} {p : Addr × Obj} (hp : p ∈ pinsAt fp h) : p.1 ∈ fp ∧ h.get? p.1 = some p.2 := by
  obtain ⟨b, hb, e⟩ := List.mem_filterMap.mp hp
  cases q : h.get? b with
  | none => rw [q] at e; cases e
  | some o =>
    rw [q] at e
    have e' : (b, o) = p := Option.some.inj e
    subst e'
    exact ⟨hb, q⟩
theorem Inv.pinned {pins : List (Addr × Obj)} {σ : St} {H : Hp} {s : Shared} {fp : List Addr} (I : Inv X pins σ H s) (hf : ∀ b ∈ fp, FpOk X pins H b) (ho : ∀ b ∈ fp, ∃ o, s.heap.get? b = some o ∧ ∀ v, o.data ≠ .cell v) : Inv X (pins ++ pinsAt fp s.heap) σ H s :=
  I.pins_of fun p hp => (List.mem_append.mp hp).elim (fun z => I.pin p (List.mem_append_right _ z)) fun z => by
    obtain ⟨hb, e⟩ := of_pinsAt z
    obtain ⟨f0, f1, f2, _⟩ := hf p.1 hb
    obtain ⟨o, e', d⟩ := ho p.1 hb
    rw [e] at e'; cases e'
    exact ⟨e, f0, f1, f2, d⟩
theorem Inv.unpinned {pins pl : List (Addr × Obj)} {σ : St} {H : Hp} {s : Shared} (I : Inv X (pins ++ pl) σ H s) : Inv X pins σ H s := I.pins_of fun p hp => I.pin p (List.mem_append_right _ (List.mem_append_left _ hp))
theorem ps_for {iter : Expr} {body : List Stmt} {wi : TI} {g : TG} {tb : TS} {pos : Pos} (hp : PassesOwn (model X.prog X.w) X.A X.env X.xe) (hc : X.calm = true) (hi : PI X tg iter wi) (hg : PG X tg g) (hb : PSs X body tb)
    (hs : ∀ x, foldedSetIterable iter X.env x = pure x := by intro _; rfl) : PS X (.For tg iter body [] pos) (tFor wi g tb) := by
  intro pins s σ H D I h
  refine wpAny_For (thn (hi pins s σ H _ I h) fun v s1 h1 => thn h1 fun itv s2 h2 => ?_) hs
  obtain ⟨it, fp, tn, J, H2, e, I2, T, st2, f2, W, ⟨m0, w0⟩, turn⟩ := h2
  subst e
  -- what stays true of the iterator's objects through the loop
  have stat : ∀ {H' : Hp}, (∀ b ∈ fp, H' b = none) → ∀ b ∈ fp, FpOk X pins H' b := fun hn b hb => ⟨hn b hb, (f2 b hb).2⟩
  refine codeAny_forLoop_any (fun n s' => ∃ i σ' H', Inv X pins σ' H' s' ∧ tn i s'.heap ∧ (∀ b ∈ fp, H' b = none) ∧ W i n σ' H') ?_ m0 ⟨0, σ, H2, I2, st2, fun b hb => (f2 b hb).1, w0⟩
  rintro n s3 ⟨i, σ3, H3, I3, st3, fr3, w3⟩
  rcases turn i n σ3 H3 w3 with ⟨stop, qn⟩ | ⟨go, N, hN, step⟩
  · refine wpAny_passesOwn hp (thn (T.done X rfl rfl rfl hc i pins s3 σ3 H3 X.xe I3 (stat fr3) st3 stop) fun r s4 ⟨hr, I4⟩ => ?_)
    subst hr
    exact wpAny_execs_nil ⟨σ3, H3, I4, qn⟩
  · refine wpAny_passesOwn hp (thn (T.item X rfl rfl rfl hc i pins s3 σ3 H3 X.xe I3 (stat fr3) st3 go) fun r s4 ⟨u, hr, h4⟩ => ?_)
    subst hr
    refine wpAny_passesOwn hp (thn h4 fun _ s5 ⟨x, H5, I5, r5, y5, st5, fr5⟩ => ?_)
    have I5' := I5.pinned (stat fr5) (T.obj _ _ st5)
    refine wpAny_passesOwn hp (thn (hg _ s5 σ3 H5 x u _ I5' r5 (step x H5 y5)) fun _ s6 ⟨σ6, H6, I6, q6⟩ => ?_)
    refine wpAny_passesOwn hp (thn (hb _ s6 σ6 H6 _ I6 q6) fun f s7 q7 => ?_)
    have again : ∀ {σ7 : St} {H7 : Hp}, Inv X (pins ++ pinsAt fp s5.heap) σ7 H7 s7 → N σ7 H7 → ∃ m, m < n ∧ ∃ i σ' H', Inv X pins σ' H' s7 ∧ tn i s7.heap ∧ (∀ b ∈ fp, H' b = none) ∧ W i m σ' H' := fun {σ7 H7} I7 n7 => by
      obtain ⟨m', hm, w7⟩ := hN σ7 H7 n7
      refine ⟨m', hm, i + 1, σ7, H7, I7.unpinned, T.keep _ _ _ st5 fun b hb o e => (I7.pin (b, o) (List.mem_append_right _ (List.mem_append_right _ (mem_pinsAt hb e)))).1, fun b hb => ?_, w7⟩
      obtain ⟨o, e, d⟩ := T.obj _ _ st5 b hb
      exact (I7.pin (b, o) (List.mem_append_right _ (List.mem_append_right _ (mem_pinsAt hb e)))).2.1
    cases f with
    | next => obtain ⟨σ7, H7, I7, n7⟩ := q7; exact again I7 n7
    | cont => obtain ⟨σ7, H7, I7, n7⟩ := q7; exact again I7 n7
    | brk => obtain ⟨σ7, H7, I7, q7⟩ := q7; exact ⟨σ7, H7, I7.unpinned, q7⟩
    | ret v => obtain ⟨x7, σ7, H7, I7, r7, q7⟩ := q7; exact ⟨x7, σ7, H7, I7.unpinned, r7, q7⟩
end

/-! ### the forms one uses -/
theorem for_range {lo : Int} {n : Nat} {g : TG} {tb : TS} {D : Ends} {σ : St} {H : Hp} (Pv : Nat → St → Hp → Prop) (h0 : Pv 0 σ H)
    (hs : ∀ i σ H, i < n → Pv i σ H → g (.int (lo + i)) σ H fun σ2 H2 => tb { D with nx := Pv (i + 1), ct := Pv (i + 1), bk := D.nx } σ2 H2) (hd : ∀ σ H, Pv n σ H → D.nx σ H) :
    ∃ W : Nat → Nat → St → Hp → Prop, (∃ m, W 0 m σ H) ∧ ∀ i m σ H, W i m σ H →
      ((Itr lo n).stop i H ∧ D.nx σ H) ∨ ((Itr lo n).go i H ∧ ∃ N : St → Hp → Prop, (∀ σ' H', N σ' H' → ∃ m', m' < m ∧ W (i + 1) m' σ' H') ∧ ∀ x H', (Itr lo n).yld i H x H' → g x σ H' fun σ2 H2 => tb { D with nx := N, ct := N, bk := D.nx } σ2 H2) := by
  refine ⟨fun i m σ H => m = n - i ∧ i ≤ n ∧ Pv i σ H, ⟨n, by simp, Nat.zero_le _, h0⟩, ?_⟩
  rintro i m σ H ⟨rfl, hi, p⟩
  by_cases hlt : i < n
  · refine .inr ⟨hlt, Pv (i + 1), fun σ' H' p' => ⟨n - (i + 1), by omega, rfl, hlt, p'⟩, fun x H' y => ?_⟩
    obtain ⟨e, y⟩ := y
    subst e y
    exact hs i σ _ hlt p
  · have e : i = n := by omega
    subst e
    exact .inl ⟨Nat.le_refl _, hd σ H p⟩
end L2

namespace L2
open PySem PySem.Spec PyProof.Rows

abbrev R2 := V → V → Hp → VK → Prop
/-- a two-place operation on values: f is binaryOp op, inplaceOp op or compareOp op -/
def OpR (X : Cx) (f : Value → Value → Sem Value) (r : R2) : Prop :=
  ∀ (pins : List (Addr × Obj)) (s : Shared) (σ : St) (H : Hp) (x y : V) (v u : Value) (Q : VK), Inv X pins σ H s → RelV x v → RelV y u → r x y H Q →
    wpAny (model X.prog X.w) X.A (f v u) (EP X pins σ Q) X.xe s
/-- a one-place operation -/
def UnR (X : Cx) (f : Value → Sem Value) (r : V → Hp → VK → Prop) : Prop :=
  ∀ (pins : List (Addr × Obj)) (s : Shared) (σ : St) (H : Hp) (x : V) (v : Value) (Q : VK), Inv X pins σ H s → RelV x v → r x H Q →
    wpAny (model X.prog X.w) X.A (f v) (EP X pins σ Q) X.xe s
/-- a call of a value that is known (a builtin, a type) with values -/
def CallR (X : Cx) (f : Value) (r : List V → Hp → VK → Prop) : Prop :=
  ∀ (pins : List (Addr × Obj)) (s : Shared) (σ : St) (H : Hp) (xs : List V) (us : List Value) (Q : VK), Inv X pins σ H s → Vals xs us → r xs H Q →
    wpAny (model X.prog X.w) X.A (call f us) (EP X pins σ Q) X.xe s
def tOp (r : R2) (ta tb : TE) : TE := fun σ H Q => ta σ H fun x H1 => tb σ H1 fun y H2 => r x y H2 Q
def tUn (r : V → Hp → VK → Prop) (ta : TE) : TE := fun σ H Q => ta σ H fun x H1 => r x H1 Q
/-- ints in, under C, and a value out -/
def rI (C : Int → Int → Prop) (g : Int → Int → V) : R2 := fun x y H Q => ∃ i j, x = .int i ∧ y = .int j ∧ C i j ∧ Q (g i j) H
def rI0 (g : Int → Int → V) : R2 := fun x y H Q => ∃ i j, x = .int i ∧ y = .int j ∧ Q (g i j) H
def rU (g : Int → V) : V → Hp → VK → Prop := fun x H Q => ∃ i, x = .int i ∧ Q (g i) H

section
variable {X : Cx} {a b c : Expr} {ta tb tc : TE} {pos : Pos}

theorem binT (ha : PE X a ta) (hb : PE X b tb) {pins : List (Addr × Obj)} {s : Shared} {σ : St} {H : Hp} {R : V → V → Hp → Prop} (I : Inv X pins σ H s)
    (h : ta σ H fun x H1 => tb σ H1 fun y H2 => R x y H2) {Q : Value → Shared → Prop} {f : Value → Value → Sem Value}
    (hf : ∀ v u s2 x y H2, Inv X pins σ H2 s2 → RelV x v → RelV y u → R x y H2 → wpAny (model X.prog X.w) X.A (f v u) Q X.xe s2) :
    wpAny (model X.prog X.w) X.A (eval a X.env) (fun v s₁ => wpAny (model X.prog X.w) X.A (eval b X.env) (fun u s₂ => wpAny (model X.prog X.w) X.A (f v u) Q X.xe s₂) X.xe s₁) X.xe s := by
  refine thn (ha pins s σ H _ I h) fun v s1 ⟨x, H1, I1, r1, q1⟩ => ?_
  refine thn (hb pins s1 σ H1 _ I1 q1) fun u s2 ⟨y, H2, I2, r2, q2⟩ => ?_
  exact hf v u s2 x y H2 I2 r1 r2 q2

theorem pe_op {op : Operator} {r : R2} (ho : OpR X (binaryOp op) r) (ha : PE X a ta) (hb : PE X b tb) : PE X (.BinOp a op b pos) (tOp r ta tb) := by
  intro pins s σ H Q I h
  exact wpAny_BinOp (binT ha hb I h fun v u s2 x y H2 I2 rx ry q => ho pins s2 σ H2 x y v u Q I2 rx ry q)
theorem pe_un {op : UnaryOp} {r : V → Hp → VK → Prop} (ho : UnR X (unaryOp op) r) (ha : PE X a ta) : PE X (.UnaryOp op a pos) (tUn r ta) := by
  intro pins s σ H Q I h
  exact UnaryOp_ (thn (ha pins s σ H _ I h) fun v s1 ⟨x, H1, I1, r1, q1⟩ => ho pins s1 σ H1 x v Q I1 r1 q1)
/-! ### ints -/
theorem opI {f : Value → Value → Sem Value} {C : Int → Int → Prop} {g : Int → Int → Int}
    (rule : ∀ (i j : Int) (t u : Tok) (s : Shared) (Q : Value → Shared → Prop) (E : Value → Shared → Prop), C i j → Q (.int (g i j) s.toks) { s with toks := s.toks + 1 } → wpAny (model X.prog X.w) X.A (f (.int i t) (.int j u)) Q E s) :
    OpR X f (rI C fun i j => .int (g i j)) := by
  intro pins s σ H x y v u Q I rx ry h
  obtain ⟨i, j, rfl, rfl, hc, q⟩ := h
  obtain ⟨t, rfl⟩ := rx
  obtain ⟨t', rfl⟩ := ry
  exact rule i j t t' s _ _ hc ⟨.int (g i j), H, I.tok _, ⟨_, rfl⟩, q⟩
theorem opI0 {f : Value → Value → Sem Value} {g : Int → Int → Int}
    (rule : ∀ (i j : Int) (t u : Tok) (s : Shared) (Q : Value → Shared → Prop) (E : Value → Shared → Prop), Q (.int (g i j) s.toks) { s with toks := s.toks + 1 } → wpAny (model X.prog X.w) X.A (f (.int i t) (.int j u)) Q E s) :
    OpR X f (rI0 fun i j => .int (g i j)) := by
  intro pins s σ H x y v u Q I rx ry h
  obtain ⟨i, j, rfl, rfl, q⟩ := h
  obtain ⟨t, rfl⟩ := rx
  obtain ⟨t', rfl⟩ := ry
  exact rule i j t t' s _ _ ⟨.int (g i j), H, I.tok _, ⟨_, rfl⟩, q⟩
theorem opB0 {f : Value → Value → Sem Value} {g : Int → Int → Bool}
    (rule : ∀ (i j : Int) (t u : Tok) (s : Shared) (Q : Value → Shared → Prop) (E : Value → Shared → Prop), Q (.bool (g i j)) s → wpAny (model X.prog X.w) X.A (f (.int i t) (.int j u)) Q E s) :
    OpR X f (rI0 fun i j => .bl (g i j)) := by
  intro pins s σ H x y v u Q I rx ry h
  obtain ⟨i, j, rfl, rfl, q⟩ := h
  obtain ⟨t, rfl⟩ := rx
  obtain ⟨t', rfl⟩ := ry
  exact rule i j t t' s _ _ ⟨.bl (g i j), H, I, rfl, q⟩

def CPow (i j : Int) : Prop := 0 ≤ j ∧ j ≤ 1000000 ∧ i.natAbs < 2 ^ 64
def CMul (i j : Int) : Prop := (-(2 ^ 64) < i ∧ i < 2 ^ 64) ∨ (-(2 ^ 64) < j ∧ j < 2 ^ 64)
theorem CMul.ok {i j : Int} (h : CMul i j) : IntMulOk i j := by
  rcases h with ⟨h1, h2⟩ | ⟨h1, h2⟩
  · exact .of_left (intBits_le_64 h1 h2)
  · exact .of_right (intBits_le_64 h1 h2)
theorem op_add : OpR X (binaryOp .Add) (rI0 fun i j => .int (i + j)) := opI0 fun _ _ _ _ _ _ _ q => add_int q
theorem op_sub : OpR X (binaryOp .Sub) (rI0 fun i j => .int (i - j)) := opI0 fun _ _ _ _ _ _ _ q => sub_int q
/-- % by a positive divisor of any size -/
theorem op_mod : OpR X (binaryOp .Mod) (rI (fun _ j => 0 < j) fun i j => .int (i % j)) := opI fun i j _ _ _ _ _ hc q => by
  have h1 : (0 : Int) < j := hc
  exact mod_int' (by omega) (by rw [Int.fmod_eq_emod_of_nonneg i (by omega)]; exact q)
theorem op_shl : OpR X (binaryOp .LShift) (rI CPow fun i j => .int (i * 2 ^ j.toNat)) := opI fun _ _ _ _ _ _ _ hc q => lshift_int_small hc.1 hc.2.1 hc.2.2 q
theorem unI {f : Value → Sem Value} {g : Int → Int}
    (rule : ∀ (i : Int) (t : Tok) (s : Shared) (Q : Value → Shared → Prop) (E : Value → Shared → Prop), Q (.int (g i) s.toks) { s with toks := s.toks + 1 } → wpAny (model X.prog X.w) X.A (f (.int i t)) Q E s) :
    UnR X f (rU fun i => .int (g i)) := by
  intro pins s σ H x v Q I rx h
  obtain ⟨i, rfl, q⟩ := h
  obtain ⟨t, rfl⟩ := rx
  exact rule i t s _ _ ⟨.int (g i), H, I.tok _, ⟨_, rfl⟩, q⟩
theorem un_neg : UnR X (unaryOp .USub) (rU fun i => .int (-i)) := unI fun _ _ _ _ _ q => neg_int q
/-! ### bools among ints: n += (a < b) -/
end

/-! ### comparisons -/
/-- the scalars that == tells apart as data does -/
def scal : V → V → Bool
  | .non, .non => true | .non, .int _ => true | .int _, .non => true | .non, .bl _ => true | .bl _, .non => true | .non, .str _ => true | .str _, .non => true
  | .int _, .int _ => true | .bl _, .bl _ => true | .str _, .str _ => true | .byt _, .byt _ => true
  | .int _, .str _ => true | .str _, .int _ => true | .bl _, .str _ => true | .str _, .bl _ => true
  | _, _ => false
def rEq : R2 := fun x y H Q => scal x y = true ∧ Q (.bl (decide (x = y))) H
def rNe : R2 := fun x y H Q => scal x y = true ∧ Q (.bl (!decide (x = y))) H

theorem dec_int {i j : Int} : decide (V.int i = V.int j) = (i == j) := by
  rw [Bool.eq_iff_iff]
  simp
theorem dec_bl {i j : Bool} : decide (V.bl i = V.bl j) = (i == j) := by
  rw [Bool.eq_iff_iff]
  simp
theorem dec_str {i j : Str} : decide (V.str i = V.str j) = (i == j) := by
  rw [Bool.eq_iff_iff]
  simp
theorem dec_byt {i j : Array UInt8} : decide (V.byt i = V.byt j) = (i.toList == j.toList) := by
  rw [Bool.eq_iff_iff]
  cases i
  cases j
  simp

section
variable {X : Cx} {a b c : Expr} {ta tb tc : TE} {pos : Pos}
theorem fin_bl {pins : List (Addr × Obj)} {σ : St} {H : Hp} {s : Shared} {Q : VK} {k k' : Bool} (I : Inv X pins σ H s) (q : Q (.bl k) H) (e : k = k') : EP X pins σ Q (.bool k') s := by
  subst e
  exact ⟨.bl k, H, I, rfl, q⟩
theorem op_eq : OpR X (compareOp .Eq) rEq := by
  intro pins s σ H x y v u Q I rx ry h
  obtain ⟨hs, q⟩ := h
  cases x with
  | non =>
    cases rx
    cases y with
    | non => cases ry; exact PySem.EqNone.eq_none_none (fin_bl I q (by simp))
    | bl j => cases ry; exact PySem.EqNone.eq_none_bool (fin_bl I q (by simp))
    | int j => obtain ⟨t', rfl⟩ := ry; exact PySem.EqNone.eq_none_int (fin_bl I q (by simp))
    | str j => obtain ⟨t', rfl⟩ := ry; exact PySem.EqNone.eq_none_str (fin_bl I q (by simp))
    | _ => exact absurd (show false = true from hs) Bool.false_ne_true
  | bl i =>
    cases rx
    cases y with
    | non => cases ry; exact PySem.EqNone.eq_bool_none (fin_bl I q (by simp))
    | bl j => cases ry; exact eq_bool (fin_bl I q dec_bl)
    | str j => obtain ⟨t', rfl⟩ := ry; exact PySem.EqMixed.eq_bool_str (fin_bl I q (by simp))
    | _ => exact absurd (show false = true from hs) Bool.false_ne_true
  | int i =>
    obtain ⟨t, rfl⟩ := rx
    cases y with
    | non => cases ry; exact PySem.EqNone.eq_int_none (fin_bl I q (by simp))
    | int j => obtain ⟨t', rfl⟩ := ry; exact eq_int (fin_bl I q dec_int)
    | str j => obtain ⟨t', rfl⟩ := ry; exact PySem.EqMixed.eq_int_str (fin_bl I q (by simp))
    | _ => exact absurd (show false = true from hs) Bool.false_ne_true
  | str i =>
    obtain ⟨t, rfl⟩ := rx
    cases y with
    | non => cases ry; exact PySem.EqNone.eq_str_none (fin_bl I q (by simp))
    | bl j => cases ry; exact PySem.EqMixed.eq_str_bool (fin_bl I q (by simp))
    | int j => obtain ⟨t', rfl⟩ := ry; exact PySem.EqMixed.eq_str_int (fin_bl I q (by simp))
    | str j => obtain ⟨t', rfl⟩ := ry; exact eq_str (fin_bl I q dec_str)
    | _ => exact absurd (show false = true from hs) Bool.false_ne_true
  | byt i =>
    obtain ⟨t, rfl⟩ := rx
    cases y with
    | byt j => obtain ⟨t', rfl⟩ := ry; exact PySem.W.eq_bytes (fin_bl I q dec_byt)
    | _ => exact absurd (show false = true from hs) Bool.false_ne_true
  | _ => cases y <;> exact absurd (show false = true from hs) Bool.false_ne_true
theorem op_ne : OpR X (compareOp .NotEq) rNe := by
  intro pins s σ H x y v u Q I rx ry h
  obtain ⟨hs, q⟩ := h
  cases x with
  | non =>
    cases rx
    cases y with
    | non => cases ry; exact PySem.EqNone.ne_none_none (fin_bl I q (by simp))
    | bl j => cases ry; exact PySem.EqNone.ne_none_bool (fin_bl I q (by simp))
    | int j => obtain ⟨t', rfl⟩ := ry; exact PySem.EqNone.ne_none_int (fin_bl I q (by simp))
    | str j => obtain ⟨t', rfl⟩ := ry; exact PySem.EqNone.ne_none_str (fin_bl I q (by simp))
    | _ => exact absurd (show false = true from hs) Bool.false_ne_true
  | bl i =>
    cases rx
    cases y with
    | non => cases ry; exact PySem.EqNone.ne_bool_none (fin_bl I q (by simp))
    | bl j => cases ry; exact ne_bool (fin_bl I q (congrArg not dec_bl))
    | str j => obtain ⟨t', rfl⟩ := ry; exact PySem.EqMixed.ne_bool_str (fin_bl I q (by simp))
    | _ => exact absurd (show false = true from hs) Bool.false_ne_true
  | int i =>
    obtain ⟨t, rfl⟩ := rx
    cases y with
    | non => cases ry; exact PySem.EqNone.ne_int_none (fin_bl I q (by simp))
    | int j => obtain ⟨t', rfl⟩ := ry; exact ne_int (fin_bl I q (congrArg not dec_int))
    | str j => obtain ⟨t', rfl⟩ := ry; exact PySem.EqMixed.ne_int_str (fin_bl I q (by simp))
    | _ => exact absurd (show false = true from hs) Bool.false_ne_true
  | str i =>
    obtain ⟨t, rfl⟩ := rx
    cases y with
    | non => cases ry; exact PySem.EqNone.ne_str_none (fin_bl I q (by simp))
    | bl j => cases ry; exact PySem.EqMixed.ne_str_bool (fin_bl I q (by simp))
    | int j => obtain ⟨t', rfl⟩ := ry; exact PySem.EqMixed.ne_str_int (fin_bl I q (by simp))
    | str j => obtain ⟨t', rfl⟩ := ry; exact ne_str (fin_bl I q (congrArg not dec_str))
    | _ => exact absurd (show false = true from hs) Bool.false_ne_true
  | byt i =>
    obtain ⟨t, rfl⟩ := rx
    cases y with
    | byt j => obtain ⟨t', rfl⟩ := ry; exact PySem.W.ne_bytes (fin_bl I q (congrArg not dec_byt))
    | _ => exact absurd (show false = true from hs) Bool.false_ne_true
  | _ => cases y <;> exact absurd (show false = true from hs) Bool.false_ne_true

theorem op_lt : OpR X (compareOp .Lt) (rI0 fun i j => .bl (decide (i < j))) := opB0 fun _ _ _ _ _ _ _ q => lt_int q
theorem op_le : OpR X (compareOp .LtE) (rI0 fun i j => .bl (decide (i ≤ j))) := opB0 fun _ _ _ _ _ _ _ q => le_int q
theorem op_gt : OpR X (compareOp .Gt) (rI0 fun i j => .bl (decide (j < i))) := opB0 fun _ _ _ _ _ _ _ q => gt_int q
/-- two rules for one operation: by cases -/
theorem OpR.or {f : Value → Value → Sem Value} {r r' : R2} (h : OpR X f r) (h' : OpR X f r') : OpR X f (fun x y H Q => r x y H Q ∨ r' x y H Q) := by
  intro pins s σ H x y v u Q I rx ry q
  rcases q with q | q
  · exact h pins s σ H x y v u Q I rx ry q
  · exact h' pins s σ H x y v u Q I rx ry q

theorem nomark (b : Expr) {op : CmpOp} (h : op ≠ .In := by decide) (h2 : op ≠ .NotIn := by decide) : behindInMarks op b = false := by
  have e1 : (op == CmpOp.In) = false := by cases op <;> first | rfl | exact absurd rfl h
  have e2 : (op == CmpOp.NotIn) = false := by cases op <;> first | rfl | exact absurd rfl h2
  cases b <;> simp [behindInMarks, e1, e2]
/-- a comparison as a value; hm: nomark b, or (for in, not in) by with_unfolding_all rfl -/
theorem pe_cmpR {op : CmpOp} {r : R2} (ho : OpR X (compareOp op) r) (ha : PE X a ta) (hb : PE X b tb) (hm : behindInMarks op b = false) : PE X (.Compare a [op] [b] pos) (tOp r ta tb) := by
  intro pins s σ H Q I h
  exact wpAny_Compare1 (binT ha hb I h fun v u s2 x y H2 I2 rx ry q => ho pins s2 σ H2 x y v u Q I2 rx ry q) hm
/-- a reading of a value as a test -/
def tTest (t : TE) : TT := fun σ H Q => t σ H fun x H' => ∃ k, x = .bl k ∧ Q k H'
theorem pt_cmpR {op : CmpOp} {r : R2} (ho : OpR X (compareOp op) r) (ha : PE X a ta) (hb : PE X b tb) (hm : behindInMarks op b = false) : PT X (.Compare a [op] [b] pos) (tTest (tOp r ta tb)) := by
  intro pins s σ H Q I h
  refine wpAny_isTrue_Compare1 (thn (ha pins s σ H _ I h) fun v s1 ⟨x, H1, I1, r1, q1⟩ => thn (hb pins s1 σ H1 _ I1 q1) fun u s2 ⟨y, H2, I2, r2, q2⟩ =>
    thn (ho pins s2 σ H2 x y v u _ I2 r1 r2 q2) fun c s3 ⟨z, H3, I3, r3, k, e, q3⟩ => ?_) hm
  subst e
  cases r3
  exact wpAny_truthy_bool ⟨H3, I3, q3⟩
/-- a op1 b op2 c -/
def tChain (r r' : R2) (ta tb tc : TE) : TE := fun σ H Q => ta σ H fun x H1 => tb σ H1 fun y H2 => r x y H2 fun z H3 => ∃ k, z = .bl k ∧
  (if k = true then tc σ H3 fun w' H4 => r' y w' H4 Q else Q (.bl false) H3)
theorem pt_chain {op op' : CmpOp} {r r' : R2} (ho : OpR X (compareOp op) r) (ho' : OpR X (compareOp op') r') (ha : PE X a ta) (hb : PE X b tb) (hc : PE X c tc)
    (hm : lastMarks [op, op'] [b, c] = false := by with_unfolding_all rfl) : PT X (.Compare a [op, op'] [b, c] pos) (tTest (tChain r r' ta tb tc)) := by
  intro pins s σ H Q I h
  refine isTrue_chain (thn (ha pins s σ H _ I h) fun v s1 ⟨x, H1, I1, r1, q1⟩ => test_link (thn (hb pins s1 σ H1 _ I1 q1) fun u s2 ⟨y, H2, I2, r2, q2⟩ =>
    thn (ho pins s2 σ H2 x y v u _ I2 r1 r2 q2) fun d s3 ⟨z, H3, I3, r3, k, e, q3⟩ => ?_)) hm
  subst e
  cases r3
  refine wpAny_truthy_bool ?_
  cases k with
  | false =>
    obtain ⟨k', e', q'⟩ := q3
    cases e'
    exact ite_ff ⟨H3, I3, q'⟩
  | true =>
    refine ite_tt (test_last (thn (hc pins s3 σ H3 _ I3 q3) fun w' s4 ⟨z', H4, I4, r4, q4⟩ => thn (ho' pins s4 σ H4 y z' u w' _ I4 r2 r4 q4) fun d' s5 ⟨z2, H5, I5, r5, k2, e2, q5⟩ => ?_))
    subst e2
    cases r5
    exact wpAny_truthy_bool ⟨H5, I5, q5⟩

/-! ### truth -/
theorem line63 : (sizeLine : Nat) < 2 ^ 63 := by rw [sizeLine_eq]; decide
/-! ### strs and bytes -/
/-! ### scalar builtins, by CallR -/
theorem vals1 {x : V} {us : List Value} (r : Vals [x] us) : ∃ u, us = [u] ∧ RelV x u := by
  cases r with
  | cons r1 r2 => cases r2; exact ⟨_, rfl, r1⟩
theorem vals2 {x y : V} {us : List Value} (r : Vals [x, y] us) : ∃ u w', us = [u, w'] ∧ RelV x u ∧ RelV y w' := by
  cases r with
  | cons r1 r2 =>
    cases r2 with
    | cons r3 r4 => cases r4; exact ⟨_, _, rfl, r1, r3⟩
theorem call_abs : CallR X (.builtin "abs") (fun xs H Q => ∃ i, xs = [.int i] ∧ Q (.int (if i < 0 then -i else i)) H) := by
  intro pins s σ H xs us Q I r h
  obtain ⟨i, rfl, q⟩ := h
  obtain ⟨u, rfl, t, rfl⟩ := vals1 r
  exact call_abs_int fun u tk => ⟨.int (if i < 0 then -i else i), H, I.tok _, ⟨_, rfl⟩, q⟩
theorem call_min2 (hc : X.calm = true) : CallR X (.builtin "min") (fun xs H Q => ∃ i j, xs = [.int i, .int j] ∧ Q (.int (if j < i then j else i)) H) := by
  intro pins s σ H xs us Q I r h
  obtain ⟨i, j, rfl, q⟩ := h
  obtain ⟨u, w', rfl, ⟨t, rfl⟩, ⟨t', rfl⟩⟩ := vals2 r
  refine min_two_ints (I.ok.hd hc) fun h' tk k => ⟨_, H, I.kept k, ?_, q⟩
  by_cases hj : j < i
  · rw [if_pos hj, if_pos hj]; exact ⟨_, rfl⟩
  · rw [if_neg hj, if_neg hj]; exact ⟨_, rfl⟩
end
end L2

namespace L2
open PySem PySem.Spec PyProof.Rows

/-! ### an instance, its attributes a map -/
structure ObjM (h : Heap) (x dx C : Addr) (mA : Str → Option Value) : Prop where
  obj : h.get? x = some (PySem.W.instObj C dx)
  ns : h.Ns1 dx mA
  ne : dx ≠ x

theorem lookIn_ns {h : Heap} {dx : Addr} {mA : Str → Option Value} (n : h.Ns1 dx mA) : ∃ od, h.get? dx = some od ∧ ∀ name, PySem.W.lookIn name od = some (mA name) := by
  obtain ⟨o, es, ep, ho, hd, hk, _, hm⟩ := n
  refine ⟨o, ho, fun name => ?_⟩
  have e := hm name
  unfold nsFind findBy at e
  rw [← Array.find?_toList] at e
  unfold PySem.W.lookIn
  rw [hd]
  dsimp only
  split
  · rename_i y q
    rw [q] at e
    exact congrArg some e
  · rename_i q
    rw [q] at e
    have a : es.toList.any (·.refKey) = false := by
      rw [List.any_eq_false]
      intro y hy
      obtain ⟨z, t, hkey⟩ := hk y (Array.mem_toList_iff.mp hy)
      simp [DictEntry.refKey, hkey]
    have a' : ¬ es.toList.any (·.refKey) = true := by rw [a]; exact Bool.false_ne_true
    rw [if_neg a']
    exact congrArg some e

theorem ObjM.look {h : Heap} {x dx C : Addr} {mA : Str → Option Value} (I : ObjM h x dx C mA) : ∃ od, PySem.W.InstAt h x (PySem.W.instObj C dx) C (some od) ∧ ∀ name, PySem.W.lookIn name od = some (mA name) :=
  let ⟨od, ho, hl⟩ := lookIn_ns I.ns
  ⟨od, ⟨I.obj, rfl, rfl, ho⟩, hl⟩

section
variable {prog : Program} {w : World} {A : Around} {E : Value → Shared → Prop} {s : Shared} {K : PySem.W.Frag} {x dx C f : Addr} {mA : Str → Option Value} {name : Str} {v : Value}

end

/-! ### the attributes as a list of pairs -/
theorem RelO.none_of {o : Option Value} (r : RelO none o) : o = none := by
  cases o with
  | none => rfl
  | some u => exact (show False from r).elim
section
variable {P : Program} {w : World} {H H' : Hp} {h h' : Heap} {a C dx : Addr} {fs fs' : List (Str × V)}
theorem ins_get (hok : HOk P w H h) (e : H a = some (.ins C dx fs)) : ∃ mA, ObjM h a dx C mA ∧ (∀ f, RelO (fs.lookup f) (mA f)) ∧ PySem.Within mA (fs.map (·.1)) ∧ fs.length ≤ 1000 ∧ H dx = some (.own a) := by
  obtain ⟨d, z, ne, ob, mA, n, r, q⟩ := (show ObjOk P w H h a (.ins C dx fs) from hok a _ e)
  exact ⟨mA, ⟨ob, n, ne⟩, r, q, z, d⟩
end

/-! ### what of the text a class must have -/
structure Cls (K : PySem.W.Frag) (C : Addr) : Prop where
  pg : PySem.W.plainGet K C Str.empty = true
  hd : PySem.W.hasDictIn K C = true
  po : PySem.W.plainOver K C = true
  sa : PySem.W.findIn K (.ref C) "__setattr__" = some (some (.builtin "object.__setattr__"))
theorem Cls.get {K : PySem.W.Frag} {C : Addr} (c : Cls K C) (f : Str) : PySem.W.plainGet K C f = true := c.pg
/-- a constant of the class -/
structure Con (K : PySem.W.Frag) (C : Addr) (f : Str) (v : V) (u : Value) : Prop where
  at_ : PySem.W.findIn K (.ref C) f = some (some u)
  rel : RelV v u
  get : PySem.W.specialIn K u "__get__" = some none
  cp : PySem.W.copiedNames.contains f = false
/-- a method: a plain def of the class or of one above it -/
structure Meth (K : PySem.W.Frag) (C : Addr) (m : Str) (f : Addr) : Prop where
  at_ : PySem.W.findIn K (.ref C) m = some (some (.ref f))
  fn : PySem.W.isFn K (.ref f) = true
  kp : PySem.W.keepIn K (.ref f) = true

section
variable {X : Cx} {pins : List (Addr × Obj)} {σ : St} {H : Hp} {s : Shared} {a C dx : Addr} {fs : List (Str × V)} {f : Str} {v : V} {A : Around} {E : Value → Shared → Prop}

/-- a new instance, tracked, without attributes -/
theorem Inv.made (I : Inv X pins σ H s) : Inv X pins σ (upd (upd H s.heap.objs.size (.own (s.heap.objs.size + 1))) (s.heap.objs.size + 1) (.ins C s.heap.objs.size []))
    { s with heap := (s.heap.push PySem.W.emptyDict).push (PySem.W.instObj C s.heap.objs.size) } := by
  have e1 : (s.heap.push PySem.W.emptyDict).get? s.heap.objs.size = some PySem.W.emptyDict := Heap.get?_push_size s.heap rfl
  have e2 : ((s.heap.push PySem.W.emptyDict).push (PySem.W.instObj C s.heap.objs.size)).get? (s.heap.objs.size + 1) = some (PySem.W.instObj C s.heap.objs.size) := by
    have := Heap.get?_push_size (s.heap.push PySem.W.emptyDict) (o := PySem.W.instObj C s.heap.objs.size) rfl
    rwa [Heap.size_push] at this
  have e3 : (s.heap.push PySem.W.emptyDict).Ns s.heap.objs.size (fun _ => none) := ⟨PySem.W.emptyDict, #[], _, e1, rfl, (fun e he => absurd he (by simp)), fun _ => rfl⟩
  have I1 := I.laid (a := s.heap.objs.size) (o := .own (s.heap.objs.size + 1)) (h' := s.heap.push PySem.W.emptyDict) (t' := s.toks) (fun b u q => Heap.get?_push_of_some _ q) (Nat.le_refl _) ⟨_, e1⟩
  refine I1.laid (a := s.heap.objs.size + 1) (o := .ins C s.heap.objs.size []) (t' := s.toks) (fun b u q => Heap.get?_push_of_some _ q) (Nat.le_of_eq (Heap.size_push _ _)) ?_
  have ne : s.heap.objs.size ≠ s.heap.objs.size + 1 := Nat.ne_of_lt (Nat.lt_succ_self _)
  refine ⟨by rw [upd_ne ne, upd_same], Nat.zero_le _, ne, e2, fun _ => none, (Heap.Ns1.of_empty e3).at fun o q => Heap.get?_push_of_some _ q, fun _ => True.intro, fun y hy => absurd rfl hy⟩

end

/-! ### readings and rules -/
section
variable {X : Cx} {o e value : Expr} {f : Str} {pos pos' tpos : Pos} {ta tv : TE}
end

/-! ### isinstance -/
section
variable {X : Cx} {pins : List (Addr × Obj)} {σ : St} {H : Hp} {s : Shared} {A : Around} {E : Value → Shared → Prop} {Q : Value → Shared → Prop} {c : Value} {b : Bool}
/-- the type of a value, as the fragment's deciders take it; for an instance its class -/
inductive TyOf (K : PySem.W.Frag) (H : Hp) : V → Value → Prop where
  | non : TyOf K H .non (.type "NoneType")
  | bl (x : Bool) : TyOf K H (.bl x) (.type "bool")
  | int (i : Int) : TyOf K H (.int i) (.type "int")
  | str (x : Str) : TyOf K H (.str x) (.type "str")
  | flt (x : UInt64) : TyOf K H (.flt x) (.type "float")
  | lst {a : Addr} {xs : List V} (e : H a = some (.lst xs)) : TyOf K H (.ref a) (.type "list")
  | frz {a : Addr} {o : Obj} {xs : List V} (e : H a = some (.frz o (.lst xs))) : TyOf K H (.ref a) (.type "list")
  | tup {a : Addr} {xs : List V} (e : H a = some (.tup xs)) : TyOf K H (.ref a) (.type "tuple")
  | dK {a : Addr} {kvs : List (Key × V)} (e : H a = some (.dK kvs)) : TyOf K H (.ref a) (.type "dict")
  | dT {a : Addr} {kvs : List (List Key × V)} (e : H a = some (.dT kvs)) : TyOf K H (.ref a) (.type "dict")
  | ins {a C dx : Addr} {fs : List (Str × V)} (e : H a = some (.ins C dx fs)) (cl : Cls K C) (ha : PySem.W.findIn K (.ref C) "__class__" = some (some (.builtin "object.__class__")))
      (hn : PySem.W.specialIn K (.builtin "object.__class__") "__get__" = some (some (.builtin "getset_descriptor.__get__"))) (htk : PySem.W.takesIn K (.builtin "object.__class__") = some true)
      (hm : PySem.W.mroIn K C (.type "object") = some true) : TyOf K H (.ref a) (.ref C)
/-- isinstance(x, c) for one class c, a built-in or an own one: kitOne's answer -/
theorem isinst_ok {x : V} {u t : Value} (I : Inv X pins σ H s) (rx : RelV x u) (ty : TyOf X.K H x t) (e : PySem.W.kitOne X.K t c = some b) (h : ∀ tk, Q (.bool b) { s with toks := tk }) :
    wpAny (model X.prog X.w) A (call (.builtin "isinstance") [u, c]) Q E s := by
  cases ty with
  | non => cases (show u = Value.none from rx); exact PySem.W.kia_one PySem.W.kitx_none I.kIn True.intro e (fun z => nomatch z) h
  | bl y => cases (show u = Value.bool y from rx); exact PySem.W.kia_one PySem.W.kitx_bool I.kIn True.intro e (fun z => nomatch z) h
  | int i => obtain ⟨t, q⟩ := (show ∃ t, u = Value.int i t from rx); cases q; exact PySem.W.kia_one PySem.W.kitx_int I.kIn True.intro e (fun z => nomatch z) h
  | str y => obtain ⟨t, q⟩ := (show ∃ t, u = Value.str y t from rx); cases q; exact PySem.W.kia_one PySem.W.kitx_str I.kIn True.intro e (fun z => nomatch z) h
  | flt y => obtain ⟨t, q⟩ := (show ∃ t, u = Value.float y t from rx); cases q; exact PySem.W.kia_one PySem.W.kitx_float I.kIn True.intro e (fun z => nomatch z) h
  | @lst a xs ea =>
    cases (show u = Value.ref a from rx)
    obtain ⟨_, _, n, _, h1⟩ := (show ObjOk X.prog X.w H s.heap a (.lst xs) from I.hok a _ ea)
    exact PySem.W.kia_one PySem.W.kitx_list I.kIn ⟨_, h1, rfl⟩ e (fun z => nomatch z) h
  | @frz a ob xs ea =>
    cases (show u = Value.ref a from rx)
    obtain ⟨_, _, _, n, _, h1⟩ := (show ObjOk X.prog X.w H s.heap a (.frz ob (.lst xs)) from I.hok a _ ea)
    exact PySem.W.kia_one PySem.W.kitx_list I.kIn ⟨_, h1, rfl⟩ e (fun z => nomatch z) h
  | @tup a xs ea =>
    cases (show u = Value.ref a from rx)
    obtain ⟨_, _, _, p⟩ := (show ObjOk X.prog X.w H s.heap a (.tup xs) from I.hok a _ ea)
    obtain ⟨o, h1, h2, _⟩ := p
    exact PySem.W.kia_one PySem.W.kitx_tuple I.kIn ⟨o, h1, h2⟩ e (fun z => nomatch z) h
  | @dK a kvs ea =>
    cases (show u = Value.ref a from rx)
    obtain ⟨_, _, vs, _, p⟩ := (show ObjOk X.prog X.w H s.heap a (.dK kvs) from I.hok a _ ea)
    obtain ⟨o, es, ep, h1, h2, _⟩ := p
    exact PySem.W.kia_one PySem.W.kitx_dict I.kIn ⟨o, h1, h2.1⟩ e (fun z => nomatch z) h
  | @dT a kvs ea =>
    cases (show u = Value.ref a from rx)
    obtain ⟨_, _, xs, _, o, es, ep, h1, h2, _⟩ := (show ObjOk X.prog X.w H s.heap a (.dT kvs) from I.hok a _ ea)
    exact PySem.W.kia_one PySem.W.kitx_dict I.kIn ⟨o, h1, h2.1⟩ e (fun z => nomatch z) h
  | @ins a C dx fs ea cl ha hn htk hm =>
    cases (show u = Value.ref a from rx)
    obtain ⟨mA, O, _⟩ := ins_get I.hok ea
    obtain ⟨od, J, _⟩ := O.look
    exact PySem.W.kia_one (PySem.W.kitx_own (cl.get _) cl.hd ha hn htk hm) I.kIn J e (fun z => nomatch z) h
end
end L2

namespace L2
open PySem PySem.Spec PyProof.Rows

/-! ### room -/
structure Room (k : Nat) (A : Around) : Prop where
  hd : A.handled = none
  dp : A.depth + 3 * k + 5 < recursionLimit
  un : A.units + 16 * k + 200 < cLine
theorem Room.mono {j k : Nat} {A : Around} (r : Room k A) (h : j ≤ k) : Room j A := ⟨r.hd, by have := r.dp; omega, by have := r.un; omega⟩
theorem Room.deeper {k : Nat} {A : Around} (r : Room (k + 1) A) (env : Env) : Room k (A.deeper env) :=
  ⟨r.hd, by have := r.dp; show A.depth + 1 + 3 * k + 5 < _; omega, by have := r.un; show A.units + 3 + 16 * k + 200 < _; omega⟩
theorem Room.in1 {k : Nat} {A : Around} (r : Room (k + 1) A) : Room k A.in1 :=
  ⟨r.hd, by have := r.dp; show A.depth + 3 * k + 5 < _; omega, by have := r.un; show A.units + 1 + 16 * k + 200 < _; omega⟩
theorem make_depth {A : Around} {C : Addr} {us : List Value} {kw : List (Str × Value)} : (A.under (.builtin "type.__call__" ⟨.ref C :: us, kw⟩)).depth = A.depth + 1 := by
  first | rfl | simp [Around.under, Code.weight, Code.isCreation, Code.isGuard, Code.isCaller, Code.frames, Code.isFrame, guardIds]
theorem make_units {A : Around} {C : Addr} {us : List Value} {kw : List (Str × Value)} : (A.under (.builtin "type.__call__" ⟨.ref C :: us, kw⟩)).units = A.units + 1 := by
  first | rfl | simp [Around.under, Code.cUnits, Code.frames, Code.isFrame]
theorem Room.make {k : Nat} {A : Around} (r : Room (k + 1) A) (C : Addr) (us : List Value) (kw : List (Str × Value)) : Room k (A.under (.builtin "type.__call__" ⟨.ref C :: us, kw⟩)) :=
  ⟨r.hd, by have := r.dp; rw [make_depth]; omega, by have := r.un; rw [make_units]; omega⟩
theorem Room.depth {k : Nat} {A : Around} (r : Room k A) : A.depth < recursionLimit := by have := r.dp; omega
theorem Room.units {k : Nat} {A : Around} (r : Room k A) : A.units + 64 < cLine := by have := r.un; omega
/-! ### argument lists and displays -/
def tNil : TA := fun _ H Q => Q [] H
def tCons (ta : TE) (tr : TA) : TA := fun σ H Q => ta σ H fun x H1 => tr σ H1 fun xs H2 => Q (x :: xs) H2
section
variable {X : Cx} {e : Expr} {es : List Expr} {te : TE} {t : TA} {pos : Pos}
theorem pa_nil : PA X [] tNil := fun _ _ _ _ H Q I h => Calls.spliced_nil ⟨[], H, I, .nil, h⟩
theorem pa_cons (ha : PE X e te) (hr : PA X es t) (hs : starEach (e :: es) X.env = (false, eval e X.env) :: starEach es X.env := by rfl) : PA X (e :: es) (tCons te t) := by
  intro pos pins s σ H Q I h
  rw [hs]
  show wpAny _ _ (spliced ((false, eval e X.env) :: backTo pos (starEach es X.env))) _ _ s
  refine Calls.spliced_cons (thn (ha pins s σ H _ I h) fun u s1 ⟨x, H1, I1, r1, q1⟩ => ?_)
  exact thn (hr pos pins s1 σ H1 _ I1 q1) fun us s2 ⟨xs, H2, I2, r2, q2⟩ => ⟨x :: xs, H2, I2, .cons r1 r2, q2⟩

/-- a tuple, a list of written items -/
def tTup (t : TA) : TE := fun σ H Q => t σ H fun xs H1 => xs.length ≤ sizeLine ∧ ∀ p, H1 p = none → Q (.ref p) (upd H1 p (.tup xs))
def tLst (t : TA) : TE := fun σ H Q => t σ H fun xs H1 => xs.length ≤ sizeLine ∧ ∀ p, H1 p = none → Q (.ref p) (upd H1 p (.lst xs))
end

/-! ### what a def promises -/
/-- a def's promise: the bound arguments in the parameters' order, the heap, the wanted end, the wanted exception -/
abbrev Sp := List V → Hp → VK → XK → Prop
/-- how an exception lies behind a call (file 08 gives it): the callers' frames, abstract heap and state ahead of the call, the wish, the exception, the state -/
abbrev CXT := List Env → Hp → Shared → XK → Value → Shared → Prop

/-- the state at a call -/
structure Env0 (P : Program) (w : World) (K : PySem.W.Frag) (mg : Str → Option Value) (base : Heap) (A : Around) (outer : List Env) (s : Shared) (H : Hp) : Prop where
  frames : A.frames = some outer
  mod : Mod K mg base
  bs : ∀ b o, base.get? b = some o → s.heap.get? b = some o ∧ H b = none
  bsz : base.objs.size ≤ s.heap.objs.size
  funs : s.heap.FunFrames base outer
  frf : ∀ b ∈ frs outer, H b = none
  hok : HOk P w H s.heap
  bare : AllBare s.gens
/-- a call's end -/
def CE (outer : List Env) (P : Program) (w : World) (H : Hp) (s : Shared) (Q : VK) (u : Value) (s' : Shared) : Prop :=
  ∃ v H', s'.os = s.os ∧ AllBare s'.gens ∧ Un (frs outer) [] H H' s.heap s'.heap ∧ HOk P w H' s'.heap ∧ RelV v u ∧ Q v H'
def CR (CX : CXT) (outer : List Env) (P : Program) (w : World) (H : Hp) (s : Shared) (Q : VK) (E : XK) (r : Result) (s' : Shared) : Prop :=
  match r with
  | .ok (.ret u) => CE outer P w H s Q u s'
  | .ok _ => False
  | .error e => CX outer H s E e s'
structure FnOk (P : Program) (w : World) (K : PySem.W.Frag) (mg : Str → Option Value) (base : Heap) (CX : CXT) (k : Nat) (f : Addr) (fd : FuncData) (ps : List Str) (sp : Sp) : Prop where
  len : ∀ vs H Q E, sp vs H Q E → vs.length = ps.length
  run : ∀ (A : Around) (outer : List Env) (s : Shared) (H : Hp) (args : Args) (us : List Value) (vs : List V) (Q : VK) (E : XK), Room k A → Env0 P w K mg base A outer s H → BindsTo s fd args (ps.zip us) → Vals vs us → sp vs H Q E →
    codeAny (model P w) A (.call (.ref f) args) (CR CX outer P w H s Q E) s
theorem FnOk.mono {P : Program} {w : World} {K : PySem.W.Frag} {mg : Str → Option Value} {base : Heap} {CX : CXT} {j k : Nat} {f : Addr} {fd : FuncData} {ps : List Str} {sp : Sp} (F : FnOk P w K mg base CX j f fd ps sp) (h : j ≤ k) :
    FnOk P w K mg base CX k f fd ps sp := ⟨F.len, fun A outer s H args us vs Q E hr => F.run A outer s H args us vs Q E (hr.mono h)⟩
/-- a weaker promise -/
theorem FnOk.imp {P : Program} {w : World} {K : PySem.W.Frag} {mg : Str → Option Value} {base : Heap} {CX : CXT} {k : Nat} {f : Addr} {fd : FuncData} {ps : List Str} {sp sp' : Sp} (F : FnOk P w K mg base CX k f fd ps sp)
    (h : ∀ vs H Q E, sp' vs H Q E → sp vs H Q E) : FnOk P w K mg base CX k f fd ps sp' :=
  ⟨fun vs H Q E q => F.len vs H Q E (h _ _ _ _ q), fun A outer s H args us vs Q E hr he hb hv hs => F.run A outer s H args us vs Q E hr he hb hv (h _ _ _ _ hs)⟩

theorem Env0.make {P : Program} {w : World} {K : PySem.W.Frag} {mg : Str → Option Value} {base : Heap} {A : Around} {outer : List Env} {s : Shared} {H : Hp} (e : Env0 P w K mg base A outer s H) (C : Addr) (us : List Value) (kw : List (Str × Value)) :
    Env0 P w K mg base (A.under (.builtin "type.__call__" ⟨.ref C :: us, kw⟩)) outer s H := ⟨by first | exact e.frames | (simpa [Around.under, Code.envs, Code.isFrame, pushEnvs] using e.frames), e.mod, e.bs, e.bsz, e.funs, e.frf, e.hok, e.bare⟩
theorem Env0.in1 {P : Program} {w : World} {K : PySem.W.Frag} {mg : Str → Option Value} {base : Heap} {A : Around} {outer : List Env} {s : Shared} {H : Hp} (e : Env0 P w K mg base A outer s H) :
    Env0 P w K mg base A.in1 outer s H := ⟨e.frames, e.mod, e.bs, e.bsz, e.funs, e.frf, e.hok, e.bare⟩

section
variable {X : Cx} {pins : List (Addr × Obj)} {σ : St} {H : Hp} {s s' : Shared}
/-- from a body: what a callee wants -/
theorem Inv.env0 (I : Inv X pins σ H s) : Env0 X.prog X.w X.K X.mg X.base X.A X.stack s H :=
  ⟨I.ok.frames, I.ok.mod, I.bs, Nat.le_trans I.ok.bsz I.sz, I.stack, I.stkFree, I.hok, I.bare⟩
/-- behind a call -/
theorem Inv.after {Q : VK} {u : Value} (I : Inv X pins σ H s) (h : CE X.stack X.prog X.w H s Q u s') : EP X pins σ Q u s' := by
  obtain ⟨v, H', os, bare, un, hok, r, q⟩ := h
  obtain ⟨hh, g, d, t, os'⟩ := s'
  obtain rfl : os' = s.os := os
  exact ⟨v, H', I.call (h' := hh) (g' := g) (d' := d) (t' := t) (ch := []) un hok bare (fun b z => absurd z (by simp)), r, q⟩
end

/-! ### calls -/
/-- f(..): the written arguments, then the defaults dvs; E: what is wanted of an exception -/
def tCall (sp : Sp) (dvs : List V) (E : XK) (t : TA) : TE := fun σ H Q => t σ H fun vs H1 => sp (vs ++ dvs) H1 Q E
/-- how the parameters are bound: us the positional arguments, kw the keywords' values by name, ds the defaults that fill up -/
def Binds (K : PySem.W.Frag) (fd : FuncData) (ps : List Str) (ds : List Value) : Prop :=
  ∀ (s : Shared) (us : List Value), K.In s.heap → (us ++ ds).length = ps.length → BindsTo s fd ⟨us, []⟩ (ps.zip (us ++ ds))
/-- every parameter is given -/
theorem Binds.all {K : PySem.W.Frag} {fd : FuncData} {ps : List Str} (h : ∀ us : List Value, us.length = ps.length → bindArgs fd ⟨us, []⟩ = pure (ps.zip us)) : Binds K fd ps [] := fun s us _ hl => by
  rw [List.append_nil] at hl ⊢
  exact .of_eq (h us hl)

/-- an exception of a callee reaches what this body wants of exceptions -/
def Passes (CX : CXT) (X : Cx) (E : XK) : Prop := ∀ (pins : List (Addr × Obj)) (σ : St) (H : Hp) (s : Shared) (e : Value) (s' : Shared), Inv X pins σ H s → CX X.stack H s E e s' → X.xe e s'

section
variable {X : Cx} {CX : CXT} {k : Nat} {f C : Addr} {fd : FuncData} {ps : List Str} {sp : Sp} {dvs : List V} {ds : List Value} {E : XK} {x m : Str} {p pos apos : Pos} {e o : Expr} {es : List Expr} {ta : TE} {t : TA}

/-- the callee runs -/
theorem run_fn {pins : List (Addr × Obj)} {σ : St} {H : Hp} {s : Shared} {Q : VK} {us : List Value} {vs : List V} (F : FnOk X.prog X.w X.K X.mg X.base CX k f fd ps sp) (hr : Room k X.A) (hb : Binds X.K fd ps ds) (hd : Vals dvs ds) (hx : Passes CX X E)
    (I : Inv X pins σ H s) (r : Vals vs us) (h : sp (vs ++ dvs) H Q E) : wpAny (model X.prog X.w) X.A (call (.ref f) us) (EP X pins σ Q) X.xe s := by
  have r2 : Vals (vs ++ dvs) (us ++ ds) := r.append hd
  have hl : (us ++ ds).length = ps.length := by rw [← r2.length]; exact F.len _ _ _ _ h
  refine wpAny_call (codeAny_mono (F.run X.A X.stack s H ⟨us, []⟩ (us ++ ds) (vs ++ dvs) Q E hr I.env0 (hb s us I.kIn hl) r2 h) fun r s' hq => ?_)
  cases r with
  | error e => exact hx pins σ H s e s' I hq
  | ok fl =>
    cases fl with
    | ret u => exact I.after hq
    | next => exact False.elim hq
    | brk => exact False.elim hq
    | cont => exact False.elim hq

theorem pe_call (F : FnOk X.prog X.w X.K X.mg X.base CX k f fd ps sp) (hr : Room k X.A) (hg : Gl X x) (hm : X.mg x = some (.ref f)) (hk : PySem.W.keepIn X.K (.ref f) = true) (hb : Binds X.K fd ps ds) (hd : Vals dvs ds) (hx : Passes CX X E)
    (ha : PA X (e :: es) t) (hdb : (x == ("__debug__" : Str)) = false := by decide) (he : starEach (e :: es) X.env = (false, eval e X.env) :: starEach es X.env := by rfl) (hpl : (backTo pos (starEach es X.env)).any (·.1) = false := by rfl) :
    PE X (.Call (.Name x p) (e :: es) [] pos) (tCall sp dvs E t) := by
  intro pins s σ H Q I h
  refine wpAny_Call_Name_kw (ld_glob I hg hm ?_ hdb)
  refine PySem.W.callWith_K (h₀ := X.base) I.ok.mod.kin hk (thn (ha pos pins s σ H _ I h) fun us s1 ⟨vs, H1, I1, r, q⟩ => ⟨I1.kIn, ?_⟩) he hpl
  exact run_fn F hr hb hd hx I1 r q
/-- what a class must have to be made -/
structure Mk (K : PySem.W.Frag) (C f : Addr) : Prop where
  makes : PySem.W.makesIn K C = true
  init : PySem.W.findIn K (.ref C) "__init__" = some (some (.ref f))
  fn : PySem.W.isFn K (.ref f) = true
  kp : PySem.W.keepIn K (.ref C) = true

end

/-! ### keywords -/
section
variable {X : Cx} {CX : CXT} {k : Nat} {f C : Addr} {fd : FuncData} {ps ks : List Str} {sp : Sp} {E : XK} {x m : Str} {p pos apos kpos : Pos} {e o : Expr} {es : List Expr} {kws : List Keyword} {te ta : TE} {t tk : TA} {nm : Option Str}
/-- how a call with keywords binds: g puts the positional values us and the keywords' values ws (names ks) in the parameters' order, defaults among them -/
structure KBinds (K : PySem.W.Frag) (fd : FuncData) (ps ks : List Str) (g : List Value → List Value → List Value) (gV : List V → List V → List V) : Prop where
  to : ∀ (s : Shared) (us ws : List Value), K.In s.heap → (g us ws).length = ps.length → BindsTo s fd ⟨us, ks.zip ws⟩ (ps.zip (g us ws))
  rel : ∀ {vs : List V} {us : List Value} {zs : List V} {ws : List Value}, Vals vs us → Vals zs ws → Vals (gV vs zs) (g us ws)
variable {g : List Value → List Value → List Value} {gV : List V → List V → List V}
end

/-! ### a def's body keeps its promise -/
/-- names: the parameters first -/
structure FnScope (N P : List Str) (sc : Scope) : Prop where
  kind : sc.kind = .function
  co : sc.isCoroutine = false
  gen : sc.isGenerator = false
  nd : N.Nodup
  pre : N.take P.length = P
  par : ∀ x ∈ P, sc.names.lookup x = some .local ∨ sc.names.lookup x = some .cell
  nofree : ∀ y ∈ sc.names, y.2 ≠ .free

theorem bindL_out {kindOf : Str → Option NameKind} {x : Str} : ∀ {binds : List (Str × Value)} {m : Str → Option Value}, (∀ v, (x, v) ∉ binds) → bindL kindOf binds m x = m x
  | [], _, _ => rfl
  | (n, v) :: r, m, h => by
    unfold bindL
    rw [bindL_out fun w hw => h w (List.mem_cons_of_mem _ hw)]
    split
    · have : x ≠ n := by rintro rfl; exact h v List.mem_cons_self
      simp [this]
    · rfl
theorem bindC_out {kindOf : Str → Option NameKind} {x : Str} : ∀ {binds : List (Str × Value)} {m : Str → Option Value}, (∀ v, (x, v) ∉ binds) → bindC kindOf binds m x = m x
  | [], _, _ => rfl
  | (n, v) :: r, m, h => by
    unfold bindC
    rw [bindC_out fun w hw => h w (List.mem_cons_of_mem _ hw)]
    split
    · rfl
    · have : x ≠ n := by rintro rfl; exact h v List.mem_cons_self
      simp [this]
theorem bindL_get {kindOf : Str → Option NameKind} {x : Str} {v : Value} : ∀ {P : List Str} {vs : List Value} {i : Nat} {m : Str → Option Value}, P.Nodup → P[i]? = some x → vs[i]? = some v → kindOf x = some .local →
    bindL kindOf (P.zip vs) m x = some v
  | [], _, _, _, _, h, _, _ => by simp at h
  | _ :: _, [], _, _, _, _, h, _ => by simp at h
  | p :: P, w :: vs, 0, m, nd, h1, h2, hk => by
    simp at h1 h2; subst h1; subst h2
    show bindL kindOf ((p, w) :: P.zip vs) m p = _
    unfold bindL
    rw [bindL_out fun v hv => (List.nodup_cons.mp nd).1 (List.of_mem_zip hv).1, if_pos hk]
    simp
  | p :: P, w :: vs, i + 1, m, nd, h1, h2, hk => by
    show bindL kindOf ((p, w) :: P.zip vs) m x = _
    unfold bindL
    exact bindL_get (i := i) (List.nodup_cons.mp nd).2 (by simpa using h1) (by simpa using h2) hk
theorem bindC_get {kindOf : Str → Option NameKind} {x : Str} {v : Value} : ∀ {P : List Str} {vs : List Value} {i : Nat} {m : Str → Option Value}, P.Nodup → P[i]? = some x → vs[i]? = some v → kindOf x ≠ some .local →
    bindC kindOf (P.zip vs) m x = some v
  | [], _, _, _, _, h, _, _ => by simp at h
  | _ :: _, [], _, _, _, _, h, _ => by simp at h
  | p :: P, w :: vs, 0, m, nd, h1, h2, hk => by
    simp at h1 h2; subst h1; subst h2
    show bindC kindOf ((p, w) :: P.zip vs) m p = _
    unfold bindC
    rw [bindC_out fun v hv => (List.nodup_cons.mp nd).1 (List.of_mem_zip hv).1, if_neg hk]
    simp
  | p :: P, w :: vs, i + 1, m, nd, h1, h2, hk => by
    show bindC kindOf ((p, w) :: P.zip vs) m x = _
    unfold bindC
    exact bindC_get (i := i) (List.nodup_cons.mp nd).2 (by simpa using h1) (by simpa using h2) hk

/-- the names' values at the entry -/
def start (N : List Str) (vs : List V) : St := vs.map some ++ List.replicate (N.length - vs.length) none

/-- the context of a def's body, at its entry; an exception leaves the frame, then lies as CX says -/
def cxOf (CX : CXT) (P : Program) (w : World) (K : PySem.W.Frag) (mg : Str → Option Value) (base : Heap) (N : List Str) (qual : Str) (scope : Scope) (f : Addr) (cd : Value) (A : Around) (outer : List Env) (s : Shared) (H : Hp) (E : XK) : Cx where
  prog := P
  w := w
  K := K
  mg := mg
  base := base
  A := A.deeper (envOfC qual scope s.heap.objs.size f cd)
  N := N
  s₀ := s
  H₀ := H
  env := envOfC qual scope s.heap.objs.size f cd
  outer := outer
  stack := envOfC qual scope s.heap.objs.size f cd :: outer
  ex := []
  calm := true
  fn := fun _ => true
  pn := []
  xe := fun e s' => wpAny (model P w) (A.deeper (envOfC qual scope s.heap.objs.size f cd)) (leaving (envOfC qual scope s.heap.objs.size f cd) e) (fun _ s'' => CX outer H s E e s'') (fun e' s'' => CX outer H s E e' s'') s'

theorem cell_has {sc : Scope} {n : Nat} {x : Str} (h : sc.names.lookup x = some .cell) : ∃ c, (cellsFrom n sc.names []).lookup x = some c := by
  have q := PySem.W.cellsFrom_some sc.names n [] (.inl h)
  exact Option.isSome_iff_exists.mp q

theorem inv_start {CX : CXT} {P : Program} {w : World} {K : PySem.W.Frag} {mg : Str → Option Value} {base : Heap} {N ps : List Str} {qual : Str} {scope : Scope} {f : Addr} {cd : Value} {A : Around} {outer : List Env} {s s1 : Shared} {H : Hp} {E : XK} {us : List Value} {vs : List V}
    (S : FnScope N ps scope) (hd : A.handled = none) (e0 : Env0 P w K mg base A outer s H) (hl : vs.length = ps.length) (r : Vals vs us)
    (x : InCallC s s.heap.objs.size (bindL (envOfC qual scope s.heap.objs.size f cd).kindOf (ps.zip us) fun _ => none) (cellsFrom (s.heap.objs.size + 1) scope.names []) (bindC (envOfC qual scope s.heap.objs.size f cd).kindOf (ps.zip us) fun _ => none) s1) :
    Inv (cxOf CX P w K mg base N qual scope f cd A outer s H E) [] (start N vs) H s1 := by
  have hpl : ps.length ≤ N.length := by have := congrArg List.length S.pre; rw [List.length_take] at this; omega
  obtain ⟨h1, tk, rfl, hk⟩ := x.done
  have noA : ∀ b : Addr, b ∉ (cxOf CX P w K mg base N qual scope f cd A outer s H E).ex := fun b z => absurd (show b ∈ ([] : List Addr) from z) (by simp)
  refine ⟨⟨e0.mod, S.kind, rfl, rfl, Nat.le_refl _, fun y z c h1 h2 => ?_, fun y hy => ?_, fun y c _ h => ?_, fun _ => hd, Around.frames_deeper e0.frames, .inr ⟨rfl, rfl⟩, fun b z => absurd z (noA b), e0.bs, e0.bsz, fun b _ _ => noA b, fun b z => absurd z (noA b), e0.funs, e0.frf⟩,
    rfl, e0.bare, Un.kept hk, ⟨_, x.toInCall.ns, fun i y v h1 h2 h3 => ?_⟩, fun y c h => ⟨_, x.cell y c h⟩, e0.hok.fresh (Nat.le_refl _), fun y c h => ?_, fun p hp => absurd (show p ∈ ([] : List (Addr × Obj)) from hp) (by simp), e0.hok.kept hk, ?_⟩
  · exact name_of_addr x.apart (PySem.mem_of_lookup h1) (PySem.mem_of_lookup h2)
  · have hy : scope.names.lookup y = some .cell ∨ scope.names.lookup y = some .free := hy
    rcases hy with hy | hy
    · exact cell_has hy
    · exact absurd rfl (S.nofree _ (PySem.mem_of_lookup hy))
  · exact Nat.le_of_lt (x.above y c (PySem.mem_of_lookup h))
  · have hi : i < vs.length := by
      unfold start at h2
      by_cases hi : i < vs.length
      · exact hi
      · rw [List.getElem?_append_right (by simpa using hi)] at h2
        rw [List.getElem?_replicate] at h2
        split at h2 <;> cases h2
    have ha : vs[i]? = some v := by
      unfold start at h2
      rw [List.getElem?_append_left (by simpa using hi), List.getElem?_map] at h2
      cases e : vs[i]? with
      | none => rw [e] at h2; cases h2
      | some a => rw [e] at h2; cases h2; rfl
    obtain ⟨u, hu, rv⟩ := r.get ha
    have hp : ps[i]? = some y := by
      rw [← S.pre, List.getElem?_take_of_lt (by omega)]; exact h1
    have ndP : ps.Nodup := by rw [← S.pre]; exact S.nd.sublist (List.take_sublist _ _)
    refine ⟨u, rv, ?_⟩
    rcases S.par y (List.mem_of_getElem? hp) with k | k
    · exact .inl ⟨k, bindL_get ndP hp hu k⟩
    · obtain ⟨c, e⟩ := cell_has (n := s.heap.objs.size + 1) k
      refine .inr ⟨.inl k, c, e, ?_⟩
      have q := x.cell y c e
      rw [bindC_get ndP hp hu (by show scope.names.lookup y ≠ _; rw [k]; decide)] at q
      exact q
  · exact e0.hok.fresh (Nat.le_of_lt (x.above y c (PySem.mem_of_lookup h)))
  · unfold start
    show _ = N.length
    rw [List.length_append, List.length_map, List.length_replicate]
    omega

/-- THE RULE: a def (or a method) of the text, by its body. The body's reading t is chosen for each entry; it is run at the parameters' values -/
theorem fn_of {CX : CXT} {P : Program} {w : World} {K : PySem.W.Frag} {mg : Str → Option Value} {base : Heap} {k : Nat} {f : Addr} {name qual : Str} {params : Arguments} {body : List Stmt} {scope : Scope} {dV kV doc pm cdv ct oc : Value} {an od : Option Addr}
    {osl : Array (Option Value)} {N ps : List Str} {sp : Sp} (lk : K.lookup f = some ⟨oc, od, .func (PySem.W.fnOf name qual params body scope dV kV doc pm an cdv ct), osl⟩) (hcd : PySem.W.codeIn K cdv qual = true) (S : FnScope N ps scope)
    (len : ∀ vs H Q E, sp vs H Q E → vs.length = ps.length)
    (hbody : ∀ (A : Around) (outer : List Env) (s : Shared) (H : Hp) (vs : List V) (Q : VK) (E : XK), Room k (A.deeper (envOfC qual scope s.heap.objs.size f cdv)) → sp vs H Q E →
      ∃ t, PSs (cxOf CX P w K mg base N qual scope f cdv A outer s H E) body t ∧ t { nx := fun _ H' => Q .non H', rt := Q } (start N vs) H) :
    FnOk P w K mg base CX (k + 1) f (PySem.W.fnOf name qual params body scope dV kV doc pm an cdv ct) ps sp := by
  refine ⟨len, fun A outer s H args us vs Q E hr e0 hb r hsp => ?_⟩
  have hl := len _ _ _ _ hsp
  have KX : K.In s.heap := e0.mod.kin.keeps fun b o e => (e0.bs b o e).1
  have lim : s.heap.NoLimit := e0.mod.nolimit.keeps fun b o e => (e0.bs b o e).1
  have hkind : ∀ y ∈ ps.zip us, scope.names.lookup y.1 = some .local ∨ (scope.names.lookup y.1 = some .cell ∧ ((cellsFrom (s.heap.objs.size + 1) scope.names []).lookup y.1).isSome = true) := fun ⟨n, v⟩ hy => by
    rcases S.par n (List.of_mem_zip hy).1 with q | q
    · exact .inl q
    · exact .inr ⟨q, PySem.W.cellsFrom_some _ _ _ (.inl q)⟩
  refine codeAny_call_function hr.depth (KX _ _ lk) rfl S.co S.gen rfl (PySem.W.codeRec_of KX hcd) (hb _ _ _ _ ?_)
  refine wpAny_newFunctionEnv_cells S.kind hkind fun env he s1 x => ?_
  subst he
  refine ⟨lim.keeps x.toInCall.keep, codeAny_func ?_⟩
  obtain ⟨t, ht, hq⟩ := hbody A outer s H vs Q E (hr.deeper _) hsp
  have I : Inv (cxOf CX P w K mg base N qual scope f cdv A outer s H E) [] (start N vs) H s1 := inv_start S hr.hd e0 hl r x
  refine wpAny_mono (ht [] s1 (start N vs) H _ I hq) (fun fl s' hs => ?_) fun e s' hs => hs
  have fin : ∀ {σ' : St} {H' : Hp} {v : V} {u : Value}, Inv (cxOf CX P w K mg base N qual scope f cdv A outer s H E) [] σ' H' s' → RelV v u → Q v H' → CE outer P w H s Q u s' :=
    fun {σ' H' v u} J rv q => ⟨v, H', J.os, J.bare, J.base, J.hok, rv, q⟩
  cases fl with
  | ret u =>
    obtain ⟨v, σ', H', J, rv, q⟩ := hs
    exact fin J rv q
  | next =>
    obtain ⟨σ', H', J, q⟩ := hs
    exact fin (v := V.non) (u := Value.none) J rfl q
  | brk =>
    obtain ⟨_, _, _, q⟩ := hs
    exact False.elim q
  | cont =>
    obtain ⟨_, _, _, q⟩ := hs
    exact False.elim q
end L2

namespace L2
open PySem PySem.Spec PyProof.Rows
section
variable {X : Cx} {x : Str} {p pos : Pos} {e : Expr} {es : List Expr} {t : TA} {id T : String} {r : List V → Hp → VK → Prop}

def tCB (r : List V → Hp → VK → Prop) (t : TA) : TE := fun σ H Q => t σ H fun vs H1 => r vs H1 Q
/-- f(e, ..), f a built-in function -/
theorem pe_callB (hc : CallR X (.builtin id) r) (hg : Gl X x) (hm : X.mg x = none) (hv : bootBuiltins x = some (.builtin id)) (ha : PA X (e :: es) t) (hn : x ≠ "__name__" := by decide) (hdb : (x == ("__debug__" : Str)) = false := by decide)
    (he : starEach (e :: es) X.env = (false, eval e X.env) :: starEach es X.env := by rfl) (hpl : (backTo pos (starEach es X.env)).any (·.1) = false := by rfl) : PE X (.Call (.Name x p) (e :: es) [] pos) (tCB r t) := by
  intro pins s σ H Q I h
  refine wpAny_Call_Name_kw (ld_blt I hg hm hv ?_ hn hdb)
  exact PyProof.Rows.callWith_builtin1 (thn (ha pos pins s σ H _ I h) fun us s1 ⟨vs, H1, I1, r1, q1⟩ => hc pins s1 σ H1 vs us Q I1 r1 q1) he hpl
/-- T(e, ..), T a built-in type -/
theorem pe_callTy (hc : CallR X (.type T) r) (hg : Gl X x) (hm : X.mg x = none) (hv : bootBuiltins x = some (.type T)) (ha : PA X (e :: es) t) (hn : x ≠ "__name__" := by decide) (hdb : (x == ("__debug__" : Str)) = false := by decide)
    (he : starEach (e :: es) X.env = (false, eval e X.env) :: starEach es X.env := by rfl) (hpl : (backTo pos (starEach es X.env)).any (·.1) = false := by rfl) : PE X (.Call (.Name x p) (e :: es) [] pos) (tCB r t) := by
  intro pins s σ H Q I h
  refine wpAny_Call_Name_kw (ld_blt I hg hm hv ?_ hn hdb)
  exact PyProof.Rows.callWith_type1 (thn (ha pos pins s σ H _ I h) fun us s1 ⟨vs, H1, I1, r1, q1⟩ => hc pins s1 σ H1 vs us Q I1 r1 q1) he hpl
end
end L2

namespace HT
open PySem PyProof.Rows

/-- t < u of tuples of ints -/
def lexLt : List Int → List Int → Bool
  | [], [] => false
  | [], _ :: _ => true
  | _ :: _, [] => false
  | x :: xs, y :: ys => if x = y then lexLt xs ys else decide (x < y)
section
open PySem.SeqAt
open PySem.AutoSeq1 (wpAny_loadPart')
open PySem.MeetsSeq PySem.MeetsSeq2 PySem.MeetsSeq3

end

section
variable {prog : Program} {w : World} {A : Around} {E : Value → Shared → Prop} {s : Shared}

/-! ### t[a:b], not the whole -/
/-- a slice's bound as a place among n (d where it is left out) -/
def sIx (n d : Nat) : Option Int → Nat
  | none => d
  | some v => if v < 0 then (v + (n : Int)).toNat else min v.toNat n
end
end HT

namespace L2
open PySem PySem.Spec PyProof.Rows

/-! ### the parts of a slice -/
abbrev TO := St → Hp → (Option Int → Hp → Prop) → Prop
def tNoPart : TO := fun _ H Q => Q none H
def tPart (t : TE) : TO := fun σ H Q => t σ H fun x H1 => ∃ i, x = .int i ∧ Q (some i) H1

section
variable {X : Cx} {e : Expr} {te : TE} {lo hi : Option Expr} {tl th : TO} {pos p2 : Pos}

/-- what a slice of a value is, by values: the slice object stands at sl -/
def SlR (X : Cx) (r : V → Option Int → Option Int → Hp → VK → Prop) : Prop :=
  ∀ (pins : List (Addr × Obj)) (s : Shared) (σ : St) (H : Hp) (x : V) (v vl vu : Value) (lo hi : Option Int) (sl : Addr) (Q : VK), Inv X pins σ H s → RelV x v → s.heap.IsSliceOf sl vl vu .none → IsPart vl lo → IsPart vu hi → r x lo hi H Q →
    ∃ T id, typeLookup (.type T) "__getitem__" = pure (some (.builtin id)) ∧ s.TypeIs v T ∧ wpAny (model X.prog X.w) X.A (getItem v (.ref sl)) (EP X pins σ Q) X.xe s
theorem SlR.or {r r' : V → Option Int → Option Int → Hp → VK → Prop} (h : SlR X r) (h' : SlR X r') : SlR X (fun x lo hi H Q => r x lo hi H Q ∨ r' x lo hi H Q) := by
  intro pins s σ H x v vl vu lo hi sl Q I rx hs pl pu q
  rcases q with q | q
  · exact h pins s σ H x v vl vu lo hi sl Q I rx hs pl pu q
  · exact h' pins s σ H x v vl vu lo hi sl Q I rx hs pl pu q
def tSl (r : V → Option Int → Option Int → Hp → VK → Prop) (te : TE) (tl th : TO) : TE := fun σ H Q => te σ H fun x H1 => tl σ H1 fun l H2 => th σ H2 fun u H3 => r x l u H3 Q
/-- the items of xs[lo:hi] -/
def cutV (xs : List V) (lo hi : Option Int) : List V := (xs.drop (HT.sIx xs.length 0 lo)).take (HT.sIx xs.length xs.length hi - HT.sIx xs.length 0 lo)
/-! ### t < u, t + u -/
def rLtT (K : PySem.W.Frag) : R2 := fun x y H Q => ∃ a b ns ms, x = .ref a ∧ y = .ref b ∧ SqT K H a (ns.map V.int) ∧ SqT K H b (ms.map V.int) ∧ Q (.bl (HT.lexLt ns ms)) H
end
end L2

namespace L2
open PySem PySem.Spec PyProof.Rows

/-! ### places -/
/-- the place that an index of any sign means -/
def ixN (n : Nat) (i : Int) : Option Nat := if 0 ≤ i then (if i < n then some i.toNat else none) else if -(n : Int) ≤ i then some (i + n).toNat else none
def atI {α : Type} (xs : List α) (i : Int) : Option α := (ixN xs.length i).bind fun j => xs[j]?
theorem ixN_seq {n : Nat} {i : Int} {j : Nat} (h : ixN n i = some j) : seqIndex? i n = some j ∧ j < n ∧ -(n : Int) ≤ i ∧ i < n := by
  unfold ixN at h
  by_cases h0 : 0 ≤ i
  · rw [if_pos h0] at h
    by_cases h1 : i < n
    · rw [if_pos h1] at h
      have e : i.toNat = j := Option.some.inj h
      exact ⟨by rw [seqIndex_of h0 h1, e], by omega, by omega, h1⟩
    · rw [if_neg h1] at h; cases h
  · rw [if_neg h0] at h
    by_cases h1 : -(n : Int) ≤ i
    · rw [if_pos h1] at h
      have e : (i + n).toNat = j := Option.some.inj h
      exact ⟨by rw [seqIndex_neg (by omega) h1, e], by omega, h1, by omega⟩
    · rw [if_neg h1] at h; cases h
theorem atI_get {α : Type} {xs : List α} {i : Int} {v : α} (h : atI xs i = some v) : ∃ j, seqIndex? i xs.length = some j ∧ xs[j]? = some v ∧ j < xs.length ∧ -(xs.length : Int) ≤ i ∧ i < xs.length := by
  unfold atI at h
  cases e : ixN xs.length i with
  | none => rw [e] at h; cases h
  | some j =>
    rw [e] at h
    obtain ⟨h1, h2, h3, h4⟩ := ixN_seq e
    exact ⟨j, h1, h, h2, h3, h4⟩
theorem atI_nat {α : Type} {xs : List α} {j : Nat} {v : α} (h : xs[j]? = some v) : atI xs (j : Int) = some v := by
  have hj : j < xs.length := (List.getElem?_eq_some_iff.mp h).1
  have e : ixN xs.length (j : Int) = some j := by
    unfold ixN
    rw [if_pos (by omega), if_pos (by omega)]; simp
  unfold atI; rw [e]; exact h
/-! ### what may be subscripted -/
/-- what stands as an index of a plain subscript -/
def PlainIx (b : Expr) : Prop := ∀ o i, subscripted b false o i = operate [o, i] (getItem o i)
/-- a subscript by values -/
def IxR (X : Cx) (r : R2) : Prop :=
  ∀ (value slice : Expr) (pins : List (Addr × Obj)) (s : Shared) (σ : St) (H : Hp) (x y : V) (v u : Value) (Q : VK), Inv X pins σ H s → RelV x v → RelV y u → r x y H Q →
    subscripted slice false v u = operate [v, u] (getItem v u) → wpAny (model X.prog X.w) X.A (subscriptTail value slice v u) (EP X pins σ Q) X.xe s
/-- a call of a builtin's method by values: the receiver, the arguments -/
def MtR (X : Cx) (id : String) (r : V → List V → Hp → VK → Prop) : Prop :=
  ∀ (pins : List (Addr × Obj)) (s : Shared) (σ : St) (H : Hp) (x : V) (xs : List V) (v : Value) (us : List Value) (Q : VK), Inv X pins σ H s → RelV x v → Vals xs us → r x xs H Q →
    wpAny (model X.prog X.w) X.A (call (.builtin id) (v :: us)) (EP X pins σ Q) X.xe s
section
variable {X : Cx} {a b : Expr} {ta tb : TE} {pos : Pos}
theorem IxR.or {r r' : R2} (h : IxR X r) (h' : IxR X r') : IxR X (fun x y H Q => r x y H Q ∨ r' x y H Q) := by
  intro value slice pins s σ H x y v u Q I rx ry q hs
  rcases q with q | q
  · exact h value slice pins s σ H x y v u Q I rx ry q hs
  · exact h' value slice pins s σ H x y v u Q I rx ry q hs
theorem MtR.or {id : String} {r r' : V → List V → Hp → VK → Prop} (h : MtR X id r) (h' : MtR X id r') : MtR X id (fun x xs H Q => r x xs H Q ∨ r' x xs H Q) := by
  intro pins s σ H x xs v us Q I rx rs q
  rcases q with q | q
  · exact h pins s σ H x xs v us Q I rx rs q
  · exact h' pins s σ H x xs v us Q I rx rs q
/-- a[b] -/
theorem pe_ix {r : R2} (hr : IxR X r) (ha : PE X a ta) (hb : PE X b tb) (hs : PlainIx b) : PE X (.Subscript a b pos) (tOp r ta tb) := by
  intro pins s σ H Q I h
  exact Subscript_ (binT ha hb I h fun v u s2 x y H2 I2 rx ry q => hr a b pins s2 σ H2 x y v u Q I2 rx ry q (hs _ _))

def rIxL (K : PySem.W.Frag) : R2 := fun x y H Q => ∃ p xs i v, x = .ref p ∧ y = .int i ∧ SqL K H p xs ∧ atI xs i = some v ∧ Q v H
def rIxT (K : PySem.W.Frag) : R2 := fun x y H Q => ∃ p xs i v, x = .ref p ∧ y = .int i ∧ SqT K H p xs ∧ atI xs i = some v ∧ Q v H
theorem ix_list : IxR X (rIxL X.K) := by
  intro value slice pins s σ H x y v u Q I rx ry h hs
  obtain ⟨p, xs, i, z, rfl, rfl, hq, he, q⟩ := h
  cases rx
  obtain ⟨t, rfl⟩ := ry
  obtain ⟨its, r, pl, hz⟩ := I.list hq
  obtain ⟨j, h1, h2, h3, h4, h5⟩ := atI_get he
  obtain ⟨w, ew, rw'⟩ := r.get h2
  have hl := r.length
  have hn := line63
  have fin : EP X pins σ Q w s := ⟨z, H, I, rw', q⟩
  by_cases h0 : 0 ≤ i
  · have hj : i.toNat = j := by
      rw [seqIndex_of h0 h5] at h1
      exact Option.some.inj h1
    exact item_listR pl.isList h0 (by omega) (by rw [hj]; simpa using ew) fin hs
  · have hj : (i + (its.toArray.size : Int)).toNat = j := by
      rw [seqIndex_neg (by omega) h4] at h1
      rw [List.size_toArray, ← hl]
      exact Option.some.inj h1
    exact subscriptTail_builtinR (x := w) pl.isList.typeIs slot_list_getitem.lookup
      (wpAny_getItem_list_neg (Q := fun r s' => r = w ∧ EP X pins σ Q r s') pl.isList (by omega) (by rw [List.size_toArray] <;> omega) (by omega) (by rw [hj]; simpa using ew) ⟨rfl, fin⟩) hs
theorem ix_tup : IxR X (rIxT X.K) := by
  intro value slice pins s σ H x y v u Q I rx ry h hs
  obtain ⟨p, xs, i, z, rfl, rfl, hq, he, q⟩ := h
  cases rx
  obtain ⟨t, rfl⟩ := ry
  obtain ⟨its, r, pl, hz⟩ := I.tuple hq
  obtain ⟨j, h1, h2, h3, h4, h5⟩ := atI_get he
  obtain ⟨w, ew, rw'⟩ := r.get h2
  have hl := r.length
  have hn := line63
  have fin : EP X pins σ Q w s := ⟨z, H, I, rw', q⟩
  exact subscriptTail_builtinR (x := w) pl.typeIs slot_tuple_getitem.lookup
    (getItem_tuple (j := j) (Q := fun r s' => r = w ∧ EP X pins σ Q r s') pl (by omega) (by omega) (by rw [List.size_toArray, ← hl]; exact h1) (by simpa using ew) ⟨rfl, fin⟩) hs
/-! ### xs[i] = v, any sign -/
theorem Inv.lst {pins : List (Addr × Obj)} {σ : St} {H : Hp} {s : Shared} {p : Addr} {xs : List V} (I : Inv X pins σ H s) (h : H p = some (.lst xs)) :
    ∃ (its : List Value) (n : Nat), Vals xs its ∧ s.heap.get? p = some { cls := .type "list", data := .seq its.toArray n } ∧ xs.length ≤ sizeLine := by
  obtain ⟨z, its, n, r, e⟩ := I.hok p _ h
  exact ⟨its, n, r, e, z⟩
/-! ### slices -/
/-! ### in, not in: flat items -/
def flatV : V → Bool
  | .non => true
  | .bl _ => true
  | .int _ => true
  | .str _ => true
  | _ => false
/-- == of flat values -/
def eqV : V → V → Bool
  | .non, .non => true
  | .bl a, .bl b => a == b
  | .bl a, .int b => (if a then 1 else 0) == b
  | .int a, .bl b => a == (if b then 1 else 0)
  | .int a, .int b => a == b
  | .str a, .str b => a == b
  | _, _ => false
theorem eqAt_V {A : Around} {s : Shared} {y x : V} {u v : Value} (ry : RelV y u) (rx : RelV x v) (fy : flatV y = true) (fx : flatV x = true) : SeqAt.EqAt A s u v (eqV y x) := by
  cases y with
  | non =>
    cases ry
    cases x with
    | non => cases rx; exact SeqAt.EqAt.same _
    | bl b => cases rx; exact SeqAt.EqAt.none_bool b
    | int b => obtain ⟨t, rfl⟩ := rx; exact SeqAt.EqAt.none_int b t
    | str b => obtain ⟨t, rfl⟩ := rx; exact SeqAt.EqAt.none_str b t
    | _ => exact absurd (show false = true from fx) Bool.false_ne_true
  | bl a =>
    cases ry
    cases x with
    | non => cases rx; exact SeqAt.EqAt.bool_none a
    | bl b => cases rx; exact SeqAt.EqAt.bool_bool a b
    | int b => obtain ⟨t, rfl⟩ := rx; exact SeqAt.EqAt.bool_int a b t
    | str b => obtain ⟨t, rfl⟩ := rx; exact SeqAt.EqAt.bool_str a b t
    | _ => exact absurd (show false = true from fx) Bool.false_ne_true
  | int a =>
    obtain ⟨t', rfl⟩ := ry
    cases x with
    | non => cases rx; exact SeqAt.EqAt.int_none a t'
    | bl b => cases rx; exact SeqAt.EqAt.int_bool a t' b
    | int b => obtain ⟨t, rfl⟩ := rx; exact SeqAt.EqAt.int_int a t' b t
    | str b => obtain ⟨t, rfl⟩ := rx; exact SeqAt.EqAt.int_str a t' b t
    | _ => exact absurd (show false = true from fx) Bool.false_ne_true
  | str a =>
    obtain ⟨t', rfl⟩ := ry
    cases x with
    | non => cases rx; exact SeqAt.EqAt.str_none a t'
    | bl b => cases rx; exact SeqAt.EqAt.str_bool a t' b
    | int b => obtain ⟨t, rfl⟩ := rx; exact SeqAt.EqAt.str_int a t' b t
    | str b => obtain ⟨t, rfl⟩ := rx; exact SeqAt.EqAt.str_str a t' b t
    | _ => exact absurd (show false = true from fx) Bool.false_ne_true
  | _ => exact absurd (show false = true from fy) Bool.false_ne_true
def inV (x : V) (xs : List V) : Bool := xs.any fun y => eqV y x
/-- x in a list or tuple of flat items -/
def rIn (K : PySem.W.Frag) (neg : Bool) : R2 := fun x y H Q => ∃ p xs, y = .ref p ∧ (SqL K H p xs ∨ SqT K H p xs) ∧ flatV x = true ∧ xs.all flatV = true ∧ Q (.bl (if neg then !inV x xs else inV x xs)) H
/-! ### len, list(x), tuple(x) of any list or tuple that is read -/
theorem call_len_seq : CallR X (.builtin "len") (fun xs H Q => ∃ p ys, xs = [.ref p] ∧ (SqL X.K H p ys ∨ SqT X.K H p ys) ∧ Q (.int ys.length) H) := by
  intro pins s σ H xs us Q I r h
  obtain ⟨p, ys, rfl, hq, q⟩ := h
  obtain ⟨u, rfl, rx⟩ := vals1 r
  cases rx
  have hn := line63
  rcases hq with hq | hq
  · obtain ⟨its, r', pl, hz⟩ := I.list hq
    have hlen := r'.length
    exact Calls.call_len_list pl.isList (by simp only [List.size_toArray] <;> omega) ⟨.int ys.length, H, I.tok _, ⟨s.toks + 1, by rw [List.size_toArray, hlen]⟩, q⟩
  · obtain ⟨its, r', pl, hz⟩ := I.tuple hq
    have hlen := r'.length
    exact len_tuple pl (by simp only [List.size_toArray] <;> omega) ⟨.int ys.length, H, I.tok _, ⟨s.toks + 1, by rw [List.size_toArray, hlen]⟩, q⟩
theorem CallR.or {f : Value} {r r' : List V → Hp → VK → Prop} (h : CallR X f r) (h' : CallR X f r') : CallR X f (fun xs H Q => r xs H Q ∨ r' xs H Q) := by
  intro pins s σ H xs us Q I rs q
  rcases q with q | q
  · exact h pins s σ H xs us Q I rs q
  · exact h' pins s σ H xs us Q I rs q
theorem call_tuple_of : CallR X (.type "tuple") (fun xs H Q => ∃ p ys, xs = [.ref p] ∧ ((SqL X.K H p ys ∧ ∀ l, H l = none → Q (.ref l) (upd H l (.tup ys))) ∨ (SqT X.K H p ys ∧ Q (.ref p) H))) := by
  intro pins s σ H xs us Q I r h
  obtain ⟨p, ys, rfl, h⟩ := h
  obtain ⟨u, rfl, rx⟩ := vals1 r
  cases rx
  rcases h with ⟨hq, q⟩ | ⟨hq, q⟩
  · obtain ⟨its, r', pl, hz⟩ := I.list hq
    have hlen := r'.length
    refine call_tuple_list pl.isList (fun h' kp => ?_) (by simp only [List.size_toArray] <;> omega)
    have I1 : Inv X pins σ H { s with heap := h' } := I.kept (t' := s.toks) kp
    have I2 : Inv X pins σ (upd H h'.objs.size (.tup ys)) { s with heap := h'.push { cls := .type "tuple", data := .seq its.toArray } } :=
      I1.laid (t' := s.toks) (fun b o e => Heap.get?_push_of_some _ e) (Nat.le_refl _) (show ObjOk X.prog X.w _ _ _ (.tup ys) from ⟨hz, its, r', IsTup.new _ _⟩)
    exact ⟨.ref h'.objs.size, _, I2, rfl, q _ (I1.hok.fresh (Nat.le_refl _))⟩
  · obtain ⟨its, r', pl, hz⟩ := I.tuple hq
    exact call_tuple_same pl ⟨.ref p, H, I, rfl, q⟩

/-! ### the call of a builtin's method: o.m(..) -/
/-- the value is of that builtin type -/
def tyV (K : PySem.W.Frag) (T : String) (x : V) (H : Hp) : Prop := match x with
  | .str _ => T = "str"
  | .int _ => T = "int"
  | .ref p => (T = "list" ∧ ∃ xs, SqL K H p xs) ∨ (T = "tuple" ∧ ∃ o, K.lookup p = some o ∧ o.cls = .type "tuple" ∧ o.dict = none) ∨
      (T = "dict" ∧ ((∃ kvs, H p = some (.dK kvs)) ∨ ∃ kvs, H p = some (.dT kvs))) ∨ (T = "set" ∧ ∃ S n, H p = some (.set S n))
  | _ => False
theorem tyV_is {pins : List (Addr × Obj)} {σ : St} {H : Hp} {s : Shared} {T : String} {x : V} {v : Value} (I : Inv X pins σ H s) (r : RelV x v) (ty : tyV X.K T x H) :
    s.TypeIs v T ∧ ∀ a, v = .ref a → ∃ ob, s.heap.get? a = some ob ∧ ob.dict = none := by
  cases x with
  | str z =>
    obtain ⟨t, rfl⟩ := r
    cases (show T = "str" from ty)
    exact ⟨typeIs_str s z t, fun _ e => nomatch e⟩
  | int i =>
    obtain ⟨t, rfl⟩ := r
    cases (show T = "int" from ty)
    exact ⟨typeIs_int s i t, fun _ e => nomatch e⟩
  | ref p =>
    cases r
    rcases ty with ⟨rfl, xs, hq⟩ | ⟨rfl, o, hk, hc, hd⟩ | ⟨rfl, hk⟩ | ⟨rfl, S, n, hk⟩
    · obtain ⟨its, _, pl, _⟩ := I.list hq
      refine ⟨pl.isList.typeIs, fun a e => ?_⟩
      cases e
      obtain ⟨o, n, e, c, hd, _⟩ := pl
      exact ⟨o, e, hd⟩
    · refine ⟨⟨o, I.kIn p o hk, hc⟩, fun a e => ?_⟩
      cases e
      exact ⟨o, I.kIn _ o hk, hd⟩
    · have z : ∃ o, s.heap.get? p = some o ∧ o.ExactDict := by
        rcases hk with ⟨kvs, hk⟩ | ⟨kvs, hk⟩
        · obtain ⟨_, _, _, _, o, _, _, e, ex, _⟩ := I.hok p _ hk
          exact ⟨o, e, ex⟩
        · obtain ⟨_, _, _, _, o, _, _, e, ex, _⟩ := I.hok p _ hk
          exact ⟨o, e, ex⟩
      obtain ⟨o, e, ex⟩ := z
      refine ⟨⟨o, e, ex.1⟩, fun a e2 => ?_⟩
      cases e2
      exact ⟨o, e, ex.2.1⟩
    · obtain ⟨o, _, _, _, e, ex, _⟩ := I.hok p _ hk
      refine ⟨⟨o, e, ex.1⟩, fun a e2 => ?_⟩
      cases e2
      exact ⟨o, e, ex.2.1⟩
  | _ => exact False.elim ty
def tBM0 (K : PySem.W.Frag) (T : String) (r : V → List V → Hp → VK → Prop) (to : TE) : TE := fun σ H Q => to σ H fun x H1 => tyV K T x H1 ∧ r x [] H1 Q
def tBM (K : PySem.W.Frag) (T : String) (r : V → List V → Hp → VK → Prop) (to : TE) (t : TA) : TE := fun σ H Q => to σ H fun x H1 => tyV K T x H1 ∧ t σ H1 fun xs H2 => r x xs H2 Q
variable {o e : Expr} {es : List Expr} {to : TE} {t : TA} {name : Str} {apos cpos : Pos} {T id : String} {r : V → List V → Hp → VK → Prop}
theorem pe_bm0 (pa : PlainAttrs T) (slot : Slot T name id) (hty : typeOf (.builtin id) = pure (.type "method_descriptor")) (hm : MtR X id r) (ho : PE X o to)
    (hbase : attributeBase o name X.env (eval o X.env) = eval o X.env := by rfl) (hline : (apos.endLine == cpos.line) = true := by rfl) : PE X (.Call (.Attribute o name apos) [] [] cpos) (tBM0 X.K T r to) := by
  intro pins s σ H Q I h
  refine wpAny_Call_method0_late hbase hline (thn (ho pins s σ H _ I h) fun v s1 ⟨x, H1, I1, r1, ty, q1⟩ => ?_)
  obtain ⟨h1, h2⟩ := tyV_is I1 r1 ty
  exact ⟨T, id, pa, slot, hty, h1, h2, Calls.callWith_builtin rfl (PySem.evalArgs_none (hm pins s1 σ H1 x [] v [] Q I1 r1 .nil q1))⟩
theorem pe_bm (pa : PlainAttrs T) (slot : Slot T name id) (hty : typeOf (.builtin id) = pure (.type "method_descriptor")) (hm : MtR X id r) (ho : PE X o to) (ha : PA X (e :: es) t)
    (hbase : attributeBase o name X.env (eval o X.env) = eval o X.env := by rfl)
    (hfew : ((backTo cpos (starEach (e :: es) X.env)).all (fun x => !x.1) && (backToKw cpos (keywordEach [] X.env)).all (fun x => x.1.isSome)
      && decide ((e :: es).length + ([] : List Keyword).length + (if ([] : List Keyword).isEmpty then 0 else 1) < 30)) = true := by rfl)
    (hline : (apos.endLine == cpos.line) = true := by rfl) (hs : starEach (e :: es) X.env = (false, eval e X.env) :: starEach es X.env := by rfl) (hplain : (backTo cpos (starEach es X.env)).any (·.1) = false := by rfl) :
    PE X (.Call (.Attribute o name apos) (e :: es) [] cpos) (tBM X.K T r to t) := by
  intro pins s σ H Q I h
  refine wpAny_Call_method_late hbase hfew hline rfl (thn (ho pins s σ H _ I h) fun v s1 ⟨x, H1, I1, r1, ty, q1⟩ => ?_)
  obtain ⟨h1, h2⟩ := tyV_is I1 r1 ty
  refine ⟨T, id, pa, slot, hty, h1, h2, ?_⟩
  have hA := ha cpos pins s1 σ H1 _ I1 q1
  rw [hs] at hA ⊢
  refine Calls.callWith_builtin (by show (false || (backTo cpos (starEach es X.env)).any (·.1)) = false; rw [hplain] <;> rfl) (Calls.evalArgs_plain ?_)
  exact thn hA fun us s2 ⟨vs, H2, I2, r2, q2⟩ => hm pins s2 σ H2 x vs v us Q I2 r1 r2 q2
/- xs.append(e), list.index on a module's tuple .. are MtR facts of 06m -/
end
end L2

namespace L2
open PySem PySem.Spec PyProof.Rows

def MtM (X : Cx) (id : String) (r : V → List V → Hp → VK → Prop) : Prop :=
  ∀ (pins : List (Addr × Obj)) (s : Shared) (σ : St) (H : Hp) (x : V) (xs : List V) (v : Value) (us : List Value) (Q : VK), Inv X pins σ H s → RelV x v → Vals xs us → r x xs H Q →
    wpAny (model X.prog X.w) X.A (call (.builtin id) (v :: us)) (EP X pins σ Q) X.xe s

/-! ### lists of values -/
theorem Vals.one : ∀ {x : V} {us : List Value}, Vals [x] us → ∃ u, us = [u] ∧ RelV x u
  | _, _, .cons r .nil => ⟨_, rfl, r⟩
theorem Vals.two : ∀ {x y : V} {us : List Value}, Vals [x, y] us → ∃ u v, us = [u, v] ∧ RelV x u ∧ RelV y v
  | _, _, _, .cons r (.cons q .nil) => ⟨_, _, rfl, r, q⟩
theorem Vals.zero : ∀ {us : List Value}, Vals [] us → us = []
  | _, .nil => rfl
theorem Vals.dropLast {xs : List V} {us : List Value} (h : Vals xs us) : Vals xs.dropLast us.dropLast := by
  induction h with
  | nil => exact .nil
  | cons r t ih =>
    cases t with
    | nil => exact .nil
    | cons q t' => exact .cons r ih
theorem Vals.reverse {xs : List V} {us : List Value} (h : Vals xs us) : Vals xs.reverse us.reverse := by
  induction h with
  | nil => exact .nil
  | cons r t ih => rw [List.reverse_cons, List.reverse_cons]; exact Vals.append ih (.cons r .nil)
section
variable {X : Cx} {pins : List (Addr × Obj)} {σ : St} {H : Hp} {s : Shared} {l b : Addr} {xs ys zs : List V}

/-! ### the two steps: a tracked list is rewritten, a new list is laid -/
theorem Inv.lset {its its' : List Value} {n : Nat} {f : Array Value → Array Value} {t' : Nat} (I : Inv X pins σ H s) (hH : H l = some (.lst xs))
    (e : s.heap.get? l = some { cls := .type "list", data := .seq its.toArray n }) (hf : f its.toArray = its'.toArray) (hv : Vals ys its') (hz : ys.length ≤ sizeLine) :
    Inv X pins σ (upd H l (.lst ys)) { s with heap := s.heap.update l (Obj.mapSeq f), toks := t' } := by
  have q := PySem.IsL.update e f
  rw [hf] at q
  refine I.write (x := l) (e := l) (by rw [hH]; exact trivial) (.inl rfl) (fun b' u hb hu => (Heap.get?_update_other s.heap (Obj.mapSeq f) (Ne.symm hb)).trans hu) ⟨_, q⟩ ?_
  exact ⟨hz, its', _, hv, q⟩
theorem Inv.fresh (I : Inv X pins σ H s) : H s.heap.objs.size = none := I.hok.fresh (Nat.le_refl _)
theorem Inv.lstM (I : Inv X pins σ H s) (hH : H l = some (.lst xs)) : xs.length ≤ sizeLine ∧ ∃ (its : List Value) (n : Nat), Vals xs its ∧ xs.length = its.length ∧ s.heap.get? l = some { cls := .type "list", data := .seq its.toArray n } := by
  obtain ⟨z, its, n, r, e⟩ := I.hok l _ hH
  exact ⟨z, its, n, r, r.length, e⟩

end

section
variable {X : Cx}

/-! ### methods -/
def rAppend : V → List V → Hp → VK → Prop := fun x vs H Q => ∃ l xs y, x = .ref l ∧ vs = [y] ∧ H l = some (.lst xs) ∧ xs.length < sizeLine ∧ Q .non (upd H l (.lst (xs ++ [y])))
theorem mt_append : MtM X "list.append" rAppend := by
  intro pins s σ H x vs v us Q I rx rv h
  obtain ⟨l, xs, y, rfl, rfl, hH, hz, q⟩ := h
  cases rx
  obtain ⟨u, rfl, ru⟩ := rv.one
  obtain ⟨z, its, n, r, hl, e⟩ := I.lstM hH
  refine call_meets F.slot_list_append ⟨_, e, rfl⟩ F.entry_list_append (F.args_list_append_2 _ _) (PySem.list_append l its.toArray n u (by rw [List.size_toArray]; omega)) ⟨e, ?_⟩
  refine ⟨.non, _, I.lset (its' := its ++ [u]) hH e (by simp) (r.append (.cons ru .nil)) ?_, rfl, q⟩
  rw [List.length_append, List.length_singleton]
  omega

/-! ### list + list, list += list, list * int -/
/-! ### del xs[i] -/
end

/-! ### xs[a:b] = ys -/
section
variable {prog : Program} {w : World} {A : Around} {E : Value → Shared → Prop} {s : Shared}
end

section
variable {X : Cx}
end
end L2

namespace Att
open PySem PySem.W PySem.Calls PyProof.Rows

/-! ### the script -/
theorem ints_of_wellAll {P : Params} {h : Heap} : ∀ (ns : List Int) (vs : List Value), WellAll P h vs (ns.map WData.int) → IntsAre vs ns := by
  intro ns
  induction ns with
  | nil =>
    intro vs w
    rw [List.map_nil] at w
    cases w
    exact .nil
  | cons n ns ih =>
    intro vs w
    rw [List.map_cons] at w
    cases w with
    | cons a b =>
      cases a
      exact .cons _ _ (ih _ b)

theorem script_of {l : OpenLaw} {n : Nat} (hn : l.most = some n) {P : Params} {h : Heap} {args : List WData} {vals : List Value}
    (hpre : l.row.toRowW.claim.pre args = true) (hwl : WellAll P h vals args) :
    ∃ a vs ns, vals = [Value.ref a] ∧ args = [WData.list (ns.map WData.int)] ∧ h.get? a = some { cls := .type "list", data := .seq vs.toArray } ∧ IntsAre vs ns ∧ ns.length ≤ n := by
  have hsh : WShape.hasAll [] args [.list .int] = true := (pre_splitW hpre).1
  have hc : l.pre.holds [] { args := args } = true := (pre_splitW hpre).2
  obtain ⟨d, r, rfl, h1, h2⟩ := hasAllW_cons hsh
  obtain rfl := hasAllW_nil h2
  obtain ⟨xs, rfl, h3⟩ := hasW_list h1
  obtain ⟨ns, rfl⟩ := items_int h3
  have hlen : ns.length ≤ n := by
    unfold OpenLaw.pre at hc
    have h4 : (WTm.not (.lt (.lit (.int (n : Int))) (.len (.arg 0)))).holds [] { args := [.list (ns.map .int)] } = true := by
      have h4 := (holds_andW hc).1
      rw [hn] at h4
      exact h4
    have h5 := condW_of h4 (w_not (w_lt w_lit (w_len_list (w_arg rfl))))
    rw [List.length_map] at h5
    refine Nat.le_of_not_lt fun q => ?_
    have q' : (n : Int) < ((ns.length : Nat) : Int) := by omega
    first
      | (rw [decide_eq_true q'] at h5; exact absurd h5 (by decide))
      | (simp at h5; omega)
  cases hwl with
  | cons w1 w2 =>
    cases w2
    cases w1 with
    | list ho hall => exact ⟨_, _, ns, rfl, rfl, ho, ints_of_wellAll ns _ hall, hlen⟩

theorem post_true (l : OpenLaw) (args : List WData) : l.row.toRowW.claim.post args (.bool true) args = true :=
  postW_of (r := l.row.toRowW) (X := (true == true))
    (show WShape.has [] (.bool true) .bool = true by first | rfl | decide | simp [WShape.has, WShape.arms, WShape.armsAll])
    (show (WTm.eq .res (.lit (.bool true))).value [] { args := args, res := some (.bool true), after := args } = some (.bool (true == true)) from w_eq_bool (w_res rfl) w_lit) rfl

/-! ### the attachment: holds_open's last premise (the goal 'hc' behind k_head) from a wpAny of the law's body -/
/-- the same from a codeAny of the CALL (for a layer whose function contracts speak of calls) -/
theorem attach_call {l : OpenLaw} {n : Nat} {q : Program} {loose : List Str} {XP : (Str → Option Value) → Heap → Prop} {YP : World → Heap → Prop} {d : DefRec}
    (hn : l.most = some n) (hdf : d.params.defaults = [])
    (call : ∀ (w : World) (s₀ s₁ : Shared) (mg mb : Str → Option Value) (fa : Addr) (o : Obj) (pm cd doc : Value) (a : Addr) (vs : List Value) (ns : List Int),
      Ground q loose [] XP w s₀ mg mb s₁.heap → YP w s₁.heap →
      s₁.heap.get? fa = some o → o.data = .func (docDef d.name d.params d.body d.scope pm cd doc) → s₁.heap.CodeRec cd d.name → mg d.name = some (.ref fa) →
      s₁.heap.get? a = some { cls := .type "list", data := .seq vs.toArray } → IntsAre vs ns → ns.length ≤ n → s₁.gens = #[] →
      codeAny (model l.prog w) callerA (.call (.ref fa) ⟨[.ref a], []⟩) (fun r s' => r = .ok (.ret (.bool true)) ∧ OldK s₁.heap s'.heap ∧ s'.os = s₁.os ∧ AllBare s'.gens) s₁) :
    WalkO q loose XP YP l.row.toRowW d [] (fun f vs => PySem.call f vs) := by
  intro w s₀ s₁ mg mb G Y fa o pm cd doc dV kV ho hd hcd hD hmg hg args vals as hpre hlay hrd hwl hlo
  obtain rfl : dV = .none := Dflts.none hD hdf
  obtain rfl : kV = .none := Dflts.noKw hD
  obtain ⟨a, vs, ns, rfl, rfl, hobj, hints, hlen⟩ := script_of hn hpre hwl
  refine enter_call (codeAny_mono (call w s₀ s₁ mg mb fa o pm cd doc a vs ns G Y ho (fd_plain hd) hcd hmg hobj hints hlen hg) fun r s' hq => ?_)
  obtain ⟨rfl, h2, h3, h4⟩ := hq
  exact ⟨.inl ⟨.bool true, .bool true, [], rfl, fun _ => rfl, .bool true, post_true l _, fun _ => ⟨List.Pairwise.nil, fun _ hm => (nomatch hm)⟩⟩, h2, h3, h4⟩

/-! ### rules over ANY heap (no ledger) from facts about the written part K: the library's own take a ledger (News) for what they write -/
section
variable {prog : Program} {w : World} {A : Around} {E : Value → Shared → Prop} {s : Shared} {K : Frag}

/-! the whole heap as the ledger: makes every rule that writes through a ledger a rule over any heap -/
def ledger (h : Heap) (L d : Addr) : List (Addr × Obj) := (List.range h.objs.size).filterMap fun a => if a = L ∨ a = d then none else (h.get? a).map fun o => (a, o)
end
end Att

namespace L2
open PySem PySem.Spec PyProof.Rows

theorem vals_ints : ∀ {vs : List Value} {ns : List Int}, IntsAre vs ns → Vals (ns.map V.int) vs
  | _, _, .nil => .nil
  | _, _, .cons n t h => .cons ⟨t, rfl⟩ (vals_ints h)

/-- nothing is tracked but the script, known to the object (or it is an object of the module) -/
def Only (H : Hp) : Prop := ∀ b, H b = none ∨ ∃ o xs, H b = some (.frz o (.lst xs))

/-- THE HEAD: the law's promise, at the heap behind the top. F, the promise of the law's def, may use that base is part of the heap (so K.In base, base.Ns mainGlobals mg stand in Mod) -/
theorem law_call {P : Program} {w : World} {K : PySem.W.Frag} {mg mb : Str → Option Value} {CX : CXT} {k : Nat} {fa a : Addr} {fd : FuncData} {x : Str} {sp : Sp} {s₁ : Shared} {vs : List Value} {ns : List Int}
    (KX : K.In s₁.heap) (hns : s₁.heap.Ns mainGlobals mg) (hb : s₁.heap.Ns builtinsNs mb) (hbb : ∀ x : Str, x ≠ "__name__" → mb x = bootBuiltins x) (hlim : s₁.heap.NoLimit) (hg : s₁.gens = #[])
    (ha : s₁.heap.get? a = some { cls := .type "list", data := .seq vs.toArray }) (hi : IntsAre vs ns) (hl : ns.length ≤ sizeLine) (hr : Room k callerA)
    (F : ∀ base : Heap, K.In base → base.Ns mainGlobals mg → FnOk P w K mg base CX k fa fd [x] sp) (hbind : ∀ (s : Shared) (u : Value), BindsTo s fd ⟨[u], []⟩ [(x, u)])
    (hsp : ∀ H : Hp, Only H → SqL K H a (ns.map V.int) → sp [.ref a] H (fun v _ => v = .bl true) fun _ _ _ => False)
    (hCX : ∀ H e s', CX [] H s₁ (fun _ _ _ => False) e s' → False) :
    codeAny (model P w) callerA (.call (.ref fa) ⟨[.ref a], []⟩) (fun r s' => r = .ok (.ret (.bool true)) ∧ OldK s₁.heap s'.heap ∧ s'.os = s₁.os ∧ AllBare s'.gens) s₁ := by
  have rv := vals_ints hi
  have lenV := hi.length
  -- from an abstract heap in which nothing but the script may be tracked
  have core : ∀ H : Hp, Only H → SqL K H a (ns.map V.int) → HOk P w H s₁.heap → (∀ b, H b ≠ none → b = a) → (H a ≠ none → K.lookup a = none) →
      codeAny (model P w) callerA (.call (.ref fa) ⟨[.ref a], []⟩) (fun r s' => r = .ok (.ret (.bool true)) ∧ OldK s₁.heap s'.heap ∧ s'.os = s₁.os ∧ AllBare s'.gens) s₁ := by
    intro H hO hS hok hA hK
    have base_of : ∀ {b : Addr} {o : Obj}, s₁.heap.get? b = some o → H b = none → (hidT s₁.heap H).get? b = some o := fun e n => hidT_get e n
    have noA : ∀ {b : Addr} {o : Obj} {es : Array DictEntry} {ep : Nat}, s₁.heap.get? b = some o → o.data = .dict es ep → H b = none := fun {b o es ep} e d => by
      cases q : H b with
      | none => rfl
      | some u =>
        have e' : b = a := hA b (by rw [q]; simp)
        subst e'
        rw [ha] at e; cases e
        have d' : Data.seq vs.toArray _ = Data.dict es ep := d
        cases d'
    have nsK : ∀ {b : Addr} {m : Str → Option Value}, s₁.heap.Ns b m → (hidT s₁.heap H).Ns b m := fun {b m} ⟨o, es, ep, e, d, r⟩ => ⟨o, es, ep, base_of e (noA e d), d, r⟩
    have hKb : K.In (hidT s₁.heap H) := fun b o e => base_of (KX b o e) (by
      cases q : H b with
      | none => rfl
      | some u =>
        have e' : b = a := hA b (by rw [q]; simp)
        subst e'
        rw [hK (by rw [q]; simp)] at e; cases e)
    have hM : Mod K mg (hidT s₁.heap H) := ⟨hKb, nsK hns, ⟨mb, nsK hb, hbb⟩, let ⟨mc, h1, h2⟩ := hlim; ⟨mc, nsK h1, h2⟩⟩
    have e0 : Env0 P w K mg (hidT s₁.heap H) callerA [] s₁ H := ⟨rfl, hM, fun b o e => of_hidT e, Nat.le_of_eq (hidT_size _ _), trivial, fun b hb => absurd (show b ∈ ([] : List Addr) from hb) (by simp), hok, .of_eq hg⟩
    refine codeAny_mono ((F _ hKb (nsK hns)).run callerA [] s₁ H ⟨[.ref a], []⟩ [.ref a] [.ref a] _ _ hr e0 (hbind s₁ (.ref a)) (.cons rfl .nil) (hsp H hO hS)) fun r s' h => ?_
    cases r with
    | error e => exact (hCX H e s' h).elim
    | ok fl =>
      cases fl with
      | next => exact False.elim h
      | brk => exact False.elim h
      | cont => exact False.elim h
      | ret u =>
        obtain ⟨v, H', os, bare, un, hok', r', q⟩ := h
        have q' : v = .bl true := q
        subst q'
        obtain rfl : u = Value.bool true := r'
        refine ⟨rfl, OldK.of_keep fun b o e => ?_, os, bare⟩
        cases q : H b with
        | none => exact un.keep b o e q (by intro z; exact absurd (show b ∈ ([] : List Addr) from z) (by simp)) (by simp)
        | some u =>
          rcases hO b with z | ⟨ob, xs, z⟩
          · rw [q] at z; cases z
          · have z2 := un.frzs b ob _ z
            obtain ⟨e1, _⟩ := hok b _ z
            obtain ⟨e2, _⟩ := hok' b _ z2
            rw [e] at e1; cases e1
            exact e2
  cases hk : K.lookup a with
  | some o =>
    -- the script is one of the module's own objects
    have e := KX a o hk
    rw [ha] at e
    cases e
    refine core (fun _ => none) (fun _ => .inl rfl) (.inr ⟨_, vs.toArray, _, hk, rfl, rfl, rfl, by rw [List.size_toArray, lenV]; exact hl, by simpa using rv⟩) (fun b u z => by have z' : (none : Option HO) = some u := z; cases z') (fun b z => absurd rfl z) fun z => absurd rfl z
  | none =>
    refine core (fun b => if b = a then some (.frz { cls := .type "list", data := .seq vs.toArray } (.lst (ns.map V.int))) else none) (fun b => ?_) (.inl (.inr ⟨{ cls := .type "list", data := .seq vs.toArray }, if_pos rfl⟩)) (fun b u z => ?_) (fun b z => ?_) fun _ => hk
    · by_cases hb : b = a
      · exact .inr ⟨_, _, if_pos hb⟩
      · exact .inl (if_neg hb)
    · by_cases hb : b = a
      · have z' := (if_pos hb).symm.trans z
        cases z'
        subst hb
        exact ⟨ha, by rw [List.length_map]; exact hl, vs, _, rv, ha⟩
      · have z' := (if_neg hb).symm.trans z
        cases z'
    · by_cases hb : b = a
      · exact hb
      · exact absurd (if_neg hb) z
end L2

namespace L2
open PySem PySem.Spec PyProof.Rows

abbrev KOf {K : PySem.W.Frag} {h : Heap} (_ : K.In h) : PySem.W.Frag := K

/-- the goal that k_head leaves (case hc), from the law's promise. F gives the function object fd (K's own) once, then the promise over every base -/
theorem walk_of {l : PySem.W.OpenLaw} {n k : Nat} {q : Program} {loose : List Str} {XP : (Str → Option Value) → Heap → Prop} {YP : World → Heap → Prop} {d : DefRec} {K : Params → PySem.W.Frag} {CX : World → CXT} {sp : World → Sp} {x : Str}
    (hn : l.most = some n) (hn2 : n ≤ sizeLine) (hdf : d.params.defaults = []) (hr : Room k callerA)
    (hY : ∀ (w : World) (h : Heap), YP w h → (K w.params).In h)
    (F : ∀ (w : World) (mg : Str → Option Value) (fa : Addr) (h : Heap), (K w.params).In h → h.Ns mainGlobals mg → mg d.name = some (.ref fa) →
      ∃ fd : FuncData, (∀ (s : Shared) (u : Value), BindsTo s fd ⟨[u], []⟩ [(x, u)]) ∧
        ∀ base : Heap, (K w.params).In base → base.Ns mainGlobals mg → FnOk l.prog w (K w.params) mg base (CX w) k fa fd [x] (sp w))
    (hsp : ∀ (w : World) (H : Hp) (a : Addr) (ns : List Int), ns.length ≤ n → Only H → SqL (K w.params) H a (ns.map V.int) → sp w [.ref a] H (fun v _ => v = .bl true) fun _ _ _ => False)
    (hCX : ∀ (w : World) (H : Hp) (s : Shared) (e : Value) (s' : Shared), CX w [] H s (fun _ _ _ => False) e s' → False) :
    PySem.W.WalkO q loose XP YP l.row.toRowW d [] (fun f vs => PySem.call f vs) := by
  refine Att.attach_call hn hdf fun w s₀ s₁ mg mb fa o pm cd doc a vs ns G Y ho hd hcd hmg hobj hints hlen hg => ?_
  have KX := hY w _ Y
  obtain ⟨fd, hb, hF⟩ := F w mg fa _ KX G.T.g hmg
  exact law_call KX G.T.g G.T.b G.T.builtins G.T.nolimit hg hobj hints (Nat.le_trans hlen hn2) hr hF hb (fun H hO hS => hsp w H a ns hlen hO hS) fun H e s' => hCX w H s₁ e s'
end L2

/- THE LAST THEOREM (shape; LID, My.* are yours):
   My.Adr: a structure of the addresses that your layer names (classes, functions); My.Txt K t: a structure (Prop) of the equations over K;
   My.txt_mk : {K} {implicit addresses ..} (e1 : nsIn K mainGlobals "law" = some (some (.ref f))) (e2 : K.lookup f = some ⟨oc, od, .func (fnOf "law" "law" params body scope dV kV doc pm an cdv ct), sl⟩) (e3 : codeIn K cdv "law" = true) .. : ∃ t, My.Txt K t

set_option maxRecDepth 100000 in
set_option maxHeartbeats 0 in
theorem PySem.Challenge.cw_LID_holds : PySem.Challenge.rw_LID.Holds := by
  w_on; o_law; k_head; (case hw => w_witness2)
  k_fill
  refine L2.walk_of (l := PySem.Challenge.rw_LID) (n := 63) (k := 40) (x := "script") (CX := fun w => ..) (sp := fun _ => My.sp_law) rfl (by decide) rfl ⟨rfl, by decide, by decide⟩ (fun w h Y => PySem.W.kIn_of Y) ?F ?S ?C
  case F =>
    intro w mg fa h KX G hmg
    have T : ∃ t, My.Txt (L2.KOf KX) t := by
      dsimp only [L2.KOf]                          -- K must stand as «<heap const> w.params» for k_is
      refine' My.txt_mk ?e1 ?e2 ?e3 ..
      (case e1 => PySem.W.k_is)                    -- in the order: a name -> its address -> its object -> its parts
      (case e2 => PySem.W.k_is)
      ..
    obtain ⟨t, T⟩ := T
    have e0 := hmg.symm.trans (PySem.W.mg_of KX G T.law)
    cases e0                                       -- fa is the law's own address
    exact ⟨_, fun s u => .of_eq rfl, fun base kb nb => My.law_fn T kb nb⟩     -- if «.of_eq rfl» comes too early: refine' ⟨_, ?b, fun base kb nb => My.law_fn T kb nb⟩; exact fun s u => .of_eq rfl
  case S => exact fun w H a ns hl hO hS => ..
  case C => exact ..
(the tactic k_is has no namespace: write k_is) -/

/-! SHORT WORDS over the layer: a def of the text, its body, what a loop and a test want. -/
namespace L2
open PySem PySem.Spec PyProof.Rows

/-! ### the text by places -/
def defArgs (s : Stmt) : Arguments := match s with
  | .FunctionDef _ a _ _ _ _ _ _ _ _ => a
  | _ => { posonlyargs := [], args := [], vararg := none, kwonlyargs := [], kw_defaults := [], kwarg := none, defaults := [] }
def defBody (s : Stmt) : List Stmt := match s with
  | .FunctionDef _ _ b _ _ _ _ _ _ _ => b
  | _ => []
def defScope (s : Stmt) : Scope := match s with
  | .FunctionDef _ _ _ _ _ _ sc _ _ _ => sc
  | _ => { kind := .function, names := [], isGenerator := false, isCoroutine := false }

/-! ### no exception leaves a def -/
abbrev CX0 : CXT := fun _ _ _ _ _ _ => False
abbrev E0 : XK := fun _ _ _ => False
theorem pass0 {X : Cx} : Passes CX0 X E0 := fun _ _ _ _ _ _ _ h => h.elim

/-! ### a def (or method) of the text as it stands behind the top -/
structure Fun (K : PySem.W.Frag) (x qual : Str) (st : Stmt) (f : Addr) (fd : FuncData) : Prop where
  ex : ∃ (oc : Value) (od : Option Addr) (kV doc pm : Value) (an : Option Addr) (cdv ct : Value) (osl : Array (Option Value)),
    fd = PySem.W.fnOf x qual (defArgs st) (defBody st) (defScope st) .none kV doc pm an cdv ct ∧ K.lookup f = some ⟨oc, od, .func fd, osl⟩ ∧ PySem.W.codeIn K cdv qual = true
  kp : PySem.W.keepIn K (.ref f) = true
section
variable {P : Program} {w : World} {K : PySem.W.Frag} {mg : Str → Option Value} {base : Heap}
/-- THE RULE for a def: its body as a term of rules, and the reading of that term -/
theorem Fun.ok {x qual : Str} {st : Stmt} {f : Addr} {fd : FuncData} {N ps : List Str} {k : Nat} {sp : Sp} (F : Fun K x qual st f fd) (S : FnScope N ps (defScope st)) (len : ∀ vs H Q E, sp vs H Q E → vs.length = ps.length)
    (hbody : ∀ (cdv : Value) (A : Around) (outer : List Env) (s : Shared) (H : Hp) (vs : List V) (Q : VK) (E : XK), Room k (A.deeper (envOfC qual (defScope st) s.heap.objs.size f cdv)) → sp vs H Q E →
      ∃ t, PSs (cxOf CX0 P w K mg base N qual (defScope st) f cdv A outer s H E).nox (defBody st) t ∧ t { nx := fun _ H' => Q .non H', rt := Q } (start N vs) H) : FnOk P w K mg base CX0 (k + 1) f fd ps sp := by
  obtain ⟨oc, od, kV, doc, pm, an, cdv, ct, osl, rfl, lk, hcd⟩ := F.ex
  refine fn_of lk hcd S len fun A outer s H vs Q E hr hsp => ?_
  obtain ⟨t, h, q⟩ := hbody cdv A outer s H vs Q E hr hsp
  exact ⟨t, h.nox, q⟩
/-- how its arguments bind (no defaults): h is «fun _ _ _ _ _ _ us hl => match us, hl with | [_, _], _ => rfl», one _ a parameter -/
theorem Fun.binds {x qual : Str} {st : Stmt} {f : Addr} {fd : FuncData} {ps : List Str} (F : Fun K x qual st f fd)
    (h : ∀ (kV doc pm : Value) (an : Option Addr) (cdv ct : Value) (us : List Value), us.length = ps.length → bindArgs (PySem.W.fnOf x qual (defArgs st) (defBody st) (defScope st) .none kV doc pm an cdv ct) ⟨us, []⟩ = pure (ps.zip us)) : Binds K fd ps [] := by
  obtain ⟨oc, od, kV, doc, pm, an, cdv, ct, osl, rfl, lk, hcd⟩ := F.ex
  exact .all (h kV doc pm an cdv ct)
theorem fun_mk {x qual : Str} {st : Stmt} {f : Addr} {oc : Value} {od an : Option Addr} {osl : Array (Option Value)} {kV doc pm cdv ct : Value} (l : K.lookup f = some ⟨oc, od, .func (PySem.W.fnOf x qual (defArgs st) (defBody st) (defScope st) .none kV doc pm an cdv ct), osl⟩)
    (c : PySem.W.codeIn K cdv qual = true) (k : PySem.W.keepIn K (.ref f) = true) : Fun K x qual st f (PySem.W.fnOf x qual (defArgs st) (defBody st) (defScope st) .none kV doc pm an cdv ct) := ⟨⟨oc, od, kV, doc, pm, an, cdv, ct, osl, rfl, l, c⟩, k⟩
end
theorem hu_of {A : Around} {k : Nat} (hr : Room k A) : A.units + 1 < cLine := Nat.lt_of_le_of_lt (Nat.add_le_add_left (by decide : 1 ≤ 64) _) hr.units
/-! ### expressions in short: the name that stands in the i-th slot -/
section
variable {X : Cx}
theorem pv (i : Nat) {x : Str} {pos : Pos} (hN : X.N[i]? = some x := by rfl) (hv : Vis X.env.scope x := by first | exact Or.inl rfl | exact Or.inr (Or.inl rfl) | exact Or.inr (Or.inr rfl)) (hd : (x == ("__debug__" : Str)) = false := by decide)
    (hcd : (x == ("__classdict__" : Str)) = false := by decide) : PE X (.Name x pos) (tVar i) := pe_var hN hv hd hcd
end

/-! ### tests -/
theorem iteF {A B : Prop} (h : B) : if false = true then A else B := by
  rw [if_neg Bool.false_ne_true]
  exact h
theorem iteT {A B : Prop} (h : A) : if true = true then A else B := by
  rw [if_pos rfl]
  exact h
theorem ite2 {c A B : Prop} [Decidable c] (h1 : c → A) (h2 : ¬ c → B) : if c then A else B := by
  by_cases h : c
  · rw [if_pos h]
    exact h1 h
  · rw [if_neg h]
    exact h2 h
/-! ### heaps -/
/-- all that was tracked is as it was -/
def Same (H H' : Hp) : Prop := ∀ b o, H b = some o → H' b = some o
theorem Same.refl (H : Hp) : Same H H := fun _ _ h => h
theorem Same.trans {H H1 H2 : Hp} (a : Same H H1) (b : Same H1 H2) : Same H H2 := fun c o h => b c o (a c o h)
theorem Same.free {H H' : Hp} (e : Same H H') {l : Addr} (h : H' l = Option.none) : H l = Option.none := by
  cases q : H l with
  | none => rfl
  | some o =>
    rw [e l o q] at h
    cases h
theorem Same.seq {K : PySem.W.Frag} {H H' : Hp} {a : Addr} {xs : List V} (e : Same H H') (h : SqL K H a xs) : SqL K H' a xs := by
  rcases h with (h | ⟨o, h⟩) | h
  · exact .inl (.inl (e _ _ h))
  · exact .inl (.inr ⟨o, e _ _ h⟩)
  · exact .inr h

end L2

set_option Elab.async false
set_option linter.all false
set_option maxRecDepth 100000
set_option maxHeartbeats 4000000
namespace L2
open PySem PySem.Spec PyProof.Rows
/-! more operations: numbers of up to 200 figures, bit_length, is True, isinstance, == of tuples -/
def Fit (i : Int) : Prop := -(10 ^ 200) < i ∧ i < 10 ^ 200
theorem pow_bits : (10 : Nat) ^ 200 ≤ 2 ^ 700 := by decide +kernel
theorem Fit.nat {i : Int} (h : Fit i) : i.natAbs < 2 ^ 700 := by
  have h1 : i.natAbs < 10 ^ 200 := by
    obtain ⟨a, b⟩ := h
    omega
  exact Nat.lt_of_lt_of_le h1 pow_bits
theorem Fit.bits {i : Int} (h : Fit i) : Builtin.Int.intBits i ≤ 2 ^ 20 :=
  Nat.le_trans (PyProof.Rows.intBits_le h.nat) (by decide)
theorem Fit.log {i : Int} (h : Fit i) : i.natAbs.log2 < 9000 := by
  by_cases z : i.natAbs = 0
  · rw [z]; decide
  · have q := (Nat.log2_lt z).mpr h.nat
    omega
def CM (i j : Int) : Prop := CMul i j ∨ (Fit i ∧ Fit j)
theorem CM.ok {i j : Int} (h : CM i j) : IntMulOk i j := by
  rcases h with h | ⟨h1, h2⟩
  · exact h.ok
  · exact IntMulOk.of_bits h1.bits h2.bits
section
variable {X : Cx}
theorem op_mulB : OpR X (binaryOp .Mult) (rI CM fun i j => .int (i * j)) := opI fun _ _ _ _ _ _ _ hc q => mul_int q hc.ok
/-- // by a divisor above 0 -/
def CD (_ j : Int) : Prop := 0 < j ∧ Fit j
theorem op_fdivP : OpR X (binaryOp .FloorDiv) (rI CD fun i j => .int (i / j)) := opI fun i j _ _ _ _ _ hc q => by
  have h1 : (0 : Int) < j := hc.1
  exact floordiv_int (by omega) (by rw [Int.fdiv_eq_ediv_of_nonneg i (by omega)]; exact q) (.inl (PyProof.noPylong_of_log2 hc.2.log))
def CDN (_ j : Int) : Prop := j ≠ 0 ∧ Fit j
theorem op_fdivM : OpR X (binaryOp .FloorDiv) (rI CDN fun i j => .int (i.fdiv j)) := opI fun i j _ _ _ _ _ hc q =>
  floordiv_int hc.1 q (.inl (PyProof.noPylong_of_log2 hc.2.log))
/-- n.bit_length() -/
theorem mt_bits : MtR X "int.bit_length" (fun x xs H Q => ∃ i, x = .int i ∧ xs = [] ∧ Q (.int (Builtin.Int.intBits i : Nat)) H) := by
  intro pins s σ H x xs v us Q I rx rv h
  obtain ⟨i, rfl, rfl, q⟩ := h
  obtain ⟨t, rfl⟩ := rx
  cases rv
  exact call_gives F.slot_int_bit_length (typeIs_int s i t) F.entry_int_bit_length (F.args_int_bit_length_1 _) (AutoIntG2.int_bit_length_int_0 i t) ⟨.int _, H, I.tok _, ⟨_, rfl⟩, q⟩
/-! ### == of tuples of flat things -/
def eqL : List V → List V → Bool
  | [], [] => true
  | x :: xs, y :: ys => eqV x y && eqL xs ys
  | _, _ => false
def eqAtN (xs ys : List V) (j : Nat) : Bool := match xs[j]?, ys[j]? with
  | some x, some y => eqV x y
  | _, _ => false
theorem eqL_all : ∀ xs ys : List V, ((List.range (min xs.length ys.length)).all (eqAtN xs ys) && xs.length == ys.length) = eqL xs ys
  | [], [] => rfl
  | [], _ :: _ => by simp [eqL]
  | _ :: _, [] => by simp [eqL]
  | x :: xs, y :: ys => by
    have ih := eqL_all xs ys
    have e : min (x :: xs).length (y :: ys).length = min xs.length ys.length + 1 := by simp only [List.length_cons]; omega
    rw [e, List.range_succ_eq_map, List.all_cons, List.all_map]
    have f : (eqAtN (x :: xs) (y :: ys) ∘ Nat.succ) = eqAtN xs ys := by funext j; simp [eqAtN, Function.comp]
    rw [f]
    have g : ((x :: xs).length == (y :: ys).length) = (xs.length == ys.length) := by simp
    rw [g, Bool.and_assoc, ih]
    rfl
theorem eqL_int : ∀ ns ms : List Int, eqL (ns.map V.int) (ms.map V.int) = decide (ns = ms)
  | [], [] => rfl
  | [], _ :: _ => by simp [eqL]
  | _ :: _, [] => by simp [eqL]
  | n :: ns, m :: ms => by
    have ih := eqL_int ns ms
    simp only [List.map_cons, eqL, ih, eqV]
    by_cases h1 : n = m <;> by_cases h2 : ns = ms <;> simp [h1, h2]
theorem eq_items {A : Around} {s : Shared} {xs ys : List V} {us ws : List Value} (r1 : Vals xs us) (r2 : Vals ys ws) (f1 : xs.all flatV = true) (f2 : ys.all flatV = true) :
    ∀ j (h1 : j < us.toArray.size) (h2 : j < ws.toArray.size), SeqAt.EqAt A s us.toArray[j] ws.toArray[j] (eqAtN xs ys j) := by
  intro j h1 h2
  have l1 := r1.length
  have l2 := r2.length
  simp only [List.size_toArray] at h1 h2
  have g1 : xs[j]? = some xs[j] := List.getElem?_eq_getElem (by omega)
  have g2 : ys[j]? = some ys[j] := List.getElem?_eq_getElem (by omega)
  obtain ⟨u, e1, q1⟩ := r1.get g1
  obtain ⟨w, e2, q2⟩ := r2.get g2
  have e1' : us.toArray[j] = u := by
    have := List.getElem?_eq_getElem (l := us) h1
    rw [e1] at this
    simpa using (Option.some.inj this).symm
  have e2' : ws.toArray[j] = w := by
    have := List.getElem?_eq_getElem (l := ws) h2
    rw [e2] at this
    simpa using (Option.some.inj this).symm
  rw [e1', e2']
  have f1' : flatV xs[j] = true := List.all_eq_true.mp f1 _ (List.getElem_mem _)
  have f2' : flatV ys[j] = true := List.all_eq_true.mp f2 _ (List.getElem_mem _)
  have z : eqAtN xs ys j = eqV xs[j] ys[j] := by unfold eqAtN; rw [g1, g2]
  rw [z]
  exact eqAt_V q1 q2 f1' f2'
def rEqT (K : PySem.W.Frag) (neg : Bool) : R2 := fun x y H Q => ∃ a b xs ys, x = .ref a ∧ y = .ref b ∧ SqT K H a xs ∧ SqT K H b ys ∧ xs.all flatV = true ∧ ys.all flatV = true ∧ Q (.bl (if neg then !eqL xs ys else eqL xs ys)) H
theorem op_neT (hu : X.A.units + 1 < cLine) : OpR X (compareOp .NotEq) (rEqT X.K true) := by
  intro pins s σ H x y v u Q I rx ry h
  obtain ⟨a, b, xs, ys, rfl, rfl, ha, hb, f1, f2, q⟩ := h
  cases rx
  cases ry
  obtain ⟨its, r1, p1, _⟩ := I.tuple ha
  obtain ⟨its2, r2, p2, _⟩ := I.tuple hb
  refine SeqAt.RcNeAt.tuples (e := eqAtN xs ys) p1 p2 (by omega) (eq_items r1 r2 f1 f2) _ _ _ _ ⟨.bl _, H, I, rfl, ?_⟩
  rw [List.size_toArray, List.size_toArray, ← r1.length, ← r2.length, eqL_all]
  exact q
end
/-! ### isinstance -/
open PySem.W in
inductive TyX (K : PySem.W.Frag) (H : Hp) : V → Value → Prop where
  | of {x : V} {t : Value} (h : TyOf K H x t) : TyX K H x t
  | tup {a : Addr} {xs : List V} (h : SqT K H a xs) : TyX K H (.ref a) (.type "tuple")
  | lst {a : Addr} {xs : List V} (h : SqL K H a xs) : TyX K H (.ref a) (.type "list")
/-- the class that the second argument names -/
inductive ClsV : V → Value → Prop where
  | ty (T : String) : ClsV (.ty T) (.type T)
  | own (C : Addr) : ClsV (.ref C) (.ref C)
section
variable {X : Cx}
theorem call_isi : CallR X (.builtin "isinstance") (fun xs H Q => ∃ x c t cv b, xs = [x, c] ∧ ClsV c cv ∧ TyX X.K H x t ∧ PySem.W.kitOne X.K t cv = some b ∧ Q (.bl b) H) := by
  intro pins s σ H xs us Q I r h
  obtain ⟨x, c, t, cv, b, rfl, hc, ht, e, q⟩ := h
  obtain ⟨u, w', rfl, r1, r2⟩ := vals2 r
  have ec : w' = cv := by
    cases hc with
    | ty T => exact r2
    | own C => exact r2
  subst ec
  have fin : ∀ tk, EP X pins σ Q (.bool b) { s with toks := tk } := fun tk => ⟨.bl b, H, I.tok _, rfl, q⟩
  cases ht with
  | of h => exact isinst_ok I r1 h e fin
  | @tup a ys h =>
    cases r1
    obtain ⟨its, _, p, _⟩ := I.tuple h
    obtain ⟨o, h1, h2, _⟩ := p
    exact PySem.W.kia_one PySem.W.kitx_tuple I.kIn ⟨o, h1, h2⟩ e (fun z => nomatch z) fin
  | @lst a ys h =>
    cases r1
    obtain ⟨its, _, p, _⟩ := I.list h
    obtain ⟨o, h1, h2, _⟩ := p.isList
    exact PySem.W.kia_one PySem.W.kitx_list I.kIn ⟨o, h1, h2⟩ e (fun z => nomatch z) fin
end
end L2

set_option Elab.async false
set_option linter.all false
set_option maxRecDepth 100000
set_option maxHeartbeats 4000000
namespace L2
open PySem PySem.Spec PyProof.Rows
/-! an exception of the text's own class: raised, passing a def, taken by name -/
theorem ObjOk.is {P : Program} {w : World} {H : Hp} {h : Heap} {a : Addr} {o : HO} (x : ObjOk P w H h a o) : ∃ ob, h.get? a = some ob := by
  cases o with
  | lst xs => obtain ⟨_, _, _, _, e⟩ := x; exact ⟨_, e⟩
  | tup xs => obtain ⟨_, _, _, ob, e, _⟩ := x; exact ⟨ob, e⟩
  | dK kvs => obtain ⟨_, _, _, _, ob, _, _, e, _⟩ := x; exact ⟨ob, e⟩
  | dT kvs => obtain ⟨_, _, _, _, ob, _, _, e, _⟩ := x; exact ⟨ob, e⟩
  | set S n => obtain ⟨ob, _, _, _, e, _⟩ := x; exact ⟨ob, e⟩
  | ins C dx fs => obtain ⟨_, _, _, e, _⟩ := x; exact ⟨_, e⟩
  | own y => exact x
  | xd fs => obtain ⟨_, ⟨ob, _, _, e, _⟩, _⟩ := x; exact ⟨ob, e⟩
  | rng lo hi => obtain ⟨_, _, _, e⟩ := x; exact ⟨_, e⟩
  | frz ob u => exact ⟨ob, x.1⟩
  | tbl ps => exact ⟨_, (show h.get? a = some _ from x)⟩
  | met f y => exact ⟨_, (show h.get? a = some _ from x)⟩
  | ext φ => exact x.2.1
def CXE (P : Program) (w : World) : CXT := fun outer H s E e s' =>
  ∃ (a : Addr) (cls a0 : Value) (B : Heap) (H' : Hp), e = .ref a ∧ s'.os = s.os ∧ AllBare s'.gens ∧ Heap.FlyingW B outer a cls a0 s'.heap ∧
    Un (frs outer) [] H H' s.heap s'.heap ∧ HOk P w H' s'.heap ∧ (∀ b o, s.heap.get? b = some o → b ∉ frs outer → ∃ o', B.get? b = some o') ∧
    (∀ b u o, H' b = some u → s'.heap.get? b = some o → B.get? b = some o) ∧ E cls none H'
/-- what a def's context does with an exception that was made in it -/
def RaisesTo (X : Cx) (E : XK) : Prop := ∀ (pins : List (Addr × Obj)) (σ : St) (H : Hp) (s : Shared) (a : Addr) (cls : Value) (args : List Value) (h' : Heap),
  Inv X pins σ H s → Heap.MadeExcOf s.heap h' a cls args → E cls none H → X.xe (.ref a) { s with heap := h' }
section
variable {P : Program} {w : World} {K : PySem.W.Frag} {mg : Str → Option Value} {base : Heap} {N : List Str} {qual : Str} {scope : Scope} {f : Addr} {cd : Value} {A : Around} {outer : List Env} {s : Shared} {H : Hp} {E : XK}
theorem frs_cons {env : Env} {L : Addr} {l : List Env} (hf : env.frame = some L) : frs (env :: l) = L :: frs l := by
  unfold frs
  rw [List.filterMap_cons, hf]
theorem raises_cx : RaisesTo (cxOf (CXE P w) P w K mg base N qual scope f cd A outer s H E) E := by
  intro pins σ H1 s1 a cls args h' I hm hE
  have I' := I
  let env := envOfC qual scope s.heap.objs.size f cd
  have hL : env.frame = some s.heap.objs.size := rfl
  have fe : frs (env :: outer) = s.heap.objs.size :: frs outer := frs_cons hL
  have hst : s1.heap.FunFrames base (env :: outer) := I.stack
  have hin : ∀ e ∈ (env :: outer), ∀ b, e.frame = some b → b ∈ frs (env :: outer) := fun e he b hb => List.mem_filterMap.mpr ⟨e, he, hb⟩
  have inB : ∀ b o, s1.heap.get? b = some o → b ∉ frs (env :: outer) → (PySem.W.hideAll s1.heap (frs (env :: outer))).get? b = some o := fun b o e n => PySem.W.hideAll_get _ e n
  have old : ∀ b o, s.heap.get? b = some o → b ∉ frs outer → b ∉ frs (env :: outer) := fun b o e n => by
    rw [fe]
    intro z
    rcases List.mem_cons.mp z with z | z
    · rw [z] at e
      exact absurd (Heap.lt_size e) (Nat.lt_irrefl _)
    · exact n z
  have trk : ∀ b u, H1 b = some u → b ∉ frs (env :: outer) := fun b u e z => by
    have := I.stkFree b z
    rw [e] at this
    cases this
  show wpAny (model P w) (A.deeper env) (leaving env (.ref a)) _ _ _
  refine wpAny_leaves_madeW (h := s1.heap) (base := PySem.W.hideAll s1.heap (frs (env :: outer))) I.ok.frames hL (fun b o q => PySem.W.of_hideAll _ q) (PySem.W.funFrames_hide hst hin) hm fun h2 t fl _ _ up => ?_
  have st := fl.1
  refine ⟨a, cls, .ref t, _, H1, rfl, I.os, I.bare, fl, ⟨fun b o e n hb _ => ?_, fun b o e n hb _ => ?_, fun b o e n _ => I.base.free b o e n List.not_mem_nil, fun b o e _ => ?_, I.base.tups, I.base.frzs, I.base.tbls⟩, fun b u e => ?_, fun b o e hb => ?_, fun b u o e q => ?_, hE⟩
  · exact st b o (inB b o (I.base.keep b o e n hb List.not_mem_nil) (old b o e hb))
  · obtain ⟨sl, e1⟩ := I.base.slot b o e n hb List.not_mem_nil
    obtain ⟨_, o2, e2, nf⟩ := hst.mem (show b ∈ (env :: outer).filterMap (·.frame) by show b ∈ frs (env :: outer); rw [fe]; exact List.mem_cons_of_mem _ hb)
    rw [e1] at e2
    cases e2
    obtain ⟨sl2, e3⟩ := up b _ (hm.keeps _ _ e1) nf
    exact ⟨sl2, e3⟩
  · obtain ⟨o1, e1⟩ := I.base.there b o e List.not_mem_nil
    by_cases hb : b ∈ frs (env :: outer)
    · obtain ⟨_, o2, e2, nf⟩ := hst.mem (show b ∈ (env :: outer).filterMap (·.frame) from hb)
      obtain ⟨sl, e3⟩ := up b _ (hm.keeps _ _ e2) nf
      exact ⟨_, e3⟩
    · exact ⟨o1, st b o1 (inB b o1 e1 hb)⟩
  · refine (I.hok b u e).stay (fun c v hc q => ?_) (fun _ q => q) fun _ _ q => q
    refine st c v (inB c v q ?_)
    rcases hc with rfl | hc
    · exact trk c u e
    · exact trk c _ hc
  · obtain ⟨o1, e1⟩ := I.base.there b o e List.not_mem_nil
    exact ⟨o1, inB b o1 e1 (old b o e hb)⟩
  · obtain ⟨o1, e1⟩ := (I.hok b u e).is
    have e2 := inB b o1 e1 (trk b u e)
    have e3 := st b o1 e2
    rw [q] at e3
    cases e3
    exact e2
/-- an exception of a callee goes on out of the def -/
theorem passes_cx : Passes (CXE P w) (cxOf (CXE P w) P w K mg base N qual scope f cd A outer s H E) E := by
  intro pins σ H1 s1 e s2 I hc
  obtain ⟨a, cls, a0, B, H2, rfl, ho, hb, fl, un, hok, inB, trB, hE⟩ := hc
  let env := envOfC qual scope s.heap.objs.size f cd
  have hL : env.frame = some s.heap.objs.size := rfl
  have fe : frs (env :: outer) = s.heap.objs.size :: frs outer := frs_cons hL
  have hst : s1.heap.FunFrames base (env :: outer) := I.stack
  have old : ∀ b o, s.heap.get? b = some o → b ∉ frs outer → b ∉ frs (env :: outer) := fun b o e n => by
    rw [fe]
    intro z
    rcases List.mem_cons.mp z with z | z
    · rw [z] at e
      exact absurd (Heap.lt_size e) (Nat.lt_irrefl _)
    · exact n z
  have frUp : ∀ b o, b ∈ frs (env :: outer) → s1.heap.get? b = some o → ∃ sl, s2.heap.get? b = some { o with slots := sl } ∧ ∀ vs, o.data ≠ .fields vs := fun b o z e1 => by
    obtain ⟨_, o2, e2, nf⟩ := hst.mem (show b ∈ (env :: outer).filterMap (·.frame) from z)
    rw [e1] at e2
    cases e2
    obtain ⟨sl, e3⟩ := un.slot b o e1 (I.stkFree b z) z List.not_mem_nil
    exact ⟨sl, e3, nf⟩
  show wpAny (model P w) (A.deeper env) (leaving env (.ref a)) _ _ _
  refine wpAny_leaves_onW I.ok.frames hL fl fun h3 fl3 up => ?_
  have st := fl3.1
  have exB : ∀ b o, s1.heap.get? b = some o → H1 b = none → b ∉ frs (env :: outer) → B.get? b = some o := fun b o e n hb => by
    obtain ⟨o1, e1⟩ := inB b o e hb
    have e2 := fl.1 b o1 e1
    have e3 : s2.heap.get? b = some o := un.keep b o e n hb List.not_mem_nil
    rw [e2] at e3
    cases e3
    exact e1
  refine ⟨a, cls, a0, B, H2, rfl, ho.trans I.os, hb, fl3, ⟨fun b o e n hb _ => ?_, fun b o e n hb _ => ?_, fun b o e n _ => ?_, fun b o e _ => ?_, fun b xs q => un.tups b xs (I.base.tups b xs q), fun b ob xs q => un.frzs b ob xs (I.base.frzs b ob xs q), fun b ps q => ?_⟩, fun b u e => ?_, fun b o e hb => ?_, fun b u o e q => ?_, hE⟩
  · have e1 := I.base.keep b o e n hb List.not_mem_nil
    exact st b o (exB b o e1 (I.base.free b o e n List.not_mem_nil) (old b o e hb))
  · obtain ⟨sl, e1⟩ := I.base.slot b o e n hb List.not_mem_nil
    obtain ⟨sl2, e2, nf⟩ := frUp b _ (by rw [fe]; exact List.mem_cons_of_mem _ hb) e1
    obtain ⟨sl3, e3⟩ := up b _ e2 nf
    exact ⟨sl3, e3⟩
  · obtain ⟨o1, e1⟩ := I.base.there b o e List.not_mem_nil
    exact un.free b o1 e1 (I.base.free b o e n List.not_mem_nil) List.not_mem_nil
  · obtain ⟨o1, e1⟩ := I.base.there b o e List.not_mem_nil
    by_cases hb : b ∈ frs (env :: outer)
    · obtain ⟨sl2, e2, nf⟩ := frUp b o1 hb e1
      obtain ⟨sl3, e3⟩ := up b _ e2 nf
      exact ⟨_, e3⟩
    · obtain ⟨o2, e2⟩ := inB b o1 e1 hb
      exact ⟨o2, st b o2 e2⟩
  · obtain ⟨m1, e1⟩ := I.base.tbls b ps q
    obtain ⟨m2, e2⟩ := un.tbls b _ e1
    exact ⟨m1 ++ m2, by rw [e2, Array.append_assoc]⟩
  · refine (hok b u e).stay (fun c v hc q => ?_) (fun _ q => q) fun _ _ q => q
    refine st c v ?_
    rcases hc with rfl | hc
    · exact trB c u v e q
    · exact trB c _ v hc q
  · obtain ⟨o1, e1⟩ := I.base.there b o e List.not_mem_nil
    exact inB b o1 e1 (old b o e hb)
  · obtain ⟨o1, e1⟩ := (hok b u e).is
    have e2 := trB b u o1 e e1
    have e3 := st b o1 e2
    rw [q] at e3
    cases e3
    exact e2
end
/-! ### raise C("..") -/
theorem own_obj {K : PySem.W.Frag} {h : Heap} {C : Addr} {bmB : List Value} {newId : String} (X : K.In h) (q : PySem.W.excIn K C bmB newId = true) :
    ∃ bm N nm qn bs hdct sn sub ab col dd k0 k1 k2 k3 k5 mN, h.get? C = some (excClassObj nm qn C N bs bm hdct sn sub ab col dd k0 k1 k2 k3 k5 newId) ∧ h.Ns N mN ∧ mN "__init__" = none ∧ OwnTail h bmB bm := by
  unfold PySem.W.excIn at q
  split at q
  · rename_i dd cd sl ho
    split at q
    · rename_i C' bm k0 k1 k2 k3 n k5 hm hs
      simp only [Bool.and_eq_true, beq_iff_eq, Bool.not_eq_true'] at q
      obtain ⟨⟨⟨⟨⟨z1, z2⟩, hdel⟩, ht⟩, hok⟩, hni⟩ := q
      subst z1
      subst z2
      obtain ⟨nm, bs, mro, ns, qn, hd, sn, sub, ab, col, del⟩ := cd
      dsimp only at hm hdel hok hni
      subst hm
      subst hdel
      have hsl : sl = #[k0, k1, k2, k3, some (.builtin n), k5] := by
        obtain ⟨l⟩ := sl
        simp only at hs
        rw [hs]
      subst hsl
      exact ⟨bm, ns, nm, qn, bs, hd, sn, sub, ab, col, dd, k0, k1, k2, k3, k5, _, X _ _ ho, .of_isNs (PySem.W.isNs_of_in X hok), PySem.W.nsMap_none_of_in X hok hni, PySem.W.tail_of_in X ht⟩
    · cases q
  · cases q
section
variable {X : Cx} {x : Str} {C : Addr} {np cpos pos : Pos} {e0 : Expr} {es : List Expr} {t : TA} {bmB : List Value} {B newId initId : String} {E : XK}
def tRaise (C : Addr) (E : XK) (t : TA) : TS := fun _ σ H => t σ H fun vs H1 => vs.length ≤ sizeLine ∧ E (.ref C) none H1
theorem ps_raise (hx : RaisesTo X E) (hcalm : X.calm = true) (FB : ExcBaseFacts B newId initId bmB) (hg : Gl X x) (hm : X.mg x = some (.ref C)) (hex : PySem.W.excIn X.K C bmB newId = true) (ha : PA X (e0 :: es) t)
    (hdb : (x == ("__debug__" : Str)) = false := by decide) (he : starEach (e0 :: es) X.env = (false, eval e0 X.env) :: starEach es X.env := by rfl) (hpl : (backTo cpos (starEach es X.env)).any (·.1) = false := by rfl) :
    PS X (.Raise (some (.Call (.Name x np) (e0 :: es) [] cpos)) none pos) (tRaise C E t) := by
  intro pins s σ H D I h
  obtain ⟨bm, N, nm, qn, bs, hdct, sn, sub, ab, col, dd, k0, k1, k2, k3, k5, mN, hC, hN, hni, T⟩ := own_obj I.mod.kin hex
  refine wpAny_Raise_call_subT (C := C) (nm := nm) (q := qn) (N := N) (bs := bs) (bm := bm) (hdct := hdct) (sn := sn) (sub := sub) (ab := ab) (col := col) (dd := dd) (k0 := k0) (k1 := k1) (k2 := k2) (k3 := k3) (k5 := k5)
    FB (mN := mN) (T.hasType FB.hasBase) (I.ok.hd hcalm) (by rw [he]; show (false || (backTo cpos (starEach es X.env)).any (·.1)) = false; rw [hpl]; rfl) hni (ld_glob I hg hm ⟨rfl, ?_⟩ hdb)
  have hA := ha cpos pins s σ H _ I h
  rw [he] at hA ⊢
  refine Calls.evalArgs_plain (thn hA fun us s2 ⟨vs, H2, I2, r2, z, q2⟩ => ?_)
  exact ⟨rfl, by rw [← r2.length]; exact z, I2.bk _ _ hC, hN.keeps I2.bk, T.keeps I2.bk, fun h' a hm' => hx pins σ H2 s2 a _ _ h' I2 hm' q2⟩
end
end L2

set_option Elab.async false
set_option linter.all false
set_option maxRecDepth 100000
set_option maxHeartbeats 4000000
namespace L2
open PySem PySem.Spec PyProof.Rows
/-! ### try .. except C as e -/
def tCallS (sp : Sp) (dvs : List V) (E : St → XK) (t : TA) : TE := fun σ H Q => t σ H fun vs H1 => sp (vs ++ dvs) H1 Q (E σ)
section
variable {X : Cx} {CX : CXT} {k : Nat} {f C : Addr} {fd : FuncData} {ps : List Str} {sp : Sp} {dvs : List V} {ds : List Value} {E : St → XK} {x m : Str} {p pos apos : Pos} {e o : Expr} {es : List Expr} {ta : TE} {t : TA}
end
abbrev Cx.hnd (X : Cx) (a : Addr) : Cx := { X with A := X.A.mark (some (.ref a)), calm := false, xe := fun _ _ => False }
abbrev Cx.trying (X : Cx) (pn : List (Addr × Obj)) (xe : Value → Shared → Prop) : Cx := { X with pn := pn, xe := xe }
section
variable {X : Cx} {pins : List (Addr × Obj)} {σ : St} {H : Hp} {s : Shared}
theorem Cx.Ok.hnd (ok : X.Ok) (a : Addr) : (X.hnd a).Ok :=
  ⟨ok.mod, ok.kind, ok.glob, ok.blt, ok.above, ok.inj, ok.has, ok.cab, (fun z => by cases z), ok.frames, ok.stk, ok.exf, ok.bs, ok.bsz, ok.noex, ok.exfs, ok.funs, ok.frf⟩
theorem Inv.hnd (I : Inv X pins σ H s) (a : Addr) : Inv (X.hnd a) pins σ H s := ⟨I.ok.hnd a, I.os, I.bare, I.base, I.loc, I.cell, I.free, I.freeC, I.pin, I.hok, I.len⟩
theorem Cx.Ok.trying (ok : X.Ok) (pn : List (Addr × Obj)) (xe : Value → Shared → Prop) : (X.trying pn xe).Ok :=
  ⟨ok.mod, ok.kind, ok.glob, ok.blt, ok.above, ok.inj, ok.has, ok.cab, ok.hd, ok.frames, ok.stk, ok.exf, ok.bs, ok.bsz, ok.noex, ok.exfs, ok.funs, ok.frf⟩
theorem Inv.trying (I : Inv X pins σ H s) (xe : Value → Shared → Prop) : Inv (X.trying (X.pn ++ pins) xe) [] σ H s :=
  ⟨I.ok.trying _ _, I.os, I.bare, I.base, I.loc, I.cell, I.free, I.freeC, fun p hp => I.pin p (by simpa using hp), I.hok, I.len⟩
end
section
variable {X : Cx}
end
end L2

set_option Elab.async false
set_option linter.all false
set_option maxRecDepth 100000
set_option maxHeartbeats 4000000
namespace L2
open PySem PySem.Spec PyProof.Rows
/-! ### [e for x in src] -/
section
variable {prog : Program} {w : World} {A : Around} {R : Result → Shared → Prop} {s : Shared}
end
/-- W: by the turn, a measure, what has been made, the heap -/
def CompW (J : It) (js : List Nat) (te : TE) (σ : St) (H : Hp) (Q : VK) : Prop := ∃ W : Nat → Nat → List V → Hp → Prop, (∃ m, W 0 m [] H) ∧ ∀ i m ys H2, W i m ys H2 →
  (J.stop i H2 ∧ ∀ d, H2 d = none → Q (.ref d) (upd H2 d (.lst ys))) ∨
  (J.go i H2 ∧ ys.length < sizeLine ∧ ∀ x H3, J.yld i H2 x H3 → te (some x :: js.map fun j => σ.getD j none) H3 fun y H4 => ∃ m', m' < m ∧ W (i + 1) m' (ys ++ [y]) H4)
def tComp (wi : TI) (js : List Nat) (te : TE) : TE := fun σ H Q => wi σ H fun J H1 => CompW J js te σ H1 Q
section
variable {X : Cx}
/-- the closure's cells are the frame's -/
structure Clos (X : Cx) (scope : Scope) (cl : List (Str × Addr)) (fr : List Str) (js : List Nat) : Prop where
  clos : closureFor scope X.env = pure cl
  sub : ∀ y c, cl.lookup y = some c → X.env.cells.lookup y = some c
  has : ∀ y, scope.names.lookup y = some .free → ∃ c, cl.lookup y = some c
  at' : ∀ (j : Nat) (y : Str), fr[j]? = some y → ∃ i : Nat, js[j]? = some i ∧ X.N[i]? = some y ∧ X.env.scope.names.lookup y = some .cell ∧ scope.names.lookup y = some .free
  len : fr.length = js.length
theorem Clos.none {scope : Scope} (hfree : ∀ y ∈ scope.names, y.2 ≠ .free) : Clos X scope [] [] [] where
  clos := closureFor_none hfree
  sub := fun _ _ e => by simp at e
  has := fun y e => absurd rfl (hfree _ (PySem.mem_of_lookup e))
  at' := fun j y e => by simp at e
  len := rfl
/-! ### all(xs), any(xs): a list or tuple of truths -/
end
end L2

set_option Elab.async false
set_option linter.all false
set_option maxRecDepth 100000
set_option maxHeartbeats 4000000
namespace L2
open PySem PySem.Spec PyProof.Rows
/-! ### defs by their names -/
def In (K : PySem.W.Frag) (mg : Str → Option Value) (x : Str) (st : Stmt) (ps : List Str) : Prop := ∃ f fd, mg x = some (.ref f) ∧ Fun K x x st f fd ∧ Binds K fd ps []
structure Def (P : Program) (w : World) (K : PySem.W.Frag) (mg : Str → Option Value) (base : Heap) (CX : CXT) (k : Nat) (x : Str) (ps : List Str) (sp : Sp) : Prop where
  ex : ∃ f fd, mg x = some (.ref f) ∧ PySem.W.keepIn K (.ref f) = true ∧ Binds K fd ps [] ∧ FnOk P w K mg base CX k f fd ps sp
section
variable {X : Cx} {CX : CXT} {j k : Nat} {x : Str} {ps : List Str} {sp : Sp} {E : XK} {p pos : Pos} {e : Expr} {es : List Expr} {t : TA}
theorem pe_callD (D : Def X.prog X.w X.K X.mg X.base CX j x ps sp) (hr : Room k X.A) (hg : Gl X x) (hx : Passes CX X E) (ha : PA X (e :: es) t) (hj : j ≤ k := by decide)
    (hdb : (x == ("__debug__" : Str)) = false := by decide) (he : starEach (e :: es) X.env = (false, eval e X.env) :: starEach es X.env := by rfl) (hpl : (backTo pos (starEach es X.env)).any (·.1) = false := by rfl) :
    PE X (.Call (.Name x p) (e :: es) [] pos) (tCall sp [] E t) := by
  obtain ⟨f, fd, hm, hk, hb, F⟩ := D.ex
  exact pe_call F (hr.mono hj) hg hm hk hb .nil hx ha hdb he hpl
end
section
variable {P : Program} {w : World} {K : PySem.W.Frag} {mg : Str → Option Value} {base : Heap} {k : Nat} {x : Str} {st : Stmt} {ps N : List Str} {sp : Sp}
/-- a def that lets no exception out -/
theorem In.ok0 (F : In K mg x st ps) (S : FnScope N ps (defScope st)) (len : ∀ vs H Q E, sp vs H Q E → vs.length = ps.length)
    (hbody : ∀ (f : Addr) (cdv : Value) (A : Around) (outer : List Env) (s : Shared) (H : Hp) (vs : List V) (Q : VK) (E : XK), Room k (A.deeper (envOfC x (defScope st) s.heap.objs.size f cdv)) → sp vs H Q E →
      ∃ t, PSs (cxOf CX0 P w K mg base N x (defScope st) f cdv A outer s H E).nox (defBody st) t ∧ t { nx := fun _ H' => Q .non H', rt := Q } (start N vs) H) : Def P w K mg base CX0 (k + 1) x ps sp := by
  obtain ⟨f, fd, hm, FF, hb⟩ := F
  exact ⟨f, fd, hm, FF.kp, hb, FF.ok S len fun cdv A outer s H vs Q E hr h => hbody f cdv A outer s H vs Q E hr h⟩
/-- one that may -/
theorem In.okX (F : In K mg x st ps) (S : FnScope N ps (defScope st)) (len : ∀ vs H Q E, sp vs H Q E → vs.length = ps.length)
    (hbody : ∀ (f : Addr) (cdv : Value) (A : Around) (outer : List Env) (s : Shared) (H : Hp) (vs : List V) (Q : VK) (E : XK), Room k (A.deeper (envOfC x (defScope st) s.heap.objs.size f cdv)) → sp vs H Q E →
      ∃ t, PSs (cxOf (CXE P w) P w K mg base N x (defScope st) f cdv A outer s H E) (defBody st) t ∧ t { nx := fun _ H' => Q .non H', rt := Q } (start N vs) H) : Def P w K mg base (CXE P w) (k + 1) x ps sp := by
  obtain ⟨f, fd, hm, FF, hb⟩ := F
  obtain ⟨oc, od, kV, doc, pm, an, cdv, ct, osl, rfl, lk, hcd⟩ := FF.ex
  exact ⟨f, _, hm, FF.kp, hb, fn_of lk hcd S len fun A outer s H vs Q E hr hsp => hbody f cdv A outer s H vs Q E hr hsp⟩
end
theorem passE {X : Cx} {P : Program} {w : World} : Passes (CXE P w) X E0 := fun _ _ _ _ _ _ _ h => by
  obtain ⟨_, _, _, _, _, _, _, _, _, _, _, _, _, z⟩ := h
  exact z.elim
/-! ### new things, the heap not told: all that was tracked is as it was -/
theorem same_new {H : Hp} {p : Addr} (h : H p = none) (o : HO) : Same H (upd H p o) := fun b u q => by rw [upd_ne (ne_of_none q h)]; exact q
theorem Same.seqT {K : PySem.W.Frag} {H H' : Hp} {a : Addr} {xs : List V} (e : Same H H') (h : SqT K H a xs) : SqT K H' a xs := by
  rcases h with (h | ⟨o, h⟩) | h
  · exact .inl (.inl (e _ _ h))
  · exact .inl (.inr ⟨o, e _ _ h⟩)
  · exact .inr h
def newQ (H : Hp) (o : HO) (Q : VK) : Prop := ∀ p H', H p = none → Same H H' → H' p = some o → Q (.ref p) H'
theorem newQ.at {H : Hp} {o : HO} {Q : VK} (h : newQ H o Q) : ∀ p, H p = none → Q (.ref p) (upd H p o) := fun p hp => h p _ hp (same_new hp o) upd_same
theorem OpR.imp {X : Cx} {f : Value → Value → Sem Value} {r r' : R2} (h : OpR X f r) (i : ∀ x y H Q, r' x y H Q → r x y H Q) : OpR X f r' := fun pins s σ H x y v u Q I rx ry q => h pins s σ H x y v u Q I rx ry (i _ _ _ _ q)
theorem CallR.imp {X : Cx} {f : Value} {r r' : List V → Hp → VK → Prop} (h : CallR X f r) (i : ∀ xs H Q, r' xs H Q → r xs H Q) : CallR X f r' := fun pins s σ H xs us Q I rs q => h pins s σ H xs us Q I rs (i _ _ _ q)
theorem SlR.imp {X : Cx} {r r' : V → Option Int → Option Int → Hp → VK → Prop} (h : SlR X r) (i : ∀ x a b H Q, r' x a b H Q → r x a b H Q) : SlR X r' := fun pins s σ H x v vl vu lo hi sl Q I rx hs pl pu q => h pins s σ H x v vl vu lo hi sl Q I rx hs pl pu (i _ _ _ _ _ q)
section
variable {X : Cx} {es : List Expr} {t : TA} {pos : Pos}
def tTupS (t : TA) : TE := fun σ H Q => t σ H fun xs H1 => xs.length ≤ sizeLine ∧ newQ H1 (.tup xs) Q
def tLstS (t : TA) : TE := fun σ H Q => t σ H fun xs H1 => xs.length ≤ sizeLine ∧ newQ H1 (.lst xs) Q
theorem pe_tupS {x1} (h : PA X es t) : PE X (.Tuple es x1 pos) (tTupS t) := by
  intro pins s σ H Q I hq
  refine wpAny_Tuple_spliced (thn (h pos pins s σ H _ I hq) fun us s1 ⟨xs, H1, I1, r, z, q⟩ => ⟨by rw [← r.length]; exact z, ?_⟩)
  have hf : H1 s1.heap.objs.size = none := I1.hok.fresh (Nat.le_refl _)
  refine ⟨.ref s1.heap.objs.size, upd H1 s1.heap.objs.size (.tup xs), I1.laid (t' := s1.toks) (fun b u e => Heap.get?_push_of_some _ e) (Nat.le_refl _) ?_, rfl, q.at _ hf⟩
  exact ⟨z, us, r, ⟨_, Heap.get?_push_size _ rfl, rfl, _, rfl⟩⟩
theorem pe_lstS (h : PA X es t) : PE X (.List es pos) (tLstS t) := by
  intro pins s σ H Q I hq
  refine wpAny_List_spliced (thn (h pos pins s σ H _ I hq) fun us s1 ⟨xs, H1, I1, r, z, q⟩ => ⟨by rw [← r.length]; exact z, ?_⟩)
  have hf : H1 s1.heap.objs.size = none := I1.hok.fresh (Nat.le_refl _)
  refine ⟨.ref s1.heap.objs.size, upd H1 s1.heap.objs.size (.lst xs), I1.laid (t' := s1.toks) (fun b u e => Heap.get?_push_of_some _ e) (Nat.le_refl _) ?_, rfl, q.at _ hf⟩
  exact ⟨z, us, 0, r, Heap.get?_push_size _ rfl⟩
def rCatTS (K : PySem.W.Frag) : R2 := fun x y H Q => ∃ a b xs ys, x = .ref a ∧ y = .ref b ∧ SqT K H a xs ∧ SqT K H b ys ∧ xs ≠ [] ∧ xs.length + ys.length ≤ sizeLine ∧ ∀ p H', Same H H' → SqT K H' p (xs ++ ys) → Q (.ref p) H'
def rCatS : R2 := fun x y H Q => ∃ l b xs zs, x = .ref l ∧ y = .ref b ∧ H l = some (.lst xs) ∧ H b = some (.lst zs) ∧ xs.length + zs.length ≤ sizeLine ∧ newQ H (.lst (xs ++ zs)) Q
theorem call_tupleS : CallR X (.type "tuple") (fun xs H Q => ∃ p ys, xs = [.ref p] ∧ (SqL X.K H p ys ∨ SqT X.K H p ys) ∧ ∀ l H', Same H H' → SqT X.K H' l ys → Q (.ref l) H') := call_tuple_of.imp fun xs H Q ⟨p, ys, e, h, q⟩ =>
  ⟨p, ys, e, h.elim (fun h => .inl ⟨h, fun l hl => q l _ (same_new hl _) (SqT.of upd_same)⟩) fun h => .inr ⟨h, q p H (Same.refl H) h⟩⟩
end
/-- all but the one at l is as it was -/
def SameX (l : Addr) (H H' : Hp) : Prop := ∀ b o, b ≠ l → H b = some o → H' b = some o
theorem upd_sameX {H : Hp} {l : Addr} {o : HO} : SameX l H (upd H l o) := fun b u hb q => by rw [upd_ne hb]; exact q
theorem SameX.seq {K : PySem.W.Frag} {H H' : Hp} {l a : Addr} {xs : List V} (e : SameX l H H') (n : a ≠ l) (h : SqL K H a xs) : SqL K H' a xs := by
  rcases h with (h | ⟨o, h⟩) | h
  · exact .inl (.inl (e _ _ n h))
  · exact .inl (.inr ⟨o, e _ _ n h⟩)
  · exact .inr h
theorem SameX.seqT {K : PySem.W.Frag} {H H' : Hp} {l a : Addr} {xs ys : List V} (e : SameX l H H') (hl : H l = some (.lst ys)) (h : SqT K H a xs) : SqT K H' a xs := by
  rcases h with (h | ⟨o, h⟩) | h
  · exact .inl (.inl (e _ _ (fun z => by rw [z, hl] at h; cases h) h))
  · exact .inl (.inr ⟨o, e _ _ (fun z => by rw [z, hl] at h; cases h) h⟩)
  · exact .inr h
/-- what was there ahead of l is as it was -/
theorem Same.thenX {H H1 H2 : Hp} {l : Addr} (s : Same H H1) (n : H l = none) (e : SameX l H1 H2) : Same H H2 := fun b o q => e b o (ne_of_none q n) (s b o q)
def rAppendS : V → List V → Hp → VK → Prop := fun x vs H Q => ∃ l xs y, x = .ref l ∧ vs = [y] ∧ H l = some (.lst xs) ∧ xs.length < sizeLine ∧ ∀ H', SameX l H H' → H' l = some (.lst (xs ++ [y])) → Q .non H'
theorem mt_appendS {X : Cx} : MtM X "list.append" rAppendS := fun pins s σ H x vs v us Q I rx rv h => by
  obtain ⟨l, xs, y, e1, e2, e3, z, q⟩ := h
  exact mt_append pins s σ H x vs v us Q I rx rv ⟨l, xs, y, e1, e2, e3, z, q _ upd_sameX upd_same⟩
/-! ### a comprehension whose element is a function of the item -/
section
variable {K : PySem.W.Frag} {a : Addr} {xs : List V} {js : List Nat} {te : TE} {σ : St} {H : Hp} {Q : VK}
end
/-! ### a block cut behind a statement: M is what holds there -/
def tCut (M : St → Hp → Prop) (t u : TS) : TS := fun D σ H => t { D with nx := M } σ H ∧ ∀ σ' H', M σ' H' → u D σ' H'
theorem pss_cut {X : Cx} {st : Stmt} {rest : List Stmt} {t u : TS} (M : St → Hp → Prop) (h1 : PS X st t) (h2 : PSs X rest u) : PSs X (st :: rest) (tCut M t u) := by
  intro pins s σ H D I h
  refine wpAny_execs_cons (thn (h1 pins s σ H { D with nx := M } I h.1) fun f s1 q => ?_)
  cases f with
  | next =>
    obtain ⟨σ', H', I', q⟩ := q
    exact h2 pins s1 σ' H' D I' (h.2 σ' H' q)
  | ret v => exact q
  | brk => exact q
  | cont => exact q
/-! ### readings by simp -/
theorem cxOf_K {CX : CXT} {P : Program} {w : World} {K : PySem.W.Frag} {mg : Str → Option Value} {base : Heap} {N : List Str} {qual : Str} {scope : Scope} {f : Addr} {cd : Value} {A : Around} {outer : List Env} {s : Shared} {H : Hp} {E : XK} :
    (cxOf CX P w K mg base N qual scope f cd A outer s H E).K = K := rfl
end L2

set_option Elab.async false
set_option linter.all false
set_option maxRecDepth 100000
set_option maxHeartbeats 4000000
namespace L2
open PySem PySem.Spec PyProof.Rows
section
variable {X : Cx}
/-! ### insert, extend, repeat, slices: the heap not told -/
def rInsertS : V → List V → Hp → VK → Prop := fun x vs H Q => ∃ l xs k y, x = .ref l ∧ vs = [.int k, y] ∧ H l = some (.lst xs) ∧ xs.length < sizeLine ∧ 0 ≤ k ∧ k ≤ (xs.length : Int) ∧ ∀ H', SameX l H H' → H' l = some (.lst (xs.take k.toNat ++ y :: xs.drop k.toNat)) → Q .non H'
def rExtendS : V → List V → Hp → VK → Prop := fun x vs H Q => ∃ l b xs zs, x = .ref l ∧ vs = [.ref b] ∧ H l = some (.lst xs) ∧ H b = some (.lst zs) ∧ xs.length + zs.length ≤ sizeLine ∧ ∀ H', SameX l H H' → H' l = some (.lst (xs ++ zs)) → Q .non H'
/-- [x] * k -/
def rRepS : R2 := fun x y H Q => ∃ l k v, x = .ref l ∧ y = .int k ∧ H l = some (.lst [v]) ∧ -(2 ^ 63) ≤ k ∧ k < 2 ^ 63 ∧ k.toNat ≤ sizeLine ∧ newQ H (.lst (List.replicate k.toNat v)) Q
def rSlLS (K : PySem.W.Frag) : V → Option Int → Option Int → Hp → VK → Prop := fun x lo hi H Q => ∃ a xs, x = .ref a ∧ SqL K H a xs ∧ newQ H (.lst (cutV xs lo hi)) Q
def rSlTS (K : PySem.W.Frag) : V → Option Int → Option Int → Hp → VK → Prop := fun x lo hi H Q => ∃ a xs, x = .ref a ∧ SqT K H a xs ∧
  ¬ (HT.sIx xs.length 0 lo = 0 ∧ HT.sIx xs.length xs.length hi = xs.length) ∧ newQ H (.tup (cutV xs lo hi)) Q
/-! ### sum of a tuple of ints -/
end
section
variable {X : Cx}
def CPB (i j : Int) : Prop := 0 ≤ j ∧ j ≤ 100 ∧ Fit i
theorem op_powB : OpR X (binaryOp .Pow) (rI CPB fun i j => .int (i ^ j.toNat)) := opI fun i j _ _ _ _ _ hc q => by
  have hb := hc.2.2.bits
  refine pow_int hc.1 ?_ q
  have h1 : ((Builtin.Int.intBits i : Nat) : Int) ≤ 2 ^ 20 := by omega
  have h2 := Int.mul_le_mul h1 hc.2.1 hc.1 (by decide)
  have h3 : (2 : Int) ^ 20 * 100 ≤ 2 ^ 27 := by decide
  omega
end
section
variable {X : Cx} {K : PySem.W.Frag}
/-! ### inside a comprehension: K by name -/
end
/-! ### a for's reading: R stands for what is asked of the loop -/
def ForOk (g : TG) (tb : TS) (D : Ends) (J : It) (σ : St) (H1 : Hp) : Prop := ∃ W : Nat → Nat → St → Hp → Prop, (∃ m, W 0 m σ H1) ∧ ∀ i m σ H, W i m σ H →
  (J.stop i H ∧ D.nx σ H) ∨ (J.go i H ∧ ∃ N : St → Hp → Prop, (∀ σ' H', N σ' H' → ∃ m', m' < m ∧ W (i + 1) m' σ' H') ∧ ∀ x H', J.yld i H x H' → g x σ H' fun σ2 H2 => tb { D with nx := N, ct := N, bk := D.nx } σ2 H2)
theorem tFor_rd {wi : TI} {g : TG} {tb : TS} {D : Ends} {σ : St} {H : Hp} (h : ∀ R : It → Hp → Prop, (∀ J H1, ForOk g tb D J σ H1 → R J H1) → wi σ H R) : tFor wi g tb D σ H := h _ fun _ _ k => k
end L2

set_option Elab.async false
set_option linter.all false
set_option maxRecDepth 100000
set_option maxHeartbeats 4000000
namespace L2
open PySem PySem.Spec PyProof.Rows
/-! ### reversed(t) of a tuple: its own iterator -/
def RevIt (h : Heap) (it a : Addr) (i : Int) : Prop := ∃ o, h.get? it = some o ∧ o.cls = .type "reversed" ∧ o.data = .fields #[.ref a, rawInt i]
theorem RevIt.typeIs {s : Shared} {it a : Addr} {i : Int} (x : RevIt s.heap it a i) : s.TypeIs (.ref it) "reversed" := let ⟨o, ho, hc, _⟩ := x; ⟨o, ho, hc⟩
section
variable {prog : Program} {w : World} {A : Around} {E : Value → Shared → Prop} {s : Shared}
/-- the end of an iterator: StopIteration, all that stood stays -/
theorem stop_now {α : Type} {Q : α → Shared → Prop} (hh : A.handled = none)
    (hE : ∀ h' e, (∀ b o, s.heap.get? b = some o → h'.get? b = some o) → (∃ o, h'.get? e = some o ∧ o.cls = .type "StopIteration") → E (.ref e) { s with heap := h' }) : wpAny (model prog w) A (Builtin.SmallTypes.stopIteration : Sem α) Q E s := by
  unfold Builtin.SmallTypes.stopIteration newExc newTuple raiseNew
  have nn : firstArgMember (.type "StopIteration") [] = pure Value.none := by first | rfl | (unfold firstArgMember; rfl)
  refine wpAny_bind (wpAny_bind (wpAny_newObj_type (wpAny_bind (wpAny_of_eq nn (wpAny_newObj_type (wpAny_bind (wpAny_handled ?_)) (by size_fits)))) (by size_fits)))
  rw [hh]
  exact wpAny_throw (hE _ _ (fun b o e => Heap.get?_push_of_some _ (Heap.get?_push_of_some _ e)) ⟨_, Heap.get?_push_size _ rfl, rfl⟩)
end
def ItvT (K : PySem.W.Frag) (a : Addr) (xs : List V) : It := ⟨fun i H => SqT K H a xs ∧ i < xs.length, fun i H x H' => H' = H ∧ xs.reverse[i]? = some x, fun i _ => xs.length ≤ i⟩
def ItvL (K : PySem.W.Frag) (a : Addr) (xs : List V) : It := ⟨fun i H => SqL K H a xs ∧ i < xs.length, fun i H x H' => H' = H ∧ xs.reverse[i]? = some x, fun i _ => xs.length ≤ i⟩
section
variable {X : Cx} {tg : Expr}
def iRevT (K : PySem.W.Frag) (ta : TA) : TI := fun σ H R => ta σ H fun vs H1 => ∃ a xs, vs = [.ref a] ∧ SqT K H1 a xs ∧ R (ItvT K a xs) H1
def iRevL (K : PySem.W.Frag) (ta : TA) : TI := fun σ H R => ta σ H fun vs H1 => ∃ a xs, vs = [.ref a] ∧ SqL K H1 a xs ∧ R (ItvL K a xs) H1
end
end L2

set_option Elab.async false
set_option linter.all false
set_option maxRecDepth 100000
set_option maxHeartbeats 4000000
namespace L2
open PySem PySem.Spec PyProof.Rows
section
variable {X : Cx}
/-! ### == of lists of flat things -/
def rEqLs (K : PySem.W.Frag) (neg : Bool) : R2 := fun x y H Q => ∃ a b xs ys, x = .ref a ∧ y = .ref b ∧ SqL K H a xs ∧ SqL K H b ys ∧ xs.all flatV = true ∧ ys.all flatV = true ∧ Q (.bl (if neg then !eqL xs ys else eqL xs ys)) H
/-! ### xs * k -/
def rRepG : R2 := fun x y H Q => ∃ l k xs, x = .ref l ∧ y = .int k ∧ H l = some (.lst xs) ∧ -(2 ^ 63) ≤ k ∧ k < 2 ^ 63 ∧ xs.length * k.toNat ≤ sizeLine ∧ newQ H (.lst (List.replicate k.toNat xs).flatten) Q
end
section
variable {prog : Program} {w : World} {A : Around} {E : Value → Shared → Prop} {s : Shared}
end
section
variable {X : Cx}
/-- t[lo:hi] of a tuple, the whole too -/
def rSlTG (K : PySem.W.Frag) : V → Option Int → Option Int → Hp → VK → Prop := fun x lo hi H Q => ∃ a xs, x = .ref a ∧ SqT K H a xs ∧ ∀ p H', Same H H' → SqT K H' p (cutV xs lo hi) → Q (.ref p) H'
end
section
variable {X : Cx} {tg : Expr}
/-- a slice of a list or of a tuple -/
def rSlA (K : PySem.W.Frag) : V → Option Int → Option Int → Hp → VK → Prop := fun x lo hi H Q => rSlLS K x lo hi H Q ∨ rSlTG K x lo hi H Q
def rIxA (K : PySem.W.Frag) : R2 := fun x y H Q => rIxL K x y H Q ∨ rIxT K x y H Q
def iRevA (K : PySem.W.Frag) (ta : TA) : TI := fun σ H R => ta σ H fun vs H1 => ∃ a xs, vs = [.ref a] ∧ ((SqL K H1 a xs ∧ R (ItvL K a xs) H1) ∨ (SqT K H1 a xs ∧ R (ItvT K a xs) H1))
end
end L2

set_option linter.all false
set_option maxRecDepth 100000
set_option maxHeartbeats 4000000
namespace L2
open PySem PySem.Spec PyProof.Rows

/-! ### lists of pairs as tables -/
section
variable {κ : Type} [DecidableEq κ]
def valV (kvs : List (κ × V)) (k : κ) : Option V := (kvs.find? fun kv => decide (kv.1 = k)).map (·.2)
/-- in its place, or at the end -/
def putK (kvs : List (κ × V)) (k : κ) (v : V) : List (κ × V) :=
  if (kvs.any fun kv => decide (kv.1 = k)) = true then kvs.map (fun kv => if kv.1 = k then (kv.1, v) else kv) else kvs ++ [(k, v)]
def dropK (kvs : List (κ × V)) (k : κ) : List (κ × V) := kvs.filter fun kv => decide (kv.1 ≠ k)

theorem valV_pos {p : κ × V} {r : List (κ × V)} {k : κ} (e : p.1 = k) : valV (p :: r) k = some p.2 := by simp [valV, List.find?_cons, e]
theorem valV_neg {p : κ × V} {r : List (κ × V)} {k : κ} (e : ¬ p.1 = k) : valV (p :: r) k = valV r k := by simp [valV, List.find?_cons, e]
theorem valV_any (k : κ) : ∀ kvs : List (κ × V), (kvs.any fun kv => decide (kv.1 = k)) = (valV kvs k).isSome
  | [] => rfl
  | p :: r => by
    rw [List.any_cons]
    by_cases e : p.1 = k
    · simp only [valV_pos e, decide_eq_true e, Bool.true_or, Option.isSome_some]
    · rw [valV_neg e, decide_eq_false e, Bool.false_or]; exact valV_any k r
theorem RelO.isSome_eq {o : Option V} {u : Option Value} (r : RelO o u) : o.isSome = u.isSome := by
  cases o with
  | none => cases u with
    | none => rfl
    | some _ => exact (show False from r).elim
  | some _ => cases u with
    | none => exact (show False from r).elim
    | some _ => rfl
theorem RelO.getD {o : Option V} {u : Option Value} {d : V} {d' : Value} (r : RelO o u) (rd : RelV d d') : RelV (o.getD d) (u.getD d') := by
  cases o with
  | none => cases u with
    | none => exact rd
    | some _ => exact (show False from r).elim
  | some _ => cases u with
    | none => exact (show False from r).elim
    | some _ => exact r

/-- raw tables of the same keys -/
theorem KV.val {kvs : List (κ × V)} {vs : List (κ × Value)} (r : KV kvs vs) (k : κ) : RelO (valV kvs k) (valueAt vs k) := by
  unfold KV at r
  induction r with
  | nil => exact True.intro
  | @cons p q ps qs h t ih =>
    obtain ⟨h1, h2⟩ := h
    by_cases e : p.1 = k
    · have e' : q.1 = k := h1.symm.trans e
      have b : valueAt (q :: qs) k = some q.2 := by simp [valueAt, List.find?_cons, e']
      rw [valV_pos e, b]; exact h2
    · have e' : ¬ q.1 = k := fun z => e (h1.trans z)
      have b : valueAt (q :: qs) k = valueAt qs k := by simp [valueAt, List.find?_cons, e']
      rw [valV_neg e, b]; exact ih
theorem KV.any {kvs : List (κ × V)} {vs : List (κ × Value)} (r : KV kvs vs) (k : κ) : (kvs.any fun kv => decide (kv.1 = k)) = vs.any fun kv => decide (kv.1 = k) := by
  unfold KV at r
  induction r with
  | nil => rfl
  | cons h t ih => rw [List.any_cons, List.any_cons, ih, h.1]
theorem KV.repl {kvs : List (κ × V)} {vs : List (κ × Value)} (r : KV kvs vs) (k : κ) {y : V} {u : Value} (ry : RelV y u) :
    KV (kvs.map fun kv => if kv.1 = k then (kv.1, y) else kv) (vs.map fun kv => if kv.1 = k then (kv.1, u) else kv) := by
  unfold KV at r ⊢
  induction r with
  | nil => exact .nil
  | @cons p q ps qs h t ih =>
    rw [List.map_cons, List.map_cons]
    refine .cons ?_ ih
    obtain ⟨h1, h2⟩ := h
    by_cases e : p.1 = k
    · rw [if_pos e, if_pos (h1.symm.trans e)]; exact ⟨h1, ry⟩
    · rw [if_neg e, if_neg (fun z => e (h1.trans z))]; exact ⟨h1, h2⟩
theorem KV.put {kvs : List (κ × V)} {vs : List (κ × Value)} (r : KV kvs vs) (k : κ) {y : V} {u : Value} (ry : RelV y u) : KV (putK kvs k y) (stored vs k u) := by
  unfold putK stored
  rw [r.any k]
  by_cases e : (vs.any fun kv => decide (kv.1 = k)) = true
  · rw [if_pos e, if_pos e]; exact r.repl k ry
  · rw [if_neg e, if_neg e]; exact Paired.snoc r ⟨rfl, ry⟩
theorem KV.drop {kvs : List (κ × V)} {vs : List (κ × Value)} (r : KV kvs vs) (k : κ) : KV (dropK kvs k) (without vs k) := by
  unfold KV at r ⊢
  unfold dropK without
  induction r with
  | nil => exact .nil
  | @cons p q ps qs h t ih =>
    obtain ⟨h1, h2⟩ := h
    rw [List.filter_cons, List.filter_cons]
    by_cases e : p.1 = k
    · have a : ¬ decide (p.1 ≠ k) = true := by simp [e]
      have b : ¬ decide (q.1 ≠ k) = true := by simp [h1.symm.trans e]
      rw [if_neg a, if_neg b]; exact ih
    · have e' : ¬ q.1 = k := fun z => e (h1.trans z)
      have a : decide (p.1 ≠ k) = true := by simp [e]
      have b : decide (q.1 ≠ k) = true := by simp [e']
      rw [if_pos a, if_pos b]; exact .cons ⟨h1, h2⟩ ih
theorem KV.keys {kvs : List (κ × V)} {vs : List (κ × Value)} (r : KV kvs vs) : kvs.map (·.1) = vs.map (·.1) := by
  unfold KV at r
  induction r with
  | nil => rfl
  | cons h t ih => rw [List.map_cons, List.map_cons, ih, h.1]
theorem KV.length {kvs : List (κ × V)} {vs : List (κ × Value)} (r : KV kvs vs) : kvs.length = vs.length := Paired.length r
end


/-! ### a tracked dict, its keys ints and texts or tuples of these -/
/-- raw entries of a dict with tuple keys -/
abbrev KT (H : Hp) : List (List Key × V) → List (List Key × Addr × Value) → Prop := Paired fun p q => p.1 = q.1 ∧ H q.2.1 = some (.tup (p.1.map kV)) ∧ RelV p.2 q.2.2
theorem KT.val {H : Hp} {kvs : List (List Key × V)} {xs : List (List Key × Addr × Value)} (r : KT H kvs xs) (k : List Key) : RelO (valV kvs k) ((atKey xs k).map (·.2)) := by
  induction r with
  | nil => exact True.intro
  | @cons p q ps qs h t ih =>
    obtain ⟨h1, _, h2⟩ := h
    by_cases e : p.1 = k
    · have e' : q.1 = k := h1.symm.trans e
      have b : atKey (q :: qs) k = some q.2 := by simp [atKey, List.find?_cons, e']
      rw [valV_pos e, b]; exact h2
    · have e' : ¬ q.1 = k := fun z => e (h1.trans z)
      have b : atKey (q :: qs) k = atKey qs k := by simp [atKey, List.find?_cons, e']
      rw [valV_neg e, b]; exact ih
theorem KT.repl {H : Hp} {kvs : List (List Key × V)} {xs : List (List Key × Addr × Value)} (r : KT H kvs xs) (k : List Key) {y : V} {u : Value} (ry : RelV y u) :
    KT H (kvs.map fun kv => if kv.1 = k then (kv.1, y) else kv) (xs.map (putAt k u)) := by
  induction r with
  | nil => exact .nil
  | @cons p q ps qs h t ih =>
    rw [List.map_cons, List.map_cons]
    refine .cons ?_ ih
    obtain ⟨h1, h2, h3⟩ := h
    unfold putAt
    by_cases e : p.1 = k
    · rw [if_pos e, if_pos (h1.symm.trans e)]; exact ⟨h1, h2, ry⟩
    · rw [if_neg e, if_neg (fun z => e (h1.trans z))]; exact ⟨h1, h2, h3⟩
theorem KT.put {H : Hp} {kvs : List (List Key × V)} {xs : List (List Key × Addr × Value)} (r : KT H kvs xs) (k : List Key) {b : Addr} {y : V} {u : Value} (hb : H b = some (.tup (k.map kV))) (ry : RelV y u) :
    KT H (putK kvs k y) (storedH xs k b u) := by
  have e : (kvs.any fun kv => decide (kv.1 = k)) = (atKey xs k).isSome := by
    rw [valV_any, (r.val k).isSome_eq, Option.isSome_map]
  unfold putK storedH
  rw [e]
  by_cases q : (atKey xs k).isSome = true
  · rw [if_pos q, if_pos q]; exact r.repl k ry
  · rw [if_neg q, if_neg q]; exact Paired.snoc r ⟨rfl, hb, ry⟩
theorem KT.keeps {H H' : Hp} {kvs : List (List Key × V)} {xs : List (List Key × Addr × Value)} (r : KT H kvs xs) (ht : ∀ b ys, H b = some (.tup ys) → H' b = some (.tup ys)) : KT H' kvs xs :=
  Paired.mapP r fun _ _ z => ⟨z.1, ht _ _ z.2.1, z.2.2⟩

section
variable {P : Program} {w : World} {H : Hp} {h : Heap} {a : Addr}
end

/-- what the dict at a holds at the key y -/
def DGet (H : Hp) (a : Addr) (y : V) (r : Option V) : Prop :=
  (∃ kvs k, Rd H a (.dK kvs) ∧ y = kV k ∧ r = valV kvs k) ∨ ∃ kvs k b, Rd H a (.dT kvs) ∧ y = .ref b ∧ H b = some (.tup (k.map kV)) ∧ r = valV kvs k
/-- the heap behind a[y] = v -/
def DPut (H : Hp) (a : Addr) (y v : V) (H' : Hp) : Prop :=
  (∃ kvs k, H a = some (.dK kvs) ∧ y = kV k ∧ kvs.length < sizeLine ∧ H' = upd H a (.dK (putK kvs k v))) ∨
  ∃ kvs k b, H a = some (.dT kvs) ∧ y = .ref b ∧ H b = some (.tup (k.map kV)) ∧ kvs.length < sizeLine ∧ H' = upd H a (.dT (putK kvs k v))
theorem DGet.k {H : Hp} {a : Addr} {kvs : List (Key × V)} {k : Key} (e : H a = some (.dK kvs)) : DGet H a (kV k) (valV kvs k) := .inl ⟨kvs, k, .inl e, rfl, rfl⟩
theorem DGet.t {H : Hp} {a b : Addr} {kvs : List (List Key × V)} {k : List Key} (e : H a = some (.dT kvs)) (eb : H b = some (.tup (k.map kV))) : DGet H a (.ref b) (valV kvs k) := .inr ⟨kvs, k, b, .inl e, rfl, eb, rfl⟩
theorem DPut.k {H : Hp} {a : Addr} {kvs : List (Key × V)} {k : Key} {v : V} (e : H a = some (.dK kvs)) (hl : kvs.length < sizeLine) : DPut H a (kV k) v (upd H a (.dK (putK kvs k v))) := .inl ⟨kvs, k, e, rfl, hl, rfl⟩
theorem DPut.t {H : Hp} {a b : Addr} {kvs : List (List Key × V)} {k : List Key} {v : V} (e : H a = some (.dT kvs)) (eb : H b = some (.tup (k.map kV))) (hl : kvs.length < sizeLine) :
    DPut H a (.ref b) v (upd H a (.dT (putK kvs k v))) := .inr ⟨kvs, k, b, e, rfl, eb, hl, rfl⟩


section
variable {X : Cx} {pins : List (Addr × Obj)} {σ : St} {H : Hp} {s : Shared} {a : Addr} {y v : V} {u r : Value} {o : Option V} {A : Around} {E : Value → Shared → Prop}

end

section
variable {X : Cx} {pins : List (Addr × Obj)} {σ : St} {H : Hp} {s : Shared} {a : Addr} {kvs : List (Key × V)} {k : Key} {u : Value} {A : Around} {E : Value → Shared → Prop}
end


/-! ### readings and rules -/
/-- d[y] -/
def tDGet (td ty : TE) : TE := fun σ H Q => td σ H fun x H1 => ty σ H1 fun y H2 => ∃ a v, x = .ref a ∧ DGet H2 a y (some v) ∧ Q v H2
/-- y in d, y not in d -/
def tDIn (ty td : TE) : TE := fun σ H Q => ty σ H fun y H1 => td σ H1 fun x H2 => ∃ a o, x = .ref a ∧ DGet H2 a y o ∧ Q (.bl o.isSome) H2
def tDNotIn (ty td : TE) : TE := fun σ H Q => ty σ H fun y H1 => td σ H1 fun x H2 => ∃ a o, x = .ref a ∧ DGet H2 a y o ∧ Q (.bl (!o.isSome)) H2
/-- d[y] = v -/
def sDPut (td ty tv : TE) : TS := fun D σ H => tv σ H fun v H1 => td σ H1 fun x H2 => ty σ H2 fun y H3 => ∃ a H4, x = .ref a ∧ DPut H3 a y v H4 ∧ D.nx σ H4
section
variable {X : Cx} {o i e value : Expr} {pos pos' tpos : Pos} {td ty tv : TE}
end


/-! ### displays -/
def tDNewT : TE := fun _ H Q => ∀ p, H p = none → Q (.ref p) (upd H p (.dT []))
section
variable {X : Cx} {pos : Pos}
end
end L2

set_option linter.all false
set_option maxRecDepth 100000
set_option maxHeartbeats 4000000
namespace L2
open PySem PySem.Spec PyProof.Rows
/-! ### t + u, either may be empty -/
section
variable {prog : Program} {w : World} {A : Around} {E : Value → Shared → Prop} {s : Shared}
end
section
variable {X : Cx}
def rCatTG (K : PySem.W.Frag) : R2 := fun x y H Q => ∃ a b xs ys, x = .ref a ∧ y = .ref b ∧ SqT K H a xs ∧ SqT K H b ys ∧ xs.length + ys.length ≤ sizeLine ∧ ∀ p H', Same H H' → SqT K H' p (xs ++ ys) → Q (.ref p) H'
end
/-! ### a comprehension that reads one name of its frame -/
theorem Clos.one {X : Cx} {scope : Scope} {y0 : Str} {c0 : Addr} {i0 : Nat} (h1 : closureFor scope X.env = pure [(y0, c0)]) (h2 : X.env.cells.lookup y0 = some c0) (h3 : ∀ z ∈ scope.names, z.2 = .free → z.1 = y0)
    (h4 : X.N[i0]? = some y0) (h5 : X.env.scope.names.lookup y0 = some .cell) (h6 : scope.names.lookup y0 = some .free) : Clos X scope [(y0, c0)] [y0] [i0] where
  clos := h1
  sub := fun y c e => by
    by_cases z : y = y0
    · subst z
      simp at e
      subst e
      exact h2
    · rw [List.lookup_cons, beq_eq_false_iff_ne.mpr z] at e
      cases e
  has := fun y e => by
    have z := h3 _ (PySem.mem_of_lookup e) rfl
    have z : y = y0 := z
    subst z
    exact ⟨c0, by simp⟩
  at' := fun j y e => by
    cases j with
    | zero =>
      have z : y0 = y := by simpa using e
      subst z
      exact ⟨i0, rfl, h4, h5, h6⟩
    | succ j => simp at e
  len := rfl
end L2

set_option linter.all false
set_option maxRecDepth 100000
set_option maxHeartbeats 4000000
namespace L2
open PySem PySem.Spec PyProof.Rows
/-! ### enumerate of a tuple -/
section
variable {prog : Program} {w : World} {A : Around} {E : Value → Shared → Prop} {s : Shared}
theorem tupNext_item {it t : Addr} {i : Nat} {items : Array Value} {x : Value} {Q : Value → Shared → Prop} (a : IsTupIter s.heap it t i) (b : IsTup s.heap t items) (hx : items[i]? = some x)
    (q : ∀ h', IsTupIter h' it t (i + 1) → Heap.SameBut it s.heap h' → Q x { s with heap := h' }) : wpAny (model prog w) A (Builtin.SmallTypes.nextOf (.ref it)) Q E s := by
  obtain ⟨o, g, c, d⟩ := id a
  obtain ⟨o2, g2, c2, n2, d2⟩ := b
  unfold Builtin.SmallTypes.nextOf
  refine wpAny_bind (wpAny_callSpecial?_slot (name := Str.ofString "__next__") a.typeIs slot_tupleiter_next (wpAny_call_entry slot_tupleiter_next a.typeIs entry_tupleiter_next ?_ (args_tupleiter_next _)))
  refine (show wpAny _ _ (field (.ref it) 0 >>= _) _ _ s from wpAny_bind (wpAny_field g d (x := .ref t) rfl (show wpAny _ _ (if (Value.ref t == Value.none) = true then _ else _) _ _ s from ?_)))
  rw [if_neg (by exact Bool.false_ne_true : ¬ ((Value.ref t == Value.none) = true))]
  refine (show wpAny _ _ (field (.ref it) 1 >>= _) _ _ s from wpAny_bind (wpAny_field g d (x := .int i 0) rfl (show wpAny _ _ (seqItems? (.ref t) >>= _) _ _ s from wpAny_bind (wpAny_seqItems g2 d2 ?_))))
  simp only [Int.toNat_natCast, hx]
  refine wpAny_bind (wpAny_setField g d (by simp) (wpAny_pure ⟨x, rfl, wpAny_pure (q _ ?_ (Heap.SameBut.update ..))⟩))
  refine ⟨_, Heap.get?_update_self _ g (Obj.isFreed_of_fields (Obj.data_mapFields d _)), (Obj.cls_mapFields ..).trans c, ?_⟩
  rw [Obj.data_mapFields d]
  simp [rawInt]
theorem tupNext_end {it t : Addr} {i : Nat} {items : Array Value} {Q : Value → Shared → Prop} (hh : A.handled = none) (a : IsTupIter s.heap it t i) (b : IsTup s.heap t items) (hx : items[i]? = none)
    (q : ∀ h' e, Heap.ExtBut it s.heap h' → (∃ o, h'.get? e = some o ∧ o.cls = .type "StopIteration") → E (.ref e) { s with heap := h' }) : wpAny (model prog w) A (Builtin.SmallTypes.nextOf (.ref it)) Q E s := by
  obtain ⟨o, g, c, d⟩ := id a
  obtain ⟨o2, g2, c2, n2, d2⟩ := b
  unfold Builtin.SmallTypes.nextOf
  refine wpAny_bind (wpAny_callSpecial?_slot (name := Str.ofString "__next__") a.typeIs slot_tupleiter_next (wpAny_call_entry slot_tupleiter_next a.typeIs entry_tupleiter_next ?_ (args_tupleiter_next _)))
  refine (show wpAny _ _ (field (.ref it) 0 >>= _) _ _ s from wpAny_bind (wpAny_field g d (x := .ref t) rfl (show wpAny _ _ (if (Value.ref t == Value.none) = true then _ else _) _ _ s from ?_)))
  rw [if_neg (by exact Bool.false_ne_true : ¬ ((Value.ref t == Value.none) = true))]
  refine (show wpAny _ _ (field (.ref it) 1 >>= _) _ _ s from wpAny_bind (wpAny_field g d (x := .int i 0) rfl (show wpAny _ _ (seqItems? (.ref t) >>= _) _ _ s from wpAny_bind (wpAny_seqItems g2 d2 ?_))))
  simp only [Int.toNat_natCast, hx]
  refine wpAny_bind (wpAny_rule (wpAny_bind (wpAny_setField g d (by simp) (stop_now (show A.in1.handled = none from hh) ?_))))
  intro h' e keep is
  exact q _ e (fun b ob hb y => keep b ob ((Heap.get?_update_other _ _ (Ne.symm hb)).trans y)) is
theorem Draws.tupleS {prog : Program} {w : World} {A : Around} (hh : A.handled = none) (it t : Addr) (hne : t ≠ it) (items : Array Value) :
    Draws prog w A it [it, t] items.size (fun i x => items[i]? = some x) (fun i h => IsTupIter h it t i ∧ IsTup h t items ∧ i ≤ items.size) where
  live := fun i h st => let ⟨⟨o, ho, _⟩, _⟩ := st; ⟨o, ho⟩
  frame := fun i h h' st k => by
    obtain ⟨⟨o, g, r⟩, ⟨o2, g2, r2⟩, z⟩ := st
    exact ⟨⟨o, k it (by simp) o g, r⟩, ⟨o2, k t (by simp) o2 g2, r2⟩, z⟩
  item := fun i s Q E hi st hQ => by
    obtain ⟨a, b, z⟩ := st
    refine tupNext_item a b (Array.getElem?_eq_getElem hi) fun h' a' sb => hQ _ h' s.toks (Array.getElem?_eq_getElem hi) ⟨a', ?_, hi⟩ sb
    obtain ⟨o2, g2, r2⟩ := b
    exact ⟨o2, (sb.2 t hne).trans g2, r2⟩
  done := fun s Q E st hE => by
    obtain ⟨a, b, z⟩ := st
    exact tupNext_end hh a b (Array.getElem?_eq_none (Nat.le_refl _)) hE
theorem enum_made (t : Addr) (items : Array Value) (n : Nat) (dc : Option Addr) (sl : Array (Option Value)) :
    Meets (Builtin.«enumerate.__new__» ⟨[.type "enumerate", .ref t], []⟩) (fun _ R s => s.heap.get? t = some { cls := .type "tuple", dict := dc, data := .seq items n, slots := sl } ∧
      R (.ok (.ret (.ref (s.heap.push { cls := .type "tuple_iterator", data := .fields #[.ref t, .int 0 0] }).objs.size)))
        { s with heap := (s.heap.push { cls := .type "tuple_iterator", data := .fields #[.ref t, .int 0 0] }).push { cls := .type "enumerate", data := .fields #[.none, .bool false, .ref s.heap.objs.size, rawInt 0, .none, .none] } }) :=
  .of_wp fun prog w A R s h => by
    obtain ⟨hp, g, d, tk, os⟩ := s
    obtain ⟨ht, h⟩ := h
    have hsub := sub_enumerate
    have hT : IsTup (Shared.heap ⟨hp, g, d, tk, os⟩) t items := ⟨_, ht, rfl, n, rfl⟩
    wp_walk using AutoSeq1.wpAny_loadPart' ht
    refine wpAny_stack_any fun st => wpAny_pure ?_
    split
    · rename_i c _ _ _ _ _
      cases (c == Value.type "enumerate")
      · wp_walk using AutoSeq1.wpAny_loadPart' ht, iter_tuple hT
        exact ⟨_, rfl, h⟩
      · wp_walk using AutoSeq1.wpAny_loadPart' ht, iter_tuple hT
        exact ⟨_, rfl, h⟩
    · wp_walk using AutoSeq1.wpAny_loadPart' ht, iter_tuple hT
      exact ⟨_, rfl, h⟩
theorem call_enumT {t : Addr} {items : Array Value} {Q : Value → Shared → Prop} (hT : IsTup s.heap t items)
    (h : ∀ h', IsEnum h' (s.heap.objs.size + 1) s.heap.objs.size 0 .none → IsTupIter h' s.heap.objs.size t 0 → h'.objs.size = s.heap.objs.size + 2 → (∀ b o, s.heap.get? b = some o → h'.get? b = some o) → Q (.ref (s.heap.objs.size + 1)) { s with heap := h' }) :
    wpAny (model prog w) A (call (.type "enumerate") [.ref t]) Q E s := by
  obtain ⟨⟨c, dc, dt, sl⟩, ht, hc, n, hd⟩ := hT
  simp only at hc hd
  subst hc hd
  refine callType_new F.called_enumerate (by decide) (F.typeCall_enumerate_1 _) (F.newCall_enumerate_1 _) (fun obj => F.args_object_init_2 obj _) F.entry_enumerate_new (enum_made t items n dc sl) ⟨ht, ?_⟩
  have hz : (s.heap.push { cls := .type "tuple_iterator", data := .fields #[.ref t, .int 0 0] }).objs.size = s.heap.objs.size + 1 := Heap.size_push ..
  show _ ∧ _
  rw [hz]
  have he : IsEnum ((s.heap.push { cls := .type "tuple_iterator", data := .fields #[.ref t, .int 0 0] }).push { cls := .type "enumerate", data := .fields #[.none, .bool false, .ref s.heap.objs.size, rawInt 0, .none, .none] }) (s.heap.objs.size + 1) s.heap.objs.size 0 .none := by
    have := Heap.get?_push_size (s.heap.push { cls := .type "tuple_iterator", data := .fields #[.ref t, .int 0 0] }) (o := { cls := .type "enumerate", data := .fields #[.none, .bool false, .ref s.heap.objs.size, rawInt 0, .none, .none] }) rfl
    rw [hz] at this
    exact this
  exact ⟨⟨_, he, rfl⟩, h _ he ⟨_, Heap.get?_push_of_some _ (Heap.get?_push_size _ rfl), rfl, rfl⟩ (by rw [Heap.size_push, hz]) fun b o y => Heap.get?_push_of_some _ (Heap.get?_push_of_some _ y)⟩
end
/-- the pairs (i, x) of a tuple that stays -/
def IteT (K : PySem.W.Frag) (a : Addr) (xs : List V) : It := ⟨fun i H => SqT K H a xs ∧ i < xs.length, fun i H x H' => ∃ p y, H p = none ∧ x = .ref p ∧ xs[i]? = some y ∧ H' = upd H p (.tup [.int (i : Int), y]), fun i H => SqT K H a xs ∧ xs.length ≤ i⟩
def enSt (e it a : Addr) (n i : Nat) (h : Heap) : Prop := i ≤ n ∧ (∃ old, IsEnum h e it ((i : Nat) : Int) old) ∧ IsTupIter h it a i
theorem turn_enumT {P : Program} {w : World} {K : PySem.W.Frag} {elts : List Expr} {x1} {tp : Pos} (a e it : Addr) (xs : List V) (hei : e ≠ it) : Turn P w K (.Tuple elts x1 tp) (IteT K a xs) [e, it] e (enSt e it a xs.length) where
  mem := by simp
  obj := fun i h st b hb => by
    obtain ⟨_, ⟨old, he⟩, ⟨o, g, c, d⟩⟩ := st
    simp only [List.mem_cons, List.not_mem_nil, or_false] at hb
    rcases hb with rfl | rfl
    · exact ⟨_, he, fun v z => by cases z⟩
    · exact ⟨o, g, fun v z => by rw [d] at z; cases z⟩
  keep := fun i h h' st k => by
    obtain ⟨hn, ⟨old, he⟩, ⟨o, g, r⟩⟩ := st
    exact ⟨hn, ⟨old, k e (by simp) _ he⟩, ⟨o, k it (by simp) o g, r⟩⟩
  item := by
    intro X hP hw hK hc i pins s σ H E I hf st hg
    subst hP hw hK
    obtain ⟨hq, hi⟩ := hg
    obtain ⟨its, rv, p, hz⟩ := I.tuple hq
    obtain ⟨hin, ⟨old, he⟩, hit⟩ := st
    have hl := rv.length
    have hne : a ≠ it := fun z => by
      subst z
      obtain ⟨o, g, c, d⟩ := hit
      obtain ⟨o2, g2, c2, _⟩ := p
      rw [g] at g2
      cases g2
      rw [c] at c2
      exact absurd (Value.type.inj c2) (by decide)
    have hae : e ≠ a := fun z => by
      subst z
      obtain ⟨o2, g2, c2, _⟩ := p
      rw [he] at g2
      cases g2
      exact absurd (Value.type.inj c2) (by decide)
    have D := Draws.tupleS (prog := X.prog) (w := X.w) (A := X.A.in1) (show X.A.in1.handled = none from I.ok.hd hc) it a hne its.toArray
    have hsz : i < its.toArray.size := by rw [List.size_toArray]; omega
    refine wpAny_pyNext_enum_itemD D he ⟨hit, p, by omega⟩ hsz hei (by simp [hei, hae]) fun x h' tk hx heo st' ht hz' hk => ?_
    refine ⟨_, rfl, ?_⟩
    refine wpAny_letOwnedTupleGo_enum heo fun h2 he2 hs2 => ?_
    obtain ⟨f0, f1, f2, f3, f4, f5⟩ := hf it (by simp)
    obtain ⟨g0, g1, g2, g3, g4, g5⟩ := hf e (by simp)
    obtain ⟨st1, st2, st3⟩ := st'
    obtain ⟨oi, hoi, coi, doi⟩ := id st1
    obtain ⟨o0, ho0, co0, do0⟩ := id hit
    have hn : s.heap.objs.size ≤ s.heap.objs.size := Nat.le_refl _
    have hoi2 : h2.get? it = some oi := (hs2.2 it (Ne.symm hei)).trans hoi
    have en : s.heap.objs.size ≠ e := Nat.ne_of_gt (Heap.lt_size he)
    have itn : s.heap.objs.size ≠ it := Nat.ne_of_gt (Heap.lt_size ho0)
    have ht2 : h2.get? s.heap.objs.size = some { cls := .type "tuple", data := .seq #[.int (i : Nat) tk, x] } := (hs2.2 _ en).trans ht
    have fr1 : ((fun _ => oi : Obj → Obj) o0).isFreed = false := Obj.isFreed_of_fields doi
    have u1 : (s.heap.update it fun _ => oi).get? it = some oi := Heap.get?_update_self (fun _ => oi) ho0 fr1
    obtain ⟨oe, hoe⟩ : ∃ oe, h2.get? e = some oe := ⟨_, he2⟩
    have foe : oe.isFreed = false := (Heap.get?_some_iff.mp hoe).2
    have ee1 : (s.heap.update it fun _ => oi).get? e = s.heap.get? e := Heap.get?_update_other _ _ (Ne.symm hei)
    have u2 : ((s.heap.update it fun _ => oi).update e fun _ => oe).get? e = some oe := Heap.get?_update_self (fun _ => oe) (ee1.trans he) foe
    have I1 : Inv X pins σ H { s with heap := s.heap.update it fun _ => oi, toks := s.toks } := I.turned (t' := s.toks) (fun b o hb y => (Heap.get?_update_other _ _ (Ne.symm hb)).trans y) f0 f1 f3 f4 f5
    have I2 : Inv X pins σ H { s with heap := (s.heap.update it fun _ => oi).update e fun _ => oe, toks := s.toks } := I1.turned (t' := s.toks) (fun b o hb y => (Heap.get?_update_other _ _ (Ne.symm hb)).trans y) g0 g1 g3 g4 g5
    have hy : xs[i]? = some (xs[i]'hi) := List.getElem?_eq_getElem hi
    obtain ⟨u, hu, ru⟩ := rv.get hy
    have ex : u = x := by
      have hx' : its[i]? = some x := by simpa using hx
      rw [hu] at hx'
      exact Option.some.inj hx'
    subst ex
    have I3 : Inv X pins σ (upd H s.heap.objs.size (.tup [.int (i : Int), xs[i]'hi])) { s with heap := h2, toks := tk + 1 } := by
      refine I2.laid (t' := tk + 1) (fun b o y => ?_) (Nat.le_of_eq (by rw [Heap.size_update, Heap.size_update])) ⟨by show 2 ≤ sizeLine; decide, [.int (i : Nat) tk, u], ?_, _, ht2, rfl, 0, rfl⟩
      · by_cases e1 : b = e
        · subst e1
          rw [u2] at y
          cases y
          exact hoe
        · have y1 := (Heap.get?_update_other _ _ (Ne.symm e1)).symm.trans y
          by_cases e2 : b = it
          · subst e2
            rw [u1] at y1
            cases y1
            exact hoi2
          · exact (hs2.2 b e1).trans (hk b o e1 e2 ((Heap.get?_update_other _ _ (Ne.symm e2)).symm.trans y1))
      · exact .cons ⟨_, rfl⟩ (.cons ru .nil)
    refine ⟨.ref s.heap.objs.size, _, I3, rfl, ⟨_, _, I.hok.fresh hn, rfl, hy, rfl⟩, ⟨by omega, ⟨u, ?_⟩, ⟨oi, hoi2, coi, doi⟩⟩, fun b hb => ?_⟩
    · rw [show ((i + 1 : Nat) : Int) = (i : Int) + 1 by omega]
      exact he2
    · simp only [List.mem_cons, List.not_mem_nil, or_false] at hb
      rcases hb with rfl | rfl
      · rw [upd_ne (Ne.symm en)]; exact g0
      · rw [upd_ne (Ne.symm itn)]; exact f0
  done := by
    intro X hP hw hK hc i pins s σ H E I hf st hg
    subst hP hw hK
    obtain ⟨hq, hi⟩ := hg
    obtain ⟨its, rv, p, hz⟩ := I.tuple hq
    obtain ⟨hin, ⟨old, he⟩, hit⟩ := st
    have hl := rv.length
    have hil : i = its.toArray.size := by rw [List.size_toArray]; omega
    subst hil
    have hne : a ≠ it := fun z => by
      subst z
      obtain ⟨o, g, c, d⟩ := hit
      obtain ⟨o2, g2, c2, _⟩ := p
      rw [g] at g2
      cases g2
      rw [c] at c2
      exact absurd (Value.type.inj c2) (by decide)
    obtain ⟨f0, f1, f2, f3, f4, f5⟩ := hf it (by simp)
    exact wpAny_pyNext_enum_endD (Draws.tupleS (show X.A.in1.handled = none from I.ok.hd hc) it a hne its.toArray) he ⟨hit, p, Nat.le_refl _⟩ fun h' eb => ⟨rfl, I.turned (t' := s.toks) (fun b o hb e => eb b o hb e) f0 f1 f3 f4 f5⟩
  self := fun _ _ _ _ _ st h => let ⟨_, ⟨_, he⟩, _⟩ := st; wpAny_pyIter_enum he h
def iEnT (K : PySem.W.Frag) (ta : TA) : TI := fun σ H R => ta σ H fun vs H1 => ∃ a xs, vs = [.ref a] ∧ SqT K H1 a xs ∧ R (IteT K a xs) H1
theorem pi_enumT {X : Cx} {a : Expr} {ta : TA} {elts : List Expr} {x1} {tp p pos : Pos} (hg : Gl X "enumerate") (hm : X.mg "enumerate" = none) (ha : PA X [a] ta) (hs : starEach [a] X.env = [(false, eval a X.env)] := by rfl) : PI X (.Tuple elts x1 tp) (.Call (.Name "enumerate" p) [a] [] pos) (iEnT X.K ta) := by
  intro pins s σ H R I h
  refine Call_ (ld_blt I hg hm boot_enumerate (PyProof.Rows.callWith_type1 (thn (ha pos pins s σ H _ I h) fun us s1 ⟨vs, H1, I1, r1, q1⟩ => ?_) hs rfl))
  obtain ⟨b, xs, e, hq, q⟩ := q1
  subst e
  cases r1 with
  | cons r rr =>
    cases rr
    cases r
    obtain ⟨its, rv, pt, hz⟩ := I1.tuple hq
    refine call_enumT pt fun h' he hit hsz hk => ?_
    refine wpAny_pyIter_enum he ⟨s1.heap.objs.size + 1, [s1.heap.objs.size + 1, s1.heap.objs.size], _, _, H1, rfl, I1.kept (t' := s1.toks) hk, turn_enumT b (s1.heap.objs.size + 1) s1.heap.objs.size xs (Nat.succ_ne_self _), ⟨Nat.zero_le _, ⟨_, he⟩, hit⟩, fun c hc => ?_, q⟩
    simp only [List.mem_cons, List.not_mem_nil, or_false] at hc
    rcases hc with rfl | rfl
    · exact I1.fpOk (Nat.le_succ _) (I1.hok.fresh (Nat.le_succ _))
    · exact I1.fpOk (Nat.le_refl _) (I1.hok.fresh (Nat.le_refl _))
/-- the loop over the pairs (i, x) of a tuple that stays -/
theorem for_enumT {K : PySem.W.Frag} {a : Addr} {xs : List V} {g : TG} {tb : TS} {D : Ends} {σ : St} {H : Hp} (Pv : Nat → St → Hp → Prop) (h0 : Pv 0 σ H) (hl : ∀ i σ H, i ≤ xs.length → Pv i σ H → SqT K H a xs)
    (hs : ∀ i x p σ H, xs[i]? = some x → Pv i σ H → H p = none → g (.ref p) σ (upd H p (.tup [.int (i : Int), x])) fun σ2 H2 => tb { D with nx := Pv (i + 1), ct := Pv (i + 1), bk := D.nx } σ2 H2) (hd : ∀ σ H, Pv xs.length σ H → D.nx σ H) : ForOk g tb D (IteT K a xs) σ H := by
  refine ⟨fun i m σ H => m = xs.length - i ∧ i ≤ xs.length ∧ Pv i σ H, ⟨xs.length, by simp, Nat.zero_le _, h0⟩, ?_⟩
  rintro i m σ H ⟨rfl, hi, p⟩
  by_cases hlt : i < xs.length
  · refine .inr ⟨⟨hl i σ H hi p, hlt⟩, Pv (i + 1), fun σ' H' p' => ⟨xs.length - (i + 1), by omega, rfl, hlt, p'⟩, fun x H' y => ?_⟩
    obtain ⟨q, y, hn, e1, e2, e3⟩ := y
    subst e1 e3
    exact hs i y q σ _ e2 p hn
  · have e : i = xs.length := by omega
    subst e
    exact .inl ⟨⟨hl _ σ H hi p, Nat.le_refl _⟩, hd σ H p⟩
end L2

namespace RM
/-! Euclid's loop and Newton's loop over Int -/
theorem gcd_step {a b : Int} (ha : 0 ≤ a) (hb : 0 < b) : Int.gcd b (a % b) = Int.gcd a b := by
  obtain ⟨m, rfl⟩ := Int.eq_ofNat_of_zero_le ha
  obtain ⟨n, rfl⟩ := Int.eq_ofNat_of_zero_le (Int.le_of_lt hb)
  show Nat.gcd n (((m : Int) % (n : Int)).natAbs) = Nat.gcd m n
  rw [← Int.natCast_emod, Int.natAbs_natCast, Nat.gcd_comm m n, Nat.gcd_rec n m, Nat.gcd_comm]
theorem gcd_abs (a b : Int) : Int.gcd (if a < 0 then -a else a) (if b < 0 then -b else b) = Int.gcd a b := by
  have h : ∀ x : Int, (if x < 0 then -x else x).natAbs = x.natAbs := fun x => by split <;> omega
  show Nat.gcd _ _ = Nat.gcd _ _
  rw [h, h]
theorem gcd_end {a : Int} (ha : 0 ≤ a) : ((Int.gcd a 0 : Nat) : Int) = a := by
  rw [Int.gcd_zero_right]; omega
/-- what Newton's step gives -/
theorem newton {g n : Int} (hg : 0 < g) (hn : 0 ≤ n) : n < ((g + n / g) / 2 + 1) * ((g + n / g) / 2 + 1) := by
  have q0 : 0 ≤ n / g := Int.ediv_nonneg hn (Int.le_of_lt hg)
  have q1 : n < (n / g + 1) * g := Int.lt_ediv_add_one_mul_self n hg
  generalize n / g = q at *
  have m1 : g + q + 1 ≤ 2 * ((g + q) / 2) + 2 := by omega
  have m0 : 0 ≤ (g + q) / 2 := by omega
  generalize (g + q) / 2 = m at *
  -- 4 (m+1)^2 >= (g+q+1)^2 >= 4 g (q+1) > 4 n
  have s1 : (g + q + 1) * (g + q + 1) ≤ (2 * m + 2) * (2 * m + 2) := Int.mul_le_mul m1 m1 (by omega) (by omega)
  have s2 : 0 ≤ (g - (q + 1)) * (g - (q + 1)) := by
    rcases Int.le_total 0 (g - (q + 1)) with h | h
    · exact Int.mul_nonneg h h
    · exact Int.mul_nonneg_of_nonpos_of_nonpos h h
  have e1 : (g + q + 1) * (g + q + 1) = (g - (q + 1)) * (g - (q + 1)) + 4 * ((q + 1) * g) := by
    simp only [Int.add_mul, Int.mul_add, Int.sub_mul, Int.mul_sub, Int.mul_comm q g, Int.one_mul, Int.mul_one]; omega
  have e2 : (2 * m + 2) * (2 * m + 2) = 4 * ((m + 1) * (m + 1)) := by
    simp only [Int.add_mul, Int.mul_add, Int.one_mul, Int.mul_one, Int.mul_assoc, Int.mul_left_comm m 2 m]; omega
  omega
theorem newton_falls {g n : Int} (hg : 0 < g) (hn : 0 ≤ n) (h : n < g * g) : (g + n / g) / 2 < g ∧ 0 ≤ (g + n / g) / 2 := by
  have q0 : 0 ≤ n / g := Int.ediv_nonneg hn (Int.le_of_lt hg)
  have q1 : n / g < g := Int.ediv_lt_of_lt_mul hg h
  omega
end RM

namespace RM
def by_ (u l : Int) : Int := if l < 0 then -((Int.gcd u l : Nat) : Int) else ((Int.gcd u l : Nat) : Int)
theorem by_ne {u l : Int} (h : l ≠ 0) : by_ u l ≠ 0 := by
  have := Int.gcd_pos_of_ne_zero_right u h
  unfold by_; split <;> omega
theorem by_dvd_u (u l : Int) : by_ u l ∣ u := by
  unfold by_; split
  · exact Int.neg_dvd.mpr (Int.gcd_dvd_left u l)
  · exact Int.gcd_dvd_left u l
theorem by_dvd_l (u l : Int) : by_ u l ∣ l := by
  unfold by_; split
  · exact Int.neg_dvd.mpr (Int.gcd_dvd_right u l)
  · exact Int.gcd_dvd_right u l
theorem low_pos {u l : Int} (h : l ≠ 0) : 0 < l.fdiv (by_ u l) := by
  obtain ⟨k, hk⟩ := by_dvd_l u l
  have hb := by_ne (u := u) h
  have e : l.fdiv (by_ u l) = k := by
    rw [Int.fdiv_eq_ediv_of_dvd (by_dvd_l u l)]
    conv => lhs; arg 1; rw [hk]
    exact Int.mul_ediv_cancel_left k hb
  rw [e]
  have g := Int.gcd_pos_of_ne_zero_right u h
  unfold by_ at hk hb
  by_cases hl : l < 0
  · rw [if_pos hl] at hk
    rcases Int.lt_trichotomy k 0 with q | q | q
    · exfalso
      have := Int.mul_nonneg_of_nonpos_of_nonpos (a := -((Int.gcd u l : Nat) : Int)) (b := k) (by omega) (by omega)
      omega
    · subst q; simp at hk; omega
    · exact q
  · rw [if_neg hl] at hk
    rcases Int.lt_trichotomy k 0 with q | q | q
    · exfalso
      have := Int.mul_nonpos_of_nonneg_of_nonpos (a := ((Int.gcd u l : Nat) : Int)) (b := k) (by omega) (by omega)
      omega
    · subst q; simp at hk; omega
    · exact q
theorem low_gcd {u l : Int} (h : l ≠ 0) : Int.gcd (u.fdiv (by_ u l)) (l.fdiv (by_ u l)) = 1 := by
  have hb := by_ne (u := u) h
  obtain ⟨k, hk⟩ := by_dvd_l u l
  obtain ⟨j, hj⟩ := by_dvd_u u l
  have ej : u.fdiv (by_ u l) = j := by
    rw [Int.fdiv_eq_ediv_of_dvd (by_dvd_u u l)]
    conv => lhs; arg 1; rw [hj]
    exact Int.mul_ediv_cancel_left j hb
  have ek : l.fdiv (by_ u l) = k := by
    rw [Int.fdiv_eq_ediv_of_dvd (by_dvd_l u l)]
    conv => lhs; arg 1; rw [hk]
    exact Int.mul_ediv_cancel_left k hb
  rw [ej, ek]
  have g := Int.gcd_pos_of_ne_zero_right u h
  have e : Int.gcd u l = (by_ u l).natAbs * Int.gcd j k := by
    conv => lhs; rw [hj]
    conv => lhs; arg 2; rw [hk]
    exact Int.gcd_mul_left ..
  have eb : (by_ u l).natAbs = Int.gcd u l := by unfold by_; split <;> omega
  rw [eb] at e
  have : Int.gcd u l * 1 = Int.gcd u l * Int.gcd j k := by omega
  exact (Nat.eq_of_mul_eq_mul_left g this).symm
theorem gcd_times {u l m : Int} (h : Int.gcd u l = 1) (hm : 0 < m) : ((Int.gcd (u * m) (l * m) : Nat) : Int) = m := by
  rw [Int.gcd_mul_right, h]; omega
end RM

namespace RM
/-! rows by Euclid, ways down the tree -/
def steps : Int → List Int → List Int
  | _, [] => []
  | s, a :: r => List.replicate a.toNat s ++ steps (1 - s) r
/-- where a way leads -/
def W : List Int → Int × Int
  | [] => (1, 1)
  | s :: w => if s = 1 then ((W w).1 + (W w).2, (W w).2) else ((W w).1, (W w).1 + (W w).2)
end RM

namespace RM
/-! hearts, squares, lowest terms of three -/
def heart (a b c : Int) : Int := b * b - 4 * a * c
def IsSq (n : Int) : Prop := ∃ k : Int, k * k = n
def g3 (a b c : Int) : Int := ((Int.gcd ((Int.gcd a b : Nat) : Int) c : Nat) : Int)
def by3 (a b c : Int) : Int := if a < 0 then -(g3 a b c) else g3 a b c
structure Root (a b c s : Int) : Prop where
  pos : 0 < a
  side : s = 0 ∨ s = 1
  low : g3 a b c = 1
  hp : 0 < heart a b c
  ns : ¬ IsSq (heart a b c)
theorem sq_of {t n D : Int} (ht : t ≠ 0) (h : n * n = t * t * D) : IsSq D := by
  have h1 : n.natAbs * n.natAbs = t.natAbs * t.natAbs * D.natAbs := by rw [← Int.natAbs_mul, h, Int.natAbs_mul, Int.natAbs_mul]
  have h2 : t.natAbs ^ 2 ∣ n.natAbs ^ 2 := ⟨D.natAbs, by rw [Nat.pow_two, Nat.pow_two]; exact h1⟩
  have h3 : t.natAbs ∣ n.natAbs := (Nat.pow_dvd_pow_iff (by decide)).mp h2
  obtain ⟨k, hk⟩ := Int.natAbs_dvd_natAbs.mp h3
  subst hk
  refine ⟨k, ?_⟩
  have h4 : (t * t) * (k * k) = (t * t) * D := by rw [← h]; grind
  exact Int.eq_of_mul_eq_mul_left (Int.mul_ne_zero ht ht) h4
theorem sq_mul {k h : Int} (hk : k ≠ 0) : IsSq (k * k * h) ↔ IsSq h := by
  constructor
  · rintro ⟨n, e⟩
    exact sq_of hk e
  · rintro ⟨n, rfl⟩
    exact ⟨k * n, by grind⟩
theorem heart_mul (k a b c : Int) : heart (a * k) (b * k) (c * k) = k * k * heart a b c := by unfold heart; grind
theorem g3_eq (a b c : Int) : g3 a b c = ((Nat.gcd (Nat.gcd a.natAbs b.natAbs) c.natAbs : Nat) : Int) := rfl
theorem g3_nn (a b c : Int) : 0 ≤ g3 a b c := Int.natCast_nonneg _
theorem g3_mul (k a b c : Int) : g3 (a * k) (b * k) (c * k) = (k.natAbs : Int) * g3 a b c := by
  rw [g3_eq, g3_eq, Int.natAbs_mul, Int.natAbs_mul, Int.natAbs_mul, Nat.gcd_mul_right, Nat.gcd_mul_right, Int.natCast_mul, Int.mul_comm]
theorem g3_pos {a b c : Int} (h : a ≠ 0) : 0 < g3 a b c := by
  rw [g3_eq]
  have h1 : 0 < Nat.gcd a.natAbs b.natAbs := Nat.gcd_pos_of_pos_left _ (by omega)
  have := Nat.gcd_pos_of_pos_left c.natAbs h1
  omega
theorem g3_dvd_a (a b c : Int) : g3 a b c ∣ a := by
  rw [g3_eq]
  exact Int.ofNat_dvd_left.mpr (Nat.dvd_trans (Nat.gcd_dvd_left _ _) (Nat.gcd_dvd_left _ _))
theorem g3_dvd_b (a b c : Int) : g3 a b c ∣ b := by
  rw [g3_eq]
  exact Int.ofNat_dvd_left.mpr (Nat.dvd_trans (Nat.gcd_dvd_left _ _) (Nat.gcd_dvd_right _ _))
theorem g3_dvd_c (a b c : Int) : g3 a b c ∣ c := by
  rw [g3_eq]
  exact Int.ofNat_dvd_left.mpr (Nat.gcd_dvd_right _ _)
theorem by3_dvd {a b c x : Int} (h : g3 a b c ∣ x) : by3 a b c ∣ x := by
  unfold by3
  split
  · exact Int.neg_dvd.mpr h
  · exact h
theorem by3_ne {a b c : Int} (h : a ≠ 0) : by3 a b c ≠ 0 := by
  have := g3_pos (b := b) (c := c) h
  unfold by3
  split <;> omega
theorem by3_abs (a b c : Int) : ((by3 a b c).natAbs : Int) = g3 a b c := by
  have := g3_nn a b c
  unfold by3
  split <;> omega
/-- what is left: A, B, C with a = by3 * A .. -/
theorem by3_split {a b c : Int} (h : a ≠ 0) : ∃ A B C : Int, a = A * by3 a b c ∧ b = B * by3 a b c ∧ c = C * by3 a b c ∧ a.fdiv (by3 a b c) = A ∧ b.fdiv (by3 a b c) = B ∧ c.fdiv (by3 a b c) = C ∧ 0 < A ∧ g3 A B C = 1 := by
  obtain ⟨A, hA⟩ := by3_dvd (g3_dvd_a a b c)
  obtain ⟨B, hB⟩ := by3_dvd (g3_dvd_b a b c)
  obtain ⟨C, hC⟩ := by3_dvd (g3_dvd_c a b c)
  have hn := by3_ne (b := b) (c := c) h
  have hg := g3_pos (b := b) (c := c) h
  have hab := by3_abs a b c
  have hsg : by3 a b c = if a < 0 then -(g3 a b c) else g3 a b c := rfl
  have key : g3 a b c = g3 a b c * g3 A B C := by
    have := g3_mul (by3 a b c) A B C
    rw [hab, Int.mul_comm A, Int.mul_comm B, Int.mul_comm C, ← hA, ← hB, ← hC] at this
    exact this
  generalize by3 a b c = g at *
  refine ⟨A, B, C, by rw [Int.mul_comm]; exact hA, by rw [Int.mul_comm]; exact hB, by rw [Int.mul_comm]; exact hC, ?_, ?_, ?_, ?_, ?_⟩
  · rw [hA]; exact Int.mul_fdiv_cancel_left A hn
  · rw [hB]; exact Int.mul_fdiv_cancel_left B hn
  · rw [hC]; exact Int.mul_fdiv_cancel_left C hn
  · rcases Int.lt_or_le 0 A with z | z
    · exact z
    · exfalso
      by_cases ha : a < 0
      · rw [if_pos ha] at hsg
        have := Int.mul_nonneg (show 0 ≤ -g by omega) (show 0 ≤ -A by omega)
        rw [Int.neg_mul_neg] at this
        omega
      · rw [if_neg ha] at hsg
        have := Int.mul_nonneg (show 0 ≤ g by omega) (show 0 ≤ -A by omega)
        rw [Int.mul_neg] at this
        omega
  · have z : g3 a b c * g3 A B C = g3 a b c * 1 := by rw [← key, Int.mul_one]
    exact Int.eq_of_mul_eq_mul_left (by omega) z
theorem root_low {a b c s : Int} (h : a ≠ 0) (hh : 0 ≤ heart a b c) (hs : ¬ IsSq (heart a b c)) (hside : s = 0 ∨ s = 1) : Root (a.fdiv (by3 a b c)) (b.fdiv (by3 a b c)) (c.fdiv (by3 a b c)) s := by
  obtain ⟨A, B, C, ea, eb, ec, fa, fb, fc, hA, hg⟩ := by3_split (b := b) (c := c) h
  have hn := by3_ne (b := b) (c := c) h
  rw [fa, fb, fc]
  have hm : heart a b c = by3 a b c * by3 a b c * heart A B C := by
    have := heart_mul (by3 a b c) A B C
    rw [← ea, ← eb, ← ec] at this
    exact this
  have h0 : heart a b c ≠ 0 := fun e => hs ⟨0, by rw [e]; rfl⟩
  refine ⟨hA, hside, hg, ?_, fun z => hs ?_⟩
  · rcases Int.lt_or_le 0 (heart A B C) with z | z
    · exact z
    · exfalso
      have h1 : 0 ≤ by3 a b c * by3 a b c := by
        rcases Int.lt_or_le 0 (by3 a b c) with y | y
        · exact Int.mul_nonneg (by omega) (by omega)
        · have := Int.mul_nonneg (show 0 ≤ -(by3 a b c) by omega) (show 0 ≤ -(by3 a b c) by omega)
          rw [Int.neg_mul_neg] at this
          exact this
      have := Int.mul_nonneg h1 (show 0 ≤ -(heart A B C) by omega)
      rw [Int.mul_neg] at this
      omega
  · rw [hm]
    exact (sq_mul hn).mpr z
/-- squares and their whole roots -/
theorem sq_iff {g n : Int} (g0 : 0 ≤ g) (h1 : g * g ≤ n) (h2 : n < (g + 1) * (g + 1)) : g * g = n ↔ IsSq n := by
  constructor
  · intro h
    exact ⟨g, h⟩
  · rintro ⟨k, rfl⟩
    have hk : k.natAbs = g.natAbs := by
      have e1 : g.natAbs * g.natAbs ≤ k.natAbs * k.natAbs := by
        rw [← Int.natAbs_mul, ← Int.natAbs_mul]
        have := Int.mul_nonneg g0 g0
        omega
      have e2 : k.natAbs * k.natAbs < (g.natAbs + 1) * (g.natAbs + 1) := by
        have a1 : ((k.natAbs * k.natAbs : Nat) : Int) = k * k := by rw [Int.natCast_mul]; exact Int.natAbs_mul_self' k
        have a2 : (((g.natAbs + 1) * (g.natAbs + 1) : Nat) : Int) = (g + 1) * (g + 1) := by
          rw [Int.natCast_mul, Int.natCast_add, show ((g.natAbs : Nat) : Int) = g by omega]; rfl
        omega
      have f1 : g.natAbs ≤ k.natAbs := Nat.mul_self_le_mul_self_iff.mp e1
      have f2 : k.natAbs < g.natAbs + 1 := Nat.mul_self_lt_mul_self_iff.mp e2
      omega
    have := Int.natAbs_mul_self' k
    have := Int.natAbs_mul_self' g
    rw [hk] at *
    omega
theorem sqrt_le {g n : Int} (g0 : 0 ≤ g) (h1 : g * g ≤ n) : g ≤ n := by
  by_cases z : g = 0
  · subst z; omega
  · have := Int.mul_le_mul_of_nonneg_left (show 1 ≤ g by omega) g0
    omega
end RM

namespace RM
/-! the order of numbers with two square roots, by squares -/
def S (n : Int) : Int := n * (n.natAbs : Int)
def sg (n : Int) : Int := if 0 < n then 1 else if n < 0 then -1 else 0
theorem S_abs (n : Int) : n * (if n < 0 then -n else n) = S n := by
  unfold S
  congr 1
  split <;> omega
theorem S_nn {n : Int} (h : 0 ≤ n) : S n = n * n := by
  unfold S
  congr 1
  omega
theorem S_np {n : Int} (h : n ≤ 0) : S n = -(n * n) := by
  unfold S
  rw [show (n.natAbs : Int) = -n by omega, Int.mul_neg]
theorem S_mul (x y : Int) : S (x * y) = S x * S y := by
  unfold S
  rw [Int.natAbs_mul, Int.natCast_mul]
  grind
theorem S_neg (x : Int) : S (-x) = -(S x) := by
  unfold S
  rw [Int.natAbs_neg, Int.neg_mul]
theorem sg_neg (x : Int) : sg (-x) = -(sg x) := by
  unfold sg
  split <;> split <;> (try split) <;> (try split) <;> omega
theorem sg_pos {x : Int} (h : 0 < x) : sg x = 1 := if_pos h
theorem sg_nega {x : Int} (h : x < 0) : sg x = -1 := by
  unfold sg
  rw [if_neg (by omega), if_pos h]
theorem sg_zero : sg 0 = 0 := rfl
theorem sg_scale {k x : Int} (hk : 0 < k) : sg (k * x) = sg x := by
  rcases Int.lt_trichotomy x 0 with h | h | h
  · rw [sg_nega h, sg_nega (Int.mul_neg_of_pos_of_neg hk h)]
  · subst h; rw [Int.mul_zero]
  · rw [sg_pos h, sg_pos (Int.mul_pos hk h)]
theorem sg_cases (x : Int) : (sg x = 1 ∧ 0 < x) ∨ (sg x = -1 ∧ x < 0) ∨ (sg x = 0 ∧ x = 0) := by
  rcases Int.lt_trichotomy x 0 with h | h | h
  · exact .inr (.inl ⟨sg_nega h, h⟩)
  · subst h; exact .inr (.inr ⟨rfl, rfl⟩)
  · exact .inl ⟨sg_pos h, h⟩
theorem sg_S (x : Int) : sg (S x) = sg x := by
  rcases Int.lt_trichotomy x 0 with h | h | h
  · rw [S_np (by omega), sg_nega h]
    have := Int.mul_pos (show 0 < -x by omega) (show 0 < -x by omega)
    rw [Int.neg_mul_neg] at this
    exact sg_nega (by omega)
  · subst h; rfl
  · rw [S_nn (by omega), sg_pos h, sg_pos (Int.mul_pos h h)]
/-- the sign of X + x + y, where x, y have the signed squares P, Q -/
def F (X P Q : Int) : Int := sg (S (S X + sg (P + Q) * ((P.natAbs : Int) + (Q.natAbs : Int))) + sg (P + Q) * 4 * (P * Q))
def cmp2 (X p D q E : Int) : Int := sg (S (S X + sg (S p * D + S q * E) * (p * p * D + q * q * E)) + S (sg (S p * D + S q * E) * 2 * p * q) * (D * E))
theorem S_sg (x : Int) : S (sg x) = sg x := by
  rcases sg_cases x with h | h | h <;> rw [h.1] <;> rfl
theorem abs_S (p D : Int) (hD : 0 ≤ D) : ((S p * D).natAbs : Int) = p * p * D := by
  unfold S
  rw [Int.natAbs_mul, Int.natAbs_mul, Int.natAbs_natCast, Int.natCast_mul, Int.natCast_mul, Int.natAbs_mul_self', show (D.natAbs : Int) = D by omega]
theorem cmp2_F {X p D q E : Int} (hD : 0 ≤ D) (hE : 0 ≤ E) : cmp2 X p D q E = F X (S p * D) (S q * E) := by
  unfold cmp2 F
  rw [abs_S p D hD, abs_S q E hE, S_mul, S_mul, S_mul, S_sg, show S 2 = 4 from rfl]
  congr 2
  grind
theorem F_neg (X P Q : Int) : F (-X) (-P) (-Q) = -(F X P Q) := by
  unfold F
  rw [← sg_neg, show -P + -Q = -(P + Q) by omega, sg_neg, S_neg, Int.natAbs_neg, Int.natAbs_neg, Int.neg_mul, show -S X + -(sg (P + Q) * ((P.natAbs : Int) + (Q.natAbs : Int))) = -(S X + sg (P + Q) * ((P.natAbs : Int) + (Q.natAbs : Int))) by omega, S_neg]
  congr 1
  grind
theorem F_swap (X P Q : Int) : F X P Q = F X Q P := by
  unfold F
  rw [Int.add_comm P Q, Int.add_comm (P.natAbs : Int), Int.mul_comm P Q]
/-! x < a, y ≤ c (one of them less): x + y < a + c -/
theorem S_ge {a P : Int} (h : P ≤ S a) (hP : 0 ≤ P) : 0 ≤ a ∧ P ≤ a * a := by
  rcases Int.lt_or_le a 0 with z | z
  · rw [S_np (by omega)] at h
    have := Int.mul_pos (show 0 < -a by omega) (show 0 < -a by omega)
    rw [Int.neg_mul_neg] at this
    omega
  · rw [S_nn z] at h
    exact ⟨z, h⟩
theorem _root_.Int.mul_self_nonneg' (x : Int) : 0 ≤ x * x := by
  rcases Int.lt_or_le x 0 with z | z
  · have := Int.mul_nonneg (show 0 ≤ -x by omega) (show 0 ≤ -x by omega)
    rw [Int.neg_mul_neg] at this
    exact this
  · exact Int.mul_nonneg z z
theorem _root_.Int.mul_self_nonneg_pos {x : Int} (h : x ≠ 0) : 0 < x * x := by
  have h1 := Int.mul_self_nonneg' x
  have h2 := Int.mul_ne_zero h h
  omega
theorem sq_lt {x y : Int} (hx : 0 ≤ x) (h : x < y) : x * x < y * y := by
  have h1 := Int.mul_le_mul_of_nonneg_left (show x ≤ y by omega) hx
  have h2 := Int.mul_lt_mul_of_pos_right h (show 0 < y by omega)
  omega
theorem sq_le {x y : Int} (hx : 0 ≤ x) (h : x ≤ y) : x * x ≤ y * y := Int.mul_le_mul h h hx (by omega)
theorem lt_of_sq {x y : Int} (hy : 0 ≤ y) (h : x * x < y * y) : x < y := by
  rcases Int.lt_or_le x y with z | z
  · exact z
  · have := sq_le hy z
    omega
theorem both_up {P Q a c : Int} (hP : 0 ≤ P) (hQ : 0 ≤ Q) (h1 : P ≤ S a) (h2 : Q ≤ S c) (h : P < S a ∨ Q < S c) : F (-(a + c)) P Q = -1 := by
  obtain ⟨ha, pa⟩ := S_ge h1 hP
  obtain ⟨hc, qc⟩ := S_ge h2 hQ
  rw [S_nn ha, S_nn hc] at h
  have ac := Int.mul_nonneg ha hc
  unfold F
  rw [S_np (show -(a + c) ≤ 0 by omega)]
  rcases Int.lt_or_le 0 (P + Q) with hs | hs
  · rw [sg_pos hs, show (P.natAbs : Int) = P by omega, show (Q.natAbs : Int) = Q by omega]
    apply sg_nega
    have ew : -(-(a + c) * -(a + c)) + 1 * (P + Q) = -((a * a - P) + (c * c - Q) + 2 * (a * c)) := by grind
    rw [ew, S_np (by omega)]
    have pq : P * Q ≤ a * a * (c * c) := Int.mul_le_mul pa qc hQ (Int.mul_nonneg ha ha)
    have e2 : a * a * (c * c) = (a * c) * (a * c) := by grind
    generalize a * a = A at *
    generalize c * c = C at *
    generalize a * c = m at *
    generalize P * Q = PQ at *
    obtain ⟨t, ht, ht1⟩ : ∃ t, (A - P) + (C - Q) = t ∧ 1 ≤ t := ⟨_, rfl, by omega⟩
    rw [ht]
    have tt := Int.mul_pos (show 0 < t by omega) (show 0 < t by omega)
    have tm := Int.mul_nonneg (show 0 ≤ t by omega) ac
    have e3 : -(t + 2 * m) * -(t + 2 * m) = t * t + 4 * (t * m) + 4 * (m * m) := by grind
    rw [e3]
    omega
  · have p0 : P = 0 := by omega
    have q0 : Q = 0 := by omega
    subst p0 q0
    have aa : 0 < a + c := by
      rcases Int.lt_or_le 0 a with z | z
      · omega
      · have : a = 0 := by omega
        subst this
        rcases Int.lt_or_le 0 c with y | y
        · omega
        · have : c = 0 := by omega
          subst this
          simp at h
    have := Int.mul_pos aa aa
    rw [Int.neg_mul_neg, show sg (0 + 0) = 0 from rfl]
    generalize (a + c) * (a + c) = m at *
    rw [S_np (by omega)]
    apply sg_nega
    have e : -(-m + 0 * (((0 : Int).natAbs : Int) + ((0 : Int).natAbs : Int))) * -(-m + 0 * (((0 : Int).natAbs : Int) + ((0 : Int).natAbs : Int))) = m * m := by simp
    have mm := Int.mul_pos this this
    grind
theorem both_down {P Q a c : Int} (hP : P ≤ 0) (hQ : Q ≤ 0) (hs : P + Q < 0) (h1 : P ≤ S a) (h2 : Q ≤ S c) (h : P < S a ∨ Q < S c) : F (-(a + c)) P Q = -1 := by
  obtain ⟨p, rfl⟩ : ∃ p, P = -p := ⟨-P, by omega⟩
  obtain ⟨q, rfl⟩ : ∃ q, Q = -q := ⟨-Q, by omega⟩
  have pq := Int.mul_nonneg (show 0 ≤ p by omega) (show 0 ≤ q by omega)
  unfold F
  rw [sg_nega hs, show (((-p).natAbs : Nat) : Int) = p by omega, show (((-q).natAbs : Nat) : Int) = q by omega, S_neg, Int.neg_mul_neg]
  apply sg_nega
  obtain ⟨w, hw⟩ : ∃ w, -(S (a + c)) + -1 * (p + q) = w := ⟨_, rfl⟩
  rw [hw]
  rcases Int.lt_or_le w 0 with z | z
  · rw [S_np (by omega)]
    have := Int.mul_pos (show 0 < -w by omega) (show 0 < -w by omega)
    rw [Int.neg_mul_neg] at this
    omega
  · rw [S_nn z]
    have zneg : a + c < 0 := by
      rcases Int.lt_or_le (a + c) 0 with y | y
      · exact y
      · rw [S_nn y] at hw
        have := Int.mul_nonneg y y
        omega
    rw [S_np (by omega)] at hw
    rcases Int.lt_or_le a 0 with ya | ya
    · rw [S_np (show a ≤ 0 by omega)] at h1 h
      rcases Int.lt_or_le c 0 with yc | yc
      · rw [S_np (show c ≤ 0 by omega)] at h2 h
        have ac := Int.mul_pos (show 0 < -a by omega) (show 0 < -c by omega)
        rw [Int.neg_mul_neg] at ac
        have e1 : (a + c) * (a + c) = a * a + c * c + 2 * (a * c) := by grind
        have wl : w < 2 * (a * c) := by omega
        have w2 := sq_lt z wl
        have pl : a * a * (c * c) ≤ p * q := Int.mul_le_mul (by omega) (by omega) (by have := sq_le (show 0 ≤ -c by omega) (show -c ≤ -c by omega); have := Int.mul_nonneg (show 0 ≤ -c by omega) (show 0 ≤ -c by omega); rw [Int.neg_mul_neg] at this; omega) (by omega)
        have e2 : 2 * (a * c) * (2 * (a * c)) = 4 * (a * a * (c * c)) := by grind
        omega
      · rw [S_nn yc] at h2 h
        exfalso
        have n1 := sq_le (x := -(a + c)) (y := -a) (by omega) (by omega)
        rw [Int.neg_mul_neg, Int.neg_mul_neg] at n1
        have c1 : c = 0 ∨ (a + c) * (a + c) < a * a := by
          rcases Int.lt_or_le 0 c with y | y
          · have := sq_lt (x := -(a + c)) (y := -a) (by omega) (by omega)
            rw [Int.neg_mul_neg, Int.neg_mul_neg] at this
            exact .inr this
          · exact .inl (by omega)
        rcases c1 with rfl | c1
        · simp at h
          omega
        · omega
    · rw [S_nn ya] at h1 h
      rw [S_np (show c ≤ 0 by omega)] at h2 h
      exfalso
      have n1 := sq_le (x := -(a + c)) (y := -c) (by omega) (by omega)
      rw [Int.neg_mul_neg, Int.neg_mul_neg] at n1
      have c1 : a = 0 ∨ (a + c) * (a + c) < c * c := by
        rcases Int.lt_or_le 0 a with y | y
        · have := sq_lt (x := -(a + c)) (y := -c) (by omega) (by omega)
          rw [Int.neg_mul_neg, Int.neg_mul_neg] at this
          exact .inr this
        · exact .inl (by omega)
      rcases c1 with rfl | c1
      · simp at h
        omega
      · omega
theorem up_down {p q a c : Int} (hp : 0 < p) (hq : 0 < q) (h1 : p ≤ S a) (h2 : -q ≤ S c) (h : p < S a ∨ -q < S c) : F (-(a + c)) p (-q) = -1 := by
  obtain ⟨ha, pa⟩ := S_ge h1 (by omega)
  have apos : 0 < a := by
    rcases Int.lt_or_le 0 a with z | z
    · exact z
    · have : a = 0 := by omega
      subst this
      omega
  rw [S_nn ha] at h
  have pq := Int.mul_pos hp hq
  unfold F
  rw [show (p.natAbs : Int) = p by omega, show (((-q).natAbs : Nat) : Int) = q by omega, S_neg, Int.mul_neg p q]
  rcases Int.lt_trichotomy q p with hs | hs | hs
  · -- p greater
    rw [sg_pos (show 0 < p + -q by omega)]
    apply sg_nega
    obtain ⟨w, hw⟩ : ∃ w, -(S (a + c)) + 1 * (p + q) = w := ⟨_, rfl⟩
    rw [hw]
    rcases Int.lt_or_le 0 w with z | z
    · rw [S_nn (by omega)]
      rcases Int.lt_or_le c 0 with yc | yc
      · rw [S_np (show c ≤ 0 by omega)] at h2 h
        have kl : -c < a := lt_of_sq ha (by rw [Int.neg_mul_neg]; omega)
        rw [S_nn (show 0 ≤ a + c by omega)] at hw
        obtain ⟨k, rfl⟩ : ∃ k, c = -k := ⟨-c, by omega⟩
        rw [Int.neg_mul_neg] at h2 h
        obtain ⟨y, rfl⟩ : ∃ y, a = y + k := ⟨a - k, by omega⟩
        have ypos : 0 < y := by omega
        rw [show y + k + -k = y by omega] at hw
        have e1 : (y + k) * (y + k) = y * y + 2 * (y * k) + k * k := by grind
        rw [e1] at pa h
        obtain ⟨T, hT⟩ : ∃ T, p - q - y * y = T := ⟨_, rfl⟩
        have heron : T * T - 4 * (y * y * q) = w * w - 4 * (p * q) := by subst hT hw; grind
        have tl : T < 2 * (y * k) := by omega
        have yy := Int.mul_pos ypos ypos
        have yq := Int.mul_pos yy hq
        rcases Int.lt_or_le T 0 with t0 | t0
        · have t1 : -T < y * y := by omega
          have t2 : -T < 2 * q := by omega
          have t3 : -T * -T < y * y * (2 * q) := by
            have a1 := Int.mul_lt_mul_of_pos_right t1 (show 0 < -T by omega)
            have a2 := Int.mul_lt_mul_of_pos_left t2 yy
            omega
          rw [Int.neg_mul_neg, show y * y * (2 * q) = 2 * (y * y * q) by grind] at t3
          omega
        · have t1 := sq_lt t0 tl
          have t2 : y * y * (k * k) ≤ y * y * q := Int.mul_le_mul_of_nonneg_left (by omega) (by omega)
          have t3 : 2 * (y * k) * (2 * (y * k)) = 4 * (y * y * (k * k)) := by grind
          omega
      · rw [S_nn (show 0 ≤ a + c by omega)] at hw
        have n1 := sq_le ha (show a ≤ a + c by omega)
        have wq : w ≤ q := by omega
        have w2 := sq_le (show 0 ≤ w by omega) wq
        have w3 := Int.mul_lt_mul_of_pos_right hs hq
        omega
    · rw [S_np z]
      have := Int.mul_nonneg (show 0 ≤ -w by omega) (show 0 ≤ -w by omega)
      rw [Int.neg_mul_neg] at this
      omega
  · -- as great
    subst hs
    have zpos : 0 < a + c := by
      rcases Int.lt_or_le c 0 with yc | yc
      · rw [S_np (show c ≤ 0 by omega)] at h2 h
        have := lt_of_sq (x := -c) ha (by rw [Int.neg_mul_neg]; omega)
        omega
      · omega
    rw [show q + -q = 0 by omega, sg_zero, S_nn (show 0 ≤ a + c by omega)]
    have m0 := Int.mul_pos zpos zpos
    generalize (a + c) * (a + c) = m at *
    apply sg_nega
    rw [show -m + 0 * (q + q) = -m by omega, S_np (by omega), Int.neg_mul_neg]
    have := Int.mul_pos m0 m0
    omega
  · -- q greater
    rw [sg_nega (show p + -q < 0 by omega)]
    apply sg_nega
    rcases Int.lt_or_le (a + c) 0 with z | z
    · rw [S_np (show a + c ≤ 0 by omega)]
      rw [S_np (show c ≤ 0 by omega)] at h2 h
      obtain ⟨n, hn⟩ : ∃ n, a + c = -n := ⟨-(a + c), by omega⟩
      obtain rfl : c = -(a + n) := by omega
      rw [Int.neg_mul_neg] at h2 h
      rw [hn, Int.neg_mul_neg]
      have e1 : (a + n) * (a + n) = a * a + 2 * (a * n) + n * n := by grind
      rw [e1] at h2 h
      have an := Int.mul_pos apos (show 0 < n by omega)
      have nn := Int.mul_pos (show 0 < n by omega) (show 0 < n by omega)
      obtain ⟨w, hw⟩ : ∃ w, p + q - n * n = w := ⟨_, rfl⟩
      rw [show - -(n * n) + -1 * (p + q) = -w by omega, S_np (show -w ≤ 0 by omega), Int.neg_mul_neg]
      obtain ⟨U, hU⟩ : ∃ U, q - p - n * n = U := ⟨_, rfl⟩
      have heron : w * w - 4 * (p * q) = U * U - 4 * (p * (n * n)) := by subst hU hw; grind
      have ul : 2 * (a * n) < U := by omega
      have u2 := sq_lt (by omega) ul
      have u3 : 2 * (a * n) * (2 * (a * n)) = 4 * (a * a * (n * n)) := by grind
      have u4 : p * (n * n) ≤ a * a * (n * n) := Int.mul_le_mul_of_nonneg_right pa (by omega)
      omega
    · rw [S_nn z]
      have m0 := Int.mul_nonneg z z
      generalize (a + c) * (a + c) = m at *
      have w1 : 0 < p + q + m := by omega
      rw [show -m + -1 * (p + q) = -(p + q + m) by omega, S_np (by omega), Int.neg_mul_neg]
      have u1 := sq_le (show 0 ≤ p + q by omega) (show p + q ≤ p + q + m by omega)
      have u2 := Int.mul_pos (show 0 < q - p by omega) (show 0 < q - p by omega)
      have u3 : (p + q) * (p + q) = 4 * (p * q) + (q - p) * (q - p) := by grind
      omega
/-- all cases -/
theorem F_less {P Q a c : Int} (h1 : P ≤ S a) (h2 : Q ≤ S c) (h : P < S a ∨ Q < S c) : F (-(a + c)) P Q = -1 := by
  rcases Int.lt_or_le P 0 with hp | hp
  · rcases Int.lt_or_le 0 Q with hq | hq
    · obtain ⟨p, rfl⟩ : ∃ p, P = -p := ⟨-P, by omega⟩
      rw [F_swap, Int.add_comm]
      exact up_down hq (by omega) h2 h1 h.symm
    · exact both_down (by omega) hq (by omega) h1 h2 h
  · rcases Int.lt_or_le Q 0 with hq | hq
    · rcases Int.lt_or_le 0 P with hp0 | hp0
      · obtain ⟨q, rfl⟩ : ∃ q, Q = -q := ⟨-Q, by omega⟩
        exact up_down hp0 (by omega) h1 h2 h
      · exact both_down hp0 (by omega) (by omega) h1 h2 h
    · exact both_up hp hq h1 h2 h
end RM

namespace RM

/-! numbers: (A + t * root of D) / L -/
inductive NumR : List Int → Int → Int → Int → Int → Prop where
  | frac {u l : Int} (hl : 0 < l) (hg : Int.gcd u l = 1) : NumR [u, l] u 0 0 l
  | root {a b c s : Int} (h : Root a b c s) : NumR [a, b, c, s] (-b) (if s = 1 then 1 else -1) (heart a b c) (2 * a)
def cmpN (A1 t1 D1 L1 A2 t2 D2 L2 : Int) : Int := cmp2 (A1 * L2 - A2 * L1) (t1 * L2) D1 (-t2 * L1) D2
theorem NumR.L_pos {xs : List Int} {A t D L : Int} (h : NumR xs A t D L) : 0 < L := by
  cases h with
  | frac hl hg => exact hl
  | root h => have := h.pos; omega
theorem NumR.D_nn {xs : List Int} {A t D L : Int} (h : NumR xs A t D L) : 0 ≤ D := by
  cases h with
  | frac hl hg => exact Int.le_refl _
  | root h => have := h.hp; omega
/-- where u / l lies -/
def sA (A t D L u l : Int) : Int := S (A * l - u * L) + S (t * l) * D
theorem cmpN_turn {A1 t1 D1 L1 A2 t2 D2 L2 : Int} (hD1 : 0 ≤ D1) (hD2 : 0 ≤ D2) : cmpN A2 t2 D2 L2 A1 t1 D1 L1 = -(cmpN A1 t1 D1 L1 A2 t2 D2 L2) := by
  unfold cmpN
  rw [cmp2_F hD1 hD2, cmp2_F hD2 hD1, ← F_neg, F_swap, Int.neg_mul, Int.neg_mul, S_neg, S_neg]
  congr 1
  · omega
  · grind
  · grind
theorem cmpN_01 (A1 t1 D1 L1 A2 t2 D2 L2 : Int) : cmpN A1 t1 D1 L1 A2 t2 D2 L2 = -1 ∨ cmpN A1 t1 D1 L1 A2 t2 D2 L2 = 0 ∨ cmpN A1 t1 D1 L1 A2 t2 D2 L2 = 1 := by
  unfold cmpN cmp2
  generalize (S _ + S _ * (D1 * D2)) = x
  rcases sg_cases x with h | h | h
  · exact .inr (.inr h.1)
  · exact .inl h.1
  · exact .inr (.inl h.1)
theorem sg_eq_zero {x : Int} (h : sg x = 0) : x = 0 := by
  rcases sg_cases x with y | y | y
  · omega
  · omega
  · exact y.2
theorem S_eq_zero {x : Int} (h : S x = 0) : x = 0 := sg_eq_zero (by rw [← sg_S, h]; rfl)
theorem F_zero_up {X p D q E : Int} (hp : p ≠ 0) (hD : 0 < D) (hE : 0 < E) (hs : ¬ IsSq D) (hP : 0 < S p * D + S q * E) (h : F X (S p * D) (S q * E) = 0) : False := by
  have aP := abs_S p D (by omega)
  have aQ := abs_S q E (by omega)
  have pp : 0 < p * p * D := by
    have := Int.mul_self_nonneg_pos hp
    exact Int.mul_pos this hD
  have h1 := sg_eq_zero h
  rw [sg_pos hP] at h1
  generalize hPd : S p * D = P at *
  generalize hQd : S q * E = Q at *
  rw [Int.one_mul, Int.one_mul] at h1
  obtain ⟨A, hA⟩ : ∃ A, (P.natAbs : Int) = A := ⟨_, rfl⟩
  obtain ⟨B, hB⟩ : ∃ B, (Q.natAbs : Int) = B := ⟨_, rfl⟩
  rw [hA, hB] at h1
  obtain ⟨w, hw⟩ : ∃ w, S X + (A + B) = w := ⟨_, rfl⟩
  rw [hw] at h1
  have hAB : 4 * (A * B) = w * w := by
    have e1 : A * B = ((P * Q).natAbs : Int) := by rw [← hA, ← hB, Int.natAbs_mul, Int.natCast_mul]
    have e2 : ((S w).natAbs : Int) = w * w := by
      have := abs_S w 1 (by decide)
      rw [Int.mul_one, Int.mul_one] at this
      exact this
    omega
  have A0 : 0 ≤ A := by omega
  have B0 : 0 ≤ B := by omega
  have wle : w ≤ A + B := by
    rcases Int.lt_or_le (A + B) w with z | z
    · have := sq_lt (show 0 ≤ A + B by omega) z
      have e : (A + B) * (A + B) = 4 * (A * B) + (A - B) * (A - B) := by grind
      have := Int.mul_self_nonneg' (A - B)
      omega
    · exact z
  have hX : X * X = A + B - w := by
    rcases Int.lt_or_le 0 X with z | z
    · rw [S_nn (by omega)] at hw
      have := Int.mul_pos z z
      omega
    · rw [S_np z] at hw
      omega
  have key : (2 * A - w) * (2 * A - w) = (2 * X * p) * (2 * X * p) * D := by
    have e1 : (2 * X * p) * (2 * X * p) * D = 4 * (X * X) * (p * p * D) := by grind
    rw [e1, hX, ← aP, hA]
    grind
  by_cases x0 : X = 0
  · subst x0
    have ew : w = A + B := by omega
    have e : (A - B) * (A - B) = 0 := by
      have : (A + B) * (A + B) = 4 * (A * B) + (A - B) * (A - B) := by grind
      rw [ew] at hAB
      omega
    have eAB : A = B := by
      rcases Int.mul_eq_zero.mp e with z | z <;> omega
    have wp : 0 < w := by omega
    rw [S_nn (by omega)] at h1
    have := Int.mul_pos wp wp
    have pq : P * Q < 0 := by omega
    have : P = -Q ∨ P = Q := by omega
    rcases this with z | z
    · omega
    · subst z
      have := Int.mul_self_nonneg' P
      omega
  · exact hs (sq_of (Int.mul_ne_zero (Int.mul_ne_zero (by decide) x0) hp) key)
theorem F_zero_rr {X p D q E : Int} (hp : p ≠ 0) (hD : 0 < D) (hE : 0 < E) (hs : ¬ IsSq D) (h : F X (S p * D) (S q * E) = 0) : S p * D + S q * E = 0 ∧ X = 0 := by
  rcases sg_cases (S p * D + S q * E) with z | z | z
  · exact (F_zero_up hp hD hE hs z.2 h).elim
  · have h' : F (-X) (S (-p) * D) (S (-q) * E) = 0 := by
      rw [S_neg, S_neg, Int.neg_mul, Int.neg_mul, F_neg, h]
      rfl
    exact (F_zero_up (p := -p) (q := -q) (by omega) hD hE hs (by rw [S_neg, S_neg, Int.neg_mul, Int.neg_mul]; omega) h').elim
  · refine ⟨z.2, ?_⟩
    have h1 := sg_eq_zero h
    rw [z.1, Int.zero_mul, Int.add_zero, Int.zero_mul, Int.zero_mul, Int.add_zero] at h1
    exact S_eq_zero (S_eq_zero h1)
theorem F_zero_fr {X q E : Int} (hq : q ≠ 0) (hE : 0 < E) (hs : ¬ IsSq E) (h : F X 0 (S q * E) = 0) : False := by
  have aQ := abs_S q E (by omega)
  have h1 := sg_eq_zero h
  rw [Int.zero_mul, Int.mul_zero, Int.add_zero, Int.zero_add] at h1
  have h2 := S_eq_zero h1
  have qq : 0 < q * q * E := Int.mul_pos (Int.mul_self_nonneg_pos hq) hE
  have hX : X * X = q * q * E := by
    have e2 : ((S X).natAbs : Int) = X * X := by
      have := abs_S X 1 (by decide)
      rw [Int.mul_one, Int.mul_one] at this
      exact this
    rcases sg_cases (S q * E) with z | z | z
    · rw [z.1] at h2; omega
    · rw [z.1] at h2; omega
    · omega
  exact hs (sq_of hq hX)
end RM

namespace RM
/-- both are one -/
theorem same_root {a1 b1 c1 s1 a2 b2 c2 s2 : Int} (h1 : Root a1 b1 c1 s1) (h2 : Root a2 b2 c2 s2) (hX : -b1 * (2 * a2) - -b2 * (2 * a1) = 0)
    (hP : S ((if s1 = 1 then 1 else -1) * (2 * a2)) * heart a1 b1 c1 + S (-(if s2 = 1 then 1 else -1) * (2 * a1)) * heart a2 b2 c2 = 0) : a1 = a2 ∧ b1 = b2 ∧ c1 = c2 ∧ s1 = s2 := by
  have p1 := h1.pos
  have p2 := h2.pos
  have d1 := h1.hp
  have d2 := h2.hp
  have q1 := Int.mul_pos (show 0 < 2 * a1 by omega) (show 0 < 2 * a1 by omega)
  have q2 := Int.mul_pos (show 0 < 2 * a2 by omega) (show 0 < 2 * a2 by omega)
  have m1 := Int.mul_pos q2 d1
  have m2 := Int.mul_pos q1 d2
  have eb : b1 * a2 = b2 * a1 := by grind
  have hh : s1 = s2 ∧ (2 * a2) * (2 * a2) * heart a1 b1 c1 = (2 * a1) * (2 * a1) * heart a2 b2 c2 := by
    rw [S_mul (if s1 = 1 then 1 else -1) (2 * a2), S_mul (-(if s2 = 1 then 1 else -1)) (2 * a1), S_nn (show 0 ≤ 2 * a2 by omega), S_nn (show 0 ≤ 2 * a1 by omega), S_neg] at hP
    rcases h1.side with e1 | e1 <;> rcases h2.side with e2 | e2 <;> subst e1 <;> subst e2 <;>
      simp only [show ((0 : Int) = 1) = False from by simp, if_true, if_false, show S 1 = 1 from rfl, show S (-1) = -1 from rfl, Int.one_mul, Int.neg_mul, Int.neg_neg] at hP <;> (first | (exact ⟨rfl, by omega⟩) | omega)
  obtain ⟨es, hh⟩ := hh
  have ec : c1 * a2 = c2 * a1 := by
    have e1 : (2 * a2) * (2 * a2) * heart a1 b1 c1 = 4 * ((b1 * a2) * (b1 * a2)) - 16 * (a1 * a2) * (c1 * a2) := by unfold heart; grind
    have e2 : (2 * a1) * (2 * a1) * heart a2 b2 c2 = 4 * ((b2 * a1) * (b2 * a1)) - 16 * (a1 * a2) * (c2 * a1) := by unfold heart; grind
    rw [e1, e2, eb] at hh
    have h16 : 16 * (a1 * a2) * (c1 * a2) = 16 * (a1 * a2) * (c2 * a1) := by omega
    have := Int.mul_pos p1 p2
    exact Int.eq_of_mul_eq_mul_left (by omega) h16
  have g1 := g3_mul a2 a1 b1 c1
  have g2 := g3_mul a1 a2 b2 c2
  rw [h1.low] at g1
  rw [h2.low] at g2
  rw [eb, ec, Int.mul_comm a1 a2] at g1
  have ea : a1 = a2 := by omega
  subst ea
  exact ⟨rfl, Int.eq_of_mul_eq_mul_right (by omega) eb, Int.eq_of_mul_eq_mul_right (by omega) ec, es⟩
theorem same_frac {u1 l1 u2 l2 : Int} (h1 : 0 < l1) (h2 : 0 < l2) (g1 : Int.gcd u1 l1 = 1) (g2 : Int.gcd u2 l2 = 1) (h : u1 * l2 - u2 * l1 = 0) : u1 = u2 ∧ l1 = l2 := by
  have e1 := gcd_times (m := l2) g1 h2
  have e2 := gcd_times (m := l1) g2 h1
  rw [show u1 * l2 = u2 * l1 by omega, Int.mul_comm l1 l2, e2] at e1
  subst e1
  exact ⟨Int.eq_of_mul_eq_mul_right (a := l1) (by omega) (by omega), rfl⟩
theorem cmpN_zero {xs ys : List Int} {A1 t1 D1 L1 A2 t2 D2 L2 : Int} (h1 : NumR xs A1 t1 D1 L1) (h2 : NumR ys A2 t2 D2 L2) : cmpN A1 t1 D1 L1 A2 t2 D2 L2 = 0 ↔ xs = ys := by
  have z : S 0 = 0 := rfl
  have tn : ∀ s : Int, (if s = 1 then (1 : Int) else -1) ≠ 0 := fun s => by split <;> decide
  constructor
  · intro h
    unfold cmpN at h
    rw [cmp2_F h1.D_nn h2.D_nn] at h
    cases h1 with
    | @frac u1 l1 hl1 hg1 =>
      cases h2 with
      | @frac u2 l2 hl2 hg2 =>
        simp only [Int.zero_mul, Int.neg_zero, z, Int.mul_zero] at h
        have := S_eq_zero (S_eq_zero (x := S (A1 * L2 - A2 * L1)) (by
          have := sg_eq_zero h
          simpa using this))
        obtain ⟨rfl, rfl⟩ := same_frac hl1 hl2 hg1 hg2 this
        rfl
      | @root a b c s r =>
        rw [Int.zero_mul, z, Int.zero_mul] at h
        exact (F_zero_fr (Int.mul_ne_zero (by have := tn s; omega) (by omega)) r.hp r.ns h).elim
    | @root a1 b1 c1 s1 r1 =>
      cases h2 with
      | @frac u2 l2 hl2 hg2 =>
        rw [Int.neg_zero, Int.zero_mul, z, Int.zero_mul, F_swap] at h
        exact (F_zero_fr (Int.mul_ne_zero (tn s1) (by omega)) r1.hp r1.ns h).elim
      | @root a2 b2 c2 s2 r2 =>
        have p2 := r2.pos
        obtain ⟨hP, hX⟩ := F_zero_rr (Int.mul_ne_zero (tn s1) (by omega)) r1.hp r2.hp r1.ns h
        obtain ⟨rfl, rfl, rfl, rfl⟩ := same_root r1 r2 hX hP
        rfl
  · intro h
    subst h
    have e : A1 = A2 ∧ t1 = t2 ∧ D1 = D2 ∧ L1 = L2 := by
      cases h1 <;> cases h2 <;> exact ⟨rfl, rfl, rfl, rfl⟩
    obtain ⟨rfl, rfl, rfl, rfl⟩ := e
    unfold cmpN
    rw [cmp2_F h1.D_nn h1.D_nn, Int.neg_mul, S_neg, Int.neg_mul, Int.sub_self]
    unfold F
    rw [show S (t1 * L1) * D1 + -(S (t1 * L1) * D1) = 0 by omega, sg_zero, Int.zero_mul, Int.zero_mul, Int.zero_mul]
    rfl
/-! above, by the equation -/
def abv (a b c s u l : Int) : Bool := if 0 < 2 * a * u + b * l then decide (s = 1) && decide (a * u * u + b * u * l + c * l * l < 0) else decide (s = 1) || decide (0 < a * u * u + b * u * l + c * l * l)
theorem abv_sA {a b c s u l : Int} (h : Root a b c s) (hl : 0 < l) : (abv a b c s u l = true → 0 < sA (-b) (if s = 1 then 1 else -1) (heart a b c) (2 * a) u l) ∧ (abv a b c s u l = false → sA (-b) (if s = 1 then 1 else -1) (heart a b c) (2 * a) u l < 0) := by
  have ll := Int.mul_pos hl hl
  have pa := h.pos
  have lh := Int.mul_pos ll h.hp
  obtain ⟨y, hy⟩ : ∃ y, 2 * a * u + b * l = y := ⟨_, rfl⟩
  obtain ⟨f, hf⟩ : ∃ f, a * u * u + b * u * l + c * l * l = f := ⟨_, rfl⟩
  have ey : -b * l - u * (2 * a) = -y := by rw [← hy]; grind
  have e4 : 4 * a * f = y * y - l * l * heart a b c := by subst hy hf; unfold heart; grind
  have ne : y * y ≠ l * l * heart a b c := fun e => h.ns (sq_of (by omega) e)
  have fs : (f < 0 ↔ y * y < l * l * heart a b c) := by
    constructor
    · intro z
      have := Int.mul_neg_of_pos_of_neg (show 0 < 4 * a by omega) z
      omega
    · intro z
      rcases Int.lt_or_le f 0 with w | w
      · exact w
      · have := Int.mul_nonneg (show 0 ≤ 4 * a by omega) w
        omega
  have fp : (0 < f ↔ l * l * heart a b c < y * y) := by
    constructor
    · intro z
      have := Int.mul_pos (show 0 < 4 * a by omega) z
      omega
    · intro z
      rcases Int.lt_or_le 0 f with w | w
      · exact w
      · have := Int.mul_nonneg (show 0 ≤ 4 * a by omega) (show 0 ≤ -f by omega)
        rw [Int.mul_neg] at this
        omega
  have yy := Int.mul_self_nonneg' y
  unfold abv sA
  rw [hy, hf, ey, S_neg, S_mul, S_nn (show 0 ≤ l by omega)]
  have m1 : S (-1) * (l * l) * heart a b c = -(l * l * heart a b c) := by rw [show S (-1) = -1 from rfl]; grind
  have m2 : S 1 * (l * l) * heart a b c = l * l * heart a b c := by rw [show S 1 = 1 from rfl, Int.one_mul]
  generalize l * l * heart a b c = h' at *
  rcases h.side with e | e
  · subst e
    rw [if_neg (show ¬ (0 : Int) = 1 by decide), show decide ((0 : Int) = 1) = false from rfl, Bool.false_and, Bool.false_or, m1]
    rcases Int.lt_or_le 0 y with z | z
    · rw [if_pos z, S_nn (show 0 ≤ y by omega)]
      exact ⟨(fun q => nomatch q), fun _ => by omega⟩
    · rw [if_neg (by omega), S_np z, decide_eq_true_iff, decide_eq_false_iff_not]
      exact ⟨fun q => by have := fp.mp q; omega, fun q => by have : ¬ h' < y * y := fun w => q (fp.mpr w); omega⟩
  · subst e
    rw [if_pos rfl, show decide ((1 : Int) = 1) = true from rfl, Bool.true_and, Bool.true_or, m2]
    rcases Int.lt_or_le 0 y with z | z
    · rw [if_pos z, S_nn (show 0 ≤ y by omega), decide_eq_true_iff, decide_eq_false_iff_not]
      exact ⟨fun q => by have := fs.mp q; omega, fun q => by have : ¬ y * y < h' := fun w => q (fs.mpr w); omega⟩
    · rw [if_neg (by omega), S_np z]
      exact ⟨fun _ => by omega, fun q => nomatch q⟩
/-! the whole part of a root -/
theorem part_right {a b c s g : Int} (h : Root a b c s) (g0 : 0 ≤ g) (g1 : g * g ≤ heart a b c) (g2 : heart a b c < (g + 1) * (g + 1)) {n : Int}
    (hn : n = ((if s = 0 then -g - 1 else g) - b) / (2 * a)) : abv a b c s n 1 = true ∧ abv a b c s (n + 1) 1 = false := by
  have pa := h.pos
  have gl : g * g < heart a b c := by
    have : g * g ≠ heart a b c := fun e => h.ns ⟨g, e⟩
    omega
  have lo := Int.mul_ediv_self_le (x := (if s = 0 then -g - 1 else g) - b) (k := 2 * a) (by omega)
  have hi := Int.lt_mul_ediv_self_add (x := (if s = 0 then -g - 1 else g) - b) (k := 2 * a) (by omega)
  rw [← hn] at lo hi
  have e1 : ∀ m : Int, 4 * a * (a * m * m + b * m * 1 + c * 1 * 1) = (2 * a * m + b) * (2 * a * m + b) - heart a b c := fun m => by unfold heart; grind
  have f1 := e1 n
  have f2 := e1 (n + 1)
  have e2 : 2 * a * (n + 1) = 2 * a * n + 2 * a := by grind
  rw [e2] at f2
  have neg : ∀ f : Int, 4 * a * f < 0 → f < 0 := fun f z => by
    rcases Int.lt_or_le f 0 with w | w
    · exact w
    · have := Int.mul_nonneg (show 0 ≤ 4 * a by omega) w
      omega
  have pos : ∀ f : Int, 0 < 4 * a * f → 0 < f := fun f z => by
    rcases Int.lt_or_le 0 f with w | w
    · exact w
    · have := Int.mul_nonneg (show 0 ≤ 4 * a by omega) (show 0 ≤ -f by omega)
      rw [Int.mul_neg] at this
      omega
  unfold abv
  rw [Int.mul_one, e2]
  generalize a * n * n + b * n * 1 + c * 1 * 1 = F1 at *
  generalize a * (n + 1) * (n + 1) + b * (n + 1) * 1 + c * 1 * 1 = F2 at *
  generalize 2 * a * n = y at *
  rcases h.side with e | e
  · subst e
    rw [if_pos rfl] at lo hi
    have a1 : (g + 1) * (g + 1) ≤ (y + b) * (y + b) := by
      have := sq_le (show 0 ≤ g + 1 by omega) (show g + 1 ≤ -(y + b) by omega)
      rw [Int.neg_mul_neg] at this
      exact this
    have p1 := pos F1 (by omega)
    constructor
    · rw [if_neg (by omega)]
      simp [p1]
    · split
      · simp
      · rename_i z
        have a2 := sq_le (x := -(y + 2 * a + b)) (y := g) (by omega) (by omega)
        rw [Int.neg_mul_neg] at a2
        have n1 := neg F2 (by omega)
        simp
        omega
  · subst e
    rw [if_neg (by decide)] at lo hi
    have a2 := sq_le (x := g + 1) (y := y + 2 * a + b) (by omega) (by omega)
    have p2 := pos F2 (by omega)
    constructor
    · split
      · rename_i z
        have a1 := sq_le (x := y + b) (y := g) (by omega) (by omega)
        have n1 := neg F1 (by omega)
        simp [n1]
      · simp
    · rw [if_pos (by omega)]
      simp
      omega
end RM

set_option maxHeartbeats 4000000
namespace RM
/-! 1 divided by a root less n -/
def abvS (s y f : Int) : Bool := if 0 < y then decide (s = 1) && decide (f < 0) else decide (s = 1) || decide (0 < f)
theorem abv_S (a b c s u l : Int) : abv a b c s u l = abvS s (2 * a * u + b * l) (a * u * u + b * u * l + c * l * l) := rfl
theorem abvS_iff {s y f : Int} : abvS s y f = true ↔ (0 < y ∧ s = 1 ∧ f < 0) ∨ (¬ 0 < y ∧ (s = 1 ∨ 0 < f)) := by
  unfold abvS
  by_cases h : 0 < y
  · rw [if_pos h, Bool.and_eq_true, decide_eq_true_iff, decide_eq_true_iff]
    omega
  · rw [if_neg h, Bool.or_eq_true, decide_eq_true_iff, decide_eq_true_iff]
    omega
theorem sgn_mul {k x : Int} (hk : 0 < k) : (0 < x → 0 < k * x) ∧ (x < 0 → k * x < 0) ∧ (x = 0 → k * x = 0) :=
  ⟨fun h => Int.mul_pos hk h, fun h => Int.mul_neg_of_pos_of_neg hk h, fun h => by rw [h, Int.mul_zero]⟩
theorem sgn3 {k x : Int} (hk : 0 < k) : (x < 0 ∧ k * x < 0) ∨ (x = 0 ∧ k * x = 0) ∨ (0 < x ∧ 0 < k * x) := by
  have h := sgn_mul (x := x) hk
  rcases Int.lt_trichotomy x 0 with z | z | z
  · exact .inl ⟨z, h.2.1 z⟩
  · exact .inr (.inl ⟨z, h.2.2 z⟩)
  · exact .inr (.inr ⟨z, h.1 z⟩)
theorem sgn33 {k m x : Int} (hk : 0 < k) (hm : 0 < m) : (x < 0 ∧ x * k < 0 ∧ x * m < 0) ∨ (x = 0 ∧ x * k = 0 ∧ x * m = 0) ∨ (0 < x ∧ 0 < x * k ∧ 0 < x * m) := by
  have h := sgn_mul (x := x) hk
  have g := sgn_mul (x := x) hm
  rw [Int.mul_comm k] at h
  rw [Int.mul_comm m] at g
  rcases Int.lt_trichotomy x 0 with z | z | z
  · exact .inl ⟨z, h.2.1 z, g.2.1 z⟩
  · exact .inr (.inl ⟨z, h.2.2 z, g.2.2 z⟩)
  · exact .inr (.inr ⟨z, h.1 z, g.1 z⟩)
theorem abvS_scale {k s y f : Int} (hk : 0 < k) : abvS s (k * y) (k * f) = abvS s y f := by
  rw [Bool.eq_iff_iff, abvS_iff, abvS_iff]
  have h1 := sgn_mul (x := y) hk
  have h2 := sgn_mul (x := f) hk
  omega
def due (a b c s n u l : Int) : Bool := if u = 0 then abv a b c s n 1 else if 0 < u then abv a b c s n 1 && !abv a b c s (n * u + l) u else abv a b c s n 1 || !abv a b c s (n * (0 - u) - l) (0 - u)
/-- the case by signs; p, q, a: the turned equation -/
theorem turn_up {a p q s u l d e f : Int} (ha : 0 < a) (hl : 0 < l) (hu : 0 < u) (hs : s = 0 ∨ s = 1) (hp : p ≠ 0) (hD : 4 * a * p < q * q) (hd : d = 2 * p * u + q * l) (he : e = q * u + 2 * a * l) (hR : u * d + l * e = 2 * f) (hf : f ≠ 0) :
    (if 0 < p then abvS (1 - s) d f else abvS s (-d) (-f)) = (abvS s q p && !abvS s e f) := by
  have al := Int.mul_pos (show 0 < 2 * a by omega) hl
  have h1 := sgn3 (x := d) hu
  have h2 := sgn3 (x := e) hl
  have h3 := sgn33 (x := q) hu hl
  have h4 := sgn3 (x := 2 * p) hu
  rw [Int.mul_comm u (2 * p)] at h4
  have q0 : 0 < p → q ≠ 0 := fun z e => by
    subst e
    have := Int.mul_pos (show 0 < 4 * a by omega) z
    omega
  have nb : 0 < p → q < 0 → 0 < e → ¬ 0 < d := fun y1 y2 y3 y4 => by
    have m := Int.mul_lt_mul_of_pos_right (show -(q * u) < 2 * a * l by omega) (show 0 < 2 * p * u by omega)
    have m2 := Int.mul_lt_mul_of_pos_left (show -(q * l) < 2 * p * u by omega) (show 0 < -(q * u) by omega)
    have e1 : 2 * a * l * (2 * p * u) = (4 * a * p) * (u * l) := by grind
    have e2 : -(q * u) * -(q * l) = (q * q) * (u * l) := by grind
    have m3 := Int.mul_lt_mul_of_pos_right hD (Int.mul_pos hu hl)
    omega
  by_cases h : 0 < p
  · rw [if_pos h, Bool.eq_iff_iff, Bool.and_eq_true, Bool.not_eq_true', Bool.eq_false_iff, ne_eq, abvS_iff, abvS_iff, abvS_iff]
    rcases hs with rfl | rfl <;> rcases h1 with h1 | h1 | h1 <;> rcases h2 with h2 | h2 | h2 <;> rcases h3 with h3 | h3 | h3 <;> rcases h4 with h4 | h4 | h4 <;> omega
  · rw [if_neg h, Bool.eq_iff_iff, Bool.and_eq_true, Bool.not_eq_true', Bool.eq_false_iff, ne_eq, abvS_iff, abvS_iff, abvS_iff]
    rcases hs with rfl | rfl <;> rcases h1 with h1 | h1 | h1 <;> rcases h2 with h2 | h2 | h2 <;> rcases h3 with h3 | h3 | h3 <;> rcases h4 with h4 | h4 | h4 <;> omega
/-- the turned equation is one, of the same heart -/
theorem turned_ht {a b c s n : Int} (r : Root a b c s) : a * n * n + b * n + c ≠ 0 ∧ heart (a * n * n + b * n + c) (2 * a * n + b) a = heart a b c := by
  have ha := r.pos
  have hh : heart (a * n * n + b * n + c) (2 * a * n + b) a = heart a b c := by unfold heart; grind
  have hp : a * n * n + b * n + c ≠ 0 := fun e => r.ns ⟨2 * a * n + b, by rw [← hh, e]; unfold heart; grind⟩
  exact ⟨hp, hh⟩
/-- beside fractions above 0 -/
theorem turned_up {a b c s n : Int} (r : Root a b c s) {P Q A g : Int} (hg : g ≠ 0) (eP : a * n * n + b * n + c = P * g) (eQ : 2 * a * n + b = Q * g) (eA : a = A * g) (hP : 0 < P) {u l : Int} (hu : 0 < u) (hl : 0 < l) :
    abv P Q A (if 0 < a * n * n + b * n + c then 1 - s else s) u l = due a b c s n u l := by
  have ha := r.pos
  have hh : heart (a * n * n + b * n + c) (2 * a * n + b) a = heart a b c := by unfold heart; grind
  have hp : a * n * n + b * n + c ≠ 0 := fun e => r.ns ⟨2 * a * n + b, by rw [← hh, e]; unfold heart; grind⟩
  have hD : 4 * a * (a * n * n + b * n + c) < (2 * a * n + b) * (2 * a * n + b) := by
    have := r.hp
    rw [← hh] at this
    unfold heart at this
    rw [show 4 * (a * n * n + b * n + c) * a = 4 * a * (a * n * n + b * n + c) by grind] at this
    omega
  obtain ⟨p, hpd⟩ : ∃ p, a * n * n + b * n + c = p := ⟨_, rfl⟩
  obtain ⟨q, hqd⟩ : ∃ q, 2 * a * n + b = q := ⟨_, rfl⟩
  have hF : ∀ u l : Int, a * (n * u + l) * (n * u + l) + b * (n * u + l) * u + c * u * u = p * u * u + q * u * l + a * l * l := fun u l => by subst hpd hqd; grind
  have hE : ∀ u l : Int, 2 * a * (n * u + l) + b * u = q * u + 2 * a * l := fun u l => by subst hqd; grind
  rw [hpd] at eP hD hp ⊢
  rw [hqd] at eQ hD
  obtain ⟨d, hd⟩ : ∃ d, 2 * p * u + q * l = d := ⟨_, rfl⟩
  obtain ⟨f, hf⟩ : ∃ f, p * u * u + q * u * l + a * l * l = f := ⟨_, rfl⟩
  have left : abv P Q A (if 0 < p then 1 - s else s) u l = if 0 < p then abvS (1 - s) d f else abvS s (-d) (-f) := by
    rw [abv_S]
    have e1 : g * (2 * P * u + Q * l) = d := by rw [← hd, eP, eQ]; grind
    have e2 : g * (P * u * u + Q * u * l + A * l * l) = f := by rw [← hf, eP, eQ, eA]; grind
    by_cases h : 0 < p
    · have g0 : 0 < g := by
        rcases Int.lt_or_le 0 g with z | z
        · exact z
        · have := Int.mul_nonneg (show 0 ≤ P by omega) (show 0 ≤ -g by omega)
          rw [Int.mul_neg] at this
          omega
      rw [if_pos h, if_pos h, ← abvS_scale g0, e1, e2]
    · have g0 : 0 < -g := by
        rcases Int.lt_or_le g 0 with z | z
        · omega
        · have := Int.mul_nonneg (show 0 ≤ P by omega) z
          omega
      rw [if_neg h, if_neg h, ← abvS_scale g0, Int.neg_mul, Int.neg_mul, e1, e2]
  have h0 : abv a b c s n 1 = abvS s q p := by
    rw [abv_S]
    congr 1
    · rw [← hqd]; omega
    · rw [← hpd]; grind
  rw [left]
  unfold due
  rw [h0]
  have hu0 : u ≠ 0 := by omega
  rw [if_neg hu0]
  have hR : u * d + l * (q * u + 2 * a * l) = 2 * f := by rw [← hd, ← hf]; grind
  have f0 : f ≠ 0 := fun z => by
    have e1 : (q * u + 2 * a * l) * (q * u + 2 * a * l) = u * u * heart a b c := by
      have e2 : (q * u + 2 * a * l) * (q * u + 2 * a * l) = u * u * heart p q a + 4 * a * f := by rw [← hf]; unfold heart; grind
      rw [e2, z]
      rw [hpd, hqd] at hh
      rw [hh]
      omega
    exact r.ns (sq_of hu0 e1)
  rw [if_pos hu, abv_S a b c s (n * u + l) u, hF, hE, hf]
  exact turn_up ha hl hu r.side hp hD hd.symm rfl hR f0
end RM

namespace RM
/-! what a row stands for -/
def st : List Int → Int × Int
  | [] => (0, 0)
  | [x] => (x, 1)
  | a :: b :: r => (a * (st (b :: r)).1 + (st (b :: r)).2, (st (b :: r)).1)
theorem st_cons {a : Int} {r : List Int} (h : r ≠ []) : st (a :: r) = (a * (st r).1 + (st r).2, (st r).1) := by
  cases r with
  | nil => exact absurd rfl h
  | cons b r => rfl
def Ups (r : List Int) : Prop := ∀ x ∈ r, 1 ≤ x
end RM

set_option maxHeartbeats 4000000
namespace RM
/-! where a number lies beside u / l: 1 above, 0 there, -1 below -/
def cut : List Int → Int → Int → Int
  | [p, q], u, l => sg (p * l - u * q)
  | [a, b, c, s], u, l => if abv a b c s u l = true then 1 else -1
  | _, _, _ => 0
theorem S_lt {x y : Int} (h : x < y) : S x < S y := by
  rcases Int.lt_or_le x 0 with a | a
  · rcases Int.lt_or_le y 0 with b | b
    · rw [S_np (by omega), S_np (by omega)]
      have := sq_lt (x := -y) (y := -x) (by omega) (by omega)
      rw [Int.neg_mul_neg, Int.neg_mul_neg] at this
      omega
    · rw [S_np (by omega), S_nn b]
      have := Int.mul_self_nonneg_pos (show x ≠ 0 by omega)
      have := Int.mul_self_nonneg' y
      omega
  · rw [S_nn a, S_nn (by omega)]
    exact sq_lt a h
theorem S_le {x y : Int} (h : x ≤ y) : S x ≤ S y := by
  rcases Int.lt_or_eq_of_le h with z | z
  · have := S_lt z; omega
  · rw [z]; exact Int.le_refl _
theorem cut_01 (xs : List Int) (u l : Int) : cut xs u l = 1 ∨ cut xs u l = -1 ∨ cut xs u l = 0 := by
  unfold cut
  split
  · rename_i p q
    rcases sg_cases (p * l - u * q) with h | h | h
    · exact .inl h.1
    · exact .inr (.inl h.1)
    · exact .inr (.inr h.1)
  · split
    · exact .inl rfl
    · exact .inr (.inl rfl)
  · exact .inr (.inr rfl)
theorem cut_sA {xs : List Int} {A t D L u l : Int} (h : NumR xs A t D L) (hl : 0 < l) : cut xs u l = sg (sA A t D L u l) := by
  cases h with
  | frac hL hg =>
    have e : sA A 0 0 L u l = S (A * l - u * L) := by unfold sA; simp
    rw [e, sg_S]
    rfl
  | @root a b c s r =>
    have z := abv_sA (u := u) r hl
    show (if abv a b c s u l = true then 1 else -1) = _
    split
    · rename_i q
      rw [sg_pos (z.1 q)]
    · rename_i q
      rw [sg_nega (z.2 (by simpa using q))]
theorem sA_scale {A t D L u l k : Int} (hk : 0 < k) : sA A t D L (u * k) (l * k) = k * k * sA A t D L u l := by
  unfold sA
  rw [show A * (l * k) - u * k * L = k * (A * l - u * L) by grind, show t * (l * k) = k * (t * l) by grind, S_mul, S_mul, S_nn (show 0 ≤ k by omega)]
  grind
theorem sA_step {A t D L u u' l : Int} (hL : 0 < L) (h : u < u') : sA A t D L u' l < sA A t D L u l := by
  unfold sA
  have := Int.mul_lt_mul_of_pos_right h hL
  have := S_lt (show A * l - u' * L < A * l - u * L by omega)
  omega
theorem sg_le {x y : Int} (h : x ≤ y) : sg x ≤ sg y := by
  rcases sg_cases x with a | a | a <;> rcases sg_cases y with b | b | b <;> omega
theorem cut_le {xs : List Int} {A t D L u l u' l' : Int} (h : NumR xs A t D L) (hl : 0 < l) (hl' : 0 < l') (q : u * l' ≤ u' * l) : cut xs u' l' ≤ cut xs u l := by
  rw [cut_sA h hl, cut_sA h hl']
  have e1 := sg_scale (k := l' * l') (x := sA A t D L u l) (Int.mul_pos hl' hl')
  have e2 := sg_scale (k := l * l) (x := sA A t D L u' l') (Int.mul_pos hl hl)
  rw [← sA_scale hl'] at e1
  rw [← sA_scale hl] at e2
  rw [← e1, ← e2]
  refine sg_le ?_
  rw [Int.mul_comm l' l]
  rcases Int.lt_or_eq_of_le q with z | z
  · exact Int.le_of_lt (sA_step h.L_pos z)
  · rw [z]; exact Int.le_refl _
theorem cut_lt {xs : List Int} {A t D L u l u' l' : Int} (h : NumR xs A t D L) (hl : 0 < l) (hl' : 0 < l') (q : u * l' < u' * l) : (cut xs u l ≤ 0 → cut xs u' l' = -1) ∧ (0 ≤ cut xs u' l' → cut xs u l = 1) := by
  rw [cut_sA h hl, cut_sA h hl']
  have e1 := sg_scale (k := l' * l') (x := sA A t D L u l) (Int.mul_pos hl' hl')
  have e2 := sg_scale (k := l * l) (x := sA A t D L u' l') (Int.mul_pos hl hl)
  rw [← sA_scale hl'] at e1
  rw [← sA_scale hl] at e2
  rw [← e1, ← e2, Int.mul_comm l' l]
  have := sA_step (A := A) (t := t) (D := D) (l := l * l') h.L_pos q
  rcases sg_cases (sA A t D L (u * l') (l * l')) with a | a | a <;> rcases sg_cases (sA A t D L (u' * l) (l * l')) with b | b | b <;> omega
/-- a fraction beside a number, as compare tells it -/
theorem cmpN_frac {xs : List Int} {A t D L u l : Int} (h : NumR xs A t D L) (hl : 0 < l) : cmpN u 0 0 l A t D L = -(cut xs u l) := by
  rw [cut_sA h hl]
  unfold cmpN
  rw [cmp2_F (Int.le_refl 0) h.D_nn]
  unfold F sA
  rw [Int.zero_mul, S_nn (Int.le_refl 0), Int.zero_mul, Int.zero_mul, Int.zero_add]
  have e : S (-t * l) * D = -(S (t * l) * D) := by rw [Int.neg_mul, S_neg, Int.neg_mul]
  rw [e]
  generalize hq : S (t * l) * D = q
  have ex : u * L - A * l = -(A * l - u * L) := by omega
  rw [ex, S_neg, Int.zero_mul, Int.mul_zero, Int.add_zero, ← sg_neg]
  generalize S (A * l - u * L) = y
  rw [sg_S]
  congr 1
  rcases sg_cases (-q) with a | a | a
  · rw [a.1]; omega
  · rw [a.1]; omega
  · rw [a.1]; omega
theorem cmpN_frac' {xs : List Int} {A t D L u l : Int} (h : NumR xs A t D L) (hl : 0 < l) : cmpN A t D L u 0 0 l = cut xs u l := by
  rw [cmpN_turn (Int.le_refl 0) h.D_nn, cmpN_frac h hl, Int.neg_neg]
end RM

set_option maxHeartbeats 4000000
namespace RM
/-! between two numbers, the one less, lies a fraction -/
theorem isqrt_ex : ∀ n : Nat, ∃ k : Nat, k * k ≤ n ∧ n < (k + 1) * (k + 1)
  | 0 => ⟨0, by decide, by decide⟩
  | n + 1 => by
    obtain ⟨k, h1, h2⟩ := isqrt_ex n
    by_cases h : n + 1 < (k + 1) * (k + 1)
    · exact ⟨k, by omega, h⟩
    · exact ⟨k + 1, by omega, by grind⟩
theorem S_ceil (R : Int) : ∃ a : Int, R < S a ∧ S (a - 1) ≤ R := by
  rcases Int.lt_or_le R 0 with h | h
  · obtain ⟨k, h1, h2⟩ := isqrt_ex (-R - 1).toNat
    refine ⟨-(k : Int), ?_, ?_⟩
    · rw [S_np (by omega), Int.neg_mul_neg]
      have : ((k * k : Nat) : Int) ≤ -R - 1 := by omega
      rw [Int.natCast_mul] at this
      omega
    · rw [S_np (by omega), show (-(k : Int) - 1) * (-(k : Int) - 1) = ((k : Int) + 1) * ((k : Int) + 1) by grind]
      have : (-R - 1 : Int) < (((k + 1) * (k + 1) : Nat) : Int) := by omega
      rw [Int.natCast_mul, Int.natCast_add] at this
      have e : ((1 : Nat) : Int) = 1 := rfl
      rw [e] at this
      omega
  · obtain ⟨k, h1, h2⟩ := isqrt_ex R.toNat
    refine ⟨(k : Int) + 1, ?_, ?_⟩
    · rw [S_nn (by omega)]
      have : R < (((k + 1) * (k + 1) : Nat) : Int) := by omega
      rw [Int.natCast_mul, Int.natCast_add] at this
      have e : ((1 : Nat) : Int) = 1 := rfl
      rw [e] at this
      omega
    · rw [show (k : Int) + 1 - 1 = k by omega, S_nn (by omega)]
      have : ((k * k : Nat) : Int) ≤ R := by omega
      rw [Int.natCast_mul] at this
      omega
theorem F_mono {X Y P Q : Int} (h : X ≤ Y) : F X P Q ≤ F Y P Q := by
  unfold F
  refine sg_le ?_
  have := S_le h
  have := S_le (show S X + sg (P + Q) * ((P.natAbs : Int) + (Q.natAbs : Int)) ≤ S Y + sg (P + Q) * ((P.natAbs : Int) + (Q.natAbs : Int)) by omega)
  omega
/-- how far S leads -/
theorem S_near {x d : Int} (hd : 0 ≤ d) : S (x + d) ≤ S x + 2 * d * ((x.natAbs : Int) + d) := by
  have dd := Int.mul_nonneg hd hd
  rcases Int.lt_or_le x 0 with h | h
  · have e : (x.natAbs : Int) = -x := by omega
    rw [e, S_np (show x ≤ 0 by omega)]
    have dx := Int.mul_nonneg hd (show 0 ≤ -x by omega)
    rw [Int.mul_neg] at dx
    rcases Int.lt_or_le (x + d) 0 with g | g
    · rw [S_np (show x + d ≤ 0 by omega)]
      grind
    · rw [S_nn g]
      have : x * x ≤ d * d := by
        have := sq_le (x := -x) (y := d) (by omega) (by omega)
        rw [Int.neg_mul_neg] at this
        exact this
      have : 0 ≤ (x + d) * (-x) := Int.mul_nonneg g (by omega)
      grind
  · have e : (x.natAbs : Int) = x := by omega
    rw [e, S_nn h, S_nn (by omega)]
    grind
theorem gap {X P Q w T N : Int} (h : F X P Q = -1) (hw : ((S X + sg (P + Q) * ((P.natAbs : Int) + (Q.natAbs : Int))).natAbs : Int) ≤ w) (hT : (X.natAbs : Int) + 2 ≤ T) (hN : 8 * T * (w + 4 * T) < N) : F (N * X + 2) (N * N * P) (N * N * Q) = -1 := by
  have T1 : 1 ≤ T := by omega
  have w0 : 0 ≤ w := by omega
  have tw : 0 ≤ 8 * T * (w + 4 * T) := Int.mul_nonneg (by omega) (by omega)
  have N1 : 1 ≤ N := by omega
  have NN : 0 < N * N := Int.mul_pos (by omega) (by omega)
  unfold F at h ⊢
  have es : sg (N * N * P + N * N * Q) = sg (P + Q) := by rw [← Int.mul_add, sg_scale NN]
  have ea : ∀ x : Int, ((N * N * x).natAbs : Int) = N * N * (x.natAbs : Int) := fun x => by
    rw [Int.natAbs_mul, Int.natCast_mul, show ((N * N).natAbs : Int) = N * N by omega]
  rw [es, ea, ea]
  have V0 : S (S X + sg (P + Q) * ((P.natAbs : Int) + (Q.natAbs : Int))) + sg (P + Q) * 4 * (P * Q) ≤ -1 := by
    generalize S (S X + sg (P + Q) * ((P.natAbs : Int) + (Q.natAbs : Int))) + sg (P + Q) * 4 * (P * Q) = v at h
    rcases sg_cases v with z | z | z <;> omega
  have e4 : sg (P + Q) * 4 * (N * N * P * (N * N * Q)) = N * N * (N * N) * (sg (P + Q) * 4 * (P * Q)) := by grind
  have e5 : sg (P + Q) * (N * N * (P.natAbs : Int) + N * N * (Q.natAbs : Int)) = N * N * (sg (P + Q) * ((P.natAbs : Int) + (Q.natAbs : Int))) := by grind
  rw [e4, e5]
  generalize sg (P + Q) * 4 * (P * Q) = z at *
  generalize sg (P + Q) * ((P.natAbs : Int) + (Q.natAbs : Int)) = k at *
  -- the inner one
  have i1 := S_near (x := N * X) (d := 2) (by decide)
  have e6 : S (N * X) = N * N * S X := by rw [S_mul, S_nn (show 0 ≤ N by omega)]
  have e7 : ((N * X).natAbs : Int) = N * (X.natAbs : Int) := by rw [Int.natAbs_mul, Int.natCast_mul, show (N.natAbs : Int) = N by omega]
  rw [e6, e7] at i1
  have i2 : N * (X.natAbs : Int) + 2 ≤ N * T := by
    have := Int.mul_le_mul_of_nonneg_left hT (show 0 ≤ N by omega)
    rw [Int.mul_add] at this
    omega
  have i3 : S (N * X + 2) ≤ N * N * S X + 4 * (N * T) := by
    have NT := Int.mul_le_mul (show 1 ≤ N by omega) T1 (by decide) (by omega)
    omega
  have i4 : S (N * X + 2) + N * N * k ≤ N * N * (S X + k) + 4 * (N * T) := by rw [Int.mul_add]; omega
  have NT0 : 0 ≤ N * T := Int.mul_nonneg (by omega) (by omega)
  have i5 := S_near (x := N * N * (S X + k)) (d := 4 * (N * T)) (by omega)
  have i6 := S_le i4
  have e8 : S (N * N * (S X + k)) = N * N * (N * N) * S (S X + k) := by rw [S_mul, S_nn (show 0 ≤ N * N by omega)]
  have e9 : ((N * N * (S X + k)).natAbs : Int) = N * N * ((S X + k).natAbs : Int) := ea _
  rw [e8, e9] at i5
  generalize S (S X + k) = v at *
  generalize ((S X + k).natAbs : Int) = v' at *
  generalize S (S (N * X + 2) + N * N * k) = y at *
  have N4 : 0 < N * N * (N * N) := Int.mul_pos NN NN
  have c1 : N * N * (N * N) * (v + z) ≤ -(N * N * (N * N)) := by
    have := Int.mul_le_mul_of_nonneg_left V0 (show 0 ≤ N * N * (N * N) by omega)
    omega
  have c2 : 2 * (4 * (N * T)) * (N * N * v' + 4 * (N * T)) ≤ N * N * N * (8 * T * (w + 4 * T)) := by
    have d1 := Int.mul_le_mul_of_nonneg_left hw (show 0 ≤ N * N by omega)
    have d2 : N * T ≤ N * N * T := by
      have := Int.mul_le_mul_of_nonneg_right N1 NT0
      grind
    have d3 := Int.mul_le_mul_of_nonneg_left (show N * N * v' + 4 * (N * T) ≤ N * N * w + 4 * (N * N * T) by omega) (show 0 ≤ 2 * (4 * (N * T)) by omega)
    grind
  have c3 : N * N * N * (8 * T * (w + 4 * T)) < N * N * N * N := Int.mul_lt_mul_of_pos_left hN (Int.mul_pos NN (by omega))
  rw [Int.mul_add] at c1
  have e10 : N * N * N * N = N * N * (N * N) := by grind
  exact sg_nega (by omega)
theorem dense {xs ys : List Int} {A1 t1 D1 L1 A2 t2 D2 L2 w T : Int} (h1 : NumR xs A1 t1 D1 L1) (h2 : NumR ys A2 t2 D2 L2) (hc : cmpN A1 t1 D1 L1 A2 t2 D2 L2 = -1)
    (hw : ((S (A1 * L2 - A2 * L1) + sg (S (t1 * L2) * D1 + S (-t2 * L1) * D2) * (((S (t1 * L2) * D1).natAbs : Int) + ((S (-t2 * L1) * D2).natAbs : Int))).natAbs : Int) ≤ w) (hT : ((A1 * L2 - A2 * L1).natAbs : Int) + 2 ≤ T) :
    ∃ u l : Int, l = L1 * L2 * (8 * T * (w + 4 * T) + 1) ∧ 0 < l ∧ cut xs u l = -1 ∧ cut ys u l = 1 := by
  unfold cmpN at hc
  rw [cmp2_F h1.D_nn h2.D_nn] at hc
  have hg := gap hc hw hT (show 8 * T * (w + 4 * T) < 8 * T * (w + 4 * T) + 1 by omega)
  have tw : 0 ≤ 8 * T * (w + 4 * T) := Int.mul_nonneg (by omega) (by omega)
  obtain ⟨N, hN⟩ : ∃ N, 8 * T * (w + 4 * T) + 1 = N := ⟨_, rfl⟩
  rw [hN] at hg ⊢
  have N1 : 0 < N := by omega
  have l1 := h1.L_pos
  have l2 := h2.L_pos
  have hl : 0 < L1 * L2 * N := Int.mul_pos (Int.mul_pos l1 l2) N1
  obtain ⟨a, a1, a2⟩ := S_ceil (N * N * (S (t1 * L2) * D1))
  obtain ⟨c, c1, c2⟩ := S_ceil (N * N * (S (-t2 * L1) * D2))
  have key : a + c ≤ -(N * (A1 * L2 - A2 * L1)) := by
    rcases Int.lt_or_le (-(N * (A1 * L2 - A2 * L1))) (a + c) with z | z
    · exfalso
      have a3 : S (a - 2) < N * N * (S (t1 * L2) * D1) := by
        have := S_lt (show a - 2 < a - 1 by omega)
        omega
      have f := F_less (P := -(N * N * (S (t1 * L2) * D1))) (Q := -(N * N * (S (-t2 * L1) * D2))) (a := -(a - 2)) (c := -(c - 1)) (by rw [S_neg]; omega) (by rw [S_neg]; omega) (.inl (by rw [S_neg]; omega))
      rw [show -(-(a - 2) + -(c - 1)) = -(-((a - 2) + (c - 1))) by omega, F_neg] at f
      have m := F_mono (P := N * N * (S (t1 * L2) * D1)) (Q := N * N * (S (-t2 * L1) * D2)) (show -((a - 2) + (c - 1)) ≤ N * (A1 * L2 - A2 * L1) + 2 by omega)
      omega
    · exact z
  refine ⟨A1 * L2 * N + a, _, rfl, hl, ?_, ?_⟩
  · rw [cut_sA h1 hl]
    refine sg_nega ?_
    unfold sA
    rw [show A1 * (L1 * L2 * N) - (A1 * L2 * N + a) * L1 = -(a * L1) by grind, S_neg, S_mul, S_nn (show 0 ≤ L1 by omega), show t1 * (L1 * L2 * N) = t1 * L2 * (N * L1) by grind, S_mul _ (N * L1), S_nn (show 0 ≤ N * L1 from Int.mul_nonneg (by omega) (by omega))]
    have := Int.mul_lt_mul_of_pos_right a1 (Int.mul_pos l1 l1)
    grind
  · rw [cut_sA h2 hl]
    refine sg_pos ?_
    unfold sA
    obtain ⟨z, hz⟩ : ∃ z, -(N * (A1 * L2 - A2 * L1) + a) = z := ⟨_, rfl⟩
    have e1 : A2 * (L1 * L2 * N) - (A1 * L2 * N + a) * L2 = z * L2 := by grind
    have e2 : t2 * (L1 * L2 * N) = -(-t2 * L1 * (N * L2)) := by grind
    rw [e1, S_mul, S_nn (show 0 ≤ L2 by omega), e2, S_neg, S_mul _ (N * L2), S_nn (show 0 ≤ N * L2 from Int.mul_nonneg (by omega) (by omega))]
    have s1 := S_le (show c ≤ z by omega)
    have := Int.mul_lt_mul_of_pos_right (show N * N * (S (-t2 * L1) * D2) < S z by omega) (Int.mul_pos l2 l2)
    grind
end RM

set_option maxHeartbeats 4000000
namespace RM
/-! what a number leads to -/
/-- n: the greatest whole number that is no greater -/
inductive PartOf : List Int → Int → Prop where
  | frac {u l n : Int} (h1 : n * l ≤ u) (h2 : u < (n + 1) * l) : PartOf [u, l] n
  | root {a b c s n : Int} (h1 : abv a b c s n 1 = true) (h2 : abv a b c s (n + 1) 1 = false) (hb : n.natAbs ≤ (heart a b c).natAbs + b.natAbs + 1) : PartOf [a, b, c, s] n
/-- P, B, A: the turned root at n -/
def TurnOf (a b c s n P B A : Int) : Prop := Root P B A (if 0 < a * n * n + b * n + c then 1 - s else s) ∧ ∃ g : Int, g ≠ 0 ∧ a * n * n + b * n + c = P * g ∧ 2 * a * n + b = B * g ∧ a = A * g
inductive Led : List Int → Int → List Int → Prop where
  | frac {u l n : Int} (h : 0 < u - n * l) : Led [u, l] n [l, u - n * l]
  | root {a b c s n P B A : Int} (h : TurnOf a b c s n P B A) : Led [a, b, c, s] n [P, B, A, if 0 < a * n * n + b * n + c then 1 - s else s]
theorem PartOf.cuts {xs : List Int} {A t D L n : Int} (h : NumR xs A t D L) (p : PartOf xs n) : 0 ≤ cut xs n 1 ∧ cut xs (n + 1) 1 = -1 := by
  cases p with
  | @frac u l _ h1 h2 =>
    constructor
    · show 0 ≤ sg (u * 1 - n * l)
      rcases sg_cases (u * 1 - n * l) with z | z | z <;> omega
    · exact sg_nega (by omega)
  | @root a b c s _ h1 h2 hb =>
    constructor
    · show 0 ≤ (if abv a b c s n 1 = true then (1 : Int) else -1)
      rw [if_pos h1]; decide
    · show (if abv a b c s (n + 1) 1 = true then (1 : Int) else -1) = -1
      rw [h2]; rfl
theorem cut_root {a b c s u l : Int} : cut [a, b, c, s] u l = if abv a b c s u l = true then 1 else -1 := rfl
theorem cut_frac {p q u l : Int} : cut [p, q] u l = sg (p * l - u * q) := rfl
theorem Led.num {xs ys : List Int} {A t D L n : Int} (h : NumR xs A t D L) (p : Led xs n ys) : ∃ A' t' D' L', NumR ys A' t' D' L' := by
  cases p with
  | @frac u l _ z =>
    cases h with
    | frac hl hg =>
      refine ⟨_, _, _, _, .frac z ?_⟩
      rw [Int.gcd_comm] at hg
      simpa using hg
  | root z => exact ⟨_, _, _, _, .root z.1⟩
theorem Led.cuts {xs ys : List Int} {A t D L n u l : Int} (h : NumR xs A t D L) (hn : cut xs n 1 = 1) (p : Led xs n ys) (hu : 0 < u) (hl : 0 < l) : cut ys u l = -(cut xs (n * u + l) u) := by
  cases p with
  | @frac x q _ z =>
    rw [cut_frac, cut_frac, ← sg_neg]
    congr 1
    grind
  | @root a b c s _ P B A z =>
    cases h with
    | root r =>
      obtain ⟨rt, g, hg, e1, e2, e3⟩ := z
      have tr := turned_up (n := n) r hg e1 e2 e3 rt.pos (u := u) hu hl
      rw [cut_root] at hn ⊢
      have hn' : abv a b c s n 1 = true := by
        rcases Bool.eq_false_or_eq_true (abv a b c s n 1) with y | y
        · exact y
        · rw [y] at hn; exact absurd hn (by decide)
      rw [tr, cut_root]
      unfold due
      rw [if_neg (show ¬ u = 0 by omega), if_pos hu, hn', Bool.true_and]
      cases abv a b c s (n * u + l) u <;> rfl
/-- it is above 1 -/
theorem Led.above {xs ys : List Int} {A t D L n : Int} (h : NumR xs A t D L) (hn : cut xs n 1 = 1) (h1 : cut xs (n + 1) 1 = -1) (p : Led xs n ys) : cut ys 1 1 = 1 := by
  rw [p.cuts h hn (by decide) (by decide), Int.mul_one, h1]; rfl
/-! how great they grow -/
def Sz (D M : Int) : List Int → Prop
  | [u, l] => -M ≤ u ∧ u ≤ M ∧ l ≤ M
  | [a, b, c, _] => heart a b c ≤ D ∧ a ≤ M ∧ -(2 * M + D) ≤ b ∧ b ≤ 2 * M + D ∧ -M ≤ c ∧ c ≤ M
  | _ => False
theorem sq_bound {y h s : Int} (s0 : 0 ≤ s) (hs : h < (s + 1) * (s + 1)) (z : y * y ≤ h) : -s ≤ y ∧ y ≤ s := by
  constructor
  · have := lt_of_sq (x := -y) (y := s + 1) (by omega) (by rw [Int.neg_mul_neg]; omega)
    omega
  · have := lt_of_sq (x := y) (y := s + 1) (by omega) (by omega)
    omega
theorem part_mid {a b c s n m : Int} (r : Root a b c s) (h1 : abv a b c s n 1 = true) (h2 : abv a b c s (n + 1) 1 = false) (m0 : 0 ≤ m) (hm : heart a b c < (m + 1) * (m + 1)) : -m - 2 * a ≤ 2 * a * n + b ∧ 2 * a * n + b ≤ m := by
  have ha := r.pos
  have e4 : ∀ m : Int, 4 * a * (a * m * m + b * m * 1 + c * 1 * 1) = (2 * a * m + b * 1) * (2 * a * m + b * 1) - heart a b c := fun m => by unfold heart; grind
  have neg : ∀ m : Int, a * m * m + b * m * 1 + c * 1 * 1 ≤ 0 → (2 * a * m + b * 1) * (2 * a * m + b * 1) ≤ heart a b c := fun m z => by
    have := Int.mul_nonpos_of_nonneg_of_nonpos (show 0 ≤ 4 * a by omega) z
    have := e4 m
    omega
  constructor
  · have h2' := Bool.eq_false_iff.mp h2
    rw [abv_S, ne_eq, abvS_iff] at h2'
    have : 2 * a * (n + 1) = 2 * a * n + 2 * a := by grind
    rcases Int.lt_or_le 0 (2 * a * (n + 1) + b * 1) with z | z
    · omega
    · have := sq_bound m0 hm (neg (n + 1) (by omega))
      omega
  · rw [abv_S, abvS_iff] at h1
    rcases Int.lt_or_le 0 (2 * a * n + b * 1) with z | z
    · have := sq_bound m0 hm (neg n (by omega))
      omega
    · omega
theorem grow {a f y h m : Int} (ha : 0 < a) (h0 : 0 < h) (m0 : 0 ≤ m) (hm : m * m ≤ h) (e : 4 * a * f = y * y - h) (y1 : -m - 2 * a ≤ y) (y2 : y ≤ m) : -h ≤ f ∧ f ≤ a + m := by
  have yy := Int.mul_self_nonneg' y
  constructor
  · rcases Int.lt_or_le f 0 with z | z
    · have := Int.mul_le_mul_of_nonneg_right (show 1 ≤ 4 * a by omega) (show 0 ≤ -f by omega)
      simp only [Int.mul_neg, Int.one_mul] at this
      omega
    · omega
  · have b1 : y * y ≤ (m + 2 * a) * (m + 2 * a) := by
      rcases Int.lt_or_le y 0 with q | q
      · have := sq_le (x := -y) (y := m + 2 * a) (by omega) (by omega)
        rw [Int.neg_mul_neg] at this
        exact this
      · exact sq_le q (by omega)
    have b2 : (m + 2 * a) * (m + 2 * a) = m * m + 4 * a * (a + m) := by grind
    exact Int.le_of_mul_le_mul_left (show 4 * a * f ≤ 4 * a * (a + m) by omega) (show 0 < 4 * a by omega)
theorem isqrt_int {h : Int} (h0 : 0 ≤ h) : ∃ m : Int, 0 ≤ m ∧ m * m ≤ h ∧ h < (m + 1) * (m + 1) ∧ m ≤ h := by
  obtain ⟨k, h1, h2⟩ := isqrt_ex h.toNat
  have a1 : ((k * k : Nat) : Int) ≤ h := by omega
  have a2 : h < (((k + 1) * (k + 1) : Nat) : Int) := by omega
  rw [Int.natCast_mul] at a1 a2
  rw [Int.natCast_add] at a2
  exact ⟨k, by omega, a1, a2, sqrt_le (by omega) a1⟩
theorem Led.size {xs ys : List Int} {A t D' L n D M : Int} (h : NumR xs A t D' L) (p : PartOf xs n) (q : Led xs n ys) (z : Sz D M xs) (D0 : 0 ≤ D) : Sz D (M + D) ys := by
  cases q with
  | @frac u l _ z' =>
    cases h with
    | frac hl hg =>
      cases p with
      | frac h1 h2 =>
        obtain ⟨z1, z2, z3⟩ := z
        have e : (n + 1) * L = n * L + L := by grind
        refine ⟨?_, ?_, ?_⟩ <;> omega
  | @root a b c s _ P B A' z' =>
    cases h with
    | root r =>
      cases p with
      | root h1 h2 hb =>
        obtain ⟨z1, z2, z3, z4, z5, z6⟩ := z
        obtain ⟨rt, g, hg, e1, e2, e3⟩ := z'
        have hp := r.hp
        obtain ⟨m, m0, m1, m2, m3⟩ := isqrt_int (show 0 ≤ heart a b c by omega)
        have md := part_mid r h1 h2 m0 m2
        have e4 : 4 * a * (a * n * n + b * n + c) = (2 * a * n + b) * (2 * a * n + b) - heart a b c := by unfold heart; grind
        have gr := grow r.pos r.hp m0 m1 e4 md.1 md.2
        have hh := (turned_ht (n := n) r).2
        have ha := r.pos
        have sm : ∀ {x y : Int}, x = y * g → y.natAbs ≤ x.natAbs := fun {x y} e => by
          rw [e, Int.natAbs_mul]
          exact Nat.le_mul_of_pos_right _ (by omega)
        have s1 := sm e1
        have s2 := sm e2
        have s3 := sm e3
        have hz : heart P B A' ≤ D := by
          refine Int.le_trans ?_ z1
          rw [← hh, e1, e2]
          conv => rhs; rw [e3]
          rw [heart_mul]
          have gg := Int.mul_self_nonneg_pos hg
          have := Int.mul_le_mul_of_nonneg_right (show 1 ≤ g * g by omega) (show 0 ≤ heart P B A' by have := rt.hp; omega)
          omega
        exact ⟨hz, by omega, by omega, by omega, by omega, by omega⟩
/-- what turned asks -/
theorem turn_ok {a b c s n D M : Int} (r : Root a b c s) (p : PartOf [a, b, c, s] n) (z : Sz D M [a, b, c, s]) : -(M + D) ≤ a * n * n + b * n + c ∧ a * n * n + b * n + c ≤ M + D ∧ -(D + 2 * M) ≤ 2 * a * n + b ∧ 2 * a * n + b ≤ D + 2 * M ∧ n.natAbs ≤ 2 * (D + M).natAbs + 1 := by
  cases p with
  | root h1 h2 hb =>
    obtain ⟨z1, z2, z3, z4, z5, z6⟩ := z
    have hp := r.hp
    have ha := r.pos
    obtain ⟨m, m0, m1, m2, m3⟩ := isqrt_int (show 0 ≤ heart a b c by omega)
    have md := part_mid r h1 h2 m0 m2
    have e4 : 4 * a * (a * n * n + b * n + c) = (2 * a * n + b) * (2 * a * n + b) - heart a b c := by unfold heart; grind
    have gr := grow r.pos r.hp m0 m1 e4 md.1 md.2
    exact ⟨by omega, by omega, by omega, by omega, by omega⟩
end RM

set_option maxHeartbeats 4000000
namespace RM
/-! the simplest fraction between two numbers -/
/-- parts ahead of a fraction -/
def run : List Int → Int × Int → Int × Int
  | [], p => p
  | n :: r, p => (n * (run r p).1 + (run r p).2, (run r p).1)
theorem run_snoc (n : Int) (p : Int × Int) : ∀ ns : List Int, run (ns ++ [n]) p = run ns (n * p.1 + p.2, p.1)
  | [] => rfl
  | a :: r => by
    show (a * (run (r ++ [n]) p).1 + (run (r ++ [n]) p).2, (run (r ++ [n]) p).1) = _
    rw [run_snoc n p r]; rfl
theorem st_run (x : Int) : ∀ ns : List Int, st (ns ++ [x]) = run ns (x, 1)
  | [] => rfl
  | a :: r => by
    rw [List.cons_append, st_cons (by simp), st_run x r]; rfl
theorem run_mono {a b a' b' : Int} (h1 : a ≤ a') (h2 : b ≤ b') : ∀ {ns : List Int}, (∀ n ∈ ns, 0 ≤ n) → (run ns (a, b)).1 ≤ (run ns (a', b')).1 ∧ (run ns (a, b)).2 ≤ (run ns (a', b')).2
  | [], _ => ⟨h1, h2⟩
  | n :: r, h => by
    have ih := run_mono h1 h2 (ns := r) (fun x hx => h x (List.mem_cons_of_mem _ hx))
    have n0 := h n (List.mem_cons_self ..)
    have := Int.mul_le_mul_of_nonneg_left ih.1 n0
    exact ⟨by show n * _ + _ ≤ n * _ + _; omega, ih.1⟩
def Btw (xs : List Int) (yo : Option (List Int)) (u l : Int) : Prop := cut xs u l = -1 ∧ ∀ ys, yo = some ys → cut ys u l = 1
def Num (xs : List Int) : Prop := ∃ A t D L, NumR xs A t D L
def LedO (xs : List Int) (n : Int) : Option (List Int) → Prop
  | none => cut xs n 1 = 0
  | some ys => cut xs n 1 = 1 ∧ Led xs n ys
structure SInv (x0 : List Int) (y0 : Option (List Int)) (ns xs : List Int) (yo : Option (List Int)) (u0 l0 U L : Int) : Prop where
  nx : Num xs
  ny : ∀ ys, yo = some ys → Num ys
  low : 0 ≤ cut xs 0 1
  one : ns ≠ [] → 0 ≤ cut xs 1 1
  wit : Btw xs yo u0 l0
  lpos : 0 < l0
  wrun : run ns (u0, l0) = (U, L)
  down : ∀ u l, 0 < l → Btw x0 y0 u l → ∃ u' l', 0 < l' ∧ Btw xs yo u' l' ∧ run ns (u', l') = (u, l)
  up : ∀ u l, 0 < u → 0 < l → Btw xs yo u l → Btw x0 y0 (run ns (u, l)).1 (run ns (u, l)).2 ∧ 0 < (run ns (u, l)).2
  nn : ∀ n ∈ ns, 0 ≤ n
  ups : Ups (ns.drop 1)
theorem SInv.start {x0 : List Int} {y0 : Option (List Int)} {U L : Int} (nx : Num x0) (ny : ∀ ys, y0 = some ys → Num ys) (low : 0 ≤ cut x0 0 1) (w : Btw x0 y0 U L) (hL : 0 < L) : SInv x0 y0 [] x0 y0 U L U L where
  nx := nx
  ny := ny
  low := low
  one := fun h => absurd rfl h
  wit := w
  lpos := hL
  wrun := rfl
  down := fun u l hl b => ⟨u, l, hl, b, rfl⟩
  up := fun u l _ hl b => ⟨b, hl⟩
  nn := fun n hn => by cases hn
  ups := fun n hn => by cases hn
theorem above_part {xs : List Int} {n u l : Int} (nx : Num xs) (hl : 0 < l) (h0 : 0 ≤ cut xs n 1) (h : cut xs u l = -1) : n * l < u := by
  obtain ⟨A, t, D, L, nx⟩ := nx
  rcases Int.lt_or_le (n * l) u with z | z
  · exact z
  · have := cut_le nx hl (show (0 : Int) < 1 by decide) (u := u) (u' := n) (by omega)
    omega
theorem below_part {xs : List Int} {n u l : Int} (nx : Num xs) (hl : 0 < l) (h0 : cut xs n 1 ≤ 0) (h : cut xs u l = 1) : u < n * l := by
  obtain ⟨A, t, D, L, nx⟩ := nx
  rcases Int.lt_or_le u (n * l) with z | z
  · exact z
  · have := cut_le nx (show (0 : Int) < 1 by decide) hl (u := n) (u' := u) (by omega)
    omega
theorem part_nn {xs : List Int} {n m : Int} (nx : Num xs) (h0 : 0 ≤ cut xs m 1) (h : cut xs (n + 1) 1 = -1) : m ≤ n := by
  have := above_part nx (show (0 : Int) < 1 by decide) h0 h
  omega
theorem SInv.next {x0 : List Int} {y0 : Option (List Int)} {ns xs ys lo : List Int} {hi : Option (List Int)} {u0 l0 U L n : Int} (I : SInv x0 y0 ns xs (some ys) u0 l0 U L)
    (p0 : 0 ≤ cut xs n 1) (p1 : cut xs (n + 1) 1 = -1) (hb : cut ys (n + 1) 1 ≤ 0) (hlo : Led ys n lo) (hhi : LedO xs n hi) :
    SInv x0 y0 (ns ++ [n]) lo hi l0 (u0 - n * l0) U L ∧ u0 - n * l0 < l0 := by
  have nx := I.nx
  have ny := I.ny ys rfl
  obtain ⟨A, t, D, L', ny'⟩ := ny
  obtain ⟨A2, t2, D2, L2, nx'⟩ := nx
  have c1 : (0 : Int) < 1 := by decide
  have n0 : 0 ≤ n := part_nn I.nx I.low p1
  have yn : cut ys n 1 = 1 := by
    have a := above_part I.nx I.lpos p0 I.wit.1
    have b := cut_le ny' c1 I.lpos (u := n) (u' := u0) (by omega)
    have := I.wit.2 ys rfl
    rcases cut_01 ys n 1 with z | z | z <;> omega
  -- between, turned
  have dn : ∀ u l, 0 < l → Btw xs (some ys) u l → 0 < u - n * l ∧ u - n * l < l ∧ Btw lo hi l (u - n * l) := fun u l hl b => by
    have a := above_part I.nx hl p0 b.1
    have c := below_part ⟨_, _, _, _, ny'⟩ hl hb (b.2 ys rfl)
    rw [Int.add_mul, Int.one_mul] at c
    refine ⟨by omega, by omega, ?_, fun h' e => ?_⟩
    · rw [hlo.cuts ny' yn hl (by omega), show n * l + (u - n * l) = u by omega, b.2 ys rfl]
    · subst e
      rw [hhi.2.cuts nx' hhi.1 hl (by omega), show n * l + (u - n * l) = u by omega, b.1]; rfl
  have un : ∀ u l, 0 < u → 0 < l → Btw lo hi u l → Btw xs (some ys) (n * u + l) u := fun u l hu hl b => by
    refine ⟨?_, fun h' e => ?_⟩
    · cases hi with
      | none =>
        have z : cut xs n 1 = 0 := hhi
        exact (cut_lt nx' c1 hu (u := n) (u' := n * u + l) (by omega)).1 (by omega)
      | some hs =>
        have := hhi.2.cuts nx' hhi.1 hu hl
        rw [b.2 hs rfl] at this
        omega
    · cases e
      have := hlo.cuts ny' yn hu hl
      rw [b.1] at this
      omega
  have w := dn u0 l0 I.lpos I.wit
  have l1 : 0 ≤ cut lo 1 1 := by
    rw [hlo.cuts ny' yn c1 c1, Int.mul_one]
    omega
  obtain ⟨A3, t3, D3, L3, nl⟩ := hlo.num ny'
  refine ⟨⟨⟨_, _, _, _, nl⟩, ?_, ?_, fun _ => l1, w.2.2, w.1, ?_, ?_, ?_, ?_, ?_⟩, w.2.1⟩
  · intro h' e
    subst e
    obtain ⟨_, _, _, _, z⟩ := hhi.2.num nx'
    exact ⟨_, _, _, _, z⟩
  · have := cut_le nl c1 c1 (u := 0) (u' := 1) (by decide)
    omega
  · rw [run_snoc]
    show run ns (n * l0 + (u0 - n * l0), l0) = _
    rw [show n * l0 + (u0 - n * l0) = u0 by omega]
    exact I.wrun
  · intro u l hl b
    obtain ⟨u', l', h1, h2, h3⟩ := I.down u l hl b
    have z := dn u' l' h1 h2
    refine ⟨l', u' - n * l', z.1, z.2.2, ?_⟩
    rw [run_snoc]
    show run ns (n * l' + (u' - n * l'), l') = _
    rw [show n * l' + (u' - n * l') = u' by omega]
    exact h3
  · intro u l hu hl b
    rw [run_snoc]
    have := Int.mul_nonneg n0 (show 0 ≤ u by omega)
    exact I.up (n * u + l) u (by omega) hu (un u l hu hl b)
  · intro m hm
    rcases List.mem_append.mp hm with z | z
    · exact I.nn m z
    · rw [List.mem_singleton] at z; omega
  · intro m hm
    by_cases e : ns = []
    · subst e; cases hm
    · rw [List.drop_append_of_le_length (List.length_pos_iff.mpr e)] at hm
      rcases List.mem_append.mp hm with z | z
      · exact I.ups m z
      · rw [List.mem_singleton] at z
        have := part_nn I.nx (I.one e) p1
        omega
/-- the told one is between, and none between is simpler -/
theorem SInv.stop {x0 : List Int} {y0 : Option (List Int)} {ns xs : List Int} {yo : Option (List Int)} {u0 l0 U L n : Int} (I : SInv x0 y0 ns xs yo u0 l0 U L)
    (p0 : 0 ≤ cut xs n 1) (p1 : cut xs (n + 1) 1 = -1) (hb : ∀ ys, yo = some ys → cut ys (n + 1) 1 = 1) :
    Btw x0 y0 (st (ns ++ [n + 1])).1 (st (ns ++ [n + 1])).2 ∧ 0 < (st (ns ++ [n + 1])).2 ∧ (∀ u l, 0 < l → Btw x0 y0 u l → (st (ns ++ [n + 1])).2 ≤ l ∧ (st (ns ++ [n + 1])).1 ≤ u) ∧ Ups ((ns ++ [n + 1]).drop 1) ∧ (∀ m ∈ ns ++ [n + 1], 0 ≤ m) := by
  have n0 : 0 ≤ n := part_nn I.nx I.low p1
  rw [st_run]
  have z := I.up (n + 1) 1 (by omega) (by decide) ⟨p1, hb⟩
  refine ⟨z.1, z.2, fun u l hl b => ?_, ?_, ?_⟩
  · obtain ⟨u', l', h1, h2, h3⟩ := I.down u l hl b
    have a := above_part I.nx h1 p0 h2.1
    have : n * 1 ≤ n * l' := Int.mul_le_mul_of_nonneg_left (by omega) n0
    have m := run_mono (a := n + 1) (b := 1) (a' := u') (b' := l') (by omega) (by omega) I.nn
    rw [h3] at m
    exact ⟨m.2, m.1⟩
  · intro m hm
    by_cases e : ns = []
    · subst e; cases hm
    · rw [List.drop_append_of_le_length (List.length_pos_iff.mpr e)] at hm
      rcases List.mem_append.mp hm with z | z
      · exact I.ups m z
      · rw [List.mem_singleton] at z
        omega
  · intro m hm
    rcases List.mem_append.mp hm with z | z
    · exact I.nn m z
    · rw [List.mem_singleton] at z; omega
end RM

set_option maxHeartbeats 4000000
namespace RM
/-! the fractions next to a number, of all with a lower number up to most -/
def sgB (up : Bool) : Int := if up = true then -1 else 1
structure AInv (xs : List Int) (most n0 : Int) (a b c d : Int) (ys : List Int) (up : Bool) : Prop where
  ny : Num ys
  one : cut ys 1 1 = 1
  d1 : 1 ≤ d
  dm : d ≤ most
  bm : b ≤ most
  b0 : 1 ≤ b ∨ (b = 0 ∧ d = 1)
  det : if up = true then a * d - c * b = 1 else c * b - a * d = 1
  tr : ∀ u l, 0 < u → 0 < l → cut xs (c * u + a * l) (d * u + b * l) = sgB up * cut ys u l
  pl : cut xs c d = -(sgB up)
  la : 1 ≤ b → cut xs a b = sgB up
  e1 : n0 * b ≤ a
  e2 : n0 * d ≤ c
  e3 : c ≤ n0 * d + d
  e4 : a + c ≤ n0 * b + n0 * d + b + d
theorem AInv.start {xs ys : List Int} {most n0 : Int} (nx : Num xs) (hm : 1 ≤ most) (hno : ∀ u l, 0 < l → l ≤ most → cut xs u l ≠ 0) (p0 : 0 ≤ cut xs n0 1) (p1 : cut xs (n0 + 1) 1 = -1) (h : Led xs n0 ys) :
    AInv xs most n0 1 0 n0 1 ys true := by
  obtain ⟨A, t, D, L, nx⟩ := nx
  have c1 : (0 : Int) < 1 := by decide
  have pc : cut xs n0 1 = 1 := by
    have := hno n0 1 c1 hm
    rcases cut_01 xs n0 1 with z | z | z <;> omega
  obtain ⟨_, _, _, _, ny⟩ := h.num nx
  refine ⟨⟨_, _, _, _, ny⟩, h.above nx pc p1, by omega, hm, by omega, .inr ⟨rfl, rfl⟩, ?_, ?_, ?_, fun z => absurd z (by decide), by omega, by omega, by omega, by omega⟩
  · rw [if_pos rfl]; omega
  · intro u l hu hl
    rw [h.cuts nx pc hu hl, show n0 * u + 1 * l = n0 * u + l by omega, show 1 * u + 0 * l = u by omega]
    show _ = -1 * _
    omega
  · rw [pc]; rfl
theorem AInv.part1 {xs ys : List Int} {most n0 a b c d n : Int} {up : Bool} (I : AInv xs most n0 a b c d ys up) (p1 : cut ys (n + 1) 1 = -1) : 1 ≤ n :=
  part_nn I.ny (by rw [I.one]; decide) p1
theorem AInv.notat {xs ys : List Int} {most n0 a b c d n : Int} {up : Bool} (I : AInv xs most n0 a b c d ys up) (hno : ∀ u l, 0 < l → l ≤ most → cut xs u l ≠ 0) (n1 : 1 ≤ n) (p0 : 0 ≤ cut ys n 1) (hn : b + n * d ≤ most) : cut ys n 1 = 1 := by
  have t := I.tr n 1 (by omega) (by decide)
  have nd := Int.mul_pos (show 0 < n by omega) (show 0 < d by have := I.d1; omega)
  have hb := I.b0
  rw [Int.mul_one, Int.mul_one, show d * n + b = b + n * d by grind] at t
  have := hno (c * n + a) (b + n * d) (by omega) hn
  rcases cut_01 ys n 1 with z | z | z
  · exact z
  · omega
  · rw [z, Int.mul_zero] at t
    exact absurd t this
theorem AInv.next {xs ys zs : List Int} {most n0 a b c d n : Int} {up : Bool} (I : AInv xs most n0 a b c d ys up) (n1 : 1 ≤ n) (pc : cut ys n 1 = 1) (p1 : cut ys (n + 1) 1 = -1) (hn : b + n * d ≤ most) (h : Led ys n zs) :
    AInv xs most n0 c d (a + n * c) (b + n * d) zs (!up) ∧ b + d < d + (b + n * d) := by
  obtain ⟨A, t, D, L, ny⟩ := I.ny
  obtain ⟨_, _, _, _, nz⟩ := h.num ny
  have d1 := I.d1
  have hb := I.b0
  have nd := Int.mul_le_mul_of_nonneg_right n1 (show 0 ≤ d by omega)
  have sb : sgB (!up) = -(sgB up) := by cases up <;> rfl
  have e1 := I.e1
  have e2 := I.e2
  have e3 := I.e3
  have e4 := I.e4
  refine ⟨⟨⟨_, _, _, _, nz⟩, h.above ny pc p1, by omega, hn, I.dm, .inl d1, ?_, ?_, ?_, ?_, e2, ?_, ?_, ?_⟩, by omega⟩
  · have := I.det
    cases up
    · rw [if_neg (by decide)] at this
      rw [if_pos (by decide)]
      grind
    · rw [if_pos rfl] at this
      rw [if_neg (by decide)]
      grind
  · intro u l hu hl
    have nu := Int.mul_pos (show 0 < n by omega) hu
    have t := I.tr (n * u + l) u (by omega) hu
    rw [show (a + n * c) * u + c * l = c * (n * u + l) + a * u by grind, show (b + n * d) * u + d * l = d * (n * u + l) + b * u by grind, t, sb, h.cuts ny pc hu hl]
    grind
  · have t := I.tr n 1 (by omega) (by decide)
    rw [show a + n * c = c * n + a * 1 by grind, show b + n * d = d * n + b * 1 by grind, t, pc, sb]
    omega
  · intro _
    rw [I.pl, sb]
  · have := Int.mul_le_mul_of_nonneg_left e2 (show 0 ≤ n by omega)
    grind
  · have := Int.mul_le_mul_of_nonneg_left e3 (show 0 ≤ n - 1 by omega)
    grind
  · have := Int.mul_le_mul_of_nonneg_left e3 (show 0 ≤ n - 1 by omega)
    grind
/-- lo and hi: next to the number -/
structure Arnd (xs : List Int) (most B lo0 lo1 hi0 hi1 : Int) : Prop where
  l0 : 0 < lo1
  l1 : lo1 ≤ most
  h0 : 0 < hi1
  h1 : hi1 ≤ most
  sum : most < lo1 + hi1
  det : hi0 * lo1 - lo0 * hi1 = 1
  cl : cut xs lo0 lo1 = 1
  ch : cut xs hi0 hi1 = -1
  bl : -B ≤ lo0 ∧ lo0 ≤ B
  bh : -B ≤ hi0 ∧ hi0 ≤ B
theorem AInv.stop {xs ys : List Int} {most n0 a b c d n m B : Int} {up : Bool} (I : AInv xs most n0 a b c d ys up) (hm : 1 ≤ most) (p0 : 0 ≤ cut ys n 1) (hmn : m < n) (m0 : 0 ≤ m) (h1 : b + m * d ≤ most) (h2 : most < b + m * d + d)
    (hB : (n0.natAbs : Int) * (2 * most) + 2 * most ≤ B) :
    if up = true then Arnd xs most B c d (a + m * c) (b + m * d) else Arnd xs most B (a + m * c) (b + m * d) c d := by
  have d1 := I.d1
  have dm := I.dm
  have bm := I.bm
  have hb := I.b0
  have md := Int.mul_nonneg m0 (show 0 ≤ d by omega)
  have low : 0 < b + m * d := by
    rcases hb with z | ⟨z1, z2⟩
    · omega
    · subst z2; omega
  obtain ⟨A, t, D, L, ny⟩ := I.ny
  have side : cut xs (a + m * c) (b + m * d) = sgB up := by
    by_cases z : m = 0
    · subst z
      rw [show a + 0 * c = a by omega, show b + 0 * d = b by omega]
      exact I.la (by omega)
    · have t := I.tr m 1 (by omega) (by decide)
      have := (cut_lt ny (show (0 : Int) < 1 by decide) (show (0 : Int) < 1 by decide) (u := m) (u' := n) (by omega)).2 p0
      rw [show a + m * c = c * m + a * 1 by grind, show b + m * d = d * m + b * 1 by grind, t, this]
      omega
  have e1 := I.e1
  have e2 := I.e2
  have e3 := I.e3
  have e4 := I.e4
  have bnd : ∀ x : Int, 0 ≤ x → x ≤ 2 * most → -(n0.natAbs * (2 * most)) ≤ n0 * x ∧ n0 * x ≤ n0.natAbs * (2 * most) := fun x x0 x1 => by
    have q1 := Int.mul_le_mul_of_nonneg_left x1 (show 0 ≤ (n0.natAbs : Int) by omega)
    have q2 : (n0 * x).natAbs = n0.natAbs * x.natAbs := Int.natAbs_mul ..
    have q3 : ((n0.natAbs * x.natAbs : Nat) : Int) = (n0.natAbs : Int) * x := by rw [Int.natCast_mul, show (x.natAbs : Int) = x by omega]
    omega
  have g1 := bnd d (by omega) (by omega)
  have g2 : -B ≤ a + m * c ∧ a + m * c ≤ B := by
    have g3 := bnd (b + m * d) (by omega) (by omega)
    have q1 := Int.mul_le_mul_of_nonneg_left e2 m0
    have e5 : n0 * (b + m * d) = n0 * b + m * (n0 * d) := by grind
    by_cases z : m = 0
    · subst z; omega
    · have q2 := Int.mul_le_mul_of_nonneg_left e3 (show 0 ≤ m - 1 by omega)
      have e6 : m * c = (m - 1) * c + c := by grind
      have e7 : (m - 1) * (n0 * d + d) = m * (n0 * d) - n0 * d + m * d - d := by grind
      omega
  have pl := I.pl
  have det := I.det
  cases up
  · rw [if_neg (by decide)] at det ⊢
    exact ⟨low, h1, by omega, dm, by omega, by grind, side, pl, g2, by omega, by omega⟩
  · rw [if_pos rfl] at det ⊢
    exact ⟨by omega, dm, low, h1, by omega, by grind, pl, side, ⟨by omega, by omega⟩, g2⟩
/-- no other lies between them -/
theorem Arnd.none {xs : List Int} {most B lo0 lo1 hi0 hi1 u l : Int} (R : Arnd xs most B lo0 lo1 hi0 hi1) (hl : 0 < l) (hm : l ≤ most) : u * lo1 ≤ lo0 * l ∨ hi0 * l ≤ u * hi1 := by
  rcases Int.lt_or_le (lo0 * l) (u * lo1) with x | x
  · rcases Int.lt_or_le (u * hi1) (hi0 * l) with y | y
    · exfalso
      have l0 := R.l0
      have h0 := R.h0
      have q1 := Int.mul_le_mul_of_nonneg_left (show 1 ≤ hi0 * l - u * hi1 by omega) (show 0 ≤ lo1 by omega)
      have q2 := Int.mul_le_mul_of_nonneg_left (show 1 ≤ u * lo1 - lo0 * l by omega) (show 0 ≤ hi1 by omega)
      have e : lo1 * (hi0 * l - u * hi1) + hi1 * (u * lo1 - lo0 * l) = l * (hi0 * lo1 - lo0 * hi1) := by grind
      rw [R.det] at e
      have := R.sum
      omega
    · exact .inr y
  · exact .inl x
theorem no_root {a b c s most : Int} : ∀ u l, 0 < l → l ≤ most → cut [a, b, c, s] u l ≠ 0 := fun u l _ _ => by
  rw [cut_root]; split <;> decide
end RM

set_option maxHeartbeats 4000000
namespace RM
/-! the nearest -/
/-- nearer to the number than f is o -/
def nr (xs : List Int) (o0 o1 f0 f1 : Int) : Prop := if o0 * f1 < f0 * o1 then cut xs (o0 * f1 + f0 * o1) (2 * o1 * f1) = -1 else cut xs (o0 * f1 + f0 * o1) (2 * o1 * f1) = 1
structure Best (xs : List Int) (most f0 f1 : Int) : Prop where
  all : ∀ o0 o1, 0 < o1 → o1 ≤ most → Int.gcd o0 o1 = 1 → ¬ (o0 = f0 ∧ o1 = f1) → ¬ nr xs o0 o1 f0 f1 ∧ (¬ nr xs f0 f1 o0 o1 → ¬ (o1 < f1 ∨ (o1 = f1 ∧ o0 < f0)))
theorem det_gcd {a b c d : Int} (h : a * d - c * b = 1) : Int.gcd a b = 1 ∧ Int.gcd c d = 1 := by
  constructor
  · have h1 : ((Int.gcd a b : Nat) : Int) ∣ a * d - c * b := Int.dvd_sub (Int.dvd_mul_of_dvd_left (Int.gcd_dvd_left ..) ) (Int.dvd_mul_of_dvd_right (Int.gcd_dvd_right ..))
    rw [h] at h1
    have := Int.le_of_dvd (by decide) h1
    have : Int.gcd a b ≠ 0 := fun z => by
      rw [z] at h1
      obtain ⟨k, hk⟩ := h1
      simp at hk
    omega
  · have h1 : ((Int.gcd c d : Nat) : Int) ∣ a * d - c * b := Int.dvd_sub (Int.dvd_mul_of_dvd_right (Int.gcd_dvd_right ..)) (Int.dvd_mul_of_dvd_left (Int.gcd_dvd_left ..))
    rw [h] at h1
    have := Int.le_of_dvd (by decide) h1
    have : Int.gcd c d ≠ 0 := fun z => by
      rw [z] at h1
      obtain ⟨k, hk⟩ := h1
      simp at hk
    omega
end RM

set_option maxHeartbeats 4000000
namespace RM
/-! all fractions with a lower number up to most, in their order -/
structure FInv (lo0 lo1 hi0 hi1 most : Int) (a b c d : Int) (fs : List (Int × Int)) : Prop where
  b1 : 1 ≤ b
  bm : b ≤ most
  d1 : 1 ≤ d
  dm : d ≤ most
  det : c * b - a * d = 1
  sum : most < b + d
  lo : lo0 * d ≤ c * lo1
  mem : ∀ p ∈ fs, 0 < p.2 ∧ p.2 ≤ most ∧ Int.gcd p.1 p.2 = 1 ∧ lo0 * p.2 ≤ p.1 * lo1 ∧ p.1 * hi1 ≤ hi0 * p.2
  ch : ∀ (i : Nat) p q, fs[i]? = some p → fs[i + 1]? = some q → q.1 * p.2 - p.1 * q.2 = 1
  last : ∀ p, fs.getLast? = some p → p = (a, b)
  all : ∀ u l, 0 < l → l ≤ most → Int.gcd u l = 1 → lo0 * l ≤ u * lo1 → u * d < c * l → (u, l) ∈ fs
  below : ∀ p ∈ fs, p.1 * d < c * p.2
  nd : fs.Nodup
theorem FInv.start {xs : List Int} {lo0 lo1 hi0 hi1 most B a b c d : Int} (R : Arnd xs most B a b c d) (l1 : 0 < lo1) (m1 : 1 ≤ most) (hx : Num xs) (hc : ∀ u l, 0 < l → cut xs u l = sg ((2 * most * lo0 - 1) * l - u * (2 * most * lo1))) : FInv lo0 lo1 hi0 hi1 most a b c d [] := by
  have d0 := R.h0
  have b0 := R.l0
  refine ⟨R.l0, R.l1, R.h0, R.h1, R.det, R.sum, ?_, fun p hp => (by cases hp), fun i p q h => by simp at h, fun p h => by simp at h, ?_, fun p hp => (by cases hp), List.nodup_nil⟩
  · have ch := R.ch
    rw [hc c d d0] at ch
    have neg : (2 * most * lo0 - 1) * d - c * (2 * most * lo1) < 0 := by
      rcases sg_cases ((2 * most * lo0 - 1) * d - c * (2 * most * lo1)) with z | z | z <;> omega
    rcases Int.lt_or_le (c * lo1) (lo0 * d) with z | z
    · have := Int.mul_le_mul_of_nonneg_left (show 1 ≤ lo0 * d - c * lo1 by omega) (show 0 ≤ 2 * most by omega)
      have e : (2 * most * lo0 - 1) * d - c * (2 * most * lo1) = 2 * most * (lo0 * d - c * lo1) - d := by grind
      have := R.h1
      omega
    · exact z
  · intro u l hl hm g h1 h2
    exfalso
    rcases R.none hl hm (u := u) with z | z
    · obtain ⟨A, t, D, L, nx⟩ := hx
      have := cut_le nx hl b0 (u := u) (u' := a) z
      rw [R.cl] at this
      rw [hc u l hl] at this
      have e : (2 * most * lo0 - 1) * l - u * (2 * most * lo1) = 2 * most * (lo0 * l - u * lo1) - l := by grind
      have := Int.mul_nonpos_of_nonneg_of_nonpos (show 0 ≤ 2 * most by omega) (show lo0 * l - u * lo1 ≤ 0 by omega)
      have : sg ((2 * most * lo0 - 1) * l - u * (2 * most * lo1)) = -1 := sg_nega (by omega)
      omega
    · omega
theorem no_below {lo0 lo1 most : Int} {xs : List Int} (l1 : 0 < lo1) (m1 : 1 ≤ most) (hc : ∀ u l, 0 < l → cut xs u l = sg ((2 * most * lo0 - 1) * l - u * (2 * most * lo1))) : ∀ u l, 0 < l → l ≤ most → cut xs u l ≠ 0 := fun u l hl hm e => by
  rw [hc u l hl] at e
  have e := sg_eq_zero e
  have e2 : 2 * most * (lo0 * l - u * lo1) = l := by grind
  rcases Int.lt_or_le 0 (lo0 * l - u * lo1) with z | z
  · have := Int.mul_le_mul_of_nonneg_left (show 1 ≤ lo0 * l - u * lo1 by omega) (show 0 ≤ 2 * most by omega)
    omega
  · have := Int.mul_nonpos_of_nonneg_of_nonpos (show 0 ≤ 2 * most by omega) z
    omega
theorem lt_trans_frac {a b c d e f : Int} (hb : 0 < b) (hd : 0 < d) (hf : 0 < f) (h1 : a * d ≤ c * b) (h2 : c * f < e * d) : a * f < e * b := by
  have q1 := Int.mul_le_mul_of_nonneg_right h1 (show 0 ≤ f by omega)
  have q2 := Int.mul_lt_mul_of_pos_right h2 hb
  have : d * (a * f) < d * (e * b) := by grind
  exact Int.lt_of_mul_lt_mul_left this (by omega)
theorem FInv.next {lo0 lo1 hi0 hi1 most a b c d t : Int} {fs : List (Int × Int)} (I : FInv lo0 lo1 hi0 hi1 most a b c d fs) (l1 : 0 < lo1) (hh : c * hi1 ≤ hi0 * d) (ht : t = (most + b) / d) :
    FInv lo0 lo1 hi0 hi1 most c d (t * c - a) (t * d - b) (fs ++ [(c, d)]) := by
  have d1 := I.d1
  have b1 := I.b1
  have dm := I.dm
  have bm := I.bm
  have det := I.det
  have t1 : d * t ≤ most + b := by rw [ht]; exact Int.mul_ediv_self_le (by omega)
  have t2 : most + b < d * t + d := by rw [ht]; exact Int.lt_mul_ediv_self_add (by omega)
  rw [Int.mul_comm] at t1 t2
  have gcd := (det_gcd (a := c) (b := d) (c := a) (d := b) det).1
  have det' : (t * c - a) * d - c * (t * d - b) = 1 := by grind
  have lt : c * (t * d - b) < (t * c - a) * d := by omega
  refine ⟨d1, dm, by omega, by omega, det', by omega, ?_, ?_, ?_, ?_, ?_, ?_, ?_⟩
  · rcases Int.lt_or_le ((t * c - a) * lo1) (lo0 * (t * d - b)) with z | z
    · exfalso
      have := lt_trans_frac l1 (show 0 < d by omega) (show 0 < t * d - b by omega) I.lo lt
      omega
    · exact z
  · intro p hp
    rcases List.mem_append.mp hp with z | z
    · exact I.mem p z
    · rw [List.mem_singleton] at z
      subst z
      exact ⟨by show 0 < d; omega, dm, gcd, I.lo, hh⟩
  · intro i p q hp hq
    have hi : i + 1 < (fs ++ [(c, d)]).length := (List.getElem?_eq_some_iff.mp hq).1
    rw [List.length_append, List.length_singleton] at hi
    rcases Nat.lt_or_ge (i + 1) fs.length with z | z
    · rw [List.getElem?_append_left (by omega)] at hp hq
      exact I.ch i p q hp hq
    · have e : i + 1 = fs.length := by omega
      rw [List.getElem?_append_right (by omega), e, Nat.sub_self] at hq
      rw [List.getElem?_append_left (by omega)] at hp
      have : fs.getLast? = some p := by rw [List.getLast?_eq_getElem?, ← e]; exact hp
      have := I.last p this
      subst this
      have : (c, d) = q := by simpa using hq
      subst this
      exact det
  · intro p hp
    rw [List.getLast?_append] at hp
    simp at hp
    exact hp.symm
  · intro u l hl hm g h1 h2
    rw [List.mem_append, List.mem_singleton]
    rcases Int.lt_trichotomy (u * d) (c * l) with z | z | z
    · exact .inl (I.all u l hl hm g h1 z)
    · obtain ⟨e1, e2⟩ := same_frac hl (show 0 < d by omega) g gcd (by omega)
      exact .inr (by rw [e1, e2])
    · exfalso
      have q1 := Int.mul_le_mul_of_nonneg_left (show 1 ≤ (t * c - a) * l - u * (t * d - b) by omega) (show 0 ≤ d by omega)
      have q2 := Int.mul_le_mul_of_nonneg_left (show 1 ≤ u * d - c * l by omega) (show 0 ≤ t * d - b by omega)
      have e : d * ((t * c - a) * l - u * (t * d - b)) + (t * d - b) * (u * d - c * l) = l * ((t * c - a) * d - c * (t * d - b)) := by grind
      rw [det'] at e
      omega
  · intro p hp
    rcases List.mem_append.mp hp with z | z
    · exact lt_trans_frac (I.mem p z).1 (show 0 < d by omega) (show 0 < t * d - b by omega) (Int.le_of_lt (I.below p z)) lt
    · rw [List.mem_singleton] at z
      subst z
      exact lt
  · rw [List.nodup_append]
    refine ⟨I.nd, by simp, fun p hp q hq e => ?_⟩
    rw [List.mem_singleton] at hq
    subst hq e
    have := I.below _ hp
    exact Int.lt_irrefl _ this
/-- the way to the end grows shorter -/
def far (hi0 hi1 c d : Int) : Int := hi0 * 2520 - hi1 * (c * (2520 / d))
theorem by_2520 {d : Int} (h1 : 1 ≤ d) (h2 : d ≤ 9) : d * (2520 / d) = 2520 ∧ 0 < 2520 / d := by
  have : d = 1 ∨ d = 2 ∨ d = 3 ∨ d = 4 ∨ d = 5 ∨ d = 6 ∨ d = 7 ∨ d = 8 ∨ d = 9 := by omega
  rcases this with e | e | e | e | e | e | e | e | e <;> subst e <;> decide
theorem far_falls {hi0 hi1 c d c' d' : Int} (d1 : 1 ≤ d) (d2 : d ≤ 9) (d1' : 1 ≤ d') (d2' : d' ≤ 9) (h1 : 0 < hi1) (h : c * d' < c' * d) (hh : c * hi1 ≤ hi0 * d) : 0 ≤ far hi0 hi1 c d ∧ far hi0 hi1 c' d' < far hi0 hi1 c d := by
  obtain ⟨e1, p1⟩ := by_2520 d1 d2
  obtain ⟨e2, p2⟩ := by_2520 d1' d2'
  unfold far
  generalize 2520 / d = q at *
  generalize 2520 / d' = q' at *
  constructor
  · have := Int.mul_le_mul_of_nonneg_right hh (show 0 ≤ q by omega)
    have a1 : c * hi1 * q = hi1 * (c * q) := by grind
    have a2 : hi0 * d * q = hi0 * 2520 := by rw [← e1]; grind
    omega
  · have k1 := Int.mul_lt_mul_of_pos_right h (Int.mul_pos p1 p2)
    have k2 : c * d' * (q * q') = c * q * 2520 := by rw [← e2]; grind
    have k3 : c' * d * (q * q') = c' * q' * 2520 := by rw [← e1]; grind
    have k4 : c * q < c' * q' := by omega
    have := Int.mul_lt_mul_of_pos_left k4 h1
    omega
/-- lists of the same things -/
theorem len_le {α : Type} [DecidableEq α] : ∀ {l m : List α}, l.Nodup → (∀ x ∈ l, x ∈ m) → l.length ≤ m.length
  | [], _, _, _ => Nat.zero_le _
  | a :: l, m, hn, h => by
    have ha := h a (List.mem_cons_self ..)
    rw [List.nodup_cons] at hn
    have ih := len_le (l := l) (m := m.erase a) hn.2 (fun x hx => by
      have hne : x ≠ a := fun e => hn.1 (e ▸ hx)
      exact (List.mem_erase_of_ne hne).mpr (h x (List.mem_cons_of_mem _ hx)))
    rw [List.length_erase_of_mem ha] at ih
    have := List.length_pos_of_mem ha
    rw [List.length_cons]
    omega
theorem len_eq {α : Type} [DecidableEq α] {l m : List α} (h1 : l.Nodup) (h2 : m.Nodup) (h : ∀ x, x ∈ l ↔ x ∈ m) : l.length = m.length :=
  Nat.le_antisymm (len_le h1 fun x hx => (h x).mp hx) (len_le h2 fun x hx => (h x).mpr hx)
end RM

set_option maxHeartbeats 4000000
namespace RM
/-! a root's row, reckoned -/
def isqB : Nat → Nat → Nat
  | 0, _ => 0
  | k + 1, n => if (2 * isqB k (n / 4) + 1) * (2 * isqB k (n / 4) + 1) ≤ n then 2 * isqB k (n / 4) + 1 else 2 * isqB k (n / 4)
theorem isqB_ok : ∀ {k n : Nat}, n < 4 ^ k → isqB k n * isqB k n ≤ n ∧ n < (isqB k n + 1) * (isqB k n + 1)
  | 0, n, h => by
    have : n = 0 := by simpa using h
    subst this
    exact ⟨by decide, by decide⟩
  | k + 1, n, h => by
    have ih := isqB_ok (k := k) (n := n / 4) (by rw [Nat.pow_succ] at h; omega)
    rw [isqB]
    generalize isqB k (n / 4) = r at *
    split
    · exact ⟨by assumption, by grind⟩
    · exact ⟨by grind, by omega⟩
def isq (n : Nat) : Nat := isqB (n.log2 / 2 + 1) n
theorem isq_ok (n : Nat) : isq n * isq n ≤ n ∧ n < (isq n + 1) * (isq n + 1) := by
  refine isqB_ok ?_
  have h := Nat.lt_log2_self (n := n)
  refine Nat.lt_of_lt_of_le h ?_
  rw [show 4 = 2 ^ 2 from rfl, ← Nat.pow_mul]
  exact Nat.pow_le_pow_right (by decide) (by omega)
def pt : List Int → Int
  | [a, b, c, s] => ((if s = 0 then -(isq (heart a b c).toNat : Int) - 1 else (isq (heart a b c).toNat : Int)) - b) / (2 * a)
  | _ => 0
def nxtN (a b c s n : Int) : List Int := [(a * n * n + b * n + c).fdiv (by3 (a * n * n + b * n + c) (2 * a * n + b) a), (2 * a * n + b).fdiv (by3 (a * n * n + b * n + c) (2 * a * n + b) a), a.fdiv (by3 (a * n * n + b * n + c) (2 * a * n + b) a), if 0 < a * n * n + b * n + c then 1 - s else s]
def nxt : List Int → List Int
  | [a, b, c, s] => nxtN a b c s (pt [a, b, c, s])
  | _ => []
def IsR (xs : List Int) : Prop := ∃ a b c s, xs = [a, b, c, s] ∧ Root a b c s
theorem IsR.num {xs : List Int} (h : IsR xs) : Num xs := by
  obtain ⟨a, b, c, s, rfl, r⟩ := h
  exact ⟨_, _, _, _, .root r⟩
theorem part_small' {a b h g s n : Int} (ha : 0 < a) (hh : 0 ≤ h) (g0 : 0 ≤ g) (g1 : g * g ≤ h) (hn : n = ((if s = 0 then -g - 1 else g) - b) / (2 * a)) : n.natAbs ≤ h.natAbs + b.natAbs + 1 := by
  have gl := sqrt_le g0 g1
  have lo := Int.mul_ediv_self_le (x := (if s = 0 then -g - 1 else g) - b) (k := 2 * a) (by omega)
  have hi := Int.lt_mul_ediv_self_add (x := (if s = 0 then -g - 1 else g) - b) (k := 2 * a) (by omega)
  rw [← hn] at lo hi
  obtain ⟨w, hw⟩ : ∃ w, (if s = 0 then -g - 1 else g) = w := ⟨_, rfl⟩
  have hwb : -h - 1 ≤ w ∧ w ≤ h := by rw [← hw]; split <;> omega
  rw [hw] at lo hi
  rcases Int.lt_or_le n 0 with z | z
  · have := Int.mul_le_mul_of_nonneg_right (show (2 : Int) ≤ 2 * a by omega) (show 0 ≤ -n - 1 by omega)
    rw [show 2 * a * (-n - 1) = -(2 * a * n) - 2 * a by grind] at this
    omega
  · have := Int.mul_le_mul_of_nonneg_right (show (2 : Int) ≤ 2 * a by omega) z
    omega
theorem pt_ok {a b c s : Int} (r : Root a b c s) : PartOf [a, b, c, s] (pt [a, b, c, s]) := by
  have hp := r.hp
  obtain ⟨i1, i2⟩ := isq_ok (heart a b c).toNat
  have g1 : ((isq (heart a b c).toNat : Nat) : Int) * (isq (heart a b c).toNat : Int) ≤ heart a b c := by
    rw [← Int.natCast_mul]; omega
  have g2 : heart a b c < ((isq (heart a b c).toNat : Int) + 1) * ((isq (heart a b c).toNat : Int) + 1) := by
    have : ((((isq (heart a b c).toNat + 1) * (isq (heart a b c).toNat + 1) : Nat)) : Int) = ((isq (heart a b c).toNat : Int) + 1) * ((isq (heart a b c).toNat : Int) + 1) := by rw [Int.natCast_mul, Int.natCast_add]; rfl
    omega
  have hn := part_right r (by omega) g1 g2 rfl
  have hs := part_small' (s := s) (b := b) r.pos (by omega) (show (0 : Int) ≤ (isq (heart a b c).toNat : Int) by omega) g1 rfl
  exact .root hn.1 hn.2 hs
theorem nxt_turn {a b c s : Int} (r : Root a b c s) (n : Int) : ∃ P B A : Int, TurnOf a b c s n P B A ∧ nxtN a b c s n = [P, B, A, if 0 < a * n * n + b * n + c then 1 - s else s] := by
  have tr := turned_ht (n := n) r
  have hsq : ¬ IsSq (heart (a * n * n + b * n + c) (2 * a * n + b) a) := by rw [tr.2]; exact r.ns
  have hnn : 0 ≤ heart (a * n * n + b * n + c) (2 * a * n + b) a := by rw [tr.2]; have := r.hp; omega
  have sd := r.side
  have rt := root_low tr.1 hnn hsq (s := if 0 < a * n * n + b * n + c then 1 - s else s) (by split <;> omega)
  obtain ⟨A', B', C', ea, eb, ec, fa, fb', fc, hA', hg'⟩ := by3_split (b := 2 * a * n + b) (c := a) tr.1
  rw [fa, fb', fc] at rt
  refine ⟨A', B', C', ⟨rt, _, by3_ne tr.1, ea, eb, ec⟩, ?_⟩
  unfold nxtN
  rw [fa, fb', fc]
theorem nxt_ok {xs : List Int} (h : IsR xs) : PartOf xs (pt xs) ∧ Led xs (pt xs) (nxt xs) ∧ IsR (nxt xs) := by
  obtain ⟨a, b, c, s, rfl, r⟩ := h
  obtain ⟨P, B, A, t, e⟩ := nxt_turn r (pt [a, b, c, s])
  refine ⟨pt_ok r, ?_, ?_⟩
  · show Led _ _ (nxtN a b c s (pt [a, b, c, s]))
    rw [e]
    exact .root t
  · exact ⟨P, B, A, _, e, t.1⟩
theorem cuts_eq {xs ys : List Int} (hx : Num xs) (hy : Num ys) (h : ∀ u l, 0 < l → cut xs u l = cut ys u l) : xs = ys := by
  obtain ⟨A1, t1, D1, L1, hx⟩ := hx
  obtain ⟨A2, t2, D2, L2, hy⟩ := hy
  rcases cmpN_01 A1 t1 D1 L1 A2 t2 D2 L2 with z | z | z
  · obtain ⟨u, l, _, hl, c1, c2⟩ := dense hx hy z (Int.le_refl _) (Int.le_refl _)
    have := h u l hl
    omega
  · exact (cmpN_zero hx hy).mp z
  · have z' : cmpN A2 t2 D2 L2 A1 t1 D1 L1 = -1 := by rw [cmpN_turn hx.D_nn hy.D_nn, z]
    obtain ⟨u, l, _, hl, c1, c2⟩ := dense hy hx z' (Int.le_refl _) (Int.le_refl _)
    have := h u l hl
    omega
/-- the row by steps -/
def sq (x : List Int) : Nat → List Int
  | 0 => x
  | k + 1 => nxt (sq x k)
theorem sq_succ (x : List Int) : ∀ k, sq (nxt x) k = sq x (k + 1)
  | 0 => rfl
  | k + 1 => by rw [sq, sq_succ x k]; rfl
theorem sq_add (x : List Int) (m : Nat) : ∀ k, sq (sq x m) k = sq x (m + k)
  | 0 => rfl
  | k + 1 => by rw [sq, sq_add x m k]; rfl
theorem sq_R {x : List Int} (h : IsR x) : ∀ k, IsR (sq x k)
  | 0 => h
  | k + 1 => (nxt_ok (sq_R h k)).2.2
def pr (x : List Int) (k : Nat) : Int := pt (sq x k)
theorem strict_part {xs : List Int} (h : IsR xs) {n : Int} (p : PartOf xs n) : cut xs n 1 = 1 ∧ cut xs (n + 1) 1 = -1 := by
  have a := p.cuts h.num.choose_spec.choose_spec.choose_spec.choose_spec
  obtain ⟨x, b, c, s, rfl, r⟩ := h
  refine ⟨?_, a.2⟩
  have := no_root (a := x) (b := b) (c := c) (s := s) (most := 1) n 1 (by decide) (by decide)
  rcases cut_01 [x, b, c, s] n 1 with z | z | z <;> omega
theorem row_gap : ∀ {L : Nat} {x y : List Int}, IsR x → IsR y → (∀ k, pr x k = pr y k) → ∀ {u l : Int}, 0 < l → l.toNat ≤ L → ¬ (cut x u l = -1 ∧ cut y u l = 1) := by
  intro L
  induction L with
  | zero => intro x y _ _ _ u l h1 h2; omega
  | succ L ih =>
    intro x y hx hy h u l hl hL ⟨c1, c2⟩
    obtain ⟨px, lx, rx⟩ := nxt_ok hx
    obtain ⟨py, ly, ry⟩ := nxt_ok hy
    have e : pt x = pt y := h 0
    rw [← e] at py ly
    have sx := strict_part hx px
    have sy := strict_part hy py
    have a1 := above_part hx.num hl (show 0 ≤ cut x (pt x) 1 by omega) c1
    have a2 := below_part hy.num hl (show cut y (pt x + 1) 1 ≤ 0 by omega) c2
    rw [Int.add_mul, Int.one_mul] at a2
    refine ih ry rx (fun k => ?_) (show 0 < u - pt x * l by omega) (by omega) (u := l) ⟨?_, ?_⟩
    · have := h (k + 1)
      unfold pr at this ⊢
      rw [sq_succ, sq_succ]
      exact this.symm
    · rw [ly.cuts hy.num.choose_spec.choose_spec.choose_spec.choose_spec sy.1 hl (by omega), show pt x * l + (u - pt x * l) = u by omega, c2]
    · rw [lx.cuts hx.num.choose_spec.choose_spec.choose_spec.choose_spec sx.1 hl (by omega), show pt x * l + (u - pt x * l) = u by omega, c1]; rfl
/-- one row, one root -/
theorem same_row {x y : List Int} (hx : IsR x) (hy : IsR y) (h : ∀ k, pr x k = pr y k) : x = y := by
  refine cuts_eq hx.num hy.num fun u l hl => ?_
  have h1 := row_gap hx hy h hl (Nat.le_refl _) (u := u)
  have h2 := row_gap hy hx (fun k => (h k).symm) hl (Nat.le_refl _) (u := u)
  have n1 : cut x u l ≠ 0 := by
    obtain ⟨a, b, c, s, rfl, _⟩ := hx
    exact no_root u l hl (Int.le_refl _)
  have n2 : cut y u l ≠ 0 := by
    obtain ⟨a, b, c, s, rfl, _⟩ := hy
    exact no_root u l hl (Int.le_refl _)
  rcases cut_01 x u l with z | z | z <;> rcases cut_01 y u l with w | w | w <;> first | omega | (exfalso; omega) | (exfalso; exact h1 ⟨z, w⟩) | (exfalso; exact h2 ⟨w, z⟩)
/-! where a row goes round -/
structure Round (x : List Int) (i j : Nat) : Prop where
  lt : i < j
  eq : sq x i = sq x j
  fst : ∀ i' j', i' < j' → j' < j → sq x i' ≠ sq x j'
theorem Round.per {x : List Int} {i j : Nat} (R : Round x i j) : ∀ k, i ≤ k → sq x (k + (j - i)) = sq x k := fun k hk => by
  have := R.lt
  obtain ⟨m, rfl⟩ := Nat.exists_eq_add_of_le hk
  rw [show i + m + (j - i) = j + m by omega, ← sq_add, ← sq_add, R.eq]
theorem Round.pers {x : List Int} {i j : Nat} (R : Round x i j) (k : Nat) (hk : i ≤ k) : ∀ t, sq x (k + t * (j - i)) = sq x k
  | 0 => by rw [Nat.zero_mul]; rfl
  | t + 1 => by rw [Nat.succ_mul, ← Nat.add_assoc, R.per _ (by omega), R.pers k hk t]
theorem Round.mod {x : List Int} {i j : Nat} (R : Round x i j) (k : Nat) : sq x (i + k) = sq x (i + k % (j - i)) := by
  have := R.pers (i + k % (j - i)) (by omega) (k / (j - i))
  rw [← this]
  congr 1
  have := Nat.mod_add_div k (j - i)
  rw [Nat.mul_comm] at this
  omega
/-- no other equals come first: where two are equal -/
theorem Round.bound {x : List Int} {i j m p : Nat} (R : Round x i j) (hp : 0 < p) (h : sq x m = sq x (m + p)) : i ≤ m ∧ j - i ≤ p := by
  have lt := R.lt
  -- far enough, all lie in the round
  have inj : ∀ a b, a < j - i → b < j - i → sq x (i + a) = sq x (i + b) → a = b := fun a b ha hb e => by
    rcases Nat.lt_trichotomy a b with z | z | z
    · exact absurd e (R.fst _ _ (by omega) (by omega))
    · exact z
    · exact absurd e.symm (R.fst _ _ (by omega) (by omega))
  have him : i ≤ m := by
    rcases Nat.lt_or_ge m i with z | z
    · exfalso
      rcases Nat.lt_or_ge (m + p) i with y | y
      · exact R.fst m (m + p) (by omega) (by omega) h
      · obtain ⟨k, hk⟩ := Nat.exists_eq_add_of_le y
        rw [hk, R.mod k] at h
        have := Nat.mod_lt k (show 0 < j - i by omega)
        exact R.fst m (i + k % (j - i)) (by omega) (by omega) h
    · exact z
  refine ⟨him, ?_⟩
  obtain ⟨k, rfl⟩ := Nat.exists_eq_add_of_le him
  rw [show i + k + p = i + (k + p) by omega, R.mod k, R.mod (k + p)] at h
  have l0 : 0 < j - i := by omega
  have e := inj _ _ (Nat.mod_lt k l0) (Nat.mod_lt (k + p) l0) h
  rcases Nat.lt_or_ge p (j - i) with z | z
  · exfalso
    have a1 := Nat.mod_add_div k (j - i)
    have a2 := Nat.mod_add_div (k + p) (j - i)
    have : (j - i) ∣ p := by
      have := Nat.dvd_of_mod_eq_zero (Nat.sub_mod_eq_zero_of_mod_eq e.symm)
      rwa [show k + p - k = p by omega] at this
    have := Nat.le_of_dvd hp this
    omega
  · exact z
theorem Round.short {x : List Int} {i j z : Nat} (hx : IsR x) (R : Round x i j) (z0 : 0 < z) (hz : z < j - i) (h : ∀ k, pr x (i + (k + z)) = pr x (i + k)) : False := by
  refine R.fst i (i + z) (by omega) (by omega) (same_row (sq_R hx i) (sq_R hx (i + z)) fun k => ?_)
  unfold pr at h ⊢
  rw [sq_add, sq_add, show i + z + k = i + (k + z) by omega]
  exact (h k).symm
end RM

set_option maxHeartbeats 4000000
namespace RM
/-! the root of a row that goes round -/
structure M22 where
  p : Int
  q : Int
  r : Int
  s : Int
def mst (m : M22) (a : Int) : M22 := ⟨a * m.p + m.q, m.p, a * m.r + m.s, m.r⟩
def mat (w : List Int) : M22 := w.foldl mst ⟨1, 0, 0, 1⟩
structure MOk (t : List Int) (m : M22) : Prop where
  p1 : 1 ≤ m.p
  q0 : 0 ≤ m.q
  r0 : 0 ≤ m.r
  s0 : 0 ≤ m.s
  qs : 1 ≤ m.q + m.s
  more : (t = [] ∧ m = ⟨1, 0, 0, 1⟩) ∨ (m.r ≤ m.p ∧ m.s ≤ m.q ∧ 1 ≤ m.r ∧ 1 ≤ m.q ∧ m.r + m.s < m.p + m.q)
  det : m.p * m.s - m.q * m.r = 1 ∨ m.p * m.s - m.q * m.r = -1
/-- the round's equation -/
def rrE (w : List Int) : Int × Int × Int := ((mat w).r, (mat w).s - (mat w).p, -(mat w).q)
structure ROk (A B C : Int) : Prop where
  a1 : 1 ≤ A
  c1 : C ≤ -1
  hh : 0 ≤ heart A B C
  ns : ¬ IsSq (heart A B C)
def nrm (A B C s : Int) : List Int := [A.fdiv (by3 A B C), B.fdiv (by3 A B C), C.fdiv (by3 A B C), s]
def rr (w : List Int) : List Int := nrm (rrE w).1 (rrE w).2.1 (rrE w).2.2 1
end RM

set_option maxHeartbeats 4000000
set_option maxRecDepth 100000
namespace RM
/-! rounds, found by reckoning -/
theorem Round.one {x : List Int} {i j i' j' : Nat} (R : Round x i j) (S : Round x i' j') : i = i' ∧ j = j' := by
  have a := R.lt
  have b := S.lt
  have e : j = j' := by
    rcases Nat.lt_trichotomy j j' with z | z | z
    · exact absurd R.eq (S.fst i j a z)
    · exact z
    · exact absurd S.eq (R.fst i' j' b z)
  subst e
  refine ⟨?_, rfl⟩
  rcases Nat.lt_trichotomy i i' with z | z | z
  · exact absurd (R.eq.trans S.eq.symm) (R.fst i i' z b)
  · exact z
  · exact absurd (S.eq.trans R.eq.symm) (R.fst i' i z a)
/-- some two equal: a round -/
theorem Round.ex {x : List Int} : ∀ {n : Nat}, (∃ i j, i < j ∧ j ≤ n ∧ sq x i = sq x j) → ∃ i j, Round x i j ∧ j ≤ n
  | 0, ⟨i, j, h1, h2, _⟩ => by omega
  | n + 1, h => by
    by_cases z : ∃ i j, i < j ∧ j ≤ n ∧ sq x i = sq x j
    · obtain ⟨i, j, R, hj⟩ := Round.ex z
      exact ⟨i, j, R, by omega⟩
    · obtain ⟨i, j, h1, h2, h3⟩ := h
      refine ⟨i, j, ⟨h1, h3, fun a b hab hb e => z ⟨a, b, hab, by omega, e⟩⟩, h2⟩
/-! pairs put together -/
def nm (d : Int) (p : Int × Int) : Int := p.1 * p.1 - d * p.2 * p.2
def xd (d : Int) : List Int := [1, 0, -d, 1]
/-- the row of the root of d, up to the last part of its first round -/
def wsD (d : Int) (i j : Nat) : List Int := (List.range i).map (pr (xd d)) ++ ((List.range (j - i)).map fun k => pr (xd d) (i + k)).dropLast
end RM

set_option Elab.async false
set_option linter.all false
set_option maxRecDepth 100000
set_option maxHeartbeats 4000000
namespace Own
open PySem L2 RM
/-! ### the text by places -/
def top (i : Nat) : Stmt := PySem.Challenge.pw_rootrow_k09_whole_neighbours.main.body.getD i (.Pass ⟨0, 0, 0, 0⟩)
abbrev s_common_divisor : Stmt := top 4
abbrev s_lowest : Stmt := top 5
abbrev s_least_square : Stmt := top 6
abbrev s_heart_of : Stmt := top 8
abbrev s_is_square : Stmt := top 9
abbrev s_divisor_of_all : Stmt := top 10
abbrev s_root_of : Stmt := top 11
abbrev s_part_of : Stmt := top 12
abbrev s_turned : Stmt := top 13
abbrev s_led_to : Stmt := top 14
abbrev s_sign_of : Stmt := top 16
abbrev s_signed_square : Stmt := top 17
abbrev s_spread_out : Stmt := top 18
abbrev s_sign_with_root : Stmt := top 19
abbrev s_sign_with_two_roots : Stmt := top 20
abbrev s_compare : Stmt := top 21
abbrev s_around : Stmt := top 23
abbrev s_just_below : Stmt := top 24
abbrev s_following : Stmt := top 25
abbrev s_between : Stmt := top 26
abbrev s_law_cell : Stmt := top 28
abbrev s_law_mix : Stmt := top 29
abbrev s_law_whole : Stmt := top 30
abbrev s_law_divisor : Stmt := top 31
abbrev s_law_lowest : Stmt := top 32
abbrev s_law_fraction : Stmt := top 33
abbrev s_law_less : Stmt := top 34
abbrev s_law : Stmt := top 35
/-- what the top has bound -/
structure Txt (K : PySem.W.Frag) (mg : Str → Option Value) (C_RowError : Addr) (C_NoNumber : Addr) : Prop where
  n_abs : mg "abs" = none
  n_len : mg "len" = none
  n_min : mg "min" = none
  n_tuple : mg "tuple" = none
  n_isinstance : mg "isinstance" = none
  n_int : mg "int" = none
  n_bool : mg "bool" = none
  n_enumerate : mg "enumerate" = none
  n_range : mg "range" = none
  m_RowError : mg "RowError" = some (.ref C_RowError)
  m_NoNumber : mg "NoNumber" = some (.ref C_NoNumber)
  x_RowError : PySem.W.excIn K C_RowError [.type "ValueError", .type "Exception", .type "BaseException", .type "object"] "ValueError.__new__" = true
  x_NoNumber : PySem.W.excIn K C_NoNumber [.type "ValueError", .type "Exception", .type "BaseException", .type "object"] "ValueError.__new__" = true
  ex : PySem.W.exmOne K (.ref C_NoNumber) (.ref C_RowError) = some true
  iv : PySem.W.kitOne K (.ref C_NoNumber) (.type "ValueError") = some true
/-! ### what the defs promise -/
theorem ifF {c A B : Prop} [Decidable c] (hc : ¬ c) (h : B) : if c then A else B := by rw [if_neg hc]; exact h
theorem ifT {c A B : Prop} [Decidable c] (hc : c) (h : A) : if c then A else B := by rw [if_pos hc]; exact h
theorem flat_int (ns : List Int) : (ns.map V.int).all flatV = true := by
  rw [List.all_eq_true]
  intro x hx
  obtain ⟨i, _, rfl⟩ := List.mem_map.mp hx
  rfl
def wholeV : V → Option Bool
  | .int _ => some true
  | .bl _ => some false
  | .str _ => some false
  | .non => some false
  | _ => none
def sp_whole : Sp := fun vs H Q _ => ∃ v b, vs = [v] ∧ wholeV v = some b ∧ Q (.bl b) H
def sp_gcd : Sp := fun vs H Q _ => ∃ a b : Int, vs = [.int a, .int b] ∧ Q (.int (Int.gcd a b : Nat)) H
def sp_sqrt : Sp := fun vs H Q _ => ∃ n : Int, vs = [.int n] ∧ 0 ≤ n ∧ n < 10 ^ 90 ∧ ∀ g : Int, 0 ≤ g → g * g ≤ n → n < (g + 1) * (g + 1) → Q (.int g) H
def low (u l : Int) : List V := [.int (u.fdiv (by_ u l)), .int (l.fdiv (by_ u l))]
def sp_cell (K : PySem.W.Frag) : Sp := fun vs H Q _ => ∃ (a : Addr) (ns : List Int) (k : Int), vs = [.ref a, .int k] ∧ SqL K H a (ns.map V.int) ∧ 0 ≤ k ∧ Q (.int (ns.getD k.toNat 0)) H
def sp_llow : Sp := fun vs H Q _ => ∃ u l : Int, vs = [.int u, .int l] ∧ l ≠ 0 ∧ Fit l ∧ newQ H (.tup (low u l)) Q
def sp_mix : Sp := fun vs H Q _ => ∃ c p m : Int, vs = [.int c, .int p, .int m] ∧ 0 < p ∧ 0 < m ∧ ∀ r : Int, 0 ≤ r → r < m → Q (.int r) H
def sp_fraction : Sp := fun vs H Q _ => ∃ c o m : Int, vs = [.int c, .int o, .int m] ∧ 0 < m ∧ m < 10 ^ 9 ∧ ∀ U L : Int, 0 < L → L ≤ m → -m ≤ U → U ≤ m → Int.gcd U L = 1 → newQ H (.tup [.int U, .int L]) Q
def Bd (x : Int) : Prop := -(10 ^ 40) < x ∧ x < 10 ^ 40
def sp_heart : Sp := fun vs H Q _ => ∃ a b c : Int, vs = [.int a, .int b, .int c] ∧ Bd a ∧ Bd b ∧ Bd c ∧ Q (.int (heart a b c)) H
def sp_issq : Sp := fun vs H Q _ => ∃ n : Int, vs = [.int n] ∧ 0 ≤ n ∧ n < 10 ^ 90 ∧ ∀ t : Bool, (t = true ↔ IsSq n) → Q (.bl t) H
def sp_g3 : Sp := fun vs H Q _ => ∃ a b c : Int, vs = [.int a, .int b, .int c] ∧ Q (.int (g3 a b c)) H
def sp_root_of (CN : Addr) : Sp := fun vs H Q E => ∃ a b c s : Int, vs = [.int a, .int b, .int c, .int s] ∧ Bd a ∧ Bd b ∧ Bd c ∧ (a = 0 ∨ heart a b c < 0 ∨ IsSq (heart a b c) → E (.ref CN) none H) ∧
  (a ≠ 0 → 0 ≤ heart a b c → ¬ IsSq (heart a b c) → newQ H (.tup [.int (a.fdiv (by3 a b c)), .int (b.fdiv (by3 a b c)), .int (c.fdiv (by3 a b c)), .int s]) Q)
inductive RootAns (K : PySem.W.Frag) (H : Hp) : V → Bool → Prop where
  | other {v : V} {t : Value} (ht : TyX K H v t) (e : PySem.W.kitOne K t (.type "tuple") = some false) : RootAns K H v false
  | len {a : Addr} {xs : List V} (h : SqT K H a xs) (e : xs.length ≠ 4) : RootAns K H (.ref a) false
  | items {a : Addr} {x y z t : V} {bx by' bz bt : Bool} (h : SqT K H a [x, y, z, t]) (ex : wholeV x = some bx) (ey : wholeV y = some by') (ez : wholeV z = some bz) (et : wholeV t = some bt) (e : (bx && by' && bz && bt) = false) : RootAns K H (.ref a) false
  | root {p : Addr} {a b c s : Int} {t : Bool} (h : SqT K H p [.int a, .int b, .int c, .int s]) (ha : Bd a) (hb : Bd b) (hc : Bd c) (e : t = true ↔ Root a b c s) : RootAns K H (.ref p) t
def sp_part (K : PySem.W.Frag) : Sp := fun vs H Q _ => ∃ (p : Addr) (xs : List Int) (A t D L : Int), vs = [.ref p] ∧ SqT K H p (xs.map V.int) ∧ NumR xs A t D L ∧ (∀ x ∈ xs, Bd x) ∧ ∀ n, PartOf xs n → Q (.int n) H
def Sm (x : Int) : Prop := -(2 ^ 64) < x ∧ x < 2 ^ 64
def sp_sg : Sp := fun vs H Q _ => ∃ n : Int, vs = [.int n] ∧ Q (.int (sg n)) H
def sp_S : Sp := fun vs H Q _ => ∃ n : Int, vs = [.int n] ∧ Fit n ∧ Q (.int (S n)) H
def sp_spread (K : PySem.W.Frag) : Sp := fun vs H Q _ => ∃ (p : Addr) (xs : List Int) (A t D L : Int), vs = [.ref p] ∧ SqT K H p (xs.map V.int) ∧ NumR xs A t D L ∧ (∀ x ∈ xs, Bd x) ∧ newQ H (.tup [.int A, .int t, .int D, .int L]) Q
def sp_swr : Sp := fun vs H Q _ => ∃ w t h : Int, vs = [.int w, .int t, .int h] ∧ Fit w ∧ Fit t ∧ Fit (S t) ∧ Fit h ∧ Q (.int (sg (S w + S t * h))) H
def sp_swtr : Sp := fun vs H Q _ => ∃ X p D q E : Int, vs = [.int X, .int p, .int D, .int q, .int E] ∧ X.natAbs < 10 ^ 44 ∧ p.natAbs < 10 ^ 22 ∧ D.natAbs < 10 ^ 44 ∧ q.natAbs < 10 ^ 22 ∧ E.natAbs < 10 ^ 44 ∧ Q (.int (cmp2 X p D q E)) H
def sp_compare (K : PySem.W.Frag) : Sp := fun vs H Q _ => ∃ (p q : Addr) (xs ys : List Int) (A1 t1 D1 L1 A2 t2 D2 L2 : Int), vs = [.ref p, .ref q] ∧ SqT K H p (xs.map V.int) ∧ SqT K H q (ys.map V.int) ∧ NumR xs A1 t1 D1 L1 ∧ NumR ys A2 t2 D2 L2 ∧ (∀ x ∈ xs, x.natAbs < 10 ^ 21) ∧ (∀ x ∈ ys, x.natAbs < 10 ^ 21) ∧ ∀ H', Same H H' → Q (.int (cmpN A1 t1 D1 L1 A2 t2 D2 L2)) H'
def BadRow (ns : List Int) : Prop := ns = [] ∨ ∃ x ∈ ns.drop 1, x < 1
/-- the numbers on the way keep within 200 figures -/
def RowFit (ns : List Int) : Prop := (∀ y ∈ ns, Fit y) ∧ ∀ k, k < ns.length → Fit (st (ns.drop k)).1
def sp_turned (K : PySem.W.Frag) : Sp := fun vs H Q _ => ∃ (p : Addr) (a b c s n : Int), vs = [.ref p, .int n] ∧ SqT K H p [.int a, .int b, .int c, .int s] ∧ Root a b c s ∧ (Sm n ∨ Bd n ∧ Bd b) ∧ Bd (a * n * n + b * n + c) ∧ Bd (2 * a * n + b) ∧ Bd a ∧ ∀ P B A : Int, TurnOf a b c s n P B A → newQ H (.tup [.int P, .int B, .int A, .int (if 0 < a * n * n + b * n + c then 1 - s else s)]) Q
/-- n: the part, or one less where the number is whole -/
def PartUp (xs : List Int) (n : Int) : Prop := PartOf xs n ∨ ∃ l : Int, xs = [(n + 1) * l, l]
def sp_led (K : PySem.W.Frag) : Sp := fun vs H Q _ => ∃ (p : Addr) (xs : List Int) (n A t D L D0 M : Int), vs = [.ref p, .int n] ∧ SqT K H p (xs.map V.int) ∧ NumR xs A t D L ∧ PartUp xs n ∧ Sz D0 M xs ∧ 0 ≤ D0 ∧ D0 + M < 10 ^ 38 ∧
  (cut xs n 1 = 0 → Q .non H) ∧ (∀ ys, Led xs n ys → cut xs n 1 = 1 → newQ H (.tup (ys.map V.int)) Q)
def sp_lowest (CN : Addr) : Sp := fun vs H Q E => ∃ u l : Int, vs = [.int u, .int l] ∧ (l = 0 → E (.ref CN) none H) ∧ (l ≠ 0 → Fit l ∧ newQ H (.tup (low u l)) Q)
structure PD (d : Int) (i j : Nat) : Prop where
  R : Round (xd d) i j
  jb : j ≤ 1000
  i1 : 1 ≤ i
  d60 : d ≤ 60
  fit : RowFit (wsD d i j)
  good : ¬ BadRow (wsD d i j)
  s1 : (st (wsD d i j)).1.natAbs < 10 ^ 6
  s2 : (st (wsD d i j)).2.natAbs < 10 ^ 6
def T2 (p : Int × Int) : List V := [.int p.1, .int p.2]
def sp_around (K : PySem.W.Frag) : Sp := fun vs H Q _ => ∃ (p : Addr) (xs : List Int) (most A t D L D0 M B : Int), vs = [.ref p, .int most] ∧ SqT K H p (xs.map V.int) ∧ NumR xs A t D L ∧ Sz D0 M xs ∧ 0 ≤ D0 ∧ D0 < 10 ^ 10 ∧ 0 ≤ M ∧ M < 10 ^ 10 ∧ 1 ≤ most ∧ most ≤ 100 ∧ (∀ u l, 0 < l → l ≤ most → cut xs u l ≠ 0) ∧ (2 * (D0 + M) + 2) * (2 * most) + 2 * most ≤ B ∧ B < 10 ^ 14 ∧
  ∀ lo0 lo1 hi0 hi1, Arnd xs most B lo0 lo1 hi0 hi1 → ∀ r a b H', Same H H' → SqT K H' a [.int lo0, .int lo1] → SqT K H' b [.int hi0, .int hi1] → SqT K H' r [.ref a, .ref b] → Q (.ref r) H'
/-- what is told between x and y -/
structure Simp (xs : List Int) (yo : Option (List Int)) (p q : Int) : Prop where
  btw : Btw xs yo p q
  pos : 0 < q
  least : ∀ u l, 0 < l → Btw xs yo u l → q ≤ l ∧ p ≤ u
  gcd : Int.gcd p q = 1
  nn : 0 ≤ p
def sp_justb (K : PySem.W.Frag) : Sp := fun vs H Q _ => ∃ (p : Addr) (u l m : Int), vs = [.ref p, .int m] ∧ SqT K H p [.int u, .int l] ∧ 0 < l ∧ l ≤ 1000 ∧ u.natAbs ≤ 1000 ∧ 1 ≤ m ∧ m ≤ 100 ∧ newQ H (.tup (low (2 * m * u - 1) (2 * m * l))) Q
def sp_follow (K : PySem.W.Frag) : Sp := fun vs H Q _ => ∃ (p r : Addr) (a b c d m : Int), vs = [.ref p, .ref r, .int m] ∧ SqT K H p [.int a, .int b] ∧ SqT K H r [.int c, .int d] ∧ 0 < d ∧ d ≤ 100 ∧ 0 < b ∧ b ≤ 100 ∧ a.natAbs < 10 ^ 9 ∧ c.natAbs < 10 ^ 9 ∧ 1 ≤ m ∧ m ≤ 100 ∧ newQ H (.tup [.int ((m + b) / d * c - a), .int ((m + b) / d * d - b)]) Q
/-- tuples at these places -/
def Tups (K : PySem.W.Frag) (H : Hp) (as : List Addr) (fs : List (Int × Int)) : Prop := as.length = fs.length ∧ ∀ (i : Nat) a f, as[i]? = some a → fs[i]? = some f → SqT K H a [.int f.1, .int f.2]
structure FDone (lo0 lo1 hi0 hi1 most : Int) (fs : List (Int × Int)) : Prop where
  mem : ∀ p ∈ fs, 0 < p.2 ∧ p.2 ≤ most ∧ Int.gcd p.1 p.2 = 1 ∧ lo0 * p.2 ≤ p.1 * lo1 ∧ p.1 * hi1 ≤ hi0 * p.2
  ch : ∀ (i : Nat) p q, fs[i]? = some p → fs[i + 1]? = some q → q.1 * p.2 - p.1 * q.2 = 1
  all : ∀ u l, 0 < l → l ≤ most → Int.gcd u l = 1 → lo0 * l ≤ u * lo1 → u * hi1 ≤ hi0 * l → (u, l) ∈ fs
  nd : fs.Nodup
  len : fs.length ≤ 10 ^ 6
def sp_between (K : PySem.W.Frag) : Sp := fun vs H Q _ => ∃ (p r : Addr) (lo0 lo1 hi0 hi1 most : Int), vs = [.ref p, .ref r, .int most] ∧ SqT K H p [.int lo0, .int lo1] ∧ SqT K H r [.int hi0, .int hi1] ∧ 0 < lo1 ∧ lo1 ≤ 12 ∧ -(12) ≤ lo0 ∧ lo0 ≤ 12 ∧ Int.gcd lo0 lo1 = 1 ∧ 0 < hi1 ∧ hi1 ≤ 12 ∧ -(12) ≤ hi0 ∧ hi0 ≤ 12 ∧ Int.gcd hi0 hi1 = 1 ∧ 1 ≤ most ∧ most ≤ 9 ∧
  ∀ (as : List Addr) (fs : List (Int × Int)), FDone lo0 lo1 hi0 hi1 most fs → ∀ o H', Same H H' → SqT K H' o (as.map V.ref) → Tups K H' as fs → Q (.ref o) H'
def sp_less (K : PySem.W.Frag) : Sp := fun vs H Q _ => ∃ (p r : Addr) (a b c d : Int), vs = [.ref p, .ref r] ∧ SqT K H p [.int a, .int b] ∧ SqT K H r [.int c, .int d] ∧ Sm a ∧ Sm b ∧ Sm c ∧ Sm d ∧ Q (.bl (decide (a * d < c * b))) H
local macro_rules | `(tactic| walk_at "wp") => `(tactic| simp only [cxOf_K, L2.start, List.map_cons, List.map_nil, List.reduceReplicate, Nat.reduceSub, Nat.reduceAdd, tSeq, tNext, tIfS, tRet, tRetN, tRaise, tDrop, tAsg, gName, gTup, gCons, gNil, tTest, tB, tOp, tUn, tVar, tC, rI0, rI, rU, rEq, rNe, scal, tAnd, tOr, tNot, tAndV, tOrV, tNotV, tIf, tChain, tCons, tNil, tCB, tTup, tLst, tTupS, tLstS, rCatTS, rCatTG, rLtT, rCatS, rInsertS, iRevT, iRevL, iRevA, rSlTG, rSlA, rIxA, rRepG, rEqLs, rExtendS, rRepS, rSlLS, rSlTS, rIn, iTup, iList, iRng1, iRng2, tComp, rIxT, rIxL, rAppendS, tCall, tCallS, tPar, tBreak, tDGet, tDIn, tDNotIn, sDPut, tDNewT, tBM, tBM0, tSl, tPart, tNoPart, CM, CD, CDN, rEqT, List.getElem?_cons_zero, List.getElem?_cons_succ, List.set_cons_zero, List.set_cons_succ, List.append_nil, List.nil_append, List.cons_append, Option.some.injEq, V.int.injEq, V.bl.injEq, V.ref.injEq, V.str.injEq, List.cons.injEq, exists_eq_left', exists_eq_left, exists_eq_right, exists_and_left, exists_and_right, exists_eq, and_true, true_and, exists_const, exists_eq_right_right, and_self, List.length_cons, List.length_nil, decide_true, decide_false, ↓reduceIte, Bool.false_eq_true, if_true, if_false, Bool.not_true, Bool.not_false])
local macro_rules | `(tactic| walk_at "splen") => `(tactic| (intro vs H Q E h; first | (obtain ⟨_, e, _⟩ := h; subst e; rfl) | (obtain ⟨_, _, e, _⟩ := h; subst e; rfl) | (obtain ⟨_, _, _, e, _⟩ := h; subst e; rfl) | (obtain ⟨_, _, _, _, e, _⟩ := h; subst e; rfl) | (obtain ⟨_, _, _, _, _, e, _⟩ := h; subst e; rfl) | (obtain ⟨_, _, _, _, _, _, e, _⟩ := h; subst e; rfl) | (obtain ⟨_, _, _, _, _, _, _, e, _⟩ := h; subst e; rfl) | (obtain ⟨_, _, _, _, _, _, _, _, e, _⟩ := h; subst e; rfl) | (obtain ⟨_, _, _, _, _, _, _, _, _, e, _⟩ := h; subst e; rfl) | (obtain ⟨_, _, _, _, _, _, _, _, _, _, e, _⟩ := h; subst e; rfl) | (obtain ⟨_, _, _, _, _, _, _, _, _, _, _, e, _⟩ := h; subst e; rfl) | (obtain ⟨_, _, _, _, _, _, _, _, _, _, _, _, e, _⟩ := h; subst e; rfl) | (obtain ⟨_, _, _, _, _, _, _, _, _, _, _, _, _, e, _⟩ := h; subst e; rfl) | (obtain ⟨_, _, _, _, _, _, _, _, _, _, _, _, _, _, e, _⟩ := h; subst e; rfl) | (obtain ⟨_, _, _, _, _, _, _, _, _, _, _, _, _, _, _, e, _⟩ := h; subst e; rfl) | (obtain ⟨_, _, _, _, _, _, _, _, _, _, _, _, _, _, _, _, e, _⟩ := h; subst e; rfl) | (obtain ⟨_, _, _, _, _, _, _, _, _, _, _, _, _, _, _, _, _, e, _⟩ := h; subst e; rfl) | (obtain ⟨_, _, _, _, _, _, _, _, _, _, _, _, _, _, _, _, _, _, e, _⟩ := h; subst e; rfl) | (obtain ⟨_, _, _, _, _, _, _, _, _, _, _, _, _, _, _, _, _, _, _, e, _⟩ := h; subst e; rfl)))
section
variable {P : Program} {w : World} {K : PySem.W.Frag} {mg : Str → Option Value} {base : Heap} {C_RowError C_NoNumber C_ZERO : Addr}
theorem sc_common_divisor : FnScope ["one", "other", "greater", "lesser", "rest"] ["one", "other"] (defScope s_common_divisor) := ⟨rfl, rfl, rfl, by decide +kernel, rfl, by decide +kernel, by decide +kernel⟩
theorem d_common_divisor (F : In K mg "common_divisor" s_common_divisor ["one", "other"]) (T : Txt K mg C_RowError C_NoNumber)  : Def P w K mg base CX0 1 "common_divisor" ["one", "other"] sp_gcd := by
  refine F.ok0 sc_common_divisor (by walk_at "splen") (fun f cdv A outer s H vs Q E hr h => ?_)
  obtain ⟨a, b, rfl, q⟩ := h
  refine ⟨_, (pss_cons (ps_set (i := 2) sc_common_divisor.nd rfl (Or.inl rfl) (pe_callB call_abs rfl T.n_abs (by decide +kernel) (pa_cons (pv 0) pa_nil)))
    (pss_cons (ps_set (i := 3) sc_common_divisor.nd rfl (Or.inl rfl) (pe_callB call_abs rfl T.n_abs (by decide +kernel) (pa_cons (pv 1) pa_nil)))
    (pss_cons (ps_while PassesOwn.never (pt_cmpR op_ne (pv 3) pe_int (nomark _)) (pss_cons (ps_set (i := 4) sc_common_divisor.nd rfl (Or.inl rfl) (pe_op op_mod (pv 2) (pv 3)))
    (pss_cons (ps_set (i := 2) sc_common_divisor.nd rfl (Or.inl rfl) (pv 3))
    (pss_one (ps_set (i := 3) sc_common_divisor.nd rfl (Or.inl rfl) (pv 4))))))
    (pss_one (ps_ret (pv 2)))))), ?_⟩
  walk_at "wp"
  -- while lesser != 0
  refine ⟨fun m σ H1 => ∃ (x y : Int) (r : Option V), σ = [some (.int a), some (.int b), some (.int x), some (.int y), r] ∧ H1 = H ∧ m = y.toNat ∧ 0 ≤ x ∧ 0 ≤ y ∧ Int.gcd x y = Int.gcd a b, ⟨_, _, _, _, rfl, rfl, rfl, ?_, ?_, gcd_abs a b⟩, ?_⟩
  · split <;> omega
  · split <;> omega
  rintro m σ H1 ⟨x, y, r, rfl, rfl, rfl, hx, hy, hg⟩
  walk_at "wp"
  refine ite2 (fun c => ?_) (fun c => ?_)
  · have hy0 : y ≠ 0 := by simpa using c
    have hm0 := Int.emod_nonneg x hy0
    have hm1 := Int.emod_lt_of_pos x (show 0 < y by omega)
    exact ⟨_, fun _ _ h => h, by omega, _, by omega, y, x % y, ⟨_, rfl⟩, rfl, rfl, hy, hm0, (gcd_step hx (by omega)).trans hg⟩
  · have hy0 : y = 0 := by simpa using c
    subst hy0
    rw [← hg, gcd_end hx] at q
    exact q
theorem kt_ii : PySem.W.kitOne K (.type "int") (.type "int") = some true := by kernel_rfl
theorem kt_ib : PySem.W.kitOne K (.type "int") (.type "bool") = some false := by kernel_rfl
theorem kt_bi : PySem.W.kitOne K (.type "bool") (.type "int") = some true := by kernel_rfl
theorem kt_bb : PySem.W.kitOne K (.type "bool") (.type "bool") = some true := by kernel_rfl
theorem kt_si : PySem.W.kitOne K (.type "str") (.type "int") = some false := by kernel_rfl
theorem kt_ni : PySem.W.kitOne K (.type "NoneType") (.type "int") = some false := by kernel_rfl
theorem kt_tt : PySem.W.kitOne K (.type "tuple") (.type "tuple") = some true := by kernel_rfl
def rIsi (K : PySem.W.Frag) : List V → Hp → VK → Prop := fun xs H Q => ∃ x c t cv b, xs = [x, c] ∧ ClsV c cv ∧ TyX K H x t ∧ PySem.W.kitOne K t cv = some b ∧ Q (.bl b) H
theorem whole_rd {v : V} {b : Bool} {H : Hp} {Q : VK} (hw : wholeV v = some b) (q : Q (.bl b) H) :
    tAndV (tCB (rIsi K) (tCons (tVar 0) (tCons (tC (.ty "int")) tNil))) (tNotV (tCB (rIsi K) (tCons (tVar 0) (tCons (tC (.ty "bool")) tNil)))) [some v] H Q := by
  walk_at "wp"
  cases v with
  | int i =>
    cases hw
    exact ⟨_, _, _, _, _, rfl, .ty _, .of (.int i), kt_ii, true, rfl, iteT ⟨_, _, _, _, _, rfl, .ty _, .of (.int i), kt_ib, false, rfl, q⟩⟩
  | bl c =>
    cases hw
    exact ⟨_, _, _, _, _, rfl, .ty _, .of (.bl c), kt_bi, true, rfl, iteT ⟨_, _, _, _, _, rfl, .ty _, .of (.bl c), kt_bb, true, rfl, q⟩⟩
  | str x =>
    cases hw
    exact ⟨_, _, _, _, _, rfl, .ty _, .of (.str x), kt_si, false, rfl, iteF q⟩
  | non =>
    cases hw
    exact ⟨_, _, _, _, _, rfl, .ty _, .of .non, kt_ni, false, rfl, iteF q⟩
  | _ => cases hw
theorem pow_le_60 {e : Nat} (h : e ≤ 150) : (2 : Nat) ^ e < 10 ^ 60 :=
  Nat.lt_of_le_of_lt (Nat.pow_le_pow_right (by decide) h) (by decide +kernel)
theorem bits_top {n : Int} (h : 0 ≤ n) : n < ((2 ^ ((Builtin.Int.intBits n + 1) / 2) * 2 ^ ((Builtin.Int.intBits n + 1) / 2) : Nat) : Int) := by
  have q : n.natAbs < 2 ^ Builtin.Int.intBits n := PySem.intBits_le_iff.mp (Nat.le_refl _)
  have z : 2 ^ Builtin.Int.intBits n ≤ 2 ^ ((Builtin.Int.intBits n + 1) / 2) * 2 ^ ((Builtin.Int.intBits n + 1) / 2) := by
    rw [← Nat.pow_add]
    exact Nat.pow_le_pow_right (by decide) (by omega)
  omega
theorem bits_small {n : Int} (h : 0 ≤ n) (h1 : n < 10 ^ 90) : Builtin.Int.intBits n ≤ 299 := by
  refine PyProof.Rows.intBits_le (Nat.lt_of_lt_of_le (show n.natAbs < 10 ^ 90 by omega) ?_)
  decide +kernel
theorem sc_least_square : FnScope ["n", "guess"] ["n"] (defScope s_least_square) := ⟨rfl, rfl, rfl, by decide +kernel, rfl, by decide +kernel, by decide +kernel⟩
theorem d_least_square (F : In K mg "least_square" s_least_square ["n"]) (T : Txt K mg C_RowError C_NoNumber)  : Def P w K mg base CX0 1 "least_square" ["n"] sp_sqrt := by
  refine F.ok0 sc_least_square (by walk_at "splen") (fun f cdv A outer s H vs Q E hr h => ?_)
  obtain ⟨n, rfl, h0, h1, q⟩ := h
  refine ⟨_, (pss_cons (ps_set (i := 1) sc_least_square.nd rfl (Or.inl rfl) (pe_op op_shl pe_int (pe_op op_fdivP (pe_op op_add (pe_bm0 PySem.F.plainAttrs_int PySem.F.slot_int_bit_length PySem.F.type_int_bit_length mt_bits (pv 0)) pe_int) pe_int)))
    (pss_cons (ps_while PassesOwn.never (PW.pt (pw_and (pt_cmpR op_gt (pv 1) pe_int (nomark _)) (pw_and1 (pt_cmpR op_gt (pe_op op_mulB (pv 1) (pv 1)) (pv 0) (nomark _))))) (pss_one (ps_set (i := 1) sc_least_square.nd rfl (Or.inl rfl) (pe_op op_fdivP (pe_op op_add (pv 1) (pe_op op_fdivP (pv 0) (pv 1))) pe_int))))
    (pss_one (ps_ret (pv 1))))), ?_⟩
  walk_at "wp"
  have hb := bits_top h0
  have hb2 := bits_small h0 h1
  refine ⟨rfl, ⟨by decide, by constructor <;> decide⟩, ⟨by omega, by omega, by decide⟩, ?_⟩
  refine ⟨fun m σ H1 => ∃ g : Int, σ = [some (.int n), some (.int g)] ∧ H1 = H ∧ m = g.toNat ∧ 0 ≤ g ∧ g < 10 ^ 60 ∧ n < (g + 1) * (g + 1), ⟨_, _, rfl, rfl, rfl, ?_⟩, ?_⟩
  · have ee : ((((Builtin.Int.intBits n : Nat) : Int) + 1) / 2).toNat = (Builtin.Int.intBits n + 1) / 2 := by omega
    rw [ee]
    have p60 := pow_le_60 (e := (Builtin.Int.intBits n + 1) / 2) (by omega)
    have ec : (1 : Int) * 2 ^ ((Builtin.Int.intBits n + 1) / 2) = ((2 ^ ((Builtin.Int.intBits n + 1) / 2) : Nat) : Int) := by
      rw [Int.one_mul, Int.natCast_pow] <;> rfl
    rw [ec]
    rw [Int.natCast_mul] at hb
    generalize ((2 ^ ((Builtin.Int.intBits n + 1) / 2) : Nat)) = z at hb p60
    refine ⟨by omega, by omega, ?_⟩
    have x1 : ((z : Int) + 1) * ((z : Int) + 1) = (z : Int) * z + 2 * z + 1 := by
      simp only [Int.add_mul, Int.mul_add, Int.one_mul, Int.mul_one]; omega
    omega
  rintro m σ H1 ⟨g, rfl, rfl, rfl, hg, hg2, hn⟩
  walk_at "wp"
  have fg : Fit g := ⟨by omega, by omega⟩
  refine ite2 (fun c => ?_) (fun c => ?_)
  · have g0 : 0 < g := by simpa using c
    refine ⟨.inr fg, ite2 (fun c => ?_) (fun c => ?_)⟩
    · have c1 : n < g * g := by simpa using c
      obtain ⟨n1, n2⟩ := newton_falls g0 h0 c1
      exact ⟨_, fun _ _ h => h, ⟨g0, fg⟩, ⟨by decide, by constructor <;> decide⟩, _, by omega, _, rfl, rfl, rfl, n2, by omega, newton g0 h0⟩
    · have c1 : ¬ n < g * g := by simpa using c
      exact q g hg (by omega) hn
  · have g0 : ¬ 0 < g := by simpa using c
    have gz : g = 0 := by omega
    subst gz
    exact q 0 (by omega) (by omega) hn
theorem fit_by {u l : Int} (hl : l ≠ 0) (f : Fit l) : Fit (by_ u l) := by
  have hg := Int.gcd_pos_of_ne_zero_right u hl
  have h1 : Int.gcd u l ≤ l.natAbs := Nat.gcd_le_right _ (by omega)
  obtain ⟨a, b⟩ := f
  unfold by_
  constructor <;> split <;> omega
theorem cell_at {ns : List Int} {k : Int} (h0 : 0 ≤ k) (h : k < (ns.length : Int)) : atI (ns.map V.int) k = some (.int (ns.getD k.toNat 0)) := by
  have hk : k.toNat < ns.length := by omega
  have ek : k = ((k.toNat : Nat) : Int) := by omega
  have q : atI (ns.map V.int) ((k.toNat : Nat) : Int) = some (.int (ns.getD k.toNat 0)) := atI_nat (by rw [List.getElem?_map, List.getD_eq_getElem?_getD, List.getElem?_eq_getElem hk] <;> rfl)
  rw [← ek] at q
  exact q
theorem cell_out {ns : List Int} {k : Int} (h : (ns.length : Int) ≤ k) : ns.getD k.toNat 0 = 0 := by
  rw [List.getD_eq_getElem?_getD, List.getElem?_eq_none (by omega)] <;> rfl
theorem sc_law_cell : FnScope ["_law_script", "_law_k"] ["_law_script", "_law_k"] (defScope s_law_cell) := ⟨rfl, rfl, rfl, by decide +kernel, rfl, by decide +kernel, by decide +kernel⟩
theorem d_law_cell (F : In K mg "_law_cell" s_law_cell ["_law_script", "_law_k"]) (T : Txt K mg C_RowError C_NoNumber)  : Def P w K mg base CX0 1 "_law_cell" ["_law_script", "_law_k"] (sp_cell K) := by
  refine F.ok0 sc_law_cell (by walk_at "splen") (fun f cdv A outer s H vs Q E hr h => ?_)
  obtain ⟨a, ns, k, rfl, hS, hk, q⟩ := h
  refine ⟨_, (pss_cons (ps_if (pt_cmpR op_lt (pv 1) (pe_callB call_len_seq rfl T.n_len (by decide +kernel) (pa_cons (pv 0) pa_nil)) (nomark _)) (pss_one (ps_ret (pe_ix ix_list (pv 0) (pv 1) (fun _ _ => rfl)))) pss_nil)
    (pss_one (ps_ret pe_int))), ?_⟩
  walk_at "wp"
  refine ⟨_, .inl hS, ?_⟩
  rw [List.length_map]
  refine ite2 (fun c => ?_) (fun c => ?_)
  · have hlt : k < (ns.length : Int) := by simpa using c
    exact ⟨_, hS, _, cell_at hk hlt, q⟩
  · have hge : ¬ k < (ns.length : Int) := by simpa using c
    rw [cell_out (by omega)] at q
    exact q
theorem sc_law_mix : FnScope ["_law_cell_here", "_law_prime", "_law_many"] ["_law_cell_here", "_law_prime", "_law_many"] (defScope s_law_mix) := ⟨rfl, rfl, rfl, by decide +kernel, rfl, by decide +kernel, by decide +kernel⟩
theorem d_law_mix (F : In K mg "_law_mix" s_law_mix ["_law_cell_here", "_law_prime", "_law_many"]) (T : Txt K mg C_RowError C_NoNumber)  : Def P w K mg base CX0 1 "_law_mix" ["_law_cell_here", "_law_prime", "_law_many"] sp_mix := by
  refine F.ok0 sc_law_mix (by walk_at "splen") (fun f cdv A outer s H vs Q E hr h => ?_)
  obtain ⟨c, p, m, rfl, hp, hm, q⟩ := h
  refine ⟨_, (pss_one (ps_ret (pe_op op_mod (pe_op op_mod (pe_op op_mulB (pv 0) pe_int) (pv 1)) (pv 2)))), ?_⟩
  walk_at "wp"
  first | exact ⟨.inl (.inr ⟨by decide, by decide⟩), hp, hm, q _ (Int.emod_nonneg _ (by omega)) (Int.emod_lt_of_pos _ hm)⟩ | exact ⟨.inl (.inr ⟨by decide, by decide⟩), hp, hm, q⟩
theorem sc_law_whole : FnScope ["_law_found"] ["_law_found"] (defScope s_law_whole) := ⟨rfl, rfl, rfl, by decide +kernel, rfl, by decide +kernel, by decide +kernel⟩
theorem d_law_whole (F : In K mg "_law_whole" s_law_whole ["_law_found"]) (T : Txt K mg C_RowError C_NoNumber)  : Def P w K mg base CX0 1 "_law_whole" ["_law_found"] sp_whole := by
  refine F.ok0 sc_law_whole (by walk_at "splen") (fun f cdv A outer s H vs Q E hr h => ?_)
  obtain ⟨v, b, rfl, hw, q⟩ := h
  refine ⟨_, (pss_one (ps_ret (pe_and (pe_callB call_isi rfl T.n_isinstance (by decide +kernel) (pa_cons (pv 0) (pa_cons (pe_bltn (v := .ty "int") (u := .type "int") rfl T.n_int (by decide +kernel) rfl) pa_nil))) (pe_one (pe_not (pe_callB call_isi rfl T.n_isinstance (by decide +kernel) (pa_cons (pv 0) (pa_cons (pe_bltn (v := .ty "bool") (u := .type "bool") rfl T.n_bool (by decide +kernel) rfl) pa_nil)))))))), ?_⟩
  exact whole_rd hw q
theorem sc_law_divisor : FnScope ["_law_one", "_law_other"] ["_law_one", "_law_other"] (defScope s_law_divisor) := ⟨rfl, rfl, rfl, by decide +kernel, rfl, by decide +kernel, by decide +kernel⟩
theorem d_law_divisor (F : In K mg "_law_divisor" s_law_divisor ["_law_one", "_law_other"]) (T : Txt K mg C_RowError C_NoNumber)  : Def P w K mg base CX0 1 "_law_divisor" ["_law_one", "_law_other"] sp_gcd := by
  refine F.ok0 sc_law_divisor (by walk_at "splen") (fun f cdv A outer s H vs Q E hr h => ?_)
  obtain ⟨a, b, rfl, q⟩ := h
  refine ⟨_, (pss_cons (ps_set (i := 0) sc_law_divisor.nd rfl (Or.inl rfl) (pe_callB call_abs rfl T.n_abs (by decide +kernel) (pa_cons (pv 0) pa_nil)))
    (pss_cons (ps_set (i := 1) sc_law_divisor.nd rfl (Or.inl rfl) (pe_callB call_abs rfl T.n_abs (by decide +kernel) (pa_cons (pv 1) pa_nil)))
    (pss_cons (ps_while PassesOwn.never (pt_cmpR op_gt (pv 1) pe_int (nomark _)) (pss_one (ps_par (i := 0) (j := 1) rfl sc_law_divisor.nd rfl rfl (by decide) rfl rfl (pa_cons (pv 1) (pa_cons (pe_op op_mod (pv 0) (pv 1)) pa_nil)) (by with_unfolding_all rfl))))
    (pss_one (ps_ret (pv 0)))))), ?_⟩
  walk_at "wp"
  refine ⟨fun m σ H1 => ∃ (x y : Int), σ = [some (.int x), some (.int y)] ∧ H1 = H ∧ m = y.toNat ∧ 0 ≤ x ∧ 0 ≤ y ∧ Int.gcd x y = Int.gcd a b, ⟨_, _, _, rfl, rfl, rfl, ?_, ?_, gcd_abs a b⟩, ?_⟩
  · split <;> omega
  · split <;> omega
  rintro m σ H1 ⟨x, y, rfl, rfl, rfl, hx, hy, hg⟩
  walk_at "wp"
  refine ite2 (fun c => ?_) (fun c => ?_)
  · have hy0 : 0 < y := by simpa using c
    have hm0 := Int.emod_nonneg x (show y ≠ 0 by omega)
    have hm1 := Int.emod_lt_of_pos x hy0
    exact ⟨_, fun _ _ h => h, hy0, _, _, ⟨rfl, rfl⟩, _, by omega, y, x % y, rfl, rfl, rfl, hy, hm0, (gcd_step hx hy0).trans hg⟩
  · have hy0 : y = 0 := by
      have : ¬ 0 < y := by simpa using c
      omega
    subst hy0
    rw [← hg, gcd_end hx] at q
    exact q
theorem sc_law_lowest : FnScope ["_law_upper", "_law_lower", "_law_by"] ["_law_upper", "_law_lower"] (defScope s_law_lowest) := ⟨rfl, rfl, rfl, by decide +kernel, rfl, by decide +kernel, by decide +kernel⟩
theorem d_law_lowest (F : In K mg "_law_lowest" s_law_lowest ["_law_upper", "_law_lower"]) (T : Txt K mg C_RowError C_NoNumber) (D_law_divisor : Def P w K mg base CX0 1 "_law_divisor" ["_law_one", "_law_other"] sp_gcd) : Def P w K mg base CX0 2 "_law_lowest" ["_law_upper", "_law_lower"] sp_llow := by
  refine F.ok0 sc_law_lowest (by walk_at "splen") (fun f cdv A outer s H vs Q E hr h => ?_)
  obtain ⟨u, l, rfl, hl, fl, q⟩ := h
  refine ⟨_, (pss_cons (ps_set (i := 2) sc_law_lowest.nd rfl (Or.inl rfl) (pe_callD D_law_divisor hr rfl pass0 (pa_cons (pv 0) (pa_cons (pv 1) pa_nil))))
    (pss_cons (ps_if (pt_cmpR op_lt (pv 1) pe_int (nomark _)) (pss_one (ps_set (i := 2) sc_law_lowest.nd rfl (Or.inl rfl) (pe_op op_sub pe_int (pv 2)))) pss_nil)
    (pss_one (ps_ret (pe_tupS (pa_cons (pe_op op_fdivM (pv 0) (pv 2)) (pa_cons (pe_op op_fdivM (pv 1) (pv 2)) pa_nil))))))), ?_⟩
  walk_at "wp"
  have fb := fit_by (u := u) hl fl
  have nb := by_ne (u := u) hl
  have two : 2 ≤ sizeLine := by decide
  refine ⟨u, l, rfl, ?_⟩
  refine ite2 (fun c => ?_) (fun c => ?_)
  · have hn : l < 0 := by simpa using c
    have e : by_ u l = 0 - ((Int.gcd u l : Nat) : Int) := by rw [Int.zero_sub]; exact if_pos hn
    rw [e] at fb nb
    refine ⟨_, rfl, ⟨nb, fb⟩, ⟨nb, fb⟩, two, ?_⟩
    have z := q
    unfold low at z
    rw [e] at z
    exact z
  · have hn : ¬ l < 0 := by simpa using c
    have e : by_ u l = ((Int.gcd u l : Nat) : Int) := if_neg hn
    rw [e] at fb nb
    refine ⟨_, rfl, ⟨nb, fb⟩, _, rfl, ⟨nb, fb⟩, two, ?_⟩
    have z := q
    unfold low at z
    rw [e] at z
    exact z
theorem low_small {u l m : Int} (hl : 0 < l) (hm : l ≤ m) (h1 : -m ≤ u) (h2 : u ≤ m) : l.fdiv (by_ u l) ≤ m ∧ -m ≤ u.fdiv (by_ u l) ∧ u.fdiv (by_ u l) ≤ m := by
  have e : by_ u l = ((Int.gcd u l : Nat) : Int) := if_neg (by omega)
  have hg : 0 < Int.gcd u l := Int.gcd_pos_of_ne_zero_right u (by omega)
  obtain ⟨x, hx⟩ := by_dvd_u u l
  obtain ⟨y, hy⟩ := by_dvd_l u l
  rw [e] at hx hy ⊢
  generalize Int.gcd u l = g at *
  have g0 : (0 : Int) < (g : Int) := by omega
  rw [Int.fdiv_eq_ediv_of_nonneg _ (by omega), Int.fdiv_eq_ediv_of_nonneg _ (by omega)]
  have eu : u / (g : Int) = x := by rw [hx]; exact Int.mul_ediv_cancel_left x (by omega)
  have el : l / (g : Int) = y := by rw [hy]; exact Int.mul_ediv_cancel_left y (by omega)
  rw [eu, el]
  have b1 : ∀ z : Int, 0 ≤ z → z ≤ (g : Int) * z := fun z hz => by
    have := Int.mul_le_mul_of_nonneg_right (show (1 : Int) ≤ g by omega) hz
    omega
  have y0 : 0 ≤ y := by
    rcases Int.lt_or_le y 0 with h | h
    · have := Int.mul_neg_of_pos_of_neg g0 h
      omega
    · exact h
  refine ⟨by have := b1 y y0; omega, ?_, ?_⟩
  · rcases Int.lt_or_le x 0 with h | h
    · have := b1 (-x) (by omega)
      rw [Int.mul_neg] at this
      omega
    · omega
  · rcases Int.lt_or_le x 0 with h | h
    · omega
    · have := b1 x h
      omega
theorem sc_law_fraction : FnScope ["_law_cell_here", "_law_other", "_law_wide", "_law_upper"] ["_law_cell_here", "_law_other", "_law_wide"] (defScope s_law_fraction) := ⟨rfl, rfl, rfl, by decide +kernel, rfl, by decide +kernel, by decide +kernel⟩
theorem d_law_fraction (F : In K mg "_law_fraction" s_law_fraction ["_law_cell_here", "_law_other", "_law_wide"]) (T : Txt K mg C_RowError C_NoNumber) (D_law_lowest : Def P w K mg base CX0 2 "_law_lowest" ["_law_upper", "_law_lower"] sp_llow) (D_law_mix : Def P w K mg base CX0 1 "_law_mix" ["_law_cell_here", "_law_prime", "_law_many"] sp_mix) : Def P w K mg base CX0 3 "_law_fraction" ["_law_cell_here", "_law_other", "_law_wide"] sp_fraction := by
  refine F.ok0 sc_law_fraction (by walk_at "splen") (fun f cdv A outer s H vs Q E hr h => ?_)
  obtain ⟨c, o, m, rfl, hm, hb, q⟩ := h
  refine ⟨_, (pss_cons (ps_set (i := 3) sc_law_fraction.nd rfl (Or.inl rfl) (pe_op op_sub (pe_callD D_law_mix hr rfl pass0 (pa_cons (pv 0) (pa_cons pe_int (pa_cons (pe_op op_add (pe_op op_mulB pe_int (pv 2)) pe_int) pa_nil)))) (pv 2)))
    (pss_one (ps_ret (pe_callD D_law_lowest hr rfl pass0 (pa_cons (pv 3) (pa_cons (pe_op op_add pe_int (pe_callD D_law_mix hr rfl pass0 (pa_cons (pv 1) (pa_cons pe_int (pa_cons (pv 2) pa_nil))))) pa_nil)))))), ?_⟩
  walk_at "wp"
  refine ⟨.inl (.inl ⟨by decide, by decide⟩), _, _, _, rfl, by decide, by omega, fun r hr0 hr1 => ⟨_, rfl, ?_⟩⟩
  refine ⟨_, _, _, rfl, by decide, by omega, fun r2 h20 h21 => ⟨_, rfl, ?_⟩⟩
  refine ⟨_, _, rfl, by omega, ⟨by omega, by omega⟩, ?_⟩
  have z := low_small (u := r - m) (l := 1 + r2) (m := m) (by omega) (by omega) (by omega) (by omega)
  exact q _ _ (low_pos (by omega)) z.1 z.2.1 z.2.2 (low_gcd (by omega))
theorem Bd.fit {x : Int} (h : Bd x) : Fit x := by
  obtain ⟨h1, h2⟩ := h
  constructor <;> omega
theorem bd_mul {x y : Int} {m n : Nat} (hx : x.natAbs < 10 ^ m) (hy : y.natAbs < 10 ^ n) : (x * y).natAbs < 10 ^ (m + n) := by
  rw [Int.natAbs_mul, Nat.pow_add]
  exact Nat.mul_lt_mul'' hx hy
theorem Bd.nat {x : Int} (h : Bd x) : x.natAbs < 10 ^ 40 := by
  obtain ⟨h1, h2⟩ := h
  omega
theorem heart_small {a b c : Int} (ha : Bd a) (hb : Bd b) (hc : Bd c) : heart a b c < 10 ^ 90 := by
  have h1 := bd_mul hb.nat hb.nat
  have h2 := bd_mul (bd_mul (show (4 : Int).natAbs < 10 ^ 1 by decide) ha.nat) hc.nat
  unfold heart
  omega
theorem sc_heart_of : FnScope ["a", "b", "c"] ["a", "b", "c"] (defScope s_heart_of) := ⟨rfl, rfl, rfl, by decide +kernel, rfl, by decide +kernel, by decide +kernel⟩
theorem d_heart_of (F : In K mg "heart_of" s_heart_of ["a", "b", "c"]) (T : Txt K mg C_RowError C_NoNumber)  : Def P w K mg base CX0 1 "heart_of" ["a", "b", "c"] sp_heart := by
  refine F.ok0 sc_heart_of (by walk_at "splen") (fun f cdv A outer s H vs Q E hr h => ?_)
  obtain ⟨a, b, c, rfl, ha, hb, hc, q⟩ := h
  refine ⟨_, (pss_one (ps_ret (pe_op op_sub (pe_op op_mulB (pv 1) (pv 1)) (pe_op op_mulB (pe_op op_mulB pe_int (pv 0)) (pv 2))))), ?_⟩
  walk_at "wp"
  have h1 := bd_mul (show (4 : Int).natAbs < 10 ^ 1 by decide) ha.nat
  refine ⟨.inr hb.fit, .inl (.inl ⟨by decide, by decide⟩), .inr ⟨⟨by omega, by omega⟩, hc.fit⟩, q⟩
theorem sc_is_square : FnScope ["n"] ["n"] (defScope s_is_square) := ⟨rfl, rfl, rfl, by decide +kernel, rfl, by decide +kernel, by decide +kernel⟩
theorem d_is_square (F : In K mg "is_square" s_is_square ["n"]) (T : Txt K mg C_RowError C_NoNumber) (D_least_square : Def P w K mg base CX0 1 "least_square" ["n"] sp_sqrt) : Def P w K mg base CX0 2 "is_square" ["n"] sp_issq := by
  refine F.ok0 sc_is_square (by walk_at "splen") (fun f cdv A outer s H vs Q E hr h => ?_)
  obtain ⟨n, rfl, h0, h1, q⟩ := h
  refine ⟨_, (pss_one (ps_ret (pe_cmpR op_eq (pe_op op_powB (pe_callD D_least_square hr rfl pass0 (pa_cons (pv 0) pa_nil)) pe_int) (pv 0) (nomark _)))), ?_⟩
  walk_at "wp"
  refine ⟨n, rfl, h0, h1, fun g g0 g1 g2 => ?_⟩
  have gn : g ≤ n ∨ g = 0 := by
    by_cases z : g = 0
    · exact .inr z
    · have := Int.mul_le_mul_of_nonneg_left (show 1 ≤ g by omega) g0
      exact .inl (by omega)
  refine ⟨g, rfl, ⟨by decide, by decide, by omega, by omega⟩, q _ ?_⟩
  rw [decide_eq_true_iff, show Int.toNat 2 = 2 from rfl, ← sq_iff g0 g1 g2]
  rw [Int.pow_succ, Int.pow_succ, Int.pow_zero, Int.one_mul]
theorem sc_divisor_of_all : FnScope ["a", "b", "c"] ["a", "b", "c"] (defScope s_divisor_of_all) := ⟨rfl, rfl, rfl, by decide +kernel, rfl, by decide +kernel, by decide +kernel⟩
theorem d_divisor_of_all (F : In K mg "divisor_of_all" s_divisor_of_all ["a", "b", "c"]) (T : Txt K mg C_RowError C_NoNumber) (D_common_divisor : Def P w K mg base CX0 1 "common_divisor" ["one", "other"] sp_gcd) : Def P w K mg base CX0 2 "divisor_of_all" ["a", "b", "c"] sp_g3 := by
  refine F.ok0 sc_divisor_of_all (by walk_at "splen") (fun f cdv A outer s H vs Q E hr h => ?_)
  obtain ⟨a, b, c, rfl, q⟩ := h
  refine ⟨_, (pss_one (ps_ret (pe_callD D_common_divisor hr rfl pass0 (pa_cons (pe_callD D_common_divisor hr rfl pass0 (pa_cons (pv 0) (pa_cons (pv 1) pa_nil))) (pa_cons (pv 2) pa_nil))))), ?_⟩
  walk_at "wp"
  exact ⟨_, _, rfl, _, _, rfl, q⟩
theorem sc_root_of : FnScope ["a", "b", "c", "side", "heart", "divisor"] ["a", "b", "c", "side"] (defScope s_root_of) := ⟨rfl, rfl, rfl, by decide +kernel, rfl, by decide +kernel, by decide +kernel⟩
theorem d_root_of (F : In K mg "root_of" s_root_of ["a", "b", "c", "side"]) (T : Txt K mg C_RowError C_NoNumber) (D_heart_of : Def P w K mg base CX0 1 "heart_of" ["a", "b", "c"] sp_heart) (D_divisor_of_all : Def P w K mg base CX0 2 "divisor_of_all" ["a", "b", "c"] sp_g3) (D_is_square : Def P w K mg base CX0 2 "is_square" ["n"] sp_issq) : Def P w K mg base (CXE P w) 3 "root_of" ["a", "b", "c", "side"] (sp_root_of C_NoNumber) := by
  refine F.okX sc_root_of (by walk_at "splen") (fun f cdv A outer s H vs Q E hr h => ?_)
  obtain ⟨a, b, c, s, rfl, ha, hb, hc, h0, h1⟩ := h
  refine ⟨_, (pss_cons (ps_if (pt_cmpR op_eq (pv 0) pe_int (nomark _)) (pss_one (ps_raise raises_cx rfl PySem.F.excBase_ValueError rfl T.m_NoNumber T.x_NoNumber (pa_cons pe_str pa_nil))) pss_nil)
    (pss_cons (ps_set (i := 4) sc_root_of.nd rfl (Or.inl rfl) (pe_callD D_heart_of hr rfl pass0 (pa_cons (pv 0) (pa_cons (pv 1) (pa_cons (pv 2) pa_nil)))))
    (pss_cons (ps_if (PW.pt (pw_or (pt_cmpR op_lt (pv 4) pe_int (nomark _)) (pw_or1 (pt_val (pe_callD D_is_square hr rfl pass0 (pa_cons (pv 4) pa_nil)))))) (pss_one (ps_raise raises_cx rfl PySem.F.excBase_ValueError rfl T.m_NoNumber T.x_NoNumber (pa_cons pe_str pa_nil))) pss_nil)
    (pss_cons (ps_set (i := 5) sc_root_of.nd rfl (Or.inl rfl) (pe_callD D_divisor_of_all hr rfl pass0 (pa_cons (pv 0) (pa_cons (pv 1) (pa_cons (pv 2) pa_nil)))))
    (pss_cons (ps_if (pt_cmpR op_lt (pv 0) pe_int (nomark _)) (pss_one (ps_set (i := 5) sc_root_of.nd rfl (Or.inl rfl) (pe_un un_neg (pv 5)))) pss_nil)
    (pss_one (ps_ret (pe_tupS (pa_cons (pe_op op_fdivM (pv 0) (pv 5)) (pa_cons (pe_op op_fdivM (pv 1) (pv 5)) (pa_cons (pe_op op_fdivM (pv 2) (pv 5)) (pa_cons (pv 3) pa_nil)))))))))))), ?_⟩
  walk_at "wp"
  have one : 1 ≤ sizeLine := by decide
  refine ite2 (fun z => ?_) (fun z => ?_)
  · exact ⟨one, h0 (.inl (by simpa using z))⟩
  have a0 : a ≠ 0 := by simpa using z
  refine ⟨_, _, _, rfl, ha, hb, hc, _, rfl, ?_⟩
  refine ite2 (fun z => ?_) (fun z => ?_)
  · exact ⟨one, h0 (.inr (.inl (by simpa using z)))⟩
  have hn : ¬ heart a b c < 0 := by simpa using z
  refine ⟨_, rfl, by omega, heart_small ha hb hc, fun u hu => ⟨u, rfl, ?_⟩⟩
  refine ite2 (fun z => ?_) (fun z => ?_)
  · exact ⟨one, h0 (.inr (.inr (hu.mp z)))⟩
  have q := h1 a0 (by omega) (fun y => z (hu.mpr y))
  have nb := by3_ne (b := b) (c := c) a0
  have fb : Fit (by3 a b c) := by
    have g1 := by3_abs a b c
    have g2 : g3 a b c ≤ (a.natAbs : Int) := by
      rw [g3_eq]
      have := Nat.le_trans (Nat.gcd_le_left c.natAbs (Nat.gcd_pos_of_pos_left b.natAbs (show 0 < a.natAbs by omega))) (Nat.gcd_le_left b.natAbs (show 0 < a.natAbs by omega))
      omega
    obtain ⟨x, y⟩ := ha
    constructor <;> omega
  have four : 4 ≤ sizeLine := by decide
  refine ⟨_, _, _, rfl, ?_⟩
  refine ite2 (fun z => ?_) (fun z => ?_)
  · have hn : a < 0 := by simpa using z
    have e : by3 a b c = -(g3 a b c) := if_pos hn
    rw [e] at fb nb q
    exact ⟨_, rfl, ⟨nb, fb⟩, ⟨nb, fb⟩, ⟨nb, fb⟩, four, q⟩
  · have hn : ¬ a < 0 := by simpa using z
    have e : by3 a b c = g3 a b c := if_neg hn
    rw [e] at fb nb q
    exact ⟨_, rfl, ⟨nb, fb⟩, _, rfl, ⟨nb, fb⟩, _, rfl, ⟨nb, fb⟩, four, q⟩
theorem part_small {a b h g s n : Int} (ha : 0 < a) (hh : 0 ≤ h) (g0 : 0 ≤ g) (g1 : g * g ≤ h) (hn : n = ((if s = 0 then -g - 1 else g) - b) / (2 * a)) : n.natAbs ≤ h.natAbs + b.natAbs + 1 := by
  have gl := sqrt_le g0 g1
  have lo := Int.mul_ediv_self_le (x := (if s = 0 then -g - 1 else g) - b) (k := 2 * a) (by omega)
  have hi := Int.lt_mul_ediv_self_add (x := (if s = 0 then -g - 1 else g) - b) (k := 2 * a) (by omega)
  rw [← hn] at lo hi
  obtain ⟨w, hw⟩ : ∃ w, (if s = 0 then -g - 1 else g) = w := ⟨_, rfl⟩
  have hwb : -h - 1 ≤ w ∧ w ≤ h := by rw [← hw]; split <;> omega
  rw [hw] at lo hi
  rcases Int.lt_or_le n 0 with z | z
  · have := Int.mul_le_mul_of_nonneg_right (show (2 : Int) ≤ 2 * a by omega) (show 0 ≤ -n - 1 by omega)
    rw [show 2 * a * (-n - 1) = -(2 * a * n) - 2 * a by grind] at this
    omega
  · have := Int.mul_le_mul_of_nonneg_right (show (2 : Int) ≤ 2 * a by omega) z
    omega
theorem sc_part_of : FnScope ["number", "a", "b", "whole"] ["number"] (defScope s_part_of) := ⟨rfl, rfl, rfl, by decide +kernel, rfl, by decide +kernel, by decide +kernel⟩
theorem d_part_of (F : In K mg "part_of" s_part_of ["number"]) (T : Txt K mg C_RowError C_NoNumber) (D_least_square : Def P w K mg base CX0 1 "least_square" ["n"] sp_sqrt) (D_heart_of : Def P w K mg base CX0 1 "heart_of" ["a", "b", "c"] sp_heart) : Def P w K mg base CX0 2 "part_of" ["number"] (sp_part K) := by
  refine F.ok0 sc_part_of (by walk_at "splen") (fun f cdv A outer s H vs Q E hr h => ?_)
  obtain ⟨p, xs, A, t, D, L, rfl, hT, hN, hB, q⟩ := h
  refine ⟨_, (pss_cons (ps_if (pt_cmpR op_eq (pe_callB call_len_seq rfl T.n_len (by decide +kernel) (pa_cons (pv 0) pa_nil)) pe_int (nomark _)) (pss_one (ps_ret (pe_op op_fdivP (pe_ix ix_tup (pv 0) pe_int (fun _ _ => rfl)) (pe_ix ix_tup (pv 0) pe_int (fun _ _ => rfl))))) pss_nil)
    (pss_cons (ps_set (i := 1) sc_part_of.nd rfl (Or.inl rfl) (pe_ix ix_tup (pv 0) pe_int (fun _ _ => rfl)))
    (pss_cons (ps_set (i := 2) sc_part_of.nd rfl (Or.inl rfl) (pe_ix ix_tup (pv 0) pe_int (fun _ _ => rfl)))
    (pss_cons (ps_set (i := 3) sc_part_of.nd rfl (Or.inl rfl) (pe_callD D_least_square hr rfl pass0 (pa_cons (pe_callD D_heart_of hr rfl pass0 (pa_cons (pv 1) (pa_cons (pv 2) (pa_cons (pe_ix ix_tup (pv 0) pe_int (fun _ _ => rfl)) pa_nil)))) pa_nil)))
    (pss_cons (ps_if (pt_cmpR op_eq (pe_ix ix_tup (pv 0) pe_int (fun _ _ => rfl)) pe_int (nomark _)) (pss_one (ps_set (i := 3) sc_part_of.nd rfl (Or.inl rfl) (pe_op op_sub (pe_un un_neg (pv 3)) pe_int))) pss_nil)
    (pss_one (ps_ret (pe_op op_fdivP (pe_op op_sub (pv 3) (pv 2)) (pe_op op_mulB pe_int (pv 1)))))))))), ?_⟩
  walk_at "wp"
  cases hN with
  | frac hl hg =>
    refine ⟨_, .inr hT, iteT ?_⟩
    have bl := hB L (by simp)
    refine ⟨_, hT, _, rfl, _, hT, _, rfl, _, rfl, _, rfl, ⟨hl, bl.fit⟩, q _ (.frac ?_ ?_)⟩
    · rw [Int.mul_comm]; exact Int.mul_ediv_self_le (by omega)
    · have := Int.lt_mul_ediv_self_add (x := A) (k := L) hl
      rw [Int.add_mul, Int.mul_comm (A / L)]
      omega
  | @root a b c s r =>
    have ba := hB a (by simp)
    have bb := hB b (by simp)
    have bc := hB c (by simp)
    have pa := r.pos
    refine ⟨_, .inr hT, iteF ?_⟩
    refine ⟨_, hT, _, rfl, _, hT, _, rfl, _, hT, _, rfl, ?_⟩
    refine ⟨_, _, _, rfl, ba, bb, bc, _, rfl, by have := r.hp; omega, heart_small ba bb bc, fun g g0 g1 g2 => ?_⟩
    have fa : Fit (2 * a) := by
      have := ba.2
      constructor <;> omega
    refine ⟨_, hT, _, rfl, rfl, ?_⟩
    have hn := part_right r g0 g1 g2 rfl
    have hs := part_small (s := s) (b := b) pa (by have := r.hp; omega) g0 g1 rfl
    have c2 : CMul 2 a ∨ Fit 2 ∧ Fit a := .inl (.inl ⟨by decide, by decide⟩)
    refine ite2 (fun z => ?_) (fun z => ?_)
    · have s0 : s = 0 := by simpa using z
      rw [if_pos s0] at hn hs
      exact ⟨_, rfl, _, rfl, _, rfl, c2, ⟨by omega, fa⟩, q _ (.root hn.1 hn.2 hs)⟩
    · have s0 : ¬ s = 0 := by simpa using z
      rw [if_neg s0] at hn hs
      exact ⟨_, rfl, _, rfl, _, rfl, c2, ⟨by omega, fa⟩, q _ (.root hn.1 hn.2 hs)⟩
theorem sc_sign_of : FnScope ["n"] ["n"] (defScope s_sign_of) := ⟨rfl, rfl, rfl, by decide +kernel, rfl, by decide +kernel, by decide +kernel⟩
theorem d_sign_of (F : In K mg "sign_of" s_sign_of ["n"]) (T : Txt K mg C_RowError C_NoNumber)  : Def P w K mg base CX0 1 "sign_of" ["n"] sp_sg := by
  refine F.ok0 sc_sign_of (by walk_at "splen") (fun f cdv A outer s H vs Q E hr h => ?_)
  obtain ⟨n, rfl, q⟩ := h
  refine ⟨_, (pss_cons (ps_if (pt_cmpR op_gt (pv 0) pe_int (nomark _)) (pss_one (ps_ret pe_int)) pss_nil)
    (pss_cons (ps_if (pt_cmpR op_lt (pv 0) pe_int (nomark _)) (pss_one (ps_ret (pe_un un_neg pe_int))) pss_nil)
    (pss_one (ps_ret pe_int)))), ?_⟩
  walk_at "wp"
  refine ite2 (fun z => ?_) (fun z => ite2 (fun y => ?_) (fun y => ?_))
  · have h1 : 0 < n := by simpa using z
    rw [sg_pos h1] at q
    exact q
  · have h1 : n < 0 := by simpa using y
    rw [sg_nega h1] at q
    exact q
  · have h1 : ¬ 0 < n := by simpa using z
    have h2 : ¬ n < 0 := by simpa using y
    have e : n = 0 := by omega
    subst e
    exact q
theorem sc_signed_square : FnScope ["n"] ["n"] (defScope s_signed_square) := ⟨rfl, rfl, rfl, by decide +kernel, rfl, by decide +kernel, by decide +kernel⟩
theorem d_signed_square (F : In K mg "signed_square" s_signed_square ["n"]) (T : Txt K mg C_RowError C_NoNumber)  : Def P w K mg base CX0 1 "signed_square" ["n"] sp_S := by
  refine F.ok0 sc_signed_square (by walk_at "splen") (fun f cdv A outer s H vs Q E hr h => ?_)
  obtain ⟨n, rfl, hf, q⟩ := h
  refine ⟨_, (pss_one (ps_ret (pe_op op_mulB (pv 0) (pe_callB call_abs rfl T.n_abs (by decide +kernel) (pa_cons (pv 0) pa_nil))))), ?_⟩
  walk_at "wp"
  refine ⟨.inr ⟨hf, ?_⟩, ?_⟩
  · obtain ⟨h1, h2⟩ := hf
    constructor <;> split <;> omega
  · rw [S_abs]
    exact q
theorem sc_spread_out : FnScope ["number", "heart", "times"] ["number"] (defScope s_spread_out) := ⟨rfl, rfl, rfl, by decide +kernel, rfl, by decide +kernel, by decide +kernel⟩
theorem d_spread_out (F : In K mg "spread_out" s_spread_out ["number"]) (T : Txt K mg C_RowError C_NoNumber) (D_heart_of : Def P w K mg base CX0 1 "heart_of" ["a", "b", "c"] sp_heart) : Def P w K mg base CX0 2 "spread_out" ["number"] (sp_spread K) := by
  refine F.ok0 sc_spread_out (by walk_at "splen") (fun f cdv A outer s H vs Q E hr h => ?_)
  obtain ⟨p, xs, A, t, D, L, rfl, hT, hN, hB, q⟩ := h
  refine ⟨_, (pss_cons (ps_if (pt_cmpR op_eq (pe_callB call_len_seq rfl T.n_len (by decide +kernel) (pa_cons (pv 0) pa_nil)) pe_int (nomark _)) (pss_one (ps_ret (pe_tupS (pa_cons (pe_ix ix_tup (pv 0) pe_int (fun _ _ => rfl)) (pa_cons pe_int (pa_cons pe_int (pa_cons (pe_ix ix_tup (pv 0) pe_int (fun _ _ => rfl)) pa_nil))))))) pss_nil)
    (pss_cons (ps_set (i := 1) sc_spread_out.nd rfl (Or.inl rfl) (pe_callD D_heart_of hr rfl pass0 (pa_cons (pe_ix ix_tup (pv 0) pe_int (fun _ _ => rfl)) (pa_cons (pe_ix ix_tup (pv 0) pe_int (fun _ _ => rfl)) (pa_cons (pe_ix ix_tup (pv 0) pe_int (fun _ _ => rfl)) pa_nil)))))
    (pss_cons (ps_set (i := 2) sc_spread_out.nd rfl (Or.inl rfl) (pe_ifExp (pt_cmpR op_eq (pe_ix ix_tup (pv 0) pe_int (fun _ _ => rfl)) pe_int (nomark _)) pe_int (pe_un un_neg pe_int)))
    (pss_one (ps_ret (pe_tupS (pa_cons (pe_un un_neg (pe_ix ix_tup (pv 0) pe_int (fun _ _ => rfl))) (pa_cons (pv 2) (pa_cons (pv 1) (pa_cons (pe_op op_mulB pe_int (pe_ix ix_tup (pv 0) pe_int (fun _ _ => rfl))) pa_nil)))))))))), ?_⟩
  walk_at "wp"
  cases hN with
  | frac hl hg =>
    exact ⟨_, .inr hT, iteT ⟨_, hT, _, rfl, _, hT, _, rfl, by decide, q⟩⟩
  | @root a b c s r =>
    have ba := hB a (by simp)
    have bb := hB b (by simp)
    have bc := hB c (by simp)
    refine ⟨_, .inr hT, iteF ?_⟩
    refine ⟨_, hT, _, rfl, _, hT, _, rfl, _, hT, _, rfl, ?_⟩
    refine ⟨_, _, _, rfl, ba, bb, bc, _, hT, _, rfl, rfl, ?_⟩
    have c2 : CMul 2 a ∨ Fit 2 ∧ Fit a := .inl (.inl ⟨by decide, by decide⟩)
    refine ite2 (fun z => ?_) (fun z => ?_)
    · have e : s = 1 := by simpa using z
      rw [if_pos e] at q
      exact ⟨_, hT, _, rfl, _, rfl, _, hT, _, rfl, _, rfl, c2, by decide, q⟩
    · have e : ¬ s = 1 := by simpa using z
      rw [if_neg e] at q
      exact ⟨_, hT, _, rfl, _, rfl, _, hT, _, rfl, _, rfl, c2, by decide, q⟩
theorem sc_sign_with_root : FnScope ["whole", "times", "heart"] ["whole", "times", "heart"] (defScope s_sign_with_root) := ⟨rfl, rfl, rfl, by decide +kernel, rfl, by decide +kernel, by decide +kernel⟩
theorem d_sign_with_root (F : In K mg "sign_with_root" s_sign_with_root ["whole", "times", "heart"]) (T : Txt K mg C_RowError C_NoNumber) (D_sign_of : Def P w K mg base CX0 1 "sign_of" ["n"] sp_sg) (D_signed_square : Def P w K mg base CX0 1 "signed_square" ["n"] sp_S) : Def P w K mg base CX0 2 "sign_with_root" ["whole", "times", "heart"] sp_swr := by
  refine F.ok0 sc_sign_with_root (by walk_at "splen") (fun f cdv A outer s H vs Q E hr h => ?_)
  obtain ⟨w, t, h, rfl, hw, ht, hS, hh, q⟩ := h
  refine ⟨_, (pss_one (ps_ret (pe_callD D_sign_of hr rfl pass0 (pa_cons (pe_op op_add (pe_callD D_signed_square hr rfl pass0 (pa_cons (pv 0) pa_nil)) (pe_op op_mulB (pe_callD D_signed_square hr rfl pass0 (pa_cons (pv 1) pa_nil)) (pv 2))) pa_nil)))), ?_⟩
  walk_at "wp"
  exact ⟨_, rfl, hw, _, rfl, ht, _, rfl, .inr ⟨hS, hh⟩, _, rfl, _, rfl, q⟩
theorem fit_of {x : Int} {m : Nat} (h : x.natAbs < 10 ^ m) (hm : m ≤ 199) : Fit x := by
  have : 10 ^ m ≤ 10 ^ 199 := Nat.pow_le_pow_right (by decide) hm
  constructor <;> omega
theorem bd_add {x y : Int} {m : Nat} (hx : x.natAbs < 10 ^ m) (hy : y.natAbs < 10 ^ m) : (x + y).natAbs < 10 ^ (m + 1) := by
  rw [Nat.pow_succ]
  omega
theorem bd_mono {x : Int} {m n : Nat} (hx : x.natAbs < 10 ^ m) (h : m ≤ n) : x.natAbs < 10 ^ n := Nat.lt_of_lt_of_le hx (Nat.pow_le_pow_right (by decide) h)
theorem bd_S {x : Int} {m : Nat} (hx : x.natAbs < 10 ^ m) : (S x).natAbs < 10 ^ (m + m) := by
  unfold S
  exact bd_mul hx (by rw [Int.natAbs_natCast]; exact hx)
theorem bd_sg (x : Int) : (sg x).natAbs < 10 ^ 1 := by
  rcases sg_cases x with h | h | h <;> rw [h.1] <;> decide
theorem sc_sign_with_two_roots : FnScope ["whole", "times", "heart", "other_times", "other_heart", "sign", "squares"] ["whole", "times", "heart", "other_times", "other_heart"] (defScope s_sign_with_two_roots) := ⟨rfl, rfl, rfl, by decide +kernel, rfl, by decide +kernel, by decide +kernel⟩
theorem d_sign_with_two_roots (F : In K mg "sign_with_two_roots" s_sign_with_two_roots ["whole", "times", "heart", "other_times", "other_heart"]) (T : Txt K mg C_RowError C_NoNumber) (D_sign_of : Def P w K mg base CX0 1 "sign_of" ["n"] sp_sg) (D_sign_with_root : Def P w K mg base CX0 2 "sign_with_root" ["whole", "times", "heart"] sp_swr) (D_signed_square : Def P w K mg base CX0 1 "signed_square" ["n"] sp_S) : Def P w K mg base CX0 3 "sign_with_two_roots" ["whole", "times", "heart", "other_times", "other_heart"] sp_swtr := by
  refine F.ok0 sc_sign_with_two_roots (by walk_at "splen") (fun f cdv A outer s H vs Q E hr h => ?_)
  obtain ⟨X, p, D, q, E, rfl, hX, hp, hD, hq, hE, k⟩ := h
  refine ⟨_, (pss_cons (ps_set (i := 5) sc_sign_with_two_roots.nd rfl (Or.inl rfl) (pe_callD D_sign_of hr rfl pass0 (pa_cons (pe_op op_add (pe_op op_mulB (pe_callD D_signed_square hr rfl pass0 (pa_cons (pv 1) pa_nil)) (pv 2)) (pe_op op_mulB (pe_callD D_signed_square hr rfl pass0 (pa_cons (pv 3) pa_nil)) (pv 4))) pa_nil)))
    (pss_cons (ps_set (i := 6) sc_sign_with_two_roots.nd rfl (Or.inl rfl) (pe_op op_add (pe_op op_mulB (pe_op op_mulB (pv 1) (pv 1)) (pv 2)) (pe_op op_mulB (pe_op op_mulB (pv 3) (pv 3)) (pv 4))))
    (pss_one (ps_ret (pe_callD D_sign_with_root hr rfl pass0 (pa_cons (pe_op op_add (pe_callD D_signed_square hr rfl pass0 (pa_cons (pv 0) pa_nil)) (pe_op op_mulB (pv 5) (pv 6))) (pa_cons (pe_op op_mulB (pe_op op_mulB (pe_op op_mulB (pv 5) pe_int) (pv 1)) (pv 3)) (pa_cons (pe_op op_mulB (pv 2) (pv 4)) pa_nil)))))))), ?_⟩
  walk_at "wp"
  have sp := bd_S hp
  have sq := bd_S hq
  have sX := bd_S hX
  have pp := bd_mul hp hp
  have qq := bd_mul hq hq
  have ppD := bd_mul pp hD
  have qqE := bd_mul qq hE
  have sqs := bd_add ppD qqE
  have fp : Fit p := fit_of hp (by decide)
  have fq : Fit q := fit_of hq (by decide)
  have fD : Fit D := fit_of hD (by decide)
  have fE : Fit E := fit_of hE (by decide)
  refine ⟨_, rfl, fp, _, rfl, .inr ⟨fit_of sp (by decide), fD⟩, _, rfl, fq, _, rfl, .inr ⟨fit_of sq (by decide), fE⟩, _, rfl, ?_⟩
  refine ⟨.inr fp, .inr ⟨fit_of pp (by decide), fD⟩, .inr fq, .inr ⟨fit_of qq (by decide), fE⟩, _, rfl, fit_of hX (by decide), ?_⟩
  have g1 := bd_sg (S p * D + S q * E)
  unfold cmp2 at k
  generalize sg (S p * D + S q * E) = g at *
  have w1 := bd_mul g1 sqs
  have w2 := bd_add (bd_mono sX (show 44 + 44 ≤ 1 + (22 + 22 + 44 + 1) by decide)) w1
  have v1 := bd_mul g1 (show (2 : Int).natAbs < 10 ^ 1 by decide)
  have v2 := bd_mul v1 hp
  have v3 := bd_mul v2 hq
  have v4 := bd_S v3
  have de := bd_mul hD hE
  refine ⟨_, rfl, .inr ⟨fit_of g1 (by decide), fit_of sqs (by decide)⟩, _, rfl, _, rfl, .inl (.inr ⟨by decide, by decide⟩), .inr ⟨fit_of v1 (by decide), fp⟩, .inr ⟨fit_of v2 (by decide), fq⟩, .inr ⟨fD, fE⟩, ?_⟩
  exact ⟨_, _, _, rfl, fit_of w2 (by decide), fit_of v3 (by decide), fit_of v4 (by decide), fit_of de (by decide), k⟩
theorem num_small {xs : List Int} {A t D L : Int} (h : NumR xs A t D L) (hB : ∀ x ∈ xs, x.natAbs < 10 ^ 21) : A.natAbs < 10 ^ 21 ∧ t.natAbs < 10 ^ 1 ∧ D.natAbs < 10 ^ 44 ∧ L.natAbs < 10 ^ 21 * 2 := by
  cases h with
  | frac hl hg =>
    have h1 := hB A (by simp)
    have h2 := hB L (by simp)
    exact ⟨h1, by decide, by decide, by omega⟩
  | @root a b c s r =>
    have h1 := hB a (by simp)
    have h2 := hB b (by simp)
    have h3 := hB c (by simp)
    refine ⟨by omega, by split <;> decide, ?_, by omega⟩
    have e1 := bd_mul h2 h2
    have e2 := bd_mul (bd_mul (show (4 : Int).natAbs < 10 ^ 1 by decide) h1) h3
    unfold heart
    omega
theorem num_t {xs : List Int} {A t D L : Int} (h : NumR xs A t D L) : t.natAbs ≤ 1 := by
  cases h with
  | frac hl hg => decide
  | root r => split <;> decide
theorem sc_compare : FnScope ["one", "other", "first", "second", "whole", "times", "other_times"] ["one", "other"] (defScope s_compare) := ⟨rfl, rfl, rfl, by decide +kernel, rfl, by decide +kernel, by decide +kernel⟩
theorem d_compare (F : In K mg "compare" s_compare ["one", "other"]) (T : Txt K mg C_RowError C_NoNumber) (D_spread_out : Def P w K mg base CX0 2 "spread_out" ["number"] (sp_spread K)) (D_sign_with_two_roots : Def P w K mg base CX0 3 "sign_with_two_roots" ["whole", "times", "heart", "other_times", "other_heart"] sp_swtr) : Def P w K mg base CX0 4 "compare" ["one", "other"] (sp_compare K) := by
  refine F.ok0 sc_compare (by walk_at "splen") (fun f cdv A outer s H vs Q E hr h => ?_)
  obtain ⟨p, q, xs, ys, A1, t1, D1, L1, A2, t2, D2, L2, rfl, hT1, hT2, hN1, hN2, hB1, hB2, k⟩ := h
  refine ⟨_, (pss_cons (ps_set (i := 2) sc_compare.nd rfl (Or.inl rfl) (pe_callD D_spread_out hr rfl pass0 (pa_cons (pv 0) pa_nil)))
    (pss_cons (ps_set (i := 3) sc_compare.nd rfl (Or.inl rfl) (pe_callD D_spread_out hr rfl pass0 (pa_cons (pv 1) pa_nil)))
    (pss_cons (ps_set (i := 4) sc_compare.nd rfl (Or.inl rfl) (pe_op op_sub (pe_op op_mulB (pe_ix ix_tup (pv 2) pe_int (fun _ _ => rfl)) (pe_ix ix_tup (pv 3) pe_int (fun _ _ => rfl))) (pe_op op_mulB (pe_ix ix_tup (pv 3) pe_int (fun _ _ => rfl)) (pe_ix ix_tup (pv 2) pe_int (fun _ _ => rfl)))))
    (pss_cons (ps_set (i := 5) sc_compare.nd rfl (Or.inl rfl) (pe_op op_mulB (pe_ix ix_tup (pv 2) pe_int (fun _ _ => rfl)) (pe_ix ix_tup (pv 3) pe_int (fun _ _ => rfl))))
    (pss_cons (ps_set (i := 6) sc_compare.nd rfl (Or.inl rfl) (pe_op op_mulB (pe_un un_neg (pe_ix ix_tup (pv 3) pe_int (fun _ _ => rfl))) (pe_ix ix_tup (pv 2) pe_int (fun _ _ => rfl))))
    (pss_one (ps_ret (pe_callD D_sign_with_two_roots hr rfl pass0 (pa_cons (pv 4) (pa_cons (pv 5) (pa_cons (pe_ix ix_tup (pv 2) pe_int (fun _ _ => rfl)) (pa_cons (pv 6) (pa_cons (pe_ix ix_tup (pv 3) pe_int (fun _ _ => rfl)) pa_nil))))))))))))), ?_⟩
  walk_at "wp"
  have bdd : ∀ {zs : List Int}, (∀ x ∈ zs, x.natAbs < 10 ^ 21) → ∀ x ∈ zs, Bd x := fun h x hx => by
    have := h x hx
    constructor <;> omega
  obtain ⟨a1, a2, a3, a4⟩ := num_small hN1 hB1
  obtain ⟨b1, b2, b3, b4⟩ := num_small hN2 hB2
  refine ⟨p, xs, A1, t1, D1, L1, rfl, hT1, hN1, bdd hB1, fun r1 H1 n1 s1 u1 => ?_⟩
  refine ⟨q, ys, A2, t2, D2, L2, rfl, s1.seqT hT2, hN2, bdd hB2, fun r2 H2 n2 s2 u2 => ?_⟩
  have T1 := SqT.of (K := K) (s2 _ _ u1)
  have T2 := SqT.of (K := K) u2
  have fA1 : Fit A1 := fit_of a1 (by decide)
  have fA2 : Fit A2 := fit_of b1 (by decide)
  have fL1 : Fit L1 := ⟨by omega, by omega⟩
  have fL2 : Fit L2 := ⟨by omega, by omega⟩
  have ft1 : Fit t1 := fit_of a2 (by decide)
  have ft2 : Fit (-t2) := fit_of (m := 1) (by rw [Int.natAbs_neg]; exact b2) (by decide)
  have lb1 : L1.natAbs < 10 ^ 22 := by omega
  have lb2 : L2.natAbs < 10 ^ 22 := by omega
  have w1 := bd_add (bd_mul a1 lb2) (show (-(A2 * L1)).natAbs < _ by rw [Int.natAbs_neg]; exact bd_mul b1 lb1)
  rw [← Int.sub_eq_add_neg] at w1
  have tl : ∀ {t L : Int}, t.natAbs ≤ 1 → L.natAbs < 10 ^ 22 → (t * L).natAbs < 10 ^ 22 := fun {t L} h1 h2 => by
    rw [Int.natAbs_mul]
    have := Nat.mul_le_mul_right L.natAbs h1
    omega
  have k1 : t1.natAbs ≤ 1 := num_t hN1
  have k2 : (-t2).natAbs ≤ 1 := by rw [Int.natAbs_neg]; exact num_t hN2
  refine ⟨_, rfl, _, T1, _, rfl, _, rfl, _, T2, _, rfl, _, rfl, _, rfl, .inr ⟨fA1, fL2⟩, ?_⟩
  refine ⟨_, rfl, _, T2, _, rfl, _, rfl, _, T1, _, rfl, _, rfl, _, rfl, .inr ⟨fA2, fL1⟩, ?_⟩
  refine ⟨_, rfl, _, T1, _, rfl, _, rfl, _, T2, _, rfl, _, rfl, _, rfl, .inr ⟨ft1, fL2⟩, ?_⟩
  refine ⟨_, rfl, _, T2, _, rfl, _, rfl, _, rfl, _, T1, _, rfl, _, rfl, .inr ⟨ft2, fL1⟩, _, rfl, _, T1, _, rfl, _, rfl, _, T2, _, rfl, ?_⟩
  exact ⟨_, _, _, _, _, rfl, w1, tl k1 lb2, a3, tl k2 lb1, b3, k _ (s1.trans s2)⟩
theorem sc_turned : FnScope ["root", "n", "a", "b", "side", "at_n"] ["root", "n"] (defScope s_turned) := ⟨rfl, rfl, rfl, by decide +kernel, rfl, by decide +kernel, by decide +kernel⟩
theorem d_turned (F : In K mg "turned" s_turned ["root", "n"]) (T : Txt K mg C_RowError C_NoNumber) (D_root_of : Def P w K mg base (CXE P w) 3 "root_of" ["a", "b", "c", "side"] (sp_root_of C_NoNumber)) : Def P w K mg base (CXE P w) 4 "turned" ["root", "n"] (sp_turned K) := by
  refine F.okX sc_turned (by walk_at "splen") (fun f cdv A outer s H vs Q E hr h => ?_)
  obtain ⟨p, a, b, c, s0, n, rfl, hT, r, hn, b1, b2, b3, q⟩ := h
  refine ⟨_, (pss_cons (ps_set (i := 2) sc_turned.nd rfl (Or.inl rfl) (pe_ix ix_tup (pv 0) pe_int (fun _ _ => rfl)))
    (pss_cons (ps_set (i := 3) sc_turned.nd rfl (Or.inl rfl) (pe_ix ix_tup (pv 0) pe_int (fun _ _ => rfl)))
    (pss_cons (ps_set (i := 4) sc_turned.nd rfl (Or.inl rfl) (pe_ix ix_tup (pv 0) pe_int (fun _ _ => rfl)))
    (pss_cons (ps_set (i := 5) sc_turned.nd rfl (Or.inl rfl) (pe_op op_add (pe_op op_add (pe_op op_mulB (pe_op op_mulB (pv 2) (pv 1)) (pv 1)) (pe_op op_mulB (pv 3) (pv 1))) (pe_ix ix_tup (pv 0) pe_int (fun _ _ => rfl))))
    (pss_cons (ps_if (pt_cmpR op_gt (pv 5) pe_int (nomark _)) (pss_one (ps_set (i := 4) sc_turned.nd rfl (Or.inl rfl) (pe_op op_sub pe_int (pv 4)))) pss_nil)
    (pss_one (ps_ret (pe_callD D_root_of hr rfl passes_cx (pa_cons (pv 5) (pa_cons (pe_op op_add (pe_op op_mulB (pe_op op_mulB pe_int (pv 2)) (pv 1)) (pv 3)) (pa_cons (pv 2) (pa_cons (pv 4) pa_nil)))))))))))), ?_⟩
  walk_at "wp"
  have cn : ∀ x : Int, (Bd n → Bd b → Fit x) → CMul x n ∨ Fit x ∧ Fit n := fun x fx => by
    rcases hn with hn | ⟨hn, hb⟩
    · exact .inl (.inr hn)
    · exact .inr ⟨fx hn hb, hn.fit⟩
  have cn1 := cn a (fun _ _ => b3.fit)
  have cn2 := cn (a * n) (fun z _ => fit_of (bd_mul b3.nat z.nat) (by decide))
  have cn3 := cn b (fun _ z => z.fit)
  have cn4 := cn (2 * a) (fun _ _ => fit_of (bd_mul (show (2 : Int).natAbs < 10 ^ 1 by decide) b3.nat) (by decide))
  have c2 : CMul 2 a ∨ Fit 2 ∧ Fit a := .inl (.inl ⟨by decide, by decide⟩)
  have tr := turned_ht (n := n) r
  refine ⟨_, hT, _, rfl, _, hT, _, rfl, _, hT, _, rfl, _, rfl, cn1, cn2, _, rfl, cn3, _, hT, _, rfl, _, rfl, ?_⟩
  have sd := r.side
  have hsq : ¬ IsSq (heart (a * n * n + b * n + c) (2 * a * n + b) a) := by rw [tr.2]; exact r.ns
  have hnn : 0 ≤ heart (a * n * n + b * n + c) (2 * a * n + b) a := by rw [tr.2]; have := r.hp; omega
  have fin : ∀ s' : Int, s' = (if 0 < a * n * n + b * n + c then 1 - s0 else s0) → sp_root_of C_NoNumber [.int (a * n * n + b * n + c), .int (2 * a * n + b), .int a, .int s'] H Q E := fun s' es => by
    have sd' : s' = 0 ∨ s' = 1 := by rw [es]; split <;> omega
    refine ⟨_, _, _, _, rfl, b1, b2, b3, fun z => ?_, fun _ _ _ => ?_⟩
    · exfalso
      rcases z with z | z | z
      · exact tr.1 z
      · omega
      · exact hsq z
    · have rt := root_low tr.1 hnn hsq sd'
      obtain ⟨A', B', C', ea, eb, ec, fa, fb', fc, hA', hg'⟩ := by3_split (b := 2 * a * n + b) (c := a) tr.1
      rw [fa, fb', fc] at rt ⊢
      subst es
      exact q A' B' C' ⟨rt, _, by3_ne tr.1, ea, eb, ec⟩
  refine ite2 (fun z => ?_) (fun z => ?_)
  · have hz : 0 < a * n * n + b * n + c := by simpa using z
    exact ⟨_, rfl, _, rfl, c2, cn4, _, rfl, fin _ (by rw [if_pos hz])⟩
  · have hz : ¬ 0 < a * n * n + b * n + c := by simpa using z
    exact ⟨_, rfl, c2, cn4, _, rfl, fin _ (by rw [if_neg hz])⟩
theorem frac_part {u l n M : Int} (hl : 0 < l) (h1 : n * l ≤ u) (h2 : u < (n + 1) * l) (b1 : -M ≤ u) (b2 : u ≤ M) : -M ≤ n + 1 ∧ n ≤ M := by
  rw [Int.add_mul, Int.one_mul] at h2
  constructor
  · rcases Int.lt_or_le n 0 with z | z
    · have := Int.mul_le_mul_of_nonneg_left (show 1 ≤ l by omega) (show 0 ≤ -n - 1 by omega)
      have e : (-n - 1) * l = -(n * l) - l := by grind
      omega
    · omega
  · rcases Int.lt_or_le 0 n with z | z
    · have := Int.mul_le_mul_of_nonneg_left (show 1 ≤ l by omega) (show 0 ≤ n by omega)
      omega
    · have : 0 ≤ M := by omega
      omega
theorem sc_lowest : FnScope ["upper", "lower", "divisor"] ["upper", "lower"] (defScope s_lowest) := ⟨rfl, rfl, rfl, by decide +kernel, rfl, by decide +kernel, by decide +kernel⟩
theorem d_lowest (F : In K mg "lowest" s_lowest ["upper", "lower"]) (T : Txt K mg C_RowError C_NoNumber) (D_common_divisor : Def P w K mg base CX0 1 "common_divisor" ["one", "other"] sp_gcd) : Def P w K mg base (CXE P w) 2 "lowest" ["upper", "lower"] (sp_lowest C_NoNumber) := by
  refine F.okX sc_lowest (by walk_at "splen") (fun f cdv A outer s H vs Q E hr h => ?_)
  obtain ⟨u, l, rfl, h0, h1⟩ := h
  refine ⟨_, (pss_cons (ps_if (pt_cmpR op_eq (pv 1) pe_int (nomark _)) (pss_one (ps_raise raises_cx rfl PySem.F.excBase_ValueError rfl T.m_NoNumber T.x_NoNumber (pa_cons pe_str pa_nil))) pss_nil)
    (pss_cons (ps_set (i := 2) sc_lowest.nd rfl (Or.inl rfl) (pe_callD D_common_divisor hr rfl pass0 (pa_cons (pv 0) (pa_cons (pv 1) pa_nil))))
    (pss_cons (ps_if (pt_cmpR op_lt (pv 1) pe_int (nomark _)) (pss_one (ps_set (i := 2) sc_lowest.nd rfl (Or.inl rfl) (pe_un un_neg (pv 2)))) pss_nil)
    (pss_one (ps_ret (pe_tupS (pa_cons (pe_op op_fdivM (pv 0) (pv 2)) (pa_cons (pe_op op_fdivM (pv 1) (pv 2)) pa_nil)))))))), ?_⟩
  walk_at "wp"
  have two : 2 ≤ sizeLine := by decide
  refine ite2 (fun z => ?_) (fun z => ?_)
  · exact ⟨(by show 1 ≤ sizeLine; decide), h0 (by simpa using z)⟩
  have hl : l ≠ 0 := by simpa using z
  obtain ⟨fl, q⟩ := h1 hl
  have fb := fit_by (u := u) hl fl
  have nb := by_ne (u := u) hl
  refine ⟨u, l, rfl, ?_⟩
  refine ite2 (fun c => ?_) (fun c => ?_)
  · have hn : l < 0 := by simpa using c
    have e : by_ u l = -((Int.gcd u l : Nat) : Int) := if_pos hn
    rw [e] at fb nb
    refine ⟨_, rfl, ⟨nb, fb⟩, ⟨nb, fb⟩, two, ?_⟩
    have z := q
    unfold low at z
    rw [e] at z
    exact z
  · have hn : ¬ l < 0 := by simpa using c
    have e : by_ u l = ((Int.gcd u l : Nat) : Int) := if_neg hn
    rw [e] at fb nb
    refine ⟨_, rfl, ⟨nb, fb⟩, _, rfl, ⟨nb, fb⟩, two, ?_⟩
    have z := q
    unfold low at z
    rw [e] at z
    exact z
def kv (x : List Int) (k : Nat) : List (List Key × V) := (List.range k).map fun i => ((sq x i).map Sum.inl, V.int (i : Int))
theorem none_of {H H1 : Hp} {e : Addr} (s : Same H H1) (h : H1 e = none) : H e = none := by
  cases z : H e with
  | none => rfl
  | some o => rw [s _ _ z] at h; cases h
theorem Sz.mono {D M M' : Int} {xs : List Int} (z : Sz D M xs) (h : M ≤ M') : Sz D M' xs := by
  unfold Sz at *
  split at z
  · obtain ⟨a, b, c⟩ := z
    exact ⟨by omega, by omega, by omega⟩
  · obtain ⟨a, b, c, d, e, f⟩ := z
    exact ⟨a, by omega, by omega, by omega, by omega, by omega⟩
  · exact z
theorem sc_led_to : FnScope ["number", "n", "rest"] ["number", "n"] (defScope s_led_to) := ⟨rfl, rfl, rfl, by decide +kernel, rfl, by decide +kernel, by decide +kernel⟩
theorem d_led_to (F : In K mg "led_to" s_led_to ["number", "n"]) (T : Txt K mg C_RowError C_NoNumber) (D_turned : Def P w K mg base (CXE P w) 4 "turned" ["root", "n"] (sp_turned K)) : Def P w K mg base (CXE P w) 5 "led_to" ["number", "n"] (sp_led K) := by
  refine F.okX sc_led_to (by walk_at "splen") (fun f cdv A outer s H vs Q E hr h => ?_)
  obtain ⟨p, xs, n, A, t, D, L, D0, M, rfl, hT, hN, hP, hZ, d0, hb, q0, q1⟩ := h
  refine ⟨_, (pss_cons (ps_if (pt_cmpR op_eq (pe_callB call_len_seq rfl T.n_len (by decide +kernel) (pa_cons (pv 0) pa_nil)) pe_int (nomark _)) (pss_one (ps_ret (pe_callD D_turned hr rfl passes_cx (pa_cons (pv 0) (pa_cons (pv 1) pa_nil))))) pss_nil)
    (pss_cons (ps_set (i := 2) sc_led_to.nd rfl (Or.inl rfl) (pe_op op_sub (pe_ix ix_tup (pv 0) pe_int (fun _ _ => rfl)) (pe_op op_mulB (pv 1) (pe_ix ix_tup (pv 0) pe_int (fun _ _ => rfl)))))
    (pss_one (ps_ret (pe_ifExp (pt_cmpR op_eq (pv 2) pe_int (nomark _)) pe_non (pe_tupS (pa_cons (pe_ix ix_tup (pv 0) pe_int (fun _ _ => rfl)) (pa_cons (pv 2) pa_nil)))))))), ?_⟩
  walk_at "wp"
  cases hN with
  | frac hl hg =>
    refine ⟨_, .inr hT, iteF ?_⟩
    obtain ⟨z1, z2, z3⟩ := hZ
    have hh : n * L ≤ A ∧ -M ≤ n + 1 ∧ n ≤ M := by
      rcases hP with hP | ⟨l, e⟩
      · cases hP with
        | frac h1 h2 => exact ⟨h1, frac_part hl h1 h2 z1 z2⟩
      · simp only [List.cons.injEq, and_true] at e
        obtain ⟨e1, e2⟩ := e
        subst e2
        have e3 : (n + 1) * L = n * L + L := by rw [Int.add_mul, Int.one_mul]
        have := frac_part (u := A) (l := L) (n := n + 1) (M := M) hl (by omega) (by rw [Int.add_mul]; omega) z1 z2
        have h0 : -M ≤ n + 1 := by
          rcases Int.lt_or_le (n + 1) 0 with y | y
          · have := Int.mul_le_mul_of_nonneg_left (show 1 ≤ L by omega) (show 0 ≤ -(n + 1) by omega)
            have e4 : -(n + 1) * L = -((n + 1) * L) := Int.neg_mul ..
            omega
          · omega
        exact ⟨by omega, h0, by omega⟩
    obtain ⟨h1, nb1, nb2⟩ := hh
    · have fn : Fit n := ⟨by omega, by omega⟩
      have fl : Fit L := ⟨by omega, by omega⟩
      refine ⟨_, hT, _, rfl, _, hT, _, rfl, _, rfl, .inr ⟨fn, fl⟩, _, rfl, ?_⟩
      refine ite2 (fun c => ?_) (fun c => ?_)
      · have e : A - n * L = 0 := by simpa using c
        exact q0 (by rw [cut_frac, show A * 1 - n * L = 0 by omega]; rfl)
      · have e : A - n * L ≠ 0 := by simpa using c
        refine ⟨_, hT, _, rfl, by decide, q1 _ (.frac (by omega)) ?_⟩
        rw [cut_frac]
        exact sg_pos (by omega)
  | @root a b c s r =>
    refine ⟨_, .inr hT, iteT ?_⟩
    have hP : PartOf [a, b, c, s] n := by
      rcases hP with h | ⟨l, e⟩
      · exact h
      · simp at e
    obtain ⟨o1, o2, o3, o4, o5⟩ := turn_ok r hP hZ
    obtain ⟨z1, z2, z3, z4, z5, z6⟩ := hZ
    have ha := r.pos
    have hp := r.hp
    have sp := strict_part ⟨a, b, c, s, rfl, r⟩ hP
    exact ⟨p, a, b, c, s, n, rfl, hT, r, .inr ⟨⟨by omega, by omega⟩, ⟨by omega, by omega⟩⟩, ⟨by omega, by omega⟩, ⟨by omega, by omega⟩, ⟨by omega, by omega⟩, fun P' B' A' ht => q1 _ (.root ht) sp.1⟩
theorem root_bd {x : List Int} {D0 M : Int} (hR : IsR x) (z : Sz D0 M x) (d0 : 0 ≤ D0) (h : D0 + 2 * M < 10 ^ 39) : ∀ y ∈ x, Bd y := by
  obtain ⟨a, b, c, s, rfl, r⟩ := hR
  obtain ⟨z1, z2, z3, z4, z5, z6⟩ := z
  have ha := r.pos
  have hs := r.side
  intro y hy
  simp only [List.mem_cons, List.not_mem_nil, or_false] at hy
  rcases hy with e | e | e | e <;> subst e <;> constructor <;> omega
theorem size_line : (10 : Nat) ^ 6 < sizeLine := by decide
theorem num_bd {xs : List Int} {A t D L D0 M : Int} (h : NumR xs A t D L) (z : Sz D0 M xs) (d0 : 0 ≤ D0) (hb : D0 + 2 * M < 10 ^ 39) : ∀ x ∈ xs, Bd x := by
  cases h with
  | frac hl hg =>
    obtain ⟨z1, z2, z3⟩ := z
    intro x hx
    simp only [List.mem_cons, List.not_mem_nil, or_false] at hx
    rcases hx with rfl | rfl <;> constructor <;> omega
  | root r => exact root_bd ⟨_, _, _, _, rfl, r⟩ z d0 hb
theorem num_part {xs : List Int} {A t D L D0 M n : Int} (h : NumR xs A t D L) (z : Sz D0 M xs) (d0 : 0 ≤ D0) (m0 : 0 ≤ M) (hn : PartOf xs n) : n.natAbs ≤ (2 * (D0 + M) + 1).toNat := by
  cases h with
  | frac hl hg =>
    cases hn with
    | frac h1 h2 =>
      obtain ⟨z1, z2, z3⟩ := z
      have := frac_part hl h1 h2 z1 z2
      omega
  | root r =>
    have := (turn_ok r hn z).2.2.2.2
    omega
theorem AInv.small {xs ys : List Int} {most n0 a b c d : Int} {up : Bool} {k : Nat} (I : AInv xs most n0 a b c d ys up) (hm : most ≤ 100) (hk : n0.natAbs ≤ k) : 0 ≤ b ∧ a.natAbs ≤ k * 300 + 300 ∧ c.natAbs ≤ k * 300 + 300 := by
  have d1 := I.d1
  have dm := I.dm
  have bm := I.bm
  have hb := I.b0
  have e1 := I.e1
  have e2 := I.e2
  have e3 := I.e3
  have e4 := I.e4
  have b0 : 0 ≤ b := by omega
  have m1 : (n0 * b).natAbs ≤ k * 100 := by rw [Int.natAbs_mul]; exact Nat.mul_le_mul hk (by omega)
  have m2 : (n0 * d).natAbs ≤ k * 100 := by rw [Int.natAbs_mul]; exact Nat.mul_le_mul hk (by omega)
  exact ⟨b0, by omega, by omega⟩
theorem sc_around : FnScope ["number", "most", "last", "place", "rest", "last_is_above", "part", "times", "step"] ["number", "most"] (defScope s_around) := ⟨rfl, rfl, rfl, by decide +kernel, rfl, by decide +kernel, by decide +kernel⟩
theorem d_around (F : In K mg "around" s_around ["number", "most"]) (T : Txt K mg C_RowError C_NoNumber) (D_led_to : Def P w K mg base (CXE P w) 5 "led_to" ["number", "n"] (sp_led K)) (D_part_of : Def P w K mg base CX0 2 "part_of" ["number"] (sp_part K)) : Def P w K mg base (CXE P w) 6 "around" ["number", "most"] (sp_around K) := by
  refine F.okX sc_around (by walk_at "splen") (fun f cdv A outer s H vs Q E hr h => ?_)
  obtain ⟨p, xs, most, A, t, D, L, D0, M, B, rfl, hT, hN, hZ, d0, d1, m0, m1, o1, o2, hno, hB, hB2, q⟩ := h
  refine ⟨_, (pss_cons (ps_set (i := 2) sc_around.nd rfl (Or.inl rfl) (pe_tupS (pa_cons pe_int (pa_cons pe_int pa_nil))))
    (pss_cons (ps_set (i := 3) sc_around.nd rfl (Or.inl rfl) (pe_tupS (pa_cons (pe_callD D_part_of hr rfl pass0 (pa_cons (pv 0) pa_nil)) (pa_cons pe_int pa_nil))))
    (pss_cons (ps_set (i := 4) sc_around.nd rfl (Or.inl rfl) (pe_callD D_led_to hr rfl passes_cx (pa_cons (pv 0) (pa_cons (pe_ix ix_tup (pv 3) pe_int (fun _ _ => rfl)) pa_nil))))
    (pss_cons (ps_set (i := 5) sc_around.nd rfl (Or.inl rfl) pe_bl)
    (pss_cons (ps_while PassesOwn.leaving (pt_val pe_bl) (pss_cons (ps_set (i := 6) sc_around.nd rfl (Or.inl rfl) (pe_callD D_part_of hr rfl pass0 (pa_cons (pv 4) pa_nil)))
    (pss_cons (ps_set (i := 7) sc_around.nd rfl (Or.inl rfl) (pe_callB (call_min2 rfl) rfl T.n_min (by decide +kernel) (pa_cons (pv 6) (pa_cons (pe_op op_fdivP (pe_op op_sub (pv 1) (pe_ix ix_tup (pv 2) pe_int (fun _ _ => rfl))) (pe_ix ix_tup (pv 3) pe_int (fun _ _ => rfl))) pa_nil))))
    (pss_cons (ps_set (i := 8) sc_around.nd rfl (Or.inl rfl) (pe_tupS (pa_cons (pe_op op_add (pe_ix ix_tup (pv 2) pe_int (fun _ _ => rfl)) (pe_op op_mulB (pv 7) (pe_ix ix_tup (pv 3) pe_int (fun _ _ => rfl)))) (pa_cons (pe_op op_add (pe_ix ix_tup (pv 2) pe_int (fun _ _ => rfl)) (pe_op op_mulB (pv 7) (pe_ix ix_tup (pv 3) pe_int (fun _ _ => rfl)))) pa_nil))))
    (pss_cons (ps_if (pt_cmpR op_lt (pv 7) (pv 6) (nomark _)) (pss_one ps_break) pss_nil)
    (pss_cons (ps_set (i := 2) sc_around.nd rfl (Or.inl rfl) (pv 3))
    (pss_cons (ps_set (i := 3) sc_around.nd rfl (Or.inl rfl) (pv 8))
    (pss_cons (ps_set (i := 4) sc_around.nd rfl (Or.inl rfl) (pe_callD D_led_to hr rfl passes_cx (pa_cons (pv 4) (pa_cons (pv 6) pa_nil))))
    (pss_one (ps_set (i := 5) sc_around.nd rfl (Or.inl rfl) (pe_not (pv 5))))))))))))
    (pss_one (ps_ret (pe_ifExp (pt_val (pv 5)) (pe_tupS (pa_cons (pv 3) (pa_cons (pv 8) pa_nil))) (pe_tupS (pa_cons (pv 8) (pa_cons (pv 3) pa_nil))))))))))), ?_⟩
  walk_at "wp"
  refine ⟨by decide, fun la H1 n1 s1 t1 => ⟨p, xs, A, t, D, L, rfl, s1.seqT hT, hN, num_bd hN hZ d0 (by omega), fun n0 hn0 => ⟨by decide, fun pa H2 n2 s2 t2 => ⟨pa, rfl, _, SqT.of t2, _, rfl, p, xs, n0, A, t, D, L, D0, M, rfl, (s1.trans s2).seqT hT, hN, .inl hn0, hZ, d0, by omega, fun z => absurd z (hno n0 1 (by decide) o1), fun ys hl hc ra H3 n3 s3 t3 => ?_⟩⟩⟩⟩
  have cu := hn0.cuts hN
  have I0 := AInv.start ⟨A, t, D, L, hN⟩ o1 hno cu.1 cu.2 hl
  have kb := num_part hN hZ d0 m0 hn0
  obtain ⟨k, hk⟩ : ∃ k, (2 * (D0 + M) + 1).toNat = k := ⟨_, rfl⟩
  rw [hk] at kb
  have kk : k ≤ 10 ^ 11 := by omega
  have z0 := hl.size hN hn0 hZ d0
  have sH3 := s1.trans (s2.trans s3)
  refine ⟨fun m σ H' => ∃ (la pa ra : Addr) (a b c d : Int) (ys : List Int) (up : Bool) (x6 x7 x8 : Option V), σ = [some (.ref p), some (.int most), some (.ref la), some (.ref pa), some (.ref ra), some (.bl up), x6, x7, x8] ∧ Same H H' ∧ SqT K H' la [.int a, .int b] ∧ SqT K H' pa [.int c, .int d] ∧ SqT K H' ra (ys.map V.int) ∧ AInv xs most n0 a b c d ys up ∧ Sz D0 (M + (b + d) * D0) ys ∧ m = (2 * most - (b + d)).toNat,
    ⟨_, la, pa, ra, 1, 0, n0, 1, ys, true, none, none, none, rfl, sH3, SqT.of (s3 _ _ (s2 _ _ t1)), SqT.of (s3 _ _ t2), SqT.of t3, I0, by rw [show M + (0 + 1) * D0 = M + D0 by omega]; exact z0, rfl⟩, ?_⟩
  clear z0 I0 t3 t2 t1 sH3 n3 s3 n2 s2 n1 s1
  rintro m σ H4 ⟨la, pa, ra, a, b, c, d, ys, up, x6, x7, x8, rfl, s4, ta, tc, ty, I, sz, rfl⟩
  walk_at "wp"
  obtain ⟨b0, as, cs⟩ := AInv.small I o2 kb
  have e1 := I.d1
  have dm := I.dm
  have bm := I.bm
  obtain ⟨A', t', D', L', ny⟩ := id I.ny
  have bd0 : (b + d) * D0 ≤ 200 * 10 ^ 10 := Int.mul_le_mul (by omega) (by omega) d0 (by decide)
  have bd00 : 0 ≤ (b + d) * D0 := Int.mul_nonneg (by omega) d0
  refine ⟨_, fun _ _ h => h, ra, ys, A', t', D', L', rfl, ty, ny, num_bd ny sz d0 (by omega), fun n hn => ?_⟩
  have cu' := hn.cuts ny
  have n1 := I.part1 cu'.2
  have nk := num_part ny sz d0 (by omega) hn
  have fd : Fit d := ⟨by omega, by omega⟩
  have fc : Fit c := ⟨by omega, by omega⟩
  obtain ⟨e, he⟩ : ∃ e, (most - b) / d = e := ⟨_, rfl⟩
  have q1 := Int.mul_ediv_self_le (x := most - b) (k := d) (by omega)
  have q2 := Int.lt_mul_ediv_self_add (x := most - b) (k := d) (by omega)
  have q0 := Int.ediv_nonneg (show 0 ≤ most - b by omega) (show 0 ≤ d by omega)
  rw [he] at q0 q1 q2
  obtain ⟨tm, htm⟩ : ∃ tm, (if e < n then e else n) = tm := ⟨_, rfl⟩
  have t0 : 0 ≤ tm ∧ tm ≤ e ∧ tm ≤ n := by rw [← htm]; split <;> omega
  have e100 : e ≤ 100 := by
    have := Int.ediv_le_self (a := most - b) d (by omega)
    omega
  have ft : Fit tm := ⟨by omega, by omega⟩
  refine ⟨_, ta, _, rfl, _, rfl, _, tc, _, rfl, _, rfl, ⟨by omega, fd⟩, _, _, ⟨rfl, rfl⟩, ?_⟩
  rw [he, htm]
  refine ⟨_, ta, _, rfl, _, tc, _, rfl, _, rfl, .inr ⟨ft, fc⟩, _, rfl, _, ta, _, rfl, _, tc, _, rfl, _, rfl, .inr ⟨ft, fd⟩, _, rfl, by decide, fun stp H5 n5 s5 t5 => ⟨_, rfl, ite2 (fun z => ?_) (fun z => ?_)⟩⟩
  · have z : tm < n := by simpa using z
    have te : tm = e := by
      rw [← htm] at z ⊢
      split at z <;> simp_all
    have hB' : (n0.natAbs : Int) * (2 * most) + 2 * most ≤ B := by
      have := Int.mul_le_mul_of_nonneg_right (show (n0.natAbs : Int) ≤ 2 * (D0 + M) + 2 by omega) (show 0 ≤ 2 * most by omega)
      omega
    have de : d * e = tm * d := by rw [te, Int.mul_comm]
    have AR := I.stop (B := B) o1 cu'.1 z t0.1 (by omega) (by omega) hB'
    have s45 := s4.trans s5
    cases up
    · rw [if_neg (by decide)] at AR
      exact ifF (by decide) ⟨by decide, fun o H6 n6 s6 t6 => q _ _ _ _ AR o stp pa H6 (s45.trans s6) (SqT.of (s6 _ _ t5)) ((s5.trans s6).seqT tc) (SqT.of t6)⟩
    · rw [if_pos rfl] at AR
      exact ifT rfl ⟨by decide, fun o H6 n6 s6 t6 => q _ _ _ _ AR o pa stp H6 (s45.trans s6) ((s5.trans s6).seqT tc) (SqT.of (s6 _ _ t5)) (SqT.of t6)⟩
  · have z : ¬ tm < n := by simpa using z
    have te : tm = n := by omega
    have ne : n ≤ e := by omega
    rw [te] at t5
    have nd : n * d ≤ e * d := Int.mul_le_mul_of_nonneg_right ne (by omega)
    have de : d * e = e * d := Int.mul_comm ..
    have hn' : b + n * d ≤ most := by omega
    have pc := I.notat hno n1 cu'.1 hn'
    refine ⟨ra, ys, n, A', t', D', L', D0, M + (b + d) * D0, rfl, s5.seqT ty, ny, .inl hn, sz, d0, by omega, fun y => by omega, fun zs hl' _ ra' H6 n6 s6 t6 => ?_⟩
    obtain ⟨I', lt⟩ := I.next n1 pc cu'.2 hn' hl'
    have sz' := hl'.size ny hn sz d0
    have dm' := I'.dm
    refine ⟨_, ?_, pa, stp, ra', c, d, a + n * c, b + n * d, zs, !up, ⟨_, _, _, rfl⟩, s4.trans (s5.trans s6), (s5.trans s6).seqT tc, SqT.of (s6 _ _ t5), SqT.of t6, I', Sz.mono sz' ?_, rfl⟩
    · omega
    · have := Int.mul_le_mul_of_nonneg_right (show b + d + 1 ≤ d + (b + n * d) by omega) d0
      rw [Int.add_mul (b + d) 1 D0, Int.one_mul] at this
      omega
theorem sc_law_less : FnScope ["_law_one", "_law_other"] ["_law_one", "_law_other"] (defScope s_law_less) := ⟨rfl, rfl, rfl, by decide +kernel, rfl, by decide +kernel, by decide +kernel⟩
theorem d_law_less (F : In K mg "_law_less" s_law_less ["_law_one", "_law_other"]) (T : Txt K mg C_RowError C_NoNumber)  : Def P w K mg base CX0 1 "_law_less" ["_law_one", "_law_other"] (sp_less K) := by
  refine F.ok0 sc_law_less (by walk_at "splen") (fun f cdv A outer s H vs Q E hr h => ?_)
  obtain ⟨p, r, a, b, c, d, rfl, hp, hr', sa, sb, sc, sd, q⟩ := h
  refine ⟨_, (pss_one (ps_ret (pe_cmpR op_lt (pe_op op_mulB (pe_ix ix_tup (pv 0) pe_int (fun _ _ => rfl)) (pe_ix ix_tup (pv 1) pe_int (fun _ _ => rfl))) (pe_op op_mulB (pe_ix ix_tup (pv 1) pe_int (fun _ _ => rfl)) (pe_ix ix_tup (pv 0) pe_int (fun _ _ => rfl))) (nomark _)))), ?_⟩
  walk_at "wp"
  exact ⟨_, hp, _, rfl, _, hr', _, rfl, _, rfl, _, rfl, .inl (.inl sa), _, hr', _, rfl, _, hp, _, rfl, _, rfl, _, rfl, .inl (.inl sc), q⟩
theorem sc_just_below : FnScope ["fraction", "most"] ["fraction", "most"] (defScope s_just_below) := ⟨rfl, rfl, rfl, by decide +kernel, rfl, by decide +kernel, by decide +kernel⟩
theorem d_just_below (F : In K mg "just_below" s_just_below ["fraction", "most"]) (T : Txt K mg C_RowError C_NoNumber) (D_lowest : Def P w K mg base (CXE P w) 2 "lowest" ["upper", "lower"] (sp_lowest C_NoNumber)) : Def P w K mg base (CXE P w) 3 "just_below" ["fraction", "most"] (sp_justb K) := by
  refine F.okX sc_just_below (by walk_at "splen") (fun f cdv A outer s H vs Q E hr h => ?_)
  obtain ⟨p, u, l, m, rfl, hp, l0, l1, u1, m1, m2, q⟩ := h
  refine ⟨_, (pss_one (ps_ret (pe_callD D_lowest hr rfl passes_cx (pa_cons (pe_op op_sub (pe_op op_mulB (pe_op op_mulB pe_int (pv 1)) (pe_ix ix_tup (pv 0) pe_int (fun _ _ => rfl))) pe_int) (pa_cons (pe_op op_mulB (pe_op op_mulB pe_int (pv 1)) (pe_ix ix_tup (pv 0) pe_int (fun _ _ => rfl))) pa_nil))))), ?_⟩
  walk_at "wp"
  have c2 : CMul 2 m ∨ Fit 2 ∧ Fit m := .inl (.inl ⟨by decide, by decide⟩)
  have s2 : Sm (2 * m) := ⟨by omega, by omega⟩
  have pos : 0 < 2 * m * l := Int.mul_pos (by omega) l0
  have up : 2 * m * l ≤ 200 * 1000 := Int.mul_le_mul (by omega) l1 (by omega) (by decide)
  exact ⟨c2, _, hp, _, rfl, _, rfl, .inl (.inl s2), c2, _, hp, _, rfl, _, rfl, .inl (.inl s2), _, _, rfl, fun z => by omega, fun _ => ⟨⟨by omega, by omega⟩, q⟩⟩
theorem sc_following : FnScope ["before", "place", "most", "times"] ["before", "place", "most"] (defScope s_following) := ⟨rfl, rfl, rfl, by decide +kernel, rfl, by decide +kernel, by decide +kernel⟩
theorem d_following (F : In K mg "following" s_following ["before", "place", "most"]) (T : Txt K mg C_RowError C_NoNumber)  : Def P w K mg base CX0 1 "following" ["before", "place", "most"] (sp_follow K) := by
  refine F.ok0 sc_following (by walk_at "splen") (fun f cdv A outer s H vs Q E hr h => ?_)
  obtain ⟨p, r, a, b, c, d, m, rfl, hp, hr', d0, d1, b0, b1, a1, c1, m1, m2, q⟩ := h
  refine ⟨_, (pss_cons (ps_set (i := 3) sc_following.nd rfl (Or.inl rfl) (pe_op op_fdivP (pe_op op_add (pv 2) (pe_ix ix_tup (pv 0) pe_int (fun _ _ => rfl))) (pe_ix ix_tup (pv 1) pe_int (fun _ _ => rfl))))
    (pss_one (ps_ret (pe_tupS (pa_cons (pe_op op_sub (pe_op op_mulB (pv 3) (pe_ix ix_tup (pv 1) pe_int (fun _ _ => rfl))) (pe_ix ix_tup (pv 0) pe_int (fun _ _ => rfl))) (pa_cons (pe_op op_sub (pe_op op_mulB (pv 3) (pe_ix ix_tup (pv 1) pe_int (fun _ _ => rfl))) (pe_ix ix_tup (pv 0) pe_int (fun _ _ => rfl))) pa_nil)))))), ?_⟩
  walk_at "wp"
  have t0 := Int.ediv_nonneg (show 0 ≤ m + b by omega) (show 0 ≤ d by omega)
  have t1 := Int.ediv_le_self (a := m + b) d (by omega)
  have st : Sm ((m + b) / d) := ⟨by omega, by omega⟩
  exact ⟨_, hp, _, rfl, _, rfl, _, hr', _, rfl, _, rfl, ⟨d0, ⟨by omega, by omega⟩⟩, _, hr', _, rfl, _, rfl, .inl (.inl st), _, hp, _, rfl, _, rfl, _, hr', _, rfl, _, rfl, .inl (.inl st), _, hp, _, rfl, _, rfl, by decide, q⟩
theorem within_12 {lo0 lo1 c d : Int} (l1 : 0 < lo1) (l3 : -(12) ≤ lo0) (d0 : 0 < d) (h : lo0 * d ≤ c * lo1) (l12 : lo1 ≤ 12) : -(12 * d) ≤ c := by
  rcases Int.lt_or_le c (-(12 * d)) with z | z
  · exfalso
    have e1 := Int.mul_lt_mul_of_pos_right z l1
    have e2 := Int.mul_le_mul_of_nonneg_right l3 (show 0 ≤ d by omega)
    have e3 := Int.mul_le_mul_of_nonneg_left (show 1 ≤ lo1 by omega) (show 0 ≤ 12 * d by omega)
    have e4 : -(12 * d) * lo1 = -(12 * d * lo1) := Int.neg_mul ..
    have e5 : -(12) * d = -(12 * d) := Int.neg_mul ..
    omega
  · exact z
theorem within_12' {hi0 hi1 c d : Int} (h1 : 0 < hi1) (h4 : hi0 ≤ 12) (d0 : 0 < d) (h : c * hi1 ≤ hi0 * d) : c ≤ 12 * d := by
  rcases Int.lt_or_le (12 * d) c with z | z
  · exfalso
    have e1 := Int.mul_lt_mul_of_pos_right z h1
    have e2 := Int.mul_le_mul_of_nonneg_right h4 (show 0 ≤ d by omega)
    have e3 := Int.mul_le_mul_of_nonneg_left (show 1 ≤ hi1 by omega) (show 0 ≤ 12 * d by omega)
    omega
  · exact z
theorem Tups.keep {K : PySem.W.Frag} {H H' : Hp} {as : List Addr} {fs : List (Int × Int)} (h : Tups K H as fs) (s : ∀ a xs, SqT K H a xs → SqT K H' a xs) : Tups K H' as fs := ⟨h.1, fun i a f h1 h2 => s _ _ (h.2 i a f h1 h2)⟩
theorem Tups.snoc {K : PySem.W.Frag} {H : Hp} {as : List Addr} {fs : List (Int × Int)} {a : Addr} {f : Int × Int} (h : Tups K H as fs) (ha : SqT K H a [.int f.1, .int f.2]) : Tups K H (as ++ [a]) (fs ++ [f]) := by
  refine ⟨by rw [List.length_append, List.length_append, h.1]; rfl, fun i b g h1 h2 => ?_⟩
  rcases Nat.lt_or_ge i as.length with z | z
  · rw [List.getElem?_append_left z] at h1
    rw [List.getElem?_append_left (by rw [← h.1]; exact z)] at h2
    exact h.2 i b g h1 h2
  · rw [List.getElem?_append_right z] at h1
    rw [List.getElem?_append_right (by rw [← h.1]; exact z), ← h.1] at h2
    have hi : i - as.length = 0 := by
      have := (List.getElem?_eq_some_iff.mp h1).1
      simp at this
      omega
    rw [hi] at h1 h2
    have e1 : a = b := by simpa using h1
    have e2 : f = g := by simpa using h2
    subst e1 e2
    exact ha
theorem sc_between : FnScope ["low", "high", "most", "beside", "before", "place", "found", "after"] ["low", "high", "most"] (defScope s_between) := ⟨rfl, rfl, rfl, by decide +kernel, rfl, by decide +kernel, by decide +kernel⟩
theorem d_between (F : In K mg "between" s_between ["low", "high", "most"]) (T : Txt K mg C_RowError C_NoNumber) (D_around : Def P w K mg base (CXE P w) 6 "around" ["number", "most"] (sp_around K)) (D_just_below : Def P w K mg base (CXE P w) 3 "just_below" ["fraction", "most"] (sp_justb K)) (D_compare : Def P w K mg base CX0 4 "compare" ["one", "other"] (sp_compare K)) (D_following : Def P w K mg base CX0 1 "following" ["before", "place", "most"] (sp_follow K)) : Def P w K mg base (CXE P w) 7 "between" ["low", "high", "most"] (sp_between K) := by
  refine F.okX sc_between (by walk_at "splen") (fun f cdv A outer s H vs Q E hr h => ?_)
  obtain ⟨p, r, lo0, lo1, hi0, hi1, most, rfl, hp, hr', l1, l2, l3, l4, lg, h1, h2, h3, h4, hg, m1, m9, q⟩ := h
  refine ⟨_, (pss_cons (ps_if (pt_cmpR op_lt (pv 2) pe_int (nomark _)) (pss_one (ps_ret (pe_tupS pa_nil))) pss_nil)
    (pss_cons (ps_set (i := 3) sc_between.nd rfl (Or.inl rfl) (pe_callD D_around hr rfl passes_cx (pa_cons (pe_callD D_just_below hr rfl passes_cx (pa_cons (pv 0) (pa_cons (pv 2) pa_nil))) (pa_cons (pv 2) pa_nil))))
    (pss_cons (ps_set (i := 4) sc_between.nd rfl (Or.inl rfl) (pe_ix ix_tup (pv 3) pe_int (fun _ _ => rfl)))
    (pss_cons (ps_set (i := 5) sc_between.nd rfl (Or.inl rfl) (pe_ix ix_tup (pv 3) pe_int (fun _ _ => rfl)))
    (pss_cons (ps_set (i := 6) sc_between.nd rfl (Or.inl rfl) (pe_lstS pa_nil))
    (pss_cons (ps_while PassesOwn.leaving (pt_cmpR op_le (pe_callD D_compare hr rfl pass0 (pa_cons (pv 5) (pa_cons (pv 1) pa_nil))) pe_int (nomark _)) (pss_cons (ps_expr (pe_bm PySem.F.plainAttrs_list PySem.F.slot_list_append PySem.F.type_list_append mt_appendS (pv 6) (pa_cons (pv 5) pa_nil)))
    (pss_cons (ps_set (i := 7) sc_between.nd rfl (Or.inl rfl) (pe_callD D_following hr rfl pass0 (pa_cons (pv 4) (pa_cons (pv 5) (pa_cons (pv 2) pa_nil)))))
    (pss_cons (ps_set (i := 4) sc_between.nd rfl (Or.inl rfl) (pv 5))
    (pss_one (ps_set (i := 5) sc_between.nd rfl (Or.inl rfl) (pv 7)))))))
    (pss_one (ps_ret (pe_callTy call_tupleS rfl T.n_tuple (by decide +kernel) (pa_cons (pv 6) pa_nil)))))))))), ?_⟩
  walk_at "wp"
  refine ifF (by simp; omega) ⟨p, lo0, lo1, most, rfl, hp, l1, by omega, by omega, m1, by omega, fun w1 H1 n1 s1 t1 => ?_⟩
  have pos : 0 < 2 * most * lo1 := Int.mul_pos (by omega) l1
  have b1 : (2 * most * lo0).natAbs ≤ 18 * 12 := by rw [Int.natAbs_mul]; exact Nat.mul_le_mul (by omega) (by omega)
  have b2 : 2 * most * lo1 ≤ 18 * 12 := Int.mul_le_mul (by omega) l2 (by omega) (by decide)
  have ls := low_small (u := 2 * most * lo0 - 1) (l := 2 * most * lo1) (m := 1000) pos (by omega) (by omega) (by omega)
  have lp := low_pos (u := 2 * most * lo0 - 1) (show 2 * most * lo1 ≠ 0 by omega)
  have lgc := low_gcd (u := 2 * most * lo0 - 1) (show 2 * most * lo1 ≠ 0 by omega)
  have eu : (2 * most * lo0 - 1).fdiv (by_ (2 * most * lo0 - 1) (2 * most * lo1)) * by_ (2 * most * lo0 - 1) (2 * most * lo1) = 2 * most * lo0 - 1 := Int.fdiv_mul_cancel (by_dvd_u _ _)
  have el : (2 * most * lo1).fdiv (by_ (2 * most * lo0 - 1) (2 * most * lo1)) * by_ (2 * most * lo0 - 1) (2 * most * lo1) = 2 * most * lo1 := Int.fdiv_mul_cancel (by_dvd_l _ _)
  have t1' : SqT K H1 w1 ([(2 * most * lo0 - 1).fdiv (by_ (2 * most * lo0 - 1) (2 * most * lo1)), (2 * most * lo1).fdiv (by_ (2 * most * lo0 - 1) (2 * most * lo1))].map V.int) := SqT.of t1
  generalize (2 * most * lo0 - 1).fdiv (by_ (2 * most * lo0 - 1) (2 * most * lo1)) = u' at *
  generalize (2 * most * lo1).fdiv (by_ (2 * most * lo0 - 1) (2 * most * lo1)) = l' at *
  have gp : 0 < by_ (2 * most * lo0 - 1) (2 * most * lo1) := by
    rcases Int.lt_or_le 0 (by_ (2 * most * lo0 - 1) (2 * most * lo1)) with y | y
    · exact y
    · have := Int.mul_nonpos_of_nonneg_of_nonpos (show 0 ≤ l' by omega) y
      omega
  generalize by_ (2 * most * lo0 - 1) (2 * most * lo1) = g at *
  have hc : ∀ u l, 0 < l → cut [u', l'] u l = sg ((2 * most * lo0 - 1) * l - u * (2 * most * lo1)) := fun u l _ => by
    rw [cut_frac, ← sg_scale (x := u' * l - u * l') gp, ← eu, ← el]
    congr 1
    grind
  have nx : NumR [u', l'] u' 0 0 l' := .frac lp lgc
  refine ⟨w1, [u', l'], most, u', 0, 0, l', 0, 1000, 10 ^ 6, rfl, t1', nx, ⟨by omega, by omega, by omega⟩, by decide, by decide, by decide, by decide, m1, by omega, no_below l1 m1 hc, by omega, by decide, fun a b c d AR r2 pa pb H2 s2 ta tb tr => ?_⟩
  refine ⟨r2, rfl, _, tr, _, rfl, r2, rfl, _, tr, _, rfl, Nat.zero_le _, fun fl H3 n3 s3 t3 => ?_⟩
  have I0 : FInv lo0 lo1 hi0 hi1 most a b c d [] := FInv.start AR l1 m1 ⟨_, _, _, _, nx⟩ hc
  have s03 := s1.trans (s2.trans s3)
  have nfl : H fl = none := none_of (s1.trans s2) n3
  have b0 := AR.l0
  have d0 := AR.h0
  have dm := AR.h1
  have bl := AR.bl
  have bh := AR.bh
  have szl := size_line
  have farb : ∀ {c d : Int}, 1 ≤ d → d ≤ 9 → lo0 * d ≤ c * lo1 → far hi0 hi1 c d ≤ 400000 := fun {c d} x1 x2 x3 => by
    have w := within_12 l1 l3 (show 0 < d by omega) x3 l2
    obtain ⟨e1, e2⟩ := by_2520 x1 x2
    unfold far
    generalize 2520 / d = k at *
    have c1 := Int.mul_le_mul_of_nonneg_right w (show 0 ≤ k by omega)
    have c2 : -(12 * d) * k = -(12 * 2520) := by rw [← e1]; grind
    have c3 := Int.mul_le_mul_of_nonneg_left (show -(12 * 2520) ≤ c * k by omega) (show 0 ≤ hi1 by omega)
    omega
  have fb0 := farb AR.h0 (by omega) I0.lo
  refine ⟨fun m σ H' => ∃ (a b c d : Int) (fs : List (Int × Int)) (as : List Addr) (pa pb : Addr) (x7 : Option V), σ = [some (.ref p), some (.ref r), some (.int most), some (.ref r2), some (.ref pa), some (.ref pb), some (.ref fl), x7] ∧ Same H H' ∧ H' fl = some (.lst (as.map V.ref)) ∧ Tups K H' as fs ∧ SqT K H' pa [.int a, .int b] ∧ SqT K H' pb [.int c, .int d] ∧ FInv lo0 lo1 hi0 hi1 most a b c d fs ∧ a.natAbs ≤ 10 ^ 6 ∧ c.natAbs ≤ 10 ^ 6 ∧ m = (far hi0 hi1 c d + 1).toNat ∧ fs.length + m ≤ 500000,
    ⟨_, a, b, c, d, [], [], pa, pb, none, rfl, s03, t3, ⟨rfl, fun i b f h => by simp at h⟩, s3.seqT ta, s3.seqT tb, I0, by omega, by omega, rfl, by simp; omega⟩, ?_⟩
  rintro m σ H4 ⟨a, b, c, d, fs, as, pa, pb, x7, rfl, s4, t4, tu, ta, tb, I, ab, cb, rfl, fl5⟩
  walk_at "wp"
  have d1 := I.d1
  have dm := I.dm
  have b1' := I.b1
  have bm := I.bm
  have gcd := (det_gcd (a := c) (b := d) (c := a) (d := b) I.det).1
  have nc : NumR [c, d] c 0 0 d := .frac (by omega) gcd
  refine ⟨pb, r, [c, d], [hi0, hi1], c, 0, 0, d, hi0, 0, 0, hi1, rfl, tb, s4.seqT hr', nc, .frac h1 hg, fun x hx => by simp only [List.mem_cons, List.not_mem_nil, or_false] at hx; rcases hx with rfl | rfl <;> omega, fun x hx => by simp only [List.mem_cons, List.not_mem_nil, or_false] at hx; rcases hx with rfl | rfl <;> omega, fun H5 s5 => ⟨_, rfl, ?_⟩⟩
  rw [cmpN_frac' nc h1, cut_frac]
  refine ite2 (fun z => ?_) (fun z => ?_)
  · have z : sg (c * hi1 - hi0 * d) ≤ 0 := by simpa using z
    have hh : c * hi1 ≤ hi0 * d := by rcases sg_cases (c * hi1 - hi0 * d) with y | y | y <;> omega
    have I' := I.next (t := (most + b) / d) l1 hh rfl
    have ff := far_falls (c' := (most + b) / d * c - a) (d' := (most + b) / d * d - b) d1 (by omega) I'.d1 (by have := I'.dm; omega) h1 (by have := I'.det; omega) hh
    have t5 := s5 _ _ t4
    refine ⟨_, fun _ _ h => h, .inl ⟨rfl, _, SqL.of t5⟩, _, t5, by rw [List.length_map, tu.1]; omega, fun H6 sx t6 => ?_⟩
    have kp : ∀ a xs, SqT K H4 a xs → SqT K H6 a xs := fun _ _ h => sx.seqT t5 (s5.seqT h)
    have s6 : Same H H6 := (s4.trans s5).thenX nfl sx
    refine ⟨pa, pb, a, b, c, d, most, rfl, kp _ _ ta, kp _ _ tb, by omega, by omega, by omega, by omega, by omega, by omega, m1, by omega, fun w7 H7 n7 s7 t7 => ?_⟩
    have w1 := within_12 l1 l3 (show 0 < (most + b) / d * d - b by have := I'.d1; omega) I'.lo l2
    have w2 : (most + b) / d * c - a ≤ 12 * ((most + b) / d * d - b) + 1 := by
      have c12 := within_12' h1 h4 (show 0 < d by omega) hh
      have dt := I'.det
      have d1' := I'.d1
      generalize (most + b) / d * c - a = c' at *
      generalize (most + b) / d * d - b = d' at *
      have e1 := Int.mul_le_mul_of_nonneg_right c12 (show 0 ≤ d' by omega)
      have e2 : 12 * d * d' = 12 * d' * d := by grind
      have e3 : c' * d ≤ (12 * d' + 1) * d := by
        rw [Int.add_mul, Int.one_mul]
        omega
      exact Int.le_of_mul_le_mul_right e3 (by omega)
    have dm' := I'.dm
    have d1' := I'.d1
    refine ⟨_, ?_, c, d, _, _, fs ++ [(c, d)], as ++ [pb], pb, w7, ⟨_, rfl⟩, s6.trans s7, ?_, ?_, s7.seqT (kp _ _ tb), SqT.of t7, I', cb, by omega, rfl, ?_⟩
    · omega
    · rw [s7 _ _ t6, List.map_append]; rfl
    · exact Tups.snoc (tu.keep fun _ _ h => s7.seqT (kp _ _ h)) (s7.seqT (kp _ _ tb))
    · rw [List.length_append, List.length_singleton]
      omega
  · have z : ¬ sg (c * hi1 - hi0 * d) ≤ 0 := by simpa using z
    have hh : hi0 * d < c * hi1 := by rcases sg_cases (c * hi1 - hi0 * d) with y | y | y <;> omega
    refine ⟨_, .inl (SqL.of (s5 _ _ t4)), fun o H6 s6 t6 => ?_⟩
    exact q as fs ⟨I.mem, I.ch, fun u l x1 x2 x3 x4 x5 => I.all u l x1 x2 x3 x4 (lt_trans_frac x1 h1 (by omega) x5 hh), I.nd, by omega⟩ o H6 (s4.trans (s5.trans s6)) t6 (tu.keep fun _ _ h => (s5.trans s6).seqT h)
end
end Own



set_option Elab.async false
set_option linter.all false
set_option maxRecDepth 100000
set_option maxHeartbeats 4000000
namespace Own
open PySem L2 RM
local macro_rules | `(tactic| walk_at "wp") => `(tactic| simp only [cxOf_K, L2.start, List.map_cons, List.map_nil, List.reduceReplicate, Nat.reduceSub, Nat.reduceAdd, tSeq, tNext, tIfS, tRet, tRetN, tRaise, tDrop, tAsg, gName, gTup, gCons, gNil, tTest, tB, tOp, tUn, tVar, tC, rI0, rI, rU, rEq, rNe, scal, tAnd, tOr, tNot, tAndV, tOrV, tNotV, tIf, tChain, tCons, tNil, tCB, tTup, tLst, tTupS, tLstS, rCatTS, rCatTG, rLtT, rCatS, rInsertS, iRevT, iRevL, iRevA, rSlTG, rSlA, rIxA, rRepG, rEqLs, rExtendS, rRepS, rSlLS, rSlTS, rIn, iTup, iList, iRng1, iRng2, tComp, rIxT, rIxL, rAppendS, tCall, tCallS, tPar, tBreak, tDGet, tDIn, tDNotIn, sDPut, tDNewT, tBM, tBM0, tSl, tPart, tNoPart, CM, CD, CDN, rEqT, List.getElem?_cons_zero, List.getElem?_cons_succ, List.set_cons_zero, List.set_cons_succ, List.append_nil, List.nil_append, List.cons_append, Option.some.injEq, V.int.injEq, V.bl.injEq, V.ref.injEq, V.str.injEq, List.cons.injEq, exists_eq_left', exists_eq_left, exists_eq_right, exists_and_left, exists_and_right, exists_eq, and_true, true_and, exists_const, exists_eq_right_right, and_self, List.length_cons, List.length_nil, decide_true, decide_false, ↓reduceIte, Bool.false_eq_true, if_true, if_false, Bool.not_true, Bool.not_false])
local macro_rules | `(tactic| walk_at "splen") => `(tactic| (intro vs H Q E h; first | (obtain ⟨_, e, _⟩ := h; subst e; rfl) | (obtain ⟨_, _, e, _⟩ := h; subst e; rfl) | (obtain ⟨_, _, _, e, _⟩ := h; subst e; rfl) | (obtain ⟨_, _, _, _, e, _⟩ := h; subst e; rfl) | (obtain ⟨_, _, _, _, _, e, _⟩ := h; subst e; rfl) | (obtain ⟨_, _, _, _, _, _, e, _⟩ := h; subst e; rfl) | (obtain ⟨_, _, _, _, _, _, _, e, _⟩ := h; subst e; rfl) | (obtain ⟨_, _, _, _, _, _, _, _, e, _⟩ := h; subst e; rfl) | (obtain ⟨_, _, _, _, _, _, _, _, _, e, _⟩ := h; subst e; rfl) | (obtain ⟨_, _, _, _, _, _, _, _, _, _, e, _⟩ := h; subst e; rfl) | (obtain ⟨_, _, _, _, _, _, _, _, _, _, _, e, _⟩ := h; subst e; rfl) | (obtain ⟨_, _, _, _, _, _, _, _, _, _, _, _, e, _⟩ := h; subst e; rfl) | (obtain ⟨_, _, _, _, _, _, _, _, _, _, _, _, _, e, _⟩ := h; subst e; rfl) | (obtain ⟨_, _, _, _, _, _, _, _, _, _, _, _, _, _, e, _⟩ := h; subst e; rfl) | (obtain ⟨_, _, _, _, _, _, _, _, _, _, _, _, _, _, _, e, _⟩ := h; subst e; rfl) | (obtain ⟨_, _, _, _, _, _, _, _, _, _, _, _, _, _, _, _, e, _⟩ := h; subst e; rfl) | (obtain ⟨_, _, _, _, _, _, _, _, _, _, _, _, _, _, _, _, _, e, _⟩ := h; subst e; rfl) | (obtain ⟨_, _, _, _, _, _, _, _, _, _, _, _, _, _, _, _, _, _, e, _⟩ := h; subst e; rfl) | (obtain ⟨_, _, _, _, _, _, _, _, _, _, _, _, _, _, _, _, _, _, _, e, _⟩ := h; subst e; rfl)))
section
variable {P : Program} {w : World} {K : PySem.W.Frag} {mg : Str → Option Value} {base : Heap} {C_RowError C_NoNumber : Addr}
def sp_law (K : PySem.W.Frag) : Sp := fun vs H Q _ => ∃ (a : Addr) (ns : List Int), vs = [.ref a] ∧ SqL K H a (ns.map V.int) ∧ ns.length ≤ 63 ∧ ∀ H', Q (.bl true) H'
structure Fr12 (u l : Int) : Prop where
  l0 : 0 < l
  l1 : l ≤ 12
  u0 : -(12) ≤ u
  u1 : u ≤ 12
  g : Int.gcd u l = 1
theorem Fr12.sm {u l : Int} (h : Fr12 u l) : Sm u ∧ Sm l := by
  have a := h.l0
  have b := h.l1
  have c := h.u0
  have d := h.u1
  exact ⟨⟨by omega, by omega⟩, ⟨by omega, by omega⟩⟩
def MidB (K : PySem.W.Frag) (H : Hp) (a : Addr) : St → Hp → Prop := fun σ H' => ∃ (p r : Addr) (lo0 lo1 hi0 hi1 : Int), σ = [some (.ref a), some (.ref p), some (.ref r), none, none, none, none, none, none, none] ∧ Same H H' ∧ SqT K H' p [.int lo0, .int lo1] ∧ SqT K H' r [.int hi0, .int hi1] ∧ Fr12 lo0 lo1 ∧ Fr12 hi0 hi1 ∧ lo0 * hi1 ≤ hi0 * lo1
def MidC (K : PySem.W.Frag) : St → Hp → Prop := fun σ H' => ∃ (a p r o : Addr) (lo0 lo1 hi0 hi1 most : Int) (as : List Addr) (fs : List (Int × Int)) (x5 x6 : Option V), σ = [some (.ref a), some (.ref p), some (.ref r), some (.int most), some (.ref o), x5, x6, none, none, none] ∧ SqT K H' p [.int lo0, .int lo1] ∧ SqT K H' r [.int hi0, .int hi1] ∧ Fr12 lo0 lo1 ∧ Fr12 hi0 hi1 ∧ 1 ≤ most ∧ most ≤ 9 ∧ FDone lo0 lo1 hi0 hi1 most fs ∧ SqT K H' o (as.map V.ref) ∧ as.length = fs.length
/-- what is to be counted -/
def Gd (lo0 lo1 hi0 hi1 : Int) (q : Int × Int) : Prop := 0 < q.2 ∧ Int.gcd q.1 q.2 = 1 ∧ lo0 * q.2 ≤ q.1 * lo1 ∧ q.1 * hi1 ≤ hi0 * q.2
theorem low_one {u l : Int} (h : Int.gcd u l = 1) (hl : 0 < l) : low u l = [V.int u, V.int l] := by
  have e : by_ u l = 1 := by
    unfold by_
    rw [if_neg (by omega), h]; rfl
  unfold low
  rw [e, Int.fdiv_one, Int.fdiv_one]
theorem low_same {u l : Int} (hl : 0 < l) (h : l.fdiv (by_ u l) = l) : Int.gcd u l = 1 := by
  have e : by_ u l = ((Int.gcd u l : Nat) : Int) := if_neg (by omega)
  have el : l.fdiv (by_ u l) * by_ u l = l := Int.fdiv_mul_cancel (by_dvd_l u l)
  rw [h, e] at el
  have : ((Int.gcd u l : Nat) : Int) = 1 := by
    have : l * ((Int.gcd u l : Nat) : Int) = l * 1 := by omega
    exact Int.eq_of_mul_eq_mul_left (by omega) this
  omega
theorem mem_more {φ : Int × Int → Prop} {G : List (Int × Int)} {u l v : Int} (hv : v = u + 1) (mem : ∀ q, q ∈ G ↔ φ q ∧ (q.2 < l ∨ q.2 = l ∧ q.1 < u)) (h : φ (u, l)) (nd : G.Nodup) : ((u, l) :: G).Nodup ∧ ∀ q, q ∈ (u, l) :: G ↔ φ q ∧ (q.2 < l ∨ q.2 = l ∧ q.1 < v) := by
  refine ⟨List.nodup_cons.mpr ⟨fun hm => ?_, nd⟩, fun q => ?_⟩
  · have := ((mem _).mp hm).2
    simp only at this
    omega
  · rw [List.mem_cons]
    constructor
    · rintro (rfl | hm)
      · exact ⟨h, .inr ⟨rfl, by simp only; omega⟩⟩
      · have := (mem q).mp hm
        exact ⟨this.1, by have := this.2; omega⟩
    · rintro ⟨h1, h2⟩
      by_cases e : q = (u, l)
      · exact .inl e
      · refine .inr ((mem q).mpr ⟨h1, ?_⟩)
        rcases h2 with h2 | ⟨h2, h3⟩
        · exact .inl h2
        · refine .inr ⟨h2, ?_⟩
          rcases Int.lt_or_le q.1 u with y | y
          · exact y
          · exact absurd (Prod.ext (show q.1 = u by omega) h2) e
theorem mem_still {φ : Int × Int → Prop} {G : List (Int × Int)} {u l v : Int} (hv : v = u + 1) (mem : ∀ q, q ∈ G ↔ φ q ∧ (q.2 < l ∨ q.2 = l ∧ q.1 < u)) (h : ¬ φ (u, l)) : ∀ q, q ∈ G ↔ φ q ∧ (q.2 < l ∨ q.2 = l ∧ q.1 < v) := fun q => by
  rw [mem q]
  refine and_congr_right fun hq => ⟨fun z => by omega, fun z => ?_⟩
  rcases z with z | ⟨z1, z2⟩
  · exact .inl z
  · refine .inr ⟨z1, ?_⟩
    rcases Int.lt_or_le q.1 u with y | y
    · exact y
    · have e : q = (u, l) := Prod.ext (show q.1 = u by omega) z1
      rw [e] at hq
      exact absurd hq h
theorem sc_law : FnScope ["_law_script", "_law_low", "_law_high", "_law_most", "_law_found", "_law_k", "_law_one", "_law_many", "_law_lower", "_law_upper"] ["_law_script"] (defScope s_law) := ⟨rfl, rfl, rfl, by decide +kernel, rfl, by decide +kernel, by decide +kernel⟩
theorem ok_law {f : Addr} {fd : FuncData} (F : Fun K "law" "law" s_law f fd) (T : Txt K mg C_RowError C_NoNumber) (D_law_fraction : Def P w K mg base CX0 3 "_law_fraction" ["_law_cell_here", "_law_other", "_law_wide"] sp_fraction) (D_law_less : Def P w K mg base CX0 1 "_law_less" ["_law_one", "_law_other"] (sp_less K)) (D_between : Def P w K mg base (CXE P w) 7 "between" ["low", "high", "most"] (sp_between K)) (D_law_cell : Def P w K mg base CX0 1 "_law_cell" ["_law_script", "_law_k"] (sp_cell K)) (D_law_lowest : Def P w K mg base CX0 2 "_law_lowest" ["_law_upper", "_law_lower"] sp_llow) (D_law_whole : Def P w K mg base CX0 1 "_law_whole" ["_law_found"] sp_whole) : FnOk P w K mg base CX0 8 f fd ["_law_script"] (sp_law K) := by
  refine F.ok sc_law (by walk_at "splen") (fun cdv A outer s H vs Q E hr h => ?_)
  obtain ⟨a, ns, rfl, hS, h63, q⟩ := h
  refine ⟨_, (pss_cons (ps_set (i := 1) sc_law.nd rfl (Or.inl rfl) (pe_callD D_law_fraction hr rfl pass0 (pa_cons (pe_callD D_law_cell hr rfl pass0 (pa_cons (pv 0) (pa_cons pe_int pa_nil))) (pa_cons (pe_callD D_law_cell hr rfl pass0 (pa_cons (pv 0) (pa_cons pe_int pa_nil))) (pa_cons pe_int pa_nil)))))
    (pss_cons (ps_set (i := 2) sc_law.nd rfl (Or.inl rfl) (pe_callD D_law_fraction hr rfl pass0 (pa_cons (pe_callD D_law_cell hr rfl pass0 (pa_cons (pv 0) (pa_cons pe_int pa_nil))) (pa_cons (pe_callD D_law_cell hr rfl pass0 (pa_cons (pv 0) (pa_cons pe_int pa_nil))) (pa_cons pe_int pa_nil)))))
    (pss_cut (MidB K H a) (ps_if (pt_val (pe_callD D_law_less hr rfl pass0 (pa_cons (pv 2) (pa_cons (pv 1) pa_nil)))) (pss_one (ps_par (i := 1) (j := 2) rfl sc_law.nd rfl rfl (by decide) rfl rfl (pa_cons (pv 2) (pa_cons (pv 1) pa_nil)) (by with_unfolding_all rfl))) pss_nil)
    (pss_cons (ps_set (i := 3) sc_law.nd rfl (Or.inl rfl) (pe_op op_add pe_int (pe_op op_mod (pe_callD D_law_cell hr rfl pass0 (pa_cons (pv 0) (pa_cons pe_int pa_nil))) pe_int)))
    (pss_cons (ps_set (i := 4) sc_law.nd rfl (Or.inl rfl) (pe_callD D_between hr rfl passE (pa_cons (pv 1) (pa_cons (pv 2) (pa_cons (pv 3) pa_nil)))))
    (pss_cons (ps_if (pt_not (pt_val (pe_callB call_isi rfl T.n_isinstance (by decide +kernel) (pa_cons (pv 4) (pa_cons (pe_bltn (v := .ty "tuple") (u := .type "tuple") rfl T.n_tuple (by decide +kernel) rfl) pa_nil))))) (pss_one (ps_ret pe_bl)) pss_nil)
    (pss_cons (ps_for PassesOwn.never rfl (pi_enumT rfl T.n_enumerate (pa_cons (pv 4) pa_nil)) (pg_tup (n := 2) rfl (pgs_cons (pg_name (i := 5) sc_law.nd rfl (Or.inl rfl)) (pgs_cons (pg_name (i := 6) sc_law.nd rfl (Or.inl rfl)) pgs_nil))) (pss_cons (ps_if (PW.pt (pw_or (pt_not (pt_val (pe_callB call_isi rfl T.n_isinstance (by decide +kernel) (pa_cons (pv 6) (pa_cons (pe_bltn (v := .ty "tuple") (u := .type "tuple") rfl T.n_tuple (by decide +kernel) rfl) pa_nil))))) (pw_or (pt_cmpR op_ne (pe_callB call_len_seq rfl T.n_len (by decide +kernel) (pa_cons (pv 6) pa_nil)) pe_int (nomark _)) (pw_or (pt_not (pt_val (pe_callD D_law_whole hr rfl pass0 (pa_cons (pe_ix ix_tup (pv 6) pe_int (fun _ _ => rfl)) pa_nil)))) (pw_or1 (pt_not (pt_chain op_le op_le pe_int (pe_ix ix_tup (pv 6) pe_int (fun _ _ => rfl)) (pv 3)))))))) (pss_one (ps_ret pe_bl)) pss_nil)
    (pss_cons (ps_if (PW.pt (pw_or (pt_cmpR (op_neT (hu_of hr)) (pe_callD D_law_lowest hr rfl pass0 (pa_cons (pe_ix ix_tup (pv 6) pe_int (fun _ _ => rfl)) (pa_cons (pe_ix ix_tup (pv 6) pe_int (fun _ _ => rfl)) pa_nil))) (pv 6) (nomark _)) (pw_or (pt_val (pe_callD D_law_less hr rfl pass0 (pa_cons (pv 6) (pa_cons (pv 1) pa_nil)))) (pw_or1 (pt_val (pe_callD D_law_less hr rfl pass0 (pa_cons (pv 2) (pa_cons (pv 6) pa_nil)))))))) (pss_one (ps_ret pe_bl)) pss_nil)
    (pss_one (ps_if (PW.pt (pw_and (pt_cmpR op_gt (pv 5) pe_int (nomark _)) (pw_and1 (pt_cmpR op_ne (pe_op op_sub (pe_op op_mulB (pe_ix ix_tup (pv 6) pe_int (fun _ _ => rfl)) (pe_ix ix_tup (pe_ix ix_tup (pv 4) (pe_op op_sub (pv 5) pe_int) (fun _ _ => rfl)) pe_int (fun _ _ => rfl))) (pe_op op_mulB (pe_ix ix_tup (pe_ix ix_tup (pv 4) (pe_op op_sub (pv 5) pe_int) (fun _ _ => rfl)) pe_int (fun _ _ => rfl)) (pe_ix ix_tup (pv 6) pe_int (fun _ _ => rfl)))) pe_int (nomark _))))) (pss_one (ps_ret pe_bl)) pss_nil)))))
    (pss_cut (MidC K) (ps_if (PW.pt (pw_and (pt_val (pe_callD D_law_less hr rfl pass0 (pa_cons (pv 1) (pa_cons (pv 2) pa_nil)))) (pw_and1 (pt_cmpR (op_neT (hu_of hr)) (pe_callD D_between hr rfl passE (pa_cons (pv 2) (pa_cons (pv 1) (pa_cons (pv 3) pa_nil)))) (pe_tupS pa_nil) (nomark _))))) (pss_one (ps_ret pe_bl)) pss_nil)
    (pss_cons (ps_set (i := 7) sc_law.nd rfl (Or.inl rfl) pe_int)
    (pss_cons (ps_for PassesOwn.never rfl (pi_range2 rfl T.n_range (pa_cons pe_int (pa_cons (pe_op op_add (pv 3) pe_int) pa_nil))) (pg_name (i := 8) sc_law.nd rfl (Or.inl rfl)) (pss_one (ps_for PassesOwn.never rfl (pi_range2 rfl T.n_range (pa_cons (pe_op op_sub pe_int (pe_op op_mulB pe_int (pv 8))) (pa_cons (pe_op op_add (pe_op op_mulB pe_int (pv 8)) pe_int) pa_nil))) (pg_name (i := 9) sc_law.nd rfl (Or.inl rfl)) (pss_cons (ps_set (i := 6) sc_law.nd rfl (Or.inl rfl) (pe_callD D_law_lowest hr rfl pass0 (pa_cons (pv 9) (pa_cons (pv 8) pa_nil))))
    (pss_one (ps_if (PW.pt (pw_and (pt_cmpR op_eq (pe_ix ix_tup (pv 6) pe_int (fun _ _ => rfl)) (pv 8) (nomark _)) (pw_and (pt_not (pt_val (pe_callD D_law_less hr rfl pass0 (pa_cons (pv 6) (pa_cons (pv 1) pa_nil))))) (pw_and1 (pt_not (pt_val (pe_callD D_law_less hr rfl pass0 (pa_cons (pv 2) (pa_cons (pv 6) pa_nil))))))))) (pss_one (ps_set (i := 7) sc_law.nd rfl (Or.inl rfl) (pe_op op_add (pv 7) pe_int))) pss_nil))))))
    (pss_one (ps_ret (pe_cmpR op_eq (pv 7) (pe_callB call_len_seq rfl T.n_len (by decide +kernel) (pa_cons (pv 4) pa_nil)) (nomark _)))))))))))))), ?_⟩
  walk_at "wp"
  refine ⟨a, ns, 0, rfl, hS, by decide, a, ns, 1, rfl, hS, by decide, _, _, _, rfl, by decide, by decide, fun u1 l1 a1 a2 a3 a4 a5 p1 H1 n1 s1 t1 => ?_⟩
  have hS1 := s1.seq hS
  refine ⟨a, ns, 2, rfl, hS1, by decide, a, ns, 3, rfl, hS1, by decide, _, _, _, rfl, by decide, by decide, fun u2 l2 b1 b2 b3 b4 b5 p2 H2 n2 s2 t2 => ?_⟩
  have F1 : Fr12 u1 l1 := ⟨a1, a2, a3, a4, a5⟩
  have F2 : Fr12 u2 l2 := ⟨b1, b2, b3, b4, b5⟩
  have T1 : SqT K H2 p1 [.int u1, .int l1] := SqT.of (s2 _ _ t1)
  have T2 : SqT K H2 p2 [.int u2, .int l2] := SqT.of t2
  refine ⟨?_, ?_⟩
  · walk_at "wp"
    refine ⟨p2, p1, u2, l2, u1, l1, rfl, T2, T1, F2.sm.1, F2.sm.2, F1.sm.1, F1.sm.2, _, rfl, ite2 (fun z => ?_) (fun z => ?_)⟩
    · have z : u2 * l1 < u1 * l2 := by simpa using z
      exact ⟨_, _, ⟨rfl, rfl⟩, p2, p1, u2, l2, u1, l1, rfl, s1.trans s2, T2, T1, F2, F1, by omega⟩
    · have z : ¬ u2 * l1 < u1 * l2 := by simpa using z
      exact ⟨p1, p2, u1, l1, u2, l2, rfl, s1.trans s2, T1, T2, F1, F2, by omega⟩
  rintro σ2 H2 ⟨p, r, lo0, lo1, hi0, hi1, rfl, s2, tp, tr, FL, FH, le⟩
  walk_at "wp"
  have smL := FL.sm
  have smH := FH.sm
  refine ⟨a, ns, 4, rfl, s2.seq hS, by decide, _, rfl, by decide, ?_⟩
  have c0 := Int.emod_nonneg (ns.getD (Int.toNat 4) 0) (show (9 : Int) ≠ 0 by decide)
  have c1 := Int.emod_lt_of_pos (ns.getD (Int.toNat 4) 0) (show (0 : Int) < 9 by decide)
  obtain ⟨most, hm⟩ : ∃ most, 1 + ns.getD (Int.toNat 4) 0 % 9 = most := ⟨_, rfl⟩
  rw [hm]
  refine ⟨p, r, lo0, lo1, hi0, hi1, most, rfl, tp, tr, FL.l0, FL.l1, FL.u0, FL.u1, FL.g, FH.l0, FH.l1, FH.u0, FH.u1, FH.g, by omega, by omega, fun as fs FD o H3 s3 to tu => ?_⟩
  refine ⟨_, _, ⟨rfl, rfl⟩, _, _, .ty _, .tup to, true, kt_tt, iteF ?_⟩
  refine tFor_rd fun R hR => ?_
  unfold iEnT
  walk_at "wp"
  refine ⟨_, to, hR _ _ ?_⟩
  clear hR
  refine for_enumT (fun i σ H' => ∃ x5 x6, σ = [some (.ref a), some (.ref p), some (.ref r), some (.int most), some (.ref o), x5, x6, none, none, none] ∧ Same H3 H') ⟨_, _, rfl, Same.refl _⟩ (fun i σ H' hi z => ?_) (fun i x p' σ H' hx z hn => ?_) (fun σ H' z => ?_)
  · obtain ⟨x5, x6, rfl, s'⟩ := z
    exact s'.seqT to
  · obtain ⟨x5, x6, rfl, s'⟩ := z
    walk_at "wp"
    rw [List.getElem?_map] at hx
    obtain ⟨b, hb, rfl⟩ := Option.map_eq_some_iff.mp hx
    have ib : i < as.length := (List.getElem?_eq_some_iff.mp hb).1
    obtain ⟨⟨f0, f1⟩, hf⟩ : ∃ f, fs[i]? = some f := ⟨_, List.getElem?_eq_getElem (by rw [← tu.1]; exact ib)⟩
    have Tb := tu.2 i b _ hb hf
    have tq : upd H' p' (.tup [.int (i : Int), .ref b]) p' = some (.tup [.int (i : Int), .ref b]) := upd_same
    have sU : Same H3 (upd H' p' (.tup [.int (i : Int), .ref b])) := s'.trans (same_new hn _)
    generalize upd H' p' (.tup [.int (i : Int), .ref b]) = HU at *
    have TB : SqT K HU b [.int f0, .int f1] := sU.seqT Tb
    have tp' := (s3.trans sU).seqT tp
    have tr' := (s3.trans sU).seqT tr
    obtain ⟨m1, m2, m3, m4, m5⟩ := FD.mem _ (List.mem_of_getElem? hf)
    simp only at m1 m2 m3 m4 m5
    have w1 := within_12 FL.l0 FL.u0 m1 m4 FL.l1
    have w2 := within_12' FH.l0 FH.u1 m1 m5
    have sf0 : Sm f0 := ⟨by omega, by omega⟩
    have sf1 : Sm f1 := ⟨by omega, by omega⟩
    have fl : Fit f1 := ⟨by omega, by omega⟩
    refine ⟨_, SqT.of tq, rfl, _, _, rfl, _, _, rfl, rfl, _, _, ⟨rfl, rfl⟩, _, _, .ty _, .tup TB, true, kt_tt, iteF ⟨b, rfl, _, .inr TB, iteF ⟨b, rfl, _, TB, _, rfl, _, true, rfl, rfl, _, rfl, iteF ?_⟩⟩⟩
    refine ⟨b, rfl, _, TB, _, rfl, _, rfl, ifT (decide_eq_true (show (1 : Int) ≤ f1 by omega)) ⟨_, rfl, ifF (by simpa using m2) ⟨b, rfl, _, TB, _, rfl, b, rfl, _, TB, _, rfl, f0, f1, rfl, by omega, fl, fun w1 H5 n5 s5 t5 => ?_⟩⟩⟩
    rw [low_one m3 m1] at t5
    have TB5 := s5.seqT TB
    refine ⟨w1, rfl, b, rfl, _, SqT.of t5, _, TB5, flat_int [_, _], flat_int [_, _], ?_⟩
    have eqq : eqL [V.int f0, V.int f1] [V.int f0, V.int f1] = true := by
      rw [show [V.int f0, V.int f1] = [f0, f1].map V.int from rfl, eqL_int]
      exact decide_eq_true rfl
    rw [eqq]
    refine iteF ⟨b, p, f0, f1, lo0, lo1, rfl, TB5, s5.seqT tp', sf0, sf1, smL.1, smL.2, _, rfl, ?_⟩
    rw [decide_eq_false (show ¬ f0 * lo1 < lo0 * f1 by omega)]
    refine iteF ⟨r, b, hi0, hi1, f0, f1, rfl, s5.seqT tr', TB5, smH.1, smH.2, sf0, sf1, _, rfl, ?_⟩
    rw [decide_eq_false (show ¬ hi0 * f1 < f0 * hi1 by omega)]
    refine iteF ⟨_, rfl, ite2 (fun z => ?_) (fun z => ⟨⟨_, rfl⟩, sU.trans s5⟩)⟩
    have z : (0 : Int) < (i : Int) := by simpa using z
    obtain ⟨j, rfl⟩ : ∃ j, i = j + 1 := ⟨i - 1, by omega⟩
    obtain ⟨b', hb'⟩ : ∃ b', as[j]? = some b' := ⟨_, List.getElem?_eq_getElem (by omega)⟩
    obtain ⟨⟨g0, g1⟩, hg⟩ : ∃ g, fs[j]? = some g := ⟨_, List.getElem?_eq_getElem (by have := tu.1; omega)⟩
    have Tb' : SqT K H3 b' [.int g0, .int g1] := tu.2 j b' _ hb' hg
    have TB' : SqT K H5 b' [.int g0, .int g1] := (sU.trans s5).seqT Tb'
    have to5 := (sU.trans s5).seqT to
    have at_ : atI (as.map V.ref) (((j + 1 : Nat) : Int) - 1) = some (.ref b') := by
      rw [show ((j + 1 : Nat) : Int) - 1 = (j : Int) by omega]
      exact atI_nat (by rw [List.getElem?_map, hb']; rfl)
    have ch := FD.ch j _ _ hg hf
    simp only at ch
    obtain ⟨k1, k2, k3, k4, k5⟩ := FD.mem _ (List.mem_of_getElem? hg)
    simp only at k1 k2 k3 k4 k5
    have w3 := within_12 FL.l0 FL.u0 k1 k4 FL.l1
    have w4 := within_12' FH.l0 FH.u1 k1 k5
    have sg0 : Sm g0 := ⟨by omega, by omega⟩
    refine ⟨b, rfl, _, TB5, _, rfl, _, rfl, _, to5, _, at_, b', rfl, _, TB', _, rfl, _, rfl, _, rfl, .inl (.inl sf0), _, rfl, _, to5, _, at_, b', rfl, _, TB', _, rfl, b, rfl, _, TB5, _, rfl, _, rfl, _, rfl, .inl (.inl sg0), ?_⟩
    exact ifF (by simp [ch]) ⟨⟨_, rfl⟩, sU.trans s5⟩
  · obtain ⟨x5, x6, rfl, s'⟩ := z
    have tp' := (s3.trans s').seqT tp
    have tr' := (s3.trans s').seqT tr
    refine ⟨?_, ?_⟩
    · walk_at "wp"
      refine ⟨p, r, lo0, lo1, hi0, hi1, rfl, tp', tr', smL.1, smL.2, smH.1, smH.2, _, rfl, ite2 (fun z => ?_) (fun z => ⟨a, p, r, o, lo0, lo1, hi0, hi1, most, as, fs, x5, x6, rfl, tp', tr', FL, FH, by omega, by omega, FD, s'.seqT to, tu.1⟩)⟩
      have z : lo0 * hi1 < hi0 * lo1 := by simpa using z
      refine ⟨r, p, hi0, hi1, lo0, lo1, most, rfl, tr', tp', FH.l0, FH.l1, FH.u0, FH.u1, FH.g, FL.l0, FL.l1, FL.u0, FL.u1, FL.g, by omega, by omega, fun as2 fs2 FD2 o2 H5 s5 to2 tu2 => ?_⟩
      have e2 : fs2 = [] := List.eq_nil_iff_forall_not_mem.mpr fun q hq => by
        obtain ⟨m1, m2, m3, m4, m5⟩ := FD2.mem q hq
        have := lt_trans_frac m1 FL.l0 FH.l0 m5 z
        omega
      subst e2
      have e3 : as2 = [] := List.eq_nil_of_length_eq_zero tu2.1
      subst e3
      refine ⟨Nat.zero_le _, fun w2 H6 n6 s6 t6 => ⟨_, rfl, _, rfl, _, s6.seqT to2, _, SqT.of t6, rfl, rfl, ifF (by decide) ?_⟩⟩
      have s36 := s'.trans (s5.trans s6)
      exact ⟨a, p, r, o, lo0, lo1, hi0, hi1, most, as, fs, x5, x6, rfl, (s3.trans s36).seqT tp, (s3.trans s36).seqT tr, FL, FH, by omega, by omega, FD, s36.seqT to, tu.1⟩
    clear tp tr to tu FD s3 s2 s1 le hm c0 c1 smL smH FL FH F1 F2
    rintro σ5 H5 ⟨a, p, r, o, lo0, lo1, hi0, hi1, most, as, fs, x5, x6, rfl, tp, tr, FL, FH, mo1, mo9, FD, to, len⟩
    walk_at "wp"
    have smL := FL.sm
    have smH := FH.sm
    refine tFor_rd fun R hR => ?_
    walk_at "wp"
    refine ⟨1, most + 1, ⟨rfl, rfl⟩, ⟨by decide, by decide, by omega, by omega⟩, hR _ _ ?_⟩
    clear hR
    refine for_range (n := (most + 1 - 1).toNat) (lo := 1) (fun i σ H' => ∃ (x6 x8 x9 : Option V) (G : List (Int × Int)), σ = [some (.ref a), some (.ref p), some (.ref r), some (.int most), some (.ref o), x5, x6, some (.int (G.length : Int)), x8, x9] ∧ Same H5 H' ∧ G.Nodup ∧ ∀ q, q ∈ G ↔ Gd lo0 lo1 hi0 hi1 q ∧ q.2 < 1 + (i : Int)) ?_ (fun i σ H' hi z => ?_) (fun σ H' z => ?_)
    · exact ⟨_, _, _, [], rfl, Same.refl _, List.nodup_nil, fun q => ⟨fun h => (by cases h), fun h => (by have h1 := h.1.1; have h2 := h.2; omega)⟩⟩
    · obtain ⟨x6, x8, x9, G, rfl, s', nd, mem⟩ := z
      walk_at "wp"
      obtain ⟨lw, hlw⟩ : ∃ lw, (1 : Int) + (i : Int) = lw := ⟨_, rfl⟩
      rw [hlw] at mem ⊢
      have lw1 : 1 ≤ lw := by omega
      have lwm : lw ≤ most := by omega
      have flw : Fit lw := ⟨by omega, by omega⟩
      refine tFor_rd fun R hR => ?_
      walk_at "wp"
      have c12 : CMul 12 lw ∨ Fit 12 ∧ Fit lw := .inl (.inl ⟨by decide, by decide⟩)
      refine ⟨c12, c12, _, _, ⟨rfl, rfl⟩, ⟨by omega, by omega, by omega, by omega⟩, hR _ _ ?_⟩
      clear hR
      have bd : ∀ q, Gd lo0 lo1 hi0 hi1 q → -(12 * q.2) ≤ q.1 ∧ q.1 ≤ 12 * q.2 := fun q g => ⟨within_12 FL.l0 FL.u0 g.1 g.2.2.1 FL.l1, within_12' FH.l0 FH.u1 g.1 g.2.2.2⟩
      refine for_range (n := (12 * lw + 1 - (0 - 12 * lw)).toNat) (lo := 0 - 12 * lw) (fun j σ H' => ∃ (x6 x9 : Option V) (G : List (Int × Int)), σ = [some (.ref a), some (.ref p), some (.ref r), some (.int most), some (.ref o), x5, x6, some (.int (G.length : Int)), some (.int lw), x9] ∧ Same H5 H' ∧ G.Nodup ∧ ∀ q, q ∈ G ↔ Gd lo0 lo1 hi0 hi1 q ∧ (q.2 < lw ∨ q.2 = lw ∧ q.1 < 0 - 12 * lw + (j : Int))) ?_ (fun j σ H' hj z => ?_) (fun σ H' z => ?_)
      · refine ⟨_, _, G, rfl, s', nd, fun q => (mem q).trans ⟨fun h => ⟨h.1, .inl h.2⟩, fun h => ⟨h.1, ?_⟩⟩⟩
        have := bd q h.1
        have := h.2
        omega
      · obtain ⟨x6, x9, G, rfl, s', nd, mem⟩ := z
        walk_at "wp"
        obtain ⟨uu, huu⟩ : ∃ uu, 0 - 12 * lw + (j : Int) = uu := ⟨_, rfl⟩
        rw [huu] at mem ⊢
        have su : Sm uu := ⟨by omega, by omega⟩
        have slw : Sm lw := ⟨by omega, by omega⟩
        refine ⟨uu, lw, rfl, by omega, flw, fun w1 H6 n6 s6 t6 => ?_⟩
        have s56 := s'.trans s6
        have hv : 0 - 12 * lw + ((j + 1 : Nat) : Int) = uu + 1 := by omega
        by_cases e : Int.gcd uu lw = 1
        · rw [low_one e (by omega)] at t6
          have T6 : SqT K H6 w1 [.int uu, .int lw] := SqT.of t6
          refine ⟨w1, rfl, _, T6, _, rfl, rfl, ifT (decide_eq_true rfl) ⟨w1, p, uu, lw, lo0, lo1, rfl, T6, s56.seqT tp, su, slw, smL.1, smL.2, _, rfl, ite2 (fun z => ?_) (fun z => ?_)⟩⟩
          · have z : ¬ uu * lo1 < lo0 * lw := by simpa using z
            refine ⟨r, w1, hi0, hi1, uu, lw, rfl, s56.seqT tr, T6, smH.1, smH.2, su, slw, _, rfl, ite2 (fun y => ?_) (fun y => ?_)⟩
            · have y : ¬ hi0 * lw < uu * hi1 := by simpa using y
              have g : Gd lo0 lo1 hi0 hi1 (uu, lw) := ⟨by show 0 < lw; omega, e, by show lo0 * lw ≤ uu * lo1; omega, by show uu * hi1 ≤ hi0 * lw; omega⟩
              obtain ⟨nd', mem'⟩ := mem_more hv mem g nd
              exact ⟨_, _, (uu, lw) :: G, ⟨rfl, by rw [List.length_cons]; omega, rfl⟩, s56, nd', mem'⟩
            · have y : hi0 * lw < uu * hi1 := by simpa using y
              exact ⟨_, _, G, ⟨rfl, rfl, rfl⟩, s56, nd, mem_still hv mem fun g => by have : uu * hi1 ≤ hi0 * lw := g.2.2.2; omega⟩
          · have z : uu * lo1 < lo0 * lw := by simpa using z
            exact ⟨_, _, G, ⟨rfl, rfl, rfl⟩, s56, nd, mem_still hv mem fun g => by have : lo0 * lw ≤ uu * lo1 := g.2.2.1; omega⟩
        · have T6 : SqT K H6 w1 [.int (uu.fdiv (by_ uu lw)), .int (lw.fdiv (by_ uu lw))] := SqT.of t6
          refine ⟨w1, rfl, _, T6, _, rfl, rfl, ifF (fun h => e (low_same (by omega) (V.int.inj (of_decide_eq_true h)))) ?_⟩
          exact ⟨_, _, G, ⟨rfl, rfl, rfl⟩, s56, nd, mem_still hv mem fun g => e g.2.1⟩
      · obtain ⟨x6, x9, G, rfl, s', nd, mem⟩ := z
        walk_at "wp"
        refine ⟨_, _, _, G, ⟨rfl, rfl, rfl, rfl⟩, s', nd, fun q => (mem q).trans ⟨fun h => ⟨h.1, ?_⟩, fun h => ⟨h.1, ?_⟩⟩⟩
        · have := h.2
          omega
        · have := bd q h.1
          have := h.2
          omega
    · obtain ⟨x6, x8, x9, G, rfl, s', nd, mem⟩ := z
      walk_at "wp"
      refine ⟨_, .inr (s'.seqT to), ?_⟩
      have e : G.length = fs.length := len_eq nd FD.nd fun q => (mem q).trans ⟨fun h => ?_, fun h => ?_⟩
      · rw [decide_eq_true (show (G.length : Int) = ((as.map V.ref).length : Int) by rw [List.length_map, len, e])]
        exact q _
      · exact FD.all q.1 q.2 h.1.1 (by have := h.2; omega) h.1.2.1 h.1.2.2.1 h.1.2.2.2
      · obtain ⟨k1, k2, k3, k4, k5⟩ := FD.mem q h
        exact ⟨⟨k1, k3, k4, k5⟩, by omega⟩
end
/-! ### the program's top -/
theorem all_mk {l : PySem.W.OpenLaw} {w : World} {K : PySem.W.Frag} {h : Heap} {mg : Str → Option Value} {fa C_NoNumber C_RowError f0 f1 f2 f3 f4 f5 f6 f7 f8 f9 f10 f11 f12 f13 f14 f15 f16 f17 f18 f19 f20 f21 f22 f23 f24 f25 f26 f27 : Addr} {od0 an0 od1 an1 od2 an2 od3 an3 od4 an4 od5 an5 od6 an6 od7 an7 od8 an8 od9 an9 od10 an10 od11 an11 od12 an12 od13 an13 od14 an14 od15 an15 od16 an16 od17 an17 od18 an18 od19 an19 od20 an20 od21 an21 od22 an22 od23 an23 od24 an24 od25 an25 od26 an26 od27 an27 : Option Addr} {sl0 sl1 sl2 sl3 sl4 sl5 sl6 sl7 sl8 sl9 sl10 sl11 sl12 sl13 sl14 sl15 sl16 sl17 sl18 sl19 sl20 sl21 sl22 sl23 sl24 sl25 sl26 sl27 : Array (Option Value)} {oc0 kV0 dc0 pm0 cd0 ct0 oc1 kV1 dc1 pm1 cd1 ct1 oc2 kV2 dc2 pm2 cd2 ct2 oc3 kV3 dc3 pm3 cd3 ct3 oc4 kV4 dc4 pm4 cd4 ct4 oc5 kV5 dc5 pm5 cd5 ct5 oc6 kV6 dc6 pm6 cd6 ct6 oc7 kV7 dc7 pm7 cd7 ct7 oc8 kV8 dc8 pm8 cd8 ct8 oc9 kV9 dc9 pm9 cd9 ct9 oc10 kV10 dc10 pm10 cd10 ct10 oc11 kV11 dc11 pm11 cd11 ct11 oc12 kV12 dc12 pm12 cd12 ct12 oc13 kV13 dc13 pm13 cd13 ct13 oc14 kV14 dc14 pm14 cd14 ct14 oc15 kV15 dc15 pm15 cd15 ct15 oc16 kV16 dc16 pm16 cd16 ct16 oc17 kV17 dc17 pm17 cd17 ct17 oc18 kV18 dc18 pm18 cd18 ct18 oc19 kV19 dc19 pm19 cd19 ct19 oc20 kV20 dc20 pm20 cd20 ct20 oc21 kV21 dc21 pm21 cd21 ct21 oc22 kV22 dc22 pm22 cd22 ct22 oc23 kV23 dc23 pm23 cd23 ct23 oc24 kV24 dc24 pm24 cd24 ct24 oc25 kV25 dc25 pm25 cd25 ct25 oc26 kV26 dc26 pm26 cd26 ct26 oc27 kV27 dc27 pm27 cd27 ct27 : Value} (X : K.In h) (G : h.Ns mainGlobals mg) (hfa : mg "law" = some (.ref fa))
    (a0 : PySem.W.nsIn K mainGlobals "common_divisor" = some (some (.ref f0))) (l0 : K.lookup f0 = some ⟨oc0, od0, .func (PySem.W.fnOf "common_divisor" "common_divisor" (defArgs s_common_divisor) (defBody s_common_divisor) (defScope s_common_divisor) .none kV0 dc0 pm0 an0 cd0 ct0), sl0⟩) (c0 : PySem.W.codeIn K cd0 "common_divisor" = true) (k0 : PySem.W.keepIn K (.ref f0) = true)
    (a1 : PySem.W.nsIn K mainGlobals "lowest" = some (some (.ref f1))) (l1 : K.lookup f1 = some ⟨oc1, od1, .func (PySem.W.fnOf "lowest" "lowest" (defArgs s_lowest) (defBody s_lowest) (defScope s_lowest) .none kV1 dc1 pm1 an1 cd1 ct1), sl1⟩) (c1 : PySem.W.codeIn K cd1 "lowest" = true) (k1 : PySem.W.keepIn K (.ref f1) = true)
    (a2 : PySem.W.nsIn K mainGlobals "least_square" = some (some (.ref f2))) (l2 : K.lookup f2 = some ⟨oc2, od2, .func (PySem.W.fnOf "least_square" "least_square" (defArgs s_least_square) (defBody s_least_square) (defScope s_least_square) .none kV2 dc2 pm2 an2 cd2 ct2), sl2⟩) (c2 : PySem.W.codeIn K cd2 "least_square" = true) (k2 : PySem.W.keepIn K (.ref f2) = true)
    (a3 : PySem.W.nsIn K mainGlobals "heart_of" = some (some (.ref f3))) (l3 : K.lookup f3 = some ⟨oc3, od3, .func (PySem.W.fnOf "heart_of" "heart_of" (defArgs s_heart_of) (defBody s_heart_of) (defScope s_heart_of) .none kV3 dc3 pm3 an3 cd3 ct3), sl3⟩) (c3 : PySem.W.codeIn K cd3 "heart_of" = true) (k3 : PySem.W.keepIn K (.ref f3) = true)
    (a4 : PySem.W.nsIn K mainGlobals "is_square" = some (some (.ref f4))) (l4 : K.lookup f4 = some ⟨oc4, od4, .func (PySem.W.fnOf "is_square" "is_square" (defArgs s_is_square) (defBody s_is_square) (defScope s_is_square) .none kV4 dc4 pm4 an4 cd4 ct4), sl4⟩) (c4 : PySem.W.codeIn K cd4 "is_square" = true) (k4 : PySem.W.keepIn K (.ref f4) = true)
    (a5 : PySem.W.nsIn K mainGlobals "divisor_of_all" = some (some (.ref f5))) (l5 : K.lookup f5 = some ⟨oc5, od5, .func (PySem.W.fnOf "divisor_of_all" "divisor_of_all" (defArgs s_divisor_of_all) (defBody s_divisor_of_all) (defScope s_divisor_of_all) .none kV5 dc5 pm5 an5 cd5 ct5), sl5⟩) (c5 : PySem.W.codeIn K cd5 "divisor_of_all" = true) (k5 : PySem.W.keepIn K (.ref f5) = true)
    (a6 : PySem.W.nsIn K mainGlobals "root_of" = some (some (.ref f6))) (l6 : K.lookup f6 = some ⟨oc6, od6, .func (PySem.W.fnOf "root_of" "root_of" (defArgs s_root_of) (defBody s_root_of) (defScope s_root_of) .none kV6 dc6 pm6 an6 cd6 ct6), sl6⟩) (c6 : PySem.W.codeIn K cd6 "root_of" = true) (k6 : PySem.W.keepIn K (.ref f6) = true)
    (a7 : PySem.W.nsIn K mainGlobals "part_of" = some (some (.ref f7))) (l7 : K.lookup f7 = some ⟨oc7, od7, .func (PySem.W.fnOf "part_of" "part_of" (defArgs s_part_of) (defBody s_part_of) (defScope s_part_of) .none kV7 dc7 pm7 an7 cd7 ct7), sl7⟩) (c7 : PySem.W.codeIn K cd7 "part_of" = true) (k7 : PySem.W.keepIn K (.ref f7) = true)
    (a8 : PySem.W.nsIn K mainGlobals "turned" = some (some (.ref f8))) (l8 : K.lookup f8 = some ⟨oc8, od8, .func (PySem.W.fnOf "turned" "turned" (defArgs s_turned) (defBody s_turned) (defScope s_turned) .none kV8 dc8 pm8 an8 cd8 ct8), sl8⟩) (c8 : PySem.W.codeIn K cd8 "turned" = true) (k8 : PySem.W.keepIn K (.ref f8) = true)
    (a9 : PySem.W.nsIn K mainGlobals "led_to" = some (some (.ref f9))) (l9 : K.lookup f9 = some ⟨oc9, od9, .func (PySem.W.fnOf "led_to" "led_to" (defArgs s_led_to) (defBody s_led_to) (defScope s_led_to) .none kV9 dc9 pm9 an9 cd9 ct9), sl9⟩) (c9 : PySem.W.codeIn K cd9 "led_to" = true) (k9 : PySem.W.keepIn K (.ref f9) = true)
    (a10 : PySem.W.nsIn K mainGlobals "sign_of" = some (some (.ref f10))) (l10 : K.lookup f10 = some ⟨oc10, od10, .func (PySem.W.fnOf "sign_of" "sign_of" (defArgs s_sign_of) (defBody s_sign_of) (defScope s_sign_of) .none kV10 dc10 pm10 an10 cd10 ct10), sl10⟩) (c10 : PySem.W.codeIn K cd10 "sign_of" = true) (k10 : PySem.W.keepIn K (.ref f10) = true)
    (a11 : PySem.W.nsIn K mainGlobals "signed_square" = some (some (.ref f11))) (l11 : K.lookup f11 = some ⟨oc11, od11, .func (PySem.W.fnOf "signed_square" "signed_square" (defArgs s_signed_square) (defBody s_signed_square) (defScope s_signed_square) .none kV11 dc11 pm11 an11 cd11 ct11), sl11⟩) (c11 : PySem.W.codeIn K cd11 "signed_square" = true) (k11 : PySem.W.keepIn K (.ref f11) = true)
    (a12 : PySem.W.nsIn K mainGlobals "spread_out" = some (some (.ref f12))) (l12 : K.lookup f12 = some ⟨oc12, od12, .func (PySem.W.fnOf "spread_out" "spread_out" (defArgs s_spread_out) (defBody s_spread_out) (defScope s_spread_out) .none kV12 dc12 pm12 an12 cd12 ct12), sl12⟩) (c12 : PySem.W.codeIn K cd12 "spread_out" = true) (k12 : PySem.W.keepIn K (.ref f12) = true)
    (a13 : PySem.W.nsIn K mainGlobals "sign_with_root" = some (some (.ref f13))) (l13 : K.lookup f13 = some ⟨oc13, od13, .func (PySem.W.fnOf "sign_with_root" "sign_with_root" (defArgs s_sign_with_root) (defBody s_sign_with_root) (defScope s_sign_with_root) .none kV13 dc13 pm13 an13 cd13 ct13), sl13⟩) (c13 : PySem.W.codeIn K cd13 "sign_with_root" = true) (k13 : PySem.W.keepIn K (.ref f13) = true)
    (a14 : PySem.W.nsIn K mainGlobals "sign_with_two_roots" = some (some (.ref f14))) (l14 : K.lookup f14 = some ⟨oc14, od14, .func (PySem.W.fnOf "sign_with_two_roots" "sign_with_two_roots" (defArgs s_sign_with_two_roots) (defBody s_sign_with_two_roots) (defScope s_sign_with_two_roots) .none kV14 dc14 pm14 an14 cd14 ct14), sl14⟩) (c14 : PySem.W.codeIn K cd14 "sign_with_two_roots" = true) (k14 : PySem.W.keepIn K (.ref f14) = true)
    (a15 : PySem.W.nsIn K mainGlobals "compare" = some (some (.ref f15))) (l15 : K.lookup f15 = some ⟨oc15, od15, .func (PySem.W.fnOf "compare" "compare" (defArgs s_compare) (defBody s_compare) (defScope s_compare) .none kV15 dc15 pm15 an15 cd15 ct15), sl15⟩) (c15 : PySem.W.codeIn K cd15 "compare" = true) (k15 : PySem.W.keepIn K (.ref f15) = true)
    (a16 : PySem.W.nsIn K mainGlobals "around" = some (some (.ref f16))) (l16 : K.lookup f16 = some ⟨oc16, od16, .func (PySem.W.fnOf "around" "around" (defArgs s_around) (defBody s_around) (defScope s_around) .none kV16 dc16 pm16 an16 cd16 ct16), sl16⟩) (c16 : PySem.W.codeIn K cd16 "around" = true) (k16 : PySem.W.keepIn K (.ref f16) = true)
    (a17 : PySem.W.nsIn K mainGlobals "just_below" = some (some (.ref f17))) (l17 : K.lookup f17 = some ⟨oc17, od17, .func (PySem.W.fnOf "just_below" "just_below" (defArgs s_just_below) (defBody s_just_below) (defScope s_just_below) .none kV17 dc17 pm17 an17 cd17 ct17), sl17⟩) (c17 : PySem.W.codeIn K cd17 "just_below" = true) (k17 : PySem.W.keepIn K (.ref f17) = true)
    (a18 : PySem.W.nsIn K mainGlobals "following" = some (some (.ref f18))) (l18 : K.lookup f18 = some ⟨oc18, od18, .func (PySem.W.fnOf "following" "following" (defArgs s_following) (defBody s_following) (defScope s_following) .none kV18 dc18 pm18 an18 cd18 ct18), sl18⟩) (c18 : PySem.W.codeIn K cd18 "following" = true) (k18 : PySem.W.keepIn K (.ref f18) = true)
    (a19 : PySem.W.nsIn K mainGlobals "between" = some (some (.ref f19))) (l19 : K.lookup f19 = some ⟨oc19, od19, .func (PySem.W.fnOf "between" "between" (defArgs s_between) (defBody s_between) (defScope s_between) .none kV19 dc19 pm19 an19 cd19 ct19), sl19⟩) (c19 : PySem.W.codeIn K cd19 "between" = true) (k19 : PySem.W.keepIn K (.ref f19) = true)
    (a20 : PySem.W.nsIn K mainGlobals "_law_cell" = some (some (.ref f20))) (l20 : K.lookup f20 = some ⟨oc20, od20, .func (PySem.W.fnOf "_law_cell" "_law_cell" (defArgs s_law_cell) (defBody s_law_cell) (defScope s_law_cell) .none kV20 dc20 pm20 an20 cd20 ct20), sl20⟩) (c20 : PySem.W.codeIn K cd20 "_law_cell" = true) (k20 : PySem.W.keepIn K (.ref f20) = true)
    (a21 : PySem.W.nsIn K mainGlobals "_law_mix" = some (some (.ref f21))) (l21 : K.lookup f21 = some ⟨oc21, od21, .func (PySem.W.fnOf "_law_mix" "_law_mix" (defArgs s_law_mix) (defBody s_law_mix) (defScope s_law_mix) .none kV21 dc21 pm21 an21 cd21 ct21), sl21⟩) (c21 : PySem.W.codeIn K cd21 "_law_mix" = true) (k21 : PySem.W.keepIn K (.ref f21) = true)
    (a22 : PySem.W.nsIn K mainGlobals "_law_whole" = some (some (.ref f22))) (l22 : K.lookup f22 = some ⟨oc22, od22, .func (PySem.W.fnOf "_law_whole" "_law_whole" (defArgs s_law_whole) (defBody s_law_whole) (defScope s_law_whole) .none kV22 dc22 pm22 an22 cd22 ct22), sl22⟩) (c22 : PySem.W.codeIn K cd22 "_law_whole" = true) (k22 : PySem.W.keepIn K (.ref f22) = true)
    (a23 : PySem.W.nsIn K mainGlobals "_law_divisor" = some (some (.ref f23))) (l23 : K.lookup f23 = some ⟨oc23, od23, .func (PySem.W.fnOf "_law_divisor" "_law_divisor" (defArgs s_law_divisor) (defBody s_law_divisor) (defScope s_law_divisor) .none kV23 dc23 pm23 an23 cd23 ct23), sl23⟩) (c23 : PySem.W.codeIn K cd23 "_law_divisor" = true) (k23 : PySem.W.keepIn K (.ref f23) = true)
    (a24 : PySem.W.nsIn K mainGlobals "_law_lowest" = some (some (.ref f24))) (l24 : K.lookup f24 = some ⟨oc24, od24, .func (PySem.W.fnOf "_law_lowest" "_law_lowest" (defArgs s_law_lowest) (defBody s_law_lowest) (defScope s_law_lowest) .none kV24 dc24 pm24 an24 cd24 ct24), sl24⟩) (c24 : PySem.W.codeIn K cd24 "_law_lowest" = true) (k24 : PySem.W.keepIn K (.ref f24) = true)
    (a25 : PySem.W.nsIn K mainGlobals "_law_fraction" = some (some (.ref f25))) (l25 : K.lookup f25 = some ⟨oc25, od25, .func (PySem.W.fnOf "_law_fraction" "_law_fraction" (defArgs s_law_fraction) (defBody s_law_fraction) (defScope s_law_fraction) .none kV25 dc25 pm25 an25 cd25 ct25), sl25⟩) (c25 : PySem.W.codeIn K cd25 "_law_fraction" = true) (k25 : PySem.W.keepIn K (.ref f25) = true)
    (a26 : PySem.W.nsIn K mainGlobals "_law_less" = some (some (.ref f26))) (l26 : K.lookup f26 = some ⟨oc26, od26, .func (PySem.W.fnOf "_law_less" "_law_less" (defArgs s_law_less) (defBody s_law_less) (defScope s_law_less) .none kV26 dc26 pm26 an26 cd26 ct26), sl26⟩) (c26 : PySem.W.codeIn K cd26 "_law_less" = true) (k26 : PySem.W.keepIn K (.ref f26) = true)
    (a27 : PySem.W.nsIn K mainGlobals "law" = some (some (.ref f27))) (l27 : K.lookup f27 = some ⟨oc27, od27, .func (PySem.W.fnOf "law" "law" (defArgs s_law) (defBody s_law) (defScope s_law) .none kV27 dc27 pm27 an27 cd27 ct27), sl27⟩) (c27 : PySem.W.codeIn K cd27 "law" = true) (k27 : PySem.W.keepIn K (.ref f27) = true)
    (z_abs : PySem.W.nsIn K mainGlobals "abs" = some none)
    (z_len : PySem.W.nsIn K mainGlobals "len" = some none)
    (z_min : PySem.W.nsIn K mainGlobals "min" = some none)
    (z_tuple : PySem.W.nsIn K mainGlobals "tuple" = some none)
    (z_isinstance : PySem.W.nsIn K mainGlobals "isinstance" = some none)
    (z_int : PySem.W.nsIn K mainGlobals "int" = some none)
    (z_bool : PySem.W.nsIn K mainGlobals "bool" = some none)
    (z_enumerate : PySem.W.nsIn K mainGlobals "enumerate" = some none)
    (z_range : PySem.W.nsIn K mainGlobals "range" = some none)
    (e_RowError : PySem.W.nsIn K mainGlobals "RowError" = some (some (.ref C_RowError))) (x_RowError : PySem.W.excIn K C_RowError [.type "ValueError", .type "Exception", .type "BaseException", .type "object"] "ValueError.__new__" = true)
    (e_NoNumber : PySem.W.nsIn K mainGlobals "NoNumber" = some (some (.ref C_NoNumber))) (x_NoNumber : PySem.W.excIn K C_NoNumber [.type "ValueError", .type "Exception", .type "BaseException", .type "object"] "ValueError.__new__" = true)
    (xe : PySem.W.exmOne K (.ref C_NoNumber) (.ref C_RowError) = some true) (xv : PySem.W.kitOne K (.ref C_NoNumber) (.type "ValueError") = some true) :
    ∃ fd : FuncData, (∀ (s : Shared) (v : Value), BindsTo s fd ⟨[v], []⟩ [("_law_script", v)]) ∧ ∀ base : Heap, K.In base → base.Ns mainGlobals mg → FnOk l.prog w K mg base CX0 8 fa fd ["_law_script"] (sp_law K) := by
  have e := hfa.symm.trans (PySem.W.mg_of X G a27)
  cases e
  have T : Txt K mg C_RowError C_NoNumber := ⟨PySem.W.mg_none_of X G z_abs, PySem.W.mg_none_of X G z_len, PySem.W.mg_none_of X G z_min, PySem.W.mg_none_of X G z_tuple, PySem.W.mg_none_of X G z_isinstance, PySem.W.mg_none_of X G z_int, PySem.W.mg_none_of X G z_bool, PySem.W.mg_none_of X G z_enumerate, PySem.W.mg_none_of X G z_range, PySem.W.mg_of X G e_RowError, PySem.W.mg_of X G e_NoNumber, x_RowError, x_NoNumber, xe, xv⟩
  have F0 : In K mg "common_divisor" s_common_divisor ["one", "other"] := ⟨_, _, PySem.W.mg_of X G a0, fun_mk (st := s_common_divisor) l0 c0 k0, (fun_mk (st := s_common_divisor) l0 c0 k0).binds (ps := ["one", "other"]) fun _ _ _ _ _ _ us hl => match us, hl with | [_, _], _ => rfl⟩
  have F1 : In K mg "lowest" s_lowest ["upper", "lower"] := ⟨_, _, PySem.W.mg_of X G a1, fun_mk (st := s_lowest) l1 c1 k1, (fun_mk (st := s_lowest) l1 c1 k1).binds (ps := ["upper", "lower"]) fun _ _ _ _ _ _ us hl => match us, hl with | [_, _], _ => rfl⟩
  have F2 : In K mg "least_square" s_least_square ["n"] := ⟨_, _, PySem.W.mg_of X G a2, fun_mk (st := s_least_square) l2 c2 k2, (fun_mk (st := s_least_square) l2 c2 k2).binds (ps := ["n"]) fun _ _ _ _ _ _ us hl => match us, hl with | [_], _ => rfl⟩
  have F3 : In K mg "heart_of" s_heart_of ["a", "b", "c"] := ⟨_, _, PySem.W.mg_of X G a3, fun_mk (st := s_heart_of) l3 c3 k3, (fun_mk (st := s_heart_of) l3 c3 k3).binds (ps := ["a", "b", "c"]) fun _ _ _ _ _ _ us hl => match us, hl with | [_, _, _], _ => rfl⟩
  have F4 : In K mg "is_square" s_is_square ["n"] := ⟨_, _, PySem.W.mg_of X G a4, fun_mk (st := s_is_square) l4 c4 k4, (fun_mk (st := s_is_square) l4 c4 k4).binds (ps := ["n"]) fun _ _ _ _ _ _ us hl => match us, hl with | [_], _ => rfl⟩
  have F5 : In K mg "divisor_of_all" s_divisor_of_all ["a", "b", "c"] := ⟨_, _, PySem.W.mg_of X G a5, fun_mk (st := s_divisor_of_all) l5 c5 k5, (fun_mk (st := s_divisor_of_all) l5 c5 k5).binds (ps := ["a", "b", "c"]) fun _ _ _ _ _ _ us hl => match us, hl with | [_, _, _], _ => rfl⟩
  have F6 : In K mg "root_of" s_root_of ["a", "b", "c", "side"] := ⟨_, _, PySem.W.mg_of X G a6, fun_mk (st := s_root_of) l6 c6 k6, (fun_mk (st := s_root_of) l6 c6 k6).binds (ps := ["a", "b", "c", "side"]) fun _ _ _ _ _ _ us hl => match us, hl with | [_, _, _, _], _ => rfl⟩
  have F7 : In K mg "part_of" s_part_of ["number"] := ⟨_, _, PySem.W.mg_of X G a7, fun_mk (st := s_part_of) l7 c7 k7, (fun_mk (st := s_part_of) l7 c7 k7).binds (ps := ["number"]) fun _ _ _ _ _ _ us hl => match us, hl with | [_], _ => rfl⟩
  have F8 : In K mg "turned" s_turned ["root", "n"] := ⟨_, _, PySem.W.mg_of X G a8, fun_mk (st := s_turned) l8 c8 k8, (fun_mk (st := s_turned) l8 c8 k8).binds (ps := ["root", "n"]) fun _ _ _ _ _ _ us hl => match us, hl with | [_, _], _ => rfl⟩
  have F9 : In K mg "led_to" s_led_to ["number", "n"] := ⟨_, _, PySem.W.mg_of X G a9, fun_mk (st := s_led_to) l9 c9 k9, (fun_mk (st := s_led_to) l9 c9 k9).binds (ps := ["number", "n"]) fun _ _ _ _ _ _ us hl => match us, hl with | [_, _], _ => rfl⟩
  have F10 : In K mg "sign_of" s_sign_of ["n"] := ⟨_, _, PySem.W.mg_of X G a10, fun_mk (st := s_sign_of) l10 c10 k10, (fun_mk (st := s_sign_of) l10 c10 k10).binds (ps := ["n"]) fun _ _ _ _ _ _ us hl => match us, hl with | [_], _ => rfl⟩
  have F11 : In K mg "signed_square" s_signed_square ["n"] := ⟨_, _, PySem.W.mg_of X G a11, fun_mk (st := s_signed_square) l11 c11 k11, (fun_mk (st := s_signed_square) l11 c11 k11).binds (ps := ["n"]) fun _ _ _ _ _ _ us hl => match us, hl with | [_], _ => rfl⟩
  have F12 : In K mg "spread_out" s_spread_out ["number"] := ⟨_, _, PySem.W.mg_of X G a12, fun_mk (st := s_spread_out) l12 c12 k12, (fun_mk (st := s_spread_out) l12 c12 k12).binds (ps := ["number"]) fun _ _ _ _ _ _ us hl => match us, hl with | [_], _ => rfl⟩
  have F13 : In K mg "sign_with_root" s_sign_with_root ["whole", "times", "heart"] := ⟨_, _, PySem.W.mg_of X G a13, fun_mk (st := s_sign_with_root) l13 c13 k13, (fun_mk (st := s_sign_with_root) l13 c13 k13).binds (ps := ["whole", "times", "heart"]) fun _ _ _ _ _ _ us hl => match us, hl with | [_, _, _], _ => rfl⟩
  have F14 : In K mg "sign_with_two_roots" s_sign_with_two_roots ["whole", "times", "heart", "other_times", "other_heart"] := ⟨_, _, PySem.W.mg_of X G a14, fun_mk (st := s_sign_with_two_roots) l14 c14 k14, (fun_mk (st := s_sign_with_two_roots) l14 c14 k14).binds (ps := ["whole", "times", "heart", "other_times", "other_heart"]) fun _ _ _ _ _ _ us hl => match us, hl with | [_, _, _, _, _], _ => rfl⟩
  have F15 : In K mg "compare" s_compare ["one", "other"] := ⟨_, _, PySem.W.mg_of X G a15, fun_mk (st := s_compare) l15 c15 k15, (fun_mk (st := s_compare) l15 c15 k15).binds (ps := ["one", "other"]) fun _ _ _ _ _ _ us hl => match us, hl with | [_, _], _ => rfl⟩
  have F16 : In K mg "around" s_around ["number", "most"] := ⟨_, _, PySem.W.mg_of X G a16, fun_mk (st := s_around) l16 c16 k16, (fun_mk (st := s_around) l16 c16 k16).binds (ps := ["number", "most"]) fun _ _ _ _ _ _ us hl => match us, hl with | [_, _], _ => rfl⟩
  have F17 : In K mg "just_below" s_just_below ["fraction", "most"] := ⟨_, _, PySem.W.mg_of X G a17, fun_mk (st := s_just_below) l17 c17 k17, (fun_mk (st := s_just_below) l17 c17 k17).binds (ps := ["fraction", "most"]) fun _ _ _ _ _ _ us hl => match us, hl with | [_, _], _ => rfl⟩
  have F18 : In K mg "following" s_following ["before", "place", "most"] := ⟨_, _, PySem.W.mg_of X G a18, fun_mk (st := s_following) l18 c18 k18, (fun_mk (st := s_following) l18 c18 k18).binds (ps := ["before", "place", "most"]) fun _ _ _ _ _ _ us hl => match us, hl with | [_, _, _], _ => rfl⟩
  have F19 : In K mg "between" s_between ["low", "high", "most"] := ⟨_, _, PySem.W.mg_of X G a19, fun_mk (st := s_between) l19 c19 k19, (fun_mk (st := s_between) l19 c19 k19).binds (ps := ["low", "high", "most"]) fun _ _ _ _ _ _ us hl => match us, hl with | [_, _, _], _ => rfl⟩
  have F20 : In K mg "_law_cell" s_law_cell ["_law_script", "_law_k"] := ⟨_, _, PySem.W.mg_of X G a20, fun_mk (st := s_law_cell) l20 c20 k20, (fun_mk (st := s_law_cell) l20 c20 k20).binds (ps := ["_law_script", "_law_k"]) fun _ _ _ _ _ _ us hl => match us, hl with | [_, _], _ => rfl⟩
  have F21 : In K mg "_law_mix" s_law_mix ["_law_cell_here", "_law_prime", "_law_many"] := ⟨_, _, PySem.W.mg_of X G a21, fun_mk (st := s_law_mix) l21 c21 k21, (fun_mk (st := s_law_mix) l21 c21 k21).binds (ps := ["_law_cell_here", "_law_prime", "_law_many"]) fun _ _ _ _ _ _ us hl => match us, hl with | [_, _, _], _ => rfl⟩
  have F22 : In K mg "_law_whole" s_law_whole ["_law_found"] := ⟨_, _, PySem.W.mg_of X G a22, fun_mk (st := s_law_whole) l22 c22 k22, (fun_mk (st := s_law_whole) l22 c22 k22).binds (ps := ["_law_found"]) fun _ _ _ _ _ _ us hl => match us, hl with | [_], _ => rfl⟩
  have F23 : In K mg "_law_divisor" s_law_divisor ["_law_one", "_law_other"] := ⟨_, _, PySem.W.mg_of X G a23, fun_mk (st := s_law_divisor) l23 c23 k23, (fun_mk (st := s_law_divisor) l23 c23 k23).binds (ps := ["_law_one", "_law_other"]) fun _ _ _ _ _ _ us hl => match us, hl with | [_, _], _ => rfl⟩
  have F24 : In K mg "_law_lowest" s_law_lowest ["_law_upper", "_law_lower"] := ⟨_, _, PySem.W.mg_of X G a24, fun_mk (st := s_law_lowest) l24 c24 k24, (fun_mk (st := s_law_lowest) l24 c24 k24).binds (ps := ["_law_upper", "_law_lower"]) fun _ _ _ _ _ _ us hl => match us, hl with | [_, _], _ => rfl⟩
  have F25 : In K mg "_law_fraction" s_law_fraction ["_law_cell_here", "_law_other", "_law_wide"] := ⟨_, _, PySem.W.mg_of X G a25, fun_mk (st := s_law_fraction) l25 c25 k25, (fun_mk (st := s_law_fraction) l25 c25 k25).binds (ps := ["_law_cell_here", "_law_other", "_law_wide"]) fun _ _ _ _ _ _ us hl => match us, hl with | [_, _, _], _ => rfl⟩
  have F26 : In K mg "_law_less" s_law_less ["_law_one", "_law_other"] := ⟨_, _, PySem.W.mg_of X G a26, fun_mk (st := s_law_less) l26 c26 k26, (fun_mk (st := s_law_less) l26 c26 k26).binds (ps := ["_law_one", "_law_other"]) fun _ _ _ _ _ _ us hl => match us, hl with | [_, _], _ => rfl⟩
  have F27 : In K mg "law" s_law ["_law_script"] := ⟨_, _, PySem.W.mg_of X G a27, fun_mk (st := s_law) l27 c27 k27, (fun_mk (st := s_law) l27 c27 k27).binds (ps := ["_law_script"]) fun _ _ _ _ _ _ us hl => match us, hl with | [_], _ => rfl⟩
  have FL := fun_mk (st := s_law) l27 c27 k27
  refine ⟨PySem.W.fnOf "law" "law" (defArgs s_law) (defBody s_law) (defScope s_law) .none kV27 dc27 pm27 an27 cd27 ct27, fun s v => .of_eq rfl, fun base _ _ => ?_⟩
  have D_law_divisor := d_law_divisor (P := l.prog) (w := w) (base := base) F23 T
  have D_law_lowest := d_law_lowest (P := l.prog) (w := w) (base := base) F24 T D_law_divisor
  have D_law_mix := d_law_mix (P := l.prog) (w := w) (base := base) F21 T
  have D_law_fraction := d_law_fraction (P := l.prog) (w := w) (base := base) F25 T D_law_lowest D_law_mix
  have D_law_less := d_law_less (P := l.prog) (w := w) (base := base) F26 T
  have D_heart_of := d_heart_of (P := l.prog) (w := w) (base := base) F3 T
  have D_common_divisor := d_common_divisor (P := l.prog) (w := w) (base := base) F0 T
  have D_divisor_of_all := d_divisor_of_all (P := l.prog) (w := w) (base := base) F5 T D_common_divisor
  have D_least_square := d_least_square (P := l.prog) (w := w) (base := base) F2 T
  have D_is_square := d_is_square (P := l.prog) (w := w) (base := base) F4 T D_least_square
  have D_root_of := d_root_of (P := l.prog) (w := w) (base := base) F6 T D_heart_of D_divisor_of_all D_is_square
  have D_turned := d_turned (P := l.prog) (w := w) (base := base) F8 T D_root_of
  have D_led_to := d_led_to (P := l.prog) (w := w) (base := base) F9 T D_turned
  have D_part_of := d_part_of (P := l.prog) (w := w) (base := base) F7 T D_least_square D_heart_of
  have D_around := d_around (P := l.prog) (w := w) (base := base) F16 T D_led_to D_part_of
  have D_lowest := d_lowest (P := l.prog) (w := w) (base := base) F1 T D_common_divisor
  have D_just_below := d_just_below (P := l.prog) (w := w) (base := base) F17 T D_lowest
  have D_spread_out := d_spread_out (P := l.prog) (w := w) (base := base) F12 T D_heart_of
  have D_sign_of := d_sign_of (P := l.prog) (w := w) (base := base) F10 T
  have D_signed_square := d_signed_square (P := l.prog) (w := w) (base := base) F11 T
  have D_sign_with_root := d_sign_with_root (P := l.prog) (w := w) (base := base) F13 T D_sign_of D_signed_square
  have D_sign_with_two_roots := d_sign_with_two_roots (P := l.prog) (w := w) (base := base) F14 T D_sign_of D_sign_with_root D_signed_square
  have D_compare := d_compare (P := l.prog) (w := w) (base := base) F15 T D_spread_out D_sign_with_two_roots
  have D_following := d_following (P := l.prog) (w := w) (base := base) F18 T
  have D_between := d_between (P := l.prog) (w := w) (base := base) F19 T D_around D_just_below D_compare D_following
  have D_law_cell := d_law_cell (P := l.prog) (w := w) (base := base) F20 T
  have D_law_whole := d_law_whole (P := l.prog) (w := w) (base := base) F22 T
  exact ok_law FL T D_law_fraction D_law_less D_between D_law_cell D_law_lowest D_law_whole
theorem walk {l : PySem.W.OpenLaw} {q : Program} {loose : List Str} {XP : (Str → Option Value) → Heap → Prop} {YP : World → Heap → Prop} {d : DefRec} {K : Params → PySem.W.Frag} (hn : l.most = some 63) (hdf : d.params.defaults = [])
    (hY : ∀ (w : World) (h : Heap), YP w h → (K w.params).In h)
    (F : ∀ (w : World) (mg : Str → Option Value) (fa : Addr) (h : Heap), (K w.params).In h → h.Ns mainGlobals mg → mg d.name = some (.ref fa) →
      ∃ fd : FuncData, (∀ (s : Shared) (u : Value), BindsTo s fd ⟨[u], []⟩ [("_law_script", u)]) ∧ ∀ base : Heap, (K w.params).In base → base.Ns mainGlobals mg → FnOk l.prog w (K w.params) mg base CX0 8 fa fd ["_law_script"] (sp_law (K w.params))) :
    PySem.W.WalkO q loose XP YP l.row.toRowW d [] (fun f vs => PySem.call f vs) :=
  L2.walk_of (n := 63) (k := 8) (x := "_law_script") (CX := fun _ => CX0) (sp := fun w => sp_law (K w.params)) hn (by decide) hdf ⟨rfl, by decide, by decide⟩ hY F (fun _ _ a ns hl _ hS => ⟨a, ns, rfl, hS, hl, fun _ => rfl⟩) fun _ _ _ _ _ z => z
end Own
open PySem PySem.W PyProof.Rows
set_option maxRecDepth 100000 in
set_option maxHeartbeats 0 in
theorem PySem.Challenge.cw_rootrow_k09_whole_neighbours_holds : PySem.Challenge.rw_rootrow_k09_whole_neighbours.Holds := by
  w_on; o_law; k_head; (case hw => w_witness2)
  k_fill
  refine Own.walk (l := PySem.Challenge.rw_rootrow_k09_whole_neighbours) rfl rfl (fun w h Y => PySem.W.kIn_of Y) ?F
  case F =>
    intro w mg fa h KX G hmg
    refine' Own.all_mk KX G hmg ?a0 ?l0 ?c0 ?k0 ?a1 ?l1 ?c1 ?k1 ?a2 ?l2 ?c2 ?k2 ?a3 ?l3 ?c3 ?k3 ?a4 ?l4 ?c4 ?k4 ?a5 ?l5 ?c5 ?k5 ?a6 ?l6 ?c6 ?k6 ?a7 ?l7 ?c7 ?k7 ?a8 ?l8 ?c8 ?k8 ?a9 ?l9 ?c9 ?k9 ?a10 ?l10 ?c10 ?k10 ?a11 ?l11 ?c11 ?k11 ?a12 ?l12 ?c12 ?k12 ?a13 ?l13 ?c13 ?k13 ?a14 ?l14 ?c14 ?k14 ?a15 ?l15 ?c15 ?k15 ?a16 ?l16 ?c16 ?k16 ?a17 ?l17 ?c17 ?k17 ?a18 ?l18 ?c18 ?k18 ?a19 ?l19 ?c19 ?k19 ?a20 ?l20 ?c20 ?k20 ?a21 ?l21 ?c21 ?k21 ?a22 ?l22 ?c22 ?k22 ?a23 ?l23 ?c23 ?k23 ?a24 ?l24 ?c24 ?k24 ?a25 ?l25 ?c25 ?k25 ?a26 ?l26 ?c26 ?k26 ?a27 ?l27 ?c27 ?k27 ?z_abs ?z_len ?z_min ?z_tuple ?z_isinstance ?z_int ?z_bool ?z_enumerate ?z_range ?e_RowError ?x_RowError ?e_NoNumber ?x_NoNumber ?xe ?xv
    (case a0 => k_is)
    (case l0 => k_is)
    (case c0 => k_is)
    (case k0 => k_is)
    (case a1 => k_is)
    (case l1 => k_is)
    (case c1 => k_is)
    (case k1 => k_is)
    (case a2 => k_is)
    (case l2 => k_is)
    (case c2 => k_is)
    (case k2 => k_is)
    (case a3 => k_is)
    (case l3 => k_is)
    (case c3 => k_is)
    (case k3 => k_is)
    (case a4 => k_is)
    (case l4 => k_is)
    (case c4 => k_is)
    (case k4 => k_is)
    (case a5 => k_is)
    (case l5 => k_is)
    (case c5 => k_is)
    (case k5 => k_is)
    (case a6 => k_is)
    (case l6 => k_is)
    (case c6 => k_is)
    (case k6 => k_is)
    (case a7 => k_is)
    (case l7 => k_is)
    (case c7 => k_is)
    (case k7 => k_is)
    (case a8 => k_is)
    (case l8 => k_is)
    (case c8 => k_is)
    (case k8 => k_is)
    (case a9 => k_is)
    (case l9 => k_is)
    (case c9 => k_is)
    (case k9 => k_is)
    (case a10 => k_is)
    (case l10 => k_is)
    (case c10 => k_is)
    (case k10 => k_is)
    (case a11 => k_is)
    (case l11 => k_is)
    (case c11 => k_is)
    (case k11 => k_is)
    (case a12 => k_is)
    (case l12 => k_is)
    (case c12 => k_is)
    (case k12 => k_is)
    (case a13 => k_is)
    (case l13 => k_is)
    (case c13 => k_is)
    (case k13 => k_is)
    (case a14 => k_is)
    (case l14 => k_is)
    (case c14 => k_is)
    (case k14 => k_is)
    (case a15 => k_is)
    (case l15 => k_is)
    (case c15 => k_is)
    (case k15 => k_is)
    (case a16 => k_is)
    (case l16 => k_is)
    (case c16 => k_is)
    (case k16 => k_is)
    (case a17 => k_is)
    (case l17 => k_is)
    (case c17 => k_is)
    (case k17 => k_is)
    (case a18 => k_is)
    (case l18 => k_is)
    (case c18 => k_is)
    (case k18 => k_is)
    (case a19 => k_is)
    (case l19 => k_is)
    (case c19 => k_is)
    (case k19 => k_is)
    (case a20 => k_is)
    (case l20 => k_is)
    (case c20 => k_is)
    (case k20 => k_is)
    (case a21 => k_is)
    (case l21 => k_is)
    (case c21 => k_is)
    (case k21 => k_is)
    (case a22 => k_is)
    (case l22 => k_is)
    (case c22 => k_is)
    (case k22 => k_is)
    (case a23 => k_is)
    (case l23 => k_is)
    (case c23 => k_is)
    (case k23 => k_is)
    (case a24 => k_is)
    (case l24 => k_is)
    (case c24 => k_is)
    (case k24 => k_is)
    (case a25 => k_is)
    (case l25 => k_is)
    (case c25 => k_is)
    (case k25 => k_is)
    (case a26 => k_is)
    (case l26 => k_is)
    (case c26 => k_is)
    (case k26 => k_is)
    (case a27 => k_is)
    (case l27 => k_is)
    (case c27 => k_is)
    (case k27 => k_is)
    (case z_abs => k_is)
    (case z_len => k_is)
    (case z_min => k_is)
    (case z_tuple => k_is)
    (case z_isinstance => k_is)
    (case z_int => k_is)
    (case z_bool => k_is)
    (case z_enumerate => k_is)
    (case z_range => k_is)
    (case e_RowError => k_is)
    (case x_RowError => k_exc)
    (case e_NoNumber => k_is)
    (case x_NoNumber => k_exc)
    (case xe => kts_exm)
    (case xv => kit_is)
#print axioms PySem.Challenge.cw_rootrow_k09_whole_neighbours_holds




