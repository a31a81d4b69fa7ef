import PyProof.Rows.All
import Wide.All
import OpenK.AllK
import Wide.FinOn
import Lean
import PyProof.EqAt
import PyProof.EqKinds
import PyProof.TupleCall
import PyProof.NeKinds
import PyProof.FitsBits
import PyProof.AutoIntG2
import PyProof.FactsAll.int_6
import PyProof.CompFree
import PyProof.ConsumeWalk
import KE.KTupSum
import KE.KRevIter
import PySem.Challenge.RW_rootrow_k12_whole_any_round_is_a_root
set_option Elab.async false
set_option linter.all false
set_option maxRecDepth 100000
/-! THE HAND LAYER, for ints, bools, texts, own classes, LISTS and tuples (index, slices, in, append, pop ..), calls, loops. Paste it whole ahead of your own text; what your proof does not reach may be deleted. -/
namespace L2
open PySem PySem.Spec PyProof.Rows

/-- a key: an int or a str -/
abbrev Key := Sum Int Str
def keyIs : Key → Value → Bool
  | .inl k, v => Value.isInt k v
  | .inr x, v => Value.isStrOf x v
def keyH (w : World) : Key → Int
  | .inl k => hashInt k
  | .inr x => hashStr w x
theorem keyIs_shape : ∀ {k : Key} {v : Value}, keyIs k v = true → (∃ i t, k = Sum.inl i ∧ v = Value.int i t) ∨ (∃ x t, k = Sum.inr x ∧ v = Value.str x t)
  | .inl i, v, h => by
    obtain ⟨t, e⟩ := Value.isInt_shape (k := i) (v := v) h
    exact .inl ⟨i, t, rfl, e⟩
  | .inr x, v, h => by
    obtain ⟨t, e⟩ := Value.isStrOf_shape (x := x) (v := v) h
    exact .inr ⟨x, t, rfl, e⟩
theorem keyIs_int (i : Int) (t : Tok) : keyIs (.inl i) (.int i t) = true := by simp [keyIs, Value.isInt]
theorem keyIs_str (x : Str) (t : Tok) : keyIs (.inr x) (.str x t) = true := by simp [keyIs, Value.isStrOf]
theorem key_ll (a b : Int) : decide ((Sum.inl a : Key) = Sum.inl b) = (a == b) := by
  by_cases e : a = b
  · subst e; simp
  · have h : ¬ (Sum.inl a : Key) = Sum.inl b := fun q => e (Sum.inl.inj q)
    rw [decide_eq_false h]
    exact (beq_eq_false_iff_ne.mpr e).symm
theorem key_rr (a b : Str) : decide ((Sum.inr a : Key) = Sum.inr b) = decide (a = b) := by
  by_cases e : a = b
  · subst e; simp
  · have h : ¬ (Sum.inr a : Key) = Sum.inr b := fun q => e (Sum.inr.inj q)
    rw [decide_eq_false h, decide_eq_false e]
theorem key_lr (a : Int) (b : Str) : decide ((Sum.inl a : Key) = Sum.inr b) = false := decide_eq_false (fun q => nomatch q)
theorem key_rl (a : Str) (b : Int) : decide ((Sum.inr a : Key) = Sum.inl b) = false := decide_eq_false (fun q => nomatch q)

def mixKind (prog : Program) (w : World) : PySem.KeyKind prog w Key where
  is := keyIs
  hash := keyH w
  inj := fun v a b ha hb => by
    rcases keyIs_shape ha with ⟨i, t, rfl, rfl⟩ | ⟨x, t, rfl, rfl⟩
    · rcases keyIs_shape hb with ⟨j, u, rfl, e⟩ | ⟨y, u, rfl, e⟩
      · injection e with e1 _; rw [e1]
      · exact nomatch e
    · rcases keyIs_shape hb with ⟨j, u, rfl, e⟩ | ⟨y, u, rfl, e⟩
      · exact nomatch e
      · injection e with e1 _; rw [e1]
  byValue := fun k v h => by
    rcases keyIs_shape h with ⟨i, t, rfl, rfl⟩ | ⟨x, t, rfl, rfl⟩ <;> rfl
  pyHash := fun hv h => by
    rcases keyIs_shape hv with ⟨i, t, rfl, rfl⟩ | ⟨x, t, rfl, rfl⟩
    · exact wpAny_pyHash_int h
    · exact wpAny_pyHash_str h
  eqBool := fun hu hv h => by
    rcases keyIs_shape hu with ⟨i, t, rfl, rfl⟩ | ⟨x, t, rfl, rfl⟩
    · rcases keyIs_shape hv with ⟨j, u, rfl, rfl⟩ | ⟨y, u, rfl, rfl⟩
      · rw [key_ll] at h; exact wpAny_eqBool_int h
      · rw [key_lr] at h; exact SeqAt.EqAt.int_str i t y u _ _ _ _ h
    · rcases keyIs_shape hv with ⟨j, u, rfl, rfl⟩ | ⟨y, u, rfl, rfl⟩
      · rw [key_rl] at h; exact SeqAt.EqAt.str_int x t j u _ _ _ _ h
      · rw [key_rr] at h; exact wpAny_eqBool_str h
  «strs» := fun k x t v h => by
    rcases keyIs_shape h with ⟨i, u, rfl, e⟩ | ⟨y, u, rfl, e⟩
    · exact nomatch e
    · injection e with e1 _
      subst e1
      cases v <;> rfl

theorem mixKind_int (prog : Program) (w : World) (i : Int) (t : Tok) : (mixKind prog w).is (.inl i) (.int i t) = true := keyIs_int i t
theorem mixKind_str (prog : Program) (w : World) (x : Str) (t : Tok) : (mixKind prog w).is (.inr x) (.str x t) = true := keyIs_str x t
end L2

namespace L2
open PySem PySem.Spec PyProof.Rows

/-- a value, without the heap -/
inductive V where
  | non | bl (b : Bool) | int (i : Int) | str (x : Str) | byt (b : Array UInt8) | flt (b : UInt64) | ref (a : Addr) | ty (n : String)
  deriving DecidableEq

def RelV : V → Value → Prop
  | .non, u => u = Value.none
  | .bl b, u => u = Value.bool b
  | .int i, u => ∃ t, u = Value.int i t
  | .str x, u => ∃ t, u = Value.str x t
  | .byt b, u => ∃ t, u = Value.bytes b t
  | .flt b, u => ∃ t, u = Value.float b t
  | .ref a, u => u = Value.ref a
  | .ty n, u => u = Value.type n

abbrev Vals : List V → List Value → Prop := Paired RelV
theorem Vals.length {xs : List V} {us : List Value} (r : Vals xs us) : xs.length = us.length := Paired.length r
theorem Vals.get : ∀ {xs : List V} {us : List Value} {i : Nat} {x : V}, Vals xs us → xs[i]? = some x → ∃ u, us[i]? = some u ∧ RelV x u
  | _, _, _, _, .nil, e => by simp at e
  | _, _, 0, _, .cons r _, e => by simp at e; subst e; exact ⟨_, rfl, r⟩
  | _, _, i + 1, x, .cons _ t, e => by
    obtain ⟨u, h1, h2⟩ := Vals.get (i := i) (x := x) t (by simpa using e)
    exact ⟨u, by simpa using h1, h2⟩
theorem Vals.set {x : V} {u : Value} (r : RelV x u) : ∀ {xs : List V} {us : List Value} (i : Nat), Vals xs us → Vals (xs.set i x) (us.set i u)
  | _, _, _, .nil => .nil
  | _, _, 0, .cons _ t => .cons r t
  | _, _, i + 1, .cons q t => .cons q (Vals.set r i t)
theorem Vals.append : ∀ {xs ys : List V} {us ws : List Value}, Vals xs us → Vals ys ws → Vals (xs ++ ys) (us ++ ws)
  | _, _, _, _, .nil, s => s
  | _, _, _, _, .cons r t, s => .cons r (Vals.append t s)
theorem Vals.take : ∀ {xs : List V} {us : List Value} (n : Nat), Vals xs us → Vals (xs.take n) (us.take n)
  | _, _, 0, _ => .nil
  | _, _, _ + 1, .nil => .nil
  | _, _, n + 1, .cons r t => .cons r (Vals.take n t)
theorem Vals.drop : ∀ {xs : List V} {us : List Value} (n : Nat), Vals xs us → Vals (xs.drop n) (us.drop n)
  | _, _, 0, r => r
  | _, _, _ + 1, .nil => .nil
  | _, _, n + 1, .cons _ t => Vals.drop n t
theorem Vals.none_of : ∀ {xs : List V} {us : List Value} {i : Nat}, Vals xs us → xs[i]? = none → us[i]? = none := fun {xs us i} r e => by
  have h1 := r.length
  have h2 : xs.length ≤ i := List.getElem?_eq_none_iff.mp e
  exact List.getElem?_eq_none_iff.mpr (by omega)

def RelO : Option V → Option Value → Prop
  | some v, some u => RelV v u
  | none, none => True
  | _, _ => False
def KV {κ : Type} : List (κ × V) → List (κ × Value) → Prop := Paired fun (p : κ × V) (q : κ × Value) => p.1 = q.1 ∧ RelV p.2 q.2

/-- a key of a dict (00_mix): an int or a text -/
def kV : Key → V
  | .inl i => .int i
  | .inr x => .str x

/-- what stands at a tracked address -/
inductive HO where
  /-- a list -/
  | lst (xs : List V)
  /-- a tuple (never changes) -/
  | tup (xs : List V)
  /-- a dict whose keys are ints and texts; one whose keys are tuples of ints and texts (the empty one is both) -/
  | dK (kvs : List (Key × V)) | dT (kvs : List (List Key × V))
  /-- a set of ints: its members, its size -/
  | set (S : Int → Bool) (n : Nat)
  /-- an instance of the class at C, its dict at dx, its attributes -/
  | ins (C dx : Addr) (fs : List (Str × V))
  /-- the dict of the instance at x -/
  | own (x : Addr)
  /-- the dict of an exception -/
  | xd (fs : List (Str × V))
  /-- a bound method, f of x -/
  | met (f x : Addr)
  /-- a range object lo, lo + 1, .. below hi -/
  | rng (lo hi : Int)
  /-- a thing that is known to the object (the script; a dict while a loop walks it): read, never written while it is so -/
  | frz (o : Obj) (u : HO)
  /-- a code object's table -/
  | tbl (ps : Array Value)
  /-- any other thing, by what is true of its one object (a def of one's own: SetO a S n := HO.ext fun h => ..) -/
  | ext (φ : Heap → Prop)

abbrev Hp := Addr → Option HO
def upd (H : Hp) (a : Addr) (o : HO) : Hp := fun b => if b = a then some o else H b
theorem upd_same {H : Hp} {a : Addr} {o : HO} : upd H a o a = some o := by unfold upd; rw [if_pos rfl]
theorem upd_ne {H : Hp} {a b : Addr} {o : HO} (h : b ≠ a) : upd H a o b = H b := by unfold upd; rw [if_neg h]
/-- two objects of different content stand apart -/
theorem ne_of {H : Hp} {a b : Addr} {o u : HO} (h : H a = some o) (h' : H b = some u) (d : o ≠ u) : a ≠ b := by
  intro e; subst e; rw [h] at h'; exact d (Option.some.inj h')
theorem ne_of_none {H : Hp} {a b : Addr} {o : HO} (h : H a = some o) (h' : H b = none) : a ≠ b := by
  intro e; subst e; rw [h] at h'; cases h'

section
variable (P : Program) (w : World)
def ObjOk (H : Hp) (h : Heap) (a : Addr) : HO → Prop
  | .lst xs => xs.length ≤ sizeLine ∧ ∃ (its : List Value) (n : Nat), Vals xs its ∧ h.get? a = some { cls := .type "list", data := .seq its.toArray n }
  | .tup xs => xs.length ≤ sizeLine ∧ ∃ its : List Value, Vals xs its ∧ IsTup h a its.toArray
  | .dK kvs => kvs.length ≤ sizeLine ∧ (a == sysModules) = false ∧ ∃ vs, KV kvs vs ∧ h.DictOf (mixKind P w) a vs
  | .dT kvs => kvs.length ≤ sizeLine ∧ (a == sysModules) = false ∧ ∃ xs : List (List Key × Addr × Value),
      Paired (fun (p : List Key × V) (q : List Key × Addr × Value) => p.1 = q.1 ∧ H q.2.1 = some (.tup (p.1.map kV)) ∧ RelV p.2 q.2.2) kvs xs ∧
      ∃ o es ep, h.get? a = some o ∧ o.ExactDict ∧ o.data = .dict es ep ∧ es.toList = xs.map (entryOfKey (tupleKind (mixKind P w))) ∧ (xs.map (·.1)).Nodup
  | .set S n => h.SetOf (intKind P w) a S n
  | .ins C dx fs => H dx = some (.own a) ∧ fs.length ≤ 1000 ∧ dx ≠ a ∧ h.get? a = some (PySem.W.instObj C dx) ∧
      ∃ mA, h.Ns1 dx mA ∧ (∀ f, RelO (fs.lookup f) (mA f)) ∧ PySem.Within mA (fs.map (·.1))
  | .own _ => ∃ o, h.get? a = some o
  | .xd fs => ∃ mA, h.Ns1 a mA ∧ ∀ f, RelO (fs.lookup f) (mA f)
  | .rng lo hi => ∃ t u v, h.get? a = some { cls := .type "range", data := .fields #[.int lo t, .int hi u, .int 1 v] }
  | .frz o u => h.get? a = some o ∧ ObjOk H h a u
  | .tbl ps => h.get? a = some { cls := .none, data := .fields ps }
  | .met f x => h.get? a = some (PySem.W.methodObj (.ref f) (.ref x))
  | .ext φ => φ h ∧ (∃ o, h.get? a = some o) ∧ ∀ h1 h2 : Heap, φ h1 → (∀ o, h1.get? a = some o → h2.get? a = some o) → φ h2
/-- the abstract heap is held -/
def HOk (H : Hp) (h : Heap) : Prop := ∀ a o, H a = some o → ObjOk P w H h a o
end

section
variable {P : Program} {w : World} {H H' : Hp} {h h' : Heap} {a : Addr} {o : HO}
theorem ObjOk.lt (x : ObjOk P w H h a o) : a < h.objs.size := by
  cases o with
  | lst xs => obtain ⟨_, _, _, _, e⟩ := x; exact Heap.lt_size e
  | tup xs => obtain ⟨_, _, _, p⟩ := x; exact p.lt
  | dK kvs => obtain ⟨_, _, _, _, o, _, _, e, _⟩ := x; exact Heap.lt_size e
  | dT kvs => obtain ⟨_, _, _, _, o, _, _, e, _⟩ := x; exact Heap.lt_size e
  | set S n => obtain ⟨o, _, _, _, e, _⟩ := x; exact Heap.lt_size e
  | ins C dx fs => obtain ⟨_, _, _, e, _⟩ := x; exact Heap.lt_size e
  | own y => obtain ⟨_, e⟩ := x; exact Heap.lt_size e
  | xd fs => obtain ⟨_, ⟨_, _, _, e, _⟩, _⟩ := x; exact Heap.lt_size e
  | rng lo hi => obtain ⟨_, _, _, e⟩ := x; exact Heap.lt_size e
  | frz ob u => obtain ⟨e, _⟩ := x; exact Heap.lt_size e
  | tbl ps => exact Heap.lt_size (show h.get? a = some _ from x)
  | met f y => exact Heap.lt_size (show h.get? a = some _ from x)
  | ext φ => obtain ⟨_, ⟨_, e⟩, _⟩ := x; exact Heap.lt_size e
theorem Paired.mapP {α β : Type} {F G : α → β → Prop} : ∀ {l₁ : List α} {l₂ : List β}, Paired F l₁ l₂ → (∀ a b, F a b → G a b) → Paired G l₁ l₂
  | _, _, .nil, _ => .nil
  | _, _, .cons r t, f => .cons (f _ _ r) (Paired.mapP t f)
/-- what an object's description leans on: its own object, its own dict, the tuples -/
theorem ObjOk.stay (x : ObjOk P w H h a o) (k : ∀ b u, (b = a ∨ H b = some (.own a)) → h.get? b = some u → h'.get? b = some u)
    (ho : ∀ b, H b = some (.own a) → H' b = some (.own a)) (ht : ∀ b xs, H b = some (.tup xs) → H' b = some (.tup xs)) : ObjOk P w H' h' a o := by
  induction o with
  | lst xs => obtain ⟨z, its, n, r, e⟩ := x; exact ⟨z, its, n, r, k _ _ (.inl rfl) e⟩
  | tup xs => obtain ⟨z, its, r, ob, e, c⟩ := x; exact ⟨z, its, r, ob, k _ _ (.inl rfl) e, c⟩
  | dK kvs => obtain ⟨z, y, vs, r, ob, es, ep, e, c⟩ := x; exact ⟨z, y, vs, r, ob, es, ep, k _ _ (.inl rfl) e, c⟩
  | dT kvs =>
    obtain ⟨z, y, xs, r, ob, es, ep, e, c⟩ := x
    exact ⟨z, y, xs, Paired.mapP r fun p q z => ⟨z.1, ht _ _ z.2.1, z.2.2⟩, ob, es, ep, k _ _ (.inl rfl) e, c⟩
  | set S n => obtain ⟨ob, es, ep, t, e, c⟩ := x; exact ⟨ob, es, ep, t, k _ _ (.inl rfl) e, c⟩
  | ins C dx fs =>
    obtain ⟨d, z, ne, e, mA, ⟨od, es, ep, e2, c⟩, r⟩ := x
    exact ⟨ho _ d, z, ne, k _ _ (.inl rfl) e, mA, ⟨od, es, ep, k _ _ (.inr d) e2, c⟩, r⟩
  | own y => obtain ⟨ob, e⟩ := x; exact ⟨ob, k _ _ (.inl rfl) e⟩
  | xd fs => obtain ⟨mA, ⟨od, es, ep, e, c⟩, r⟩ := x; exact ⟨mA, ⟨od, es, ep, k _ _ (.inl rfl) e, c⟩, r⟩
  | rng lo hi => obtain ⟨t, u, v, e⟩ := x; exact ⟨t, u, v, k _ _ (.inl rfl) e⟩
  | frz ob u ih => obtain ⟨e, q⟩ := x; exact ⟨k _ _ (.inl rfl) e, ih q⟩
  | tbl ps =>
    have e : h.get? a = some { cls := .none, data := .fields ps } := x
    show h'.get? a = some { cls := .none, data := .fields ps }
    exact k a _ (.inl rfl) e
  | met f y =>
    have e : h.get? a = some (PySem.W.methodObj (.ref f) (.ref y)) := x
    show h'.get? a = some (PySem.W.methodObj (.ref f) (.ref y))
    exact k a _ (.inl rfl) e
  | ext φ => obtain ⟨p, ⟨o, e⟩, st⟩ := x; exact ⟨st _ _ p fun o q => k _ _ (.inl rfl) q, ⟨o, k _ _ (.inl rfl) e⟩, st⟩
theorem HOk.lt (x : HOk P w H h) (e : H a = some o) : a < h.objs.size := (x a o e).lt
theorem HOk.fresh (x : HOk P w H h) (e : h.objs.size ≤ a) : H a = none := by
  cases q : H a with
  | none => rfl
  | some u => exact absurd (Nat.lt_of_lt_of_le (x.lt q) e) (Nat.lt_irrefl _)
/-- every object of the heap is kept -/
theorem HOk.kept (x : HOk P w H h) (k : ∀ b u, h.get? b = some u → h'.get? b = some u) : HOk P w H h' := fun a o e =>
  (x a o e).stay (fun b u _ q => k b u q) (fun _ q => q) fun _ _ q => q
/-- a new object is laid and tracked -/
theorem HOk.laid (x : HOk P w H h) (k : ∀ b u, h.get? b = some u → h'.get? b = some u) (hp : h.objs.size ≤ a) (new : ObjOk P w (upd H a o) h' a o) : HOk P w (upd H a o) h' := fun b u e => by
  have hn := x.fresh hp
  by_cases hb : b = a
  · subst hb; rw [upd_same] at e; cases e; exact new
  · rw [upd_ne hb] at e
    exact (x b u e).stay (fun c v _ q => k c v q) (fun c q => by rw [upd_ne (ne_of_none q hn)]; exact q) fun c xs q => by rw [upd_ne (ne_of_none q hn)]; exact q
end

/-- what may be read as u: it is u, or a known u -/
def Rd (H : Hp) (a : Addr) (u : HO) : Prop := H a = some u ∨ ∃ o, H a = some (.frz o u)
theorem Rd.of {H : Hp} {a : Addr} {u : HO} (h : H a = some u) : Rd H a u := .inl h
theorem Rd.ok {P : Program} {w : World} {H : Hp} {h : Heap} {a : Addr} {u : HO} (r : Rd H a u) (x : HOk P w H h) : ObjOk P w H h a u := by
  rcases r with r | ⟨o, r⟩
  · exact x a u r
  · obtain ⟨_, q⟩ := x a _ r
    exact q
/-- what may be written -/
def Mut : Option HO → Prop
  | some (.lst _) => True
  | some (.dK _) => True
  | some (.dT _) => True
  | some (.set _ _) => True
  | some (.ins _ _ _) => True
  | some (.ext _) => True
  | _ => False
section
variable {P : Program} {w : World} {H : Hp} {h h' : Heap} {x e : Addr} {o' : HO}
/-- the object at e is changed: x itself, or the dict of the instance x -/
theorem HOk.write (ok : HOk P w H h) (mu : Mut (H x)) (he : e = x ∨ H e = some (.own x)) (k : ∀ b u, b ≠ e → h.get? b = some u → h'.get? b = some u) (heo : ∃ u, h'.get? e = some u)
    (new : ObjOk P w (upd H x o') h' x o') : HOk P w (upd H x o') h' := fun b u q => by
  have nown : ∀ c y, H c = some (.own y) → c ≠ x := fun c y r z => by subst z; rw [r] at mu; exact mu
  have ntup : ∀ c xs, H c = some (.tup xs) → c ≠ x := fun c xs r z => by subst z; rw [r] at mu; exact mu
  by_cases hb : b = x
  · subst hb; rw [upd_same] at q; cases q; exact new
  · rw [upd_ne hb] at q
    by_cases hbe : b = e
    · have q' : H b = some (.own x) := by
        rcases he with z | z
        · exact absurd (hbe.trans z) hb
        · rw [hbe]; exact z
      rw [q] at q'; cases q'
      obtain ⟨v, hv⟩ := heo
      exact ⟨v, by rw [hbe]; exact hv⟩
    · refine (ok b u q).stay (fun c v hc r => k c v ?_ r) (fun c r => by rw [upd_ne (nown c b r)]; exact r) fun c xs r => by rw [upd_ne (ntup c xs r)]; exact r
      rcases hc with rfl | hc
      · exact hbe
      · rintro rfl
        rcases he with z | z
        · exact nown c b hc z
        · rw [hc] at z; cases z; exact hb rfl
end

/-! ### kept unless tracked; of the frames at fs (the callers') the slots may change (an exception that passes writes there); of the records at ex (iterators) nothing is said -/
structure Un (fs ex : List Addr) (H H' : Hp) (h h' : Heap) : Prop where
  keep : ∀ b o, h.get? b = some o → H b = none → b ∉ fs → b ∉ ex → h'.get? b = some o
  slot : ∀ b o, h.get? b = some o → H b = none → b ∈ fs → b ∉ ex → ∃ sl, h'.get? b = some { o with slots := sl }
  free : ∀ b o, h.get? b = some o → H b = none → b ∉ ex → H' b = none
  there : ∀ b o, h.get? b = some o → b ∉ ex → ∃ o', h'.get? b = some o'
  tups : ∀ b xs, H b = some (.tup xs) → H' b = some (.tup xs)
  frzs : ∀ b o u, H b = some (.frz o u) → H' b = some (.frz o u)
  tbls : ∀ b ps, H b = some (.tbl ps) → ∃ more, H' b = some (.tbl (ps ++ more))
section
variable {fs fs' ex ex' : List Addr} {H H1 H2 : Hp} {h h1 h2 h' : Heap} {a x e : Addr} {o : HO}
theorem Un.any (u : Un fs ex H H1 h h1) {b : Addr} {ob : Obj} (q : h.get? b = some ob) (n : H b = none) (hx : b ∉ ex) : ∃ sl, h1.get? b = some { ob with slots := sl } := by
  by_cases hb : b ∈ fs
  · exact u.slot b ob q n hb hx
  · exact ⟨ob.slots, u.keep b ob q n hb hx⟩
theorem Un.trans (a : Un fs ex H H1 h h1) (b : Un fs ex H1 H2 h1 h2) : Un fs ex H H2 h h2 where
  keep := fun c ob q n hc hx => b.keep c ob (a.keep c ob q n hc hx) (a.free c ob q n hx) hc hx
  slot := fun c ob q n hc hx => by
    obtain ⟨sl, e1⟩ := a.slot c ob q n hc hx
    obtain ⟨sl', e2⟩ := b.slot c _ e1 (a.free c ob q n hx) hc hx
    exact ⟨sl', e2⟩
  free := fun c ob q n hx => by
    obtain ⟨o', e1⟩ := a.there c ob q hx
    exact b.free c o' e1 (a.free c ob q n hx) hx
  there := fun c ob q hx => by
    obtain ⟨o', e1⟩ := a.there c ob q hx
    exact b.there c o' e1 hx
  tups := fun c xs q => b.tups c xs (a.tups c xs q)
  frzs := fun c ob xs q => b.frzs c ob xs (a.frzs c ob xs q)
  tbls := fun c ps q => by
    obtain ⟨m1, e1⟩ := a.tbls c ps q
    obtain ⟨m2, e2⟩ := b.tbls c _ e1
    exact ⟨m1 ++ m2, by rw [e2, Array.append_assoc]⟩
theorem Un.kept (k : ∀ b u, h.get? b = some u → h'.get? b = some u) : Un fs ex H H h h' :=
  ⟨fun b ob q _ _ _ => k b ob q, fun b ob q _ _ _ => ⟨ob.slots, k b ob q⟩, fun _ _ _ n _ => n, fun b ob q _ => ⟨ob, k b ob q⟩, fun _ _ q => q, fun _ _ _ q => q, fun _ ps q => ⟨#[], by rw [q]; simp⟩⟩
theorem Un.refl : Un fs ex H H h h := Un.kept fun _ _ q => q
theorem Un.laid (k : ∀ b u, h.get? b = some u → h'.get? b = some u) (hp : h.objs.size ≤ a) (hn : H a = none) : Un fs ex H (upd H a o) h h' where
  keep := fun b u q _ _ _ => k b u q
  slot := fun b u q _ _ _ => ⟨u.slots, k b u q⟩
  free := fun b u q n _ => by rw [upd_ne (Nat.ne_of_lt (Nat.lt_of_lt_of_le (Heap.lt_size q) hp))]; exact n
  there := fun b u q _ => ⟨u, k b u q⟩
  tups := fun b xs q => by rw [upd_ne (ne_of_none q hn)]; exact q
  frzs := fun b u xs q => by rw [upd_ne (ne_of_none q hn)]; exact q
  tbls := fun b ps q => ⟨#[], by rw [upd_ne (ne_of_none q hn), q]; simp⟩
theorem Un.write (mu : Mut (H x)) (he : e = x ∨ H e = some (.own x)) (k : ∀ b u, b ≠ e → h.get? b = some u → h'.get? b = some u) (heo : ∃ u, h'.get? e = some u) : Un fs ex H (upd H x o) h h' := by
  have hx : ∀ b, H b = none → b ≠ x := fun b n z => by subst z; rw [n] at mu; exact mu
  have hb : ∀ b, H b = none → b ≠ e := fun b n z => by
    subst z
    rcases he with r | r
    · exact hx b n r
    · rw [n] at r; cases r
  have hm : ∀ b u, H b = some u → ¬ Mut (some u) → b ≠ x := fun b u q nm z => by subst z; rw [q] at mu; exact nm mu
  refine ⟨fun b u q n _ _ => k b u (hb b n) q, fun b u q n _ _ => ⟨u.slots, k b u (hb b n) q⟩, fun b u q n _ => by rw [upd_ne (hx b n)]; exact n, fun b u q _ => ?_,
    fun b xs q => by rw [upd_ne (hm b _ q fun z => z)]; exact q, fun b u xs q => by rw [upd_ne (hm b _ q fun z => z)]; exact q, fun b ps q => ⟨#[], by rw [upd_ne (hm b _ q fun z => z), q]; simp⟩⟩
  by_cases hbe : b = e
  · subst hbe; exact heo
  · exact ⟨u, k b u hbe q⟩
theorem Un.mono (u : Un fs ex H H1 h h1) (hs : ∀ b ∈ fs, b ∈ fs') (hx : ∀ b ∈ ex, b ∈ ex') : Un fs' ex' H H1 h h1 :=
  ⟨fun b ob q n hb he => u.keep b ob q n (fun z => hb (hs b z)) fun z => he (hx b z), fun _ _ q n _ he => u.any q n fun z => he (hx _ z), fun b ob q n he => u.free b ob q n fun z => he (hx b z), fun b ob q he => u.there b ob q fun z => he (hx b z), u.tups, u.frzs, u.tbls⟩
end

/-! ### the heap without what is tracked -/
def trk (h : Heap) (H : Hp) : List Addr := (List.range h.objs.size).filter fun a => (H a).isSome
def hidT (h : Heap) (H : Hp) : Heap := PySem.W.hideAll h (trk h H)
theorem hidT_size (h : Heap) (H : Hp) : (hidT h H).objs.size = h.objs.size := PySem.W.hideAll_size _ _
theorem hidT_get {h : Heap} {H : Hp} {b : Addr} {o : Obj} (e : h.get? b = some o) (n : H b = none) : (hidT h H).get? b = some o :=
  PySem.W.hideAll_get _ e fun hm => by
    have q : (H b).isSome = true := (List.mem_filter.mp hm).2
    rw [n] at q; simp at q
theorem of_hidT {h : Heap} {H : Hp} {b : Addr} {o : Obj} (e : (hidT h H).get? b = some o) : h.get? b = some o ∧ H b = none := by
  have e' : h.get? b = some o := PySem.W.of_hideAll (trk h H) e
  refine ⟨e', ?_⟩
  cases q : H b with
  | none => rfl
  | some x =>
    have hm : b ∈ trk h H := List.mem_filter.mpr ⟨List.mem_range.mpr (Heap.lt_size e'), by simp [q]⟩
    have z : (hidT h H).get? b = none := PySem.W.hideAll_none (trk h H) hm
    rw [z] at e; cases e

/-! ### OpenK's ledger, filled with every new object but one -/
def allNews (g h : Heap) (L : Addr) : List (Addr × Obj) := (List.range h.objs.size).filterMap fun a => if a = L ∨ (g.get? a).isSome = true then none else (h.get? a).map fun o => (a, o)
def rest (g h : Heap) (L d : Addr) : List (Addr × Obj) := (allNews g h L).filter fun p => decide (p.1 ≠ d)
end L2

namespace L2
open PySem PySem.Spec PyProof.Rows

/-- the module's facts, over the base: the heap at the law's entry without what is tracked there -/
structure Mod (K : PySem.W.Frag) (mg : Str → Option Value) (base : Heap) : Prop where
  kin : K.In base
  glob : base.Ns mainGlobals mg
  blt : ∃ mb, base.Ns builtinsNs mb ∧ ∀ x : Str, x ≠ "__name__" → mb x = bootBuiltins x
  nolimit : base.NoLimit

/-- the context: a def's body (or a comprehension's block) running. base: fixed through the whole law; s₀, H₀: the entry; outer: the frames whose slots others may change (a def's callers); stack: all frames that run;
   ex: iterators that were made ahead of the entry and are walked here (a comprehension's); fn: the names whose cells were made at the entry (a def: all; a comprehension's block: its own); calm: not within an except suite; pn: pins that every state bears; xe: what is wanted of an exception that leaves the code -/
structure Cx where
  prog : Program
  w : World
  K : PySem.W.Frag
  mg : Str → Option Value
  base : Heap
  A : Around
  N : List Str
  s₀ : Shared
  H₀ : Hp
  env : Env
  outer : List Env
  stack : List Env
  ex : List Addr
  fn : Str → Bool
  calm : Bool
  pn : List (Addr × Obj)
  xe : Value → Shared → Prop
/-- the callers' frames -/
def frs (l : List Env) : List Addr := l.filterMap (·.frame)
abbrev Cx.fs (X : Cx) : List Addr := frs X.outer

def Vis (sc : Scope) (x : Str) : Prop := sc.names.lookup x = some .local ∨ sc.names.lookup x = some .cell ∨ sc.names.lookup x = some .free
def Loc (sc : Scope) (x : Str) : Prop := sc.names.lookup x = some .local ∨ sc.names.lookup x = some .cell
def Look (env : Env) (h : Heap) (m : Str → Option Value) (x : Str) (u : Value) : Prop :=
  (env.kindOf x = some .local ∧ m x = some u) ∨ ((env.kindOf x = some .cell ∨ env.kindOf x = some .free) ∧ ∃ c, env.cells.lookup x = some c ∧ h.IsCell c (some u))

structure Cx.Ok (X : Cx) : Prop where
  mod : Mod X.K X.mg X.base
  kind : X.env.scope.kind = .function
  glob : X.env.globals = mainGlobals
  blt : X.env.builtins = builtinsNs
  above : X.s₀.heap.objs.size ≤ X.env.locals
  inj : ∀ x y c, X.env.cells.lookup x = some c → X.env.cells.lookup y = some c → x = y
  has : ∀ x, (X.env.kindOf x = some .cell ∨ X.env.kindOf x = some .free) → ∃ c, X.env.cells.lookup x = some c
  cab : ∀ x c, X.fn x = true → X.env.cells.lookup x = some c → X.s₀.heap.objs.size ≤ c
  hd : X.calm = true → X.A.handled = none
  frames : X.A.frames = some X.stack
  stk : X.stack = X.outer ∨ (X.stack = X.env :: X.outer ∧ X.env.frame = some X.env.locals)
  exf : ∀ b ∈ X.ex, b ≠ X.env.locals ∧ ∀ x c, X.env.cells.lookup x = some c → c ≠ b
  bs : ∀ b o, X.base.get? b = some o → X.s₀.heap.get? b = some o ∧ X.H₀ b = none
  bsz : X.base.objs.size ≤ X.s₀.heap.objs.size
  noex : ∀ b o, X.base.get? b = some o → b ∉ X.ex
  exfs : ∀ b ∈ X.ex, b ∉ X.fs
  funs : X.s₀.heap.FunFrames X.base X.outer
  frf : ∀ b ∈ X.fs, X.H₀ b = none

structure Inv (X : Cx) (pins : List (Addr × Obj)) (σ : List (Option V)) (H : Hp) (s : Shared) : Prop where
  ok : X.Ok
  os : s.os = X.s₀.os
  bare : AllBare s.gens
  base : Un X.fs X.ex X.H₀ H X.s₀.heap s.heap
  loc : ∃ m, s.heap.Ns X.env.locals m ∧ ∀ (i : Nat) (x : Str) (v : V), X.N[i]? = some x → σ[i]? = some (some v) → Vis X.env.scope x → ∃ u, RelV v u ∧ Look X.env s.heap m x u
  cell : ∀ x c, X.env.cells.lookup x = some c → ∃ v, s.heap.IsCell c v
  free : H X.env.locals = none
  freeC : ∀ x c, X.env.cells.lookup x = some c → H c = none
  pin : ∀ p ∈ X.pn ++ pins, s.heap.get? p.1 = some p.2 ∧ H p.1 = none ∧ p.1 ≠ X.env.locals ∧ p.1 ∉ X.fs ∧ ∀ v, p.2.data ≠ .cell v
  hok : HOk X.prog X.w H s.heap
  len : σ.length = X.N.length

section
variable {X : Cx} {pins : List (Addr × Obj)} {σ : List (Option V)} {H H' : Hp} {s : Shared} {h' : Heap}

theorem Cx.Ok.nofr (ok : X.Ok) {b : Addr} {o : Obj} (e : X.base.get? b = some o) : b ∉ X.fs := fun hb => by
  have := (ok.funs.mem hb).1
  rw [e] at this; cases this
theorem Inv.bs (I : Inv X pins σ H s) : ∀ b o, X.base.get? b = some o → s.heap.get? b = some o ∧ H b = none := fun b o e =>
  ⟨I.base.keep b o (I.ok.bs b o e).1 (I.ok.bs b o e).2 (I.ok.nofr e) (I.ok.noex b o e), I.base.free b o (I.ok.bs b o e).1 (I.ok.bs b o e).2 (I.ok.noex b o e)⟩
theorem Inv.bk (I : Inv X pins σ H s) : ∀ b o, X.base.get? b = some o → s.heap.get? b = some o := fun b o e => (I.bs b o e).1
theorem Inv.mod (I : Inv X pins σ H s) : Mod X.K X.mg X.base := I.ok.mod
theorem Inv.kIn (I : Inv X pins σ H s) : X.K.In s.heap := I.ok.mod.kin.keeps I.bk
theorem Inv.nolimit (I : Inv X pins σ H s) : s.heap.NoLimit := I.ok.mod.nolimit.keeps I.bk
/-- the frame over the base: for OpenK's rules (K.In X.base is I.mod.kin) -/
theorem Inv.fr (I : Inv X pins σ H s) : ∃ m, Fr X.base X.env.locals s.heap m :=
  let ⟨m, hn, _⟩ := I.loc
  ⟨m, hn, I.bk, Nat.le_trans I.ok.bsz I.ok.above⟩
theorem Inv.lt (I : Inv X pins σ H s) : X.env.locals < s.heap.objs.size := let ⟨_, hn, _⟩ := I.loc; hn.lt
theorem Inv.sz (I : Inv X pins σ H s) : X.s₀.heap.objs.size ≤ s.heap.objs.size := Nat.le_trans I.ok.above (Nat.le_of_lt I.lt)
theorem Inv.nofs (I : Inv X pins σ H s) {a : Addr} (h : s.heap.objs.size ≤ a) : a ∉ X.fs := fun hb => by
  obtain ⟨_, o, ho, _⟩ := I.ok.funs.mem hb
  exact absurd (Nat.lt_of_lt_of_le (Heap.lt_size ho) (Nat.le_trans I.sz h)) (Nat.lt_irrefl _)
theorem Inv.cne (I : Inv X pins σ H s) : ∀ x c, X.env.cells.lookup x = some c → c ≠ X.env.locals := fun x c e z => by
  obtain ⟨v, o, ho, hd⟩ := I.cell x c e
  obtain ⟨m, ⟨o', es, ep, ho', hd', _⟩, _⟩ := I.loc
  rw [z, ho'] at ho; cases ho; rw [hd'] at hd; cases hd
theorem Inv.funs (I : Inv X pins σ H s) : s.heap.FunFrames X.base X.outer := by
  have all : ∀ (l : List Env), (∀ b ∈ frs l, b ∈ X.fs) → X.s₀.heap.FunFrames X.base l → s.heap.FunFrames X.base l := by
    intro l
    induction l with
    | nil => intro _ _; trivial
    | cons env r ih =>
      intro hs hl
      obtain ⟨hk, ⟨L, o, hf, hn, ho, hd⟩, hr⟩ := hl
      have hL : L ∈ X.fs := hs L (by unfold frs; rw [List.filterMap_cons, hf]; exact List.mem_cons_self)
      obtain ⟨sl, e⟩ := I.base.slot L o ho (I.ok.frf L hL) hL fun z => I.ok.exfs L z hL
      exact ⟨hk, ⟨L, _, hf, hn, e, hd⟩, ih (fun b hb => hs b (by unfold frs; rw [List.filterMap_cons, hf]; exact List.mem_cons_of_mem _ hb)) hr⟩
  exact all X.outer (fun _ hb => hb) I.ok.funs

/-- the frames that run, for a call -/
theorem Inv.stack (I : Inv X pins σ H s) : s.heap.FunFrames X.base X.stack := by
  rcases I.ok.stk with e | ⟨e, hf⟩
  · rw [e]; exact I.funs
  · rw [e]
    obtain ⟨m, hn, _⟩ := I.loc
    refine .cons (by rw [I.ok.kind]; decide) hf hn ?_ I.funs
    exact Heap.get?_none_of_le (Nat.le_trans I.ok.bsz I.ok.above)
theorem Inv.stkSub (I : Inv X pins σ H s) : ∀ b ∈ frs X.stack, b ∈ X.env.locals :: X.fs := fun b hb => by
  rcases I.ok.stk with e | ⟨e, hf⟩
  · rw [e] at hb; exact List.mem_cons_of_mem _ hb
  · rw [e] at hb
    unfold frs at hb
    rw [List.filterMap_cons, hf] at hb
    exact hb
theorem Inv.stkFree (I : Inv X pins σ H s) : ∀ b ∈ frs X.stack, H b = none := fun b hb => by
  rcases List.mem_cons.mp (I.stkSub b hb) with e | hb
  · rw [e]; exact I.free
  · obtain ⟨_, o, ho, _⟩ := I.ok.funs.mem hb
    exact I.base.free b o ho (I.ok.frf b hb) fun z => I.ok.exfs b z hb

/-- THE STEP: the untracked objects but the frame and the records at ch are kept (the callers' frames up to slots), the frame's map is kept, the new abstract heap is held -/
theorem Inv.step {g' : Array GenState} {t' : Nat} {d' : Drawn} {ch : List Addr} (I : Inv X pins σ H s)
    (hch : ∀ b ∈ ch, (b ∈ X.ex ∨ X.s₀.heap.objs.size ≤ b) ∧ b ≠ X.env.locals ∧ (∀ x c, X.env.cells.lookup x = some c → c ≠ b) ∧ ∀ p ∈ X.pn ++ pins, p.1 ≠ b)
    (keep : ∀ b o, b ≠ X.env.locals → b ∉ X.fs → b ∉ ch → s.heap.get? b = some o → H b = none → h'.get? b = some o)
    (slot : ∀ b o, b ≠ X.env.locals → b ∈ X.fs → b ∉ ch → s.heap.get? b = some o → H b = none → ∃ sl, h'.get? b = some { o with slots := sl }) (free : ∀ b o, b ∉ ch → s.heap.get? b = some o → H b = none → H' b = none)
    (there : ∀ b o, b ∉ ch → s.heap.get? b = some o → ∃ o', h'.get? b = some o')
    (tups : ∀ b xs, H b = some (.tup xs) → H' b = some (.tup xs)) (frzs : ∀ b o u, H b = some (.frz o u) → H' b = some (.frz o u)) (tbls : ∀ b ps, H b = some (.tbl ps) → ∃ more, H' b = some (.tbl (ps ++ more)))
    (ns : ∀ m, s.heap.Ns X.env.locals m → h'.Ns X.env.locals m) (hok : HOk X.prog X.w H' h') (hg : AllBare g') :
    Inv X pins σ H' { s with heap := h', gens := g', drawn := d', toks := t' } := by
  have neL : ∀ b o, X.s₀.heap.get? b = some o → b ≠ X.env.locals := fun b o e => Nat.ne_of_lt (Nat.lt_of_lt_of_le (Heap.lt_size e) I.ok.above)
  have neC : ∀ b o, X.s₀.heap.get? b = some o → b ∉ X.ex → b ∉ ch := fun b o e hx hb => by
    rcases (hch b hb).1 with z | z
    · exact hx z
    · exact absurd (Nat.lt_of_lt_of_le (Heap.lt_size e) z) (Nat.lt_irrefl _)
  have cellK : ∀ x c, X.env.cells.lookup x = some c → ∀ v, s.heap.IsCell c v → h'.IsCell c v := fun x c e v ⟨o, ho, hd⟩ => by
    have nch : c ∉ ch := fun z => (hch c z).2.2.1 x c e rfl
    by_cases hc : c ∈ X.fs
    · obtain ⟨sl, q⟩ := slot c o (I.cne x c e) hc nch ho (I.freeC x c e)
      exact ⟨_, q, hd⟩
    · exact ⟨o, keep c o (I.cne x c e) hc nch ho (I.freeC x c e), hd⟩
  refine ⟨I.ok, I.os, hg, ⟨fun b o e n hb hx => ?_, fun b o e n hb hx => ?_, fun b o e n hx => ?_, fun b o e hx => ?_, fun b xs e => tups b xs (I.base.tups b xs e), fun b o xs e => frzs b o xs (I.base.frzs b o xs e), fun b ps e => ?_⟩, ?_, fun x c e => ?_, ?_, fun x c e => ?_, fun p hp => ?_, hok, I.len⟩
  · exact keep b o (neL b o e) hb (neC b o e hx) (I.base.keep b o e n hb hx) (I.base.free b o e n hx)
  · obtain ⟨sl, e1⟩ := I.base.slot b o e n hb hx
    obtain ⟨sl', e2⟩ := slot b _ (neL b o e) hb (neC b o e hx) e1 (I.base.free b o e n hx)
    exact ⟨sl', e2⟩
  · obtain ⟨o', e1⟩ := I.base.there b o e hx
    exact free b o' (neC b o e hx) e1 (I.base.free b o e n hx)
  · obtain ⟨o', e1⟩ := I.base.there b o e hx
    exact there b o' (neC b o e hx) e1
  · obtain ⟨m1, e1⟩ := I.base.tbls b ps e
    obtain ⟨m2, e2⟩ := tbls b _ e1
    exact ⟨m1 ++ m2, by rw [e2, Array.append_assoc]⟩
  · obtain ⟨m, hn, hl⟩ := I.loc
    refine ⟨m, ns m hn, fun i x v e1 e2 e3 => ?_⟩
    obtain ⟨u, r, l⟩ := hl i x v e1 e2 e3
    refine ⟨u, r, ?_⟩
    rcases l with l | ⟨k, c, e, z⟩
    · exact .inl l
    · exact .inr ⟨k, c, e, cellK x c e _ z⟩
  · obtain ⟨v, z⟩ := I.cell x c e
    exact ⟨v, cellK x c e v z⟩
  · obtain ⟨m, ⟨o, _, _, ho, _⟩, _⟩ := I.loc
    exact free _ o (fun z => (hch _ z).2.1 rfl) ho I.free
  · obtain ⟨v, o, ho, hd⟩ := I.cell x c e
    exact free c o (fun z => (hch c z).2.2.1 x c e rfl) ho (I.freeC x c e)
  · obtain ⟨e, n, ne, nf, d⟩ := I.pin p hp
    have nch : p.1 ∉ ch := fun z => (hch p.1 z).2.2.2 p hp rfl
    exact ⟨keep p.1 p.2 ne nf nch e n, free p.1 p.2 nch e n, ne, nf, d⟩
/-- .. where the frame's own object is kept too -/
theorem Inv.un {t' : Nat} (I : Inv X pins σ H s) (u : Un X.fs [] H H' s.heap h') (hok : HOk X.prog X.w H' h') : Inv X pins σ H' { s with heap := h', toks := t' } := by
  obtain ⟨m, ⟨o, es, ep, ho, r⟩, _⟩ := id I.loc
  obtain ⟨sl, hL⟩ := u.any ho I.free (by simp)
  exact I.step (g' := s.gens) (d' := s.drawn) (ch := []) (fun _ z => nomatch z) (fun b o _ hb _ e n => u.keep b o e n hb (by simp)) (fun b o _ hb _ e n => u.slot b o e n hb (by simp)) (fun b o _ e n => u.free b o e n (by simp)) (fun b o _ e => u.there b o e (by simp)) u.tups u.frzs u.tbls (fun m' hm => by
    obtain ⟨o', es', ep', ho', r'⟩ := hm
    rw [ho] at ho'; cases ho'
    exact ⟨_, es', ep', hL, r'⟩) hok I.bare
/-- behind a call (or a comprehension's block): the slots of this frame may have changed too, the records at ch may have turned -/
theorem Inv.call {g' : Array GenState} {t' : Nat} {d' : Drawn} {ch : List Addr} (I : Inv X pins σ H s) (u : Un (frs X.stack) ch H H' s.heap h') (hok : HOk X.prog X.w H' h') (hg : AllBare g')
    (hch : ∀ b ∈ ch, (b ∈ X.ex ∨ X.s₀.heap.objs.size ≤ b) ∧ b ≠ X.env.locals ∧ (∀ x c, X.env.cells.lookup x = some c → c ≠ b) ∧ ∀ p ∈ X.pn ++ pins, p.1 ≠ b) :
    Inv X pins σ H' { s with heap := h', gens := g', drawn := d', toks := t' } := by
  obtain ⟨m, ⟨o, es, ep, ho, r⟩, _⟩ := id I.loc
  obtain ⟨sl, hL⟩ := u.any ho I.free fun z => (hch _ z).2.1 rfl
  exact I.step (ch := ch) hch (fun b o hL hb hc e n => u.keep b o e n (fun z => (List.mem_cons.mp (I.stkSub b z)).elim hL hb) hc) (fun b o _ _ hc e n => u.any e n hc) (fun b o hc e n => u.free b o e n hc) (fun b o hc e => u.there b o e hc) u.tups u.frzs u.tbls (fun m' hm => by
    obtain ⟨o', es', ep', ho', r'⟩ := hm
    rw [ho] at ho'; cases ho'
    exact ⟨_, es', ep', hL, r'⟩) hok hg
/-- an untracked record of ours (an iterator) has turned -/
theorem Inv.turned {t' : Nat} {it : Addr} (I : Inv X pins σ H s) (k : ∀ b o, b ≠ it → s.heap.get? b = some o → h'.get? b = some o) (hn : H it = none) (hL : it ≠ X.env.locals)
    (h1 : it ∈ X.ex ∨ X.s₀.heap.objs.size ≤ it) (h2 : ∀ x c, X.env.cells.lookup x = some c → c ≠ it) (h3 : ∀ p ∈ X.pn ++ pins, p.1 ≠ it) : Inv X pins σ H { s with heap := h', toks := t' } := by
  have nit : ∀ b u, H b = some u → b ≠ it := fun b u e z => by rw [z, hn] at e; cases e
  refine I.step (g' := s.gens) (d' := s.drawn) (ch := [it]) (fun b hb => ?_) (fun b o _ _ hc e _ => k b o (fun z => hc (by simp [z])) e) (fun b o _ _ hc e _ => ⟨o.slots, k b o (fun z => hc (by simp [z])) e⟩) (fun _ _ _ _ n => n)
    (fun b o hc e => ⟨o, k b o (fun z => hc (by simp [z])) e⟩) (fun _ _ e => e) (fun _ _ _ e => e) (fun b ps e => ⟨#[], by rw [e]; simp⟩) (fun m hm => ?_) (fun b u e => ?_) I.bare
  · have e : b = it := by simpa using hb
    subst e
    exact ⟨h1, hL, h2, h3⟩
  · obtain ⟨o, es, ep, ho, r⟩ := hm
    exact ⟨o, es, ep, k _ o (Ne.symm hL) ho, r⟩
  · refine (I.hok b u e).stay (fun c v hc q => k c v ?_ q) (fun _ q => q) fun _ _ q => q
    rcases hc with z | z
    · rw [z]; exact nit b u e
    · exact nit c _ z
theorem Inv.tok (I : Inv X pins σ H s) (t : Nat) : Inv X pins σ H { s with toks := t } := I.un (h' := s.heap) (t' := t) Un.refl I.hok
/-- all objects kept -/
theorem Inv.kept {t' : Nat} (I : Inv X pins σ H s) (k : ∀ b u, s.heap.get? b = some u → h'.get? b = some u) : Inv X pins σ H { s with heap := h', toks := t' } := I.un (Un.kept k) (I.hok.kept k)
/-- a new object laid and tracked -/
theorem Inv.laid {a : Addr} {o : HO} {t' : Nat} (I : Inv X pins σ H s) (k : ∀ b u, s.heap.get? b = some u → h'.get? b = some u) (hp : s.heap.objs.size ≤ a) (new : ObjOk X.prog X.w (upd H a o) h' a o) :
    Inv X pins σ (upd H a o) { s with heap := h', toks := t' } := I.un (Un.laid k hp (I.hok.fresh hp)) (I.hok.laid k hp new)
/-- an object written -/
theorem Inv.write {x e : Addr} {o : HO} {t' : Nat} (I : Inv X pins σ H s) (mu : Mut (H x)) (he : e = x ∨ H e = some (.own x)) (k : ∀ b u, b ≠ e → s.heap.get? b = some u → h'.get? b = some u) (heo : ∃ u, h'.get? e = some u)
    (new : ObjOk X.prog X.w (upd H x o) h' x o) : Inv X pins σ (upd H x o) { s with heap := h', toks := t' } := I.un (Un.write mu he k heo) (I.hok.write mu he k heo new)
theorem Inv.pins_of {pins' : List (Addr × Obj)} (I : Inv X pins σ H s) (h : ∀ p ∈ pins', s.heap.get? p.1 = some p.2 ∧ H p.1 = none ∧ p.1 ≠ X.env.locals ∧ p.1 ∉ X.fs ∧ ∀ v, p.2.data ≠ .cell v) : Inv X pins' σ H s :=
  ⟨I.ok, I.os, I.bare, I.base, I.loc, I.cell, I.free, I.freeC, fun p hp => (List.mem_append.mp hp).elim (fun z => I.pin p (List.mem_append_left _ z)) (h p), I.hok, I.len⟩

theorem nodup_ix {N : List Str} (hN : N.Nodup) {i j : Nat} {x : Str} (a : N[i]? = some x) (b : N[j]? = some x) : i = j := by
  obtain ⟨h1, e1⟩ := List.getElem?_eq_some_iff.mp a
  obtain ⟨h2, e2⟩ := List.getElem?_eq_some_iff.mp b
  exact (List.getElem_inj hN).mp (e1.trans e2.symm)

/-- a name is stored; what changed -/
theorem store_ok2 {M : Model} {A : Around} {E : Value → Shared → Prop} {i : Nat} {x : Str} {v : V} {u : Value} {Q : Unit → Shared → Prop} (I : Inv X pins σ H s) (hN : X.N.Nodup) (hi : X.N[i]? = some x) (hx : Loc X.env.scope x) (r : RelV v u)
    (h : ∀ s', Inv X pins (σ.set i (some v)) H s' → (∃ a, Heap.SameBut a s.heap s'.heap ∧ (a = X.env.locals ∨ X.env.cells.lookup x = some a)) → Q () s') (hf : X.fn x = true ∨ X.env.scope.names.lookup x = some .local := by first | exact .inl rfl | exact .inr rfl | assumption) : wpAny M A (storeName X.env x u) Q E s := by
  obtain ⟨m, hn, hl⟩ := id I.loc
  have hcls : (X.env.scope.kind == .class || (X.env.scope.kind == .module && X.env.locals != X.env.globals)) = false := by rw [I.ok.kind]; rfl
  have hiσ : i < σ.length := by rw [I.len]; exact (List.getElem?_eq_some_iff.mp hi).1
  have cne := I.cne
  have tracked : ∀ {a : Addr} {h' : Heap}, (∃ o, s.heap.get? a = some o ∧ H a = none) → Heap.SameBut a s.heap h' → HOk X.prog X.w H h' := fun {a h'} ha hs b ob e => by
    obtain ⟨_, _, hfree⟩ := ha
    refine (I.hok b ob e).stay (fun c w' hc q => (hs.2 c ?_).trans q) (fun _ q => q) fun _ _ q => q
    rintro rfl
    rcases hc with rfl | hc
    · rw [hfree] at e; cases e
    · rw [hfree] at hc; cases hc
  rcases hx with hk | hk
  · refine wpAny_storeName_local hk hn (fun h' hn' hs => ?_) hcls
    obtain ⟨oL, _, _, hoL, _⟩ := id hn
    refine h _ ⟨I.ok, I.os, I.bare, ⟨fun b o e n hb hx => ?_, fun b o e n hb hx => ?_, I.base.free, fun b o e hx => ?_, I.base.tups, I.base.frzs, I.base.tbls⟩, ⟨_, hn', fun j y v' e1 e2 e3 => ?_⟩, fun y c e => ?_, I.free, I.freeC, fun p hp => ?_, tracked ⟨oL, hoL, I.free⟩ hs, by simpa using I.len⟩ ⟨_, hs, .inl rfl⟩
    · exact (hs.2 b (Nat.ne_of_lt (Nat.lt_of_lt_of_le (Heap.lt_size e) I.ok.above))).trans (I.base.keep b o e n hb hx)
    · obtain ⟨sl, e1⟩ := I.base.slot b o e n hb hx
      exact ⟨sl, (hs.2 b (Nat.ne_of_lt (Nat.lt_of_lt_of_le (Heap.lt_size e) I.ok.above))).trans e1⟩
    · obtain ⟨o', e1⟩ := I.base.there b o e hx
      exact ⟨o', (hs.2 b (Nat.ne_of_lt (Nat.lt_of_lt_of_le (Heap.lt_size e) I.ok.above))).trans e1⟩
    · by_cases hj : j = i
      · subst hj
        rw [hi] at e1; cases e1
        rw [List.getElem?_set_self hiσ] at e2
        cases e2
        exact ⟨u, r, .inl ⟨hk, by simp⟩⟩
      · rw [List.getElem?_set_ne (Ne.symm hj)] at e2
        obtain ⟨u', r', q⟩ := hl j y v' e1 e2 e3
        refine ⟨u', r', ?_⟩
        rcases q with ⟨k, e⟩ | ⟨k, c, e, z⟩
        · refine .inl ⟨k, ?_⟩
          have : y ≠ x := fun e => hj (nodup_ix hN e1 (e ▸ hi))
          simp [this, e]
        · exact .inr ⟨k, c, e, z.sameBut hs (cne y c e)⟩
    · obtain ⟨w', z⟩ := I.cell y c e
      exact ⟨w', z.sameBut hs (cne y c e)⟩
    · obtain ⟨e, n, ne, nf, d⟩ := I.pin p hp
      exact ⟨(hs.2 p.1 ne).trans e, n, ne, nf, d⟩
  · have hfn : X.fn x = true := by
      rcases hf with z | z
      · exact z
      · rw [z] at hk; cases hk
    obtain ⟨c, hc⟩ := I.ok.has x (.inl hk)
    obtain ⟨w', z⟩ := I.cell x c hc
    refine wpAny_storeName_cell I.ok.kind hk hc z (fun h' hc' hs => ?_)
    obtain ⟨oc, hoc, hocd⟩ := id z
    refine h { s with heap := h' } ⟨I.ok, I.os, I.bare, ⟨fun b o e n hb hx => ?_, fun b o e n hb hx => ?_, I.base.free, fun b o e hx => ?_, I.base.tups, I.base.frzs, I.base.tbls⟩, ⟨m, hn.sameBut hs (Ne.symm (cne x c hc)), fun j y v' e1 e2 e3 => ?_⟩, fun y c' e => ?_, I.free, I.freeC, fun p hp => ?_, tracked ⟨oc, hoc, I.freeC x c hc⟩ hs, by simpa using I.len⟩ ⟨c, hs, .inr hc⟩
    · exact (hs.2 b (Nat.ne_of_lt (Nat.lt_of_lt_of_le (Heap.lt_size e) (I.ok.cab x c hfn hc)))).trans (I.base.keep b o e n hb hx)
    · obtain ⟨sl, e1⟩ := I.base.slot b o e n hb hx
      exact ⟨sl, (hs.2 b (Nat.ne_of_lt (Nat.lt_of_lt_of_le (Heap.lt_size e) (I.ok.cab x c hfn hc)))).trans e1⟩
    · obtain ⟨o', e1⟩ := I.base.there b o e hx
      exact ⟨o', (hs.2 b (Nat.ne_of_lt (Nat.lt_of_lt_of_le (Heap.lt_size e) (I.ok.cab x c hfn hc)))).trans e1⟩
    · by_cases hj : j = i
      · subst hj
        rw [hi] at e1; cases e1
        rw [List.getElem?_set_self hiσ] at e2
        cases e2
        exact ⟨u, r, .inr ⟨.inl hk, c, hc, hc'⟩⟩
      · rw [List.getElem?_set_ne (Ne.symm hj)] at e2
        obtain ⟨u', r', q⟩ := hl j y v' e1 e2 e3
        refine ⟨u', r', ?_⟩
        rcases q with q | ⟨k, c', e, z'⟩
        · exact .inl q
        · refine .inr ⟨k, c', e, z'.sameBut hs ?_⟩
          rintro rfl
          exact hj (nodup_ix hN e1 (I.ok.inj _ _ _ e hc ▸ hi))
    · by_cases hcc : c' = c
      · subst hcc; exact ⟨_, hc'⟩
      · obtain ⟨w2, z2⟩ := I.cell y c' e
        exact ⟨w2, z2.sameBut hs hcc⟩
    · obtain ⟨e, n, ne, nf, d⟩ := I.pin p hp
      refine ⟨(hs.2 p.1 ?_).trans e, n, ne, nf, d⟩
      intro q
      rw [q, hoc] at e
      have q' : oc = p.2 := Option.some.inj e
      exact d w' (by rw [← q']; exact hocd)
theorem store_ok {M : Model} {A : Around} {E : Value → Shared → Prop} {i : Nat} {x : Str} {v : V} {u : Value} {Q : Unit → Shared → Prop} (I : Inv X pins σ H s) (hN : X.N.Nodup) (hi : X.N[i]? = some x) (hx : Loc X.env.scope x) (r : RelV v u)
    (h : ∀ s', Inv X pins (σ.set i (some v)) H s' → Q () s') (hf : X.fn x = true ∨ X.env.scope.names.lookup x = some .local := by first | exact .inl rfl | exact .inr rfl | assumption) : wpAny M A (storeName X.env x u) Q E s :=
  store_ok2 I hN hi hx r (fun s' I' _ => h s' I') hf
/-- behind a call or a block, the state as it is -/
theorem Inv.call' {s' : Shared} {ch : List Addr} (I : Inv X pins σ H s) (ho : s'.os = s.os) (u : Un (frs X.stack) ch H H' s.heap s'.heap) (hok : HOk X.prog X.w H' s'.heap) (hg : AllBare s'.gens)
    (hch : ∀ b ∈ ch, (b ∈ X.ex ∨ X.s₀.heap.objs.size ≤ b) ∧ b ≠ X.env.locals ∧ (∀ x c, X.env.cells.lookup x = some c → c ≠ b) ∧ ∀ p ∈ X.pn ++ pins, p.1 ≠ b) : Inv X pins σ H' s' := by
  obtain ⟨h', g', d', t', o'⟩ := s'
  have e : o' = s.os := ho
  subst e
  exact I.call (g' := g') (t' := t') (d' := d') u hok hg hch
end

/-! ### the judgements -/
/-- an exception: its class, its own dict's address (where it has one), the abstract heap behind it -/
abbrev XK := Value → Option Addr → Hp → Prop
abbrev St := List (Option V)
abbrev VK := V → Hp → Prop
/-- an expression's reading; a test's; an argument list's -/
abbrev TE := St → Hp → VK → Prop
abbrev TT := St → Hp → (Bool → Hp → Prop) → Prop
abbrev TA := St → Hp → (List V → Hp → Prop) → Prop
/-- what is wanted behind a statement -/
structure Ends where
  nx : St → Hp → Prop
  rt : VK
  bk : St → Hp → Prop := fun _ _ => False
  ct : St → Hp → Prop := fun _ _ => False
abbrev TS := Ends → St → Hp → Prop

def EP (X : Cx) (pins : List (Addr × Obj)) (σ : St) (Q : VK) (u : Value) (s' : Shared) : Prop := ∃ v H', Inv X pins σ H' s' ∧ RelV v u ∧ Q v H'
def TP (X : Cx) (pins : List (Addr × Obj)) (σ : St) (Q : Bool → Hp → Prop) (b : Bool) (s' : Shared) : Prop := ∃ H', Inv X pins σ H' s' ∧ Q b H'
def AP (X : Cx) (pins : List (Addr × Obj)) (σ : St) (Q : List V → Hp → Prop) (us : List Value) (s' : Shared) : Prop := ∃ vs H', Inv X pins σ H' s' ∧ Vals vs us ∧ Q vs H'
def SP (X : Cx) (pins : List (Addr × Obj)) (D : Ends) (f : Flow) (s' : Shared) : Prop :=
  match f with
  | .next => ∃ σ' H', Inv X pins σ' H' s' ∧ D.nx σ' H'
  | .brk => ∃ σ' H', Inv X pins σ' H' s' ∧ D.bk σ' H'
  | .cont => ∃ σ' H', Inv X pins σ' H' s' ∧ D.ct σ' H'
  | .ret u => ∃ v σ' H', Inv X pins σ' H' s' ∧ RelV v u ∧ D.rt v H'

def PE (X : Cx) (e : Expr) (t : TE) : Prop :=
  ∀ (pins : List (Addr × Obj)) (s : Shared) (σ : St) (H : Hp) (Q : VK), Inv X pins σ H s → t σ H Q → wpAny (model X.prog X.w) X.A (eval e X.env) (EP X pins σ Q) X.xe s
def PT (X : Cx) (e : Expr) (t : TT) : Prop :=
  ∀ (pins : List (Addr × Obj)) (s : Shared) (σ : St) (H : Hp) (Q : Bool → Hp → Prop), Inv X pins σ H s → t σ H Q → wpAny (model X.prog X.w) X.A (isTrue e X.env (eval e X.env)) (TP X pins σ Q) X.xe s
/-- a test whatever its 'whole' is (and, or) -/
def PW (X : Cx) (e : Expr) (t : TT) : Prop :=
  ∀ (whole : Sem Value) (pins : List (Addr × Obj)) (s : Shared) (σ : St) (H : Hp) (Q : Bool → Hp → Prop), Inv X pins σ H s → t σ H Q → wpAny (model X.prog X.w) X.A (isTrue e X.env whole) (TP X pins σ Q) X.xe s
theorem PW.pt {X : Cx} {e : Expr} {t : TT} (h : PW X e t) : PT X e t := h _
/-- an argument list (no star), from the left -/
def PA (X : Cx) (es : List Expr) (t : TA) : Prop :=
  ∀ (pos : Pos) (pins : List (Addr × Obj)) (s : Shared) (σ : St) (H : Hp) (Q : List V → Hp → Prop), Inv X pins σ H s → t σ H Q → wpAny (model X.prog X.w) X.A (spliced (backTo pos (starEach es X.env))) (AP X pins σ Q) X.xe s
def PS (X : Cx) (st : Stmt) (t : TS) : Prop :=
  ∀ (pins : List (Addr × Obj)) (s : Shared) (σ : St) (H : Hp) (D : Ends), Inv X pins σ H s → t D σ H → wpAny (model X.prog X.w) X.A (exec st X.env) (SP X pins D) X.xe s
def PSs (X : Cx) (st : List Stmt) (t : TS) : Prop :=
  ∀ (pins : List (Addr × Obj)) (s : Shared) (σ : St) (H : Hp) (D : Ends), Inv X pins σ H s → t D σ H → wpAny (model X.prog X.w) X.A (execs st X.env) (SP X pins D) X.xe s
/-- weaken the end -/
theorem thn {α : Type} {t : Sem α} {Q Q' : α → Shared → Prop} {M : Model} {A : Around} {E : Value → Shared → Prop} {s : Shared} (h : wpAny M A t Q E s) (hQ : ∀ a s, Q a s → Q' a s) : wpAny M A t Q' E s := wpAny_mono h hQ fun _ _ x => x
end L2

namespace L2
open PySem PySem.Spec PyProof.Rows
section
variable {X : Cx}

/-! ### names and constants -/
def tVar (i : Nat) : TE := fun σ H Q => ∃ v, σ[i]? = some (some v) ∧ Q v H
def tC (v : V) : TE := fun _ H Q => Q v H
theorem pe_var {i : Nat} {x : Str} {pos : Pos} (hN : X.N[i]? = some x) (hv : Vis X.env.scope x) (hd : (x == ("__debug__" : Str)) = false := by decide) (hcd : (x == ("__classdict__" : Str)) = false := by decide) : PE X (.Name x pos) (tVar i) := by
  intro pins s σ H Q I h
  obtain ⟨v, e, h⟩ := h
  obtain ⟨m, hn, hl⟩ := I.loc
  obtain ⟨u, r, l⟩ := hl i x v hN e hv
  have fin : EP X pins σ Q u s := ⟨v, H, I, r, h⟩
  rcases l with ⟨hk, hm⟩ | ⟨hk, c, hc, hcell⟩
  · exact wpAny_Name (wpAny_loadName_local I.ok.kind hk hn hm fin) hd
  · rcases hk with hk | hk
    · exact wpAny_Name (wpAny_loadName_cell I.ok.kind hk hc hcell fin) hd
    · exact wpAny_Name (wpAny_loadName_free I.ok.kind hk hc hcell fin hcd) hd
theorem pe_int {i j pos} : PE X (.Constant (.int i) j pos) (tC (.int i)) := fun _ _ _ H _ I h => wpAny_Constant_int ⟨.int i, H, I.tok _, ⟨_, rfl⟩, h⟩
theorem pe_bl {b j pos} : PE X (.Constant (.bool b) j pos) (tC (.bl b)) := fun _ _ _ H _ I h => Constant_bool ⟨.bl b, H, I, rfl, h⟩
theorem pe_str {x j pos} : PE X (.Constant (.str x) j pos) (tC (.str x)) := fun _ _ _ H _ I h => Calls.Constant_str ⟨.str x, H, I.tok _, ⟨_, rfl⟩, h⟩

/-- a global name of the def -/
def Gl (X : Cx) (x : Str) : Prop := X.env.kindOf x = some .globalImplicit
theorem ld_glob {E : Value → Shared → Prop} {pins : List (Addr × Obj)} {s : Shared} {σ : St} {H : Hp} {x : Str} {u : Value} {pos : Pos} {Q : Value → Shared → Prop} (I : Inv X pins σ H s) (hg : Gl X x) (hm : X.mg x = some u) (h : Q u s)
    (hd : (x == ("__debug__" : Str)) = false := by decide) : wpAny (model X.prog X.w) X.A (eval (.Name x pos) X.env) Q E s :=
  Calls.Name_function_global I.ok.kind hg (Calls.loadGlobal_global (by rw [I.ok.glob]; exact I.mod.glob.keeps I.bk) hm h) hd
theorem ld_blt {E : Value → Shared → Prop} {pins : List (Addr × Obj)} {s : Shared} {σ : St} {H : Hp} {x : Str} {u : Value} {pos : Pos} {Q : Value → Shared → Prop} (I : Inv X pins σ H s) (hg : Gl X x) (hm : X.mg x = none) (hv : bootBuiltins x = some u) (h : Q u s)
    (hn : x ≠ "__name__" := by decide) (hd : (x == ("__debug__" : Str)) = false := by decide) : wpAny (model X.prog X.w) X.A (eval (.Name x pos) X.env) Q E s := by
  obtain ⟨mb, h1, h2⟩ := I.mod.blt
  exact Calls.Name_function_global I.ok.kind hg (Calls.loadGlobal_builtin (by rw [I.ok.glob]; exact I.mod.glob.keeps I.bk) hm (by rw [I.ok.blt]; exact h1.keeps I.bk) ((h2 x hn).trans hv) h) hd
/-- a module's constant, a class, a function, as a value -/
theorem pe_glob {x : Str} {v : V} {u : Value} {pos : Pos} (hg : Gl X x) (hm : X.mg x = some u) (r : RelV v u) (hd : (x == ("__debug__" : Str)) = false := by decide) : PE X (.Name x pos) (tC v) :=
  fun _ _ _ H _ I h => ld_glob I hg hm ⟨v, H, I, r, h⟩ hd
theorem pe_bltn {x : Str} {v : V} {u : Value} {pos : Pos} (hg : Gl X x) (hm : X.mg x = none) (hv : bootBuiltins x = some u) (r : RelV v u) (hn : x ≠ "__name__" := by decide) (hd : (x == ("__debug__" : Str)) = false := by decide) : PE X (.Name x pos) (tC v) :=
  fun _ _ _ H _ I h => ld_blt I hg hm hv ⟨v, H, I, r, h⟩ hn hd

/-! ### arithmetic -/
variable {a b : Expr} {ta tb : TE} {pos : Pos}
/-! ### comparisons -/
def PC (X : Cx) (op : CmpOp) (a b : Expr) (t : TE) : Prop :=
  ∀ (pins : List (Addr × Obj)) (s : Shared) (σ : St) (H : Hp) (Q : VK), Inv X pins σ H s → t σ H Q →
    wpAny (model X.prog X.w) X.A (eval a X.env) (fun v s₁ => wpAny (model X.prog X.w) X.A (eval b X.env) (fun u s₂ => wpAny (model X.prog X.w) X.A (compareOp op v u) (EP X pins σ Q) X.xe s₂) X.xe s₁) X.xe s
theorem nobehind (b : Expr) {op : CmpOp} (h : op ≠ .In) (h2 : op ≠ .NotIn) : behindInMarks op b = false := by
  have e1 : (op == CmpOp.In) = false := by cases op <;> first | rfl | exact absurd rfl h
  have e2 : (op == CmpOp.NotIn) = false := by cases op <;> first | rfl | exact absurd rfl h2
  cases b <;> simp [behindInMarks, e1, e2]
/-- a comparison as a value, as a test -/
def tB (t : TE) : TT := fun σ H Q => t σ H fun x H1 => ∃ c, x = .bl c ∧ Q c H1
theorem pt_cmp {op : CmpOp} {t : TE} (h : PC X op a b t) (h1 : behindInMarks op b = false := by first | exact nobehind _ (by decide) (by decide) | rfl) : PT X (.Compare a [op] [b] pos) (tB t) := by
  intro pins s σ H Q I hw
  refine wpAny_isTrue_Compare1 (thn (h pins s σ H _ I hw) fun v s1 h1 => thn h1 fun u s2 h2 => thn h2 fun c s3 ⟨x, H1, I1, r1, q1⟩ => ?_) h1
  obtain ⟨d, rfl, q⟩ := q1
  cases r1
  exact wpAny_truthy_bool ⟨H1, I1, q⟩
/-- an expression whose value is a bool, as a test -/
theorem pt_val {e : Expr} {t : TE} (h : PE X e t) (he : ∀ whole, isTrue e X.env whole = (do let v ← whole; standAt e.pos; holding [v] (truthy v)) := by intro _; rfl) : PT X e (tB t) := by
  intro pins s σ H Q I hw
  refine isTrue_plain (thn (h pins s σ H _ I hw) fun v s1 ⟨x, H1, I1, r1, q1⟩ => ?_) (he _)
  obtain ⟨d, rfl, q⟩ := q1
  cases r1
  exact wpAny_truthy_bool ⟨H1, I1, q⟩

/-! ### and, or, not -/
variable {tA tB' : TT} {rest : List Expr}
def tAnd (t u : TT) : TT := fun σ H Q => t σ H fun c H1 => if c = true then u σ H1 Q else Q false H1
def tOr (t u : TT) : TT := fun σ H Q => t σ H fun c H1 => if c = true then Q true H1 else u σ H1 Q
def tNot (t : TT) : TT := fun σ H Q => t σ H fun c H1 => Q (!c) H1
theorem pw_and1 (ha : PT X a tA) : PW X (.BoolOp .And [a] pos) tA := by
  intro wh pins s σ H Q I h
  refine isTrue_and (thn (ha pins s σ H Q I h) fun c s1 e => ?_)
  cases c with
  | true => exact isTrue_and_nil e
  | false => exact e
theorem pw_or1 (ha : PT X a tA) : PW X (.BoolOp .Or [a] pos) tA := by
  intro wh pins s σ H Q I h
  refine isTrue_or (thn (ha pins s σ H Q I h) fun c s1 e => ?_)
  cases c with
  | false => exact isTrue_or_nil e
  | true => exact e
theorem pw_and (ha : PT X a tA) (hb : PW X (.BoolOp .And (b :: rest) pos) tB') : PW X (.BoolOp .And (a :: b :: rest) pos) (tAnd tA tB') := by
  intro wh pins s σ H Q I h
  refine isTrue_and (thn (ha pins s σ H _ I h) fun c s1 ⟨H1, I1, q1⟩ => ?_)
  cases c with
  | true => exact hb wh pins s1 σ H1 Q I1 q1
  | false => exact ⟨H1, I1, q1⟩
theorem pw_or (ha : PT X a tA) (hb : PW X (.BoolOp .Or (b :: rest) pos) tB') : PW X (.BoolOp .Or (a :: b :: rest) pos) (tOr tA tB') := by
  intro wh pins s σ H Q I h
  refine isTrue_or (thn (ha pins s σ H _ I h) fun c s1 ⟨H1, I1, q1⟩ => ?_)
  cases c with
  | true => exact ⟨H1, I1, q1⟩
  | false => exact hb wh pins s1 σ H1 Q I1 q1
theorem pt_not (ha : PT X a tA) : PT X (.UnaryOp .Not a pos) (tNot tA) := by
  intro pins s σ H Q I h
  exact isTrue_not (ha pins s σ H (fun c H1 => Q (!c) H1) I h)
/-- .. as values (bools) -/
def tAndV (ta tb : TE) : TE := fun σ H Q => ta σ H fun x H1 => ∃ c, x = .bl c ∧ if c = true then tb σ H1 Q else Q (.bl false) H1
def tOrV (ta tb : TE) : TE := fun σ H Q => ta σ H fun x H1 => ∃ c, x = .bl c ∧ if c = true then Q (.bl true) H1 else tb σ H1 Q
def tNotV (ta : TE) : TE := fun σ H Q => ta σ H fun x H1 => ∃ c, x = .bl c ∧ Q (.bl (!c)) H1
theorem pe_one {op} {t : TE} (h : PE X a t) : PE X (.BoolOp op [a] pos) t := fun pins s σ H Q I hw => BoolOp_one (h pins s σ H Q I hw)
theorem pe_and (ha : PE X a ta) (hb : PE X (.BoolOp .And (b :: rest) pos) tb) : PE X (.BoolOp .And (a :: b :: rest) pos) (tAndV ta tb) := by
  intro pins s σ H Q I h
  refine BoolOp_and (thn (ha pins s σ H _ I h) fun v s1 ⟨x, H1, I1, r1, q1⟩ => ?_)
  obtain ⟨c, rfl, q1⟩ := q1
  cases r1
  refine wpAny_truthy_bool ?_
  cases c with
  | true => exact hb pins s1 σ H1 Q I1 q1
  | false => exact ⟨.bl false, H1, I1, rfl, q1⟩
theorem pe_not (ha : PE X a ta) : PE X (.UnaryOp .Not a pos) (tNotV ta) := by
  intro pins s σ H Q I h
  refine UnaryOp_ (thn (ha pins s σ H _ I h) fun v s1 ⟨x, H1, I1, r1, q1⟩ => ?_)
  obtain ⟨c, rfl, q1⟩ := q1
  cases r1
  exact not_of (wpAny_truthy_bool ⟨.bl (!c), H1, I1, rfl, q1⟩)
/-- a if t else b -/
def tIf (t : TT) (ta tb : TE) : TE := fun σ H Q => t σ H fun c H1 => if c = true then ta σ H1 Q else tb σ H1 Q
end
end L2

namespace L2
open PySem PySem.Spec PyProof.Rows

/-! ### a list, a tuple that is read: tracked, frozen, or an object of the module -/
def SqL (K : PySem.W.Frag) (H : Hp) (a : Addr) (xs : List V) : Prop :=
  Rd H a (.lst xs) ∨
    ∃ (o : Obj) (its : Array Value) (n : Nat), K.lookup a = some o ∧ o.cls = .type "list" ∧ o.dict = none ∧ o.data = .seq its n ∧ its.size ≤ sizeLine ∧ Vals xs its.toList
def SqT (K : PySem.W.Frag) (H : Hp) (a : Addr) (xs : List V) : Prop :=
  Rd H a (.tup xs) ∨
    ∃ (o : Obj) (its : Array Value) (n : Nat), K.lookup a = some o ∧ o.cls = .type "tuple" ∧ o.data = .seq its n ∧ its.size ≤ sizeLine ∧ Vals xs its.toList
def absV : Value → Option V
  | .none => some .non
  | .bool b => some (.bl b)
  | .int i _ => some (.int i)
  | .str x _ => some (.str x)
  | .bytes b _ => some (.byt b)
  | .float b _ => some (.flt b)
  | .ref a => some (.ref a)
  | .type n => some (.ty n)
  | _ => none
theorem RelV.abs {x : V} {u : Value} (r : RelV x u) : absV u = some x := by
  cases x with
  | non => cases r; rfl
  | bl _ => cases r; rfl
  | int _ => obtain ⟨t, rfl⟩ := r; rfl
  | str _ => obtain ⟨t, rfl⟩ := r; rfl
  | byt _ => obtain ⟨t, rfl⟩ := r; rfl
  | flt _ => obtain ⟨t, rfl⟩ := r; rfl
  | ref _ => cases r; rfl
  | ty _ => cases r; rfl
theorem RelV.inj {x y : V} {u : Value} (r : RelV x u) (q : RelV y u) : x = y := Option.some.inj (r.abs.symm.trans q.abs)
theorem Vals.inj : ∀ {xs ys : List V} {us : List Value}, Vals xs us → Vals ys us → xs = ys
  | _, _, _, .nil, .nil => rfl
  | _, _, _, .cons r t, .cons r' t' => by rw [r.inj r', Vals.inj t t']
section
variable {X : Cx} {pins : List (Addr × Obj)} {σ : St} {H : Hp} {s : Shared} {a : Addr} {xs ys : List V}
theorem SqL.of {K : PySem.W.Frag} (h : H a = some (.lst xs)) : SqL K H a xs := .inl (.inl h)
theorem SqT.of {K : PySem.W.Frag} (h : H a = some (.tup xs)) : SqT K H a xs := .inl (.inl h)
theorem Inv.list (I : Inv X pins σ H s) (h : SqL X.K H a xs) : ∃ its : List Value, Vals xs its ∧ PlainL s.heap a its.toArray ∧ xs.length ≤ sizeLine := by
  rcases h with h | ⟨o, its, n, hk, hc, hd, hs, hz, r⟩
  · obtain ⟨z, its, n, r, e⟩ := h.ok I.hok
    exact ⟨its, r, ⟨_, n, e, rfl, rfl, rfl⟩, z⟩
  · refine ⟨its.toList, r, ⟨o, n, I.kIn a o hk, hc, hd, by simpa using hs⟩, ?_⟩
    have e := r.length
    simp only [Array.length_toList] at e
    omega
theorem Inv.tuple (I : Inv X pins σ H s) (h : SqT X.K H a xs) : ∃ its : List Value, Vals xs its ∧ IsTup s.heap a its.toArray ∧ xs.length ≤ sizeLine := by
  rcases h with h | ⟨o, its, n, hk, hc, hs, hz, r⟩
  · obtain ⟨z, its, r, p⟩ := h.ok I.hok
    exact ⟨its, r, p, z⟩
  · refine ⟨its.toList, r, ⟨o, I.kIn a o hk, hc, n, by simpa using hs⟩, ?_⟩
    have e := r.length
    simp only [Array.length_toList] at e
    omega
theorem Inv.list_inj (I : Inv X pins σ H s) (h : SqL X.K H a xs) (h' : SqL X.K H a ys) : xs = ys := by
  obtain ⟨its, r, ⟨o, n, e, _, _, d⟩, _⟩ := I.list h
  obtain ⟨its', r', ⟨o', n', e', _, _, d'⟩, _⟩ := I.list h'
  rw [e] at e'; cases e'
  rw [d] at d'
  injection d' with d1 _
  have : its = its' := by simpa using congrArg Array.toList d1
  subst this
  exact r.inj r'
theorem Inv.tuple_inj (I : Inv X pins σ H s) (h : SqT X.K H a xs) (h' : SqT X.K H a ys) : xs = ys := by
  obtain ⟨its, r, ⟨o, e, _, n, d⟩, _⟩ := I.tuple h
  obtain ⟨its', r', ⟨o', e', _, n', d'⟩, _⟩ := I.tuple h'
  rw [e] at e'; cases e'
  rw [d] at d'
  injection d' with d1 _
  have : its = its' := by simpa using congrArg Array.toList d1
  subst this
  exact r.inj r'
end

/-! ### another wish about exceptions -/
abbrev Cx.wish (X : Cx) (E : Value → Shared → Prop) : Cx := { X with xe := E }
/-- no exception leaves -/
abbrev Cx.nox (X : Cx) : Cx := X.wish fun _ _ => False
theorem Cx.Ok.wish {X : Cx} (ok : X.Ok) (E : Value → Shared → Prop) : (X.wish E).Ok :=
  ⟨ok.mod, ok.kind, ok.glob, ok.blt, ok.above, ok.inj, ok.has, ok.cab, ok.hd, ok.frames, ok.stk, ok.exf, ok.bs, ok.bsz, ok.noex, ok.exfs, ok.funs, ok.frf⟩
theorem Cx.Ok.unwish {X : Cx} {E : Value → Shared → Prop} (ok : (X.wish E).Ok) : X.Ok :=
  ⟨ok.mod, ok.kind, ok.glob, ok.blt, ok.above, ok.inj, ok.has, ok.cab, ok.hd, ok.frames, ok.stk, ok.exf, ok.bs, ok.bsz, ok.noex, ok.exfs, ok.funs, ok.frf⟩
section
variable {X : Cx} {pins : List (Addr × Obj)} {σ : St} {H : Hp} {s : Shared} {E : Value → Shared → Prop}
theorem Inv.wish (I : Inv X pins σ H s) (E : Value → Shared → Prop) : Inv (X.wish E) pins σ H s := ⟨I.ok.wish E, I.os, I.bare, I.base, I.loc, I.cell, I.free, I.freeC, I.pin, I.hok, I.len⟩
theorem Inv.unwish (I : Inv (X.wish E) pins σ H s) : Inv X pins σ H s := ⟨I.ok.unwish, I.os, I.bare, I.base, I.loc, I.cell, I.free, I.freeC, I.pin, I.hok, I.len⟩
theorem SP.unwish {D : Ends} {f : Flow} {s' : Shared} (h : SP (X.wish E) pins D f s') : SP X pins D f s' := by
  cases f with
  | next => obtain ⟨σ', H', I, q⟩ := h; exact ⟨σ', H', I.unwish, q⟩
  | brk => obtain ⟨σ', H', I, q⟩ := h; exact ⟨σ', H', I.unwish, q⟩
  | cont => obtain ⟨σ', H', I, q⟩ := h; exact ⟨σ', H', I.unwish, q⟩
  | ret u => obtain ⟨v, σ', H', I, r, q⟩ := h; exact ⟨v, σ', H', I.unwish, r, q⟩
theorem PE.nox {e : Expr} {t : TE} (h : PE X.nox e t) : PE X e t := fun pins s σ H Q I hw =>
  wpAny_mono (h pins s σ H Q (I.wish _) hw) (fun _ _ ⟨v, H', I', r, q⟩ => ⟨v, H', I'.unwish, r, q⟩) fun _ _ z => False.elim z
theorem PT.nox {e : Expr} {t : TT} (h : PT X.nox e t) : PT X e t := fun pins s σ H Q I hw =>
  wpAny_mono (h pins s σ H Q (I.wish _) hw) (fun _ _ ⟨H', I', q⟩ => ⟨H', I'.unwish, q⟩) fun _ _ z => False.elim z
theorem PSs.nox {st : List Stmt} {t : TS} (h : PSs X.nox st t) : PSs X st t := fun pins s σ H D I hw =>
  wpAny_mono (h pins s σ H D (I.wish _) hw) (fun _ _ q => q.unwish) fun _ _ z => False.elim z
end

/-! ### blocks and small statements -/
section
variable {X : Cx} {st : Stmt} {rest : List Stmt} {t u : TS} {e : Expr} {te : TE} {pos : Pos}
def tNext : TS := fun D σ H => D.nx σ H
def tSeq (t u : TS) : TS := fun D σ H => t { D with nx := u D } σ H
theorem pss_nil : PSs X [] tNext := fun _ _ σ H _ I h => wpAny_execs_nil ⟨σ, H, I, h⟩
theorem pss_cons (h1 : PS X st t) (h2 : PSs X rest u) : PSs X (st :: rest) (tSeq t u) := by
  intro pins s σ H D I h
  refine wpAny_execs_cons (thn (h1 pins s σ H { D with nx := u D } I h) fun f s1 q => ?_)
  cases f with
  | next =>
    obtain ⟨σ', H', I', q⟩ := q
    exact h2 pins s1 σ' H' D I' q
  | ret v => exact q
  | brk => exact q
  | cont => exact q
theorem pss_one (h1 : PS X st t) : PSs X [st] t := by
  intro pins s σ H D I h
  refine wpAny_execs_cons (thn (h1 pins s σ H D I h) fun f s1 q => ?_)
  cases f with
  | next => exact wpAny_execs_nil q
  | ret v => exact q
  | brk => exact q
  | cont => exact q
def tBreak : TS := fun D σ H => D.bk σ H
/-- in a def's body nothing is shown -/
theorem Inv.quiet {pins : List (Addr × Obj)} {σ : St} {H : Hp} {s : Shared} (I : Inv X pins σ H s) : interactive X.env = false := by simp [interactive, I.ok.kind]
/-- an expression whose value is dropped -/
def tDrop (te : TE) : TS := fun D σ H => te σ H fun _ H1 => D.nx σ H1
theorem ps_expr (he : PE X e te) (hs : swapsWith e none pos.line X.env = pure false := by rfl) : PS X (.Expr e pos) (tDrop te) := by
  intro pins s σ H D I h
  exact wpAny_Expr_any (thn (he pins s σ H _ I h) fun v s1 ⟨x, H1, I1, r1, q1⟩ => ⟨σ, H1, I1, q1⟩) I.quiet hs
def tRet (te : TE) : TS := fun D σ H => te σ H D.rt
theorem ps_ret (he : PE X e te) : PS X (.Return (some e) pos) (tRet te) := by
  intro pins s σ H D I h
  exact wpAny_Return_some (thn (he pins s σ H _ I h) fun v s1 ⟨x, H1, I1, r1, q1⟩ => ⟨x, σ, H1, I1, r1, q1⟩)
def tRetN : TS := fun D _ H => D.rt .non H
def tIfS (c : TT) (t u : TS) : TS := fun D σ H => c σ H fun b H1 => if b = true then t D σ H1 else u D σ H1
theorem ps_if {c : Expr} {a b : List Stmt} {tc : TT} (hc : PT X c tc) (ha : PSs X a t) (hb : PSs X b u) : PS X (.If c a b pos) (tIfS tc t u) := by
  intro pins s σ H D I h
  refine wpAny_If (thn (hc pins s σ H _ I h) fun d s1 ⟨H1, I1, q1⟩ => ?_)
  cases d with
  | true => exact ha pins s1 σ H1 D I1 q1
  | false => exact hb pins s1 σ H1 D I1 q1
end

/-! ### targets -/
abbrev TG := V → St → Hp → (St → Hp → Prop) → Prop
abbrev TGs := List V → St → Hp → (St → Hp → Prop) → Prop
def PG (X : Cx) (target : Expr) (t : TG) : Prop :=
  ∀ (pins : List (Addr × Obj)) (s : Shared) (σ : St) (H : Hp) (v : V) (u : Value) (Q : St → Hp → Prop), Inv X pins σ H s → RelV v u → t v σ H Q →
    wpAny (model X.prog X.w) X.A (assign target X.env u) (fun _ s' => ∃ σ' H', Inv X pins σ' H' s' ∧ Q σ' H') X.xe s
section
variable {X : Cx} {pos : Pos}
def gName (i : Nat) : TG := fun v σ H Q => Q (σ.set i (some v)) H
theorem pg_name {i : Nat} {x : Str} (hN : X.N.Nodup) (hi : X.N[i]? = some x) (hx : Loc X.env.scope x) (hf : X.fn x = true ∨ X.env.scope.names.lookup x = some .local := by first | exact .inl rfl | exact .inr rfl | assumption) : PG X (.Name x pos) (gName i) := by
  intro pins s σ H v u Q I r h
  exact wpAny_assign_Name (store_ok I hN hi hx r (fun s' I' => ⟨_, H, I', h⟩) hf)
def gNil : TGs := fun vs σ H Q => vs = [] ∧ Q σ H
def gCons (t : TG) (u : TGs) : TGs := fun vs σ H Q => ∃ v r, vs = v :: r ∧ t v σ H fun σ' H' => u r σ' H' Q
/-- (a, b, ..) = a tuple of that length -/
def gTup (K : PySem.W.Frag) (n : Nat) (t : TGs) : TG := fun v σ H Q => ∃ a xs, v = .ref a ∧ SqT K H a xs ∧ xs.length = n ∧ t xs σ H Q
/-- target = value -/
def tAsg (te : TE) (g : TG) : TS := fun D σ H => te σ H fun x H1 => g x σ H1 D.nx
/-- name = value -/
theorem ps_set {i : Nat} {x : Str} {e : Expr} {te : TE} {pos' : Pos} (hN : X.N.Nodup) (hi : X.N[i]? = some x) (hx : Loc X.env.scope x) (he : PE X e te) (hs : swapsWith e (some (.Name x pos')) pos.line X.env = pure false := by rfl) (hf : X.fn x = true ∨ X.env.scope.names.lookup x = some .local := by first | exact .inl rfl | exact .inr rfl | assumption) :
    PS X (.Assign [.Name x pos'] e pos) (tAsg te (gName i)) := by
  intro pins s σ H D I h
  refine wpAny_Assign_Name (thn (he pins s σ H _ I h) fun v s1 ⟨y, H1, I1, r1, q1⟩ => ?_) hs
  exact store_ok I1 hN hi hx r1 (fun s2 I2 => ⟨_, H1, I2, q1⟩) hf
/-- a, b = x, y with plain local names: stored from the right; the pair itself is not tracked (the opening rows as in PyProof/Rows/TupAssign.lean:23) -/
def tPar (i j : Nat) (ta : TA) : TS := fun D σ H => ta σ H fun vs H1 => ∃ v w, vs = [v, w] ∧ D.nx ((σ.set i (some v)).set j (some w)) H1
end

/-! ### while -/
section
variable {X : Cx} {pos : Pos}
/-- the invariant W with its measure -/
def tWhile (c : TT) (tb : TS) : TS := fun D σ H => ∃ W : Nat → St → Hp → Prop, (∃ m, W m σ H) ∧ ∀ m σ H, W m σ H →
  c σ H fun b H1 => if b = true then ∃ N : St → Hp → Prop, (∀ σ' H', N σ' H' → ∃ m', m' < m ∧ W m' σ' H') ∧ tb { D with nx := N, ct := N, bk := D.nx } σ H1 else D.nx σ H1
theorem ps_while {c : Expr} {body : List Stmt} {tc : TT} {tb : TS} (hp : PassesOwn (model X.prog X.w) X.A X.env X.xe) (hc : PT X c tc) (hb : PSs X body tb) : PS X (.While c body [] pos) (tWhile tc tb) := by
  intro pins s σ H D I h
  obtain ⟨W, ⟨m0, w0⟩, turn⟩ := h
  refine wpAny_While (codeAny_whileLoop (fun n s' => ∃ σ' H', Inv X pins σ' H' s' ∧ W n σ' H') ?_ m0 ⟨σ, H, I, w0⟩)
  rintro n s1 ⟨σ1, H1, I1, w1⟩
  refine wpAny_passesOwn hp (thn (hc pins s1 σ1 H1 _ I1 (turn n σ1 H1 w1)) fun b s2 ⟨H2, I2, q2⟩ => ?_)
  cases b with
  | true =>
    obtain ⟨N, hN, q2⟩ := q2
    rw [if_pos rfl]
    refine wpAny_passesOwn hp (thn (hb pins s2 σ1 H2 _ I2 q2) fun f s3 q3 => ?_)
    cases f with
    | next =>
      obtain ⟨σ3, H3, I3, n3⟩ := q3
      obtain ⟨m', hm, w3⟩ := hN σ3 H3 n3
      exact ⟨m', hm, σ3, H3, I3, w3⟩
    | cont =>
      obtain ⟨σ3, H3, I3, n3⟩ := q3
      obtain ⟨m', hm, w3⟩ := hN σ3 H3 n3
      exact ⟨m', hm, σ3, H3, I3, w3⟩
    | brk => exact q3
    | ret v => exact q3
  | false =>
    rw [if_neg Bool.false_ne_true]
    exact wpAny_execs_nil ⟨σ1, H2, I2, q2⟩
end

/-! ### what a loop or a comprehension walks -/
/-- at turn i: it yields x (the heap may grow), or it stops -/
structure It where
  go : Nat → Hp → Prop
  yld : Nat → Hp → V → Hp → Prop
  stop : Nat → Hp → Prop
/-- the iterator's own objects may turn: they are not the frame's, not pinned, younger than the entry (or a comprehension's own) -/
def FpOk (X : Cx) (pins : List (Addr × Obj)) (H : Hp) (b : Addr) : Prop :=
  H b = none ∧ b ≠ X.env.locals ∧ b ∉ X.fs ∧ (b ∈ X.ex ∨ X.s₀.heap.objs.size ≤ b) ∧ (∀ x c, X.env.cells.lookup x = some c → c ≠ b) ∧ ∀ p ∈ X.pn ++ pins, p.1 ≠ b
theorem Inv.fpOk {X : Cx} {pins : List (Addr × Obj)} {σ : St} {H H' : Hp} {s : Shared} {b : Addr} (I : Inv X pins σ H s) (hb : s.heap.objs.size ≤ b) (hn : H' b = none) : FpOk X pins H' b := by
  refine ⟨hn, Nat.ne_of_gt (Nat.lt_of_lt_of_le I.lt hb), I.nofs hb, .inr (Nat.le_trans I.sz hb), fun x c e z => ?_, fun p hp z => ?_⟩
  · obtain ⟨v, q⟩ := I.cell x c e
    exact absurd (Nat.lt_of_lt_of_le q.lt (by rw [z]; exact hb)) (Nat.lt_irrefl _)
  · exact absurd (Nat.lt_of_lt_of_le (Heap.lt_size (I.pin p hp).1) (by rw [z]; exact hb)) (Nat.lt_irrefl _)
structure Turn (P : Program) (w : World) (K : PySem.W.Frag) (tg : Expr) (J : It) (fp : List Addr) (it : Addr) (tn : Nat → Heap → Prop) : Prop where
  mem : it ∈ fp
  obj : ∀ i h, tn i h → ∀ b ∈ fp, ∃ o, h.get? b = some o ∧ ∀ v, o.data ≠ .cell v
  keep : ∀ i h h', tn i h → (∀ b ∈ fp, ∀ o, h.get? b = some o → h'.get? b = some o) → tn i h'
  item : ∀ (X : Cx), X.prog = P → X.w = w → X.K = K → X.calm = true → ∀ (i : Nat) (pins : List (Addr × Obj)) (s : Shared) (σ : St) (H : Hp) (E : Value → Shared → Prop), Inv X pins σ H s → (∀ b ∈ fp, FpOk X pins H b) → tn i s.heap → J.go i H →
    wpAny (model P w) X.A (pyNext (.ref it)) (fun r s1 => ∃ u, r = some u ∧
      wpAny (model P w) X.A (letOwnedTupleGo tg (.ref it) u) (fun _ s2 => ∃ x H', Inv X pins σ H' s2 ∧ RelV x u ∧ J.yld i H x H' ∧ tn (i + 1) s2.heap ∧ ∀ b ∈ fp, H' b = none) E s1) E s
  done : ∀ (X : Cx), X.prog = P → X.w = w → X.K = K → X.calm = true → ∀ (i : Nat) (pins : List (Addr × Obj)) (s : Shared) (σ : St) (H : Hp) (E : Value → Shared → Prop), Inv X pins σ H s → (∀ b ∈ fp, FpOk X pins H b) → tn i s.heap → J.stop i H →
    wpAny (model P w) X.A (pyNext (.ref it)) (fun r s1 => r = none ∧ Inv X pins σ H s1) E s
  self : ∀ (A : Around) (i : Nat) (s : Shared) (Q : Value → Shared → Prop) (E : Value → Shared → Prop), tn i s.heap → Q (.ref it) s → wpAny (model P w) A (pyIter (.ref it)) Q E s
abbrev TI := St → Hp → (It → Hp → Prop) → Prop
/-- an iterator has come -/
def PIE (X : Cx) (pins : List (Addr × Obj)) (σ : St) (tg : Expr) (R : It → Hp → Prop) (itv : Value) (s2 : Shared) : Prop :=
  ∃ (it : Addr) (fp : List Addr) (tn : Nat → Heap → Prop) (J : It) (H' : Hp), itv = .ref it ∧ Inv X pins σ H' s2 ∧ Turn X.prog X.w X.K tg J fp it tn ∧ tn 0 s2.heap ∧ (∀ b ∈ fp, FpOk X pins H' b) ∧ R J H'
def PI (X : Cx) (tg iter : Expr) (wi : TI) : Prop :=
  ∀ (pins : List (Addr × Obj)) (s : Shared) (σ : St) (H : Hp) (R : It → Hp → Prop), Inv X pins σ H s → wi σ H R →
    wpAny (model X.prog X.w) X.A (eval iter X.env) (fun v s1 => wpAny (model X.prog X.w) X.A (pyIter v) (PIE X pins σ tg R) X.xe s1) X.xe s

/-- the step ahead of the store is nothing for an iterator that keeps no tuple -/
theorem go_of {M : Model} {A : Around} {E : Value → Shared → Prop} {s : Shared} {tg : Expr} {it : Addr} {u : Value} {o : Obj} {n : String} {vs : Array Value} {Q : Unit → Shared → Prop} (ho : s.heap.get? it = some o) (hc : o.cls = .type n) (hd : o.data = .fields vs)
    (hn : ["enumerate", "zip", "dict_itemiterator", "dict_reverseitemiterator", "odict_iterator", "itertools.zip_longest", "itertools.pairwise"].contains n = false) (hQ : Q () s) : wpAny M A (letOwnedTupleGo tg (.ref it) u) Q E s := by
  unfold letOwnedTupleGo
  cases tg <;> first
    | exact wpAny_pure hQ
    | (cases u <;> first
        | exact wpAny_pure hQ
        | (refine wpAny_bind (wpAny_load ho ?_)
           rw [hc, hd]
           show wpAny M A (if (["enumerate", "zip", "dict_itemiterator", "dict_reverseitemiterator", "odict_iterator", "itertools.zip_longest", "itertools.pairwise"].contains n && vs[0]? == some (rawInt _)) = true then _ else _) Q E s
           rw [if_neg (by intro h; rw [hn, Bool.false_and] at h; cases h)]
           exact wpAny_pure hQ))

/-- the list at a, as it stands at each turn (a loop may append to it) -/
def Itl (K : PySem.W.Frag) (a : Addr) : It :=
  ⟨fun i H => ∃ xs x, SqL K H a xs ∧ xs[i]? = some x, fun i H x H' => H' = H ∧ ∀ xs, SqL K H a xs → xs[i]? = some x, fun i H => ∃ xs, SqL K H a xs ∧ xs.length ≤ i⟩
def Itt (K : PySem.W.Frag) (a : Addr) : It :=
  ⟨fun i H => ∃ xs x, SqT K H a xs ∧ xs[i]? = some x, fun i H x H' => H' = H ∧ ∀ xs, SqT K H a xs → xs[i]? = some x, fun i H => ∃ xs, SqT K H a xs ∧ xs.length ≤ i⟩
/-- lo, lo + 1, .. (n of them) -/
def Itr (lo : Int) (n : Nat) : It := ⟨fun i _ => i < n, fun i H x H' => H' = H ∧ x = .int (lo + i), fun i _ => n ≤ i⟩
theorem turn_list {P : Program} {w : World} {K : PySem.W.Frag} {tg : Expr} (a it : Addr) : Turn P w K tg (Itl K a) [it] it (fun i h => h.IsListIter it a i) where
  mem := by simp
  obj := fun i h st b hb => by
    have e : b = it := by simpa using hb
    subst e
    obtain ⟨o, e, c, d⟩ := st
    exact ⟨o, e, fun v z => by rw [d] at z; cases z⟩
  keep := fun i h h' st k => st.at fun o e => k it (by simp) o e
  item := by
    intro X hP hw hK hc i pins s σ H E I hf st hg
    subst hP hw hK
    obtain ⟨xs, x, hq, hx⟩ := hg
    obtain ⟨its, rv, p, hz⟩ := I.list hq
    obtain ⟨u, hu, ru⟩ := rv.get hx
    obtain ⟨f0, f1, f2, f3, f4, f5⟩ := hf it (by simp)
    refine wpAny_pyNext_list_item st p.isList (x := u) (by simpa using hu) fun h' st' sb => ?_
    have I1 : Inv X pins σ H { s with heap := h' } := I.turned (t' := s.toks) (fun b o hb e => (sb.2 b hb).trans e) f0 f1 f3 f4 f5
    obtain ⟨o, e, c, d⟩ := id st'
    exact ⟨u, rfl, go_of (s := { s with heap := h' }) e c d (by decide) ⟨x, H, I1, ru, ⟨rfl, fun ys hy => by rw [I.list_inj hy hq]; exact hx⟩, st', fun b hb => (hf b hb).1⟩⟩
  done := by
    intro X hP hw hK hc i pins s σ H E I hf st hg
    subst hP hw hK
    obtain ⟨xs, hq, hx⟩ := hg
    obtain ⟨its, rv, p, hz⟩ := I.list hq
    obtain ⟨f0, f1, f2, f3, f4, f5⟩ := hf it (by simp)
    have hl := rv.length
    exact wpAny_pyNext_list_end (I.ok.hd hc) st p.isList (by simp; omega) fun h' eb => ⟨rfl, I.turned (t' := s.toks) (fun b o hb e => eb b o hb e) f0 f1 f3 f4 f5⟩
  self := fun _ _ _ _ _ st h => wpAny_pyIter_listiter st h
theorem turn_tuple {P : Program} {w : World} {K : PySem.W.Frag} {tg : Expr} (a it : Addr) : Turn P w K tg (Itt K a) [it] it (fun i h => h.IsTupleIter it a i) where
  mem := by simp
  obj := fun i h st b hb => by
    have e : b = it := by simpa using hb
    subst e
    obtain ⟨o, e, c, d⟩ := st
    exact ⟨o, e, fun v z => by rw [d] at z; cases z⟩
  keep := fun i h h' st k => st.at fun o e => k it (by simp) o e
  item := by
    intro X hP hw hK hc i pins s σ H E I hf st hg
    subst hP hw hK
    obtain ⟨xs, x, hq, hx⟩ := hg
    obtain ⟨its, rv, p, hz⟩ := I.tuple hq
    obtain ⟨u, hu, ru⟩ := rv.get hx
    obtain ⟨f0, f1, f2, f3, f4, f5⟩ := hf it (by simp)
    refine wpAny_pyNext_tuple_item st (show s.heap.IsTuple a its.toArray from p) (x := u) (by simpa using hu) fun h' st' sb => ?_
    have I1 : Inv X pins σ H { s with heap := h' } := I.turned (t' := s.toks) (fun b o hb e => (sb.2 b hb).trans e) f0 f1 f3 f4 f5
    obtain ⟨o, e, c, d⟩ := id st'
    exact ⟨u, rfl, go_of (s := { s with heap := h' }) e c d (by decide) ⟨x, H, I1, ru, ⟨rfl, fun ys hy => by rw [I.tuple_inj hy hq]; exact hx⟩, st', fun b hb => (hf b hb).1⟩⟩
  done := by
    intro X hP hw hK hc i pins s σ H E I hf st hg
    subst hP hw hK
    obtain ⟨xs, hq, hx⟩ := hg
    obtain ⟨its, rv, p, hz⟩ := I.tuple hq
    obtain ⟨f0, f1, f2, f3, f4, f5⟩ := hf it (by simp)
    have hl := rv.length
    exact wpAny_pyNext_tuple_end (I.ok.hd hc) st (show s.heap.IsTuple a its.toArray from p) (by simp; omega) fun h' eb => ⟨rfl, I.turned (t' := s.toks) (fun b o hb e => eb b o hb e) f0 f1 f3 f4 f5⟩
  self := fun _ _ _ _ _ st h => wpAny_pyIter_tupleiter st h
theorem turn_range {P : Program} {w : World} {K : PySem.W.Frag} {tg : Expr} (it : Addr) (lo : Int) (n : Nat) : Turn P w K tg (Itr lo n) [it] it (fun i h => IsRangeIter h it (lo + (i : Nat) * 1) ((n : Int) - (i : Nat)) 1) where
  mem := by simp
  obj := fun i h st b hb => by
    have e : b = it := by simpa using hb
    subst e
    exact ⟨_, st, fun v z => by
      have z' : Data.fields _ = Data.cell v := z
      cases z'⟩
  keep := fun i h h' st k => k it (by simp) _ st
  item := by
    intro X hP hw hK hc i pins s σ H E I hf st hg
    subst hP hw hK
    obtain ⟨f0, f1, f2, f3, f4, f5⟩ := hf it (by simp)
    have W := Walks.range (prog := X.prog) (w := X.w) (I.ok.hd hc) it lo 1 n
    refine W.item i s _ _ hg st fun v h' tk hv st' kk => ?_
    obtain ⟨t, rfl⟩ := hv
    have I1 : Inv X pins σ H { s with heap := h', toks := tk } := I.turned (fun b o hb e => kk b o (by simpa using hb) e) f0 f1 f3 f4 f5
    refine ⟨_, rfl, go_of (s := { s with heap := h', toks := tk }) (n := "range_iterator") st' rfl rfl (by decide) ⟨.int (lo + i), H, I1, ⟨t, ?_⟩, ⟨rfl, rfl⟩, st', fun b hb => (hf b hb).1⟩⟩
    rw [Int.mul_one]
  done := by
    intro X hP hw hK hc i pins s σ H E I hf st hg
    subst hP hw hK
    obtain ⟨f0, f1, f2, f3, f4, f5⟩ := hf it (by simp)
    exact wpAny_pyNext_range_end (I.ok.hd hc) st (by have : n ≤ i := hg; omega) fun h' eb => ⟨rfl, I.turned (t' := s.toks) (fun b o hb e => eb b o hb e) f0 f1 f3 f4 f5⟩
  self := fun _ _ _ _ _ st h => wpAny_pyIter_rangeiter st h
end L2

namespace L2
open PySem PySem.Spec PyProof.Rows
section
variable {X : Cx} {tg : Expr}
def iList (K : PySem.W.Frag) (tl : TE) : TI := fun σ H R => tl σ H fun x H1 => ∃ a, x = .ref a ∧ (∃ xs, SqL K H1 a xs) ∧ R (Itl K a) H1
def iTup (K : PySem.W.Frag) (tl : TE) : TI := fun σ H R => tl σ H fun x H1 => ∃ a, x = .ref a ∧ (∃ xs, SqT K H1 a xs) ∧ R (Itt K a) H1
theorem pi_list {l : Expr} {tl : TE} (hl : PE X l tl) : PI X tg l (iList X.K tl) := by
  intro pins s σ H R I h
  refine thn (hl pins s σ H _ I h) fun v s1 ⟨x, H1, I1, r1, q1⟩ => ?_
  obtain ⟨a, e, ⟨xs, hq⟩, q⟩ := q1
  subst e
  cases r1
  obtain ⟨its, rv, p, hz⟩ := I1.list hq
  refine wpAny_pyIter_list p.isList ?_
  refine ⟨s1.heap.objs.size, [s1.heap.objs.size], _, _, H1, rfl, I1.kept (t' := s1.toks) fun b o e => Heap.get?_push_of_some _ e, turn_list a _, ⟨_, Heap.get?_push_size _ rfl, rfl, rfl⟩, fun b hb => ?_, q⟩
  have e : b = s1.heap.objs.size := by simpa using hb
  subst e
  exact I1.fpOk (Nat.le_refl _) (I1.hok.fresh (Nat.le_refl _))
theorem pi_tup {l : Expr} {tl : TE} (hl : PE X l tl) : PI X tg l (iTup X.K tl) := by
  intro pins s σ H R I h
  refine thn (hl pins s σ H _ I h) fun v s1 ⟨x, H1, I1, r1, q1⟩ => ?_
  obtain ⟨a, e, ⟨xs, hq⟩, q⟩ := q1
  subst e
  cases r1
  obtain ⟨its, rv, p, hz⟩ := I1.tuple hq
  refine wpAny_pyIter_tuple (show s1.heap.IsTuple a its.toArray from p) ?_
  refine ⟨s1.heap.objs.size, [s1.heap.objs.size], _, _, H1, rfl, I1.kept (t' := s1.toks) fun b o e => Heap.get?_push_of_some _ e, turn_tuple a _, ⟨_, Heap.get?_push_size _ rfl, rfl, rfl⟩, fun b hb => ?_, q⟩
  have e : b = s1.heap.objs.size := by simpa using hb
  subst e
  exact I1.fpOk (Nat.le_refl _) (I1.hok.fresh (Nat.le_refl _))
/-- a range object just made, walked -/
theorem range_it {pins : List (Addr × Obj)} {σ : St} {H : Hp} {s : Shared} {R : It → Hp → Prop} {E : Value → Shared → Prop} {lo hi : Int} {t u v : Tok} {tk : Nat} (I : Inv X pins σ H s) (h1 : -(2 ^ 62) ≤ lo) (h2 : lo < 2 ^ 62) (h3 : -(2 ^ 62) ≤ hi) (h4 : hi < 2 ^ 62)
    (q : R (Itr lo (hi - lo).toNat) H) : wpAny (model X.prog X.w) X.A (pyIter (.ref s.heap.objs.size)) (PIE X pins σ tg R) E { s with heap := s.heap.push { cls := .type "range", data := .fields #[.int lo t, .int hi u, .int 1 v] }, toks := tk } := by
  refine wpAny_pyIter_range (IsRange.new ..) (small_one h1 h2 h3 h4) ?_
  have I1 : Inv X pins σ H { s with heap := s.heap.push { cls := .type "range", data := .fields #[.int lo t, .int hi u, .int 1 v] }, toks := tk } := I.kept fun b o e => Heap.get?_push_of_some _ e
  refine ⟨(s.heap.push { cls := .type "range", data := .fields #[.int lo t, .int hi u, .int 1 v] }).objs.size, [(s.heap.push { cls := .type "range", data := .fields #[.int lo t, .int hi u, .int 1 v] }).objs.size], _, _, H, rfl,
    I1.kept (t' := tk) fun b o e => Heap.get?_push_of_some _ e, turn_range _ lo (hi - lo).toNat, ?_, fun b hb => ?_, q⟩
  · have e1 : lo + ((0 : Nat) : Int) * 1 = lo := by simp
    have e2 : (((hi - lo).toNat : Nat) : Int) - ((0 : Nat) : Int) = Builtin.Range.rangeSize lo hi 1 := by rw [rangeSize_one]; split <;> omega
    show IsRangeIter _ _ (lo + ((0 : Nat) : Int) * 1) ((((hi - lo).toNat : Nat) : Int) - ((0 : Nat) : Int)) 1
    rw [e1, e2]
    exact Heap.get?_push_size _ rfl
  · have e : b = (s.heap.push { cls := .type "range", data := .fields #[.int lo t, .int hi u, .int 1 v] }).objs.size := by simpa using hb
    subst e
    exact I1.fpOk (Nat.le_refl _) (I1.hok.fresh (Nat.le_refl _))
def iRng1 (ta : TA) : TI := fun σ H R => ta σ H fun vs H1 => ∃ j : Int, vs = [.int j] ∧ -(2 ^ 62) ≤ j ∧ j < 2 ^ 62 ∧ R (Itr 0 j.toNat) H1
def iRng2 (ta : TA) : TI := fun σ H R => ta σ H fun vs H1 => ∃ i j : Int, vs = [.int i, .int j] ∧ (-(2 ^ 62) ≤ i ∧ i < 2 ^ 62 ∧ -(2 ^ 62) ≤ j ∧ j < 2 ^ 62) ∧ R (Itr i (j - i).toNat) H1
theorem pi_range1 {a : Expr} {ta : TA} {p pos : Pos} (hg : Gl X "range") (hm : X.mg "range" = none) (ha : PA X [a] ta) (hs : starEach [a] X.env = [(false, eval a X.env)] := by rfl) : PI X tg (.Call (.Name "range" p) [a] [] pos) (iRng1 ta) := by
  intro pins s σ H R I h
  refine Call_ (ld_blt I hg hm boot_range (PyProof.Rows.callWith_type1 (thn (ha pos pins s σ H _ I h) fun us s1 ⟨vs, H1, I1, r1, q1⟩ => ?_) hs rfl))
  obtain ⟨j, e, q1, q2, q⟩ := q1
  subst e
  cases r1 with
  | cons r rr =>
    cases rr
    obtain ⟨t, rfl⟩ := r
    exact call_range_1 (range_it I1 (by omega) (by omega) q1 q2 (by simpa using q))
/-! ### for -/
/-- W: the invariant by the turn and a measure; N: what the body is to reach -/
def tFor (wi : TI) (g : TG) (tb : TS) : TS := fun D σ H => wi σ H fun J H1 => ∃ W : Nat → Nat → St → Hp → Prop, (∃ m, W 0 m σ H1) ∧ ∀ i m σ H, W i m σ H →
  (J.stop i H ∧ D.nx σ H) ∨ (J.go i H ∧ ∃ N : St → Hp → Prop, (∀ σ' H', N σ' H' → ∃ m', m' < m ∧ W (i + 1) m' σ' H') ∧ ∀ x H', J.yld i H x H' → g x σ H' fun σ2 H2 => tb { D with nx := N, ct := N, bk := D.nx } σ2 H2)
/-- the records at fp as they stand -/
def pinsAt (fp : List Addr) (h : Heap) : List (Addr × Obj) := fp.filterMap fun b => (h.get? b).map fun o => (b, o)
theorem mem_pinsAt {fp : List Addr} {h : Heap} {b : Addr} {o : Obj} (hb : b ∈ fp) (e : h.get? b = some o) : (b, o) ∈ pinsAt fp h := List.mem_filterMap.mpr ⟨b, hb, by rw [e]; rfl⟩
theorem of_pinsAt {fp : List Addr} {h : Heap} {p : Addr × Obj} (hp : p ∈ pinsAt fp h) : p.1 ∈ fp ∧ h.get? p.1 = some p.2 := by
  obtain ⟨b, hb, e⟩ := List.mem_filterMap.mp hp
  cases q : h.get? b with
  | none => rw [q] at e; cases e
  | some o =>
    rw [q] at e
    have e' : (b, o) = p := Option.some.inj e
    subst e'
    exact ⟨hb, q⟩
theorem Inv.pinned {pins : List (Addr × Obj)} {σ : St} {H : Hp} {s : Shared} {fp : List Addr} (I : Inv X pins σ H s) (hf : ∀ b ∈ fp, FpOk X pins H b) (ho : ∀ b ∈ fp, ∃ o, s.heap.get? b = some o ∧ ∀ v, o.data ≠ .cell v) : Inv X (pins ++ pinsAt fp s.heap) σ H s :=
  I.pins_of fun p hp => (List.mem_append.mp hp).elim (fun z => I.pin p (List.mem_append_right _ z)) fun z => by
    obtain ⟨hb, e⟩ := of_pinsAt z
    obtain ⟨f0, f1, f2, _⟩ := hf p.1 hb
    obtain ⟨o, e', d⟩ := ho p.1 hb
    rw [e] at e'; cases e'
    exact ⟨e, f0, f1, f2, d⟩
theorem Inv.unpinned {pins pl : List (Addr × Obj)} {σ : St} {H : Hp} {s : Shared} (I : Inv X (pins ++ pl) σ H s) : Inv X pins σ H s := I.pins_of fun p hp => I.pin p (List.mem_append_right _ (List.mem_append_left _ hp))
theorem ps_for {iter : Expr} {body : List Stmt} {wi : TI} {g : TG} {tb : TS} {pos : Pos} (hp : PassesOwn (model X.prog X.w) X.A X.env X.xe) (hc : X.calm = true) (hi : PI X tg iter wi) (hg : PG X tg g) (hb : PSs X body tb)
    (hs : ∀ x, foldedSetIterable iter X.env x = pure x := by intro _; rfl) : PS X (.For tg iter body [] pos) (tFor wi g tb) := by
  intro pins s σ H D I h
  refine wpAny_For (thn (hi pins s σ H _ I h) fun v s1 h1 => thn h1 fun itv s2 h2 => ?_) hs
  obtain ⟨it, fp, tn, J, H2, e, I2, T, st2, f2, W, ⟨m0, w0⟩, turn⟩ := h2
  subst e
  -- what stays true of the iterator's objects through the loop
  have stat : ∀ {H' : Hp}, (∀ b ∈ fp, H' b = none) → ∀ b ∈ fp, FpOk X pins H' b := fun hn b hb => ⟨hn b hb, (f2 b hb).2⟩
  refine codeAny_forLoop_any (fun n s' => ∃ i σ' H', Inv X pins σ' H' s' ∧ tn i s'.heap ∧ (∀ b ∈ fp, H' b = none) ∧ W i n σ' H') ?_ m0 ⟨0, σ, H2, I2, st2, fun b hb => (f2 b hb).1, w0⟩
  rintro n s3 ⟨i, σ3, H3, I3, st3, fr3, w3⟩
  rcases turn i n σ3 H3 w3 with ⟨stop, qn⟩ | ⟨go, N, hN, step⟩
  · refine wpAny_passesOwn hp (thn (T.done X rfl rfl rfl hc i pins s3 σ3 H3 X.xe I3 (stat fr3) st3 stop) fun r s4 ⟨hr, I4⟩ => ?_)
    subst hr
    exact wpAny_execs_nil ⟨σ3, H3, I4, qn⟩
  · refine wpAny_passesOwn hp (thn (T.item X rfl rfl rfl hc i pins s3 σ3 H3 X.xe I3 (stat fr3) st3 go) fun r s4 ⟨u, hr, h4⟩ => ?_)
    subst hr
    refine wpAny_passesOwn hp (thn h4 fun _ s5 ⟨x, H5, I5, r5, y5, st5, fr5⟩ => ?_)
    have I5' := I5.pinned (stat fr5) (T.obj _ _ st5)
    refine wpAny_passesOwn hp (thn (hg _ s5 σ3 H5 x u _ I5' r5 (step x H5 y5)) fun _ s6 ⟨σ6, H6, I6, q6⟩ => ?_)
    refine wpAny_passesOwn hp (thn (hb _ s6 σ6 H6 _ I6 q6) fun f s7 q7 => ?_)
    have again : ∀ {σ7 : St} {H7 : Hp}, Inv X (pins ++ pinsAt fp s5.heap) σ7 H7 s7 → N σ7 H7 → ∃ m, m < n ∧ ∃ i σ' H', Inv X pins σ' H' s7 ∧ tn i s7.heap ∧ (∀ b ∈ fp, H' b = none) ∧ W i m σ' H' := fun {σ7 H7} I7 n7 => by
      obtain ⟨m', hm, w7⟩ := hN σ7 H7 n7
      refine ⟨m', hm, i + 1, σ7, H7, I7.unpinned, T.keep _ _ _ st5 fun b hb o e => (I7.pin (b, o) (List.mem_append_right _ (List.mem_append_right _ (mem_pinsAt hb e)))).1, fun b hb => ?_, w7⟩
      obtain ⟨o, e, d⟩ := T.obj _ _ st5 b hb
      exact (I7.pin (b, o) (List.mem_append_right _ (List.mem_append_right _ (mem_pinsAt hb e)))).2.1
    cases f with
    | next => obtain ⟨σ7, H7, I7, n7⟩ := q7; exact again I7 n7
    | cont => obtain ⟨σ7, H7, I7, n7⟩ := q7; exact again I7 n7
    | brk => obtain ⟨σ7, H7, I7, q7⟩ := q7; exact ⟨σ7, H7, I7.unpinned, q7⟩
    | ret v => obtain ⟨x7, σ7, H7, I7, r7, q7⟩ := q7; exact ⟨x7, σ7, H7, I7.unpinned, r7, q7⟩
end

/-! ### the forms one uses -/
/-- over a list that the body leaves as it is -/
theorem for_list {K : PySem.W.Frag} {a : Addr} {xs : List V} {g : TG} {tb : TS} {D : Ends} {σ : St} {H : Hp} (Pv : Nat → St → Hp → Prop) (h0 : Pv 0 σ H) (hl : ∀ i σ H, i ≤ xs.length → Pv i σ H → SqL K H a xs)
    (hs : ∀ i x σ H, xs[i]? = some x → Pv i σ H → g x σ H fun σ2 H2 => tb { D with nx := Pv (i + 1), ct := Pv (i + 1), bk := D.nx } σ2 H2) (hd : ∀ σ H, Pv xs.length σ H → D.nx σ H) :
    ∃ W : Nat → Nat → St → Hp → Prop, (∃ m, W 0 m σ H) ∧ ∀ i m σ H, W i m σ H →
      ((Itl K a).stop i H ∧ D.nx σ H) ∨ ((Itl K a).go i H ∧ ∃ N : St → Hp → Prop, (∀ σ' H', N σ' H' → ∃ m', m' < m ∧ W (i + 1) m' σ' H') ∧ ∀ x H', (Itl K a).yld i H x H' → g x σ H' fun σ2 H2 => tb { D with nx := N, ct := N, bk := D.nx } σ2 H2) := by
  refine ⟨fun i m σ H => m = xs.length - i ∧ i ≤ xs.length ∧ Pv i σ H, ⟨xs.length, by simp, Nat.zero_le _, h0⟩, ?_⟩
  rintro i m σ H ⟨rfl, hi, p⟩
  have q := hl i σ H hi p
  by_cases hlt : i < xs.length
  · refine .inr ⟨⟨xs, xs[i], q, by simp [hlt]⟩, Pv (i + 1), fun σ' H' p' => ⟨xs.length - (i + 1), by omega, rfl, hlt, p'⟩, fun x H' y => ?_⟩
    obtain ⟨e, y⟩ := y
    subst e
    exact hs i x σ _ (y xs q) p
  · have e : i = xs.length := by omega
    subst e
    exact .inl ⟨⟨xs, q, Nat.le_refl _⟩, hd σ H p⟩
theorem for_tup {K : PySem.W.Frag} {a : Addr} {xs : List V} {g : TG} {tb : TS} {D : Ends} {σ : St} {H : Hp} (Pv : Nat → St → Hp → Prop) (h0 : Pv 0 σ H) (hl : ∀ i σ H, i ≤ xs.length → Pv i σ H → SqT K H a xs)
    (hs : ∀ i x σ H, xs[i]? = some x → Pv i σ H → g x σ H fun σ2 H2 => tb { D with nx := Pv (i + 1), ct := Pv (i + 1), bk := D.nx } σ2 H2) (hd : ∀ σ H, Pv xs.length σ H → D.nx σ H) :
    ∃ W : Nat → Nat → St → Hp → Prop, (∃ m, W 0 m σ H) ∧ ∀ i m σ H, W i m σ H →
      ((Itt K a).stop i H ∧ D.nx σ H) ∨ ((Itt K a).go i H ∧ ∃ N : St → Hp → Prop, (∀ σ' H', N σ' H' → ∃ m', m' < m ∧ W (i + 1) m' σ' H') ∧ ∀ x H', (Itt K a).yld i H x H' → g x σ H' fun σ2 H2 => tb { D with nx := N, ct := N, bk := D.nx } σ2 H2) := by
  refine ⟨fun i m σ H => m = xs.length - i ∧ i ≤ xs.length ∧ Pv i σ H, ⟨xs.length, by simp, Nat.zero_le _, h0⟩, ?_⟩
  rintro i m σ H ⟨rfl, hi, p⟩
  have q := hl i σ H hi p
  by_cases hlt : i < xs.length
  · refine .inr ⟨⟨xs, xs[i], q, by simp [hlt]⟩, Pv (i + 1), fun σ' H' p' => ⟨xs.length - (i + 1), by omega, rfl, hlt, p'⟩, fun x H' y => ?_⟩
    obtain ⟨e, y⟩ := y
    subst e
    exact hs i x σ _ (y xs q) p
  · have e : i = xs.length := by omega
    subst e
    exact .inl ⟨⟨xs, q, Nat.le_refl _⟩, hd σ H p⟩
theorem for_range {lo : Int} {n : Nat} {g : TG} {tb : TS} {D : Ends} {σ : St} {H : Hp} (Pv : Nat → St → Hp → Prop) (h0 : Pv 0 σ H)
    (hs : ∀ i σ H, i < n → Pv i σ H → g (.int (lo + i)) σ H fun σ2 H2 => tb { D with nx := Pv (i + 1), ct := Pv (i + 1), bk := D.nx } σ2 H2) (hd : ∀ σ H, Pv n σ H → D.nx σ H) :
    ∃ W : Nat → Nat → St → Hp → Prop, (∃ m, W 0 m σ H) ∧ ∀ i m σ H, W i m σ H →
      ((Itr lo n).stop i H ∧ D.nx σ H) ∨ ((Itr lo n).go i H ∧ ∃ N : St → Hp → Prop, (∀ σ' H', N σ' H' → ∃ m', m' < m ∧ W (i + 1) m' σ' H') ∧ ∀ x H', (Itr lo n).yld i H x H' → g x σ H' fun σ2 H2 => tb { D with nx := N, ct := N, bk := D.nx } σ2 H2) := by
  refine ⟨fun i m σ H => m = n - i ∧ i ≤ n ∧ Pv i σ H, ⟨n, by simp, Nat.zero_le _, h0⟩, ?_⟩
  rintro i m σ H ⟨rfl, hi, p⟩
  by_cases hlt : i < n
  · refine .inr ⟨hlt, Pv (i + 1), fun σ' H' p' => ⟨n - (i + 1), by omega, rfl, hlt, p'⟩, fun x H' y => ?_⟩
    obtain ⟨e, y⟩ := y
    subst e y
    exact hs i σ _ hlt p
  · have e : i = n := by omega
    subst e
    exact .inl ⟨Nat.le_refl _, hd σ H p⟩
end L2

namespace L2
open PySem PySem.Spec PyProof.Rows

abbrev R2 := V → V → Hp → VK → Prop
/-- a two-place operation on values: f is binaryOp op, inplaceOp op or compareOp op -/
def OpR (X : Cx) (f : Value → Value → Sem Value) (r : R2) : Prop :=
  ∀ (pins : List (Addr × Obj)) (s : Shared) (σ : St) (H : Hp) (x y : V) (v u : Value) (Q : VK), Inv X pins σ H s → RelV x v → RelV y u → r x y H Q →
    wpAny (model X.prog X.w) X.A (f v u) (EP X pins σ Q) X.xe s
/-- a one-place operation -/
def UnR (X : Cx) (f : Value → Sem Value) (r : V → Hp → VK → Prop) : Prop :=
  ∀ (pins : List (Addr × Obj)) (s : Shared) (σ : St) (H : Hp) (x : V) (v : Value) (Q : VK), Inv X pins σ H s → RelV x v → r x H Q →
    wpAny (model X.prog X.w) X.A (f v) (EP X pins σ Q) X.xe s
/-- a call of a value that is known (a builtin, a type) with values -/
def CallR (X : Cx) (f : Value) (r : List V → Hp → VK → Prop) : Prop :=
  ∀ (pins : List (Addr × Obj)) (s : Shared) (σ : St) (H : Hp) (xs : List V) (us : List Value) (Q : VK), Inv X pins σ H s → Vals xs us → r xs H Q →
    wpAny (model X.prog X.w) X.A (call f us) (EP X pins σ Q) X.xe s
/-- a value's truth -/
def TruR (X : Cx) (r : V → Hp → (Bool → Hp → Prop) → Prop) : Prop :=
  ∀ (pins : List (Addr × Obj)) (s : Shared) (σ : St) (H : Hp) (x : V) (v : Value) (Q : Bool → Hp → Prop), Inv X pins σ H s → RelV x v → r x H Q →
    wpAny (model X.prog X.w) X.A (truthy v) (TP X pins σ Q) X.xe s

def tOp (r : R2) (ta tb : TE) : TE := fun σ H Q => ta σ H fun x H1 => tb σ H1 fun y H2 => r x y H2 Q
def tUn (r : V → Hp → VK → Prop) (ta : TE) : TE := fun σ H Q => ta σ H fun x H1 => r x H1 Q
/-- ints in, under C, and a value out -/
def rI (C : Int → Int → Prop) (g : Int → Int → V) : R2 := fun x y H Q => ∃ i j, x = .int i ∧ y = .int j ∧ C i j ∧ Q (g i j) H
def rI0 (g : Int → Int → V) : R2 := fun x y H Q => ∃ i j, x = .int i ∧ y = .int j ∧ Q (g i j) H
def rU (g : Int → V) : V → Hp → VK → Prop := fun x H Q => ∃ i, x = .int i ∧ Q (g i) H

section
variable {X : Cx} {a b c : Expr} {ta tb tc : TE} {pos : Pos}

theorem binT (ha : PE X a ta) (hb : PE X b tb) {pins : List (Addr × Obj)} {s : Shared} {σ : St} {H : Hp} {R : V → V → Hp → Prop} (I : Inv X pins σ H s)
    (h : ta σ H fun x H1 => tb σ H1 fun y H2 => R x y H2) {Q : Value → Shared → Prop} {f : Value → Value → Sem Value}
    (hf : ∀ v u s2 x y H2, Inv X pins σ H2 s2 → RelV x v → RelV y u → R x y H2 → wpAny (model X.prog X.w) X.A (f v u) Q X.xe s2) :
    wpAny (model X.prog X.w) X.A (eval a X.env) (fun v s₁ => wpAny (model X.prog X.w) X.A (eval b X.env) (fun u s₂ => wpAny (model X.prog X.w) X.A (f v u) Q X.xe s₂) X.xe s₁) X.xe s := by
  refine thn (ha pins s σ H _ I h) fun v s1 ⟨x, H1, I1, r1, q1⟩ => ?_
  refine thn (hb pins s1 σ H1 _ I1 q1) fun u s2 ⟨y, H2, I2, r2, q2⟩ => ?_
  exact hf v u s2 x y H2 I2 r1 r2 q2

theorem pe_op {op : Operator} {r : R2} (ho : OpR X (binaryOp op) r) (ha : PE X a ta) (hb : PE X b tb) : PE X (.BinOp a op b pos) (tOp r ta tb) := by
  intro pins s σ H Q I h
  exact wpAny_BinOp (binT ha hb I h fun v u s2 x y H2 I2 rx ry q => ho pins s2 σ H2 x y v u Q I2 rx ry q)
theorem pe_un {op : UnaryOp} {r : V → Hp → VK → Prop} (ho : UnR X (unaryOp op) r) (ha : PE X a ta) : PE X (.UnaryOp op a pos) (tUn r ta) := by
  intro pins s σ H Q I h
  exact UnaryOp_ (thn (ha pins s σ H _ I h) fun v s1 ⟨x, H1, I1, r1, q1⟩ => ho pins s1 σ H1 x v Q I1 r1 q1)
/-! ### ints -/
theorem opI {f : Value → Value → Sem Value} {C : Int → Int → Prop} {g : Int → Int → Int}
    (rule : ∀ (i j : Int) (t u : Tok) (s : Shared) (Q : Value → Shared → Prop) (E : Value → Shared → Prop), C i j → Q (.int (g i j) s.toks) { s with toks := s.toks + 1 } → wpAny (model X.prog X.w) X.A (f (.int i t) (.int j u)) Q E s) :
    OpR X f (rI C fun i j => .int (g i j)) := by
  intro pins s σ H x y v u Q I rx ry h
  obtain ⟨i, j, rfl, rfl, hc, q⟩ := h
  obtain ⟨t, rfl⟩ := rx
  obtain ⟨t', rfl⟩ := ry
  exact rule i j t t' s _ _ hc ⟨.int (g i j), H, I.tok _, ⟨_, rfl⟩, q⟩
theorem opI0 {f : Value → Value → Sem Value} {g : Int → Int → Int}
    (rule : ∀ (i j : Int) (t u : Tok) (s : Shared) (Q : Value → Shared → Prop) (E : Value → Shared → Prop), Q (.int (g i j) s.toks) { s with toks := s.toks + 1 } → wpAny (model X.prog X.w) X.A (f (.int i t) (.int j u)) Q E s) :
    OpR X f (rI0 fun i j => .int (g i j)) := by
  intro pins s σ H x y v u Q I rx ry h
  obtain ⟨i, j, rfl, rfl, q⟩ := h
  obtain ⟨t, rfl⟩ := rx
  obtain ⟨t', rfl⟩ := ry
  exact rule i j t t' s _ _ ⟨.int (g i j), H, I.tok _, ⟨_, rfl⟩, q⟩
theorem opB0 {f : Value → Value → Sem Value} {g : Int → Int → Bool}
    (rule : ∀ (i j : Int) (t u : Tok) (s : Shared) (Q : Value → Shared → Prop) (E : Value → Shared → Prop), Q (.bool (g i j)) s → wpAny (model X.prog X.w) X.A (f (.int i t) (.int j u)) Q E s) :
    OpR X f (rI0 fun i j => .bl (g i j)) := by
  intro pins s σ H x y v u Q I rx ry h
  obtain ⟨i, j, rfl, rfl, q⟩ := h
  obtain ⟨t, rfl⟩ := rx
  obtain ⟨t', rfl⟩ := ry
  exact rule i j t t' s _ _ ⟨.bl (g i j), H, I, rfl, q⟩

def CPow (i j : Int) : Prop := 0 ≤ j ∧ j ≤ 1000000 ∧ i.natAbs < 2 ^ 64
def CMul (i j : Int) : Prop := (-(2 ^ 64) < i ∧ i < 2 ^ 64) ∨ (-(2 ^ 64) < j ∧ j < 2 ^ 64)
theorem CMul.ok {i j : Int} (h : CMul i j) : IntMulOk i j := by
  rcases h with ⟨h1, h2⟩ | ⟨h1, h2⟩
  · exact .of_left (intBits_le_64 h1 h2)
  · exact .of_right (intBits_le_64 h1 h2)
theorem op_add : OpR X (binaryOp .Add) (rI0 fun i j => .int (i + j)) := opI0 fun _ _ _ _ _ _ _ q => add_int q
theorem op_sub : OpR X (binaryOp .Sub) (rI0 fun i j => .int (i - j)) := opI0 fun _ _ _ _ _ _ _ q => sub_int q
/-- % by a positive divisor of any size -/
theorem op_mod : OpR X (binaryOp .Mod) (rI (fun _ j => 0 < j) fun i j => .int (i % j)) := opI fun i j _ _ _ _ _ hc q => by
  have h1 : (0 : Int) < j := hc
  exact mod_int' (by omega) (by rw [Int.fmod_eq_emod_of_nonneg i (by omega)]; exact q)
theorem op_shl : OpR X (binaryOp .LShift) (rI CPow fun i j => .int (i * 2 ^ j.toNat)) := opI fun _ _ _ _ _ _ _ hc q => lshift_int_small hc.1 hc.2.1 hc.2.2 q
theorem unI {f : Value → Sem Value} {g : Int → Int}
    (rule : ∀ (i : Int) (t : Tok) (s : Shared) (Q : Value → Shared → Prop) (E : Value → Shared → Prop), Q (.int (g i) s.toks) { s with toks := s.toks + 1 } → wpAny (model X.prog X.w) X.A (f (.int i t)) Q E s) :
    UnR X f (rU fun i => .int (g i)) := by
  intro pins s σ H x v Q I rx h
  obtain ⟨i, rfl, q⟩ := h
  obtain ⟨t, rfl⟩ := rx
  exact rule i t s _ _ ⟨.int (g i), H, I.tok _, ⟨_, rfl⟩, q⟩
theorem un_neg : UnR X (unaryOp .USub) (rU fun i => .int (-i)) := unI fun _ _ _ _ _ q => neg_int q
/-! ### bools among ints: n += (a < b) -/
end

/-! ### comparisons -/
/-- the scalars that == tells apart as data does -/
def scal : V → V → Bool
  | .non, .non => true | .non, .int _ => true | .int _, .non => true | .non, .bl _ => true | .bl _, .non => true | .non, .str _ => true | .str _, .non => true
  | .int _, .int _ => true | .bl _, .bl _ => true | .str _, .str _ => true | .byt _, .byt _ => true
  | .int _, .str _ => true | .str _, .int _ => true | .bl _, .str _ => true | .str _, .bl _ => true
  | _, _ => false
def rEq : R2 := fun x y H Q => scal x y = true ∧ Q (.bl (decide (x = y))) H
def rNe : R2 := fun x y H Q => scal x y = true ∧ Q (.bl (!decide (x = y))) H

theorem dec_int {i j : Int} : decide (V.int i = V.int j) = (i == j) := by
  rw [Bool.eq_iff_iff]
  simp
theorem dec_bl {i j : Bool} : decide (V.bl i = V.bl j) = (i == j) := by
  rw [Bool.eq_iff_iff]
  simp
theorem dec_str {i j : Str} : decide (V.str i = V.str j) = (i == j) := by
  rw [Bool.eq_iff_iff]
  simp
theorem dec_byt {i j : Array UInt8} : decide (V.byt i = V.byt j) = (i.toList == j.toList) := by
  rw [Bool.eq_iff_iff]
  cases i
  cases j
  simp

section
variable {X : Cx} {a b c : Expr} {ta tb tc : TE} {pos : Pos}
theorem fin_bl {pins : List (Addr × Obj)} {σ : St} {H : Hp} {s : Shared} {Q : VK} {k k' : Bool} (I : Inv X pins σ H s) (q : Q (.bl k) H) (e : k = k') : EP X pins σ Q (.bool k') s := by
  subst e
  exact ⟨.bl k, H, I, rfl, q⟩
theorem op_eq : OpR X (compareOp .Eq) rEq := by
  intro pins s σ H x y v u Q I rx ry h
  obtain ⟨hs, q⟩ := h
  cases x with
  | non =>
    cases rx
    cases y with
    | non => cases ry; exact PySem.EqNone.eq_none_none (fin_bl I q (by simp))
    | bl j => cases ry; exact PySem.EqNone.eq_none_bool (fin_bl I q (by simp))
    | int j => obtain ⟨t', rfl⟩ := ry; exact PySem.EqNone.eq_none_int (fin_bl I q (by simp))
    | str j => obtain ⟨t', rfl⟩ := ry; exact PySem.EqNone.eq_none_str (fin_bl I q (by simp))
    | _ => exact absurd (show false = true from hs) Bool.false_ne_true
  | bl i =>
    cases rx
    cases y with
    | non => cases ry; exact PySem.EqNone.eq_bool_none (fin_bl I q (by simp))
    | bl j => cases ry; exact eq_bool (fin_bl I q dec_bl)
    | str j => obtain ⟨t', rfl⟩ := ry; exact PySem.EqMixed.eq_bool_str (fin_bl I q (by simp))
    | _ => exact absurd (show false = true from hs) Bool.false_ne_true
  | int i =>
    obtain ⟨t, rfl⟩ := rx
    cases y with
    | non => cases ry; exact PySem.EqNone.eq_int_none (fin_bl I q (by simp))
    | int j => obtain ⟨t', rfl⟩ := ry; exact eq_int (fin_bl I q dec_int)
    | str j => obtain ⟨t', rfl⟩ := ry; exact PySem.EqMixed.eq_int_str (fin_bl I q (by simp))
    | _ => exact absurd (show false = true from hs) Bool.false_ne_true
  | str i =>
    obtain ⟨t, rfl⟩ := rx
    cases y with
    | non => cases ry; exact PySem.EqNone.eq_str_none (fin_bl I q (by simp))
    | bl j => cases ry; exact PySem.EqMixed.eq_str_bool (fin_bl I q (by simp))
    | int j => obtain ⟨t', rfl⟩ := ry; exact PySem.EqMixed.eq_str_int (fin_bl I q (by simp))
    | str j => obtain ⟨t', rfl⟩ := ry; exact eq_str (fin_bl I q dec_str)
    | _ => exact absurd (show false = true from hs) Bool.false_ne_true
  | byt i =>
    obtain ⟨t, rfl⟩ := rx
    cases y with
    | byt j => obtain ⟨t', rfl⟩ := ry; exact PySem.W.eq_bytes (fin_bl I q dec_byt)
    | _ => exact absurd (show false = true from hs) Bool.false_ne_true
  | _ => cases y <;> exact absurd (show false = true from hs) Bool.false_ne_true
theorem op_ne : OpR X (compareOp .NotEq) rNe := by
  intro pins s σ H x y v u Q I rx ry h
  obtain ⟨hs, q⟩ := h
  cases x with
  | non =>
    cases rx
    cases y with
    | non => cases ry; exact PySem.EqNone.ne_none_none (fin_bl I q (by simp))
    | bl j => cases ry; exact PySem.EqNone.ne_none_bool (fin_bl I q (by simp))
    | int j => obtain ⟨t', rfl⟩ := ry; exact PySem.EqNone.ne_none_int (fin_bl I q (by simp))
    | str j => obtain ⟨t', rfl⟩ := ry; exact PySem.EqNone.ne_none_str (fin_bl I q (by simp))
    | _ => exact absurd (show false = true from hs) Bool.false_ne_true
  | bl i =>
    cases rx
    cases y with
    | non => cases ry; exact PySem.EqNone.ne_bool_none (fin_bl I q (by simp))
    | bl j => cases ry; exact ne_bool (fin_bl I q (congrArg not dec_bl))
    | str j => obtain ⟨t', rfl⟩ := ry; exact PySem.EqMixed.ne_bool_str (fin_bl I q (by simp))
    | _ => exact absurd (show false = true from hs) Bool.false_ne_true
  | int i =>
    obtain ⟨t, rfl⟩ := rx
    cases y with
    | non => cases ry; exact PySem.EqNone.ne_int_none (fin_bl I q (by simp))
    | int j => obtain ⟨t', rfl⟩ := ry; exact ne_int (fin_bl I q (congrArg not dec_int))
    | str j => obtain ⟨t', rfl⟩ := ry; exact PySem.EqMixed.ne_int_str (fin_bl I q (by simp))
    | _ => exact absurd (show false = true from hs) Bool.false_ne_true
  | str i =>
    obtain ⟨t, rfl⟩ := rx
    cases y with
    | non => cases ry; exact PySem.EqNone.ne_str_none (fin_bl I q (by simp))
    | bl j => cases ry; exact PySem.EqMixed.ne_str_bool (fin_bl I q (by simp))
    | int j => obtain ⟨t', rfl⟩ := ry; exact PySem.EqMixed.ne_str_int (fin_bl I q (by simp))
    | str j => obtain ⟨t', rfl⟩ := ry; exact ne_str (fin_bl I q (congrArg not dec_str))
    | _ => exact absurd (show false = true from hs) Bool.false_ne_true
  | byt i =>
    obtain ⟨t, rfl⟩ := rx
    cases y with
    | byt j => obtain ⟨t', rfl⟩ := ry; exact PySem.W.ne_bytes (fin_bl I q (congrArg not dec_byt))
    | _ => exact absurd (show false = true from hs) Bool.false_ne_true
  | _ => cases y <;> exact absurd (show false = true from hs) Bool.false_ne_true

theorem op_lt : OpR X (compareOp .Lt) (rI0 fun i j => .bl (decide (i < j))) := opB0 fun _ _ _ _ _ _ _ q => lt_int q
theorem op_gt : OpR X (compareOp .Gt) (rI0 fun i j => .bl (decide (j < i))) := opB0 fun _ _ _ _ _ _ _ q => gt_int q
/-- two rules for one operation: by cases -/
theorem OpR.or {f : Value → Value → Sem Value} {r r' : R2} (h : OpR X f r) (h' : OpR X f r') : OpR X f (fun x y H Q => r x y H Q ∨ r' x y H Q) := by
  intro pins s σ H x y v u Q I rx ry q
  rcases q with q | q
  · exact h pins s σ H x y v u Q I rx ry q
  · exact h' pins s σ H x y v u Q I rx ry q

theorem nomark (b : Expr) {op : CmpOp} (h : op ≠ .In := by decide) (h2 : op ≠ .NotIn := by decide) : behindInMarks op b = false := by
  have e1 : (op == CmpOp.In) = false := by cases op <;> first | rfl | exact absurd rfl h
  have e2 : (op == CmpOp.NotIn) = false := by cases op <;> first | rfl | exact absurd rfl h2
  cases b <;> simp [behindInMarks, e1, e2]
/-- a comparison as a value; hm: nomark b, or (for in, not in) by with_unfolding_all rfl -/
theorem pe_cmpR {op : CmpOp} {r : R2} (ho : OpR X (compareOp op) r) (ha : PE X a ta) (hb : PE X b tb) (hm : behindInMarks op b = false) : PE X (.Compare a [op] [b] pos) (tOp r ta tb) := by
  intro pins s σ H Q I h
  exact wpAny_Compare1 (binT ha hb I h fun v u s2 x y H2 I2 rx ry q => ho pins s2 σ H2 x y v u Q I2 rx ry q) hm
/-- a reading of a value as a test -/
def tTest (t : TE) : TT := fun σ H Q => t σ H fun x H' => ∃ k, x = .bl k ∧ Q k H'
theorem pt_cmpR {op : CmpOp} {r : R2} (ho : OpR X (compareOp op) r) (ha : PE X a ta) (hb : PE X b tb) (hm : behindInMarks op b = false) : PT X (.Compare a [op] [b] pos) (tTest (tOp r ta tb)) := by
  intro pins s σ H Q I h
  refine wpAny_isTrue_Compare1 (thn (ha pins s σ H _ I h) fun v s1 ⟨x, H1, I1, r1, q1⟩ => thn (hb pins s1 σ H1 _ I1 q1) fun u s2 ⟨y, H2, I2, r2, q2⟩ =>
    thn (ho pins s2 σ H2 x y v u _ I2 r1 r2 q2) fun c s3 ⟨z, H3, I3, r3, k, e, q3⟩ => ?_) hm
  subst e
  cases r3
  exact wpAny_truthy_bool ⟨H3, I3, q3⟩
/-- a op1 b op2 c -/
def tChain (r r' : R2) (ta tb tc : TE) : TE := fun σ H Q => ta σ H fun x H1 => tb σ H1 fun y H2 => r x y H2 fun z H3 => ∃ k, z = .bl k ∧
  (if k = true then tc σ H3 fun w' H4 => r' y w' H4 Q else Q (.bl false) H3)
/-! ### truth -/
/-- a value's truth by the abstract heap -/
def TruV (K : PySem.W.Frag) (x : V) (H : Hp) (k : Bool) : Prop :=
  match x with
  | .non => k = false
  | .bl b => k = b
  | .int i => k = (i != 0)
  | .str y => y.length ≤ sizeLine ∧ k = ((y.length : Int) != 0)
  | .byt y => y.size ≤ sizeLine ∧ k = ((y.size : Int) != 0)
  | .ref p => (∃ xs, SqL K H p xs ∧ k = !xs.isEmpty) ∨ (∃ xs, SqT K H p xs ∧ k = !xs.isEmpty) ∨ ∃ kvs, H p = some (.dK kvs) ∧ k = !kvs.isEmpty
  | _ => False
theorem isEmpty_kv {κ : Type} {kvs : List (κ × V)} {vs : List (κ × Value)} (r : KV kvs vs) : (!vs.isEmpty) = !kvs.isEmpty := by
  cases r <;> rfl
theorem isEmpty_of {xs : List V} {its : List Value} (r : Vals xs its) : (!its.toArray.isEmpty) = !xs.isEmpty := by
  cases r <;> simp
theorem line63 : (sizeLine : Nat) < 2 ^ 63 := by rw [sizeLine_eq]; decide
theorem tru_ok : TruR X (fun x H Q => ∃ k, TruV X.K x H k ∧ Q k H) := by
  intro pins s σ H x v Q I rx h
  obtain ⟨k, e, q⟩ := h
  have hl := line63
  have hs : sizeLine = 16777216 := sizeLine_eq
  cases x with
  | non =>
    cases rx
    have e' : k = false := e
    subst e'
    exact truthy_none ⟨H, I, q⟩
  | bl b =>
    cases rx
    have e' : k = b := e
    subst e'
    exact wpAny_truthy_bool ⟨H, I, q⟩
  | int i =>
    obtain ⟨t, rfl⟩ := rx
    have e' : k = (i != 0) := e
    subst e'
    exact PySem.P.truthy_int ⟨H, I, q⟩
  | str y =>
    obtain ⟨t, rfl⟩ := rx
    obtain ⟨hy, e'⟩ : y.length ≤ sizeLine ∧ k = ((y.length : Int) != 0) := e
    subst e'
    exact PySem.P.truthy_str (by omega) ⟨H, I.tok _, q⟩
  | byt y =>
    obtain ⟨t, rfl⟩ := rx
    obtain ⟨hy, e'⟩ : y.size ≤ sizeLine ∧ k = ((y.size : Int) != 0) := e
    subst e'
    exact PySem.W.truthy_bytes (by omega) ⟨H, I.tok _, q⟩
  | ref p =>
    cases rx
    have e' : (∃ xs, SqL X.K H p xs ∧ k = !xs.isEmpty) ∨ (∃ xs, SqT X.K H p xs ∧ k = !xs.isEmpty) ∨ ∃ kvs, H p = some (.dK kvs) ∧ k = !kvs.isEmpty := e
    rcases e' with ⟨xs, hx, e'⟩ | ⟨xs, hx, e'⟩ | ⟨kvs, hx, e'⟩
    · subst e'
      obtain ⟨its, r, pl, hz⟩ := I.list hx
      have hlen := r.length
      exact wpAny_truthy_list pl.isList (by simp only [List.size_toArray]; omega) ⟨H, I.tok _, by rw [isEmpty_of r]; exact q⟩
    · subst e'
      obtain ⟨its, r, pl, hz⟩ := I.tuple hx
      have hlen := r.length
      exact truthy_tuple pl (by simp only [List.size_toArray]; omega) ⟨H, I.tok _, by rw [isEmpty_of r]; exact q⟩
    · subst e'
      obtain ⟨hz, hS, vs, r, m⟩ : kvs.length ≤ sizeLine ∧ (p == sysModules) = false ∧ ∃ vs, KV kvs vs ∧ s.heap.DictOf (mixKind X.prog X.w) p vs := I.hok p _ hx
      have hlen : kvs.length = vs.length := Paired.length r
      exact wpAny_truthy_dict hS m (by omega) ⟨H, I.tok _, by rw [isEmpty_kv r]; exact q⟩
  | _ => exact (show False from e).elim
/-- any expression whose test is its value's truth (a name, a call, a subscript, a field ..: he by fun _ => rfl) -/
theorem pt_truth (ha : PE X a ta) (he : ∀ whole, isTrue a X.env whole = (do let v ← whole; standAt a.pos; holding [v] (truthy v))) :
    PT X a (fun σ H Q => ta σ H fun x H' => ∃ k, TruV X.K x H' k ∧ Q k H') := by
  intro pins s σ H Q I h
  exact isTrue_plain (thn (ha pins s σ H _ I h) fun v s1 ⟨x, H1, I1, r1, q1⟩ => tru_ok pins s1 σ H1 x v Q I1 r1 q1) (he _)

/-! ### strs and bytes -/
/-! ### scalar builtins, by CallR -/
theorem vals1 {x : V} {us : List Value} (r : Vals [x] us) : ∃ u, us = [u] ∧ RelV x u := by
  cases r with
  | cons r1 r2 => cases r2; exact ⟨_, rfl, r1⟩
theorem vals2 {x y : V} {us : List Value} (r : Vals [x, y] us) : ∃ u w', us = [u, w'] ∧ RelV x u ∧ RelV y w' := by
  cases r with
  | cons r1 r2 =>
    cases r2 with
    | cons r3 r4 => cases r4; exact ⟨_, _, rfl, r1, r3⟩
theorem call_abs : CallR X (.builtin "abs") (fun xs H Q => ∃ i, xs = [.int i] ∧ Q (.int (if i < 0 then -i else i)) H) := by
  intro pins s σ H xs us Q I r h
  obtain ⟨i, rfl, q⟩ := h
  obtain ⟨u, rfl, t, rfl⟩ := vals1 r
  exact call_abs_int fun u tk => ⟨.int (if i < 0 then -i else i), H, I.tok _, ⟨_, rfl⟩, q⟩
end
end L2

namespace L2
open PySem PySem.Spec PyProof.Rows

/-! ### an instance, its attributes a map -/
structure ObjM (h : Heap) (x dx C : Addr) (mA : Str → Option Value) : Prop where
  obj : h.get? x = some (PySem.W.instObj C dx)
  ns : h.Ns1 dx mA
  ne : dx ≠ x

theorem lookIn_ns {h : Heap} {dx : Addr} {mA : Str → Option Value} (n : h.Ns1 dx mA) : ∃ od, h.get? dx = some od ∧ ∀ name, PySem.W.lookIn name od = some (mA name) := by
  obtain ⟨o, es, ep, ho, hd, hk, _, hm⟩ := n
  refine ⟨o, ho, fun name => ?_⟩
  have e := hm name
  unfold nsFind findBy at e
  rw [← Array.find?_toList] at e
  unfold PySem.W.lookIn
  rw [hd]
  dsimp only
  split
  · rename_i y q
    rw [q] at e
    exact congrArg some e
  · rename_i q
    rw [q] at e
    have a : es.toList.any (·.refKey) = false := by
      rw [List.any_eq_false]
      intro y hy
      obtain ⟨z, t, hkey⟩ := hk y (Array.mem_toList_iff.mp hy)
      simp [DictEntry.refKey, hkey]
    have a' : ¬ es.toList.any (·.refKey) = true := by rw [a]; exact Bool.false_ne_true
    rw [if_neg a']
    exact congrArg some e

theorem ObjM.look {h : Heap} {x dx C : Addr} {mA : Str → Option Value} (I : ObjM h x dx C mA) : ∃ od, PySem.W.InstAt h x (PySem.W.instObj C dx) C (some od) ∧ ∀ name, PySem.W.lookIn name od = some (mA name) :=
  let ⟨od, ho, hl⟩ := lookIn_ns I.ns
  ⟨od, ⟨I.obj, rfl, rfl, ho⟩, hl⟩

section
variable {prog : Program} {w : World} {A : Around} {E : Value → Shared → Prop} {s : Shared} {K : PySem.W.Frag} {x dx C f : Addr} {mA : Str → Option Value} {name : Str} {v : Value}

end

/-! ### the attributes as a list of pairs -/
theorem RelO.some_of {v : V} {o : Option Value} (r : RelO (some v) o) : ∃ u, o = some u ∧ RelV v u := by
  cases o with
  | none => exact (show False from r).elim
  | some u => exact ⟨u, rfl, r⟩
theorem RelO.none_of {o : Option Value} (r : RelO none o) : o = none := by
  cases o with
  | none => rfl
  | some u => exact (show False from r).elim
section
variable {P : Program} {w : World} {H H' : Hp} {h h' : Heap} {a C dx : Addr} {fs fs' : List (Str × V)}
theorem ins_get (hok : HOk P w H h) (e : H a = some (.ins C dx fs)) : ∃ mA, ObjM h a dx C mA ∧ (∀ f, RelO (fs.lookup f) (mA f)) ∧ PySem.Within mA (fs.map (·.1)) ∧ fs.length ≤ 1000 ∧ H dx = some (.own a) := by
  obtain ⟨d, z, ne, ob, mA, n, r, q⟩ := (show ObjOk P w H h a (.ins C dx fs) from hok a _ e)
  exact ⟨mA, ⟨ob, n, ne⟩, r, q, z, d⟩
end

/-! ### what of the text a class must have -/
structure Cls (K : PySem.W.Frag) (C : Addr) : Prop where
  pg : PySem.W.plainGet K C Str.empty = true
  hd : PySem.W.hasDictIn K C = true
  po : PySem.W.plainOver K C = true
  sa : PySem.W.findIn K (.ref C) "__setattr__" = some (some (.builtin "object.__setattr__"))
theorem Cls.get {K : PySem.W.Frag} {C : Addr} (c : Cls K C) (f : Str) : PySem.W.plainGet K C f = true := c.pg
/-- a constant of the class -/
structure Con (K : PySem.W.Frag) (C : Addr) (f : Str) (v : V) (u : Value) : Prop where
  at_ : PySem.W.findIn K (.ref C) f = some (some u)
  rel : RelV v u
  get : PySem.W.specialIn K u "__get__" = some none
  cp : PySem.W.copiedNames.contains f = false
/-- a method: a plain def of the class or of one above it -/
structure Meth (K : PySem.W.Frag) (C : Addr) (m : Str) (f : Addr) : Prop where
  at_ : PySem.W.findIn K (.ref C) m = some (some (.ref f))
  fn : PySem.W.isFn K (.ref f) = true
  kp : PySem.W.keepIn K (.ref f) = true

section
variable {X : Cx} {pins : List (Addr × Obj)} {σ : St} {H : Hp} {s : Shared} {a C dx : Addr} {fs : List (Str × V)} {f : Str} {v : V} {A : Around} {E : Value → Shared → Prop}

/-- a new instance, tracked, without attributes -/
theorem Inv.made (I : Inv X pins σ H s) : Inv X pins σ (upd (upd H s.heap.objs.size (.own (s.heap.objs.size + 1))) (s.heap.objs.size + 1) (.ins C s.heap.objs.size []))
    { s with heap := (s.heap.push PySem.W.emptyDict).push (PySem.W.instObj C s.heap.objs.size) } := by
  have e1 : (s.heap.push PySem.W.emptyDict).get? s.heap.objs.size = some PySem.W.emptyDict := Heap.get?_push_size s.heap rfl
  have e2 : ((s.heap.push PySem.W.emptyDict).push (PySem.W.instObj C s.heap.objs.size)).get? (s.heap.objs.size + 1) = some (PySem.W.instObj C s.heap.objs.size) := by
    have := Heap.get?_push_size (s.heap.push PySem.W.emptyDict) (o := PySem.W.instObj C s.heap.objs.size) rfl
    rwa [Heap.size_push] at this
  have e3 : (s.heap.push PySem.W.emptyDict).Ns s.heap.objs.size (fun _ => none) := ⟨PySem.W.emptyDict, #[], _, e1, rfl, (fun e he => absurd he (by simp)), fun _ => rfl⟩
  have I1 := I.laid (a := s.heap.objs.size) (o := .own (s.heap.objs.size + 1)) (h' := s.heap.push PySem.W.emptyDict) (t' := s.toks) (fun b u q => Heap.get?_push_of_some _ q) (Nat.le_refl _) ⟨_, e1⟩
  refine I1.laid (a := s.heap.objs.size + 1) (o := .ins C s.heap.objs.size []) (t' := s.toks) (fun b u q => Heap.get?_push_of_some _ q) (Nat.le_of_eq (Heap.size_push _ _)) ?_
  have ne : s.heap.objs.size ≠ s.heap.objs.size + 1 := Nat.ne_of_lt (Nat.lt_succ_self _)
  refine ⟨by rw [upd_ne ne, upd_same], Nat.zero_le _, ne, e2, fun _ => none, (Heap.Ns1.of_empty e3).at fun o q => Heap.get?_push_of_some _ q, fun _ => True.intro, fun y hy => absurd rfl hy⟩

end

/-! ### readings and rules -/
section
variable {X : Cx} {o e value : Expr} {f : Str} {pos pos' tpos : Pos} {ta tv : TE}
end

/-! ### isinstance -/
section
variable {X : Cx} {pins : List (Addr × Obj)} {σ : St} {H : Hp} {s : Shared} {A : Around} {E : Value → Shared → Prop} {Q : Value → Shared → Prop} {c : Value} {b : Bool}
/-- the type of a value, as the fragment's deciders take it; for an instance its class -/
inductive TyOf (K : PySem.W.Frag) (H : Hp) : V → Value → Prop where
  | non : TyOf K H .non (.type "NoneType")
  | bl (x : Bool) : TyOf K H (.bl x) (.type "bool")
  | int (i : Int) : TyOf K H (.int i) (.type "int")
  | str (x : Str) : TyOf K H (.str x) (.type "str")
  | flt (x : UInt64) : TyOf K H (.flt x) (.type "float")
  | lst {a : Addr} {xs : List V} (e : H a = some (.lst xs)) : TyOf K H (.ref a) (.type "list")
  | frz {a : Addr} {o : Obj} {xs : List V} (e : H a = some (.frz o (.lst xs))) : TyOf K H (.ref a) (.type "list")
  | tup {a : Addr} {xs : List V} (e : H a = some (.tup xs)) : TyOf K H (.ref a) (.type "tuple")
  | dK {a : Addr} {kvs : List (Key × V)} (e : H a = some (.dK kvs)) : TyOf K H (.ref a) (.type "dict")
  | dT {a : Addr} {kvs : List (List Key × V)} (e : H a = some (.dT kvs)) : TyOf K H (.ref a) (.type "dict")
  | ins {a C dx : Addr} {fs : List (Str × V)} (e : H a = some (.ins C dx fs)) (cl : Cls K C) (ha : PySem.W.findIn K (.ref C) "__class__" = some (some (.builtin "object.__class__")))
      (hn : PySem.W.specialIn K (.builtin "object.__class__") "__get__" = some (some (.builtin "getset_descriptor.__get__"))) (htk : PySem.W.takesIn K (.builtin "object.__class__") = some true)
      (hm : PySem.W.mroIn K C (.type "object") = some true) : TyOf K H (.ref a) (.ref C)
/-- isinstance(x, c) for one class c, a built-in or an own one: kitOne's answer -/
theorem isinst_ok {x : V} {u t : Value} (I : Inv X pins σ H s) (rx : RelV x u) (ty : TyOf X.K H x t) (e : PySem.W.kitOne X.K t c = some b) (h : ∀ tk, Q (.bool b) { s with toks := tk }) :
    wpAny (model X.prog X.w) A (call (.builtin "isinstance") [u, c]) Q E s := by
  cases ty with
  | non => cases (show u = Value.none from rx); exact PySem.W.kia_one PySem.W.kitx_none I.kIn True.intro e (fun z => nomatch z) h
  | bl y => cases (show u = Value.bool y from rx); exact PySem.W.kia_one PySem.W.kitx_bool I.kIn True.intro e (fun z => nomatch z) h
  | int i => obtain ⟨t, q⟩ := (show ∃ t, u = Value.int i t from rx); cases q; exact PySem.W.kia_one PySem.W.kitx_int I.kIn True.intro e (fun z => nomatch z) h
  | str y => obtain ⟨t, q⟩ := (show ∃ t, u = Value.str y t from rx); cases q; exact PySem.W.kia_one PySem.W.kitx_str I.kIn True.intro e (fun z => nomatch z) h
  | flt y => obtain ⟨t, q⟩ := (show ∃ t, u = Value.float y t from rx); cases q; exact PySem.W.kia_one PySem.W.kitx_float I.kIn True.intro e (fun z => nomatch z) h
  | @lst a xs ea =>
    cases (show u = Value.ref a from rx)
    obtain ⟨_, _, n, _, h1⟩ := (show ObjOk X.prog X.w H s.heap a (.lst xs) from I.hok a _ ea)
    exact PySem.W.kia_one PySem.W.kitx_list I.kIn ⟨_, h1, rfl⟩ e (fun z => nomatch z) h
  | @frz a ob xs ea =>
    cases (show u = Value.ref a from rx)
    obtain ⟨_, _, _, n, _, h1⟩ := (show ObjOk X.prog X.w H s.heap a (.frz ob (.lst xs)) from I.hok a _ ea)
    exact PySem.W.kia_one PySem.W.kitx_list I.kIn ⟨_, h1, rfl⟩ e (fun z => nomatch z) h
  | @tup a xs ea =>
    cases (show u = Value.ref a from rx)
    obtain ⟨_, _, _, p⟩ := (show ObjOk X.prog X.w H s.heap a (.tup xs) from I.hok a _ ea)
    obtain ⟨o, h1, h2, _⟩ := p
    exact PySem.W.kia_one PySem.W.kitx_tuple I.kIn ⟨o, h1, h2⟩ e (fun z => nomatch z) h
  | @dK a kvs ea =>
    cases (show u = Value.ref a from rx)
    obtain ⟨_, _, vs, _, p⟩ := (show ObjOk X.prog X.w H s.heap a (.dK kvs) from I.hok a _ ea)
    obtain ⟨o, es, ep, h1, h2, _⟩ := p
    exact PySem.W.kia_one PySem.W.kitx_dict I.kIn ⟨o, h1, h2.1⟩ e (fun z => nomatch z) h
  | @dT a kvs ea =>
    cases (show u = Value.ref a from rx)
    obtain ⟨_, _, xs, _, o, es, ep, h1, h2, _⟩ := (show ObjOk X.prog X.w H s.heap a (.dT kvs) from I.hok a _ ea)
    exact PySem.W.kia_one PySem.W.kitx_dict I.kIn ⟨o, h1, h2.1⟩ e (fun z => nomatch z) h
  | @ins a C dx fs ea cl ha hn htk hm =>
    cases (show u = Value.ref a from rx)
    obtain ⟨mA, O, _⟩ := ins_get I.hok ea
    obtain ⟨od, J, _⟩ := O.look
    exact PySem.W.kia_one (PySem.W.kitx_own (cl.get _) cl.hd ha hn htk hm) I.kIn J e (fun z => nomatch z) h
end
end L2

namespace L2
open PySem PySem.Spec PyProof.Rows

/-! ### room -/
structure Room (k : Nat) (A : Around) : Prop where
  hd : A.handled = none
  dp : A.depth + 3 * k + 5 < recursionLimit
  un : A.units + 16 * k + 200 < cLine
theorem Room.mono {j k : Nat} {A : Around} (r : Room k A) (h : j ≤ k) : Room j A := ⟨r.hd, by have := r.dp; omega, by have := r.un; omega⟩
theorem Room.deeper {k : Nat} {A : Around} (r : Room (k + 1) A) (env : Env) : Room k (A.deeper env) :=
  ⟨r.hd, by have := r.dp; show A.depth + 1 + 3 * k + 5 < _; omega, by have := r.un; show A.units + 3 + 16 * k + 200 < _; omega⟩
theorem Room.in1 {k : Nat} {A : Around} (r : Room (k + 1) A) : Room k A.in1 :=
  ⟨r.hd, by have := r.dp; show A.depth + 3 * k + 5 < _; omega, by have := r.un; show A.units + 1 + 16 * k + 200 < _; omega⟩
theorem make_depth {A : Around} {C : Addr} {us : List Value} {kw : List (Str × Value)} : (A.under (.builtin "type.__call__" ⟨.ref C :: us, kw⟩)).depth = A.depth + 1 := by
  first | rfl | simp [Around.under, Code.weight, Code.isCreation, Code.isGuard, Code.isCaller, Code.frames, Code.isFrame, guardIds]
theorem make_units {A : Around} {C : Addr} {us : List Value} {kw : List (Str × Value)} : (A.under (.builtin "type.__call__" ⟨.ref C :: us, kw⟩)).units = A.units + 1 := by
  first | rfl | simp [Around.under, Code.cUnits, Code.frames, Code.isFrame]
theorem Room.make {k : Nat} {A : Around} (r : Room (k + 1) A) (C : Addr) (us : List Value) (kw : List (Str × Value)) : Room k (A.under (.builtin "type.__call__" ⟨.ref C :: us, kw⟩)) :=
  ⟨r.hd, by have := r.dp; rw [make_depth]; omega, by have := r.un; rw [make_units]; omega⟩
theorem Room.depth {k : Nat} {A : Around} (r : Room k A) : A.depth < recursionLimit := by have := r.dp; omega
theorem Room.units {k : Nat} {A : Around} (r : Room k A) : A.units + 64 < cLine := by have := r.un; omega
/-! ### argument lists and displays -/
def tNil : TA := fun _ H Q => Q [] H
def tCons (ta : TE) (tr : TA) : TA := fun σ H Q => ta σ H fun x H1 => tr σ H1 fun xs H2 => Q (x :: xs) H2
section
variable {X : Cx} {e : Expr} {es : List Expr} {te : TE} {t : TA} {pos : Pos}
theorem pa_nil : PA X [] tNil := fun _ _ _ _ H Q I h => Calls.spliced_nil ⟨[], H, I, .nil, h⟩
theorem pa_cons (ha : PE X e te) (hr : PA X es t) (hs : starEach (e :: es) X.env = (false, eval e X.env) :: starEach es X.env := by rfl) : PA X (e :: es) (tCons te t) := by
  intro pos pins s σ H Q I h
  rw [hs]
  show wpAny _ _ (spliced ((false, eval e X.env) :: backTo pos (starEach es X.env))) _ _ s
  refine Calls.spliced_cons (thn (ha pins s σ H _ I h) fun u s1 ⟨x, H1, I1, r1, q1⟩ => ?_)
  exact thn (hr pos pins s1 σ H1 _ I1 q1) fun us s2 ⟨xs, H2, I2, r2, q2⟩ => ⟨x :: xs, H2, I2, .cons r1 r2, q2⟩

/-- a tuple, a list of written items -/
def tTup (t : TA) : TE := fun σ H Q => t σ H fun xs H1 => xs.length ≤ sizeLine ∧ ∀ p, H1 p = none → Q (.ref p) (upd H1 p (.tup xs))
def tLst (t : TA) : TE := fun σ H Q => t σ H fun xs H1 => xs.length ≤ sizeLine ∧ ∀ p, H1 p = none → Q (.ref p) (upd H1 p (.lst xs))
end

/-! ### what a def promises -/
/-- a def's promise: the bound arguments in the parameters' order, the heap, the wanted end, the wanted exception -/
abbrev Sp := List V → Hp → VK → XK → Prop
/-- how an exception lies behind a call (file 08 gives it): the callers' frames, abstract heap and state ahead of the call, the wish, the exception, the state -/
abbrev CXT := List Env → Hp → Shared → XK → Value → Shared → Prop

/-- the state at a call -/
structure Env0 (P : Program) (w : World) (K : PySem.W.Frag) (mg : Str → Option Value) (base : Heap) (A : Around) (outer : List Env) (s : Shared) (H : Hp) : Prop where
  frames : A.frames = some outer
  mod : Mod K mg base
  bs : ∀ b o, base.get? b = some o → s.heap.get? b = some o ∧ H b = none
  bsz : base.objs.size ≤ s.heap.objs.size
  funs : s.heap.FunFrames base outer
  frf : ∀ b ∈ frs outer, H b = none
  hok : HOk P w H s.heap
  bare : AllBare s.gens
/-- a call's end -/
def CE (outer : List Env) (P : Program) (w : World) (H : Hp) (s : Shared) (Q : VK) (u : Value) (s' : Shared) : Prop :=
  ∃ v H', s'.os = s.os ∧ AllBare s'.gens ∧ Un (frs outer) [] H H' s.heap s'.heap ∧ HOk P w H' s'.heap ∧ RelV v u ∧ Q v H'
def CR (CX : CXT) (outer : List Env) (P : Program) (w : World) (H : Hp) (s : Shared) (Q : VK) (E : XK) (r : Result) (s' : Shared) : Prop :=
  match r with
  | .ok (.ret u) => CE outer P w H s Q u s'
  | .ok _ => False
  | .error e => CX outer H s E e s'
structure FnOk (P : Program) (w : World) (K : PySem.W.Frag) (mg : Str → Option Value) (base : Heap) (CX : CXT) (k : Nat) (f : Addr) (fd : FuncData) (ps : List Str) (sp : Sp) : Prop where
  len : ∀ vs H Q E, sp vs H Q E → vs.length = ps.length
  run : ∀ (A : Around) (outer : List Env) (s : Shared) (H : Hp) (args : Args) (us : List Value) (vs : List V) (Q : VK) (E : XK), Room k A → Env0 P w K mg base A outer s H → BindsTo s fd args (ps.zip us) → Vals vs us → sp vs H Q E →
    codeAny (model P w) A (.call (.ref f) args) (CR CX outer P w H s Q E) s
theorem FnOk.mono {P : Program} {w : World} {K : PySem.W.Frag} {mg : Str → Option Value} {base : Heap} {CX : CXT} {j k : Nat} {f : Addr} {fd : FuncData} {ps : List Str} {sp : Sp} (F : FnOk P w K mg base CX j f fd ps sp) (h : j ≤ k) :
    FnOk P w K mg base CX k f fd ps sp := ⟨F.len, fun A outer s H args us vs Q E hr => F.run A outer s H args us vs Q E (hr.mono h)⟩
/-- a weaker promise -/
theorem FnOk.imp {P : Program} {w : World} {K : PySem.W.Frag} {mg : Str → Option Value} {base : Heap} {CX : CXT} {k : Nat} {f : Addr} {fd : FuncData} {ps : List Str} {sp sp' : Sp} (F : FnOk P w K mg base CX k f fd ps sp)
    (h : ∀ vs H Q E, sp' vs H Q E → sp vs H Q E) : FnOk P w K mg base CX k f fd ps sp' :=
  ⟨fun vs H Q E q => F.len vs H Q E (h _ _ _ _ q), fun A outer s H args us vs Q E hr he hb hv hs => F.run A outer s H args us vs Q E hr he hb hv (h _ _ _ _ hs)⟩

theorem Env0.make {P : Program} {w : World} {K : PySem.W.Frag} {mg : Str → Option Value} {base : Heap} {A : Around} {outer : List Env} {s : Shared} {H : Hp} (e : Env0 P w K mg base A outer s H) (C : Addr) (us : List Value) (kw : List (Str × Value)) :
    Env0 P w K mg base (A.under (.builtin "type.__call__" ⟨.ref C :: us, kw⟩)) outer s H := ⟨by first | exact e.frames | (simpa [Around.under, Code.envs, Code.isFrame, pushEnvs] using e.frames), e.mod, e.bs, e.bsz, e.funs, e.frf, e.hok, e.bare⟩
theorem Env0.in1 {P : Program} {w : World} {K : PySem.W.Frag} {mg : Str → Option Value} {base : Heap} {A : Around} {outer : List Env} {s : Shared} {H : Hp} (e : Env0 P w K mg base A outer s H) :
    Env0 P w K mg base A.in1 outer s H := ⟨e.frames, e.mod, e.bs, e.bsz, e.funs, e.frf, e.hok, e.bare⟩

section
variable {X : Cx} {pins : List (Addr × Obj)} {σ : St} {H : Hp} {s s' : Shared}
/-- from a body: what a callee wants -/
theorem Inv.env0 (I : Inv X pins σ H s) : Env0 X.prog X.w X.K X.mg X.base X.A X.stack s H :=
  ⟨I.ok.frames, I.ok.mod, I.bs, Nat.le_trans I.ok.bsz I.sz, I.stack, I.stkFree, I.hok, I.bare⟩
/-- behind a call -/
theorem Inv.after {Q : VK} {u : Value} (I : Inv X pins σ H s) (h : CE X.stack X.prog X.w H s Q u s') : EP X pins σ Q u s' := by
  obtain ⟨v, H', os, bare, un, hok, r, q⟩ := h
  obtain ⟨hh, g, d, t, os'⟩ := s'
  obtain rfl : os' = s.os := os
  exact ⟨v, H', I.call (h' := hh) (g' := g) (d' := d) (t' := t) (ch := []) un hok bare (fun b z => absurd z (by simp)), r, q⟩
end

/-! ### calls -/
/-- f(..): the written arguments, then the defaults dvs; E: what is wanted of an exception -/
def tCall (sp : Sp) (dvs : List V) (E : XK) (t : TA) : TE := fun σ H Q => t σ H fun vs H1 => sp (vs ++ dvs) H1 Q E
/-- how the parameters are bound: us the positional arguments, kw the keywords' values by name, ds the defaults that fill up -/
def Binds (K : PySem.W.Frag) (fd : FuncData) (ps : List Str) (ds : List Value) : Prop :=
  ∀ (s : Shared) (us : List Value), K.In s.heap → (us ++ ds).length = ps.length → BindsTo s fd ⟨us, []⟩ (ps.zip (us ++ ds))
/-- every parameter is given -/
theorem Binds.all {K : PySem.W.Frag} {fd : FuncData} {ps : List Str} (h : ∀ us : List Value, us.length = ps.length → bindArgs fd ⟨us, []⟩ = pure (ps.zip us)) : Binds K fd ps [] := fun s us _ hl => by
  rw [List.append_nil] at hl ⊢
  exact .of_eq (h us hl)

/-- an exception of a callee reaches what this body wants of exceptions -/
def Passes (CX : CXT) (X : Cx) (E : XK) : Prop := ∀ (pins : List (Addr × Obj)) (σ : St) (H : Hp) (s : Shared) (e : Value) (s' : Shared), Inv X pins σ H s → CX X.stack H s E e s' → X.xe e s'

section
variable {X : Cx} {CX : CXT} {k : Nat} {f C : Addr} {fd : FuncData} {ps : List Str} {sp : Sp} {dvs : List V} {ds : List Value} {E : XK} {x m : Str} {p pos apos : Pos} {e o : Expr} {es : List Expr} {ta : TE} {t : TA}

/-- the callee runs -/
theorem run_fn {pins : List (Addr × Obj)} {σ : St} {H : Hp} {s : Shared} {Q : VK} {us : List Value} {vs : List V} (F : FnOk X.prog X.w X.K X.mg X.base CX k f fd ps sp) (hr : Room k X.A) (hb : Binds X.K fd ps ds) (hd : Vals dvs ds) (hx : Passes CX X E)
    (I : Inv X pins σ H s) (r : Vals vs us) (h : sp (vs ++ dvs) H Q E) : wpAny (model X.prog X.w) X.A (call (.ref f) us) (EP X pins σ Q) X.xe s := by
  have r2 : Vals (vs ++ dvs) (us ++ ds) := r.append hd
  have hl : (us ++ ds).length = ps.length := by rw [← r2.length]; exact F.len _ _ _ _ h
  refine wpAny_call (codeAny_mono (F.run X.A X.stack s H ⟨us, []⟩ (us ++ ds) (vs ++ dvs) Q E hr I.env0 (hb s us I.kIn hl) r2 h) fun r s' hq => ?_)
  cases r with
  | error e => exact hx pins σ H s e s' I hq
  | ok fl =>
    cases fl with
    | ret u => exact I.after hq
    | next => exact False.elim hq
    | brk => exact False.elim hq
    | cont => exact False.elim hq

theorem pe_call (F : FnOk X.prog X.w X.K X.mg X.base CX k f fd ps sp) (hr : Room k X.A) (hg : Gl X x) (hm : X.mg x = some (.ref f)) (hk : PySem.W.keepIn X.K (.ref f) = true) (hb : Binds X.K fd ps ds) (hd : Vals dvs ds) (hx : Passes CX X E)
    (ha : PA X (e :: es) t) (hdb : (x == ("__debug__" : Str)) = false := by decide) (he : starEach (e :: es) X.env = (false, eval e X.env) :: starEach es X.env := by rfl) (hpl : (backTo pos (starEach es X.env)).any (·.1) = false := by rfl) :
    PE X (.Call (.Name x p) (e :: es) [] pos) (tCall sp dvs E t) := by
  intro pins s σ H Q I h
  refine wpAny_Call_Name_kw (ld_glob I hg hm ?_ hdb)
  refine PySem.W.callWith_K (h₀ := X.base) I.ok.mod.kin hk (thn (ha pos pins s σ H _ I h) fun us s1 ⟨vs, H1, I1, r, q⟩ => ⟨I1.kIn, ?_⟩) he hpl
  exact run_fn F hr hb hd hx I1 r q
/-- what a class must have to be made -/
structure Mk (K : PySem.W.Frag) (C f : Addr) : Prop where
  makes : PySem.W.makesIn K C = true
  init : PySem.W.findIn K (.ref C) "__init__" = some (some (.ref f))
  fn : PySem.W.isFn K (.ref f) = true
  kp : PySem.W.keepIn K (.ref C) = true

end

/-! ### keywords -/
section
variable {X : Cx} {CX : CXT} {k : Nat} {f C : Addr} {fd : FuncData} {ps ks : List Str} {sp : Sp} {E : XK} {x m : Str} {p pos apos kpos : Pos} {e o : Expr} {es : List Expr} {kws : List Keyword} {te ta : TE} {t tk : TA} {nm : Option Str}
/-- how a call with keywords binds: g puts the positional values us and the keywords' values ws (names ks) in the parameters' order, defaults among them -/
structure KBinds (K : PySem.W.Frag) (fd : FuncData) (ps ks : List Str) (g : List Value → List Value → List Value) (gV : List V → List V → List V) : Prop where
  to : ∀ (s : Shared) (us ws : List Value), K.In s.heap → (g us ws).length = ps.length → BindsTo s fd ⟨us, ks.zip ws⟩ (ps.zip (g us ws))
  rel : ∀ {vs : List V} {us : List Value} {zs : List V} {ws : List Value}, Vals vs us → Vals zs ws → Vals (gV vs zs) (g us ws)
variable {g : List Value → List Value → List Value} {gV : List V → List V → List V}
end

/-! ### a def's body keeps its promise -/
/-- names: the parameters first -/
structure FnScope (N P : List Str) (sc : Scope) : Prop where
  kind : sc.kind = .function
  co : sc.isCoroutine = false
  gen : sc.isGenerator = false
  nd : N.Nodup
  pre : N.take P.length = P
  par : ∀ x ∈ P, sc.names.lookup x = some .local ∨ sc.names.lookup x = some .cell
  nofree : ∀ y ∈ sc.names, y.2 ≠ .free

theorem bindL_out {kindOf : Str → Option NameKind} {x : Str} : ∀ {binds : List (Str × Value)} {m : Str → Option Value}, (∀ v, (x, v) ∉ binds) → bindL kindOf binds m x = m x
  | [], _, _ => rfl
  | (n, v) :: r, m, h => by
    unfold bindL
    rw [bindL_out fun w hw => h w (List.mem_cons_of_mem _ hw)]
    split
    · have : x ≠ n := by rintro rfl; exact h v List.mem_cons_self
      simp [this]
    · rfl
theorem bindC_out {kindOf : Str → Option NameKind} {x : Str} : ∀ {binds : List (Str × Value)} {m : Str → Option Value}, (∀ v, (x, v) ∉ binds) → bindC kindOf binds m x = m x
  | [], _, _ => rfl
  | (n, v) :: r, m, h => by
    unfold bindC
    rw [bindC_out fun w hw => h w (List.mem_cons_of_mem _ hw)]
    split
    · rfl
    · have : x ≠ n := by rintro rfl; exact h v List.mem_cons_self
      simp [this]
theorem bindL_get {kindOf : Str → Option NameKind} {x : Str} {v : Value} : ∀ {P : List Str} {vs : List Value} {i : Nat} {m : Str → Option Value}, P.Nodup → P[i]? = some x → vs[i]? = some v → kindOf x = some .local →
    bindL kindOf (P.zip vs) m x = some v
  | [], _, _, _, _, h, _, _ => by simp at h
  | _ :: _, [], _, _, _, _, h, _ => by simp at h
  | p :: P, w :: vs, 0, m, nd, h1, h2, hk => by
    simp at h1 h2; subst h1; subst h2
    show bindL kindOf ((p, w) :: P.zip vs) m p = _
    unfold bindL
    rw [bindL_out fun v hv => (List.nodup_cons.mp nd).1 (List.of_mem_zip hv).1, if_pos hk]
    simp
  | p :: P, w :: vs, i + 1, m, nd, h1, h2, hk => by
    show bindL kindOf ((p, w) :: P.zip vs) m x = _
    unfold bindL
    exact bindL_get (i := i) (List.nodup_cons.mp nd).2 (by simpa using h1) (by simpa using h2) hk
theorem bindC_get {kindOf : Str → Option NameKind} {x : Str} {v : Value} : ∀ {P : List Str} {vs : List Value} {i : Nat} {m : Str → Option Value}, P.Nodup → P[i]? = some x → vs[i]? = some v → kindOf x ≠ some .local →
    bindC kindOf (P.zip vs) m x = some v
  | [], _, _, _, _, h, _, _ => by simp at h
  | _ :: _, [], _, _, _, _, h, _ => by simp at h
  | p :: P, w :: vs, 0, m, nd, h1, h2, hk => by
    simp at h1 h2; subst h1; subst h2
    show bindC kindOf ((p, w) :: P.zip vs) m p = _
    unfold bindC
    rw [bindC_out fun v hv => (List.nodup_cons.mp nd).1 (List.of_mem_zip hv).1, if_neg hk]
    simp
  | p :: P, w :: vs, i + 1, m, nd, h1, h2, hk => by
    show bindC kindOf ((p, w) :: P.zip vs) m x = _
    unfold bindC
    exact bindC_get (i := i) (List.nodup_cons.mp nd).2 (by simpa using h1) (by simpa using h2) hk

/-- the names' values at the entry -/
def start (N : List Str) (vs : List V) : St := vs.map some ++ List.replicate (N.length - vs.length) none

/-- the context of a def's body, at its entry; an exception leaves the frame, then lies as CX says -/
def cxOf (CX : CXT) (P : Program) (w : World) (K : PySem.W.Frag) (mg : Str → Option Value) (base : Heap) (N : List Str) (qual : Str) (scope : Scope) (f : Addr) (cd : Value) (A : Around) (outer : List Env) (s : Shared) (H : Hp) (E : XK) : Cx where
  prog := P
  w := w
  K := K
  mg := mg
  base := base
  A := A.deeper (envOfC qual scope s.heap.objs.size f cd)
  N := N
  s₀ := s
  H₀ := H
  env := envOfC qual scope s.heap.objs.size f cd
  outer := outer
  stack := envOfC qual scope s.heap.objs.size f cd :: outer
  ex := []
  calm := true
  fn := fun _ => true
  pn := []
  xe := fun e s' => wpAny (model P w) (A.deeper (envOfC qual scope s.heap.objs.size f cd)) (leaving (envOfC qual scope s.heap.objs.size f cd) e) (fun _ s'' => CX outer H s E e s'') (fun e' s'' => CX outer H s E e' s'') s'

theorem cell_has {sc : Scope} {n : Nat} {x : Str} (h : sc.names.lookup x = some .cell) : ∃ c, (cellsFrom n sc.names []).lookup x = some c := by
  have q := PySem.W.cellsFrom_some sc.names n [] (.inl h)
  exact Option.isSome_iff_exists.mp q

theorem inv_start {CX : CXT} {P : Program} {w : World} {K : PySem.W.Frag} {mg : Str → Option Value} {base : Heap} {N ps : List Str} {qual : Str} {scope : Scope} {f : Addr} {cd : Value} {A : Around} {outer : List Env} {s s1 : Shared} {H : Hp} {E : XK} {us : List Value} {vs : List V}
    (S : FnScope N ps scope) (hd : A.handled = none) (e0 : Env0 P w K mg base A outer s H) (hl : vs.length = ps.length) (r : Vals vs us)
    (x : InCallC s s.heap.objs.size (bindL (envOfC qual scope s.heap.objs.size f cd).kindOf (ps.zip us) fun _ => none) (cellsFrom (s.heap.objs.size + 1) scope.names []) (bindC (envOfC qual scope s.heap.objs.size f cd).kindOf (ps.zip us) fun _ => none) s1) :
    Inv (cxOf CX P w K mg base N qual scope f cd A outer s H E) [] (start N vs) H s1 := by
  have hpl : ps.length ≤ N.length := by have := congrArg List.length S.pre; rw [List.length_take] at this; omega
  obtain ⟨h1, tk, rfl, hk⟩ := x.done
  have noA : ∀ b : Addr, b ∉ (cxOf CX P w K mg base N qual scope f cd A outer s H E).ex := fun b z => absurd (show b ∈ ([] : List Addr) from z) (by simp)
  refine ⟨⟨e0.mod, S.kind, rfl, rfl, Nat.le_refl _, fun y z c h1 h2 => ?_, fun y hy => ?_, fun y c _ h => ?_, fun _ => hd, Around.frames_deeper e0.frames, .inr ⟨rfl, rfl⟩, fun b z => absurd z (noA b), e0.bs, e0.bsz, fun b _ _ => noA b, fun b z => absurd z (noA b), e0.funs, e0.frf⟩,
    rfl, e0.bare, Un.kept hk, ⟨_, x.toInCall.ns, fun i y v h1 h2 h3 => ?_⟩, fun y c h => ⟨_, x.cell y c h⟩, e0.hok.fresh (Nat.le_refl _), fun y c h => ?_, fun p hp => absurd (show p ∈ ([] : List (Addr × Obj)) from hp) (by simp), e0.hok.kept hk, ?_⟩
  · exact name_of_addr x.apart (PySem.mem_of_lookup h1) (PySem.mem_of_lookup h2)
  · have hy : scope.names.lookup y = some .cell ∨ scope.names.lookup y = some .free := hy
    rcases hy with hy | hy
    · exact cell_has hy
    · exact absurd rfl (S.nofree _ (PySem.mem_of_lookup hy))
  · exact Nat.le_of_lt (x.above y c (PySem.mem_of_lookup h))
  · have hi : i < vs.length := by
      unfold start at h2
      by_cases hi : i < vs.length
      · exact hi
      · rw [List.getElem?_append_right (by simpa using hi)] at h2
        rw [List.getElem?_replicate] at h2
        split at h2 <;> cases h2
    have ha : vs[i]? = some v := by
      unfold start at h2
      rw [List.getElem?_append_left (by simpa using hi), List.getElem?_map] at h2
      cases e : vs[i]? with
      | none => rw [e] at h2; cases h2
      | some a => rw [e] at h2; cases h2; rfl
    obtain ⟨u, hu, rv⟩ := r.get ha
    have hp : ps[i]? = some y := by
      rw [← S.pre, List.getElem?_take_of_lt (by omega)]; exact h1
    have ndP : ps.Nodup := by rw [← S.pre]; exact S.nd.sublist (List.take_sublist _ _)
    refine ⟨u, rv, ?_⟩
    rcases S.par y (List.mem_of_getElem? hp) with k | k
    · exact .inl ⟨k, bindL_get ndP hp hu k⟩
    · obtain ⟨c, e⟩ := cell_has (n := s.heap.objs.size + 1) k
      refine .inr ⟨.inl k, c, e, ?_⟩
      have q := x.cell y c e
      rw [bindC_get ndP hp hu (by show scope.names.lookup y ≠ _; rw [k]; decide)] at q
      exact q
  · exact e0.hok.fresh (Nat.le_of_lt (x.above y c (PySem.mem_of_lookup h)))
  · unfold start
    show _ = N.length
    rw [List.length_append, List.length_map, List.length_replicate]
    omega

/-- THE RULE: a def (or a method) of the text, by its body. The body's reading t is chosen for each entry; it is run at the parameters' values -/
theorem fn_of {CX : CXT} {P : Program} {w : World} {K : PySem.W.Frag} {mg : Str → Option Value} {base : Heap} {k : Nat} {f : Addr} {name qual : Str} {params : Arguments} {body : List Stmt} {scope : Scope} {dV kV doc pm cdv ct oc : Value} {an od : Option Addr}
    {osl : Array (Option Value)} {N ps : List Str} {sp : Sp} (lk : K.lookup f = some ⟨oc, od, .func (PySem.W.fnOf name qual params body scope dV kV doc pm an cdv ct), osl⟩) (hcd : PySem.W.codeIn K cdv qual = true) (S : FnScope N ps scope)
    (len : ∀ vs H Q E, sp vs H Q E → vs.length = ps.length)
    (hbody : ∀ (A : Around) (outer : List Env) (s : Shared) (H : Hp) (vs : List V) (Q : VK) (E : XK), Room k (A.deeper (envOfC qual scope s.heap.objs.size f cdv)) → sp vs H Q E →
      ∃ t, PSs (cxOf CX P w K mg base N qual scope f cdv A outer s H E) body t ∧ t { nx := fun _ H' => Q .non H', rt := Q } (start N vs) H) :
    FnOk P w K mg base CX (k + 1) f (PySem.W.fnOf name qual params body scope dV kV doc pm an cdv ct) ps sp := by
  refine ⟨len, fun A outer s H args us vs Q E hr e0 hb r hsp => ?_⟩
  have hl := len _ _ _ _ hsp
  have KX : K.In s.heap := e0.mod.kin.keeps fun b o e => (e0.bs b o e).1
  have lim : s.heap.NoLimit := e0.mod.nolimit.keeps fun b o e => (e0.bs b o e).1
  have hkind : ∀ y ∈ ps.zip us, scope.names.lookup y.1 = some .local ∨ (scope.names.lookup y.1 = some .cell ∧ ((cellsFrom (s.heap.objs.size + 1) scope.names []).lookup y.1).isSome = true) := fun ⟨n, v⟩ hy => by
    rcases S.par n (List.of_mem_zip hy).1 with q | q
    · exact .inl q
    · exact .inr ⟨q, PySem.W.cellsFrom_some _ _ _ (.inl q)⟩
  refine codeAny_call_function hr.depth (KX _ _ lk) rfl S.co S.gen rfl (PySem.W.codeRec_of KX hcd) (hb _ _ _ _ ?_)
  refine wpAny_newFunctionEnv_cells S.kind hkind fun env he s1 x => ?_
  subst he
  refine ⟨lim.keeps x.toInCall.keep, codeAny_func ?_⟩
  obtain ⟨t, ht, hq⟩ := hbody A outer s H vs Q E (hr.deeper _) hsp
  have I : Inv (cxOf CX P w K mg base N qual scope f cdv A outer s H E) [] (start N vs) H s1 := inv_start S hr.hd e0 hl r x
  refine wpAny_mono (ht [] s1 (start N vs) H _ I hq) (fun fl s' hs => ?_) fun e s' hs => hs
  have fin : ∀ {σ' : St} {H' : Hp} {v : V} {u : Value}, Inv (cxOf CX P w K mg base N qual scope f cdv A outer s H E) [] σ' H' s' → RelV v u → Q v H' → CE outer P w H s Q u s' :=
    fun {σ' H' v u} J rv q => ⟨v, H', J.os, J.bare, J.base, J.hok, rv, q⟩
  cases fl with
  | ret u =>
    obtain ⟨v, σ', H', J, rv, q⟩ := hs
    exact fin J rv q
  | next =>
    obtain ⟨σ', H', J, q⟩ := hs
    exact fin (v := V.non) (u := Value.none) J rfl q
  | brk =>
    obtain ⟨_, _, _, q⟩ := hs
    exact False.elim q
  | cont =>
    obtain ⟨_, _, _, q⟩ := hs
    exact False.elim q
end L2

namespace L2
open PySem PySem.Spec PyProof.Rows
section
variable {X : Cx} {x : Str} {p pos : Pos} {e : Expr} {es : List Expr} {t : TA} {id T : String} {r : List V → Hp → VK → Prop}

def tCB (r : List V → Hp → VK → Prop) (t : TA) : TE := fun σ H Q => t σ H fun vs H1 => r vs H1 Q
/-- f(e, ..), f a built-in function -/
theorem pe_callB (hc : CallR X (.builtin id) r) (hg : Gl X x) (hm : X.mg x = none) (hv : bootBuiltins x = some (.builtin id)) (ha : PA X (e :: es) t) (hn : x ≠ "__name__" := by decide) (hdb : (x == ("__debug__" : Str)) = false := by decide)
    (he : starEach (e :: es) X.env = (false, eval e X.env) :: starEach es X.env := by rfl) (hpl : (backTo pos (starEach es X.env)).any (·.1) = false := by rfl) : PE X (.Call (.Name x p) (e :: es) [] pos) (tCB r t) := by
  intro pins s σ H Q I h
  refine wpAny_Call_Name_kw (ld_blt I hg hm hv ?_ hn hdb)
  exact PyProof.Rows.callWith_builtin1 (thn (ha pos pins s σ H _ I h) fun us s1 ⟨vs, H1, I1, r1, q1⟩ => hc pins s1 σ H1 vs us Q I1 r1 q1) he hpl
/-- T(e, ..), T a built-in type -/
theorem pe_callTy (hc : CallR X (.type T) r) (hg : Gl X x) (hm : X.mg x = none) (hv : bootBuiltins x = some (.type T)) (ha : PA X (e :: es) t) (hn : x ≠ "__name__" := by decide) (hdb : (x == ("__debug__" : Str)) = false := by decide)
    (he : starEach (e :: es) X.env = (false, eval e X.env) :: starEach es X.env := by rfl) (hpl : (backTo pos (starEach es X.env)).any (·.1) = false := by rfl) : PE X (.Call (.Name x p) (e :: es) [] pos) (tCB r t) := by
  intro pins s σ H Q I h
  refine wpAny_Call_Name_kw (ld_blt I hg hm hv ?_ hn hdb)
  exact PyProof.Rows.callWith_type1 (thn (ha pos pins s σ H _ I h) fun us s1 ⟨vs, H1, I1, r1, q1⟩ => hc pins s1 σ H1 vs us Q I1 r1 q1) he hpl
end
end L2

namespace HT
open PySem PyProof.Rows

/-- t < u of tuples of ints -/
def lexLt : List Int → List Int → Bool
  | [], [] => false
  | [], _ :: _ => true
  | _ :: _, [] => false
  | x :: xs, y :: ys => if x = y then lexLt xs ys else decide (x < y)
section
open PySem.SeqAt
open PySem.AutoSeq1 (wpAny_loadPart')
open PySem.MeetsSeq PySem.MeetsSeq2 PySem.MeetsSeq3

end

section
variable {prog : Program} {w : World} {A : Around} {E : Value → Shared → Prop} {s : Shared}

/-- t + u, t not empty -/
theorem cat_tup {t b : Addr} {vs ws : List Value} {Q : Value → Shared → Prop} (ht : IsTup s.heap t vs.toArray) (hb : IsTup s.heap b ws.toArray) (hv : vs ≠ [])
    (h1 : ws = [] → Q (.ref t) s) (h2 : ws ≠ [] → Q (.ref s.heap.objs.size) { s with heap := s.heap.push { cls := .type "tuple", data := .seq (vs ++ ws).toArray } })
    (hsz : vs.length + ws.length ≤ sizeLine) : wpAny (model prog w) A (binaryOp .Add (.ref t) (.ref b)) Q E s := by
  obtain ⟨⟨cls, dd, data, sl⟩, ho, hc, n, hd⟩ := id ht
  obtain ⟨⟨cls2, dd2, data2, sl2⟩, ho2, hc2, n2, hd2⟩ := id hb
  simp only at hc hd hc2 hd2
  subst hc hd hc2 hd2
  have e : vs.toArray ++ ws.toArray = (vs ++ ws).toArray := by simp
  by_cases hw : ws = []
  · exact concat_meets ⟨_, ho, rfl⟩ ⟨_, ho2, rfl⟩ noFill_tuple_add seq_tuple_add PySem.F.slot_tuple_add PySem.F.entry_tuple_add (PySem.F.args_tuple_add_2 _ _)
      (tuple_addW1 t b vs.toArray ws.toArray n n2 dd dd2 sl sl2 (by simpa using hv) (by simp [hw])) ⟨ho, ho2, h1 hw⟩
  · refine concat_meets ⟨_, ho, rfl⟩ ⟨_, ho2, rfl⟩ noFill_tuple_add seq_tuple_add PySem.F.slot_tuple_add PySem.F.entry_tuple_add (PySem.F.args_tuple_add_2 _ _)
      (tuple_addW2 t b vs.toArray ws.toArray n n2 dd dd2 sl sl2 (by simpa using hv) (by simpa using hw) (by rw [List.size_toArray, List.size_toArray]; exact hsz)) ⟨ho, ho2, ?_⟩
    rw [e]
    exact h2 hw

/-! ### t[a:b], not the whole -/
/-- a slice's bound as a place among n (d where it is left out) -/
def sIx (n d : Nat) : Option Int → Nat
  | none => d
  | some v => if v < 0 then (v + (n : Int)).toNat else min v.toNat n
theorem sIx_none (n d : Nat) : sIx n d none = d := rfl
theorem sIx_nat (n d k : Nat) : sIx n d (some (k : Int)) = min k n := by
  show (if (k : Int) < 0 then ((k : Int) + (n : Int)).toNat else min (k : Int).toNat n) = min k n
  rw [if_neg (by omega), Int.toNat_natCast]
theorem sIx_le (n d : Nat) (hd : d ≤ n) (o : Option Int) : sIx n d o ≤ n := by
  cases o with
  | none => exact hd
  | some v =>
    show (if v < 0 then (v + (n : Int)).toNat else min v.toNat n) ≤ n
    by_cases hv : v < 0
    · rw [if_pos hv]; omega
    · rw [if_neg hv]; exact Nat.min_le_right _ _
theorem clip_eq (v : Int) (n d : Nat) : (if v < 0 then max (v + (n : Int)) 0 else min v (n : Int)) = ((sIx n d (some v) : Nat) : Int) := by
  show (if v < 0 then max (v + (n : Int)) 0 else min v (n : Int)) = (((if v < 0 then (v + (n : Int)).toNat else min v.toNat n) : Nat) : Int)
  by_cases hv : v < 0
  · simp only [if_pos hv]; omega
  · simp only [if_neg hv]; omega
theorem adjust_gen (lo hi : Option Int) (n : Nat) : Builtin.Slice.sliceAdjust lo hi 1 (n : Int) = (((sIx n 0 lo : Nat) : Int), ((sIx n n hi : Nat) : Int)) := by
  have h1 : ¬ ((1 : Int) < 0) := by omega
  unfold Builtin.Slice.sliceAdjust
  simp only [h1, if_false]
  refine Prod.ext ?_ ?_
  · cases lo with
    | none => rfl
    | some v => exact clip_eq v n 0
  · cases hi with
    | none => rfl
    | some v => exact clip_eq v n n
theorem places_gen (i j : Nat) : Builtin.Slice.slicePlaces (i : Int) (j : Int) 1 = j - i := by
  unfold Builtin.Slice.slicePlaces
  have h1 : (1 : Int) > 0 := by omega
  simp only [h1, if_true, Int.ediv_one]
  split <;> omega
theorem slicePart_ {v : Value} {o : Option Int} {Q : Option Int → Shared → Prop} (p : IsPart v o) (h : Q o s) : wpAny (model prog w) A (Builtin.Slice.slicePartIndex v) Q E s := by
  cases p with
  | none => exact slicePart_none h
  | int i t => exact slicePart_int h
theorem sliceApplied_gen {sl : Addr} {vl vu : Value} {lo hi : Option Int} {n : Nat} {Q : Int × Int × Nat → Shared → Prop} (hs : s.heap.IsSliceOf sl vl vu .none) (pl : IsPart vl lo) (pu : IsPart vu hi)
    (h : Q (((sIx n 0 lo : Nat) : Int), 1, sIx n n hi - sIx n 0 lo) s) : wpAny (model prog w) A (Builtin.Slice.sliceApplied (.ref sl) (pure (n : Int))) Q E s := by
  obtain ⟨os, hos, hcs, hds⟩ := id hs
  unfold Builtin.Slice.sliceApplied Builtin.Slice.sliceFields
  refine wpAny_bind (wpAny_bind (wpAny_field hos hds (x := vl) rfl (wpAny_bind (wpAny_field hos hds (x := vu) rfl (wpAny_bind (wpAny_field hos hds (x := .none) rfl (wpAny_pure ?_)))))))
  refine wpAny_bind (slicePart_none ?_)
  show wpAny _ _ (if ((1 : Int) == 0) = true then _ else _) _ _ s
  rw [if_neg (by decide)]
  refine wpAny_bind (slicePart_ pl (wpAny_bind (slicePart_ pu (wpAny_bind (wpAny_pure ?_)))))
  show wpAny _ _ (match Builtin.Slice.sliceAdjust lo hi 1 (n : Int) with | (lo, hi) => pure (lo, (1 : Int), Builtin.Slice.slicePlaces lo hi 1)) _ _ s
  rw [adjust_gen lo hi n]
  show wpAny _ _ (pure (((sIx n 0 lo : Nat) : Int), (1 : Int), Builtin.Slice.slicePlaces ((sIx n 0 lo : Nat) : Int) ((sIx n n hi : Nat) : Int) 1)) _ _ s
  rw [places_gen]
  exact wpAny_pure h
theorem pick_gen (xs : Array Value) (i k : Nat) : ((List.range k).filterMap fun (m : Nat) => xs[((i : Int) + (m : Int) * 1).toNat]?).toArray = ((xs.toList.drop i).take k).toArray := by
  have e : (fun (m : Nat) => xs[((i : Int) + (m : Int) * 1).toNat]?) = fun m => xs[i + m]? := by
    funext m
    have : ((i : Int) + (m : Int) * 1).toNat = i + m := by omega
    rw [this]
  rw [e]
  have := pick_run xs i k
  rw [List.filterMap_map] at this
  have e2 : ((fun x => xs[x]?) ∘ fun x => i + x) = fun m => xs[i + m]? := rfl
  rw [e2] at this
  rw [this]

theorem getItem_tuple_cut {t sl : Addr} {items : Array Value} {vl vu : Value} {lo hi : Option Int} {Q : Value → Shared → Prop} (ht : IsTup s.heap t items) (hs : s.heap.IsSliceOf sl vl vu .none) (pl : IsPart vl lo) (pu : IsPart vu hi)
    (hw : ¬ (sIx items.size 0 lo = 0 ∧ sIx items.size items.size hi = items.size))
    (h : Q (.ref s.heap.objs.size) { s with heap := s.heap.push { cls := .type "tuple", data := .seq ((items.toList.drop (sIx items.size 0 lo)).take (sIx items.size items.size hi - sIx items.size 0 lo)).toArray } })
    (hsz : items.size ≤ sizeLine) : wpAny (model prog w) A (getItem (.ref t) (.ref sl)) Q E s := by
  have htake : sizeOk (.seq ((items.toList.drop (sIx items.size 0 lo)).take (sIx items.size items.size hi - sIx items.size 0 lo)).toArray) := by
    show ((items.toList.drop (sIx items.size 0 lo)).take (sIx items.size items.size hi - sIx items.size 0 lo)).toArray.size ≤ sizeLine
    rw [List.size_toArray, List.length_take, List.length_drop, Array.length_toList]
    omega
  have hj : sIx items.size items.size hi ≤ items.size := sIx_le _ _ (Nat.le_refl _) hi
  obtain ⟨os, hos, hcs, hds⟩ := id hs
  have hTs : s.TypeIs (.ref sl) "slice" := ⟨os, hos, hcs⟩
  unfold getItem
  try with_reducible refine wpAny_holding ?_
  first | refine wpAny_bind (wpAny_pure ?_) | skip
  refine wpAny_bind (wpAny_sequenceKey ht.typeIs (by decide) ?_)
  refine wpAny_bind (wpAny_callSpecial?_slot (name := Str.ofString "__getitem__") ht.typeIs PyProof.Rows.slot_tuple_getitem
    (wpAny_call_entry PyProof.Rows.slot_tuple_getitem ht.typeIs entry_tuple_getitem ?_ (args_tuple_getitem _ _)))
  show wpAny _ _ (Builtin.Tuple.tupleItemsOf (.ref t) >>= _) _ _ s
  refine wpAny_bind (tupleItemsOf_ ht ?_)
  refine wpAny_bind (wpAny_typeOf hTs ?_)
  rw [if_pos (by decide)]
  refine wpAny_bind (sliceApplied_gen hs pl pu ?_)
  have hno : ¬ ((((sIx items.size 0 lo : Nat) : Int) == 0 && (1 : Int) == 1 && (sIx items.size items.size hi - sIx items.size 0 lo) == items.size) = true) := by
    intro q
    rw [Bool.and_eq_true, Bool.and_eq_true] at q
    have q1 : ((sIx items.size 0 lo : Nat) : Int) = 0 := eq_of_beq q.1.1
    have q2 : sIx items.size items.size hi - sIx items.size 0 lo = items.size := eq_of_beq q.2
    exact hw ⟨by omega, by omega⟩
  show wpAny _ _ (if (((sIx items.size 0 lo : Nat) : Int) == 0 && (1 : Int) == 1 && (sIx items.size items.size hi - sIx items.size 0 lo) == items.size) = true then _ else _) _ _ s
  rw [if_neg hno, pick_gen]
  first
    | exact wpAny_bind (m := Builtin.Tuple.tupleExact _) (wpAny_newObj_type (wpAny_pure ⟨_, rfl, wpAny_pure h⟩) htake)
    | exact wpAny_bind (m := Builtin.Tuple.tupleExact _) (wpAny_newObj_type (wpAny_bind (wpAny_pure (wpAny_pure ⟨_, rfl, wpAny_pure h⟩))) htake)
    | exact wpAny_bind (wpAny_bind (m := Builtin.Tuple.tupleExact _) (wpAny_newObj_type (wpAny_pure (wpAny_pure ⟨_, rfl, wpAny_pure h⟩)) htake))
    | exact wpAny_bind (wpAny_bind (m := Builtin.Tuple.tupleExact _) (wpAny_newObj_type (wpAny_pure ⟨_, rfl, wpAny_pure h⟩) htake))
end
end HT

namespace L2
open PySem PySem.Spec PyProof.Rows

/-! ### the parts of a slice -/
abbrev TO := St → Hp → (Option Int → Hp → Prop) → Prop
/-- a slice's part (left out, or an int) -/
def PO (X : Cx) (e : Option Expr) (t : TO) : Prop :=
  ∀ (pins : List (Addr × Obj)) (s : Shared) (σ : St) (H : Hp) (Q : Option Int → Hp → Prop), Inv X pins σ H s → t σ H Q →
    wpAny (model X.prog X.w) X.A (evalPart e X.env) (fun u s' => ∃ o H', Inv X pins σ H' s' ∧ IsPart u o ∧ Q o H') X.xe s
def tNoPart : TO := fun _ H Q => Q none H
def tPart (t : TE) : TO := fun σ H Q => t σ H fun x H1 => ∃ i, x = .int i ∧ Q (some i) H1

section
variable {X : Cx} {e : Expr} {te : TE} {lo hi : Option Expr} {tl th : TO} {pos p2 : Pos}

theorem po_none : PO X none tNoPart := by
  intro pins s σ H Q I h
  rw [evalPart_none]
  exact wpAny_pure ⟨none, H, I, .none, h⟩
theorem po_some (h : PE X e te) : PO X (some e) (tPart te) := by
  intro pins s σ H Q I hw
  rw [evalPart_some]
  refine thn (h pins s σ H _ I hw) fun u s1 ⟨x, H1, I1, r1, q1⟩ => ?_
  obtain ⟨i, rfl, q⟩ := q1
  obtain ⟨t, rfl⟩ := r1
  exact ⟨some i, H1, I1, .int i t, q⟩

/-- what a slice of a value is, by values: the slice object stands at sl -/
def SlR (X : Cx) (r : V → Option Int → Option Int → Hp → VK → Prop) : Prop :=
  ∀ (pins : List (Addr × Obj)) (s : Shared) (σ : St) (H : Hp) (x : V) (v vl vu : Value) (lo hi : Option Int) (sl : Addr) (Q : VK), Inv X pins σ H s → RelV x v → s.heap.IsSliceOf sl vl vu .none → IsPart vl lo → IsPart vu hi → r x lo hi H Q →
    ∃ T id, typeLookup (.type T) "__getitem__" = pure (some (.builtin id)) ∧ s.TypeIs v T ∧ wpAny (model X.prog X.w) X.A (getItem v (.ref sl)) (EP X pins σ Q) X.xe s
theorem SlR.or {r r' : V → Option Int → Option Int → Hp → VK → Prop} (h : SlR X r) (h' : SlR X r') : SlR X (fun x lo hi H Q => r x lo hi H Q ∨ r' x lo hi H Q) := by
  intro pins s σ H x v vl vu lo hi sl Q I rx hs pl pu q
  rcases q with q | q
  · exact h pins s σ H x v vl vu lo hi sl Q I rx hs pl pu q
  · exact h' pins s σ H x v vl vu lo hi sl Q I rx hs pl pu q
def tSl (r : V → Option Int → Option Int → Hp → VK → Prop) (te : TE) (tl th : TO) : TE := fun σ H Q => te σ H fun x H1 => tl σ H1 fun l H2 => th σ H2 fun u H3 => r x l u H3 Q
/-- a[lo:hi], any a -/
theorem pe_slice {r : V → Option Int → Option Int → Hp → VK → Prop} (hr : SlR X r) (he : PE X e te) (hl : PO X lo tl) (hu : PO X hi th) : PE X (.Subscript e (.Slice lo hi none p2) pos) (tSl r te tl th) := by
  intro pins s σ H Q I h
  refine Subscript_ (thn (he pins s σ H _ I h) fun v s1 ⟨x, H1, I1, r1, q1⟩ => ?_)
  refine wpAny_Slice (thn (hl pins s1 σ H1 _ I1 q1) fun vl s2 ⟨l, H2, I2, pl, q2⟩ => thn (hu pins s2 σ H2 _ I2 q2) fun vu s3 ⟨u, H3, I3, pu, q3⟩ => ?_)
  rw [evalPart_none]
  refine wpAny_pure ?_
  have I4 : Inv X pins σ H3 { s3 with heap := s3.heap.push { cls := .type "slice", data := .fields #[vl, vu, .none] } } := I3.kept (t' := s3.toks) fun b ob q => Heap.get?_push_of_some _ q
  obtain ⟨T, id, hT, ht, hg⟩ := hr pins { s3 with heap := s3.heap.push { cls := .type "slice", data := .fields #[vl, vu, .none] } } σ H3 x v vl vu l u s3.heap.objs.size Q I4 r1 (Heap.IsSliceOf.new ..) pl pu q3
  show wpAny (model X.prog X.w) X.A (subscriptTail e (.Slice lo hi none p2) v (.ref s3.heap.objs.size)) (EP X pins σ Q) X.xe { s3 with heap := s3.heap.push { cls := .type "slice", data := .fields #[vl, vu, .none] } }
  exact tail_any (ops := [.ref s3.heap.objs.size, v]) ht hT hg (by with_unfolding_all rfl)

/-- the items of xs[lo:hi] -/
def cutV (xs : List V) (lo hi : Option Int) : List V := (xs.drop (HT.sIx xs.length 0 lo)).take (HT.sIx xs.length xs.length hi - HT.sIx xs.length 0 lo)
theorem cutV_length (xs : List V) (lo hi : Option Int) : (cutV xs lo hi).length ≤ xs.length := by
  unfold cutV
  rw [List.length_take, List.length_drop]
  omega
/-- t[lo:hi], not the whole of it (the whole would be t itself) -/
def rSlT (K : PySem.W.Frag) : V → Option Int → Option Int → Hp → VK → Prop := fun x lo hi H Q => ∃ a xs, x = .ref a ∧ SqT K H a xs ∧
  ¬ (HT.sIx xs.length 0 lo = 0 ∧ HT.sIx xs.length xs.length hi = xs.length) ∧ ∀ p, H p = none → Q (.ref p) (upd H p (.tup (cutV xs lo hi)))
theorem sl_tup : SlR X (rSlT X.K) := by
  intro pins s σ H x v vl vu lo hi sl Q I rx hs pl pu h
  obtain ⟨a, xs, rfl, hx, hw, q⟩ := h
  cases rx
  obtain ⟨its, r, ht, hz⟩ := I.tuple hx
  have hlen : its.toArray.size = xs.length := by rw [List.size_toArray]; exact r.length.symm
  refine ⟨"tuple", _, PyProof.Rows.slot_tuple_getitem.lookup, ht.typeIs, ?_⟩
  refine HT.getItem_tuple_cut ht hs pl pu (by rw [hlen]; exact hw) ?_ (by rw [hlen]; exact hz)
  rw [hlen]
  refine ⟨.ref s.heap.objs.size, _, I.laid (t' := s.toks) (o := .tup (cutV xs lo hi)) (fun b ob q => Heap.get?_push_of_some _ q) (Nat.le_refl _) ?_, rfl, q _ (I.hok.fresh (Nat.le_refl _))⟩
  exact ⟨Nat.le_trans (cutV_length xs lo hi) hz, _, (r.drop (HT.sIx xs.length 0 lo)).take (HT.sIx xs.length xs.length hi - HT.sIx xs.length 0 lo), IsTup.new _ _⟩

/-! ### t < u, t + u -/
def rLtT (K : PySem.W.Frag) : R2 := fun x y H Q => ∃ a b ns ms, x = .ref a ∧ y = .ref b ∧ SqT K H a (ns.map V.int) ∧ SqT K H b (ms.map V.int) ∧ Q (.bl (HT.lexLt ns ms)) H
/-- t + u, t not empty: u empty gives t itself -/
def rCatT (K : PySem.W.Frag) : R2 := fun x y H Q => ∃ a b xs ys, x = .ref a ∧ y = .ref b ∧ SqT K H a xs ∧ SqT K H b ys ∧ xs ≠ [] ∧ xs.length + ys.length ≤ sizeLine ∧
  (ys = [] → Q (.ref a) H) ∧ (ys ≠ [] → ∀ p, H p = none → Q (.ref p) (upd H p (.tup (xs ++ ys))))
theorem Vals.nil_iff {xs : List V} {us : List Value} (r : Vals xs us) : us = [] ↔ xs = [] := by
  cases r with
  | nil => simp
  | cons _ _ => simp
theorem op_catT : OpR X (binaryOp .Add) (rCatT X.K) := by
  intro pins s σ H x y v u Q I rx ry h
  obtain ⟨a, b, xs, ys, rfl, rfl, ha, hb, hx, hz, q1, q2⟩ := h
  cases rx
  cases ry
  obtain ⟨its, r1, p1, _⟩ := I.tuple ha
  obtain ⟨its2, r2, p2, _⟩ := I.tuple hb
  refine HT.cat_tup p1 p2 (fun z => hx (r1.nil_iff.mp z)) (fun z => ⟨.ref a, H, I, rfl, q1 (r2.nil_iff.mp z)⟩) (fun z => ?_) (by rw [← r1.length, ← r2.length]; exact hz)
  refine ⟨.ref s.heap.objs.size, _, I.laid (t' := s.toks) (o := .tup (xs ++ ys)) (fun b ob q => Heap.get?_push_of_some _ q) (Nat.le_refl _) ?_, rfl, q2 (fun w => z (r2.nil_iff.mpr w)) _ (I.hok.fresh (Nat.le_refl _))⟩
  exact ⟨by rw [List.length_append]; exact hz, _, r1.append r2, IsTup.new _ _⟩
end
end L2

namespace L2
open PySem PySem.Spec PyProof.Rows

/-! ### places -/
/-- the place that an index of any sign means -/
def ixN (n : Nat) (i : Int) : Option Nat := if 0 ≤ i then (if i < n then some i.toNat else none) else if -(n : Int) ≤ i then some (i + n).toNat else none
def atI {α : Type} (xs : List α) (i : Int) : Option α := (ixN xs.length i).bind fun j => xs[j]?
theorem ixN_seq {n : Nat} {i : Int} {j : Nat} (h : ixN n i = some j) : seqIndex? i n = some j ∧ j < n ∧ -(n : Int) ≤ i ∧ i < n := by
  unfold ixN at h
  by_cases h0 : 0 ≤ i
  · rw [if_pos h0] at h
    by_cases h1 : i < n
    · rw [if_pos h1] at h
      have e : i.toNat = j := Option.some.inj h
      exact ⟨by rw [seqIndex_of h0 h1, e], by omega, by omega, h1⟩
    · rw [if_neg h1] at h; cases h
  · rw [if_neg h0] at h
    by_cases h1 : -(n : Int) ≤ i
    · rw [if_pos h1] at h
      have e : (i + n).toNat = j := Option.some.inj h
      exact ⟨by rw [seqIndex_neg (by omega) h1, e], by omega, h1, by omega⟩
    · rw [if_neg h1] at h; cases h
theorem atI_get {α : Type} {xs : List α} {i : Int} {v : α} (h : atI xs i = some v) : ∃ j, seqIndex? i xs.length = some j ∧ xs[j]? = some v ∧ j < xs.length ∧ -(xs.length : Int) ≤ i ∧ i < xs.length := by
  unfold atI at h
  cases e : ixN xs.length i with
  | none => rw [e] at h; cases h
  | some j =>
    rw [e] at h
    obtain ⟨h1, h2, h3, h4⟩ := ixN_seq e
    exact ⟨j, h1, h, h2, h3, h4⟩
theorem atI_nat {α : Type} {xs : List α} {j : Nat} {v : α} (h : xs[j]? = some v) : atI xs (j : Int) = some v := by
  have hj : j < xs.length := (List.getElem?_eq_some_iff.mp h).1
  have e : ixN xs.length (j : Int) = some j := by
    unfold ixN
    rw [if_pos (by omega), if_pos (by omega)]; simp
  unfold atI; rw [e]; exact h
theorem atI_last {α : Type} (xs : List α) (v : α) : atI (xs ++ [v]) (-1) = some v := by
  have hl : (xs ++ [v]).length = xs.length + 1 := by simp
  have e : ixN (xs ++ [v]).length (-1) = some xs.length := by
    unfold ixN
    rw [hl, if_neg (by decide), if_pos (by omega)]
    congr 1
    omega
  unfold atI
  rw [e]
  show (xs ++ [v])[xs.length]? = some v
  simp

/-! ### what may be subscripted -/
/-- what stands as an index of a plain subscript -/
def PlainIx (b : Expr) : Prop := ∀ o i, subscripted b false o i = operate [o, i] (getItem o i)
/-- a subscript by values -/
def IxR (X : Cx) (r : R2) : Prop :=
  ∀ (value slice : Expr) (pins : List (Addr × Obj)) (s : Shared) (σ : St) (H : Hp) (x y : V) (v u : Value) (Q : VK), Inv X pins σ H s → RelV x v → RelV y u → r x y H Q →
    subscripted slice false v u = operate [v, u] (getItem v u) → wpAny (model X.prog X.w) X.A (subscriptTail value slice v u) (EP X pins σ Q) X.xe s
/-- a call of a builtin's method by values: the receiver, the arguments -/
def MtR (X : Cx) (id : String) (r : V → List V → Hp → VK → Prop) : Prop :=
  ∀ (pins : List (Addr × Obj)) (s : Shared) (σ : St) (H : Hp) (x : V) (xs : List V) (v : Value) (us : List Value) (Q : VK), Inv X pins σ H s → RelV x v → Vals xs us → r x xs H Q →
    wpAny (model X.prog X.w) X.A (call (.builtin id) (v :: us)) (EP X pins σ Q) X.xe s
section
variable {X : Cx} {a b : Expr} {ta tb : TE} {pos : Pos}
theorem IxR.or {r r' : R2} (h : IxR X r) (h' : IxR X r') : IxR X (fun x y H Q => r x y H Q ∨ r' x y H Q) := by
  intro value slice pins s σ H x y v u Q I rx ry q hs
  rcases q with q | q
  · exact h value slice pins s σ H x y v u Q I rx ry q hs
  · exact h' value slice pins s σ H x y v u Q I rx ry q hs
theorem MtR.or {id : String} {r r' : V → List V → Hp → VK → Prop} (h : MtR X id r) (h' : MtR X id r') : MtR X id (fun x xs H Q => r x xs H Q ∨ r' x xs H Q) := by
  intro pins s σ H x xs v us Q I rx rs q
  rcases q with q | q
  · exact h pins s σ H x xs v us Q I rx rs q
  · exact h' pins s σ H x xs v us Q I rx rs q
/-- a[b] -/
theorem pe_ix {r : R2} (hr : IxR X r) (ha : PE X a ta) (hb : PE X b tb) (hs : PlainIx b) : PE X (.Subscript a b pos) (tOp r ta tb) := by
  intro pins s σ H Q I h
  exact Subscript_ (binT ha hb I h fun v u s2 x y H2 I2 rx ry q => hr a b pins s2 σ H2 x y v u Q I2 rx ry q (hs _ _))

def rIxL (K : PySem.W.Frag) : R2 := fun x y H Q => ∃ p xs i v, x = .ref p ∧ y = .int i ∧ SqL K H p xs ∧ atI xs i = some v ∧ Q v H
def rIxT (K : PySem.W.Frag) : R2 := fun x y H Q => ∃ p xs i v, x = .ref p ∧ y = .int i ∧ SqT K H p xs ∧ atI xs i = some v ∧ Q v H
theorem ix_list : IxR X (rIxL X.K) := by
  intro value slice pins s σ H x y v u Q I rx ry h hs
  obtain ⟨p, xs, i, z, rfl, rfl, hq, he, q⟩ := h
  cases rx
  obtain ⟨t, rfl⟩ := ry
  obtain ⟨its, r, pl, hz⟩ := I.list hq
  obtain ⟨j, h1, h2, h3, h4, h5⟩ := atI_get he
  obtain ⟨w, ew, rw'⟩ := r.get h2
  have hl := r.length
  have hn := line63
  have fin : EP X pins σ Q w s := ⟨z, H, I, rw', q⟩
  by_cases h0 : 0 ≤ i
  · have hj : i.toNat = j := by
      rw [seqIndex_of h0 h5] at h1
      exact Option.some.inj h1
    exact item_listR pl.isList h0 (by omega) (by rw [hj]; simpa using ew) fin hs
  · have hj : (i + (its.toArray.size : Int)).toNat = j := by
      rw [seqIndex_neg (by omega) h4] at h1
      rw [List.size_toArray, ← hl]
      exact Option.some.inj h1
    exact subscriptTail_builtinR (x := w) pl.isList.typeIs slot_list_getitem.lookup
      (wpAny_getItem_list_neg (Q := fun r s' => r = w ∧ EP X pins σ Q r s') pl.isList (by omega) (by rw [List.size_toArray] <;> omega) (by omega) (by rw [hj]; simpa using ew) ⟨rfl, fin⟩) hs
theorem ix_tup : IxR X (rIxT X.K) := by
  intro value slice pins s σ H x y v u Q I rx ry h hs
  obtain ⟨p, xs, i, z, rfl, rfl, hq, he, q⟩ := h
  cases rx
  obtain ⟨t, rfl⟩ := ry
  obtain ⟨its, r, pl, hz⟩ := I.tuple hq
  obtain ⟨j, h1, h2, h3, h4, h5⟩ := atI_get he
  obtain ⟨w, ew, rw'⟩ := r.get h2
  have hl := r.length
  have hn := line63
  have fin : EP X pins σ Q w s := ⟨z, H, I, rw', q⟩
  exact subscriptTail_builtinR (x := w) pl.typeIs slot_tuple_getitem.lookup
    (getItem_tuple (j := j) (Q := fun r s' => r = w ∧ EP X pins σ Q r s') pl (by omega) (by omega) (by rw [List.size_toArray, ← hl]; exact h1) (by simpa using ew) ⟨rfl, fin⟩) hs
/-! ### xs[i] = v, any sign -/
theorem Inv.lst {pins : List (Addr × Obj)} {σ : St} {H : Hp} {s : Shared} {p : Addr} {xs : List V} (I : Inv X pins σ H s) (h : H p = some (.lst xs)) :
    ∃ (its : List Value) (n : Nat), Vals xs its ∧ s.heap.get? p = some { cls := .type "list", data := .seq its.toArray n } ∧ xs.length ≤ sizeLine := by
  obtain ⟨z, its, n, r, e⟩ := I.hok p _ h
  exact ⟨its, n, r, e, z⟩
/-! ### slices -/
theorem slice_bounds (lo hi : Option Int) (n : Nat) : (sliceBounds lo hi none n).1 = ((HT.sIx n 0 lo : Nat) : Int) ∧ (sliceBounds lo hi none n).2.1 = ((HT.sIx n n hi : Nat) : Int) ∧ (sliceBounds lo hi none n).2.2 = 1 := by
  refine ⟨?_, ?_, rfl⟩
  · cases lo with
    | none => simp [sliceBounds, HT.sIx]
    | some i =>
      simp only [sliceBounds, HT.sIx, Option.getD_none, show (1 : Int) > 0 by decide, if_true]
      by_cases h : i < 0
      · simp only [h, if_true] <;> omega
      · simp only [h, if_false] <;> omega
  · cases hi with
    | none => simp [sliceBounds, HT.sIx]
    | some i =>
      simp only [sliceBounds, HT.sIx, Option.getD_none, show (1 : Int) > 0 by decide, if_true]
      by_cases h : i < 0
      · simp only [h, if_true] <;> omega
      · simp only [h, if_false] <;> omega
theorem slicePick_cut (its : List Value) (lo hi : Option Int) : slicePick its.toArray lo hi none = ((its.drop (HT.sIx its.length 0 lo)).take (HT.sIx its.length its.length hi - HT.sIx its.length 0 lo)).toArray := by
  obtain ⟨h1, h2, h3⟩ := slice_bounds lo hi its.toArray.size
  unfold slicePick
  rw [h1, h2, h3]
  simp only [sliceRange_one, pick_run, List.size_toArray] <;> rfl
/-- xs[lo:hi] of a list: a new list -/
def rSlL (K : PySem.W.Frag) : V → Option Int → Option Int → Hp → VK → Prop := fun x lo hi H Q => ∃ a xs, x = .ref a ∧ SqL K H a xs ∧ ∀ p, H p = none → Q (.ref p) (upd H p (.lst (cutV xs lo hi)))
theorem sl_list : SlR X (rSlL X.K) := by
  intro pins s σ H x v vl vu lo hi sl Q I rx hs pl pu h
  obtain ⟨a, xs, rfl, hx, q⟩ := h
  cases rx
  obtain ⟨its, r, ht, hz⟩ := I.list hx
  have hlen := r.length
  refine ⟨"list", _, slot_list_getitem.lookup, ht.isList.typeIs, ?_⟩
  refine wpAny_getItem_list_slice ht.isList hs pl pu .none (by simp) ?_ (by rw [List.size_toArray] <;> omega)
  rw [slicePick_cut, ← hlen]
  refine ⟨.ref s.heap.objs.size, _, I.laid (t' := s.toks) (o := .lst (cutV xs lo hi)) (fun b ob q => Heap.get?_push_of_some _ q) (Nat.le_refl _) ?_, rfl, q _ (I.hok.fresh (Nat.le_refl _))⟩
  exact ⟨Nat.le_trans (cutV_length xs lo hi) hz, _, 0, (r.drop (HT.sIx xs.length 0 lo)).take (HT.sIx xs.length xs.length hi - HT.sIx xs.length 0 lo), Heap.get?_push_size _ rfl⟩

/-! ### in, not in: flat items -/
def flatV : V → Bool
  | .non => true
  | .bl _ => true
  | .int _ => true
  | .str _ => true
  | _ => false
/-- == of flat values -/
def eqV : V → V → Bool
  | .non, .non => true
  | .bl a, .bl b => a == b
  | .bl a, .int b => (if a then 1 else 0) == b
  | .int a, .bl b => a == (if b then 1 else 0)
  | .int a, .int b => a == b
  | .str a, .str b => a == b
  | _, _ => false
theorem eqAt_V {A : Around} {s : Shared} {y x : V} {u v : Value} (ry : RelV y u) (rx : RelV x v) (fy : flatV y = true) (fx : flatV x = true) : SeqAt.EqAt A s u v (eqV y x) := by
  cases y with
  | non =>
    cases ry
    cases x with
    | non => cases rx; exact SeqAt.EqAt.same _
    | bl b => cases rx; exact SeqAt.EqAt.none_bool b
    | int b => obtain ⟨t, rfl⟩ := rx; exact SeqAt.EqAt.none_int b t
    | str b => obtain ⟨t, rfl⟩ := rx; exact SeqAt.EqAt.none_str b t
    | _ => exact absurd (show false = true from fx) Bool.false_ne_true
  | bl a =>
    cases ry
    cases x with
    | non => cases rx; exact SeqAt.EqAt.bool_none a
    | bl b => cases rx; exact SeqAt.EqAt.bool_bool a b
    | int b => obtain ⟨t, rfl⟩ := rx; exact SeqAt.EqAt.bool_int a b t
    | str b => obtain ⟨t, rfl⟩ := rx; exact SeqAt.EqAt.bool_str a b t
    | _ => exact absurd (show false = true from fx) Bool.false_ne_true
  | int a =>
    obtain ⟨t', rfl⟩ := ry
    cases x with
    | non => cases rx; exact SeqAt.EqAt.int_none a t'
    | bl b => cases rx; exact SeqAt.EqAt.int_bool a t' b
    | int b => obtain ⟨t, rfl⟩ := rx; exact SeqAt.EqAt.int_int a t' b t
    | str b => obtain ⟨t, rfl⟩ := rx; exact SeqAt.EqAt.int_str a t' b t
    | _ => exact absurd (show false = true from fx) Bool.false_ne_true
  | str a =>
    obtain ⟨t', rfl⟩ := ry
    cases x with
    | non => cases rx; exact SeqAt.EqAt.str_none a t'
    | bl b => cases rx; exact SeqAt.EqAt.str_bool a t' b
    | int b => obtain ⟨t, rfl⟩ := rx; exact SeqAt.EqAt.str_int a t' b t
    | str b => obtain ⟨t, rfl⟩ := rx; exact SeqAt.EqAt.str_str a t' b t
    | _ => exact absurd (show false = true from fx) Bool.false_ne_true
  | _ => exact absurd (show false = true from fy) Bool.false_ne_true
/-- the items' answers, read off the values (a value's own answer does not lean on its token) -/
def eqU (x : V) (u : Value) : Bool := match u with
  | .none => eqV .non x
  | .bool b => eqV (.bl b) x
  | .int i _ => eqV (.int i) x
  | .str z _ => eqV (.str z) x
  | _ => false
theorem eqU_of {x y : V} {u : Value} (r : RelV y u) (f : flatV y = true) : eqU x u = eqV y x := by
  cases y with
  | non => cases r; rfl
  | bl b => cases r; rfl
  | int i => obtain ⟨t, rfl⟩ := r; rfl
  | str z => obtain ⟨t, rfl⟩ := r; rfl
  | _ => exact absurd (show false = true from f) Bool.false_ne_true
theorem any_eqU {x : V} : ∀ {xs : List V} {us : List Value}, Vals xs us → xs.all flatV = true → us.any (eqU x) = xs.any fun y => eqV y x
  | _, _, .nil, _ => rfl
  | y :: xs, u :: us, .cons r t, f => by
    rw [List.all_cons, Bool.and_eq_true] at f
    rw [List.any_cons, List.any_cons, eqU_of r f.1, any_eqU t f.2]
theorem mem_eqAt {A : Around} {s : Shared} {x : V} {v : Value} (rx : RelV x v) (fx : flatV x = true) : ∀ {xs : List V} {us : List Value}, Vals xs us → xs.all flatV = true → ∀ u ∈ us, SeqAt.EqAt A s u v (eqU x u)
  | _, _, .nil, _ => fun u hu => by cases hu
  | y :: xs, u :: us, .cons r t, f => fun u' hu => by
    rw [List.all_cons, Bool.and_eq_true] at f
    rcases List.mem_cons.mp hu with rfl | hu
    · rw [eqU_of r f.1]; exact eqAt_V r rx f.1 fx
    · exact mem_eqAt rx fx t f.2 u' hu
def inV (x : V) (xs : List V) : Bool := xs.any fun y => eqV y x
/-- x in a list or tuple of flat items -/
def rIn (K : PySem.W.Frag) (neg : Bool) : R2 := fun x y H Q => ∃ p xs, y = .ref p ∧ (SqL K H p xs ∨ SqT K H p xs) ∧ flatV x = true ∧ xs.all flatV = true ∧ Q (.bl (if neg then !inV x xs else inV x xs)) H
theorem op_notIn_seq : OpR X (compareOp .NotIn) (rIn X.K true) := by
  intro pins s σ H x y v u Q I rx ry h
  obtain ⟨p, xs, rfl, hq, fx, fs, q⟩ := h
  cases ry
  rcases hq with hq | hq
  · obtain ⟨its, r, pl, hz⟩ := I.list hq
    refine SeqAt.notIn_listAt (eqU x) pl.isList (fun w hw => mem_eqAt rx fx r fs w (by simpa using hw)) ⟨.bl _, H, I, rfl, ?_⟩
    rw [show its.toArray.any (eqU x) = its.any (eqU x) by simp, any_eqU r fs]
    exact q
  · obtain ⟨its, r, pl, hz⟩ := I.tuple hq
    refine SeqAt.notIn_tupleAt (eqU x) pl (fun w hw => mem_eqAt rx fx r fs w (by simpa using hw)) ⟨.bl _, H, I, rfl, ?_⟩
    rw [show its.toArray.any (eqU x) = its.any (eqU x) by simp, any_eqU r fs]
    exact q
/-! ### len, list(x), tuple(x) of any list or tuple that is read -/
theorem call_len_seq : CallR X (.builtin "len") (fun xs H Q => ∃ p ys, xs = [.ref p] ∧ (SqL X.K H p ys ∨ SqT X.K H p ys) ∧ Q (.int ys.length) H) := by
  intro pins s σ H xs us Q I r h
  obtain ⟨p, ys, rfl, hq, q⟩ := h
  obtain ⟨u, rfl, rx⟩ := vals1 r
  cases rx
  have hn := line63
  rcases hq with hq | hq
  · obtain ⟨its, r', pl, hz⟩ := I.list hq
    have hlen := r'.length
    exact Calls.call_len_list pl.isList (by simp only [List.size_toArray] <;> omega) ⟨.int ys.length, H, I.tok _, ⟨s.toks + 1, by rw [List.size_toArray, hlen]⟩, q⟩
  · obtain ⟨its, r', pl, hz⟩ := I.tuple hq
    have hlen := r'.length
    exact len_tuple pl (by simp only [List.size_toArray] <;> omega) ⟨.int ys.length, H, I.tok _, ⟨s.toks + 1, by rw [List.size_toArray, hlen]⟩, q⟩
theorem CallR.or {f : Value} {r r' : List V → Hp → VK → Prop} (h : CallR X f r) (h' : CallR X f r') : CallR X f (fun xs H Q => r xs H Q ∨ r' xs H Q) := by
  intro pins s σ H xs us Q I rs q
  rcases q with q | q
  · exact h pins s σ H xs us Q I rs q
  · exact h' pins s σ H xs us Q I rs q
theorem call_list_of : CallR X (.type "list") (fun xs H Q => ∃ p ys, xs = [.ref p] ∧ (SqL X.K H p ys ∨ SqT X.K H p ys) ∧ ∀ l, H l = none → Q (.ref l) (upd H l (.lst ys))) := by
  intro pins s σ H xs us Q I r h
  obtain ⟨p, ys, rfl, hq, q⟩ := h
  obtain ⟨u, rfl, rx⟩ := vals1 r
  cases rx
  have fin : ∀ (its : List Value), Vals ys its → ys.length ≤ sizeLine → ∀ (h' : Heap) (c' : Nat), (∀ b o', s.heap.get? b = some o' → h'.get? b = some o') →
      h'.get? s.heap.objs.size = some { cls := .type "list", dict := none, data := .seq its.toArray c', slots := #[] } → EP X pins σ Q (.ref s.heap.objs.size) { s with heap := h' } := fun its r' hz h' c' kp e =>
    ⟨.ref s.heap.objs.size, _, I.laid (t' := s.toks) kp (Nat.le_refl _) (show ObjOk X.prog X.w _ h' _ (.lst ys) from ⟨hz, its, c', r', e⟩), rfl, q _ (I.hok.fresh (Nat.le_refl _))⟩
  rcases hq with hq | hq
  · obtain ⟨its, r', pl, hz⟩ := I.list hq
    have hlen := r'.length
    obtain ⟨o, ho, hc, n, hd⟩ := pl.isList
    exact call_list_seq p (.inl rfl) ho hc hd (fun h' c' kp e => fin its r' hz h' c' kp e) (by simp only [List.size_toArray] <;> omega)
  · obtain ⟨its, r', pl, hz⟩ := I.tuple hq
    have hlen := r'.length
    obtain ⟨o, ho, hc, n, hd⟩ := pl
    exact call_list_seq p (.inr rfl) ho hc hd (fun h' c' kp e => fin its r' hz h' c' kp e) (by simp only [List.size_toArray] <;> omega)
theorem call_tuple_of : CallR X (.type "tuple") (fun xs H Q => ∃ p ys, xs = [.ref p] ∧ ((SqL X.K H p ys ∧ ∀ l, H l = none → Q (.ref l) (upd H l (.tup ys))) ∨ (SqT X.K H p ys ∧ Q (.ref p) H))) := by
  intro pins s σ H xs us Q I r h
  obtain ⟨p, ys, rfl, h⟩ := h
  obtain ⟨u, rfl, rx⟩ := vals1 r
  cases rx
  rcases h with ⟨hq, q⟩ | ⟨hq, q⟩
  · obtain ⟨its, r', pl, hz⟩ := I.list hq
    have hlen := r'.length
    refine call_tuple_list pl.isList (fun h' kp => ?_) (by simp only [List.size_toArray] <;> omega)
    have I1 : Inv X pins σ H { s with heap := h' } := I.kept (t' := s.toks) kp
    have I2 : Inv X pins σ (upd H h'.objs.size (.tup ys)) { s with heap := h'.push { cls := .type "tuple", data := .seq its.toArray } } :=
      I1.laid (t' := s.toks) (fun b o e => Heap.get?_push_of_some _ e) (Nat.le_refl _) (show ObjOk X.prog X.w _ _ _ (.tup ys) from ⟨hz, its, r', IsTup.new _ _⟩)
    exact ⟨.ref h'.objs.size, _, I2, rfl, q _ (I1.hok.fresh (Nat.le_refl _))⟩
  · obtain ⟨its, r', pl, hz⟩ := I.tuple hq
    exact call_tuple_same pl ⟨.ref p, H, I, rfl, q⟩

/-! ### the call of a builtin's method: o.m(..) -/
/-- the value is of that builtin type -/
def tyV (K : PySem.W.Frag) (T : String) (x : V) (H : Hp) : Prop := match x with
  | .str _ => T = "str"
  | .int _ => T = "int"
  | .ref p => (T = "list" ∧ ∃ xs, SqL K H p xs) ∨ (T = "tuple" ∧ ∃ o, K.lookup p = some o ∧ o.cls = .type "tuple" ∧ o.dict = none) ∨
      (T = "dict" ∧ ((∃ kvs, H p = some (.dK kvs)) ∨ ∃ kvs, H p = some (.dT kvs))) ∨ (T = "set" ∧ ∃ S n, H p = some (.set S n))
  | _ => False
theorem tyV_is {pins : List (Addr × Obj)} {σ : St} {H : Hp} {s : Shared} {T : String} {x : V} {v : Value} (I : Inv X pins σ H s) (r : RelV x v) (ty : tyV X.K T x H) :
    s.TypeIs v T ∧ ∀ a, v = .ref a → ∃ ob, s.heap.get? a = some ob ∧ ob.dict = none := by
  cases x with
  | str z =>
    obtain ⟨t, rfl⟩ := r
    cases (show T = "str" from ty)
    exact ⟨typeIs_str s z t, fun _ e => nomatch e⟩
  | int i =>
    obtain ⟨t, rfl⟩ := r
    cases (show T = "int" from ty)
    exact ⟨typeIs_int s i t, fun _ e => nomatch e⟩
  | ref p =>
    cases r
    rcases ty with ⟨rfl, xs, hq⟩ | ⟨rfl, o, hk, hc, hd⟩ | ⟨rfl, hk⟩ | ⟨rfl, S, n, hk⟩
    · obtain ⟨its, _, pl, _⟩ := I.list hq
      refine ⟨pl.isList.typeIs, fun a e => ?_⟩
      cases e
      obtain ⟨o, n, e, c, hd, _⟩ := pl
      exact ⟨o, e, hd⟩
    · refine ⟨⟨o, I.kIn p o hk, hc⟩, fun a e => ?_⟩
      cases e
      exact ⟨o, I.kIn _ o hk, hd⟩
    · have z : ∃ o, s.heap.get? p = some o ∧ o.ExactDict := by
        rcases hk with ⟨kvs, hk⟩ | ⟨kvs, hk⟩
        · obtain ⟨_, _, _, _, o, _, _, e, ex, _⟩ := I.hok p _ hk
          exact ⟨o, e, ex⟩
        · obtain ⟨_, _, _, _, o, _, _, e, ex, _⟩ := I.hok p _ hk
          exact ⟨o, e, ex⟩
      obtain ⟨o, e, ex⟩ := z
      refine ⟨⟨o, e, ex.1⟩, fun a e2 => ?_⟩
      cases e2
      exact ⟨o, e, ex.2.1⟩
    · obtain ⟨o, _, _, _, e, ex, _⟩ := I.hok p _ hk
      refine ⟨⟨o, e, ex.1⟩, fun a e2 => ?_⟩
      cases e2
      exact ⟨o, e, ex.2.1⟩
  | _ => exact False.elim ty
def tBM0 (K : PySem.W.Frag) (T : String) (r : V → List V → Hp → VK → Prop) (to : TE) : TE := fun σ H Q => to σ H fun x H1 => tyV K T x H1 ∧ r x [] H1 Q
def tBM (K : PySem.W.Frag) (T : String) (r : V → List V → Hp → VK → Prop) (to : TE) (t : TA) : TE := fun σ H Q => to σ H fun x H1 => tyV K T x H1 ∧ t σ H1 fun xs H2 => r x xs H2 Q
variable {o e : Expr} {es : List Expr} {to : TE} {t : TA} {name : Str} {apos cpos : Pos} {T id : String} {r : V → List V → Hp → VK → Prop}
theorem pe_bm0 (pa : PlainAttrs T) (slot : Slot T name id) (hty : typeOf (.builtin id) = pure (.type "method_descriptor")) (hm : MtR X id r) (ho : PE X o to)
    (hbase : attributeBase o name X.env (eval o X.env) = eval o X.env := by rfl) (hline : (apos.endLine == cpos.line) = true := by rfl) : PE X (.Call (.Attribute o name apos) [] [] cpos) (tBM0 X.K T r to) := by
  intro pins s σ H Q I h
  refine wpAny_Call_method0_late hbase hline (thn (ho pins s σ H _ I h) fun v s1 ⟨x, H1, I1, r1, ty, q1⟩ => ?_)
  obtain ⟨h1, h2⟩ := tyV_is I1 r1 ty
  exact ⟨T, id, pa, slot, hty, h1, h2, Calls.callWith_builtin rfl (PySem.evalArgs_none (hm pins s1 σ H1 x [] v [] Q I1 r1 .nil q1))⟩
theorem pe_bm (pa : PlainAttrs T) (slot : Slot T name id) (hty : typeOf (.builtin id) = pure (.type "method_descriptor")) (hm : MtR X id r) (ho : PE X o to) (ha : PA X (e :: es) t)
    (hbase : attributeBase o name X.env (eval o X.env) = eval o X.env := by rfl)
    (hfew : ((backTo cpos (starEach (e :: es) X.env)).all (fun x => !x.1) && (backToKw cpos (keywordEach [] X.env)).all (fun x => x.1.isSome)
      && decide ((e :: es).length + ([] : List Keyword).length + (if ([] : List Keyword).isEmpty then 0 else 1) < 30)) = true := by rfl)
    (hline : (apos.endLine == cpos.line) = true := by rfl) (hs : starEach (e :: es) X.env = (false, eval e X.env) :: starEach es X.env := by rfl) (hplain : (backTo cpos (starEach es X.env)).any (·.1) = false := by rfl) :
    PE X (.Call (.Attribute o name apos) (e :: es) [] cpos) (tBM X.K T r to t) := by
  intro pins s σ H Q I h
  refine wpAny_Call_method_late hbase hfew hline rfl (thn (ho pins s σ H _ I h) fun v s1 ⟨x, H1, I1, r1, ty, q1⟩ => ?_)
  obtain ⟨h1, h2⟩ := tyV_is I1 r1 ty
  refine ⟨T, id, pa, slot, hty, h1, h2, ?_⟩
  have hA := ha cpos pins s1 σ H1 _ I1 q1
  rw [hs] at hA ⊢
  refine Calls.callWith_builtin (by show (false || (backTo cpos (starEach es X.env)).any (·.1)) = false; rw [hplain] <;> rfl) (Calls.evalArgs_plain ?_)
  exact thn hA fun us s2 ⟨vs, H2, I2, r2, q2⟩ => hm pins s2 σ H2 x vs v us Q I2 r1 r2 q2
/- xs.append(e), list.index on a module's tuple .. are MtR facts of 06m -/
end
end L2

namespace L2
open PySem PySem.Spec PyProof.Rows

def MtM (X : Cx) (id : String) (r : V → List V → Hp → VK → Prop) : Prop :=
  ∀ (pins : List (Addr × Obj)) (s : Shared) (σ : St) (H : Hp) (x : V) (xs : List V) (v : Value) (us : List Value) (Q : VK), Inv X pins σ H s → RelV x v → Vals xs us → r x xs H Q →
    wpAny (model X.prog X.w) X.A (call (.builtin id) (v :: us)) (EP X pins σ Q) X.xe s

/-! ### lists of values -/
theorem Vals.one : ∀ {x : V} {us : List Value}, Vals [x] us → ∃ u, us = [u] ∧ RelV x u
  | _, _, .cons r .nil => ⟨_, rfl, r⟩
theorem Vals.two : ∀ {x y : V} {us : List Value}, Vals [x, y] us → ∃ u v, us = [u, v] ∧ RelV x u ∧ RelV y v
  | _, _, _, .cons r (.cons q .nil) => ⟨_, _, rfl, r, q⟩
theorem Vals.zero : ∀ {us : List Value}, Vals [] us → us = []
  | _, .nil => rfl
theorem Vals.dropLast {xs : List V} {us : List Value} (h : Vals xs us) : Vals xs.dropLast us.dropLast := by
  induction h with
  | nil => exact .nil
  | cons r t ih =>
    cases t with
    | nil => exact .nil
    | cons q t' => exact .cons r ih
theorem Vals.reverse {xs : List V} {us : List Value} (h : Vals xs us) : Vals xs.reverse us.reverse := by
  induction h with
  | nil => exact .nil
  | cons r t ih => rw [List.reverse_cons, List.reverse_cons]; exact Vals.append ih (.cons r .nil)
theorem Vals.rep {xs : List V} {us : List Value} (h : Vals xs us) : ∀ k : Nat, Vals (List.replicate k xs).flatten (List.replicate k us).flatten
  | 0 => .nil
  | k + 1 => by
    rw [List.replicate_succ, List.replicate_succ, List.flatten_cons, List.flatten_cons]
    exact Vals.append h (Vals.rep h k)
theorem foldl_rep (its : List Value) : ∀ (k : Nat) (acc : List Value),
    List.foldl (fun x1 x2 => x1 ++ x2) acc.toArray (List.replicate k its.toArray) = (acc ++ (List.replicate k its).flatten).toArray
  | 0, acc => by simp
  | k + 1, acc => by
    have e : acc.toArray ++ its.toArray = (acc ++ its).toArray := by simp
    have e2 : (acc ++ its) ++ (List.replicate k its).flatten = acc ++ (List.replicate (k + 1) its).flatten := by
      rw [List.replicate_succ, List.flatten_cons, List.append_assoc]
    rw [← e2, ← foldl_rep its k (acc ++ its), ← e, List.replicate_succ, List.foldl_cons]

section
variable {X : Cx} {pins : List (Addr × Obj)} {σ : St} {H : Hp} {s : Shared} {l b : Addr} {xs ys zs : List V}

/-! ### the two steps: a tracked list is rewritten, a new list is laid -/
theorem Inv.lset {its its' : List Value} {n : Nat} {f : Array Value → Array Value} {t' : Nat} (I : Inv X pins σ H s) (hH : H l = some (.lst xs))
    (e : s.heap.get? l = some { cls := .type "list", data := .seq its.toArray n }) (hf : f its.toArray = its'.toArray) (hv : Vals ys its') (hz : ys.length ≤ sizeLine) :
    Inv X pins σ (upd H l (.lst ys)) { s with heap := s.heap.update l (Obj.mapSeq f), toks := t' } := by
  have q := PySem.IsL.update e f
  rw [hf] at q
  refine I.write (x := l) (e := l) (by rw [hH]; exact trivial) (.inl rfl) (fun b' u hb hu => (Heap.get?_update_other s.heap (Obj.mapSeq f) (Ne.symm hb)).trans hu) ⟨_, q⟩ ?_
  exact ⟨hz, its', _, hv, q⟩
theorem Inv.lnew {its : List Value} {t' : Nat} (I : Inv X pins σ H s) (hv : Vals ys its) (hz : ys.length ≤ sizeLine) :
    Inv X pins σ (upd H s.heap.objs.size (.lst ys)) { s with heap := s.heap.push { cls := .type "list", data := .seq its.toArray }, toks := t' } :=
  I.laid (fun _ _ q => Heap.get?_push_of_some _ q) (Nat.le_refl _) ⟨hz, its, 0, hv, Heap.get?_push_size _ rfl⟩
theorem Inv.fresh (I : Inv X pins σ H s) : H s.heap.objs.size = none := I.hok.fresh (Nat.le_refl _)
theorem Inv.lstM (I : Inv X pins σ H s) (hH : H l = some (.lst xs)) : xs.length ≤ sizeLine ∧ ∃ (its : List Value) (n : Nat), Vals xs its ∧ xs.length = its.length ∧ s.heap.get? l = some { cls := .type "list", data := .seq its.toArray n } := by
  obtain ⟨z, its, n, r, e⟩ := I.hok l _ hH
  exact ⟨z, its, n, r, r.length, e⟩

theorem notLongL {n : Nat} (h : n ≤ sizeLine) : Builtin.List.listTooLong n = false := by
  unfold Builtin.List.listTooLong
  exact decide_eq_false (by omega)
end

section
variable {X : Cx}

/-! ### methods -/
def rAppend : V → List V → Hp → VK → Prop := fun x vs H Q => ∃ l xs y, x = .ref l ∧ vs = [y] ∧ H l = some (.lst xs) ∧ xs.length < sizeLine ∧ Q .non (upd H l (.lst (xs ++ [y])))
theorem mt_append : MtM X "list.append" rAppend := by
  intro pins s σ H x vs v us Q I rx rv h
  obtain ⟨l, xs, y, rfl, rfl, hH, hz, q⟩ := h
  cases rx
  obtain ⟨u, rfl, ru⟩ := rv.one
  obtain ⟨z, its, n, r, hl, e⟩ := I.lstM hH
  refine call_meets F.slot_list_append ⟨_, e, rfl⟩ F.entry_list_append (F.args_list_append_2 _ _) (PySem.list_append l its.toArray n u (by rw [List.size_toArray]; omega)) ⟨e, ?_⟩
  refine ⟨.non, _, I.lset (its' := its ++ [u]) hH e (by simp) (r.append (.cons ru .nil)) ?_, rfl, q⟩
  rw [List.length_append, List.length_singleton]
  omega

/-! ### list + list, list += list, list * int -/
def rCat : R2 := fun x y H Q => ∃ l b xs zs, x = .ref l ∧ y = .ref b ∧ H l = some (.lst xs) ∧ H b = some (.lst zs) ∧ xs.length + zs.length ≤ sizeLine ∧ ∀ p, H p = none → Q (.ref p) (upd H p (.lst (xs ++ zs)))
theorem op_cat : OpR X (binaryOp .Add) rCat := by
  intro pins s σ H x y v u Q I rx ry h
  obtain ⟨l, b, xs, zs, rfl, rfl, hH, hB, hz, q⟩ := h
  cases rx
  cases ry
  obtain ⟨z, its, n, r, hl, e⟩ := I.lstM hH
  obtain ⟨z2, its2, n2, r2, hl2, e2⟩ := I.lstM hB
  refine PySem.P.add_list e e2 ?_ (by rw [List.size_toArray, List.size_toArray]; omega)
  have ea : its.toArray ++ its2.toArray = (its ++ its2).toArray := by simp
  rw [ea]
  exact ⟨.ref _, _, I.lnew (t' := s.toks) (r.append r2) (by rw [List.length_append]; omega), rfl, q _ I.fresh⟩
/-- a list times an int (a negative one is nothing) -/
def rRep : R2 := fun x y H Q => ∃ l k xs, x = .ref l ∧ y = .int k ∧ H l = some (.lst xs) ∧ -(2 ^ 63) ≤ k ∧ k < 2 ^ 63 ∧ xs.length * k.toNat ≤ sizeLine ∧
  ∀ p, H p = none → Q (.ref p) (upd H p (.lst (List.replicate k.toNat xs).flatten))
theorem len_rep {α : Type} (xs : List α) (k : Nat) : (List.replicate k xs).flatten.length = k * xs.length := by
  induction k with
  | zero => simp
  | succ k ih => rw [List.replicate_succ, List.flatten_cons, List.length_append, ih, Nat.succ_mul, Nat.add_comm]
theorem op_rep : OpR X (binaryOp .Mult) rRep := by
  intro pins s σ H x y v u Q I rx ry h
  obtain ⟨l, k, xs, rfl, rfl, hH, h1, h2, hz, q⟩ := h
  cases rx
  obtain ⟨t, rfl⟩ := ry
  obtain ⟨z, its, n, r, hl, e⟩ := I.lstM hH
  have hlen : its.toArray.size * k.toNat ≤ sizeLine := by rw [List.size_toArray, ← hl]; exact hz
  have hcap : ¬ its.toArray.size * k.toNat > (2 ^ 63 - 1) / 8 := by
    have : (sizeLine : Nat) ≤ (2 ^ 63 - 1) / 8 := by decide
    omega
  have hfit : ¬ (!Builtin.List.listFitsIndex k) = true := by
    rw [fitsIndex_both h1 h2]
    exact Bool.false_ne_true
  have hlong : ¬ Builtin.List.listTooLong (its.toArray.size * k.toNat) = true := by
    rw [notLongL hlen]
    exact Bool.false_ne_true
  have hnew : List.foldl (fun x1 x2 => x1 ++ x2) #[] (List.replicate (if its.toArray.isEmpty = true then 0 else k.toNat) its.toArray) = (List.replicate k.toNat its).flatten.toArray := by
    have f0 : ∀ m : Nat, List.foldl (fun x1 x2 => x1 ++ x2) #[] (List.replicate m its.toArray) = (List.replicate m its).flatten.toArray := fun m => by
      have := foldl_rep its m []
      rw [List.nil_append] at this
      exact this
    rw [f0]
    cases its with
    | nil => simp
    | cons a r' => rw [if_neg (by simp)]
  refine wpAny_binaryOp_repeat_ref (T := "list") (U := "int") (by decide) ⟨_, e, rfl⟩ (fun s' => typeIs_int s' k t) noFill_list_mul F.fills_int_mul F.slot_int_rmul repeat_list F.slot_int_index.lookup
    (call_meets F.slot_int_rmul (typeIs_int s k t) F.entry_int_rmul (F.args_int_rmul_2 _ _) (int___rmul___int_list k t l its.toArray n)
      ⟨e, rfl, ⟨_, e, rfl⟩, call_meets F.slot_list_mul ⟨_, e, rfl⟩ F.entry_list_mul (F.args_list_mul_2 _ _) (AutoListH.list___mul___list_int_3 l its.toArray n k t hfit hcap hlong) ⟨e, ?_⟩⟩)
  rw [hnew]
  exact ⟨.ref _, _, I.lnew (t' := s.toks) (r.rep k.toNat) (by rw [len_rep, Nat.mul_comm]; exact hz), rfl, q _ I.fresh⟩

/-! ### del xs[i] -/
end

/-! ### xs[a:b] = ys -/
section
variable {prog : Program} {w : World} {A : Around} {E : Value → Shared → Prop} {s : Shared}
end

section
variable {X : Cx}
end
end L2

namespace Att
open PySem PySem.W PySem.Calls PyProof.Rows

/-! ### the script -/
theorem ints_of_wellAll {P : Params} {h : Heap} : ∀ (ns : List Int) (vs : List Value), WellAll P h vs (ns.map WData.int) → IntsAre vs ns := by
  intro ns
  induction ns with
  | nil =>
    intro vs w
    rw [List.map_nil] at w
    cases w
    exact .nil
  | cons n ns ih =>
    intro vs w
    rw [List.map_cons] at w
    cases w with
    | cons a b =>
      cases a
      exact .cons _ _ (ih _ b)

theorem script_of {l : OpenLaw} {n : Nat} (hn : l.most = some n) {P : Params} {h : Heap} {args : List WData} {vals : List Value}
    (hpre : l.row.toRowW.claim.pre args = true) (hwl : WellAll P h vals args) :
    ∃ a vs ns, vals = [Value.ref a] ∧ args = [WData.list (ns.map WData.int)] ∧ h.get? a = some { cls := .type "list", data := .seq vs.toArray } ∧ IntsAre vs ns ∧ ns.length ≤ n := by
  have hsh : WShape.hasAll [] args [.list .int] = true := (pre_splitW hpre).1
  have hc : l.pre.holds [] { args := args } = true := (pre_splitW hpre).2
  obtain ⟨d, r, rfl, h1, h2⟩ := hasAllW_cons hsh
  obtain rfl := hasAllW_nil h2
  obtain ⟨xs, rfl, h3⟩ := hasW_list h1
  obtain ⟨ns, rfl⟩ := items_int h3
  have hlen : ns.length ≤ n := by
    unfold OpenLaw.pre at hc
    have h4 : (WTm.not (.lt (.lit (.int (n : Int))) (.len (.arg 0)))).holds [] { args := [.list (ns.map .int)] } = true := by
      have h4 := (holds_andW hc).1
      rw [hn] at h4
      exact h4
    have h5 := condW_of h4 (w_not (w_lt w_lit (w_len_list (w_arg rfl))))
    rw [List.length_map] at h5
    refine Nat.le_of_not_lt fun q => ?_
    have q' : (n : Int) < ((ns.length : Nat) : Int) := by omega
    first
      | (rw [decide_eq_true q'] at h5; exact absurd h5 (by decide))
      | (simp at h5; omega)
  cases hwl with
  | cons w1 w2 =>
    cases w2
    cases w1 with
    | list ho hall => exact ⟨_, _, ns, rfl, rfl, ho, ints_of_wellAll ns _ hall, hlen⟩

theorem post_true (l : OpenLaw) (args : List WData) : l.row.toRowW.claim.post args (.bool true) args = true :=
  postW_of (r := l.row.toRowW) (X := (true == true))
    (show WShape.has [] (.bool true) .bool = true by first | rfl | decide | simp [WShape.has, WShape.arms, WShape.armsAll])
    (show (WTm.eq .res (.lit (.bool true))).value [] { args := args, res := some (.bool true), after := args } = some (.bool (true == true)) from w_eq_bool (w_res rfl) w_lit) rfl

/-! ### the attachment: holds_open's last premise (the goal 'hc' behind k_head) from a wpAny of the law's body -/
/-- the same from a codeAny of the CALL (for a layer whose function contracts speak of calls) -/
theorem attach_call {l : OpenLaw} {n : Nat} {q : Program} {loose : List Str} {XP : (Str → Option Value) → Heap → Prop} {YP : World → Heap → Prop} {d : DefRec}
    (hn : l.most = some n) (hdf : d.params.defaults = [])
    (call : ∀ (w : World) (s₀ s₁ : Shared) (mg mb : Str → Option Value) (fa : Addr) (o : Obj) (pm cd doc : Value) (a : Addr) (vs : List Value) (ns : List Int),
      Ground q loose [] XP w s₀ mg mb s₁.heap → YP w s₁.heap →
      s₁.heap.get? fa = some o → o.data = .func (docDef d.name d.params d.body d.scope pm cd doc) → s₁.heap.CodeRec cd d.name → mg d.name = some (.ref fa) →
      s₁.heap.get? a = some { cls := .type "list", data := .seq vs.toArray } → IntsAre vs ns → ns.length ≤ n → s₁.gens = #[] →
      codeAny (model l.prog w) callerA (.call (.ref fa) ⟨[.ref a], []⟩) (fun r s' => r = .ok (.ret (.bool true)) ∧ OldK s₁.heap s'.heap ∧ s'.os = s₁.os ∧ AllBare s'.gens) s₁) :
    WalkO q loose XP YP l.row.toRowW d [] (fun f vs => PySem.call f vs) := by
  intro w s₀ s₁ mg mb G Y fa o pm cd doc dV kV ho hd hcd hD hmg hg args vals as hpre hlay hrd hwl hlo
  obtain rfl : dV = .none := Dflts.none hD hdf
  obtain rfl : kV = .none := Dflts.noKw hD
  obtain ⟨a, vs, ns, rfl, rfl, hobj, hints, hlen⟩ := script_of hn hpre hwl
  refine enter_call (codeAny_mono (call w s₀ s₁ mg mb fa o pm cd doc a vs ns G Y ho (fd_plain hd) hcd hmg hobj hints hlen hg) fun r s' hq => ?_)
  obtain ⟨rfl, h2, h3, h4⟩ := hq
  exact ⟨.inl ⟨.bool true, .bool true, [], rfl, fun _ => rfl, .bool true, post_true l _, fun _ => ⟨List.Pairwise.nil, fun _ hm => (nomatch hm)⟩⟩, h2, h3, h4⟩

/-! ### rules over ANY heap (no ledger) from facts about the written part K: the library's own take a ledger (News) for what they write -/
section
variable {prog : Program} {w : World} {A : Around} {E : Value → Shared → Prop} {s : Shared} {K : Frag}

/-! the whole heap as the ledger: makes every rule that writes through a ledger a rule over any heap -/
def ledger (h : Heap) (L d : Addr) : List (Addr × Obj) := (List.range h.objs.size).filterMap fun a => if a = L ∨ a = d then none else (h.get? a).map fun o => (a, o)
end
end Att

namespace L2
open PySem PySem.Spec PyProof.Rows

theorem vals_ints : ∀ {vs : List Value} {ns : List Int}, IntsAre vs ns → Vals (ns.map V.int) vs
  | _, _, .nil => .nil
  | _, _, .cons n t h => .cons ⟨t, rfl⟩ (vals_ints h)

/-- nothing is tracked but the script, known to the object (or it is an object of the module) -/
def Only (H : Hp) : Prop := ∀ b, H b = none ∨ ∃ o xs, H b = some (.frz o (.lst xs))

/-- THE HEAD: the law's promise, at the heap behind the top. F, the promise of the law's def, may use that base is part of the heap (so K.In base, base.Ns mainGlobals mg stand in Mod) -/
theorem law_call {P : Program} {w : World} {K : PySem.W.Frag} {mg mb : Str → Option Value} {CX : CXT} {k : Nat} {fa a : Addr} {fd : FuncData} {x : Str} {sp : Sp} {s₁ : Shared} {vs : List Value} {ns : List Int}
    (KX : K.In s₁.heap) (hns : s₁.heap.Ns mainGlobals mg) (hb : s₁.heap.Ns builtinsNs mb) (hbb : ∀ x : Str, x ≠ "__name__" → mb x = bootBuiltins x) (hlim : s₁.heap.NoLimit) (hg : s₁.gens = #[])
    (ha : s₁.heap.get? a = some { cls := .type "list", data := .seq vs.toArray }) (hi : IntsAre vs ns) (hl : ns.length ≤ sizeLine) (hr : Room k callerA)
    (F : ∀ base : Heap, K.In base → base.Ns mainGlobals mg → FnOk P w K mg base CX k fa fd [x] sp) (hbind : ∀ (s : Shared) (u : Value), BindsTo s fd ⟨[u], []⟩ [(x, u)])
    (hsp : ∀ H : Hp, Only H → SqL K H a (ns.map V.int) → sp [.ref a] H (fun v _ => v = .bl true) fun _ _ _ => False)
    (hCX : ∀ H e s', CX [] H s₁ (fun _ _ _ => False) e s' → False) :
    codeAny (model P w) callerA (.call (.ref fa) ⟨[.ref a], []⟩) (fun r s' => r = .ok (.ret (.bool true)) ∧ OldK s₁.heap s'.heap ∧ s'.os = s₁.os ∧ AllBare s'.gens) s₁ := by
  have rv := vals_ints hi
  have lenV := hi.length
  -- from an abstract heap in which nothing but the script may be tracked
  have core : ∀ H : Hp, Only H → SqL K H a (ns.map V.int) → HOk P w H s₁.heap → (∀ b, H b ≠ none → b = a) → (H a ≠ none → K.lookup a = none) →
      codeAny (model P w) callerA (.call (.ref fa) ⟨[.ref a], []⟩) (fun r s' => r = .ok (.ret (.bool true)) ∧ OldK s₁.heap s'.heap ∧ s'.os = s₁.os ∧ AllBare s'.gens) s₁ := by
    intro H hO hS hok hA hK
    have base_of : ∀ {b : Addr} {o : Obj}, s₁.heap.get? b = some o → H b = none → (hidT s₁.heap H).get? b = some o := fun e n => hidT_get e n
    have noA : ∀ {b : Addr} {o : Obj} {es : Array DictEntry} {ep : Nat}, s₁.heap.get? b = some o → o.data = .dict es ep → H b = none := fun {b o es ep} e d => by
      cases q : H b with
      | none => rfl
      | some u =>
        have e' : b = a := hA b (by rw [q]; simp)
        subst e'
        rw [ha] at e; cases e
        have d' : Data.seq vs.toArray _ = Data.dict es ep := d
        cases d'
    have nsK : ∀ {b : Addr} {m : Str → Option Value}, s₁.heap.Ns b m → (hidT s₁.heap H).Ns b m := fun {b m} ⟨o, es, ep, e, d, r⟩ => ⟨o, es, ep, base_of e (noA e d), d, r⟩
    have hKb : K.In (hidT s₁.heap H) := fun b o e => base_of (KX b o e) (by
      cases q : H b with
      | none => rfl
      | some u =>
        have e' : b = a := hA b (by rw [q]; simp)
        subst e'
        rw [hK (by rw [q]; simp)] at e; cases e)
    have hM : Mod K mg (hidT s₁.heap H) := ⟨hKb, nsK hns, ⟨mb, nsK hb, hbb⟩, let ⟨mc, h1, h2⟩ := hlim; ⟨mc, nsK h1, h2⟩⟩
    have e0 : Env0 P w K mg (hidT s₁.heap H) callerA [] s₁ H := ⟨rfl, hM, fun b o e => of_hidT e, Nat.le_of_eq (hidT_size _ _), trivial, fun b hb => absurd (show b ∈ ([] : List Addr) from hb) (by simp), hok, .of_eq hg⟩
    refine codeAny_mono ((F _ hKb (nsK hns)).run callerA [] s₁ H ⟨[.ref a], []⟩ [.ref a] [.ref a] _ _ hr e0 (hbind s₁ (.ref a)) (.cons rfl .nil) (hsp H hO hS)) fun r s' h => ?_
    cases r with
    | error e => exact (hCX H e s' h).elim
    | ok fl =>
      cases fl with
      | next => exact False.elim h
      | brk => exact False.elim h
      | cont => exact False.elim h
      | ret u =>
        obtain ⟨v, H', os, bare, un, hok', r', q⟩ := h
        have q' : v = .bl true := q
        subst q'
        obtain rfl : u = Value.bool true := r'
        refine ⟨rfl, OldK.of_keep fun b o e => ?_, os, bare⟩
        cases q : H b with
        | none => exact un.keep b o e q (by intro z; exact absurd (show b ∈ ([] : List Addr) from z) (by simp)) (by simp)
        | some u =>
          rcases hO b with z | ⟨ob, xs, z⟩
          · rw [q] at z; cases z
          · have z2 := un.frzs b ob _ z
            obtain ⟨e1, _⟩ := hok b _ z
            obtain ⟨e2, _⟩ := hok' b _ z2
            rw [e] at e1; cases e1
            exact e2
  cases hk : K.lookup a with
  | some o =>
    -- the script is one of the module's own objects
    have e := KX a o hk
    rw [ha] at e
    cases e
    refine core (fun _ => none) (fun _ => .inl rfl) (.inr ⟨_, vs.toArray, _, hk, rfl, rfl, rfl, by rw [List.size_toArray, lenV]; exact hl, by simpa using rv⟩) (fun b u z => by have z' : (none : Option HO) = some u := z; cases z') (fun b z => absurd rfl z) fun z => absurd rfl z
  | none =>
    refine core (fun b => if b = a then some (.frz { cls := .type "list", data := .seq vs.toArray } (.lst (ns.map V.int))) else none) (fun b => ?_) (.inl (.inr ⟨{ cls := .type "list", data := .seq vs.toArray }, if_pos rfl⟩)) (fun b u z => ?_) (fun b z => ?_) fun _ => hk
    · by_cases hb : b = a
      · exact .inr ⟨_, _, if_pos hb⟩
      · exact .inl (if_neg hb)
    · by_cases hb : b = a
      · have z' := (if_pos hb).symm.trans z
        cases z'
        subst hb
        exact ⟨ha, by rw [List.length_map]; exact hl, vs, _, rv, ha⟩
      · have z' := (if_neg hb).symm.trans z
        cases z'
    · by_cases hb : b = a
      · exact hb
      · exact absurd (if_neg hb) z
end L2

namespace L2
open PySem PySem.Spec PyProof.Rows

abbrev KOf {K : PySem.W.Frag} {h : Heap} (_ : K.In h) : PySem.W.Frag := K

/-- the goal that k_head leaves (case hc), from the law's promise. F gives the function object fd (K's own) once, then the promise over every base -/
theorem walk_of {l : PySem.W.OpenLaw} {n k : Nat} {q : Program} {loose : List Str} {XP : (Str → Option Value) → Heap → Prop} {YP : World → Heap → Prop} {d : DefRec} {K : Params → PySem.W.Frag} {CX : World → CXT} {sp : World → Sp} {x : Str}
    (hn : l.most = some n) (hn2 : n ≤ sizeLine) (hdf : d.params.defaults = []) (hr : Room k callerA)
    (hY : ∀ (w : World) (h : Heap), YP w h → (K w.params).In h)
    (F : ∀ (w : World) (mg : Str → Option Value) (fa : Addr) (h : Heap), (K w.params).In h → h.Ns mainGlobals mg → mg d.name = some (.ref fa) →
      ∃ fd : FuncData, (∀ (s : Shared) (u : Value), BindsTo s fd ⟨[u], []⟩ [(x, u)]) ∧
        ∀ base : Heap, (K w.params).In base → base.Ns mainGlobals mg → FnOk l.prog w (K w.params) mg base (CX w) k fa fd [x] (sp w))
    (hsp : ∀ (w : World) (H : Hp) (a : Addr) (ns : List Int), ns.length ≤ n → Only H → SqL (K w.params) H a (ns.map V.int) → sp w [.ref a] H (fun v _ => v = .bl true) fun _ _ _ => False)
    (hCX : ∀ (w : World) (H : Hp) (s : Shared) (e : Value) (s' : Shared), CX w [] H s (fun _ _ _ => False) e s' → False) :
    PySem.W.WalkO q loose XP YP l.row.toRowW d [] (fun f vs => PySem.call f vs) := by
  refine Att.attach_call hn hdf fun w s₀ s₁ mg mb fa o pm cd doc a vs ns G Y ho hd hcd hmg hobj hints hlen hg => ?_
  have KX := hY w _ Y
  obtain ⟨fd, hb, hF⟩ := F w mg fa _ KX G.T.g hmg
  exact law_call KX G.T.g G.T.b G.T.builtins G.T.nolimit hg hobj hints (Nat.le_trans hlen hn2) hr hF hb (fun H hO hS => hsp w H a ns hlen hO hS) fun H e s' => hCX w H s₁ e s'
end L2

/- THE LAST THEOREM (shape; LID, My.* are yours):
   My.Adr: a structure of the addresses that your layer names (classes, functions); My.Txt K t: a structure (Prop) of the equations over K;
   My.txt_mk : {K} {implicit addresses ..} (e1 : nsIn K mainGlobals "law" = some (some (.ref f))) (e2 : K.lookup f = some ⟨oc, od, .func (fnOf "law" "law" params body scope dV kV doc pm an cdv ct), sl⟩) (e3 : codeIn K cdv "law" = true) .. : ∃ t, My.Txt K t

set_option maxRecDepth 100000 in
set_option maxHeartbeats 0 in
theorem PySem.Challenge.cw_LID_holds : PySem.Challenge.rw_LID.Holds := by
  w_on; o_law; k_head; (case hw => w_witness2)
  k_fill
  refine L2.walk_of (l := PySem.Challenge.rw_LID) (n := 63) (k := 40) (x := "script") (CX := fun w => ..) (sp := fun _ => My.sp_law) rfl (by decide) rfl ⟨rfl, by decide, by decide⟩ (fun w h Y => PySem.W.kIn_of Y) ?F ?S ?C
  case F =>
    intro w mg fa h KX G hmg
    have T : ∃ t, My.Txt (L2.KOf KX) t := by
      dsimp only [L2.KOf]                          -- K must stand as «<heap const> w.params» for k_is
      refine' My.txt_mk ?e1 ?e2 ?e3 ..
      (case e1 => PySem.W.k_is)                    -- in the order: a name -> its address -> its object -> its parts
      (case e2 => PySem.W.k_is)
      ..
    obtain ⟨t, T⟩ := T
    have e0 := hmg.symm.trans (PySem.W.mg_of KX G T.law)
    cases e0                                       -- fa is the law's own address
    exact ⟨_, fun s u => .of_eq rfl, fun base kb nb => My.law_fn T kb nb⟩     -- if «.of_eq rfl» comes too early: refine' ⟨_, ?b, fun base kb nb => My.law_fn T kb nb⟩; exact fun s u => .of_eq rfl
  case S => exact fun w H a ns hl hO hS => ..
  case C => exact ..
(the tactic k_is has no namespace: write k_is) -/

/-! SHORT WORDS over the layer: a def of the text, its body, what a loop and a test want. -/
namespace L2
open PySem PySem.Spec PyProof.Rows

/-! ### the text by places -/
def defArgs (s : Stmt) : Arguments := match s with
  | .FunctionDef _ a _ _ _ _ _ _ _ _ => a
  | _ => { posonlyargs := [], args := [], vararg := none, kwonlyargs := [], kw_defaults := [], kwarg := none, defaults := [] }
def defBody (s : Stmt) : List Stmt := match s with
  | .FunctionDef _ _ b _ _ _ _ _ _ _ => b
  | _ => []
def defScope (s : Stmt) : Scope := match s with
  | .FunctionDef _ _ _ _ _ _ sc _ _ _ => sc
  | _ => { kind := .function, names := [], isGenerator := false, isCoroutine := false }

/-! ### no exception leaves a def -/
abbrev CX0 : CXT := fun _ _ _ _ _ _ => False
abbrev E0 : XK := fun _ _ _ => False
theorem pass0 {X : Cx} : Passes CX0 X E0 := fun _ _ _ _ _ _ _ h => h.elim

/-! ### a def (or method) of the text as it stands behind the top -/
structure Fun (K : PySem.W.Frag) (x qual : Str) (st : Stmt) (f : Addr) (fd : FuncData) : Prop where
  ex : ∃ (oc : Value) (od : Option Addr) (kV doc pm : Value) (an : Option Addr) (cdv ct : Value) (osl : Array (Option Value)),
    fd = PySem.W.fnOf x qual (defArgs st) (defBody st) (defScope st) .none kV doc pm an cdv ct ∧ K.lookup f = some ⟨oc, od, .func fd, osl⟩ ∧ PySem.W.codeIn K cdv qual = true
  kp : PySem.W.keepIn K (.ref f) = true
section
variable {P : Program} {w : World} {K : PySem.W.Frag} {mg : Str → Option Value} {base : Heap}
/-- THE RULE for a def: its body as a term of rules, and the reading of that term -/
theorem Fun.ok {x qual : Str} {st : Stmt} {f : Addr} {fd : FuncData} {N ps : List Str} {k : Nat} {sp : Sp} (F : Fun K x qual st f fd) (S : FnScope N ps (defScope st)) (len : ∀ vs H Q E, sp vs H Q E → vs.length = ps.length)
    (hbody : ∀ (cdv : Value) (A : Around) (outer : List Env) (s : Shared) (H : Hp) (vs : List V) (Q : VK) (E : XK), Room k (A.deeper (envOfC qual (defScope st) s.heap.objs.size f cdv)) → sp vs H Q E →
      ∃ t, PSs (cxOf CX0 P w K mg base N qual (defScope st) f cdv A outer s H E).nox (defBody st) t ∧ t { nx := fun _ H' => Q .non H', rt := Q } (start N vs) H) : FnOk P w K mg base CX0 (k + 1) f fd ps sp := by
  obtain ⟨oc, od, kV, doc, pm, an, cdv, ct, osl, rfl, lk, hcd⟩ := F.ex
  refine fn_of lk hcd S len fun A outer s H vs Q E hr hsp => ?_
  obtain ⟨t, h, q⟩ := hbody cdv A outer s H vs Q E hr hsp
  exact ⟨t, h.nox, q⟩
/-- how its arguments bind (no defaults): h is «fun _ _ _ _ _ _ us hl => match us, hl with | [_, _], _ => rfl», one _ a parameter -/
theorem Fun.binds {x qual : Str} {st : Stmt} {f : Addr} {fd : FuncData} {ps : List Str} (F : Fun K x qual st f fd)
    (h : ∀ (kV doc pm : Value) (an : Option Addr) (cdv ct : Value) (us : List Value), us.length = ps.length → bindArgs (PySem.W.fnOf x qual (defArgs st) (defBody st) (defScope st) .none kV doc pm an cdv ct) ⟨us, []⟩ = pure (ps.zip us)) : Binds K fd ps [] := by
  obtain ⟨oc, od, kV, doc, pm, an, cdv, ct, osl, rfl, lk, hcd⟩ := F.ex
  exact .all (h kV doc pm an cdv ct)
theorem fun_mk {x qual : Str} {st : Stmt} {f : Addr} {oc : Value} {od an : Option Addr} {osl : Array (Option Value)} {kV doc pm cdv ct : Value} (l : K.lookup f = some ⟨oc, od, .func (PySem.W.fnOf x qual (defArgs st) (defBody st) (defScope st) .none kV doc pm an cdv ct), osl⟩)
    (c : PySem.W.codeIn K cdv qual = true) (k : PySem.W.keepIn K (.ref f) = true) : Fun K x qual st f (PySem.W.fnOf x qual (defArgs st) (defBody st) (defScope st) .none kV doc pm an cdv ct) := ⟨⟨oc, od, kV, doc, pm, an, cdv, ct, osl, rfl, l, c⟩, k⟩
end
theorem hu_of {A : Around} {k : Nat} (hr : Room k A) : A.units + 1 < cLine := Nat.lt_of_le_of_lt (Nat.add_le_add_left (by decide : 1 ≤ 64) _) hr.units
/-! ### expressions in short: the name that stands in the i-th slot -/
section
variable {X : Cx}
theorem pv (i : Nat) {x : Str} {pos : Pos} (hN : X.N[i]? = some x := by rfl) (hv : Vis X.env.scope x := by first | exact Or.inl rfl | exact Or.inr (Or.inl rfl) | exact Or.inr (Or.inr rfl)) (hd : (x == ("__debug__" : Str)) = false := by decide)
    (hcd : (x == ("__classdict__" : Str)) = false := by decide) : PE X (.Name x pos) (tVar i) := pe_var hN hv hd hcd
end

/-! ### tests -/
theorem iteF {A B : Prop} (h : B) : if false = true then A else B := by
  rw [if_neg Bool.false_ne_true]
  exact h
theorem iteT {A B : Prop} (h : A) : if true = true then A else B := by
  rw [if_pos rfl]
  exact h
theorem ite2 {c A B : Prop} [Decidable c] (h1 : c → A) (h2 : ¬ c → B) : if c then A else B := by
  by_cases h : c
  · rw [if_pos h]
    exact h1 h
  · rw [if_neg h]
    exact h2 h
/-! ### heaps -/
/-- all that was tracked is as it was -/
def Same (H H' : Hp) : Prop := ∀ b o, H b = some o → H' b = some o
theorem Same.refl (H : Hp) : Same H H := fun _ _ h => h
theorem Same.trans {H H1 H2 : Hp} (a : Same H H1) (b : Same H1 H2) : Same H H2 := fun c o h => b c o (a c o h)
theorem Same.free {H H' : Hp} (e : Same H H') {l : Addr} (h : H' l = Option.none) : H l = Option.none := by
  cases q : H l with
  | none => rfl
  | some o =>
    rw [e l o q] at h
    cases h
theorem Same.seq {K : PySem.W.Frag} {H H' : Hp} {a : Addr} {xs : List V} (e : Same H H') (h : SqL K H a xs) : SqL K H' a xs := by
  rcases h with (h | ⟨o, h⟩) | h
  · exact .inl (.inl (e _ _ h))
  · exact .inl (.inr ⟨o, e _ _ h⟩)
  · exact .inr h

end L2

set_option Elab.async false
set_option linter.all false
set_option maxRecDepth 100000
set_option maxHeartbeats 4000000
namespace L2
open PySem PySem.Spec PyProof.Rows
/-! more operations: numbers of up to 200 figures, bit_length, is True, isinstance, == of tuples -/
def Fit (i : Int) : Prop := -(10 ^ 200) < i ∧ i < 10 ^ 200
theorem pow_bits : (10 : Nat) ^ 200 ≤ 2 ^ 700 := by decide +kernel
theorem Fit.nat {i : Int} (h : Fit i) : i.natAbs < 2 ^ 700 := by
  have h1 : i.natAbs < 10 ^ 200 := by
    obtain ⟨a, b⟩ := h
    omega
  exact Nat.lt_of_lt_of_le h1 pow_bits
theorem Fit.bits {i : Int} (h : Fit i) : Builtin.Int.intBits i ≤ 2 ^ 20 :=
  Nat.le_trans (PyProof.Rows.intBits_le h.nat) (by decide)
theorem Fit.log {i : Int} (h : Fit i) : i.natAbs.log2 < 9000 := by
  by_cases z : i.natAbs = 0
  · rw [z]; decide
  · have q := (Nat.log2_lt z).mpr h.nat
    omega
def CM (i j : Int) : Prop := CMul i j ∨ (Fit i ∧ Fit j)
theorem CM.ok {i j : Int} (h : CM i j) : IntMulOk i j := by
  rcases h with h | ⟨h1, h2⟩
  · exact h.ok
  · exact IntMulOk.of_bits h1.bits h2.bits
section
variable {X : Cx}
theorem op_mulB : OpR X (binaryOp .Mult) (rI CM fun i j => .int (i * j)) := opI fun _ _ _ _ _ _ _ hc q => mul_int q hc.ok
/-- // by a divisor above 0 -/
def CD (_ j : Int) : Prop := 0 < j ∧ Fit j
theorem op_fdivP : OpR X (binaryOp .FloorDiv) (rI CD fun i j => .int (i / j)) := opI fun i j _ _ _ _ _ hc q => by
  have h1 : (0 : Int) < j := hc.1
  exact floordiv_int (by omega) (by rw [Int.fdiv_eq_ediv_of_nonneg i (by omega)]; exact q) (.inl (PyProof.noPylong_of_log2 hc.2.log))
def CDN (_ j : Int) : Prop := j ≠ 0 ∧ Fit j
theorem op_fdivM : OpR X (binaryOp .FloorDiv) (rI CDN fun i j => .int (i.fdiv j)) := opI fun i j _ _ _ _ _ hc q =>
  floordiv_int hc.1 q (.inl (PyProof.noPylong_of_log2 hc.2.log))
/-- n.bit_length() -/
theorem mt_bits : MtR X "int.bit_length" (fun x xs H Q => ∃ i, x = .int i ∧ xs = [] ∧ Q (.int (Builtin.Int.intBits i : Nat)) H) := by
  intro pins s σ H x xs v us Q I rx rv h
  obtain ⟨i, rfl, rfl, q⟩ := h
  obtain ⟨t, rfl⟩ := rx
  cases rv
  exact call_gives F.slot_int_bit_length (typeIs_int s i t) F.entry_int_bit_length (F.args_int_bit_length_1 _) (AutoIntG2.int_bit_length_int_0 i t) ⟨.int _, H, I.tok _, ⟨_, rfl⟩, q⟩
theorem op_notB : OpR X (compareOp .IsNot) (fun x y H Q => ∃ b c, x = .bl b ∧ y = .bl c ∧ Q (.bl (!(b == c))) H) := by
  intro pins s σ H x y v u Q I rx ry h
  obtain ⟨b, c, rfl, rfl, q⟩ := h
  cases rx
  cases ry
  have e : (Value.bool b == Value.bool c) = (b == c) := by cases b <;> cases c <;> rfl
  exact wpAny_pure (show EP X pins σ Q (.bool (!(Value.bool b == Value.bool c))) s from by rw [e]; exact ⟨.bl _, H, I, rfl, q⟩)
/-! ### == of tuples of flat things -/
def eqL : List V → List V → Bool
  | [], [] => true
  | x :: xs, y :: ys => eqV x y && eqL xs ys
  | _, _ => false
def eqAtN (xs ys : List V) (j : Nat) : Bool := match xs[j]?, ys[j]? with
  | some x, some y => eqV x y
  | _, _ => false
theorem eqL_all : ∀ xs ys : List V, ((List.range (min xs.length ys.length)).all (eqAtN xs ys) && xs.length == ys.length) = eqL xs ys
  | [], [] => rfl
  | [], _ :: _ => by simp [eqL]
  | _ :: _, [] => by simp [eqL]
  | x :: xs, y :: ys => by
    have ih := eqL_all xs ys
    have e : min (x :: xs).length (y :: ys).length = min xs.length ys.length + 1 := by simp only [List.length_cons]; omega
    rw [e, List.range_succ_eq_map, List.all_cons, List.all_map]
    have f : (eqAtN (x :: xs) (y :: ys) ∘ Nat.succ) = eqAtN xs ys := by funext j; simp [eqAtN, Function.comp]
    rw [f]
    have g : ((x :: xs).length == (y :: ys).length) = (xs.length == ys.length) := by simp
    rw [g, Bool.and_assoc, ih]
    rfl
theorem eqL_int : ∀ ns ms : List Int, eqL (ns.map V.int) (ms.map V.int) = decide (ns = ms)
  | [], [] => rfl
  | [], _ :: _ => by simp [eqL]
  | _ :: _, [] => by simp [eqL]
  | n :: ns, m :: ms => by
    have ih := eqL_int ns ms
    simp only [List.map_cons, eqL, ih, eqV]
    by_cases h1 : n = m <;> by_cases h2 : ns = ms <;> simp [h1, h2]
theorem eq_items {A : Around} {s : Shared} {xs ys : List V} {us ws : List Value} (r1 : Vals xs us) (r2 : Vals ys ws) (f1 : xs.all flatV = true) (f2 : ys.all flatV = true) :
    ∀ j (h1 : j < us.toArray.size) (h2 : j < ws.toArray.size), SeqAt.EqAt A s us.toArray[j] ws.toArray[j] (eqAtN xs ys j) := by
  intro j h1 h2
  have l1 := r1.length
  have l2 := r2.length
  simp only [List.size_toArray] at h1 h2
  have g1 : xs[j]? = some xs[j] := List.getElem?_eq_getElem (by omega)
  have g2 : ys[j]? = some ys[j] := List.getElem?_eq_getElem (by omega)
  obtain ⟨u, e1, q1⟩ := r1.get g1
  obtain ⟨w, e2, q2⟩ := r2.get g2
  have e1' : us.toArray[j] = u := by
    have := List.getElem?_eq_getElem (l := us) h1
    rw [e1] at this
    simpa using (Option.some.inj this).symm
  have e2' : ws.toArray[j] = w := by
    have := List.getElem?_eq_getElem (l := ws) h2
    rw [e2] at this
    simpa using (Option.some.inj this).symm
  rw [e1', e2']
  have f1' : flatV xs[j] = true := List.all_eq_true.mp f1 _ (List.getElem_mem _)
  have f2' : flatV ys[j] = true := List.all_eq_true.mp f2 _ (List.getElem_mem _)
  have z : eqAtN xs ys j = eqV xs[j] ys[j] := by unfold eqAtN; rw [g1, g2]
  rw [z]
  exact eqAt_V q1 q2 f1' f2'
def rEqT (K : PySem.W.Frag) (neg : Bool) : R2 := fun x y H Q => ∃ a b xs ys, x = .ref a ∧ y = .ref b ∧ SqT K H a xs ∧ SqT K H b ys ∧ xs.all flatV = true ∧ ys.all flatV = true ∧ Q (.bl (if neg then !eqL xs ys else eqL xs ys)) H
theorem op_neT (hu : X.A.units + 1 < cLine) : OpR X (compareOp .NotEq) (rEqT X.K true) := by
  intro pins s σ H x y v u Q I rx ry h
  obtain ⟨a, b, xs, ys, rfl, rfl, ha, hb, f1, f2, q⟩ := h
  cases rx
  cases ry
  obtain ⟨its, r1, p1, _⟩ := I.tuple ha
  obtain ⟨its2, r2, p2, _⟩ := I.tuple hb
  refine SeqAt.RcNeAt.tuples (e := eqAtN xs ys) p1 p2 (by omega) (eq_items r1 r2 f1 f2) _ _ _ _ ⟨.bl _, H, I, rfl, ?_⟩
  rw [List.size_toArray, List.size_toArray, ← r1.length, ← r2.length, eqL_all]
  exact q
end
/-! ### isinstance -/
open PySem.W in
inductive TyX (K : PySem.W.Frag) (H : Hp) : V → Value → Prop where
  | of {x : V} {t : Value} (h : TyOf K H x t) : TyX K H x t
  | tup {a : Addr} {xs : List V} (h : SqT K H a xs) : TyX K H (.ref a) (.type "tuple")
  | lst {a : Addr} {xs : List V} (h : SqL K H a xs) : TyX K H (.ref a) (.type "list")
/-- the class that the second argument names -/
inductive ClsV : V → Value → Prop where
  | ty (T : String) : ClsV (.ty T) (.type T)
  | own (C : Addr) : ClsV (.ref C) (.ref C)
section
variable {X : Cx}
theorem call_isi : CallR X (.builtin "isinstance") (fun xs H Q => ∃ x c t cv b, xs = [x, c] ∧ ClsV c cv ∧ TyX X.K H x t ∧ PySem.W.kitOne X.K t cv = some b ∧ Q (.bl b) H) := by
  intro pins s σ H xs us Q I r h
  obtain ⟨x, c, t, cv, b, rfl, hc, ht, e, q⟩ := h
  obtain ⟨u, w', rfl, r1, r2⟩ := vals2 r
  have ec : w' = cv := by
    cases hc with
    | ty T => exact r2
    | own C => exact r2
  subst ec
  have fin : ∀ tk, EP X pins σ Q (.bool b) { s with toks := tk } := fun tk => ⟨.bl b, H, I.tok _, rfl, q⟩
  cases ht with
  | of h => exact isinst_ok I r1 h e fin
  | @tup a ys h =>
    cases r1
    obtain ⟨its, _, p, _⟩ := I.tuple h
    obtain ⟨o, h1, h2, _⟩ := p
    exact PySem.W.kia_one PySem.W.kitx_tuple I.kIn ⟨o, h1, h2⟩ e (fun z => nomatch z) fin
  | @lst a ys h =>
    cases r1
    obtain ⟨its, _, p, _⟩ := I.list h
    obtain ⟨o, h1, h2, _⟩ := p.isList
    exact PySem.W.kia_one PySem.W.kitx_list I.kIn ⟨o, h1, h2⟩ e (fun z => nomatch z) fin
end
end L2

set_option Elab.async false
set_option linter.all false
set_option maxRecDepth 100000
set_option maxHeartbeats 4000000
namespace L2
open PySem PySem.Spec PyProof.Rows
/-! an exception of the text's own class: raised, passing a def, taken by name -/
theorem ObjOk.is {P : Program} {w : World} {H : Hp} {h : Heap} {a : Addr} {o : HO} (x : ObjOk P w H h a o) : ∃ ob, h.get? a = some ob := by
  cases o with
  | lst xs => obtain ⟨_, _, _, _, e⟩ := x; exact ⟨_, e⟩
  | tup xs => obtain ⟨_, _, _, ob, e, _⟩ := x; exact ⟨ob, e⟩
  | dK kvs => obtain ⟨_, _, _, _, ob, _, _, e, _⟩ := x; exact ⟨ob, e⟩
  | dT kvs => obtain ⟨_, _, _, _, ob, _, _, e, _⟩ := x; exact ⟨ob, e⟩
  | set S n => obtain ⟨ob, _, _, _, e, _⟩ := x; exact ⟨ob, e⟩
  | ins C dx fs => obtain ⟨_, _, _, e, _⟩ := x; exact ⟨_, e⟩
  | own y => exact x
  | xd fs => obtain ⟨_, ⟨ob, _, _, e, _⟩, _⟩ := x; exact ⟨ob, e⟩
  | rng lo hi => obtain ⟨_, _, _, e⟩ := x; exact ⟨_, e⟩
  | frz ob u => exact ⟨ob, x.1⟩
  | tbl ps => exact ⟨_, (show h.get? a = some _ from x)⟩
  | met f y => exact ⟨_, (show h.get? a = some _ from x)⟩
  | ext φ => exact x.2.1
def CXE (P : Program) (w : World) : CXT := fun outer H s E e s' =>
  ∃ (a : Addr) (cls a0 : Value) (B : Heap) (H' : Hp), e = .ref a ∧ s'.os = s.os ∧ AllBare s'.gens ∧ Heap.FlyingW B outer a cls a0 s'.heap ∧
    Un (frs outer) [] H H' s.heap s'.heap ∧ HOk P w H' s'.heap ∧ (∀ b o, s.heap.get? b = some o → b ∉ frs outer → ∃ o', B.get? b = some o') ∧
    (∀ b u o, H' b = some u → s'.heap.get? b = some o → B.get? b = some o) ∧ E cls none H'
/-- what a def's context does with an exception that was made in it -/
def RaisesTo (X : Cx) (E : XK) : Prop := ∀ (pins : List (Addr × Obj)) (σ : St) (H : Hp) (s : Shared) (a : Addr) (cls : Value) (args : List Value) (h' : Heap),
  Inv X pins σ H s → Heap.MadeExcOf s.heap h' a cls args → E cls none H → X.xe (.ref a) { s with heap := h' }
section
variable {P : Program} {w : World} {K : PySem.W.Frag} {mg : Str → Option Value} {base : Heap} {N : List Str} {qual : Str} {scope : Scope} {f : Addr} {cd : Value} {A : Around} {outer : List Env} {s : Shared} {H : Hp} {E : XK}
theorem frs_cons {env : Env} {L : Addr} {l : List Env} (hf : env.frame = some L) : frs (env :: l) = L :: frs l := by
  unfold frs
  rw [List.filterMap_cons, hf]
theorem raises_cx : RaisesTo (cxOf (CXE P w) P w K mg base N qual scope f cd A outer s H E) E := by
  intro pins σ H1 s1 a cls args h' I hm hE
  have I' := I
  let env := envOfC qual scope s.heap.objs.size f cd
  have hL : env.frame = some s.heap.objs.size := rfl
  have fe : frs (env :: outer) = s.heap.objs.size :: frs outer := frs_cons hL
  have hst : s1.heap.FunFrames base (env :: outer) := I.stack
  have hin : ∀ e ∈ (env :: outer), ∀ b, e.frame = some b → b ∈ frs (env :: outer) := fun e he b hb => List.mem_filterMap.mpr ⟨e, he, hb⟩
  have inB : ∀ b o, s1.heap.get? b = some o → b ∉ frs (env :: outer) → (PySem.W.hideAll s1.heap (frs (env :: outer))).get? b = some o := fun b o e n => PySem.W.hideAll_get _ e n
  have old : ∀ b o, s.heap.get? b = some o → b ∉ frs outer → b ∉ frs (env :: outer) := fun b o e n => by
    rw [fe]
    intro z
    rcases List.mem_cons.mp z with z | z
    · rw [z] at e
      exact absurd (Heap.lt_size e) (Nat.lt_irrefl _)
    · exact n z
  have trk : ∀ b u, H1 b = some u → b ∉ frs (env :: outer) := fun b u e z => by
    have := I.stkFree b z
    rw [e] at this
    cases this
  show wpAny (model P w) (A.deeper env) (leaving env (.ref a)) _ _ _
  refine wpAny_leaves_madeW (h := s1.heap) (base := PySem.W.hideAll s1.heap (frs (env :: outer))) I.ok.frames hL (fun b o q => PySem.W.of_hideAll _ q) (PySem.W.funFrames_hide hst hin) hm fun h2 t fl _ _ up => ?_
  have st := fl.1
  refine ⟨a, cls, .ref t, _, H1, rfl, I.os, I.bare, fl, ⟨fun b o e n hb _ => ?_, fun b o e n hb _ => ?_, fun b o e n _ => I.base.free b o e n List.not_mem_nil, fun b o e _ => ?_, I.base.tups, I.base.frzs, I.base.tbls⟩, fun b u e => ?_, fun b o e hb => ?_, fun b u o e q => ?_, hE⟩
  · exact st b o (inB b o (I.base.keep b o e n hb List.not_mem_nil) (old b o e hb))
  · obtain ⟨sl, e1⟩ := I.base.slot b o e n hb List.not_mem_nil
    obtain ⟨_, o2, e2, nf⟩ := hst.mem (show b ∈ (env :: outer).filterMap (·.frame) by show b ∈ frs (env :: outer); rw [fe]; exact List.mem_cons_of_mem _ hb)
    rw [e1] at e2
    cases e2
    obtain ⟨sl2, e3⟩ := up b _ (hm.keeps _ _ e1) nf
    exact ⟨sl2, e3⟩
  · obtain ⟨o1, e1⟩ := I.base.there b o e List.not_mem_nil
    by_cases hb : b ∈ frs (env :: outer)
    · obtain ⟨_, o2, e2, nf⟩ := hst.mem (show b ∈ (env :: outer).filterMap (·.frame) from hb)
      obtain ⟨sl, e3⟩ := up b _ (hm.keeps _ _ e2) nf
      exact ⟨_, e3⟩
    · exact ⟨o1, st b o1 (inB b o1 e1 hb)⟩
  · refine (I.hok b u e).stay (fun c v hc q => ?_) (fun _ q => q) fun _ _ q => q
    refine st c v (inB c v q ?_)
    rcases hc with rfl | hc
    · exact trk c u e
    · exact trk c _ hc
  · obtain ⟨o1, e1⟩ := I.base.there b o e List.not_mem_nil
    exact ⟨o1, inB b o1 e1 (old b o e hb)⟩
  · obtain ⟨o1, e1⟩ := (I.hok b u e).is
    have e2 := inB b o1 e1 (trk b u e)
    have e3 := st b o1 e2
    rw [q] at e3
    cases e3
    exact e2
/-- an exception of a callee goes on out of the def -/
theorem passes_cx : Passes (CXE P w) (cxOf (CXE P w) P w K mg base N qual scope f cd A outer s H E) E := by
  intro pins σ H1 s1 e s2 I hc
  obtain ⟨a, cls, a0, B, H2, rfl, ho, hb, fl, un, hok, inB, trB, hE⟩ := hc
  let env := envOfC qual scope s.heap.objs.size f cd
  have hL : env.frame = some s.heap.objs.size := rfl
  have fe : frs (env :: outer) = s.heap.objs.size :: frs outer := frs_cons hL
  have hst : s1.heap.FunFrames base (env :: outer) := I.stack
  have old : ∀ b o, s.heap.get? b = some o → b ∉ frs outer → b ∉ frs (env :: outer) := fun b o e n => by
    rw [fe]
    intro z
    rcases List.mem_cons.mp z with z | z
    · rw [z] at e
      exact absurd (Heap.lt_size e) (Nat.lt_irrefl _)
    · exact n z
  have frUp : ∀ b o, b ∈ frs (env :: outer) → s1.heap.get? b = some o → ∃ sl, s2.heap.get? b = some { o with slots := sl } ∧ ∀ vs, o.data ≠ .fields vs := fun b o z e1 => by
    obtain ⟨_, o2, e2, nf⟩ := hst.mem (show b ∈ (env :: outer).filterMap (·.frame) from z)
    rw [e1] at e2
    cases e2
    obtain ⟨sl, e3⟩ := un.slot b o e1 (I.stkFree b z) z List.not_mem_nil
    exact ⟨sl, e3, nf⟩
  show wpAny (model P w) (A.deeper env) (leaving env (.ref a)) _ _ _
  refine wpAny_leaves_onW I.ok.frames hL fl fun h3 fl3 up => ?_
  have st := fl3.1
  have exB : ∀ b o, s1.heap.get? b = some o → H1 b = none → b ∉ frs (env :: outer) → B.get? b = some o := fun b o e n hb => by
    obtain ⟨o1, e1⟩ := inB b o e hb
    have e2 := fl.1 b o1 e1
    have e3 : s2.heap.get? b = some o := un.keep b o e n hb List.not_mem_nil
    rw [e2] at e3
    cases e3
    exact e1
  refine ⟨a, cls, a0, B, H2, rfl, ho.trans I.os, hb, fl3, ⟨fun b o e n hb _ => ?_, fun b o e n hb _ => ?_, fun b o e n _ => ?_, fun b o e _ => ?_, fun b xs q => un.tups b xs (I.base.tups b xs q), fun b ob xs q => un.frzs b ob xs (I.base.frzs b ob xs q), fun b ps q => ?_⟩, fun b u e => ?_, fun b o e hb => ?_, fun b u o e q => ?_, hE⟩
  · have e1 := I.base.keep b o e n hb List.not_mem_nil
    exact st b o (exB b o e1 (I.base.free b o e n List.not_mem_nil) (old b o e hb))
  · obtain ⟨sl, e1⟩ := I.base.slot b o e n hb List.not_mem_nil
    obtain ⟨sl2, e2, nf⟩ := frUp b _ (by rw [fe]; exact List.mem_cons_of_mem _ hb) e1
    obtain ⟨sl3, e3⟩ := up b _ e2 nf
    exact ⟨sl3, e3⟩
  · obtain ⟨o1, e1⟩ := I.base.there b o e List.not_mem_nil
    exact un.free b o1 e1 (I.base.free b o e n List.not_mem_nil) List.not_mem_nil
  · obtain ⟨o1, e1⟩ := I.base.there b o e List.not_mem_nil
    by_cases hb : b ∈ frs (env :: outer)
    · obtain ⟨sl2, e2, nf⟩ := frUp b o1 hb e1
      obtain ⟨sl3, e3⟩ := up b _ e2 nf
      exact ⟨_, e3⟩
    · obtain ⟨o2, e2⟩ := inB b o1 e1 hb
      exact ⟨o2, st b o2 e2⟩
  · obtain ⟨m1, e1⟩ := I.base.tbls b ps q
    obtain ⟨m2, e2⟩ := un.tbls b _ e1
    exact ⟨m1 ++ m2, by rw [e2, Array.append_assoc]⟩
  · refine (hok b u e).stay (fun c v hc q => ?_) (fun _ q => q) fun _ _ q => q
    refine st c v ?_
    rcases hc with rfl | hc
    · exact trB c u v e q
    · exact trB c _ v hc q
  · obtain ⟨o1, e1⟩ := I.base.there b o e List.not_mem_nil
    exact inB b o1 e1 (old b o e hb)
  · obtain ⟨o1, e1⟩ := (hok b u e).is
    have e2 := trB b u o1 e e1
    have e3 := st b o1 e2
    rw [q] at e3
    cases e3
    exact e2
end
/-! ### raise C("..") -/
theorem own_obj {K : PySem.W.Frag} {h : Heap} {C : Addr} {bmB : List Value} {newId : String} (X : K.In h) (q : PySem.W.excIn K C bmB newId = true) :
    ∃ bm N nm qn bs hdct sn sub ab col dd k0 k1 k2 k3 k5 mN, h.get? C = some (excClassObj nm qn C N bs bm hdct sn sub ab col dd k0 k1 k2 k3 k5 newId) ∧ h.Ns N mN ∧ mN "__init__" = none ∧ OwnTail h bmB bm := by
  unfold PySem.W.excIn at q
  split at q
  · rename_i dd cd sl ho
    split at q
    · rename_i C' bm k0 k1 k2 k3 n k5 hm hs
      simp only [Bool.and_eq_true, beq_iff_eq, Bool.not_eq_true'] at q
      obtain ⟨⟨⟨⟨⟨z1, z2⟩, hdel⟩, ht⟩, hok⟩, hni⟩ := q
      subst z1
      subst z2
      obtain ⟨nm, bs, mro, ns, qn, hd, sn, sub, ab, col, del⟩ := cd
      dsimp only at hm hdel hok hni
      subst hm
      subst hdel
      have hsl : sl = #[k0, k1, k2, k3, some (.builtin n), k5] := by
        obtain ⟨l⟩ := sl
        simp only at hs
        rw [hs]
      subst hsl
      exact ⟨bm, ns, nm, qn, bs, hd, sn, sub, ab, col, dd, k0, k1, k2, k3, k5, _, X _ _ ho, .of_isNs (PySem.W.isNs_of_in X hok), PySem.W.nsMap_none_of_in X hok hni, PySem.W.tail_of_in X ht⟩
    · cases q
  · cases q
section
variable {X : Cx} {x : Str} {C : Addr} {np cpos pos : Pos} {e0 : Expr} {es : List Expr} {t : TA} {bmB : List Value} {B newId initId : String} {E : XK}
def tRaise (C : Addr) (E : XK) (t : TA) : TS := fun _ σ H => t σ H fun vs H1 => vs.length ≤ sizeLine ∧ E (.ref C) none H1
theorem ps_raise (hx : RaisesTo X E) (hcalm : X.calm = true) (FB : ExcBaseFacts B newId initId bmB) (hg : Gl X x) (hm : X.mg x = some (.ref C)) (hex : PySem.W.excIn X.K C bmB newId = true) (ha : PA X (e0 :: es) t)
    (hdb : (x == ("__debug__" : Str)) = false := by decide) (he : starEach (e0 :: es) X.env = (false, eval e0 X.env) :: starEach es X.env := by rfl) (hpl : (backTo cpos (starEach es X.env)).any (·.1) = false := by rfl) :
    PS X (.Raise (some (.Call (.Name x np) (e0 :: es) [] cpos)) none pos) (tRaise C E t) := by
  intro pins s σ H D I h
  obtain ⟨bm, N, nm, qn, bs, hdct, sn, sub, ab, col, dd, k0, k1, k2, k3, k5, mN, hC, hN, hni, T⟩ := own_obj I.mod.kin hex
  refine wpAny_Raise_call_subT (C := C) (nm := nm) (q := qn) (N := N) (bs := bs) (bm := bm) (hdct := hdct) (sn := sn) (sub := sub) (ab := ab) (col := col) (dd := dd) (k0 := k0) (k1 := k1) (k2 := k2) (k3 := k3) (k5 := k5)
    FB (mN := mN) (T.hasType FB.hasBase) (I.ok.hd hcalm) (by rw [he]; show (false || (backTo cpos (starEach es X.env)).any (·.1)) = false; rw [hpl]; rfl) hni (ld_glob I hg hm ⟨rfl, ?_⟩ hdb)
  have hA := ha cpos pins s σ H _ I h
  rw [he] at hA ⊢
  refine Calls.evalArgs_plain (thn hA fun us s2 ⟨vs, H2, I2, r2, z, q2⟩ => ?_)
  exact ⟨rfl, by rw [← r2.length]; exact z, I2.bk _ _ hC, hN.keeps I2.bk, T.keeps I2.bk, fun h' a hm' => hx pins σ H2 s2 a _ _ h' I2 hm' q2⟩
end
end L2

set_option Elab.async false
set_option linter.all false
set_option maxRecDepth 100000
set_option maxHeartbeats 4000000
namespace L2
open PySem PySem.Spec PyProof.Rows
/-! ### try .. except C as e -/
def PassesS (CX : CXT) (X : Cx) (E : St → XK) : Prop := ∀ (pins : List (Addr × Obj)) (σ : St) (H : Hp) (s : Shared) (e : Value) (s' : Shared), Inv X pins σ H s → CX X.stack H s (E σ) e s' → X.xe e s'
def tCallS (sp : Sp) (dvs : List V) (E : St → XK) (t : TA) : TE := fun σ H Q => t σ H fun vs H1 => sp (vs ++ dvs) H1 Q (E σ)
section
variable {X : Cx} {CX : CXT} {k : Nat} {f C : Addr} {fd : FuncData} {ps : List Str} {sp : Sp} {dvs : List V} {ds : List Value} {E : St → XK} {x m : Str} {p pos apos : Pos} {e o : Expr} {es : List Expr} {ta : TE} {t : TA}
theorem run_fnS {pins : List (Addr × Obj)} {σ : St} {H : Hp} {s : Shared} {Q : VK} {us : List Value} {vs : List V} (F : FnOk X.prog X.w X.K X.mg X.base CX k f fd ps sp) (hr : Room k X.A) (hb : Binds X.K fd ps ds) (hd : Vals dvs ds) (hx : PassesS CX X E)
    (I : Inv X pins σ H s) (r : Vals vs us) (h : sp (vs ++ dvs) H Q (E σ)) : wpAny (model X.prog X.w) X.A (call (.ref f) us) (EP X pins σ Q) X.xe s := by
  have r2 : Vals (vs ++ dvs) (us ++ ds) := r.append hd
  have hl : (us ++ ds).length = ps.length := by rw [← r2.length]; exact F.len _ _ _ _ h
  refine wpAny_call (codeAny_mono (F.run X.A X.stack s H ⟨us, []⟩ (us ++ ds) (vs ++ dvs) Q (E σ) hr I.env0 (hb s us I.kIn hl) r2 h) fun r s' hq => ?_)
  cases r with
  | error e => exact hx pins σ H s e s' I hq
  | ok fl =>
    cases fl with
    | ret u => exact I.after hq
    | next => exact False.elim hq
    | brk => exact False.elim hq
    | cont => exact False.elim hq
theorem pe_callS (F : FnOk X.prog X.w X.K X.mg X.base CX k f fd ps sp) (hr : Room k X.A) (hg : Gl X x) (hm : X.mg x = some (.ref f)) (hk : PySem.W.keepIn X.K (.ref f) = true) (hb : Binds X.K fd ps ds) (hd : Vals dvs ds) (hx : PassesS CX X E)
    (ha : PA X (e :: es) t) (hdb : (x == ("__debug__" : Str)) = false := by decide) (he : starEach (e :: es) X.env = (false, eval e X.env) :: starEach es X.env := by rfl) (hpl : (backTo pos (starEach es X.env)).any (·.1) = false := by rfl) :
    PE X (.Call (.Name x p) (e :: es) [] pos) (tCallS sp dvs E t) := by
  intro pins s σ H Q I h
  refine wpAny_Call_Name_kw (ld_glob I hg hm ?_ hdb)
  refine PySem.W.callWith_K (h₀ := X.base) I.ok.mod.kin hk (thn (ha pos pins s σ H _ I h) fun us s1 ⟨vs, H1, I1, r, q⟩ => ⟨I1.kIn, ?_⟩) he hpl
  exact run_fnS F hr hb hd hx I1 r q
end
abbrev Cx.hnd (X : Cx) (a : Addr) : Cx := { X with A := X.A.mark (some (.ref a)), calm := false, xe := fun _ _ => False }
abbrev Cx.trying (X : Cx) (pn : List (Addr × Obj)) (xe : Value → Shared → Prop) : Cx := { X with pn := pn, xe := xe }
section
variable {X : Cx} {pins : List (Addr × Obj)} {σ : St} {H : Hp} {s : Shared}
theorem Cx.Ok.hnd (ok : X.Ok) (a : Addr) : (X.hnd a).Ok :=
  ⟨ok.mod, ok.kind, ok.glob, ok.blt, ok.above, ok.inj, ok.has, ok.cab, (fun z => by cases z), ok.frames, ok.stk, ok.exf, ok.bs, ok.bsz, ok.noex, ok.exfs, ok.funs, ok.frf⟩
theorem Inv.hnd (I : Inv X pins σ H s) (a : Addr) : Inv (X.hnd a) pins σ H s := ⟨I.ok.hnd a, I.os, I.bare, I.base, I.loc, I.cell, I.free, I.freeC, I.pin, I.hok, I.len⟩
theorem Inv.unhnd {a : Addr} (ok : X.Ok) (I : Inv (X.hnd a) pins σ H s) : Inv X pins σ H s := ⟨ok, I.os, I.bare, I.base, I.loc, I.cell, I.free, I.freeC, I.pin, I.hok, I.len⟩
theorem Cx.Ok.trying (ok : X.Ok) (pn : List (Addr × Obj)) (xe : Value → Shared → Prop) : (X.trying pn xe).Ok :=
  ⟨ok.mod, ok.kind, ok.glob, ok.blt, ok.above, ok.inj, ok.has, ok.cab, ok.hd, ok.frames, ok.stk, ok.exf, ok.bs, ok.bsz, ok.noex, ok.exfs, ok.funs, ok.frf⟩
theorem Inv.trying (I : Inv X pins σ H s) (xe : Value → Shared → Prop) : Inv (X.trying (X.pn ++ pins) xe) [] σ H s :=
  ⟨I.ok.trying _ _, I.os, I.bare, I.base, I.loc, I.cell, I.free, I.freeC, fun p hp => I.pin p (by simpa using hp), I.hok, I.len⟩
theorem Inv.untrying {pins' : List (Addr × Obj)} {xe : Value → Shared → Prop} (ok : X.Ok) (I : Inv (X.trying (X.pn ++ pins) xe) pins' σ H s) : Inv X pins σ H s :=
  ⟨ok, I.os, I.bare, I.base, I.loc, I.cell, I.free, I.freeC, fun p hp => I.pin p (List.mem_append_left _ hp), I.hok, I.len⟩
def excO (a : Addr) (cls : Value) : HO := .ext fun h => ∃ o, h.get? a = some o ∧ o.cls = cls
theorem caught_inv {H1 H2 : Hp} {s1 s2 : Shared} {a : Addr} {cls a0 : Value} {B h : Heap} (I : Inv X pins σ H1 s1) (ho : s2.os = s1.os) (hb : AllBare s2.gens) (un : Un (frs X.stack) [] H1 H2 s1.heap s2.heap) (hok : HOk X.prog X.w H2 s2.heap)
    (inB : ∀ b o, s1.heap.get? b = some o → b ∉ frs X.stack → ∃ o', B.get? b = some o') (trB : ∀ b u o, H2 b = some u → s2.heap.get? b = some o → B.get? b = some o)
    (st0 : B.StaysIn s2.heap) (fl : Heap.FlyingW B X.stack a cls a0 h) (up : s2.heap.UpToSlots h) : H2 a = none ∧ Inv X pins σ (upd H2 a (excO a cls)) { s2 with heap := h } := by
  have st := fl.1
  have nB := fl.2.1
  have na : H2 a = none := by
    cases q : H2 a with
    | none => rfl
    | some u =>
      obtain ⟨o, e⟩ := (hok a u q).is
      have := trB a u o q e
      rw [nB] at this
      cases this
  obtain ⟨oe, vs, he, hc, hd, _⟩ := fl.first
  have frUp : ∀ b o, b ∈ frs X.stack → s1.heap.get? b = some o → ∃ sl, h.get? b = some { o with slots := sl } ∧ ∀ vs, o.data ≠ .fields vs := fun b o z e1 => by
    obtain ⟨_, o2, e2, nf⟩ := I.stack.mem (show b ∈ X.stack.filterMap (·.frame) from z)
    rw [e1] at e2
    cases e2
    obtain ⟨sl, e3⟩ := un.slot b o e1 (I.stkFree b z) z (by simp)
    obtain ⟨sl2, e4⟩ := up b _ e3 nf
    exact ⟨sl2, e4, nf⟩
  have ex : ∀ b o, s1.heap.get? b = some o → H1 b = none → b ∉ frs X.stack → B.get? b = some o := fun b o e n hb => by
    obtain ⟨o1, e1⟩ := inB b o e hb
    have e2 := st0 b o1 e1
    have e3 : s2.heap.get? b = some o := un.keep b o e n hb (by simp)
    rw [e2] at e3
    cases e3
    exact e1
  have ne : ∀ b o, s1.heap.get? b = some o → b ≠ a := fun b o e z => by
    subst z
    by_cases hb : b ∈ frs X.stack
    · obtain ⟨sl, e2, nf⟩ := frUp b o hb e
      rw [he] at e2
      cases e2
      exact nf vs hd
    · obtain ⟨o', e'⟩ := inB b o e hb
      rw [nB] at e'
      cases e'
  refine ⟨na, I.call' (s' := { s2 with heap := h }) (ch := []) ho ⟨fun b o e n hb _ => ?_, fun b o e n hb _ => ?_, fun b o e n _ => ?_, fun b o e _ => ?_, fun b xs q => ?_, fun b ob xs q => ?_, fun b ps q => ?_⟩ (fun c u e => ?_) hb fun b z => absurd z (by simp)⟩
  · exact st b o (ex b o e n hb)
  · obtain ⟨sl, e2, _⟩ := frUp b o hb e
    exact ⟨sl, e2⟩
  · rw [upd_ne (ne b o e)]
    exact un.free b o e n (by simp)
  · by_cases hb : b ∈ frs X.stack
    · obtain ⟨sl, e2, _⟩ := frUp b o hb e
      exact ⟨_, e2⟩
    · obtain ⟨o', e'⟩ := inB b o e hb
      exact ⟨o', st b o' e'⟩
  · have z := un.tups b xs q
    rw [upd_ne (ne_of_none z na)]
    exact z
  · have z := un.frzs b ob xs q
    rw [upd_ne (ne_of_none z na)]
    exact z
  · obtain ⟨m, z⟩ := un.tbls b ps q
    exact ⟨m, by rw [upd_ne (ne_of_none z na)]; exact z⟩
  · by_cases hca : c = a
    · subst hca
      rw [upd_same] at e
      cases e
      exact ⟨⟨oe, he, hc⟩, ⟨oe, he⟩, fun h1 h2 ⟨o, e1, c1⟩ k => ⟨o, k o e1, c1⟩⟩
    · rw [upd_ne hca] at e
      refine (hok c u e).stay (fun d v hd' q => ?_) (fun d q => by rw [upd_ne (ne_of_none q na)]; exact q) fun d xs q => by rw [upd_ne (ne_of_none q na)]; exact q
      refine st d v ?_
      rcases hd' with rfl | hd'
      · exact trB d u v e q
      · exact trB d _ v hd' q
/-- the name goes behind the suite -/
theorem unname_ok {M : Model} {A : Around} {E : Value → Shared → Prop} {i : Nat} {n : Str} {pos : Pos} {Q : Unit → Shared → Prop} (I : Inv X pins σ H s) (hN : X.N.Nodup) (hi : X.N[i]? = some n) (hn : X.env.scope.names.lookup n = some .local)
    (h : ∀ s', Inv X pins (σ.set i none) H s' → Q () s') : wpAny M A (do bindName X.env n .none; unbindBehindTheSuite X.env n pos) Q E s := by
  obtain ⟨m, hns, hl⟩ := id I.loc
  have hcls : (X.env.scope.kind == .class || (X.env.scope.kind == .module && X.env.locals != X.env.globals)) = false := by rw [I.ok.kind]; rfl
  have hiσ : i < σ.length := by rw [I.len]; exact (List.getElem?_eq_some_iff.mp hi).1
  refine wpAny_nameGoes_keeps hn hns hcls fun h' v hn' hs => ?_
  have neL : ∀ b o, X.s₀.heap.get? b = some o → b ≠ X.env.locals := fun b o e => Nat.ne_of_lt (Nat.lt_of_lt_of_le (Heap.lt_size e) I.ok.above)
  refine h _ ⟨I.ok, I.os, I.bare, ⟨fun b o e n hb hx => ?_, fun b o e n hb hx => ?_, I.base.free, fun b o e hx => ?_, I.base.tups, I.base.frzs, I.base.tbls⟩, ⟨_, hn', fun j y v' e1 e2 e3 => ?_⟩, fun y c e => ?_, I.free, I.freeC, fun p hp => ?_, fun b ob e => ?_, by simpa using I.len⟩
  · exact (hs.2 b (neL b o e)).trans (I.base.keep b o e n hb hx)
  · obtain ⟨sl, e1⟩ := I.base.slot b o e n hb hx
    exact ⟨sl, (hs.2 b (neL b o e)).trans e1⟩
  · obtain ⟨o', e1⟩ := I.base.there b o e hx
    exact ⟨o', (hs.2 b (neL b o e)).trans e1⟩
  · by_cases hj : j = i
    · subst hj
      rw [List.getElem?_set_self hiσ] at e2
      cases e2
    · rw [List.getElem?_set_ne (Ne.symm hj)] at e2
      obtain ⟨u', r', q⟩ := hl j y v' e1 e2 e3
      refine ⟨u', r', ?_⟩
      rcases q with ⟨k, e⟩ | ⟨k, c, e, z⟩
      · refine .inl ⟨k, ?_⟩
        have : y ≠ n := fun e => hj (nodup_ix hN e1 (e ▸ hi))
        simp [this, e]
      · exact .inr ⟨k, c, e, z.sameBut hs (I.cne y c e)⟩
  · obtain ⟨w', z⟩ := I.cell y c e
    exact ⟨w', z.sameBut hs (I.cne y c e)⟩
  · obtain ⟨e, n, ne, nf, d⟩ := I.pin p hp
    exact ⟨(hs.2 p.1 ne).trans e, n, ne, nf, d⟩
  · refine (I.hok b ob e).stay (fun c w' hc q => (hs.2 c ?_).trans q) (fun _ q => q) fun _ _ q => q
    intro z
    rw [z] at hc
    rcases hc with hc | hc
    · rw [← hc, I.free] at e
      cases e
    · rw [I.free] at hc
      cases hc
end
def tTry (K : PySem.W.Frag) (cv : Value) (i : Nat) (E : St → XK) (tb ts : TS) : TS := fun D σ H => tb D σ H ∧ ∀ (σ' : St) (cls : Value) (H' : Hp) (a : Addr), E σ' cls none H' → H' a = none →
  PySem.W.exmOne K cls cv = some true ∧ ts { nx := fun σ2 H2 => D.nx (σ2.set i none) H2, rt := D.rt, bk := fun σ2 H2 => D.bk (σ2.set i none) H2, ct := fun σ2 H2 => D.ct (σ2.set i none) H2 } (σ'.set i (some (.ref a))) (upd H' a (excO a cls))
section
variable {X : Cx}
theorem ps_tryAs {x n : Str} {i : Nat} {np hpos pos : Pos} {cv : Value} {body suite : List Stmt} {b0 : Stmt} {E : St → XK} {tb ts : TS} (hN : X.N.Nodup) (hi : X.N[i]? = some n) (hn : X.env.scope.names.lookup n = some .local)
    (hg : Gl X x) (hm : X.mg x = some cv) (hb : ∀ pn xe, PassesS (CXE X.prog X.w) (X.trying pn xe) E → PSs (X.trying pn xe) body tb) (hs : ∀ a, PSs (X.hnd a) (b0 :: suite) ts)
    (hstk : X.stack = X.env :: X.outer := by rfl) (hfr : X.env.frame = some X.env.locals := by rfl) (hdb : (x == ("__debug__" : Str)) = false := by decide) :
    PS X (.Try body [.ExceptHandler (some (.Name x np)) (some n) (b0 :: suite) hpos] [] [] pos) (tTry X.K cv i E tb ts) := by
  intro pins s σ H D I h
  obtain ⟨h1, h2⟩ := h
  have hLn : Loc X.env.scope n := .inl hn
  refine wpAny_Try_except ?_
  let xe : Value → Shared → Prop := fun e s' => ∃ σ1 H1 s1, Inv X pins σ1 H1 s1 ∧ CXE X.prog X.w X.stack H1 s1 (E σ1) e s'
  have body' := hb (X.pn ++ pins) xe (fun pins' σ' H' s' e s'' I' c => ⟨σ', H', s', I'.untrying I.ok, c⟩) [] s σ H D (I.trying xe) h1
  refine wpAny_mono body' (fun f s1 q => ?_) fun e s2 q => ?_
  · cases f with
    | next =>
      obtain ⟨σ', H', I', q⟩ := q
      exact wpAny_execs_nil ⟨σ', H', I'.untrying I.ok, q⟩
    | brk => obtain ⟨σ', H', I', q⟩ := q; exact ⟨σ', H', I'.untrying I.ok, q⟩
    | cont => obtain ⟨σ', H', I', q⟩ := q; exact ⟨σ', H', I'.untrying I.ok, q⟩
    | ret u => obtain ⟨v, σ', H', I', r, q⟩ := q; exact ⟨v, σ', H', I'.untrying I.ok, r, q⟩
  · obtain ⟨σ1, H1, s1, I1, a, cls, a0, B, H2, rfl, ho, hbare, fl, un, hok, inB, trB, hE⟩ := q
    have fl' := fl
    rw [hstk] at fl'
    have frm : X.A.frames = some (X.env :: X.outer) := by rw [← hstk]; exact I.ok.frames
    refine wpAny_looks_onW frm hfr fl' fun h3 hheld up3 => ?_
    refine wpAny_landsW hheld fun h5 fl5 up5 => ?_
    have up5' := up3.trans up5
    have fl5' : Heap.FlyingW B X.stack a cls a0 h5 := by rw [hstk]; exact fl5
    obtain ⟨na, I5⟩ := caught_inv I1 ho hbare un hok inB trB fl.1 fl5' up5'
    obtain ⟨hmatch, hts⟩ := h2 σ1 cls H2 a hE na
    refine wpAny_handleBy_cons (codeAny_handlers_test (ld_glob (I5.hnd a) hg hm ?_ hdb)) (by intro q; cases q)
    obtain ⟨oe, hoe, hoc⟩ := fl5.there
    have LT : PySem.W.Looks (model X.prog X.w) h5 (typeOf (.ref a)) cls := hoc ▸ (PySem.W.Looks.ld hoe).andThen .now
    refine (PySem.W.exm_one I5.kIn LT hmatch).here (codeAny_handlers_suite_as ?_)
    refine lands_againW fl5 fun h6 fl6 up6 => ?_
    have fl6' : Heap.FlyingW B X.stack a cls a0 h6 := by rw [hstk]; exact fl6
    obtain ⟨_, I6⟩ := caught_inv I1 ho hbare un hok inB trB fl.1 fl6' (up5'.trans up6)
    refine store_ok I6 hN hi hLn (v := .ref a) rfl (fun s7 I7 => ?_) (.inr hn)
    refine wpAny_mono (hs a pins s7 _ _ _ (I7.hnd a) hts) (fun f s8 q => ?_) fun _ _ z => False.elim z
    cases f with
    | next =>
      obtain ⟨σ2, H3, I8, q⟩ := q
      exact unname_ok (I8.unhnd I.ok) hN hi hn fun s9 I9 => ⟨_, H3, I9, q⟩
    | brk =>
      obtain ⟨σ2, H3, I8, q⟩ := q
      exact unname_ok (I8.unhnd I.ok) hN hi hn fun s9 I9 => ⟨_, H3, I9, q⟩
    | cont =>
      obtain ⟨σ2, H3, I8, q⟩ := q
      exact unname_ok (I8.unhnd I.ok) hN hi hn fun s9 I9 => ⟨_, H3, I9, q⟩
    | ret u =>
      obtain ⟨v, σ2, H3, I8, r, q⟩ := q
      exact unname_ok (I8.unhnd I.ok) hN hi hn fun s9 I9 => ⟨v, _, H3, I9, r, q⟩
/-- isinstance(e, C) of a taken exception, where it is one -/
theorem call_isiE {K : PySem.W.Frag} (hK : X.K = K) : CallR X (.builtin "isinstance") (fun xs H Q => ∃ a cls c cv, xs = [.ref a, c] ∧ ClsV c cv ∧ H a = some (excO a cls) ∧ PySem.W.kitOne K cls cv = some true ∧ Q (.bl true) H) := by
  subst hK
  intro pins s σ H xs us Q I r h
  obtain ⟨a, cls, c, cv, rfl, hc, ha, e, q⟩ := h
  obtain ⟨u, w', rfl, r1, r2⟩ := vals2 r
  have ec : w' = cv := by
    cases hc with
    | ty T => exact r2
    | own C => exact r2
  subst ec
  cases r1
  obtain ⟨⟨o, ho, hcl⟩, _⟩ := I.hok a _ ha
  have LT : PySem.W.Looks (model X.prog X.w) s.heap (typeOf (.ref a)) cls := hcl ▸ (PySem.W.Looks.ld ho).andThen .now
  have fin : EP X pins σ Q (.bool true) s := ⟨.bl true, H, I, rfl, q⟩
  refine call_isinstance_of ?_
  unfold Builtin.«isinstance.nested»
  refine wpAny_bind (LT.here ?_)
  unfold PySem.W.kitOne at e
  by_cases z : (cls == w') = true
  · rw [if_pos z]
    repeat (first | refine wpAny_pure ?_ | refine wpAny_rule ?_ | refine wpAny_bind ?_)
    exact fin
  · rw [if_neg z] at e ⊢
    obtain ⟨hty, his, hsub⟩ := PySem.W.kit_cls (M := model X.prog X.w) I.kIn e
    refine wpAny_bind (hty.here ?_)
    rw [if_pos (by decide)]
    refine wpAny_bind (wpAny_bind (m := isType w') (his.here ?_))
    refine wpAny_bind (m := isInstance (.ref a) w') ((LT.andThen hsub).here ?_)
    exact wpAny_pure (a := true) (wpAny_pure fin)
end
end L2

set_option Elab.async false
set_option linter.all false
set_option maxRecDepth 100000
set_option maxHeartbeats 4000000
namespace L2
open PySem PySem.Spec PyProof.Rows
/-! ### [e for x in src] -/
section
variable {prog : Program} {w : World} {A : Around} {R : Result → Shared → Prop} {s : Shared}
theorem comp_loop {elt target iter : Expr} {scope : Scope} {pos : Pos} {it acc : Value} {env : Env} (J : Nat → Shared → Prop)
    (turn : ∀ n s, J n s → wpAny (model prog w) A (pyNext it) (fun r s1 => match r with
      | none => R (.ok .next) s1
      | some v => wpAny (model prog w) A (letOwnedTupleGo target it v) (fun _ s2 => wpAny (model prog w) A (assign target env v) (fun _ s3 => wpAny (model prog w) A (eval elt env) (fun x s4 =>
          wpAny (model prog w) A (call (.builtin "list.append") [acc, x]) (fun _ s5 => ∃ m, m < n ∧ J m s5) (fun _ _ => False) s4) (fun _ _ => False) s3) (fun _ _ => False) s2) (fun _ _ => False) s1) (fun _ _ => False) s)
    (n : Nat) (h : J n s) : codeAny (model prog w) A (.compLoop (.ListComp elt [⟨target, iter, [], 0⟩] scope pos) 0 it acc env) R s := by
  refine codeAny_loop rfl J (fun n s hI => ?_) n h
  show wpAny _ _ ((compTurn (.ListComp elt [⟨target, iter, [], 0⟩] scope pos) 0 it acc env).onRaise (fun x => do noteFrame x env; theTreesLotGoes x)) _ _ s
  refine wpAny_noted ?_
  rw [compTurn_list1]
  refine wpAny_bind (wpAny_standAt (wpAny_bind (wpAny_mono (turn n s hI) (fun r s1 h1 => ?_) fun _ _ z => False.elim z)))
  cases r with
  | none => exact wpAny_pure h1
  | some v =>
    refine wpAny_bind (wpAny_mono h1 (fun _ s2 h2 => ?_) fun _ _ z => False.elim z)
    refine wpAny_bind (wpAny_mono h2 (fun _ s3 h3 => ?_) fun _ _ z => False.elim z)
    refine wpAny_bind (wpAny_bind (wpAny_mono h3 (fun y s4 h4 => ?_) fun _ _ z => False.elim z))
    refine wpAny_bind (wpAny_mono h4 (fun _ s5 h5 => ?_) fun _ _ z => False.elim z)
    exact wpAny_pure (wpAny_pure ⟨rfl, h5⟩)
end
def compCx (X : Cx) (scope : Scope) (cl : List (Str × Addr)) (N : List Str) (C : Addr) (s0 : Shared) (H0 : Hp) (ex : List Addr) : Cx :=
  { X with N := N, env := compEnvC scope cl C X.env, s₀ := s0, H₀ := H0, outer := X.stack, stack := X.stack, ex := ex, fn := fun _ => false, pn := [], xe := fun _ _ => False }
/-- W: by the turn, a measure, what has been made, the heap -/
def CompW (J : It) (js : List Nat) (te : TE) (σ : St) (H : Hp) (Q : VK) : Prop := ∃ W : Nat → Nat → List V → Hp → Prop, (∃ m, W 0 m [] H) ∧ ∀ i m ys H2, W i m ys H2 →
  (J.stop i H2 ∧ ∀ d, H2 d = none → Q (.ref d) (upd H2 d (.lst ys))) ∨
  (J.go i H2 ∧ ys.length < sizeLine ∧ ∀ x H3, J.yld i H2 x H3 → te (some x :: js.map fun j => σ.getD j none) H3 fun y H4 => ∃ m', m' < m ∧ W (i + 1) m' (ys ++ [y]) H4)
def tComp (wi : TI) (js : List Nat) (te : TE) : TE := fun σ H Q => wi σ H fun J H1 => CompW J js te σ H1 Q
section
variable {X : Cx}
theorem lookup_relabel_free {env : Env} : ∀ {names : List (Str × NameKind)} {x : Str}, (names.map fun (n, k) => if (k == NameKind.free && env.scope.kind == .function && env.kindOf n == some .cell) then (n, NameKind.cell) else (n, k)).lookup x = some .cell →
    names.lookup x = some .cell ∨ names.lookup x = some .free
  | [], _, h => by simp at h
  | (n, k) :: r, x, h => by
    have ih := @lookup_relabel_free env r x
    rw [List.map_cons] at h
    by_cases hx : x = n
    · subst hx
      by_cases hc : (k == NameKind.free && env.scope.kind == .function && env.kindOf x == some .cell) = true
      · right
        simp only [Bool.and_eq_true, beq_iff_eq] at hc
        simp [List.lookup_cons, hc.1.1]
      · left
        simp only [hc, Bool.false_eq_true, if_false, List.lookup_cons, beq_self_eq_true] at h
        simp only [List.lookup_cons, beq_self_eq_true]
        exact h
    · have hb : (x == n) = false := by simpa using hx
      simp only [List.lookup_cons, hb]
      refine ih ?_
      by_cases hc : (k == NameKind.free && env.scope.kind == .function && env.kindOf n == some .cell) = true
      · simp only [hc, if_true, List.lookup_cons, hb] at h
        exact h
      · simp only [hc, Bool.false_eq_true, if_false, List.lookup_cons, hb] at h
        exact h
theorem lookup_relabel_free2 {env : Env} : ∀ {names : List (Str × NameKind)} {x : Str}, (names.map fun (n, k) => if (k == NameKind.free && env.scope.kind == .function && env.kindOf n == some .cell) then (n, NameKind.cell) else (n, k)).lookup x = some .free →
    names.lookup x = some .free
  | [], _, h => by simp at h
  | (n, k) :: r, x, h => by
    have ih := @lookup_relabel_free2 env r x
    rw [List.map_cons] at h
    by_cases hx : x = n
    · subst hx
      by_cases hc : (k == NameKind.free && env.scope.kind == .function && env.kindOf x == some .cell) = true
      · simp only [hc, if_true, List.lookup_cons, beq_self_eq_true] at h
        cases h
      · simp only [hc, Bool.false_eq_true, if_false, List.lookup_cons, beq_self_eq_true] at h
        simp only [List.lookup_cons, beq_self_eq_true]
        exact h
    · have hb : (x == n) = false := by simpa using hx
      simp only [List.lookup_cons, hb]
      refine ih ?_
      by_cases hc : (k == NameKind.free && env.scope.kind == .function && env.kindOf n == some .cell) = true
      · simp only [hc, if_true, List.lookup_cons, hb] at h
        exact h
      · simp only [hc, Bool.false_eq_true, if_false, List.lookup_cons, hb] at h
        exact h
/-- the closure's cells are the frame's -/
structure Clos (X : Cx) (scope : Scope) (cl : List (Str × Addr)) (fr : List Str) (js : List Nat) : Prop where
  clos : closureFor scope X.env = pure cl
  sub : ∀ y c, cl.lookup y = some c → X.env.cells.lookup y = some c
  has : ∀ y, scope.names.lookup y = some .free → ∃ c, cl.lookup y = some c
  at' : ∀ (j : Nat) (y : Str), fr[j]? = some y → ∃ i : Nat, js[j]? = some i ∧ X.N[i]? = some y ∧ X.env.scope.names.lookup y = some .cell ∧ scope.names.lookup y = some .free
  len : fr.length = js.length
theorem Clos.none {scope : Scope} (hfree : ∀ y ∈ scope.names, y.2 ≠ .free) : Clos X scope [] [] [] where
  clos := closureFor_none hfree
  sub := fun _ _ e => by simp at e
  has := fun y e => absurd rfl (hfree _ (PySem.mem_of_lookup e))
  at' := fun j y e => by simp at e
  len := rfl
theorem relabel_cell {scope : Scope} {env : Env} {y : Str} (hk : env.scope.kind = .function) (h : scope.names.lookup y = some .free) (hc : env.kindOf y = some .cell) : (relabel scope env).names.lookup y = some .cell := by
  unfold relabel
  show List.lookup y (scope.names.map _) = _
  generalize scope.names = names at h
  induction names with
  | nil => simp at h
  | cons p r ih =>
    obtain ⟨n, k⟩ := p
    rw [List.map_cons]
    by_cases hy : y = n
    · subst hy
      simp only [List.lookup_cons, beq_self_eq_true] at h
      cases h
      simp [List.lookup_cons, hk, hc]
    · have hb : (y == n) = false := by simpa using hy
      simp only [List.lookup_cons, hb] at h
      have := ih h
      by_cases hz : (k == NameKind.free && env.scope.kind == .function && env.kindOf n == some .cell) = true
      · simp only [hz, if_true, List.lookup_cons, hb]
        exact this
      · simp only [hz, Bool.false_eq_true, if_false, List.lookup_cons, hb]
        exact this
theorem pe_comp {elt iter : Expr} {x : Str} {px : Pos} {scope : Scope} {cl : List (Str × Addr)} {fr : List Str} {js : List Nat} {pos : Pos} {wi : TI} {te : TE} (hcalm : X.calm = true) (hC : Clos X scope cl fr js)
    (hcell : ∀ y ∈ scope.names, y.2 ≠ .cell) (hkind : scope.kind = .function) (hnames : ∀ y ∈ scope.names, y.2 = .local → scope.names.lookup y.1 = some .local) (hx : scope.names.lookup x = some .local) (hnd : (x :: fr).Nodup)
    (hi : PI X (.Name x px) iter wi) (helt : ∀ C s0 H0 ex, PE (compCx X scope cl (x :: fr) C s0 H0 ex) elt te) (hs : ∀ v, foldedSetIterable iter X.env v = pure v := by intro _; rfl) :
    PE X (.ListComp elt [⟨.Name x px, iter, [], 0⟩] scope pos) (tComp wi js te) := by
  intro pins s σ H Q I h
  rw [eval_ListComp]
  refine wpAny_comprehension_free (use := none) rfl hs hC.clos hkind hnames ?_
  refine thn (hi pins s σ H _ I h) fun v s1 h1 => thn h1 fun itv s2 h2 => ?_
  obtain ⟨it, fp, tn, J, H1, e, I2, T, st2, f2, W, ⟨m0, w0⟩, turn⟩ := h2
  subst e
  have fpIn : ∀ b ∈ fp, b < s2.heap.objs.size := fun b hb => by
    obtain ⟨o, e, _⟩ := T.obj _ _ st2 b hb
    exact Heap.lt_size e
  refine wpAny_newObj_type (wpAny_newFunctionEnv hcell (by intro y hy; simp at hy) (fun h1 hns1 hsb1 => ?_) hkind)
  dsimp only at hns1 hsb1 ⊢
  generalize hH2 : s2.heap.push { cls := .type "list", dict := none, data := .seq ([] : List Value).toArray } = G2 at hns1 hsb1 ⊢
  have hCe : G2.objs.size = s2.heap.objs.size + 1 := by rw [← hH2, Heap.size_push]
  have below : ∀ b, b < s2.heap.objs.size → b ≠ G2.objs.size ∧ b ≠ s2.heap.objs.size := fun b hb => ⟨by rw [hCe]; exact Nat.ne_of_lt (Nat.lt_succ_of_lt hb), Nat.ne_of_lt hb⟩
  have hDC : s2.heap.objs.size ≠ G2.objs.size := by rw [hCe]; exact Nat.ne_of_lt (Nat.lt_succ_self _)
  have old : ∀ b o, s2.heap.get? b = some o → h1.get? b = some o := fun b o e => hsb1.extBut b o (below b (Heap.lt_size e)).1 (Heap.get?_push_of_some _ (hH2 ▸ Heap.get?_push_of_some _ e))
  have hacc : h1.get? s2.heap.objs.size = some { cls := .type "list", data := .seq ([] : List Value).toArray } := hsb1.extBut _ _ hDC (Heap.get?_push_of_some _ (hH2 ▸ Heap.get?_push_size _ rfl))
  -- the block's context
  let Y := compCx X scope cl (x :: fr) G2.objs.size s2 H1 fp
  have fs_sub : ∀ b ∈ fp, b ∉ frs X.stack := fun b hb z => by
    obtain ⟨_, q1, q2, _⟩ := f2 b hb
    rcases List.mem_cons.mp (I2.stkSub b z) with z | z
    · exact q1 z
    · exact q2 z
  have hkf : X.env.scope.kind = .function := I.ok.kind
  have okY : Y.Ok := by
    refine ⟨I2.ok.mod, ?_, I2.ok.glob, I2.ok.blt, ?_, fun y z c e1 e2 => I2.ok.inj y z c (hC.sub y c e1) (hC.sub z c e2), fun y hy => ?_, fun y c hf => (by cases hf), I2.ok.hd, I2.ok.frames, .inl rfl, fun b hb => ⟨(below b (fpIn b hb)).1, fun y c e => (f2 b hb).2.2.2.2.1 y c (hC.sub y c e)⟩,
      I2.bs, Nat.le_trans I2.ok.bsz I2.sz, fun b o e hb => ?_, fs_sub, I2.stack, I2.stkFree⟩
    · show (relabel scope X.env).kind = .function
      exact hkind
    · show s2.heap.objs.size ≤ G2.objs.size
      omega
    · have hy' : (relabel scope X.env).names.lookup y = some .cell ∨ (relabel scope X.env).names.lookup y = some .free := hy
      rcases hy' with q | q
      · rcases lookup_relabel_free q with q | q
        · exact absurd rfl (hcell _ (PySem.mem_of_lookup q))
        · exact hC.has y q
      · exact hC.has y (lookup_relabel_free2 q)
    · obtain ⟨_, _, _, q3, _⟩ := f2 b hb
      rcases q3 with q3 | q3
      · exact I2.ok.noex b o e q3
      · exact absurd (Nat.lt_of_lt_of_le (Heap.lt_size e) (Nat.le_trans I2.ok.bsz q3)) (Nat.lt_irrefl _)
  have fpY : ∀ {pn : List (Addr × Obj)} {G : Hp}, (∀ b ∈ fp, G b = none) → (∀ p ∈ pn, p.1 ∉ fp) → ∀ b ∈ fp, FpOk Y pn G b := fun {pn G} hG hp b hb =>
    ⟨hG b hb, (below b (fpIn b hb)).1, fs_sub b hb, .inl hb, fun y c e => (f2 b hb).2.2.2.2.1 y c (hC.sub y c e), fun p hq z => hp p (show p ∈ ([] : List (Addr × Obj)) ++ pn from hq) (z ▸ hb)⟩
  let D := s2.heap.objs.size
  have hDf : D ∉ fp := fun z => Nat.lt_irrefl _ (fpIn D z)
  have hDs : D ∉ frs X.stack := fun z => by
    obtain ⟨_, o, e, _⟩ := I2.stack.mem (show D ∈ X.stack.filterMap (·.frame) from z)
    exact absurd (Heap.lt_size e) (Nat.lt_irrefl _)
  -- the frame's part of the state that the block reads
  have frL : ∀ (j : Nat) (y : Str) (v : V), fr[j]? = some y → (js.map fun j => σ.getD j none)[j]? = some (some v) → ∃ c u, cl.lookup y = some c ∧ RelV v u ∧ s2.heap.IsCell c (some u) ∧ (relabel scope X.env).names.lookup y = some .cell := fun j y v e1 e2 => by
    obtain ⟨i, g1, g2, g3, g4⟩ := hC.at' j y e1
    rw [List.getElem?_map, g1] at e2
    have e2' : σ.getD i none = some v := Option.some.inj e2
    have e3 : σ[i]? = some (some v) := by
      rw [List.getD_eq_getElem?_getD] at e2'
      cases q : σ[i]? with
      | none => rw [q] at e2'; cases e2'
      | some z => rw [q] at e2'; exact congrArg some e2'
    obtain ⟨m, hn, hl⟩ := I2.loc
    obtain ⟨u, r, lk⟩ := hl i y v g2 e3 (.inr (.inl g3))
    obtain ⟨c, ec⟩ := hC.has y g4
    rcases lk with ⟨k, _⟩ | ⟨_, c', ec', z⟩
    · have k' : X.env.scope.names.lookup y = some .local := k
      rw [g3] at k'
      cases k'
    · have := hC.sub y c ec
      rw [ec'] at this
      cases this
      exact ⟨_, u, ec, r, z, relabel_cell hkf g4 g3⟩
  have cellIn : ∀ y c, cl.lookup y = some c → ∃ v, s2.heap.IsCell c v := fun y c e => I2.cell y c (hC.sub y c e)
  have cellFree : ∀ y c, cl.lookup y = some c → H1 c = none := fun y c e => I2.freeC y c (hC.sub y c e)
  have cellOut : ∀ y c, cl.lookup y = some c → c ∉ fp := fun y c e z => (f2 c z).2.2.2.2.1 y c (hC.sub y c e) rfl
  have pins0 : ∀ (its : List Value) (k : Nat) (G : Hp) (hh : Heap), hh.get? D = some { cls := .type "list", data := .seq its.toArray k } → G D = none → ∀ p ∈ Y.pn ++ [(D, ({ cls := .type "list", data := .seq its.toArray k } : Obj))],
      hh.get? p.1 = some p.2 ∧ G p.1 = none ∧ p.1 ≠ Y.env.locals ∧ p.1 ∉ Y.fs ∧ ∀ v, p.2.data ≠ .cell v := fun its k G hh e n p hp => by
    have hp' : p = (D, ({ cls := .type "list", data := .seq its.toArray k } : Obj)) := by simpa [Y, compCx] using hp
    subst hp'
    exact ⟨e, n, hDC, hDs, fun v z => by cases z⟩
  -- the loop
  have loop : ∀ s3 : Shared, s3 = { s2 with heap := h1, toks := s2.toks + ([] : List (Str × Value)).length } →
      codeAny (model X.prog X.w) X.A (.compLoop (.ListComp elt [⟨.Name x px, iter, [], 0⟩] scope pos) 0 (.ref it) (.ref D) (compEnvC scope cl G2.objs.size X.env)) (compPost (model X.prog X.w) X.A X.xe Option.none (EP X pins σ Q) (.ref D) G2.objs.size) s3 := by
    rintro s3 rfl
    refine comp_loop (fun n s' => ∃ i ys its k H2 σc, Inv Y [(D, ({ cls := .type "list", data := .seq its.toArray k } : Obj))] σc H2 s' ∧ σc.drop 1 = (js.map fun j => σ.getD j none) ∧ tn i s'.heap ∧ (∀ b ∈ fp, H2 b = none) ∧ Vals ys its ∧ ys.length ≤ sizeLine ∧ W i n ys H2) ?_ m0 ?_
    · rintro n s' ⟨i, ys, its, k, H2, σc, I3, hσ, st3, fr3, rv, hz, w3⟩
      have hp3 : ∀ p ∈ [(D, ({ cls := .type "list", data := .seq its.toArray k } : Obj))], p.1 ∉ fp := fun p hp => by
        have hp' : p = (D, ({ cls := .type "list", data := .seq its.toArray k } : Obj)) := by simpa using hp
        subst hp'
        exact hDf
      rcases turn i n ys H2 w3 with ⟨stop, qn⟩ | ⟨go, hlt, step⟩
      · refine thn (T.done Y rfl rfl rfl hcalm i _ s' σc H2 _ I3 (fpY fr3 hp3) st3 stop) fun r s4 ⟨hr, I4⟩ => ?_
        subst hr
        obtain ⟨m4, hn4, _⟩ := I4.loc
        refine ⟨m4, hn4, fun h5 sb5 => ?_⟩
        have hd4 := I4.pin (D, ({ cls := .type "list", data := .seq its.toArray k } : Obj)) (by simp)
        have hd5 : h5.get? D = some { cls := .type "list", data := .seq its.toArray k } := (sb5.2 D hDC).trans hd4.1
        have nD : H2 D = Option.none := hd4.2.1
        have nC : H2 G2.objs.size = Option.none := I4.free
        have un4 : Un (frs X.stack) fp H1 H2 s2.heap s4.heap := I4.base
        have I5 : Inv X pins σ (upd H2 D (.lst ys)) { s4 with heap := h5 } := by
          refine I2.call' (s' := { s4 with heap := h5 }) (ch := fp) I4.os ⟨fun b o e n hb hx => ?_, fun b o e n hb hx => ?_, fun b o e n hx => ?_, fun b o e hx => ?_, fun b xs q => ?_, fun b ob xs q => ?_, fun b ps q => ?_⟩ (fun b u e => ?_) I4.bare fun b hb => ?_
          · exact (sb5.2 b (below b (Heap.lt_size e)).1).trans (un4.keep b o e n hb hx)
          · obtain ⟨sl, e1⟩ := un4.slot b o e n hb hx
            exact ⟨sl, (sb5.2 b (below b (Heap.lt_size e)).1).trans e1⟩
          · rw [upd_ne (below b (Heap.lt_size e)).2]
            exact un4.free b o e n hx
          · obtain ⟨o', e1⟩ := un4.there b o e hx
            exact ⟨o', (sb5.2 b (below b (Heap.lt_size e)).1).trans e1⟩
          · have z := un4.tups b xs q
            rw [upd_ne (ne_of_none z nD)]
            exact z
          · have z := un4.frzs b ob xs q
            rw [upd_ne (ne_of_none z nD)]
            exact z
          · obtain ⟨m, z⟩ := un4.tbls b ps q
            exact ⟨m, by rw [upd_ne (ne_of_none z nD)]; exact z⟩
          · by_cases hbD : b = D
            · subst hbD
              rw [upd_same] at e
              cases e
              exact ⟨hz, its, k, rv, hd5⟩
            · rw [upd_ne hbD] at e
              refine (I4.hok b u e).stay (fun c v hc q => (sb5.2 c ?_).trans q) (fun c q => by rw [upd_ne (ne_of_none q nD)]; exact q) fun c xs q => by rw [upd_ne (ne_of_none q nD)]; exact q
              intro z
              rw [z] at hc
              rcases hc with hc | hc
              · rw [← hc, nC] at e
                cases e
              · rw [nC] at hc
                cases hc
          · obtain ⟨_, q1, _, q3, q4, q5⟩ := f2 b hb
            exact ⟨q3, q1, q4, q5⟩
        exact ⟨.ref D, _, I5, rfl, qn D nD⟩
      · refine thn (T.item Y rfl rfl rfl hcalm i _ s' σc H2 _ I3 (fpY fr3 hp3) st3 go) fun r s4 ⟨u, hr, h4⟩ => ?_
        subst hr
        refine thn h4 fun _ s5 ⟨xv, H3, I5, r5, y5, st5, fr5⟩ => ?_
        have I5' : Inv Y ([(D, ({ cls := .type "list", data := .seq its.toArray k } : Obj))] ++ pinsAt fp s5.heap) σc H3 s5 := I5.pinned (fpY fr5 hp3) (T.obj _ _ st5)
        have hloc : Y.env.scope.names.lookup x = some .local := lookup_relabel_local hx
        refine wpAny_assign_Name (store_ok (i := 0) I5' hnd rfl (.inl hloc) r5 (fun s6 I6 => ?_) (.inr hloc))
        have eσ : σc.set 0 (some xv) = some xv :: js.map fun j => σ.getD j none := by
          have hl := I3.len
          cases σc with
          | nil => simp [Y, compCx] at hl
          | cons a r =>
            have hσ' : r = js.map fun j => σ.getD j none := hσ
            rw [List.set_cons_zero, hσ']
        rw [eσ] at I6
        refine thn (helt G2.objs.size s2 H1 fp _ s6 _ H3 _ I6 (step xv H3 y5)) fun yv s7 ⟨y, H4, I7, r7, m', hm, w7⟩ => ?_
        have pD := I7.pin (D, ({ cls := .type "list", data := .seq its.toArray k } : Obj)) (by simp)
        have hlen := rv.length
        refine call_meets F.slot_list_append ⟨_, pD.1, rfl⟩ F.entry_list_append (F.args_list_append_2 _ _) (PySem.list_append D its.toArray k yv (by rw [List.size_toArray]; omega)) ⟨pD.1, ?_⟩
        have e8 := PySem.IsL.update pD.1 (·.push yv)
        have I7' : Inv Y [] _ H4 s7 := I7.pins_of fun p hp => absurd hp (by simp)
        have fp7 : ∀ b ∈ fp, ∀ o, s5.heap.get? b = some o → s7.heap.get? b = some o ∧ H4 b = Option.none := fun b hb o e => by
          have q := I7.pin (b, o) (List.mem_append_right _ (List.mem_append_right _ (mem_pinsAt hb e)))
          exact ⟨q.1, q.2.1⟩
        have kp : ∀ b u, b ≠ D → s7.heap.get? b = some u → (s7.heap.update D (Obj.mapSeq (·.push yv))).get? b = some u := fun b u hb q => (Heap.get?_update_other _ _ (Ne.symm hb)).trans q
        have I8 : Inv Y [] _ H4 { s7 with heap := s7.heap.update D (Obj.mapSeq (·.push yv)) } := I7'.turned (t' := s7.toks) (it := D) (fun b o hb e => kp b o hb e) pD.2.1 hDC (.inr (Nat.le_refl _)) (fun z c e q => by
          obtain ⟨v, o, ho, hd⟩ := cellIn z c e
          rw [q] at ho
          exact absurd (Heap.lt_size ho) (Nat.lt_irrefl _)) (fun p hp => absurd hp (by simp [Y, compCx]))
        refine ⟨m', hm, i + 1, ys ++ [y], its ++ [yv], k + 1, H4, _, I8.pins_of fun p hp => ?_, rfl, ?_, fun b hb => ?_, rv.append (.cons r7 .nil), ?_, w7⟩
        · exact pins0 (its ++ [yv]) _ H4 _ (by rw [e8]; simp) pD.2.1 p (List.mem_append_right _ hp)
        · refine T.keep _ _ _ st5 fun b hb o e => ?_
          exact kp b o (fun z => hDf (z ▸ hb)) (fp7 b hb o e).1
        · obtain ⟨o, e, _⟩ := T.obj _ _ st5 b hb
          exact (fp7 b hb o e).2
        · rw [List.length_append, List.length_singleton]
          omega
    · refine ⟨0, [], [], 0, H1, Option.none :: js.map (fun j => σ.getD j none), ?_, rfl, ?_, fun b hb => (f2 b hb).1, .nil, Nat.zero_le _, w0⟩
      · refine ⟨okY, rfl, I2.bare, Un.kept old, ⟨_, hns1, fun j y v e1 e2 e3 => ?_⟩, fun y c e => ?_, I2.hok.fresh (by show s2.heap.objs.size ≤ G2.objs.size; omega), cellFree, pins0 [] 0 H1 h1 hacc (I2.hok.fresh (Nat.le_refl _)), I2.hok.kept old, ?_⟩
        · cases j with
          | zero => cases e2
          | succ j =>
            have e1' : fr[j]? = some y := e1
            have e2' : (js.map fun j => σ.getD j none)[j]? = some (some v) := e2
            obtain ⟨c, u, ec, r, ⟨o, ho, hd⟩, hk⟩ := frL j y v e1' e2'
            exact ⟨u, r, .inr ⟨.inl hk, c, ec, o, old c o ho, hd⟩⟩
        · obtain ⟨v, o, ho, hd⟩ := cellIn y c e
          exact ⟨v, o, old c o ho, hd⟩
        · show (Option.none :: js.map (fun j => σ.getD j none)).length = (x :: fr).length
          simp [hC.len]
      · exact T.keep _ _ _ st2 fun b hb o e => old b o e
  exact codeAny_compStart_list (loop _ rfl) (T.self X.A 0 _ _ _ (T.keep _ _ _ st2 fun b hb o e => old b o e) (loop _ rfl))
/-! ### all(xs), any(xs): a list or tuple of truths -/
theorem boolAt {ys : List V} {bs : List Bool} {its : List Value} (e : ys = bs.map V.bl) (r : Vals ys its) : its = bs.map Value.bool := by
  subst e
  induction bs generalizing its with
  | nil => cases r; rfl
  | cons b bs ih =>
    rw [List.map_cons] at r
    cases r with
    | cons r1 r2 =>
      cases r1
      rw [ih r2, List.map_cons]
theorem truth_bools {prog : Program} {w : World} {A : Around} (bs : List Bool) : TruthOf prog w A (fun i v => (bs.map Value.bool).toArray[i]? = some v) (fun i => bs.getD i false) := by
  intro i v s Q E hv hq
  have hv' : (bs.map Value.bool)[i]? = some v := by simpa using hv
  rw [List.getElem?_map] at hv'
  cases e : bs[i]? with
  | none => rw [e] at hv'; cases hv'
  | some b =>
    rw [e] at hv'
    have : Value.bool b = v := Option.some.inj hv'
    subst this
    have e2 : bs.getD i false = b := by rw [List.getD_eq_getElem?_getD, e]; rfl
    have hq' : Q (bs.getD i false) s := hq
    rw [e2] at hq'
    exact wpAny_truthy_bool hq'
theorem range_all (bs : List Bool) : (List.range bs.length).all (fun i => bs.getD i false) = bs.all id := by
  rw [Bool.eq_iff_iff, List.all_eq_true, List.all_eq_true]
  constructor
  · intro h b hb
    obtain ⟨i, hi, rfl⟩ := List.getElem_of_mem hb
    have := h i (List.mem_range.mpr hi)
    rw [List.getD_eq_getElem?_getD, List.getElem?_eq_getElem hi] at this
    exact this
  · intro h i hi
    have hi' := List.mem_range.mp hi
    rw [List.getD_eq_getElem?_getD, List.getElem?_eq_getElem hi']
    exact h _ (List.getElem_mem hi')
theorem range_any (bs : List Bool) : (List.range bs.length).any (fun i => bs.getD i false) = bs.any id := by
  rw [Bool.eq_iff_iff, List.any_eq_true, List.any_eq_true]
  constructor
  · rintro ⟨i, hi, h⟩
    have hi' := List.mem_range.mp hi
    rw [List.getD_eq_getElem?_getD, List.getElem?_eq_getElem hi'] at h
    exact ⟨_, List.getElem_mem hi', h⟩
  · rintro ⟨b, hb, h⟩
    obtain ⟨i, hi, rfl⟩ := List.getElem_of_mem hb
    refine ⟨i, List.mem_range.mpr hi, ?_⟩
    rw [List.getD_eq_getElem?_getD, List.getElem?_eq_getElem hi]
    exact h
theorem call_allL (hc : X.calm = true) : CallR X (.builtin "all") (fun xs H Q => ∃ (a : Addr) (bs : List Bool), xs = [.ref a] ∧ SqL X.K H a (bs.map V.bl) ∧ Q (.bl (bs.all id)) H) := by
  intro pins s σ H xs us Q I r h
  obtain ⟨a, bs, rfl, ha, q⟩ := h
  obtain ⟨u, rfl, ru⟩ := vals1 r
  cases ru
  obtain ⟨its, rv, p, hz⟩ := I.list ha
  have ei := boolAt rfl rv
  subst ei
  refine call_all_walk (wpAny_pyIter_list p.isList ?_)
  have hne : a ≠ s.heap.objs.size := fun e => by
    obtain ⟨o, ho, _⟩ := p.isList
    rw [e] at ho
    exact absurd (Heap.lt_size ho) (Nat.lt_irrefl _)
  have W := Walks.list (prog := X.prog) (w := X.w) (A := X.A.in1) (I.ok.hd hc) s.heap.objs.size a hne (bs.map Value.bool).toArray
  refine ⟨_, _, _, _, _, _, _, rfl, W, ⟨⟨_, Heap.get?_push_size _ rfl, rfl, rfl⟩, (let ⟨o, e, r⟩ := p.isList; ⟨o, Heap.get?_push_of_some _ e, r⟩)⟩, truth_bools bs, fun h' tk k => ?_⟩
  · have e : (bs.map Value.bool).toArray.size = bs.length := by simp
    rw [e, range_all]
    refine ⟨.bl _, H, I.kept fun b o z => k b o ?_ (Heap.get?_push_of_some _ z), rfl, q⟩
    intro m
    rw [List.mem_singleton] at m
    rw [m] at z
    exact absurd (Heap.lt_size z) (Nat.lt_irrefl _)
theorem call_anyL (hc : X.calm = true) : CallR X (.builtin "any") (fun xs H Q => ∃ (a : Addr) (bs : List Bool), xs = [.ref a] ∧ SqL X.K H a (bs.map V.bl) ∧ Q (.bl (bs.any id)) H) := by
  intro pins s σ H xs us Q I r h
  obtain ⟨a, bs, rfl, ha, q⟩ := h
  obtain ⟨u, rfl, ru⟩ := vals1 r
  cases ru
  obtain ⟨its, rv, p, hz⟩ := I.list ha
  have ei := boolAt rfl rv
  subst ei
  refine call_any_walk (wpAny_pyIter_list p.isList ?_)
  have hne : a ≠ s.heap.objs.size := fun e => by
    obtain ⟨o, ho, _⟩ := p.isList
    rw [e] at ho
    exact absurd (Heap.lt_size ho) (Nat.lt_irrefl _)
  have W := Walks.list (prog := X.prog) (w := X.w) (A := X.A.in1) (I.ok.hd hc) s.heap.objs.size a hne (bs.map Value.bool).toArray
  refine ⟨_, _, _, _, _, _, _, rfl, W, ⟨⟨_, Heap.get?_push_size _ rfl, rfl, rfl⟩, (let ⟨o, e, r⟩ := p.isList; ⟨o, Heap.get?_push_of_some _ e, r⟩)⟩, truth_bools bs, fun h' tk k => ?_⟩
  · have e : (bs.map Value.bool).toArray.size = bs.length := by simp
    rw [e, range_any]
    refine ⟨.bl _, H, I.kept fun b o z => k b o ?_ (Heap.get?_push_of_some _ z), rfl, q⟩
    intro m
    rw [List.mem_singleton] at m
    rw [m] at z
    exact absurd (Heap.lt_size z) (Nat.lt_irrefl _)
end
end L2

set_option Elab.async false
set_option linter.all false
set_option maxRecDepth 100000
set_option maxHeartbeats 4000000
namespace L2
open PySem PySem.Spec PyProof.Rows
/-! ### defs by their names -/
def In (K : PySem.W.Frag) (mg : Str → Option Value) (x : Str) (st : Stmt) (ps : List Str) : Prop := ∃ f fd, mg x = some (.ref f) ∧ Fun K x x st f fd ∧ Binds K fd ps []
structure Def (P : Program) (w : World) (K : PySem.W.Frag) (mg : Str → Option Value) (base : Heap) (CX : CXT) (k : Nat) (x : Str) (ps : List Str) (sp : Sp) : Prop where
  ex : ∃ f fd, mg x = some (.ref f) ∧ PySem.W.keepIn K (.ref f) = true ∧ Binds K fd ps [] ∧ FnOk P w K mg base CX k f fd ps sp
section
variable {X : Cx} {CX : CXT} {j k : Nat} {x : Str} {ps : List Str} {sp : Sp} {E : XK} {p pos : Pos} {e : Expr} {es : List Expr} {t : TA}
theorem pe_callD (D : Def X.prog X.w X.K X.mg X.base CX j x ps sp) (hr : Room k X.A) (hg : Gl X x) (hx : Passes CX X E) (ha : PA X (e :: es) t) (hj : j ≤ k := by decide)
    (hdb : (x == ("__debug__" : Str)) = false := by decide) (he : starEach (e :: es) X.env = (false, eval e X.env) :: starEach es X.env := by rfl) (hpl : (backTo pos (starEach es X.env)).any (·.1) = false := by rfl) :
    PE X (.Call (.Name x p) (e :: es) [] pos) (tCall sp [] E t) := by
  obtain ⟨f, fd, hm, hk, hb, F⟩ := D.ex
  exact pe_call F (hr.mono hj) hg hm hk hb .nil hx ha hdb he hpl
theorem pe_callDS {E : St → XK} (D : Def X.prog X.w X.K X.mg X.base CX j x ps sp) (hr : Room k X.A) (hg : Gl X x) (hx : PassesS CX X E) (ha : PA X (e :: es) t) (hj : j ≤ k := by decide)
    (hdb : (x == ("__debug__" : Str)) = false := by decide) (he : starEach (e :: es) X.env = (false, eval e X.env) :: starEach es X.env := by rfl) (hpl : (backTo pos (starEach es X.env)).any (·.1) = false := by rfl) :
    PE X (.Call (.Name x p) (e :: es) [] pos) (tCallS sp [] E t) := by
  obtain ⟨f, fd, hm, hk, hb, F⟩ := D.ex
  exact pe_callS F (hr.mono hj) hg hm hk hb .nil hx ha hdb he hpl
end
section
variable {P : Program} {w : World} {K : PySem.W.Frag} {mg : Str → Option Value} {base : Heap} {k : Nat} {x : Str} {st : Stmt} {ps N : List Str} {sp : Sp}
/-- a def that lets no exception out -/
theorem In.ok0 (F : In K mg x st ps) (S : FnScope N ps (defScope st)) (len : ∀ vs H Q E, sp vs H Q E → vs.length = ps.length)
    (hbody : ∀ (f : Addr) (cdv : Value) (A : Around) (outer : List Env) (s : Shared) (H : Hp) (vs : List V) (Q : VK) (E : XK), Room k (A.deeper (envOfC x (defScope st) s.heap.objs.size f cdv)) → sp vs H Q E →
      ∃ t, PSs (cxOf CX0 P w K mg base N x (defScope st) f cdv A outer s H E).nox (defBody st) t ∧ t { nx := fun _ H' => Q .non H', rt := Q } (start N vs) H) : Def P w K mg base CX0 (k + 1) x ps sp := by
  obtain ⟨f, fd, hm, FF, hb⟩ := F
  exact ⟨f, fd, hm, FF.kp, hb, FF.ok S len fun cdv A outer s H vs Q E hr h => hbody f cdv A outer s H vs Q E hr h⟩
/-- one that may -/
theorem In.okX (F : In K mg x st ps) (S : FnScope N ps (defScope st)) (len : ∀ vs H Q E, sp vs H Q E → vs.length = ps.length)
    (hbody : ∀ (f : Addr) (cdv : Value) (A : Around) (outer : List Env) (s : Shared) (H : Hp) (vs : List V) (Q : VK) (E : XK), Room k (A.deeper (envOfC x (defScope st) s.heap.objs.size f cdv)) → sp vs H Q E →
      ∃ t, PSs (cxOf (CXE P w) P w K mg base N x (defScope st) f cdv A outer s H E) (defBody st) t ∧ t { nx := fun _ H' => Q .non H', rt := Q } (start N vs) H) : Def P w K mg base (CXE P w) (k + 1) x ps sp := by
  obtain ⟨f, fd, hm, FF, hb⟩ := F
  obtain ⟨oc, od, kV, doc, pm, an, cdv, ct, osl, rfl, lk, hcd⟩ := FF.ex
  exact ⟨f, _, hm, FF.kp, hb, fn_of lk hcd S len fun A outer s H vs Q E hr hsp => hbody f cdv A outer s H vs Q E hr hsp⟩
end
theorem passE {X : Cx} {P : Program} {w : World} : Passes (CXE P w) X E0 := fun _ _ _ _ _ _ _ h => by
  obtain ⟨_, _, _, _, _, _, _, _, _, _, _, _, _, z⟩ := h
  exact z.elim
/-! ### new things, the heap not told: all that was tracked is as it was -/
theorem same_new {H : Hp} {p : Addr} (h : H p = none) (o : HO) : Same H (upd H p o) := fun b u q => by rw [upd_ne (ne_of_none q h)]; exact q
theorem Same.seqT {K : PySem.W.Frag} {H H' : Hp} {a : Addr} {xs : List V} (e : Same H H') (h : SqT K H a xs) : SqT K H' a xs := by
  rcases h with (h | ⟨o, h⟩) | h
  · exact .inl (.inl (e _ _ h))
  · exact .inl (.inr ⟨o, e _ _ h⟩)
  · exact .inr h
def newQ (H : Hp) (o : HO) (Q : VK) : Prop := ∀ p H', H p = none → Same H H' → H' p = some o → Q (.ref p) H'
theorem newQ.at {H : Hp} {o : HO} {Q : VK} (h : newQ H o Q) : ∀ p, H p = none → Q (.ref p) (upd H p o) := fun p hp => h p _ hp (same_new hp o) upd_same
theorem OpR.imp {X : Cx} {f : Value → Value → Sem Value} {r r' : R2} (h : OpR X f r) (i : ∀ x y H Q, r' x y H Q → r x y H Q) : OpR X f r' := fun pins s σ H x y v u Q I rx ry q => h pins s σ H x y v u Q I rx ry (i _ _ _ _ q)
theorem CallR.imp {X : Cx} {f : Value} {r r' : List V → Hp → VK → Prop} (h : CallR X f r) (i : ∀ xs H Q, r' xs H Q → r xs H Q) : CallR X f r' := fun pins s σ H xs us Q I rs q => h pins s σ H xs us Q I rs (i _ _ _ q)
theorem SlR.imp {X : Cx} {r r' : V → Option Int → Option Int → Hp → VK → Prop} (h : SlR X r) (i : ∀ x a b H Q, r' x a b H Q → r x a b H Q) : SlR X r' := fun pins s σ H x v vl vu lo hi sl Q I rx hs pl pu q => h pins s σ H x v vl vu lo hi sl Q I rx hs pl pu (i _ _ _ _ _ q)
section
variable {X : Cx} {es : List Expr} {t : TA} {pos : Pos}
def tTupS (t : TA) : TE := fun σ H Q => t σ H fun xs H1 => xs.length ≤ sizeLine ∧ newQ H1 (.tup xs) Q
def tLstS (t : TA) : TE := fun σ H Q => t σ H fun xs H1 => xs.length ≤ sizeLine ∧ newQ H1 (.lst xs) Q
theorem pe_tupS {x1} (h : PA X es t) : PE X (.Tuple es x1 pos) (tTupS t) := by
  intro pins s σ H Q I hq
  refine wpAny_Tuple_spliced (thn (h pos pins s σ H _ I hq) fun us s1 ⟨xs, H1, I1, r, z, q⟩ => ⟨by rw [← r.length]; exact z, ?_⟩)
  have hf : H1 s1.heap.objs.size = none := I1.hok.fresh (Nat.le_refl _)
  refine ⟨.ref s1.heap.objs.size, upd H1 s1.heap.objs.size (.tup xs), I1.laid (t' := s1.toks) (fun b u e => Heap.get?_push_of_some _ e) (Nat.le_refl _) ?_, rfl, q.at _ hf⟩
  exact ⟨z, us, r, ⟨_, Heap.get?_push_size _ rfl, rfl, _, rfl⟩⟩
theorem pe_lstS (h : PA X es t) : PE X (.List es pos) (tLstS t) := by
  intro pins s σ H Q I hq
  refine wpAny_List_spliced (thn (h pos pins s σ H _ I hq) fun us s1 ⟨xs, H1, I1, r, z, q⟩ => ⟨by rw [← r.length]; exact z, ?_⟩)
  have hf : H1 s1.heap.objs.size = none := I1.hok.fresh (Nat.le_refl _)
  refine ⟨.ref s1.heap.objs.size, upd H1 s1.heap.objs.size (.lst xs), I1.laid (t' := s1.toks) (fun b u e => Heap.get?_push_of_some _ e) (Nat.le_refl _) ?_, rfl, q.at _ hf⟩
  exact ⟨z, us, 0, r, Heap.get?_push_size _ rfl⟩
def rCatTS (K : PySem.W.Frag) : R2 := fun x y H Q => ∃ a b xs ys, x = .ref a ∧ y = .ref b ∧ SqT K H a xs ∧ SqT K H b ys ∧ xs ≠ [] ∧ xs.length + ys.length ≤ sizeLine ∧ ∀ p H', Same H H' → SqT K H' p (xs ++ ys) → Q (.ref p) H'
theorem op_catTS : OpR X (binaryOp .Add) (rCatTS X.K) := op_catT.imp fun x y H Q ⟨a, b, xs, ys, e1, e2, h1, h2, n, z, q⟩ =>
  ⟨a, b, xs, ys, e1, e2, h1, h2, n, z, fun e => q a H (Same.refl H) (by rw [e, List.append_nil]; exact h1), fun _ p hp => q p _ (same_new hp _) (SqT.of upd_same)⟩
def rCatS : R2 := fun x y H Q => ∃ l b xs zs, x = .ref l ∧ y = .ref b ∧ H l = some (.lst xs) ∧ H b = some (.lst zs) ∧ xs.length + zs.length ≤ sizeLine ∧ newQ H (.lst (xs ++ zs)) Q
theorem op_catS : OpR X (binaryOp .Add) rCatS := op_cat.imp fun x y H Q ⟨l, b, xs, zs, e1, e2, h1, h2, z, q⟩ => ⟨l, b, xs, zs, e1, e2, h1, h2, z, q.at⟩
theorem call_listS : CallR X (.type "list") (fun xs H Q => ∃ p ys, xs = [.ref p] ∧ (SqL X.K H p ys ∨ SqT X.K H p ys) ∧ newQ H (.lst ys) Q) := call_list_of.imp fun xs H Q ⟨p, ys, e, h, q⟩ => ⟨p, ys, e, h, q.at⟩
theorem call_tupleS : CallR X (.type "tuple") (fun xs H Q => ∃ p ys, xs = [.ref p] ∧ (SqL X.K H p ys ∨ SqT X.K H p ys) ∧ ∀ l H', Same H H' → SqT X.K H' l ys → Q (.ref l) H') := call_tuple_of.imp fun xs H Q ⟨p, ys, e, h, q⟩ =>
  ⟨p, ys, e, h.elim (fun h => .inl ⟨h, fun l hl => q l _ (same_new hl _) (SqT.of upd_same)⟩) fun h => .inr ⟨h, q p H (Same.refl H) h⟩⟩
end
/-- all but the one at l is as it was -/
def SameX (l : Addr) (H H' : Hp) : Prop := ∀ b o, b ≠ l → H b = some o → H' b = some o
theorem upd_sameX {H : Hp} {l : Addr} {o : HO} : SameX l H (upd H l o) := fun b u hb q => by rw [upd_ne hb]; exact q
theorem SameX.seq {K : PySem.W.Frag} {H H' : Hp} {l a : Addr} {xs : List V} (e : SameX l H H') (n : a ≠ l) (h : SqL K H a xs) : SqL K H' a xs := by
  rcases h with (h | ⟨o, h⟩) | h
  · exact .inl (.inl (e _ _ n h))
  · exact .inl (.inr ⟨o, e _ _ n h⟩)
  · exact .inr h
theorem SameX.seqT {K : PySem.W.Frag} {H H' : Hp} {l a : Addr} {xs ys : List V} (e : SameX l H H') (hl : H l = some (.lst ys)) (h : SqT K H a xs) : SqT K H' a xs := by
  rcases h with (h | ⟨o, h⟩) | h
  · exact .inl (.inl (e _ _ (fun z => by rw [z, hl] at h; cases h) h))
  · exact .inl (.inr ⟨o, e _ _ (fun z => by rw [z, hl] at h; cases h) h⟩)
  · exact .inr h
/-- what was there ahead of l is as it was -/
theorem Same.thenX {H H1 H2 : Hp} {l : Addr} (s : Same H H1) (n : H l = none) (e : SameX l H1 H2) : Same H H2 := fun b o q => e b o (ne_of_none q n) (s b o q)
def rAppendS : V → List V → Hp → VK → Prop := fun x vs H Q => ∃ l xs y, x = .ref l ∧ vs = [y] ∧ H l = some (.lst xs) ∧ xs.length < sizeLine ∧ ∀ H', SameX l H H' → H' l = some (.lst (xs ++ [y])) → Q .non H'
theorem mt_appendS {X : Cx} : MtM X "list.append" rAppendS := fun pins s σ H x vs v us Q I rx rv h => by
  obtain ⟨l, xs, y, e1, e2, e3, z, q⟩ := h
  exact mt_append pins s σ H x vs v us Q I rx rv ⟨l, xs, y, e1, e2, e3, z, q _ upd_sameX upd_same⟩
/-! ### a comprehension whose element is a function of the item -/
section
variable {K : PySem.W.Frag} {a : Addr} {xs : List V} {js : List Nat} {te : TE} {σ : St} {H : Hp} {Q : VK}
theorem comp_map {J : It} (f : V → V) (hz : xs.length ≤ sizeLine) (hgo : ∀ i H', i < xs.length → Same H H' → J.go i H') (hst : ∀ H', Same H H' → J.stop xs.length H') (hy : ∀ i H' x H2, i < xs.length → Same H H' → J.yld i H' x H2 → H2 = H' ∧ xs[i]? = some x)
    (hf : ∀ x ∈ xs, ∀ H' (R : VK), Same H H' → (∀ H4, Same H' H4 → R (f x) H4) → te (some x :: js.map fun j => σ.getD j none) H' R) (hd : newQ H (.lst (xs.map f)) Q) : CompW J js te σ H Q := by
  refine ⟨fun i m ys H' => m = xs.length - i ∧ i ≤ xs.length ∧ Same H H' ∧ ys = (xs.take i).map f, ⟨_, rfl, Nat.zero_le _, Same.refl H, rfl⟩, ?_⟩
  rintro i m ys H' ⟨rfl, hi, sm, rfl⟩
  by_cases hlt : i < xs.length
  · refine .inr ⟨hgo i H' hlt sm, by rw [List.length_map, List.length_take]; omega, fun x H2 y => ?_⟩
    obtain ⟨e, g⟩ := hy i H' x H2 hlt sm y
    subst e
    refine hf x (List.mem_of_getElem? g) _ _ sm fun H4 s4 => ⟨xs.length - (i + 1), by omega, rfl, hlt, sm.trans s4, ?_⟩
    rw [List.take_add_one, g, List.map_append] <;> rfl
  · have e : i = xs.length := by omega
    subst e
    rw [List.take_length]
    exact .inl ⟨hst H' sm, fun d n => hd d _ (sm.free n) (sm.trans (same_new n _)) upd_same⟩
theorem comp_mapT (f : V → V) (hx : SqT K H a xs) (hz : xs.length ≤ sizeLine) (hf : ∀ x ∈ xs, ∀ H' (R : VK), Same H H' → (∀ H4, Same H' H4 → R (f x) H4) → te (some x :: js.map fun j => σ.getD j none) H' R) (hd : newQ H (.lst (xs.map f)) Q) : CompW (Itt K a) js te σ H Q :=
  comp_map f hz (fun i H' hi sm => ⟨xs, xs[i], sm.seqT hx, List.getElem?_eq_getElem hi⟩) (fun H' sm => ⟨xs, sm.seqT hx, Nat.le_refl _⟩) (fun i H' x H2 hi sm y => ⟨y.1, y.2 xs (sm.seqT hx)⟩) hf hd
theorem comp_mapL (f : V → V) (hx : SqL K H a xs) (hz : xs.length ≤ sizeLine) (hf : ∀ x ∈ xs, ∀ H' (R : VK), Same H H' → (∀ H4, Same H' H4 → R (f x) H4) → te (some x :: js.map fun j => σ.getD j none) H' R) (hd : newQ H (.lst (xs.map f)) Q) : CompW (Itl K a) js te σ H Q :=
  comp_map f hz (fun i H' hi sm => ⟨xs, xs[i], sm.seq hx, List.getElem?_eq_getElem hi⟩) (fun H' sm => ⟨xs, sm.seq hx, Nat.le_refl _⟩) (fun i H' x H2 hi sm y => ⟨y.1, y.2 xs (sm.seq hx)⟩) hf hd
end
/-! ### a block cut behind a statement: M is what holds there -/
def tCut (M : St → Hp → Prop) (t u : TS) : TS := fun D σ H => t { D with nx := M } σ H ∧ ∀ σ' H', M σ' H' → u D σ' H'
theorem pss_cut {X : Cx} {st : Stmt} {rest : List Stmt} {t u : TS} (M : St → Hp → Prop) (h1 : PS X st t) (h2 : PSs X rest u) : PSs X (st :: rest) (tCut M t u) := by
  intro pins s σ H D I h
  refine wpAny_execs_cons (thn (h1 pins s σ H { D with nx := M } I h.1) fun f s1 q => ?_)
  cases f with
  | next =>
    obtain ⟨σ', H', I', q⟩ := q
    exact h2 pins s1 σ' H' D I' (h.2 σ' H' q)
  | ret v => exact q
  | brk => exact q
  | cont => exact q
/-! ### readings by simp -/
theorem cxOf_K {CX : CXT} {P : Program} {w : World} {K : PySem.W.Frag} {mg : Str → Option Value} {base : Heap} {N : List Str} {qual : Str} {scope : Scope} {f : Addr} {cd : Value} {A : Around} {outer : List Env} {s : Shared} {H : Hp} {E : XK} :
    (cxOf CX P w K mg base N qual scope f cd A outer s H E).K = K := rfl
end L2

set_option Elab.async false
set_option linter.all false
set_option maxRecDepth 100000
set_option maxHeartbeats 4000000
namespace L2
open PySem PySem.Spec PyProof.Rows
section
variable {X : Cx}
/-! ### insert, extend, repeat, slices: the heap not told -/
def rInsertS : V → List V → Hp → VK → Prop := fun x vs H Q => ∃ l xs k y, x = .ref l ∧ vs = [.int k, y] ∧ H l = some (.lst xs) ∧ xs.length < sizeLine ∧ 0 ≤ k ∧ k ≤ (xs.length : Int) ∧ ∀ H', SameX l H H' → H' l = some (.lst (xs.take k.toNat ++ y :: xs.drop k.toNat)) → Q .non H'
def rExtendS : V → List V → Hp → VK → Prop := fun x vs H Q => ∃ l b xs zs, x = .ref l ∧ vs = [.ref b] ∧ H l = some (.lst xs) ∧ H b = some (.lst zs) ∧ xs.length + zs.length ≤ sizeLine ∧ ∀ H', SameX l H H' → H' l = some (.lst (xs ++ zs)) → Q .non H'
/-- [x] * k -/
def rRepS : R2 := fun x y H Q => ∃ l k v, x = .ref l ∧ y = .int k ∧ H l = some (.lst [v]) ∧ -(2 ^ 63) ≤ k ∧ k < 2 ^ 63 ∧ k.toNat ≤ sizeLine ∧ newQ H (.lst (List.replicate k.toNat v)) Q
def rSlLS (K : PySem.W.Frag) : V → Option Int → Option Int → Hp → VK → Prop := fun x lo hi H Q => ∃ a xs, x = .ref a ∧ SqL K H a xs ∧ newQ H (.lst (cutV xs lo hi)) Q
theorem sl_listS : SlR X (rSlLS X.K) := sl_list.imp fun x a b H Q ⟨l, xs, e, h, q⟩ => ⟨l, xs, e, h, q.at⟩
def rSlTS (K : PySem.W.Frag) : V → Option Int → Option Int → Hp → VK → Prop := fun x lo hi H Q => ∃ a xs, x = .ref a ∧ SqT K H a xs ∧
  ¬ (HT.sIx xs.length 0 lo = 0 ∧ HT.sIx xs.length xs.length hi = xs.length) ∧ newQ H (.tup (cutV xs lo hi)) Q
/-! ### sum of a tuple of ints -/
end
section
variable {X : Cx}
def CPB (i j : Int) : Prop := 0 ≤ j ∧ j ≤ 100 ∧ Fit i
theorem op_powB : OpR X (binaryOp .Pow) (rI CPB fun i j => .int (i ^ j.toNat)) := opI fun i j _ _ _ _ _ hc q => by
  have hb := hc.2.2.bits
  refine pow_int hc.1 ?_ q
  have h1 : ((Builtin.Int.intBits i : Nat) : Int) ≤ 2 ^ 20 := by omega
  have h2 := Int.mul_le_mul h1 hc.2.1 hc.1 (by decide)
  have h3 : (2 : Int) ^ 20 * 100 ≤ 2 ^ 27 := by decide
  omega
end
section
variable {X : Cx} {K : PySem.W.Frag}
/-! ### inside a comprehension: K by name -/
end
/-! ### a for's reading: R stands for what is asked of the loop -/
def ForOk (g : TG) (tb : TS) (D : Ends) (J : It) (σ : St) (H1 : Hp) : Prop := ∃ W : Nat → Nat → St → Hp → Prop, (∃ m, W 0 m σ H1) ∧ ∀ i m σ H, W i m σ H →
  (J.stop i H ∧ D.nx σ H) ∨ (J.go i H ∧ ∃ N : St → Hp → Prop, (∀ σ' H', N σ' H' → ∃ m', m' < m ∧ W (i + 1) m' σ' H') ∧ ∀ x H', J.yld i H x H' → g x σ H' fun σ2 H2 => tb { D with nx := N, ct := N, bk := D.nx } σ2 H2)
theorem tFor_rd {wi : TI} {g : TG} {tb : TS} {D : Ends} {σ : St} {H : Hp} (h : ∀ R : It → Hp → Prop, (∀ J H1, ForOk g tb D J σ H1 → R J H1) → wi σ H R) : tFor wi g tb D σ H := h _ fun _ _ k => k
end L2

set_option Elab.async false
set_option linter.all false
set_option maxRecDepth 100000
set_option maxHeartbeats 4000000
namespace L2
open PySem PySem.Spec PyProof.Rows
/-! ### reversed(t) of a tuple: its own iterator -/
theorem own_reversed : Manifest.owners.lookup (String.ofList ['d', 'e', 's', 'r', 'e', 'v', 'e', 'r'].reverse) = some Manifest.sig_reversed := by kernel_rfl
theorem sl_rev_next : Slot "reversed" "__next__" "reversed.__next__" := Slot.of (owner := "reversed") (n := "__next__") (by rw [typeLookup_type, builtinLookup_eq_fast]; kernel_rfl) (by decide +kernel) (by decide +kernel) (by decide +kernel) (by first | exact .inl (by decide +kernel) | exact .inr (by decide +kernel)) (by rw [isSubtype_type]; kernel_rfl)
theorem en_rev_next : entryFor table "reversed.__next__" = some Builtin.«reversed.__next__» := entryFor_of_tree (by kernel_rfl)
theorem ar_rev_next (a : Value) : argsOk "reversed.__next__" ⟨[a], []⟩ := by
  unfold argsOk; rw [signature?_of (id := "reversed.__next__") (n := ['_', '_', 't', 'x', 'e', 'n', '_', '_']) (o := ['d', 'e', 's', 'r', 'e', 'v', 'e', 'r']) (by kernel_rfl) own_reversed]; kernel_rfl
theorem sl_rev_iter : Slot "reversed" "__iter__" "reversed.__iter__" := Slot.of (owner := "reversed") (n := "__iter__") (by rw [typeLookup_type, builtinLookup_eq_fast]; kernel_rfl) (by decide +kernel) (by decide +kernel) (by decide +kernel) (by first | exact .inl (by decide +kernel) | exact .inr (by decide +kernel)) (by rw [isSubtype_type]; kernel_rfl)
theorem ar_rev_iter (a : Value) : argsOk "reversed.__iter__" ⟨[a], []⟩ := by
  unfold argsOk; rw [signature?_of (id := "reversed.__iter__") (n := ['_', '_', 'r', 'e', 't', 'i', '_', '_']) (o := ['d', 'e', 's', 'r', 'e', 'v', 'e', 'r']) (by kernel_rfl) own_reversed]; kernel_rfl
theorem en_rev_iter : entryFor table "reversed.__iter__" = some Builtin.«dict_keyiterator.__iter__» := entryFor_alias (id' := "dict_keyiterator.__iter__") (by kernel_rfl) (by first | rfl | decide +kernel | (unfold String.splitOn; simp +decide [String.splitOnAux])) (by decide +kernel) (by kernel_rfl)
theorem no_tuple_reversed : typeLookup (.type "tuple") "__reversed__" = pure none := by rw [typeLookup_type, builtinLookup_eq_fast]; kernel_rfl
theorem tuple_no_dict : isSubtype (.type "tuple") (.type "dict") = pure false := by rw [isSubtype_type]; kernel_rfl
theorem called_rev : TypeCalled "reversed" "reversed.__new__" "object.__init__" :=
  ⟨by decide +kernel, PySem.F.create_reversed, ⟨_, _, PySem.F.mro_reversed⟩, PySem.F.made_reversed, PySem.F.plain_reversed_new, PySem.F.sub_reversed_self, Slot.of (owner := "object") (n := "__init__") (by rw [typeLookup_type, builtinLookup_eq_fast]; kernel_rfl) (by decide +kernel) (by decide +kernel) (by decide +kernel) (by first | exact .inl (by decide +kernel) | exact .inr (by decide +kernel)) (by rw [isSubtype_type]; kernel_rfl)⟩
def RevIt (h : Heap) (it a : Addr) (i : Int) : Prop := ∃ o, h.get? it = some o ∧ o.cls = .type "reversed" ∧ o.data = .fields #[.ref a, rawInt i]
theorem RevIt.typeIs {s : Shared} {it a : Addr} {i : Int} (x : RevIt s.heap it a i) : s.TypeIs (.ref it) "reversed" := let ⟨o, ho, hc, _⟩ := x; ⟨o, ho, hc⟩
section
variable {prog : Program} {w : World} {A : Around} {E : Value → Shared → Prop} {s : Shared}
theorem rev_new {t : Addr} {items : Array Value} {Q₁ : Value → Shared → Prop} (ht : IsTup s.heap t items) (hfit : (items.size : Int) < 2 ^ 63)
    (h : ∀ tk, Q₁ (.ref s.heap.objs.size) { s with heap := s.heap.push { cls := .type "reversed", data := .fields #[.ref t, rawInt ((items.size : Int) - 1)] }, toks := tk }) :
    codeAny (model prog w) A (.call (.builtin "reversed.__new__") ⟨[.type "reversed", .ref t], []⟩) (wants Q₁ E) s := by
  refine codeAny_of_tree ?_
  show wpAny _ A.in1 (checkBuiltinCall "reversed.__new__" ⟨[.type "reversed", .ref t], []⟩ >>= fun _ => again (.builtin "reversed.__new__" ⟨[.type "reversed", .ref t], []⟩)) _ _ s
  refine wpAny_bind (wpAny_of_eq (PySem.F.newCall_reversed_1 _) (wpAny_pure ⟨plainId_quiet PySem.F.plain_reversed_new _, codeAny_builtin PySem.F.entry_reversed_new ?_⟩))
  rw [Around.under_plainId PySem.F.plain_reversed_new _]
  unfold Builtin.«reversed.__new__»; refine wpAny_bind (wpAny_of_eq (newClass_reversed _) ?_); dsimp only
  refine wpAny_bind (wpAny_of_eq (a := ()) (by first | rfl | kernel_rfl) (wpAny_bind (wpAny_of_eq (a := ()) (by first | rfl | kernel_rfl) ?_)))
  refine wpAny_bind (wpAny_specialOf ht.typeIs no_tuple_reversed ?_); dsimp only
  refine wpAny_bind (show wpAny _ _ (isInstance (Value.ref t) (.type "dict") >>= _) _ _ _ from wpAny_bind (wpAny_isInstance ht.typeIs tuple_no_dict ?_))
  show wpAny _ _ (if false = true then _ else _) _ _ _
  rw [if_neg Bool.false_ne_true]
  refine wpAny_bind (wpAny_specialOf ht.typeIs slot_tuple_getitem.lookup ?_)
  show wpAny _ _ (if (["tuple.__getitem__", "str.__getitem__", "bytes.__getitem__", "bytearray.__getitem__", "memoryview.__getitem__", "numpy.ndarray.__getitem__", "sqlite3.Row.__getitem__"].contains "tuple.__getitem__") = true then _ else _) _ _ _
  rw [if_pos (by decide +kernel)]
  refine wpAny_pure (show wpAny _ _ (if (!true) = true then _ else _) _ _ _ from ?_)
  rw [if_neg (by decide)]
  refine wpAny_bind (len_tuple ht hfit (wpAny_bind (wpAny_pure ?_)))
  show wpAny _ _ (Builtin.SmallTypes.newRecord (Value.type "reversed") [Value.ref t, rawInt ((items.size : Int) - 1)] >>= _) _ _ _
  refine wpAny_bind (show wpAny _ _ (newObj (Value.type "reversed") (.fields #[Value.ref t, rawInt ((items.size : Int) - 1)])) _ _ _ from wpAny_newObj_type ?_)
  exact wpAny_pure (h _)
theorem call_revT {t : Addr} {items : Array Value} {Q : Value → Shared → Prop} (ht : IsTup s.heap t items) (hfit : (items.size : Int) < 2 ^ 63)
    (h : ∀ tk, Q (.ref s.heap.objs.size) { s with heap := s.heap.push { cls := .type "reversed", data := .fields #[.ref t, rawInt ((items.size : Int) - 1)] }, toks := tk }) : wpAny (model prog w) A (call (.type "reversed") [.ref t]) Q E s := by
  refine callType_codes called_rev (PySem.F.typeCall_reversed_1 _) PySem.F.entry_object_init (Q₁ := fun obj s₁ => obj = .ref s.heap.objs.size ∧ ∃ tk, s₁ = { s with heap := s.heap.push { cls := .type "reversed", data := .fields #[.ref t, rawInt ((items.size : Int) - 1)] }, toks := tk }) (rev_new ht hfit fun tk => ⟨rfl, tk, rfl⟩) ?_
  rintro obj s₁ ⟨rfl, tk, rfl⟩
  have hT : Shared.TypeIs { s with heap := s.heap.push { cls := .type "reversed", data := .fields #[.ref t, rawInt ((items.size : Int) - 1)] }, toks := tk } (.ref s.heap.objs.size) "reversed" := ⟨_, Heap.get?_push_size _ rfl, rfl⟩
  exact ⟨hT, PySem.F.args_object_init_2 _ _, object_init_meets called_rev.init.lookup called_rev.made (by decide) prog w A.in1 _ _ ⟨hT, rfl, h tk⟩⟩
theorem rev_next {it t : Addr} {i : Nat} {items : Array Value} {x : Value} {Q : Option Value → Shared → Prop} (hit : RevIt s.heap it t (i : Int)) (ht : IsTup s.heap t items) (hx : items[i]? = some x) (hfit : (items.size : Int) < 2 ^ 63)
    (hQ : ∀ h' tk, RevIt h' it t ((i : Int) - 1) → Heap.SameBut it s.heap h' → Q (some x) { s with heap := h', toks := tk }) : wpAny (model prog w) A (pyNext (.ref it)) Q E s := by
  have hit' := hit
  obtain ⟨o, ho, hc, hd⟩ := hit'
  have hi : i < items.size := by
    rcases Nat.lt_or_ge i items.size with z | z
    · exact z
    · rw [Array.getElem?_eq_none z] at hx; cases hx
  unfold pyNext
  refine wpAny_bind (wpAny_attempt (wpAny_callSpecial?_slot (name := Str.ofString "__next__") hit.typeIs sl_rev_next (wpAny_call_entry sl_rev_next hit.typeIs en_rev_next ?_ (ar_rev_next _))))
  unfold Builtin.«reversed.__next__»
  refine wpAny_bind (wpAny_of_eq (a := (Value.ref it, [])) rfl (wpAny_bind (wpAny_field ho hd (x := .ref t) rfl (wpAny_bind (wpAny_field ho hd (x := rawInt (i : Int)) rfl (show wpAny _ _ (if (i : Int) < 0 then _ else _) _ _ s from ?_))))))
  rw [if_neg (by omega)]
  refine wpAny_bind (wpAny_specialOf ht.typeIs slot_tuple_getitem.lookup (show wpAny _ _ (if false = true then _ else _) _ _ _ from ?_))
  rw [if_neg Bool.false_ne_true]
  refine wpAny_bind (wpAny_mkInt (wpAny_bind (wpAny_attempt (getItem_tuple (j := i) (x := x) ht (by omega) (by omega) ?_ hx ?_))))
  · simp only [seqIndex?]
    rw [if_neg (show ¬ ((i : Int) < 0) by omega), decide_eq_true (show (0 : Int) ≤ (i : Int) by omega), decide_eq_true (show (i : Int) < (items.size : Int) by omega)]
    rfl
  refine wpAny_bind (wpAny_field ho hd (x := rawInt (i : Int)) rfl (wpAny_bind (wpAny_setField ho hd (by simp) (wpAny_pure ⟨x, rfl, wpAny_pure (hQ _ _ ?_ (Heap.SameBut.update ..))⟩))))
  exact ⟨_, Heap.get?_update_self _ ho (Obj.isFreed_of_fields (Obj.data_mapFields hd _)), (Obj.cls_mapFields ..).trans hc, by rw [Obj.data_mapFields hd]; simp⟩
/-- the end of an iterator: StopIteration, all that stood stays -/
theorem stop_now {α : Type} {Q : α → Shared → Prop} (hh : A.handled = none)
    (hE : ∀ h' e, (∀ b o, s.heap.get? b = some o → h'.get? b = some o) → (∃ o, h'.get? e = some o ∧ o.cls = .type "StopIteration") → E (.ref e) { s with heap := h' }) : wpAny (model prog w) A (Builtin.SmallTypes.stopIteration : Sem α) Q E s := by
  unfold Builtin.SmallTypes.stopIteration newExc newTuple raiseNew
  have nn : firstArgMember (.type "StopIteration") [] = pure Value.none := by first | rfl | (unfold firstArgMember; rfl)
  refine wpAny_bind (wpAny_bind (wpAny_newObj_type (wpAny_bind (wpAny_of_eq nn (wpAny_newObj_type (wpAny_bind (wpAny_handled ?_)) (by size_fits)))) (by size_fits)))
  rw [hh]
  exact wpAny_throw (hE _ _ (fun b o e => Heap.get?_push_of_some _ (Heap.get?_push_of_some _ e)) ⟨_, Heap.get?_push_size _ rfl, rfl⟩)
theorem rev_end {it t : Addr} {Q : Option Value → Shared → Prop} (hh : A.handled = none) (hit : RevIt s.heap it t (-1)) (hQ : ∀ h', Heap.ExtBut it s.heap h' → Q none { s with heap := h' }) : wpAny (model prog w) A (pyNext (.ref it)) Q E s := by
  have hit' := hit
  obtain ⟨o, ho, hc, hd⟩ := hit'
  have u1 := Heap.get?_update_self (Obj.mapFields (·.setIfInBounds 1 (rawInt (-1)))) ho (Obj.isFreed_of_fields (Obj.data_mapFields hd _))
  have d1 : (Obj.mapFields (·.setIfInBounds 1 (rawInt (-1))) o).data = .fields #[.ref t, rawInt (-1)] := by rw [Obj.data_mapFields hd]; simp
  unfold pyNext
  refine wpAny_bind (wpAny_attempt (wpAny_callSpecial?_slot (name := Str.ofString "__next__") hit.typeIs sl_rev_next (wpAny_call_entry sl_rev_next hit.typeIs en_rev_next ?_ (ar_rev_next _))))
  unfold Builtin.«reversed.__next__»
  refine wpAny_bind (wpAny_of_eq (a := (Value.ref it, [])) rfl (wpAny_bind (wpAny_field ho hd (x := .ref t) rfl (wpAny_bind (wpAny_field ho hd (x := rawInt (-1)) rfl (show wpAny _ _ (if (-1 : Int) < 0 then _ else _) _ _ s from ?_))))))
  rw [if_pos (by decide)]
  refine wpAny_bind (wpAny_rule (wpAny_bind (show wpAny _ _ (setField (Value.ref it) 1 (rawInt (-1)) >>= fun _ => setField (Value.ref it) 0 .none) _ _ _ from wpAny_bind (wpAny_setField ho hd (by simp) (wpAny_setField u1 d1 (by simp) (wpAny_bind (stop_now (show A.in1.handled = none from hh) ?_)))))))
  intro h' e keep is
  obtain ⟨oe, he, ce⟩ := is
  refine wpAny_bind (wpAny_isInstance (U := "StopIteration") (b := true) ⟨oe, he, ce⟩ isSubtype_stop (wpAny_pure (hQ _ fun b ob hb q => keep b ob ?_)))
  exact (Heap.get?_update_other _ _ (Ne.symm hb)).trans ((Heap.get?_update_other _ _ (Ne.symm hb)).trans q)
theorem rev_iter {it t : Addr} {i : Int} {Q : Value → Shared → Prop} (hit : RevIt s.heap it t i) (h : Q (.ref it) s) : wpAny (model prog w) A (pyIter (.ref it)) Q E s := by
  refine wpAny_pyIter_slot hit.typeIs sl_rev_iter (wpAny_call_entry sl_rev_iter hit.typeIs en_rev_iter (show wpAny _ _ (ret (.ref it)) _ _ s from ?_) (ar_rev_iter _))
  exact wpAny_pure ⟨_, rfl, "reversed", _, hit.typeIs, sl_rev_next.lookup, h⟩
end
def ItvT (K : PySem.W.Frag) (a : Addr) (xs : List V) : It := ⟨fun i H => SqT K H a xs ∧ i < xs.length, fun i H x H' => H' = H ∧ xs.reverse[i]? = some x, fun i _ => xs.length ≤ i⟩
def ItvL (K : PySem.W.Frag) (a : Addr) (xs : List V) : It := ⟨fun i H => SqL K H a xs ∧ i < xs.length, fun i H x H' => H' = H ∧ xs.reverse[i]? = some x, fun i _ => xs.length ≤ i⟩
theorem rev_at {α : Type} {xs : List α} {i : Nat} (h : i < xs.length) : xs.reverse[i]? = xs[xs.length - 1 - i]? := List.getElem?_reverse h
theorem turn_revT {P : Program} {w : World} {K : PySem.W.Frag} {tg : Expr} (a it : Addr) (xs : List V) : Turn P w K tg (ItvT K a xs) [it] it (fun i h => i ≤ xs.length ∧ RevIt h it a ((xs.length : Int) - 1 - (i : Int))) where
  mem := by simp
  obj := fun i h st b hb => by
    have e : b = it := by simpa using hb
    subst e
    obtain ⟨_, o, e, c, d⟩ := st
    exact ⟨o, e, fun v z => by rw [d] at z; cases z⟩
  keep := fun i h h' st k => ⟨st.1, let ⟨o, e, r⟩ := st.2; ⟨o, k it (by simp) o e, r⟩⟩
  item := by
    intro X hP hw hK hc i pins s σ H E I hf st hg
    subst hP hw hK
    obtain ⟨hq, hi⟩ := hg
    obtain ⟨its, rv, p, hz⟩ := I.tuple hq
    have hx : xs[xs.length - 1 - i]? = some (xs[xs.length - 1 - i]'(by omega)) := List.getElem?_eq_getElem (by omega)
    obtain ⟨u, hu, ru⟩ := rv.get hx
    obtain ⟨f0, f1, f2, f3, f4, f5⟩ := hf it (by simp)
    have hl := rv.length
    have hn := line63
    have hst := st.2
    rw [show (xs.length : Int) - 1 - (i : Int) = ((xs.length - 1 - i : Nat) : Int) by omega] at hst
    refine rev_next hst p (x := u) (by simpa using hu) (by rw [List.size_toArray]; omega) fun h' tk st' sb => ?_
    have I1 : Inv X pins σ H { s with heap := h', toks := tk } := I.turned (fun b o hb e => (sb.2 b hb).trans e) f0 f1 f3 f4 f5
    rw [show ((xs.length - 1 - i : Nat) : Int) - 1 = (xs.length : Int) - 1 - ((i + 1 : Nat) : Int) by omega] at st'
    obtain ⟨o, e, c, d⟩ := id st'
    exact ⟨u, rfl, go_of (s := { s with heap := h', toks := tk }) e c d (by decide) ⟨_, H, I1, ru, ⟨rfl, by rw [rev_at hi]; exact hx⟩, ⟨hi, st'⟩, fun b hb => (hf b hb).1⟩⟩
  done := by
    intro X hP hw hK hc i pins s σ H E I hf st hg
    subst hP hw hK
    obtain ⟨f0, f1, f2, f3, f4, f5⟩ := hf it (by simp)
    have hge : xs.length ≤ i := hg
    have hst := st.2
    have hle := st.1
    rw [show (xs.length : Int) - 1 - (i : Int) = -1 by omega] at hst
    exact rev_end (I.ok.hd hc) hst fun h' eb => ⟨rfl, I.turned (t' := s.toks) (fun b o hb e => eb b o hb e) f0 f1 f3 f4 f5⟩
  self := fun _ _ _ _ _ st h => rev_iter st.2 h
section
variable {X : Cx} {tg : Expr}
def iRevT (K : PySem.W.Frag) (ta : TA) : TI := fun σ H R => ta σ H fun vs H1 => ∃ a xs, vs = [.ref a] ∧ SqT K H1 a xs ∧ R (ItvT K a xs) H1
def iRevL (K : PySem.W.Frag) (ta : TA) : TI := fun σ H R => ta σ H fun vs H1 => ∃ a xs, vs = [.ref a] ∧ SqL K H1 a xs ∧ R (ItvL K a xs) H1
theorem pi_revT {a : Expr} {ta : TA} {p pos : Pos} (hg : Gl X "reversed") (hm : X.mg "reversed" = none) (ha : PA X [a] ta) (hs : starEach [a] X.env = [(false, eval a X.env)] := by rfl) : PI X tg (.Call (.Name "reversed" p) [a] [] pos) (iRevT X.K ta) := by
  intro pins s σ H R I h
  refine Call_ (ld_blt I hg hm boot_reversed (PyProof.Rows.callWith_type1 (thn (ha pos pins s σ H _ I h) fun us s1 ⟨vs, H1, I1, r1, q1⟩ => ?_) hs rfl))
  obtain ⟨b, xs, e, hq, q⟩ := q1
  subst e
  cases r1 with
  | cons r rr =>
    cases rr
    cases r
    obtain ⟨its, rv, pt, hz⟩ := I1.tuple hq
    have hl := rv.length
    have hn := line63
    refine call_revT pt (by rw [List.size_toArray]; omega) fun tk => ?_
    have e : ((its.toArray.size : Nat) : Int) - 1 = (xs.length : Int) - 1 - ((0 : Nat) : Int) := by rw [List.size_toArray]; omega
    rw [e]
    refine rev_iter (t := b) ⟨_, Heap.get?_push_size _ rfl, rfl, rfl⟩ ⟨s1.heap.objs.size, [s1.heap.objs.size], _, _, H1, rfl, I1.kept fun b o e => Heap.get?_push_of_some _ e, turn_revT b _ xs, ⟨Nat.zero_le _, _, Heap.get?_push_size _ rfl, rfl, rfl⟩, fun c hc => ?_, q⟩
    have e : c = s1.heap.objs.size := by simpa using hc
    subst e
    exact I1.fpOk (Nat.le_refl _) (I1.hok.fresh (Nat.le_refl _))
end
/-- the loop over a reversed tuple or list that stays -/
theorem for_revT {K : PySem.W.Frag} {a : Addr} {xs : List V} {g : TG} {tb : TS} {D : Ends} {σ : St} {H : Hp} (Pv : Nat → St → Hp → Prop) (h0 : Pv 0 σ H) (hl : ∀ i σ H, i ≤ xs.length → Pv i σ H → SqT K H a xs)
    (hs : ∀ i x σ H, xs.reverse[i]? = some x → Pv i σ H → g x σ H fun σ2 H2 => tb { D with nx := Pv (i + 1), ct := Pv (i + 1), bk := D.nx } σ2 H2) (hd : ∀ σ H, Pv xs.length σ H → D.nx σ H) : ForOk g tb D (ItvT K a xs) σ H := by
  refine ⟨fun i m σ H => m = xs.length - i ∧ i ≤ xs.length ∧ Pv i σ H, ⟨xs.length, by simp, Nat.zero_le _, h0⟩, ?_⟩
  rintro i m σ H ⟨rfl, hi, p⟩
  by_cases hlt : i < xs.length
  · refine .inr ⟨⟨hl i σ H hi p, hlt⟩, Pv (i + 1), fun σ' H' p' => ⟨xs.length - (i + 1), by omega, rfl, hlt, p'⟩, fun x H' y => ?_⟩
    obtain ⟨e, y⟩ := y
    subst e
    exact hs i x σ _ y p
  · have e : i = xs.length := by omega
    subst e
    exact .inl ⟨Nat.le_refl _, hd σ H p⟩
end L2

set_option Elab.async false
set_option linter.all false
set_option maxRecDepth 100000
set_option maxHeartbeats 4000000
namespace L2
open PySem PySem.Spec PyProof.Rows
section
variable {X : Cx}
/-! ### == of lists of flat things -/
def rEqLs (K : PySem.W.Frag) (neg : Bool) : R2 := fun x y H Q => ∃ a b xs ys, x = .ref a ∧ y = .ref b ∧ SqL K H a xs ∧ SqL K H b ys ∧ xs.all flatV = true ∧ ys.all flatV = true ∧ Q (.bl (if neg then !eqL xs ys else eqL xs ys)) H
theorem eqL_len : ∀ {xs ys : List V}, xs.length ≠ ys.length → eqL xs ys = false
  | [], [], h => absurd rfl h
  | [], _ :: _, _ => rfl
  | _ :: _, [], _ => rfl
  | x :: xs, y :: ys, h => by
    have := eqL_len (xs := xs) (ys := ys) (fun e => h (by rw [List.length_cons, List.length_cons, e]))
    rw [eqL, this, Bool.and_false]
theorem eqL_same {xs ys : List V} (h : xs.length = ys.length) : (List.range xs.length).all (eqAtN xs ys) = eqL xs ys := by
  have := eqL_all xs ys
  rw [← h, Nat.min_self, beq_self_eq_true, Bool.and_true] at this
  exact this
theorem op_neLs (hu : X.A.units + 1 < cLine) : OpR X (compareOp .NotEq) (rEqLs X.K true) := by
  intro pins s σ H x y v u Q I rx ry h
  obtain ⟨a, b, xs, ys, rfl, rfl, ha, hb, f1, f2, q⟩ := h
  cases rx
  cases ry
  obtain ⟨its, r1, p1, _⟩ := I.list ha
  obtain ⟨its2, r2, p2, _⟩ := I.list hb
  have l1 := r1.length
  have l2 := r2.length
  by_cases hl : xs.length = ys.length
  · refine SeqAt.RcNeAt.lists (e := eqAtN xs ys) p1.isList p2.isList (by rw [List.size_toArray, List.size_toArray]; omega) (by omega) (eq_items r1 r2 f1 f2) _ _ _ _ ⟨.bl _, H, I, rfl, ?_⟩
    rw [List.size_toArray, ← l1, eqL_same hl]
    exact q
  · refine SeqAt.RcNeAt.lists_lengths p1.isList p2.isList (by rw [List.size_toArray, List.size_toArray]; simp; omega) (by omega) _ _ _ _ ⟨.bl _, H, I, rfl, ?_⟩
    have e := eqL_len hl
    simp only [e] at q
    exact q
/-! ### xs * k -/
def rRepG : R2 := fun x y H Q => ∃ l k xs, x = .ref l ∧ y = .int k ∧ H l = some (.lst xs) ∧ -(2 ^ 63) ≤ k ∧ k < 2 ^ 63 ∧ xs.length * k.toNat ≤ sizeLine ∧ newQ H (.lst (List.replicate k.toNat xs).flatten) Q
theorem op_repG : OpR X (binaryOp .Mult) rRepG := op_rep.imp fun x y H Q ⟨l, k, xs, e1, e2, h1, a, b, z, q⟩ => ⟨l, k, xs, e1, e2, h1, a, b, z, q.at⟩
end
section
variable {prog : Program} {w : World} {A : Around} {E : Value → Shared → Prop} {s : Shared}
/-- t[lo:hi], the whole: t itself -/
theorem cut_whole {t sl : Addr} {items : Array Value} {vl vu : Value} {lo hi : Option Int} {Q : Value → Shared → Prop} (ht : IsTup s.heap t items) (hs : s.heap.IsSliceOf sl vl vu .none) (pl : IsPart vl lo) (pu : IsPart vu hi)
    (hw : HT.sIx items.size 0 lo = 0 ∧ HT.sIx items.size items.size hi = items.size) (h : Q (.ref t) s) : wpAny (model prog w) A (getItem (.ref t) (.ref sl)) Q E s := by
  have hTs : s.TypeIs (.ref sl) "slice" := by
    obtain ⟨o, ho, hc, _⟩ := hs
    exact ⟨o, ho, hc⟩
  unfold getItem
  try with_reducible refine wpAny_holding ?_
  first | refine wpAny_bind (wpAny_pure ?_) | skip
  refine wpAny_bind (wpAny_sequenceKey ht.typeIs (by decide) ?_)
  refine wpAny_bind (wpAny_callSpecial?_slot (name := Str.ofString "__getitem__") ht.typeIs PyProof.Rows.slot_tuple_getitem
    (wpAny_call_entry PyProof.Rows.slot_tuple_getitem ht.typeIs entry_tuple_getitem ?_ (args_tuple_getitem _ _)))
  show wpAny _ _ (Builtin.Tuple.tupleItemsOf (.ref t) >>= _) _ _ s
  refine wpAny_bind (tupleItemsOf_ ht ?_)
  refine wpAny_bind (wpAny_typeOf hTs ?_)
  rw [if_pos (by decide)]
  refine wpAny_bind (HT.sliceApplied_gen hs pl pu ?_)
  rw [hw.1, hw.2]
  show wpAny _ _ (if ((((0 : Nat) : Int) == 0) && ((1 : Int) == 1) && ((items.size - 0) == items.size)) = true then _ else _) _ _ s
  rw [if_pos (by simp)]
  refine wpAny_bind (show wpAny _ _ (typeOf (Value.ref t) >>= fun c => pure (c == .type "tuple")) _ _ _ from wpAny_bind (wpAny_typeOf ht.typeIs (wpAny_pure ?_)))
  show wpAny _ _ (if (Value.type "tuple" == Value.type "tuple") = true then _ else _) _ _ s
  rw [if_pos (by decide +kernel)]
  refine wpAny_bind (wpAny_rule ?_)
  exact wpAny_pure ⟨_, rfl, wpAny_pure h⟩
end
section
variable {X : Cx}
/-- t[lo:hi] of a tuple, the whole too -/
def rSlTG (K : PySem.W.Frag) : V → Option Int → Option Int → Hp → VK → Prop := fun x lo hi H Q => ∃ a xs, x = .ref a ∧ SqT K H a xs ∧ ∀ p H', Same H H' → SqT K H' p (cutV xs lo hi) → Q (.ref p) H'
theorem cutV_whole {xs : List V} {lo hi : Option Int} (h : HT.sIx xs.length 0 lo = 0 ∧ HT.sIx xs.length xs.length hi = xs.length) : cutV xs lo hi = xs := by
  unfold cutV
  rw [h.1, h.2, List.drop_zero, Nat.sub_zero, List.take_length]
theorem sl_tupG : SlR X (rSlTG X.K) := by
  intro pins s σ H x v vl vu lo hi sl Q I rx hs pl pu h
  obtain ⟨a, xs, rfl, hx, q⟩ := h
  by_cases hw : HT.sIx xs.length 0 lo = 0 ∧ HT.sIx xs.length xs.length hi = xs.length
  · cases rx
    obtain ⟨its, r, ht, hz⟩ := I.tuple hx
    have hlen : its.toArray.size = xs.length := by rw [List.size_toArray]; exact r.length.symm
    refine ⟨"tuple", _, PyProof.Rows.slot_tuple_getitem.lookup, ht.typeIs, ?_⟩
    refine cut_whole ht hs pl pu (by rw [hlen]; exact hw) ⟨.ref a, H, I, rfl, q a H (Same.refl H) ?_⟩
    rw [cutV_whole hw]
    exact hx
  · exact sl_tup pins s σ H _ v vl vu lo hi sl Q I rx hs pl pu ⟨a, xs, rfl, hx, hw, fun p hp => q p _ (same_new hp _) (SqT.of upd_same)⟩
end
section
variable {X : Cx} {tg : Expr}
/-- a slice of a list or of a tuple -/
def rSlA (K : PySem.W.Frag) : V → Option Int → Option Int → Hp → VK → Prop := fun x lo hi H Q => rSlLS K x lo hi H Q ∨ rSlTG K x lo hi H Q
def rIxA (K : PySem.W.Frag) : R2 := fun x y H Q => rIxL K x y H Q ∨ rIxT K x y H Q
def iRevA (K : PySem.W.Frag) (ta : TA) : TI := fun σ H R => ta σ H fun vs H1 => ∃ a xs, vs = [.ref a] ∧ ((SqL K H1 a xs ∧ R (ItvL K a xs) H1) ∨ (SqT K H1 a xs ∧ R (ItvT K a xs) H1))
end
end L2

set_option linter.all false
set_option maxRecDepth 100000
set_option maxHeartbeats 4000000
namespace L2
open PySem PySem.Spec PyProof.Rows

/-! ### lists of pairs as tables -/
section
variable {κ : Type} [DecidableEq κ]
def valV (kvs : List (κ × V)) (k : κ) : Option V := (kvs.find? fun kv => decide (kv.1 = k)).map (·.2)
/-- in its place, or at the end -/
def putK (kvs : List (κ × V)) (k : κ) (v : V) : List (κ × V) :=
  if (kvs.any fun kv => decide (kv.1 = k)) = true then kvs.map (fun kv => if kv.1 = k then (kv.1, v) else kv) else kvs ++ [(k, v)]
def dropK (kvs : List (κ × V)) (k : κ) : List (κ × V) := kvs.filter fun kv => decide (kv.1 ≠ k)

theorem valV_pos {p : κ × V} {r : List (κ × V)} {k : κ} (e : p.1 = k) : valV (p :: r) k = some p.2 := by simp [valV, List.find?_cons, e]
theorem valV_neg {p : κ × V} {r : List (κ × V)} {k : κ} (e : ¬ p.1 = k) : valV (p :: r) k = valV r k := by simp [valV, List.find?_cons, e]
theorem valV_any (k : κ) : ∀ kvs : List (κ × V), (kvs.any fun kv => decide (kv.1 = k)) = (valV kvs k).isSome
  | [] => rfl
  | p :: r => by
    rw [List.any_cons]
    by_cases e : p.1 = k
    · simp only [valV_pos e, decide_eq_true e, Bool.true_or, Option.isSome_some]
    · rw [valV_neg e, decide_eq_false e, Bool.false_or]; exact valV_any k r
theorem length_putK (kvs : List (κ × V)) (k : κ) (v : V) : (putK kvs k v).length ≤ kvs.length + 1 := by
  unfold putK
  split
  · rw [List.length_map]; omega
  · rw [List.length_append, List.length_cons, List.length_nil]; omega
theorem RelO.isSome_eq {o : Option V} {u : Option Value} (r : RelO o u) : o.isSome = u.isSome := by
  cases o with
  | none => cases u with
    | none => rfl
    | some _ => exact (show False from r).elim
  | some _ => cases u with
    | none => exact (show False from r).elim
    | some _ => rfl
theorem RelO.getD {o : Option V} {u : Option Value} {d : V} {d' : Value} (r : RelO o u) (rd : RelV d d') : RelV (o.getD d) (u.getD d') := by
  cases o with
  | none => cases u with
    | none => exact rd
    | some _ => exact (show False from r).elim
  | some _ => cases u with
    | none => exact (show False from r).elim
    | some _ => exact r

/-- raw tables of the same keys -/
theorem KV.val {kvs : List (κ × V)} {vs : List (κ × Value)} (r : KV kvs vs) (k : κ) : RelO (valV kvs k) (valueAt vs k) := by
  unfold KV at r
  induction r with
  | nil => exact True.intro
  | @cons p q ps qs h t ih =>
    obtain ⟨h1, h2⟩ := h
    by_cases e : p.1 = k
    · have e' : q.1 = k := h1.symm.trans e
      have b : valueAt (q :: qs) k = some q.2 := by simp [valueAt, List.find?_cons, e']
      rw [valV_pos e, b]; exact h2
    · have e' : ¬ q.1 = k := fun z => e (h1.trans z)
      have b : valueAt (q :: qs) k = valueAt qs k := by simp [valueAt, List.find?_cons, e']
      rw [valV_neg e, b]; exact ih
theorem KV.any {kvs : List (κ × V)} {vs : List (κ × Value)} (r : KV kvs vs) (k : κ) : (kvs.any fun kv => decide (kv.1 = k)) = vs.any fun kv => decide (kv.1 = k) := by
  unfold KV at r
  induction r with
  | nil => rfl
  | cons h t ih => rw [List.any_cons, List.any_cons, ih, h.1]
theorem KV.repl {kvs : List (κ × V)} {vs : List (κ × Value)} (r : KV kvs vs) (k : κ) {y : V} {u : Value} (ry : RelV y u) :
    KV (kvs.map fun kv => if kv.1 = k then (kv.1, y) else kv) (vs.map fun kv => if kv.1 = k then (kv.1, u) else kv) := by
  unfold KV at r ⊢
  induction r with
  | nil => exact .nil
  | @cons p q ps qs h t ih =>
    rw [List.map_cons, List.map_cons]
    refine .cons ?_ ih
    obtain ⟨h1, h2⟩ := h
    by_cases e : p.1 = k
    · rw [if_pos e, if_pos (h1.symm.trans e)]; exact ⟨h1, ry⟩
    · rw [if_neg e, if_neg (fun z => e (h1.trans z))]; exact ⟨h1, h2⟩
theorem KV.put {kvs : List (κ × V)} {vs : List (κ × Value)} (r : KV kvs vs) (k : κ) {y : V} {u : Value} (ry : RelV y u) : KV (putK kvs k y) (stored vs k u) := by
  unfold putK stored
  rw [r.any k]
  by_cases e : (vs.any fun kv => decide (kv.1 = k)) = true
  · rw [if_pos e, if_pos e]; exact r.repl k ry
  · rw [if_neg e, if_neg e]; exact Paired.snoc r ⟨rfl, ry⟩
theorem KV.drop {kvs : List (κ × V)} {vs : List (κ × Value)} (r : KV kvs vs) (k : κ) : KV (dropK kvs k) (without vs k) := by
  unfold KV at r ⊢
  unfold dropK without
  induction r with
  | nil => exact .nil
  | @cons p q ps qs h t ih =>
    obtain ⟨h1, h2⟩ := h
    rw [List.filter_cons, List.filter_cons]
    by_cases e : p.1 = k
    · have a : ¬ decide (p.1 ≠ k) = true := by simp [e]
      have b : ¬ decide (q.1 ≠ k) = true := by simp [h1.symm.trans e]
      rw [if_neg a, if_neg b]; exact ih
    · have e' : ¬ q.1 = k := fun z => e (h1.trans z)
      have a : decide (p.1 ≠ k) = true := by simp [e]
      have b : decide (q.1 ≠ k) = true := by simp [e']
      rw [if_pos a, if_pos b]; exact .cons ⟨h1, h2⟩ ih
theorem KV.keys {kvs : List (κ × V)} {vs : List (κ × Value)} (r : KV kvs vs) : kvs.map (·.1) = vs.map (·.1) := by
  unfold KV at r
  induction r with
  | nil => rfl
  | cons h t ih => rw [List.map_cons, List.map_cons, ih, h.1]
theorem KV.length {kvs : List (κ × V)} {vs : List (κ × Value)} (r : KV kvs vs) : kvs.length = vs.length := Paired.length r
end


/-! ### a tracked dict, its keys ints and texts or tuples of these -/
theorem kV_is {P : Program} {w : World} {k : Key} {u : Value} (r : RelV (kV k) u) : (mixKind P w).is k u = true := by
  cases k with
  | inl i => obtain ⟨t, e⟩ := (show ∃ t, u = Value.int i t from r); subst e; exact mixKind_int P w i t
  | inr x => obtain ⟨t, e⟩ := (show ∃ t, u = Value.str x t from r); subst e; exact mixKind_str P w x t
theorem items_are {P : Program} {w : World} : ∀ {ks : List Key} {us : List Value}, Vals (ks.map kV) us → ItemsAre (mixKind P w) ks us
  | [], _, r => by rw [List.map_nil] at r; cases r; exact .nil
  | k :: ks, _, r => by
    rw [List.map_cons] at r
    cases r with
    | cons h t => exact .cons (kV_is h) (items_are t)

/-- raw entries of a dict with tuple keys -/
abbrev KT (H : Hp) : List (List Key × V) → List (List Key × Addr × Value) → Prop := Paired fun p q => p.1 = q.1 ∧ H q.2.1 = some (.tup (p.1.map kV)) ∧ RelV p.2 q.2.2
theorem KT.val {H : Hp} {kvs : List (List Key × V)} {xs : List (List Key × Addr × Value)} (r : KT H kvs xs) (k : List Key) : RelO (valV kvs k) ((atKey xs k).map (·.2)) := by
  induction r with
  | nil => exact True.intro
  | @cons p q ps qs h t ih =>
    obtain ⟨h1, _, h2⟩ := h
    by_cases e : p.1 = k
    · have e' : q.1 = k := h1.symm.trans e
      have b : atKey (q :: qs) k = some q.2 := by simp [atKey, List.find?_cons, e']
      rw [valV_pos e, b]; exact h2
    · have e' : ¬ q.1 = k := fun z => e (h1.trans z)
      have b : atKey (q :: qs) k = atKey qs k := by simp [atKey, List.find?_cons, e']
      rw [valV_neg e, b]; exact ih
theorem KT.repl {H : Hp} {kvs : List (List Key × V)} {xs : List (List Key × Addr × Value)} (r : KT H kvs xs) (k : List Key) {y : V} {u : Value} (ry : RelV y u) :
    KT H (kvs.map fun kv => if kv.1 = k then (kv.1, y) else kv) (xs.map (putAt k u)) := by
  induction r with
  | nil => exact .nil
  | @cons p q ps qs h t ih =>
    rw [List.map_cons, List.map_cons]
    refine .cons ?_ ih
    obtain ⟨h1, h2, h3⟩ := h
    unfold putAt
    by_cases e : p.1 = k
    · rw [if_pos e, if_pos (h1.symm.trans e)]; exact ⟨h1, h2, ry⟩
    · rw [if_neg e, if_neg (fun z => e (h1.trans z))]; exact ⟨h1, h2, h3⟩
theorem KT.put {H : Hp} {kvs : List (List Key × V)} {xs : List (List Key × Addr × Value)} (r : KT H kvs xs) (k : List Key) {b : Addr} {y : V} {u : Value} (hb : H b = some (.tup (k.map kV))) (ry : RelV y u) :
    KT H (putK kvs k y) (storedH xs k b u) := by
  have e : (kvs.any fun kv => decide (kv.1 = k)) = (atKey xs k).isSome := by
    rw [valV_any, (r.val k).isSome_eq, Option.isSome_map]
  unfold putK storedH
  rw [e]
  by_cases q : (atKey xs k).isSome = true
  · rw [if_pos q, if_pos q]; exact r.repl k ry
  · rw [if_neg q, if_neg q]; exact Paired.snoc r ⟨rfl, hb, ry⟩
theorem KT.keeps {H H' : Hp} {kvs : List (List Key × V)} {xs : List (List Key × Addr × Value)} (r : KT H kvs xs) (ht : ∀ b ys, H b = some (.tup ys) → H' b = some (.tup ys)) : KT H' kvs xs :=
  Paired.mapP r fun _ _ z => ⟨z.1, ht _ _ z.2.1, z.2.2⟩

section
variable {P : Program} {w : World} {H : Hp} {h : Heap} {a : Addr}
theorem rd_of {u : HO} (ok : HOk P w H h) (e : Rd H a u) : ObjOk P w H h a u := e.ok ok
theorem dk_rd {kvs : List (Key × V)} (ok : HOk P w H h) (e : Rd H a (.dK kvs)) : kvs.length ≤ sizeLine ∧ (a == sysModules) = false ∧ ∃ vs, KV kvs vs ∧ h.DictOf (mixKind P w) a vs :=
  show ObjOk P w H h a (.dK kvs) from rd_of ok e
theorem dk_of {kvs : List (Key × V)} (ok : HOk P w H h) (e : H a = some (.dK kvs)) : kvs.length ≤ sizeLine ∧ (a == sysModules) = false ∧ ∃ vs, KV kvs vs ∧ h.DictOf (mixKind P w) a vs := dk_rd ok (.inl e)
/-- a tracked tuple of ints and texts is a key -/
theorem key_of {ks : List Key} (ok : HOk P w H h) (e : H a = some (.tup (ks.map kV))) : (tupleKind (mixKind P w)).is h ks a := by
  obtain ⟨_, its, r, o, h1, h2, n, h3⟩ := (show ObjOk P w H h a (.tup (ks.map kV)) from ok a _ e)
  exact ⟨o, its.toArray, n, h1, h2, h3, by simpa using items_are r⟩
theorem dt_rd {kvs : List (List Key × V)} (ok : HOk P w H h) (e : Rd H a (.dT kvs)) : kvs.length ≤ sizeLine ∧ (a == sysModules) = false ∧
    ∃ xs, KT H kvs xs ∧ h.DictOfH (tupleKind (mixKind P w)) a xs := by
  obtain ⟨z, y, xs, r, o, es, ep, h1, h2, h3, h4, h5⟩ := (show ObjOk P w H h a (.dT kvs) from rd_of ok e)
  refine ⟨z, y, xs, r, o, es, ep, h1, h2, h3, h4, fun x hx => ?_, h5⟩
  have all : ∀ {l : List (List Key × V)} {m : List (List Key × Addr × Value)}, KT H l m → ∀ x ∈ m, (tupleKind (mixKind P w)).is h x.1 x.2.1 := by
    intro l m q
    induction q with
    | nil => intro x hx; exact nomatch hx
    | @cons p q ps qs hq t ih =>
      intro x hx
      rcases List.mem_cons.mp hx with e | hx
      · subst e
        exact key_of ok (by rw [← hq.1]; exact hq.2.1)
      · exact ih x hx
  exact all r x hx
theorem dt_of {kvs : List (List Key × V)} (ok : HOk P w H h) (e : H a = some (.dT kvs)) : kvs.length ≤ sizeLine ∧ (a == sysModules) = false ∧
    ∃ xs, KT H kvs xs ∧ h.DictOfH (tupleKind (mixKind P w)) a xs := dt_rd ok (.inl e)
end

/-- what the dict at a holds at the key y -/
def DGet (H : Hp) (a : Addr) (y : V) (r : Option V) : Prop :=
  (∃ kvs k, Rd H a (.dK kvs) ∧ y = kV k ∧ r = valV kvs k) ∨ ∃ kvs k b, Rd H a (.dT kvs) ∧ y = .ref b ∧ H b = some (.tup (k.map kV)) ∧ r = valV kvs k
/-- the heap behind a[y] = v -/
def DPut (H : Hp) (a : Addr) (y v : V) (H' : Hp) : Prop :=
  (∃ kvs k, H a = some (.dK kvs) ∧ y = kV k ∧ kvs.length < sizeLine ∧ H' = upd H a (.dK (putK kvs k v))) ∨
  ∃ kvs k b, H a = some (.dT kvs) ∧ y = .ref b ∧ H b = some (.tup (k.map kV)) ∧ kvs.length < sizeLine ∧ H' = upd H a (.dT (putK kvs k v))
theorem DGet.k {H : Hp} {a : Addr} {kvs : List (Key × V)} {k : Key} (e : H a = some (.dK kvs)) : DGet H a (kV k) (valV kvs k) := .inl ⟨kvs, k, .inl e, rfl, rfl⟩
theorem DGet.t {H : Hp} {a b : Addr} {kvs : List (List Key × V)} {k : List Key} (e : H a = some (.dT kvs)) (eb : H b = some (.tup (k.map kV))) : DGet H a (.ref b) (valV kvs k) := .inr ⟨kvs, k, b, .inl e, rfl, eb, rfl⟩
theorem DPut.k {H : Hp} {a : Addr} {kvs : List (Key × V)} {k : Key} {v : V} (e : H a = some (.dK kvs)) (hl : kvs.length < sizeLine) : DPut H a (kV k) v (upd H a (.dK (putK kvs k v))) := .inl ⟨kvs, k, e, rfl, hl, rfl⟩
theorem DPut.t {H : Hp} {a b : Addr} {kvs : List (List Key × V)} {k : List Key} {v : V} (e : H a = some (.dT kvs)) (eb : H b = some (.tup (k.map kV))) (hl : kvs.length < sizeLine) :
    DPut H a (.ref b) v (upd H a (.dT (putK kvs k v))) := .inr ⟨kvs, k, b, e, rfl, eb, hl, rfl⟩


section
variable {X : Cx} {pins : List (Addr × Obj)} {σ : St} {H : Hp} {s : Shared} {a : Addr} {y v : V} {u r : Value} {o : Option V} {A : Around} {E : Value → Shared → Prop}

theorem Inv.big (I : Inv X pins σ H s) : sysModules < s.heap.objs.size := by
  have h : mainGlobals < s.heap.objs.size := (I.mod.glob.keeps I.bk).lt
  exact Nat.lt_trans (by decide) h

/-- d[y], there -/
theorem d_getItem {Q : Value → Shared → Prop} (hu : A.units + 1 < cLine) (I : Inv X pins σ H s) (g : DGet H a y (some v)) (ry : RelV y u) (h : ∀ w' s', Inv X pins σ H s' → RelV v w' → Q w' s') :
    wpAny (model X.prog X.w) A (getItem (.ref a) u) Q E s := by
  rcases g with ⟨kvs, k, e, ey, l⟩ | ⟨kvs, k, b, e, ey, eb, l⟩
  · subst ey
    obtain ⟨z, hd, vs, rel, dd⟩ := dk_rd I.hok e
    obtain ⟨w', hw, rw'⟩ := RelO.some_of (v := v) (o := valueAt vs k) (by rw [l]; exact rel.val k)
    exact wpAny_getItem_of (kV_is ry) dd.mapOf hw (h w' _ (I.tok _) rw')
  · subst ey
    cases (show u = Value.ref b from ry)
    obtain ⟨z, hd, xs, rel, dd⟩ := dt_rd I.hok e
    obtain ⟨w', hw, rw'⟩ := RelO.some_of (v := v) (o := (atKey xs k).map (·.2)) (by rw [l]; exact rel.val k)
    obtain ⟨p, hp, hp2⟩ := Option.map_eq_some_iff.mp hw
    refine wpAny_getItem_heap (tupleKind_room_in1 hu) (key_of I.hok eb) dd hp ?_
    rw [hp2]
    exact h w' _ (I.tok _) rw'
theorem d_notIn {Q : Value → Shared → Prop} (hu : A.units + 1 < cLine) (I : Inv X pins σ H s) (g : DGet H a y o) (ry : RelV y u) (h : ∀ s', Inv X pins σ H s' → Q (.bool (!o.isSome)) s') :
    wpAny (model X.prog X.w) A (compareOp .NotIn u (.ref a)) Q E s := by
  rcases g with ⟨kvs, k, e, ey, l⟩ | ⟨kvs, k, b, e, ey, eb, l⟩
  · subst ey
    obtain ⟨z, hd, vs, rel, dd⟩ := dk_rd I.hok e
    refine wpAny_notIn_of (kV_is ry) hd dd.mapOf ?_
    rw [← (rel.val k).isSome_eq, ← l]
    exact h _ (I.tok _)
  · subst ey
    cases (show u = Value.ref b from ry)
    obtain ⟨z, hd, xs, rel, dd⟩ := dt_rd I.hok e
    refine wpAny_notIn_heap (tupleKind_room_in1 hu) (key_of I.hok eb) hd dd ?_
    have q := (rel.val k).isSome_eq
    rw [Option.isSome_map] at q
    rw [← q, ← l]
    exact h _ (I.tok _)
/-- a dict's object is replaced -/
theorem d_write {h' : Heap} {t' : Nat} {ob : HO} (I : Inv X pins σ H s) (mu : Mut (H a)) (hs : Heap.SameBut a s.heap h') (he : ∃ q, h'.get? a = some q) (new : ObjOk X.prog X.w (upd H a ob) h' a ob) :
    Inv X pins σ (upd H a ob) { s with heap := h', toks := t' } :=
  I.write (x := a) (e := a) mu (.inl rfl) (fun b q hb z => (hs.2 b hb).trans z) he new
theorem dk_new {P : Program} {w : World} {H' : Hp} {h' : Heap} {kvs : List (Key × V)} {vs : List (Key × Value)} (z : kvs.length ≤ sizeLine) (hd : (a == sysModules) = false) (rel : KV kvs vs) (dd : h'.DictOf (mixKind P w) a vs) :
    ObjOk P w H' h' a (.dK kvs) := ⟨z, hd, vs, rel, dd⟩
/-- d[y] = v -/
theorem d_setItem {H' : Hp} {Q : Unit → Shared → Prop} (hu : A.units + 1 < cLine) (I : Inv X pins σ H s) (g : DPut H a y v H') (ry : RelV y u) (rv : RelV v r) (h : ∀ s', Inv X pins σ H' s' → Q () s') :
    wpAny (model X.prog X.w) A (setItem (.ref a) u r) Q E s := by
  rcases g with ⟨kvs, k, e, ey, l, eH⟩ | ⟨kvs, k, b, e, ey, eb, l, eH⟩
  · subst ey eH
    obtain ⟨z, hd, vs, rel, dd⟩ := dk_of I.hok e
    have hz : vs.length ≤ sizeLine := by rw [← rel.length]; exact z
    have hl : (putK kvs k v).length ≤ sizeLine := by have := length_putK kvs k v; omega
    refine wpAny_setItem_pairs (hsz := hz) (kV_is ry) dd fun h' dd' hs => h _ ?_
    have he : ∃ q, h'.get? a = some q := let ⟨q, _, _, hq, _⟩ := dd'; ⟨q, hq⟩
    exact d_write I (by rw [e]; exact True.intro) hs he (dk_new hl hd (rel.put k rv) dd')
  · subst ey eH
    cases (show u = Value.ref b from ry)
    obtain ⟨z, hd, xs, rel, dd⟩ := dt_of I.hok e
    have hz : xs.length ≤ sizeLine := by rw [← Paired.length rel]; exact z
    have hl : (putK kvs k v).length ≤ sizeLine := by have := length_putK kvs k v; omega
    refine wpAny_setItem_heap (hsz := hz) (tupleKind_room_in1 hu) (key_of I.hok eb) dd fun h' dd' hs => h _ ?_
    obtain ⟨q, es, ep, hq, h2, h3, h4, _, h5⟩ := dd'
    refine d_write I (by rw [e]; exact True.intro) hs ⟨q, hq⟩ ⟨hl, hd, _, (rel.put k eb rv).keeps fun c ys ec => ?_, q, es, ep, hq, h2, h3, h4, h5⟩
    rw [upd_ne (ne_of ec e (fun z => nomatch z))]
    exact ec
end

section
variable {X : Cx} {pins : List (Addr × Obj)} {σ : St} {H : Hp} {s : Shared} {a : Addr} {kvs : List (Key × V)} {k : Key} {u : Value} {A : Around} {E : Value → Shared → Prop}
end


/-! ### readings and rules -/
/-- the element of a subscription, not a slice -/
def NoSl (i : Expr) : Prop := ∀ ov iv, subscripted i false ov iv = operate [ov, iv] (getItem ov iv)
theorem subD_of {prog : Program} {w : World} {A : Around} {E : Value → Shared → Prop} {s : Shared} {env : Env} {value slice : Expr} {pos : Pos} {T id : String} {Q : Value → Shared → Prop}
    (hl : typeLookup (.type T) "__getitem__" = pure (some (.builtin id))) (hs : NoSl slice)
    (h : wpAny (model prog w) A (eval value env) (fun o s₁ => wpAny (model prog w) A (eval slice env) (fun i s₂ => s₂.TypeIs o T ∧ wpAny (model prog w) A (getItem o i) Q E s₂) E s₁) E s) :
    wpAny (model prog w) A (eval (.Subscript value slice pos) env) Q E s := by
  refine Subscript_ (wpAny_mono h (fun o s₁ h₁ => wpAny_mono h₁ (fun i s₂ h₂ => ?_) fun _ _ x => x) fun _ _ x => x)
  obtain ⟨hT, h₂⟩ := h₂
  unfold subscriptTail
  refine wpAny_bind ?_
  rw [getitemInPython_of_ne hT.not_modules]
  refine wpAny_bind (wpAny_specialOf hT hl ?_)
  have fin : wpAny (model prog w) A (subscripted slice false o i) (fun r s₃ => wpAny (model prog w) A (letTemporaryGo value o r >>= fun _ => pure r) Q E s₃) E s₂ := by
    rw [hs o i]
    exact wpAny_operating (wpAny_mono h₂ (fun r s₃ h₃ => wpAny_bind (wpAny_letTemporaryGo (wpAny_pure h₃))) fun _ _ x => x)
  first
    | exact wpAny_pure (wpAny_bind fin)
    | exact wpAny_bind (wpAny_pure (wpAny_bind fin))
    | exact wpAny_bind fin

theorem dict_typeIs {X : Cx} {pins : List (Addr × Obj)} {σ : St} {H : Hp} {s : Shared} {a : Addr} {y : V} {o : Option V} (I : Inv X pins σ H s) (g : DGet H a y o) : s.TypeIs (.ref a) "dict" := by
  rcases g with ⟨kvs, k, e, _, _⟩ | ⟨kvs, k, b, e, _, _, _⟩
  · obtain ⟨_, _, vs, _, dd⟩ := dk_rd I.hok e
    exact dd.typeIs
  · obtain ⟨_, _, xs, _, dd⟩ := dt_rd I.hok e
    exact dd.typeIs
/-- d[y] -/
def tDGet (td ty : TE) : TE := fun σ H Q => td σ H fun x H1 => ty σ H1 fun y H2 => ∃ a v, x = .ref a ∧ DGet H2 a y (some v) ∧ Q v H2
/-- y in d, y not in d -/
def tDIn (ty td : TE) : TE := fun σ H Q => ty σ H fun y H1 => td σ H1 fun x H2 => ∃ a o, x = .ref a ∧ DGet H2 a y o ∧ Q (.bl o.isSome) H2
def tDNotIn (ty td : TE) : TE := fun σ H Q => ty σ H fun y H1 => td σ H1 fun x H2 => ∃ a o, x = .ref a ∧ DGet H2 a y o ∧ Q (.bl (!o.isSome)) H2
/-- d[y] = v -/
def sDPut (td ty tv : TE) : TS := fun D σ H => tv σ H fun v H1 => td σ H1 fun x H2 => ty σ H2 fun y H3 => ∃ a H4, x = .ref a ∧ DPut H3 a y v H4 ∧ D.nx σ H4
section
variable {X : Cx} {o i e value : Expr} {pos pos' tpos : Pos} {td ty tv : TE}
theorem pe_dget (hu : X.A.units + 1 < cLine) (ho : PE X o td) (hi : PE X i ty) (hs : NoSl i) : PE X (.Subscript o i pos) (tDGet td ty) := by
  intro pins s σ H Q I h
  refine subD_of PySem.F.slot_dict_getitem.lookup hs (thn (ho pins s σ H _ I h) fun u s1 ⟨x, H1, I1, rx, q1⟩ => thn (hi pins s1 σ H1 _ I1 q1) fun iv s2 ⟨y, H2, I2, ry, a, v, ex, g, q2⟩ => ?_)
  subst ex
  obtain rfl : u = Value.ref a := rx
  exact ⟨dict_typeIs I2 g, d_getItem hu I2 g ry fun w' s3 I3 rw' => ⟨v, H2, I3, rw', q2⟩⟩
theorem pc_dnotin (hu : X.A.units + 1 < cLine) (hi : PE X i ty) (ho : PE X o td) : PC X .NotIn i o (tDNotIn ty td) := by
  intro pins s σ H Q I h
  refine thn (hi pins s σ H _ I h) fun iv s1 ⟨y, H1, I1, ry, q1⟩ => thn (ho pins s1 σ H1 _ I1 q1) fun u s2 ⟨x, H2, I2, rx, a, ov, ex, g, q2⟩ => ?_
  subst ex
  obtain rfl : u = Value.ref a := rx
  exact d_notIn hu I2 g ry fun s3 I3 => ⟨.bl (!ov.isSome), H2, I3, rfl, q2⟩
theorem ps_dput (hu : X.A.units + 1 < cLine) (ho : PE X o td) (hi : PE X i ty) (hv : PE X value tv) (hs : swapsWith value (some (.Subscript o i pos')) pos.line X.env = pure false) :
    PS X (.Assign [.Subscript o i pos'] value pos) (sDPut td ty tv) := by
  intro pins s σ H D I h
  refine wpAny_Assign_Subscript (thn (hv pins s σ H _ I h) fun r s1 ⟨v, H1, I1, rv, q1⟩ => thn (ho pins s1 σ H1 _ I1 q1) fun u s2 ⟨x, H2, I2, rx, q2⟩ => thn (hi pins s2 σ H2 _ I2 q2) fun iv s3 ⟨y, H3, I3, ry, a, H4, ex, g, q3⟩ => ?_) hs
  subst ex
  obtain rfl : u = Value.ref a := rx
  exact d_setItem hu I3 g ry rv fun s4 I4 => ⟨σ, H4, I4, q3⟩
end


/-! ### displays -/
theorem dt_empty {P : Program} {w : World} {H : Hp} (h : Heap) (hb : sysModules < h.objs.size) : ObjOk P w H (h.push { cls := .type "dict", data := .dict #[] }) h.objs.size (.dT []) :=
  ⟨Nat.zero_le _, beq_eq_false_iff_ne.mpr (Ne.symm (Nat.ne_of_lt hb)), [], .nil, _, #[], 0, Heap.get?_push_size _ rfl, ⟨rfl, rfl, rfl⟩, rfl, rfl, List.nodup_nil⟩
def tDNewT : TE := fun _ H Q => ∀ p, H p = none → Q (.ref p) (upd H p (.dT []))
section
variable {X : Cx} {pos : Pos}
theorem pe_dnewT : PE X (.Dict [] [] pos) tDNewT := fun pins s σ H Q I h =>
  wpAny_Dict_empty ⟨.ref s.heap.objs.size, _, I.laid (a := s.heap.objs.size) (o := .dT []) (t' := s.toks) (fun _ _ q => Heap.get?_push_of_some _ q) (Nat.le_refl _) (dt_empty s.heap I.big), rfl, h _ (I.hok.fresh (Nat.le_refl _))⟩
end
end L2

set_option linter.all false
set_option maxRecDepth 100000
set_option maxHeartbeats 4000000
namespace L2
open PySem PySem.Spec PyProof.Rows
/-! ### t + u, either may be empty -/
section
variable {prog : Program} {w : World} {A : Around} {E : Value → Shared → Prop} {s : Shared}
theorem cat_none {t b : Addr} {ws : List Value} {Q : Value → Shared → Prop} (x : IsTup s.heap t ([] : List Value).toArray) (y : IsTup s.heap b ws.toArray) (h : Q (.ref b) s) : wpAny (model prog w) A (binaryOp .Add (.ref t) (.ref b)) Q E s := by
  obtain ⟨⟨c1, e1, d1, l1⟩, g1, q1, k1, f1⟩ := id x
  obtain ⟨⟨c2, e2, d2, l2⟩, g2, q2, k2, f2⟩ := id y
  simp only at q1 f1 q2 f2
  subst q1 f1 q2 f2
  have m := tuple_addW0 t b ([] : List Value).toArray ws.toArray k1 k2 e1 e2 l1 l2 rfl
  have a2 := PySem.F.args_tuple_add_2 (.ref t) (.ref b)
  exact concat_meets ⟨_, g1, rfl⟩ ⟨_, g2, rfl⟩ noFill_tuple_add
    seq_tuple_add PySem.F.slot_tuple_add
    PySem.F.entry_tuple_add a2 m ⟨g1, g2, h⟩
end
section
variable {X : Cx}
def rCatTG (K : PySem.W.Frag) : R2 := fun x y H Q => ∃ a b xs ys, x = .ref a ∧ y = .ref b ∧ SqT K H a xs ∧ SqT K H b ys ∧ xs.length + ys.length ≤ sizeLine ∧ ∀ p H', Same H H' → SqT K H' p (xs ++ ys) → Q (.ref p) H'
theorem op_catTG : OpR X (binaryOp .Add) (rCatTG X.K) := by
  intro pins s σ H x y v u Q I rx ry h
  obtain ⟨a, b, xs, ys, ex, ey, ha, hb, z, q⟩ := h
  by_cases e : xs = []
  · subst e ex ey
    cases rx
    cases ry
    obtain ⟨i1, r1, p1, _⟩ := I.tuple ha
    obtain ⟨i2, r2, p2, _⟩ := I.tuple hb
    cases r1
    exact cat_none p1 p2 ⟨.ref b, H, I, rfl, q b H (Same.refl H) hb⟩
  · exact op_catTS pins s σ H x y v u Q I rx ry ⟨a, b, xs, ys, ex, ey, ha, hb, e, z, q⟩
end
/-! ### a comprehension that reads one name of its frame -/
theorem Clos.one {X : Cx} {scope : Scope} {y0 : Str} {c0 : Addr} {i0 : Nat} (h1 : closureFor scope X.env = pure [(y0, c0)]) (h2 : X.env.cells.lookup y0 = some c0) (h3 : ∀ z ∈ scope.names, z.2 = .free → z.1 = y0)
    (h4 : X.N[i0]? = some y0) (h5 : X.env.scope.names.lookup y0 = some .cell) (h6 : scope.names.lookup y0 = some .free) : Clos X scope [(y0, c0)] [y0] [i0] where
  clos := h1
  sub := fun y c e => by
    by_cases z : y = y0
    · subst z
      simp at e
      subst e
      exact h2
    · rw [List.lookup_cons, beq_eq_false_iff_ne.mpr z] at e
      cases e
  has := fun y e => by
    have z := h3 _ (PySem.mem_of_lookup e) rfl
    have z : y = y0 := z
    subst z
    exact ⟨c0, by simp⟩
  at' := fun j y e => by
    cases j with
    | zero =>
      have z : y0 = y := by simpa using e
      subst z
      exact ⟨i0, rfl, h4, h5, h6⟩
    | succ j => simp at e
  len := rfl
end L2

namespace RM
/-! Euclid's loop and Newton's loop over Int -/
theorem gcd_step {a b : Int} (ha : 0 ≤ a) (hb : 0 < b) : Int.gcd b (a % b) = Int.gcd a b := by
  obtain ⟨m, rfl⟩ := Int.eq_ofNat_of_zero_le ha
  obtain ⟨n, rfl⟩ := Int.eq_ofNat_of_zero_le (Int.le_of_lt hb)
  show Nat.gcd n (((m : Int) % (n : Int)).natAbs) = Nat.gcd m n
  rw [← Int.natCast_emod, Int.natAbs_natCast, Nat.gcd_comm m n, Nat.gcd_rec n m, Nat.gcd_comm]
theorem gcd_abs (a b : Int) : Int.gcd (if a < 0 then -a else a) (if b < 0 then -b else b) = Int.gcd a b := by
  have h : ∀ x : Int, (if x < 0 then -x else x).natAbs = x.natAbs := fun x => by split <;> omega
  show Nat.gcd _ _ = Nat.gcd _ _
  rw [h, h]
theorem gcd_end {a : Int} (ha : 0 ≤ a) : ((Int.gcd a 0 : Nat) : Int) = a := by
  rw [Int.gcd_zero_right]; omega
/-- what Newton's step gives -/
theorem newton {g n : Int} (hg : 0 < g) (hn : 0 ≤ n) : n < ((g + n / g) / 2 + 1) * ((g + n / g) / 2 + 1) := by
  have q0 : 0 ≤ n / g := Int.ediv_nonneg hn (Int.le_of_lt hg)
  have q1 : n < (n / g + 1) * g := Int.lt_ediv_add_one_mul_self n hg
  generalize n / g = q at *
  have m1 : g + q + 1 ≤ 2 * ((g + q) / 2) + 2 := by omega
  have m0 : 0 ≤ (g + q) / 2 := by omega
  generalize (g + q) / 2 = m at *
  -- 4 (m+1)^2 >= (g+q+1)^2 >= 4 g (q+1) > 4 n
  have s1 : (g + q + 1) * (g + q + 1) ≤ (2 * m + 2) * (2 * m + 2) := Int.mul_le_mul m1 m1 (by omega) (by omega)
  have s2 : 0 ≤ (g - (q + 1)) * (g - (q + 1)) := by
    rcases Int.le_total 0 (g - (q + 1)) with h | h
    · exact Int.mul_nonneg h h
    · exact Int.mul_nonneg_of_nonpos_of_nonpos h h
  have e1 : (g + q + 1) * (g + q + 1) = (g - (q + 1)) * (g - (q + 1)) + 4 * ((q + 1) * g) := by
    simp only [Int.add_mul, Int.mul_add, Int.sub_mul, Int.mul_sub, Int.mul_comm q g, Int.one_mul, Int.mul_one]; omega
  have e2 : (2 * m + 2) * (2 * m + 2) = 4 * ((m + 1) * (m + 1)) := by
    simp only [Int.add_mul, Int.mul_add, Int.one_mul, Int.mul_one, Int.mul_assoc, Int.mul_left_comm m 2 m]; omega
  omega
theorem newton_falls {g n : Int} (hg : 0 < g) (hn : 0 ≤ n) (h : n < g * g) : (g + n / g) / 2 < g ∧ 0 ≤ (g + n / g) / 2 := by
  have q0 : 0 ≤ n / g := Int.ediv_nonneg hn (Int.le_of_lt hg)
  have q1 : n / g < g := Int.ediv_lt_of_lt_mul hg h
  omega
end RM

namespace RM
def by_ (u l : Int) : Int := if l < 0 then -((Int.gcd u l : Nat) : Int) else ((Int.gcd u l : Nat) : Int)
theorem gcd_times {u l m : Int} (h : Int.gcd u l = 1) (hm : 0 < m) : ((Int.gcd (u * m) (l * m) : Nat) : Int) = m := by
  rw [Int.gcd_mul_right, h]; omega
end RM

namespace RM
/-! rows by Euclid, ways down the tree -/
def steps : Int → List Int → List Int
  | _, [] => []
  | s, a :: r => List.replicate a.toNat s ++ steps (1 - s) r
/-- where a way leads -/
def W : List Int → Int × Int
  | [] => (1, 1)
  | s :: w => if s = 1 then ((W w).1 + (W w).2, (W w).2) else ((W w).1, (W w).1 + (W w).2)
end RM

namespace RM
/-! hearts, squares, lowest terms of three -/
def heart (a b c : Int) : Int := b * b - 4 * a * c
def IsSq (n : Int) : Prop := ∃ k : Int, k * k = n
def g3 (a b c : Int) : Int := ((Int.gcd ((Int.gcd a b : Nat) : Int) c : Nat) : Int)
def by3 (a b c : Int) : Int := if a < 0 then -(g3 a b c) else g3 a b c
structure Root (a b c s : Int) : Prop where
  pos : 0 < a
  side : s = 0 ∨ s = 1
  low : g3 a b c = 1
  hp : 0 < heart a b c
  ns : ¬ IsSq (heart a b c)
theorem sq_of {t n D : Int} (ht : t ≠ 0) (h : n * n = t * t * D) : IsSq D := by
  have h1 : n.natAbs * n.natAbs = t.natAbs * t.natAbs * D.natAbs := by rw [← Int.natAbs_mul, h, Int.natAbs_mul, Int.natAbs_mul]
  have h2 : t.natAbs ^ 2 ∣ n.natAbs ^ 2 := ⟨D.natAbs, by rw [Nat.pow_two, Nat.pow_two]; exact h1⟩
  have h3 : t.natAbs ∣ n.natAbs := (Nat.pow_dvd_pow_iff (by decide)).mp h2
  obtain ⟨k, hk⟩ := Int.natAbs_dvd_natAbs.mp h3
  subst hk
  refine ⟨k, ?_⟩
  have h4 : (t * t) * (k * k) = (t * t) * D := by rw [← h]; grind
  exact Int.eq_of_mul_eq_mul_left (Int.mul_ne_zero ht ht) h4
theorem sq_mul {k h : Int} (hk : k ≠ 0) : IsSq (k * k * h) ↔ IsSq h := by
  constructor
  · rintro ⟨n, e⟩
    exact sq_of hk e
  · rintro ⟨n, rfl⟩
    exact ⟨k * n, by grind⟩
theorem heart_mul (k a b c : Int) : heart (a * k) (b * k) (c * k) = k * k * heart a b c := by unfold heart; grind
theorem g3_eq (a b c : Int) : g3 a b c = ((Nat.gcd (Nat.gcd a.natAbs b.natAbs) c.natAbs : Nat) : Int) := rfl
theorem g3_nn (a b c : Int) : 0 ≤ g3 a b c := Int.natCast_nonneg _
theorem g3_mul (k a b c : Int) : g3 (a * k) (b * k) (c * k) = (k.natAbs : Int) * g3 a b c := by
  rw [g3_eq, g3_eq, Int.natAbs_mul, Int.natAbs_mul, Int.natAbs_mul, Nat.gcd_mul_right, Nat.gcd_mul_right, Int.natCast_mul, Int.mul_comm]
theorem g3_pos {a b c : Int} (h : a ≠ 0) : 0 < g3 a b c := by
  rw [g3_eq]
  have h1 : 0 < Nat.gcd a.natAbs b.natAbs := Nat.gcd_pos_of_pos_left _ (by omega)
  have := Nat.gcd_pos_of_pos_left c.natAbs h1
  omega
theorem g3_dvd_a (a b c : Int) : g3 a b c ∣ a := by
  rw [g3_eq]
  exact Int.ofNat_dvd_left.mpr (Nat.dvd_trans (Nat.gcd_dvd_left _ _) (Nat.gcd_dvd_left _ _))
theorem g3_dvd_b (a b c : Int) : g3 a b c ∣ b := by
  rw [g3_eq]
  exact Int.ofNat_dvd_left.mpr (Nat.dvd_trans (Nat.gcd_dvd_left _ _) (Nat.gcd_dvd_right _ _))
theorem g3_dvd_c (a b c : Int) : g3 a b c ∣ c := by
  rw [g3_eq]
  exact Int.ofNat_dvd_left.mpr (Nat.gcd_dvd_right _ _)
theorem by3_dvd {a b c x : Int} (h : g3 a b c ∣ x) : by3 a b c ∣ x := by
  unfold by3
  split
  · exact Int.neg_dvd.mpr h
  · exact h
theorem by3_ne {a b c : Int} (h : a ≠ 0) : by3 a b c ≠ 0 := by
  have := g3_pos (b := b) (c := c) h
  unfold by3
  split <;> omega
theorem by3_abs (a b c : Int) : ((by3 a b c).natAbs : Int) = g3 a b c := by
  have := g3_nn a b c
  unfold by3
  split <;> omega
/-- what is left: A, B, C with a = by3 * A .. -/
theorem by3_split {a b c : Int} (h : a ≠ 0) : ∃ A B C : Int, a = A * by3 a b c ∧ b = B * by3 a b c ∧ c = C * by3 a b c ∧ a.fdiv (by3 a b c) = A ∧ b.fdiv (by3 a b c) = B ∧ c.fdiv (by3 a b c) = C ∧ 0 < A ∧ g3 A B C = 1 := by
  obtain ⟨A, hA⟩ := by3_dvd (g3_dvd_a a b c)
  obtain ⟨B, hB⟩ := by3_dvd (g3_dvd_b a b c)
  obtain ⟨C, hC⟩ := by3_dvd (g3_dvd_c a b c)
  have hn := by3_ne (b := b) (c := c) h
  have hg := g3_pos (b := b) (c := c) h
  have hab := by3_abs a b c
  have hsg : by3 a b c = if a < 0 then -(g3 a b c) else g3 a b c := rfl
  have key : g3 a b c = g3 a b c * g3 A B C := by
    have := g3_mul (by3 a b c) A B C
    rw [hab, Int.mul_comm A, Int.mul_comm B, Int.mul_comm C, ← hA, ← hB, ← hC] at this
    exact this
  generalize by3 a b c = g at *
  refine ⟨A, B, C, by rw [Int.mul_comm]; exact hA, by rw [Int.mul_comm]; exact hB, by rw [Int.mul_comm]; exact hC, ?_, ?_, ?_, ?_, ?_⟩
  · rw [hA]; exact Int.mul_fdiv_cancel_left A hn
  · rw [hB]; exact Int.mul_fdiv_cancel_left B hn
  · rw [hC]; exact Int.mul_fdiv_cancel_left C hn
  · rcases Int.lt_or_le 0 A with z | z
    · exact z
    · exfalso
      by_cases ha : a < 0
      · rw [if_pos ha] at hsg
        have := Int.mul_nonneg (show 0 ≤ -g by omega) (show 0 ≤ -A by omega)
        rw [Int.neg_mul_neg] at this
        omega
      · rw [if_neg ha] at hsg
        have := Int.mul_nonneg (show 0 ≤ g by omega) (show 0 ≤ -A by omega)
        rw [Int.mul_neg] at this
        omega
  · have z : g3 a b c * g3 A B C = g3 a b c * 1 := by rw [← key, Int.mul_one]
    exact Int.eq_of_mul_eq_mul_left (by omega) z
theorem root_low {a b c s : Int} (h : a ≠ 0) (hh : 0 ≤ heart a b c) (hs : ¬ IsSq (heart a b c)) (hside : s = 0 ∨ s = 1) : Root (a.fdiv (by3 a b c)) (b.fdiv (by3 a b c)) (c.fdiv (by3 a b c)) s := by
  obtain ⟨A, B, C, ea, eb, ec, fa, fb, fc, hA, hg⟩ := by3_split (b := b) (c := c) h
  have hn := by3_ne (b := b) (c := c) h
  rw [fa, fb, fc]
  have hm : heart a b c = by3 a b c * by3 a b c * heart A B C := by
    have := heart_mul (by3 a b c) A B C
    rw [← ea, ← eb, ← ec] at this
    exact this
  have h0 : heart a b c ≠ 0 := fun e => hs ⟨0, by rw [e]; rfl⟩
  refine ⟨hA, hside, hg, ?_, fun z => hs ?_⟩
  · rcases Int.lt_or_le 0 (heart A B C) with z | z
    · exact z
    · exfalso
      have h1 : 0 ≤ by3 a b c * by3 a b c := by
        rcases Int.lt_or_le 0 (by3 a b c) with y | y
        · exact Int.mul_nonneg (by omega) (by omega)
        · have := Int.mul_nonneg (show 0 ≤ -(by3 a b c) by omega) (show 0 ≤ -(by3 a b c) by omega)
          rw [Int.neg_mul_neg] at this
          exact this
      have := Int.mul_nonneg h1 (show 0 ≤ -(heart A B C) by omega)
      rw [Int.mul_neg] at this
      omega
  · rw [hm]
    exact (sq_mul hn).mpr z
/-- squares and their whole roots -/
theorem sq_iff {g n : Int} (g0 : 0 ≤ g) (h1 : g * g ≤ n) (h2 : n < (g + 1) * (g + 1)) : g * g = n ↔ IsSq n := by
  constructor
  · intro h
    exact ⟨g, h⟩
  · rintro ⟨k, rfl⟩
    have hk : k.natAbs = g.natAbs := by
      have e1 : g.natAbs * g.natAbs ≤ k.natAbs * k.natAbs := by
        rw [← Int.natAbs_mul, ← Int.natAbs_mul]
        have := Int.mul_nonneg g0 g0
        omega
      have e2 : k.natAbs * k.natAbs < (g.natAbs + 1) * (g.natAbs + 1) := by
        have a1 : ((k.natAbs * k.natAbs : Nat) : Int) = k * k := by rw [Int.natCast_mul]; exact Int.natAbs_mul_self' k
        have a2 : (((g.natAbs + 1) * (g.natAbs + 1) : Nat) : Int) = (g + 1) * (g + 1) := by
          rw [Int.natCast_mul, Int.natCast_add, show ((g.natAbs : Nat) : Int) = g by omega]; rfl
        omega
      have f1 : g.natAbs ≤ k.natAbs := Nat.mul_self_le_mul_self_iff.mp e1
      have f2 : k.natAbs < g.natAbs + 1 := Nat.mul_self_lt_mul_self_iff.mp e2
      omega
    have := Int.natAbs_mul_self' k
    have := Int.natAbs_mul_self' g
    rw [hk] at *
    omega
theorem sqrt_le {g n : Int} (g0 : 0 ≤ g) (h1 : g * g ≤ n) : g ≤ n := by
  by_cases z : g = 0
  · subst z; omega
  · have := Int.mul_le_mul_of_nonneg_left (show 1 ≤ g by omega) g0
    omega
end RM

namespace RM
/-! the order of numbers with two square roots, by squares -/
def S (n : Int) : Int := n * (n.natAbs : Int)
def sg (n : Int) : Int := if 0 < n then 1 else if n < 0 then -1 else 0
theorem S_nn {n : Int} (h : 0 ≤ n) : S n = n * n := by
  unfold S
  congr 1
  omega
theorem S_np {n : Int} (h : n ≤ 0) : S n = -(n * n) := by
  unfold S
  rw [show (n.natAbs : Int) = -n by omega, Int.mul_neg]
theorem S_mul (x y : Int) : S (x * y) = S x * S y := by
  unfold S
  rw [Int.natAbs_mul, Int.natCast_mul]
  grind
theorem S_neg (x : Int) : S (-x) = -(S x) := by
  unfold S
  rw [Int.natAbs_neg, Int.neg_mul]
theorem sg_neg (x : Int) : sg (-x) = -(sg x) := by
  unfold sg
  split <;> split <;> (try split) <;> (try split) <;> omega
theorem sg_pos {x : Int} (h : 0 < x) : sg x = 1 := if_pos h
theorem sg_nega {x : Int} (h : x < 0) : sg x = -1 := by
  unfold sg
  rw [if_neg (by omega), if_pos h]
theorem sg_zero : sg 0 = 0 := rfl
theorem sg_scale {k x : Int} (hk : 0 < k) : sg (k * x) = sg x := by
  rcases Int.lt_trichotomy x 0 with h | h | h
  · rw [sg_nega h, sg_nega (Int.mul_neg_of_pos_of_neg hk h)]
  · subst h; rw [Int.mul_zero]
  · rw [sg_pos h, sg_pos (Int.mul_pos hk h)]
theorem sg_cases (x : Int) : (sg x = 1 ∧ 0 < x) ∨ (sg x = -1 ∧ x < 0) ∨ (sg x = 0 ∧ x = 0) := by
  rcases Int.lt_trichotomy x 0 with h | h | h
  · exact .inr (.inl ⟨sg_nega h, h⟩)
  · subst h; exact .inr (.inr ⟨rfl, rfl⟩)
  · exact .inl ⟨sg_pos h, h⟩
theorem sg_S (x : Int) : sg (S x) = sg x := by
  rcases Int.lt_trichotomy x 0 with h | h | h
  · rw [S_np (by omega), sg_nega h]
    have := Int.mul_pos (show 0 < -x by omega) (show 0 < -x by omega)
    rw [Int.neg_mul_neg] at this
    exact sg_nega (by omega)
  · subst h; rfl
  · rw [S_nn (by omega), sg_pos h, sg_pos (Int.mul_pos h h)]
/-- the sign of X + x + y, where x, y have the signed squares P, Q -/
def F (X P Q : Int) : Int := sg (S (S X + sg (P + Q) * ((P.natAbs : Int) + (Q.natAbs : Int))) + sg (P + Q) * 4 * (P * Q))
def cmp2 (X p D q E : Int) : Int := sg (S (S X + sg (S p * D + S q * E) * (p * p * D + q * q * E)) + S (sg (S p * D + S q * E) * 2 * p * q) * (D * E))
theorem S_sg (x : Int) : S (sg x) = sg x := by
  rcases sg_cases x with h | h | h <;> rw [h.1] <;> rfl
theorem abs_S (p D : Int) (hD : 0 ≤ D) : ((S p * D).natAbs : Int) = p * p * D := by
  unfold S
  rw [Int.natAbs_mul, Int.natAbs_mul, Int.natAbs_natCast, Int.natCast_mul, Int.natCast_mul, Int.natAbs_mul_self', show (D.natAbs : Int) = D by omega]
theorem cmp2_F {X p D q E : Int} (hD : 0 ≤ D) (hE : 0 ≤ E) : cmp2 X p D q E = F X (S p * D) (S q * E) := by
  unfold cmp2 F
  rw [abs_S p D hD, abs_S q E hE, S_mul, S_mul, S_mul, S_sg, show S 2 = 4 from rfl]
  congr 2
  grind
theorem F_neg (X P Q : Int) : F (-X) (-P) (-Q) = -(F X P Q) := by
  unfold F
  rw [← sg_neg, show -P + -Q = -(P + Q) by omega, sg_neg, S_neg, Int.natAbs_neg, Int.natAbs_neg, Int.neg_mul, show -S X + -(sg (P + Q) * ((P.natAbs : Int) + (Q.natAbs : Int))) = -(S X + sg (P + Q) * ((P.natAbs : Int) + (Q.natAbs : Int))) by omega, S_neg]
  congr 1
  grind
theorem F_swap (X P Q : Int) : F X P Q = F X Q P := by
  unfold F
  rw [Int.add_comm P Q, Int.add_comm (P.natAbs : Int), Int.mul_comm P Q]
/-! x < a, y ≤ c (one of them less): x + y < a + c -/
theorem S_ge {a P : Int} (h : P ≤ S a) (hP : 0 ≤ P) : 0 ≤ a ∧ P ≤ a * a := by
  rcases Int.lt_or_le a 0 with z | z
  · rw [S_np (by omega)] at h
    have := Int.mul_pos (show 0 < -a by omega) (show 0 < -a by omega)
    rw [Int.neg_mul_neg] at this
    omega
  · rw [S_nn z] at h
    exact ⟨z, h⟩
theorem _root_.Int.mul_self_nonneg' (x : Int) : 0 ≤ x * x := by
  rcases Int.lt_or_le x 0 with z | z
  · have := Int.mul_nonneg (show 0 ≤ -x by omega) (show 0 ≤ -x by omega)
    rw [Int.neg_mul_neg] at this
    exact this
  · exact Int.mul_nonneg z z
theorem _root_.Int.mul_self_nonneg_pos {x : Int} (h : x ≠ 0) : 0 < x * x := by
  have h1 := Int.mul_self_nonneg' x
  have h2 := Int.mul_ne_zero h h
  omega
theorem sq_lt {x y : Int} (hx : 0 ≤ x) (h : x < y) : x * x < y * y := by
  have h1 := Int.mul_le_mul_of_nonneg_left (show x ≤ y by omega) hx
  have h2 := Int.mul_lt_mul_of_pos_right h (show 0 < y by omega)
  omega
theorem sq_le {x y : Int} (hx : 0 ≤ x) (h : x ≤ y) : x * x ≤ y * y := Int.mul_le_mul h h hx (by omega)
theorem lt_of_sq {x y : Int} (hy : 0 ≤ y) (h : x * x < y * y) : x < y := by
  rcases Int.lt_or_le x y with z | z
  · exact z
  · have := sq_le hy z
    omega
theorem both_up {P Q a c : Int} (hP : 0 ≤ P) (hQ : 0 ≤ Q) (h1 : P ≤ S a) (h2 : Q ≤ S c) (h : P < S a ∨ Q < S c) : F (-(a + c)) P Q = -1 := by
  obtain ⟨ha, pa⟩ := S_ge h1 hP
  obtain ⟨hc, qc⟩ := S_ge h2 hQ
  rw [S_nn ha, S_nn hc] at h
  have ac := Int.mul_nonneg ha hc
  unfold F
  rw [S_np (show -(a + c) ≤ 0 by omega)]
  rcases Int.lt_or_le 0 (P + Q) with hs | hs
  · rw [sg_pos hs, show (P.natAbs : Int) = P by omega, show (Q.natAbs : Int) = Q by omega]
    apply sg_nega
    have ew : -(-(a + c) * -(a + c)) + 1 * (P + Q) = -((a * a - P) + (c * c - Q) + 2 * (a * c)) := by grind
    rw [ew, S_np (by omega)]
    have pq : P * Q ≤ a * a * (c * c) := Int.mul_le_mul pa qc hQ (Int.mul_nonneg ha ha)
    have e2 : a * a * (c * c) = (a * c) * (a * c) := by grind
    generalize a * a = A at *
    generalize c * c = C at *
    generalize a * c = m at *
    generalize P * Q = PQ at *
    obtain ⟨t, ht, ht1⟩ : ∃ t, (A - P) + (C - Q) = t ∧ 1 ≤ t := ⟨_, rfl, by omega⟩
    rw [ht]
    have tt := Int.mul_pos (show 0 < t by omega) (show 0 < t by omega)
    have tm := Int.mul_nonneg (show 0 ≤ t by omega) ac
    have e3 : -(t + 2 * m) * -(t + 2 * m) = t * t + 4 * (t * m) + 4 * (m * m) := by grind
    rw [e3]
    omega
  · have p0 : P = 0 := by omega
    have q0 : Q = 0 := by omega
    subst p0 q0
    have aa : 0 < a + c := by
      rcases Int.lt_or_le 0 a with z | z
      · omega
      · have : a = 0 := by omega
        subst this
        rcases Int.lt_or_le 0 c with y | y
        · omega
        · have : c = 0 := by omega
          subst this
          simp at h
    have := Int.mul_pos aa aa
    rw [Int.neg_mul_neg, show sg (0 + 0) = 0 from rfl]
    generalize (a + c) * (a + c) = m at *
    rw [S_np (by omega)]
    apply sg_nega
    have e : -(-m + 0 * (((0 : Int).natAbs : Int) + ((0 : Int).natAbs : Int))) * -(-m + 0 * (((0 : Int).natAbs : Int) + ((0 : Int).natAbs : Int))) = m * m := by simp
    have mm := Int.mul_pos this this
    grind
theorem both_down {P Q a c : Int} (hP : P ≤ 0) (hQ : Q ≤ 0) (hs : P + Q < 0) (h1 : P ≤ S a) (h2 : Q ≤ S c) (h : P < S a ∨ Q < S c) : F (-(a + c)) P Q = -1 := by
  obtain ⟨p, rfl⟩ : ∃ p, P = -p := ⟨-P, by omega⟩
  obtain ⟨q, rfl⟩ : ∃ q, Q = -q := ⟨-Q, by omega⟩
  have pq := Int.mul_nonneg (show 0 ≤ p by omega) (show 0 ≤ q by omega)
  unfold F
  rw [sg_nega hs, show (((-p).natAbs : Nat) : Int) = p by omega, show (((-q).natAbs : Nat) : Int) = q by omega, S_neg, Int.neg_mul_neg]
  apply sg_nega
  obtain ⟨w, hw⟩ : ∃ w, -(S (a + c)) + -1 * (p + q) = w := ⟨_, rfl⟩
  rw [hw]
  rcases Int.lt_or_le w 0 with z | z
  · rw [S_np (by omega)]
    have := Int.mul_pos (show 0 < -w by omega) (show 0 < -w by omega)
    rw [Int.neg_mul_neg] at this
    omega
  · rw [S_nn z]
    have zneg : a + c < 0 := by
      rcases Int.lt_or_le (a + c) 0 with y | y
      · exact y
      · rw [S_nn y] at hw
        have := Int.mul_nonneg y y
        omega
    rw [S_np (by omega)] at hw
    rcases Int.lt_or_le a 0 with ya | ya
    · rw [S_np (show a ≤ 0 by omega)] at h1 h
      rcases Int.lt_or_le c 0 with yc | yc
      · rw [S_np (show c ≤ 0 by omega)] at h2 h
        have ac := Int.mul_pos (show 0 < -a by omega) (show 0 < -c by omega)
        rw [Int.neg_mul_neg] at ac
        have e1 : (a + c) * (a + c) = a * a + c * c + 2 * (a * c) := by grind
        have wl : w < 2 * (a * c) := by omega
        have w2 := sq_lt z wl
        have pl : a * a * (c * c) ≤ p * q := Int.mul_le_mul (by omega) (by omega) (by have := sq_le (show 0 ≤ -c by omega) (show -c ≤ -c by omega); have := Int.mul_nonneg (show 0 ≤ -c by omega) (show 0 ≤ -c by omega); rw [Int.neg_mul_neg] at this; omega) (by omega)
        have e2 : 2 * (a * c) * (2 * (a * c)) = 4 * (a * a * (c * c)) := by grind
        omega
      · rw [S_nn yc] at h2 h
        exfalso
        have n1 := sq_le (x := -(a + c)) (y := -a) (by omega) (by omega)
        rw [Int.neg_mul_neg, Int.neg_mul_neg] at n1
        have c1 : c = 0 ∨ (a + c) * (a + c) < a * a := by
          rcases Int.lt_or_le 0 c with y | y
          · have := sq_lt (x := -(a + c)) (y := -a) (by omega) (by omega)
            rw [Int.neg_mul_neg, Int.neg_mul_neg] at this
            exact .inr this
          · exact .inl (by omega)
        rcases c1 with rfl | c1
        · simp at h
          omega
        · omega
    · rw [S_nn ya] at h1 h
      rw [S_np (show c ≤ 0 by omega)] at h2 h
      exfalso
      have n1 := sq_le (x := -(a + c)) (y := -c) (by omega) (by omega)
      rw [Int.neg_mul_neg, Int.neg_mul_neg] at n1
      have c1 : a = 0 ∨ (a + c) * (a + c) < c * c := by
        rcases Int.lt_or_le 0 a with y | y
        · have := sq_lt (x := -(a + c)) (y := -c) (by omega) (by omega)
          rw [Int.neg_mul_neg, Int.neg_mul_neg] at this
          exact .inr this
        · exact .inl (by omega)
      rcases c1 with rfl | c1
      · simp at h
        omega
      · omega
theorem up_down {p q a c : Int} (hp : 0 < p) (hq : 0 < q) (h1 : p ≤ S a) (h2 : -q ≤ S c) (h : p < S a ∨ -q < S c) : F (-(a + c)) p (-q) = -1 := by
  obtain ⟨ha, pa⟩ := S_ge h1 (by omega)
  have apos : 0 < a := by
    rcases Int.lt_or_le 0 a with z | z
    · exact z
    · have : a = 0 := by omega
      subst this
      omega
  rw [S_nn ha] at h
  have pq := Int.mul_pos hp hq
  unfold F
  rw [show (p.natAbs : Int) = p by omega, show (((-q).natAbs : Nat) : Int) = q by omega, S_neg, Int.mul_neg p q]
  rcases Int.lt_trichotomy q p with hs | hs | hs
  · -- p greater
    rw [sg_pos (show 0 < p + -q by omega)]
    apply sg_nega
    obtain ⟨w, hw⟩ : ∃ w, -(S (a + c)) + 1 * (p + q) = w := ⟨_, rfl⟩
    rw [hw]
    rcases Int.lt_or_le 0 w with z | z
    · rw [S_nn (by omega)]
      rcases Int.lt_or_le c 0 with yc | yc
      · rw [S_np (show c ≤ 0 by omega)] at h2 h
        have kl : -c < a := lt_of_sq ha (by rw [Int.neg_mul_neg]; omega)
        rw [S_nn (show 0 ≤ a + c by omega)] at hw
        obtain ⟨k, rfl⟩ : ∃ k, c = -k := ⟨-c, by omega⟩
        rw [Int.neg_mul_neg] at h2 h
        obtain ⟨y, rfl⟩ : ∃ y, a = y + k := ⟨a - k, by omega⟩
        have ypos : 0 < y := by omega
        rw [show y + k + -k = y by omega] at hw
        have e1 : (y + k) * (y + k) = y * y + 2 * (y * k) + k * k := by grind
        rw [e1] at pa h
        obtain ⟨T, hT⟩ : ∃ T, p - q - y * y = T := ⟨_, rfl⟩
        have heron : T * T - 4 * (y * y * q) = w * w - 4 * (p * q) := by subst hT hw; grind
        have tl : T < 2 * (y * k) := by omega
        have yy := Int.mul_pos ypos ypos
        have yq := Int.mul_pos yy hq
        rcases Int.lt_or_le T 0 with t0 | t0
        · have t1 : -T < y * y := by omega
          have t2 : -T < 2 * q := by omega
          have t3 : -T * -T < y * y * (2 * q) := by
            have a1 := Int.mul_lt_mul_of_pos_right t1 (show 0 < -T by omega)
            have a2 := Int.mul_lt_mul_of_pos_left t2 yy
            omega
          rw [Int.neg_mul_neg, show y * y * (2 * q) = 2 * (y * y * q) by grind] at t3
          omega
        · have t1 := sq_lt t0 tl
          have t2 : y * y * (k * k) ≤ y * y * q := Int.mul_le_mul_of_nonneg_left (by omega) (by omega)
          have t3 : 2 * (y * k) * (2 * (y * k)) = 4 * (y * y * (k * k)) := by grind
          omega
      · rw [S_nn (show 0 ≤ a + c by omega)] at hw
        have n1 := sq_le ha (show a ≤ a + c by omega)
        have wq : w ≤ q := by omega
        have w2 := sq_le (show 0 ≤ w by omega) wq
        have w3 := Int.mul_lt_mul_of_pos_right hs hq
        omega
    · rw [S_np z]
      have := Int.mul_nonneg (show 0 ≤ -w by omega) (show 0 ≤ -w by omega)
      rw [Int.neg_mul_neg] at this
      omega
  · -- as great
    subst hs
    have zpos : 0 < a + c := by
      rcases Int.lt_or_le c 0 with yc | yc
      · rw [S_np (show c ≤ 0 by omega)] at h2 h
        have := lt_of_sq (x := -c) ha (by rw [Int.neg_mul_neg]; omega)
        omega
      · omega
    rw [show q + -q = 0 by omega, sg_zero, S_nn (show 0 ≤ a + c by omega)]
    have m0 := Int.mul_pos zpos zpos
    generalize (a + c) * (a + c) = m at *
    apply sg_nega
    rw [show -m + 0 * (q + q) = -m by omega, S_np (by omega), Int.neg_mul_neg]
    have := Int.mul_pos m0 m0
    omega
  · -- q greater
    rw [sg_nega (show p + -q < 0 by omega)]
    apply sg_nega
    rcases Int.lt_or_le (a + c) 0 with z | z
    · rw [S_np (show a + c ≤ 0 by omega)]
      rw [S_np (show c ≤ 0 by omega)] at h2 h
      obtain ⟨n, hn⟩ : ∃ n, a + c = -n := ⟨-(a + c), by omega⟩
      obtain rfl : c = -(a + n) := by omega
      rw [Int.neg_mul_neg] at h2 h
      rw [hn, Int.neg_mul_neg]
      have e1 : (a + n) * (a + n) = a * a + 2 * (a * n) + n * n := by grind
      rw [e1] at h2 h
      have an := Int.mul_pos apos (show 0 < n by omega)
      have nn := Int.mul_pos (show 0 < n by omega) (show 0 < n by omega)
      obtain ⟨w, hw⟩ : ∃ w, p + q - n * n = w := ⟨_, rfl⟩
      rw [show - -(n * n) + -1 * (p + q) = -w by omega, S_np (show -w ≤ 0 by omega), Int.neg_mul_neg]
      obtain ⟨U, hU⟩ : ∃ U, q - p - n * n = U := ⟨_, rfl⟩
      have heron : w * w - 4 * (p * q) = U * U - 4 * (p * (n * n)) := by subst hU hw; grind
      have ul : 2 * (a * n) < U := by omega
      have u2 := sq_lt (by omega) ul
      have u3 : 2 * (a * n) * (2 * (a * n)) = 4 * (a * a * (n * n)) := by grind
      have u4 : p * (n * n) ≤ a * a * (n * n) := Int.mul_le_mul_of_nonneg_right pa (by omega)
      omega
    · rw [S_nn z]
      have m0 := Int.mul_nonneg z z
      generalize (a + c) * (a + c) = m at *
      have w1 : 0 < p + q + m := by omega
      rw [show -m + -1 * (p + q) = -(p + q + m) by omega, S_np (by omega), Int.neg_mul_neg]
      have u1 := sq_le (show 0 ≤ p + q by omega) (show p + q ≤ p + q + m by omega)
      have u2 := Int.mul_pos (show 0 < q - p by omega) (show 0 < q - p by omega)
      have u3 : (p + q) * (p + q) = 4 * (p * q) + (q - p) * (q - p) := by grind
      omega
/-- all cases -/
theorem F_less {P Q a c : Int} (h1 : P ≤ S a) (h2 : Q ≤ S c) (h : P < S a ∨ Q < S c) : F (-(a + c)) P Q = -1 := by
  rcases Int.lt_or_le P 0 with hp | hp
  · rcases Int.lt_or_le 0 Q with hq | hq
    · obtain ⟨p, rfl⟩ : ∃ p, P = -p := ⟨-P, by omega⟩
      rw [F_swap, Int.add_comm]
      exact up_down hq (by omega) h2 h1 h.symm
    · exact both_down (by omega) hq (by omega) h1 h2 h
  · rcases Int.lt_or_le Q 0 with hq | hq
    · rcases Int.lt_or_le 0 P with hp0 | hp0
      · obtain ⟨q, rfl⟩ : ∃ q, Q = -q := ⟨-Q, by omega⟩
        exact up_down hp0 (by omega) h1 h2 h
      · exact both_down hp0 (by omega) (by omega) h1 h2 h
    · exact both_up hp hq h1 h2 h
end RM

namespace RM

/-! numbers: (A + t * root of D) / L -/
inductive NumR : List Int → Int → Int → Int → Int → Prop where
  | frac {u l : Int} (hl : 0 < l) (hg : Int.gcd u l = 1) : NumR [u, l] u 0 0 l
  | root {a b c s : Int} (h : Root a b c s) : NumR [a, b, c, s] (-b) (if s = 1 then 1 else -1) (heart a b c) (2 * a)
def cmpN (A1 t1 D1 L1 A2 t2 D2 L2 : Int) : Int := cmp2 (A1 * L2 - A2 * L1) (t1 * L2) D1 (-t2 * L1) D2
theorem NumR.L_pos {xs : List Int} {A t D L : Int} (h : NumR xs A t D L) : 0 < L := by
  cases h with
  | frac hl hg => exact hl
  | root h => have := h.pos; omega
theorem NumR.D_nn {xs : List Int} {A t D L : Int} (h : NumR xs A t D L) : 0 ≤ D := by
  cases h with
  | frac hl hg => exact Int.le_refl _
  | root h => have := h.hp; omega
/-- where u / l lies -/
def sA (A t D L u l : Int) : Int := S (A * l - u * L) + S (t * l) * D
theorem cmpN_turn {A1 t1 D1 L1 A2 t2 D2 L2 : Int} (hD1 : 0 ≤ D1) (hD2 : 0 ≤ D2) : cmpN A2 t2 D2 L2 A1 t1 D1 L1 = -(cmpN A1 t1 D1 L1 A2 t2 D2 L2) := by
  unfold cmpN
  rw [cmp2_F hD1 hD2, cmp2_F hD2 hD1, ← F_neg, F_swap, Int.neg_mul, Int.neg_mul, S_neg, S_neg]
  congr 1
  · omega
  · grind
  · grind
theorem cmpN_01 (A1 t1 D1 L1 A2 t2 D2 L2 : Int) : cmpN A1 t1 D1 L1 A2 t2 D2 L2 = -1 ∨ cmpN A1 t1 D1 L1 A2 t2 D2 L2 = 0 ∨ cmpN A1 t1 D1 L1 A2 t2 D2 L2 = 1 := by
  unfold cmpN cmp2
  generalize (S _ + S _ * (D1 * D2)) = x
  rcases sg_cases x with h | h | h
  · exact .inr (.inr h.1)
  · exact .inl h.1
  · exact .inr (.inl h.1)
theorem sg_eq_zero {x : Int} (h : sg x = 0) : x = 0 := by
  rcases sg_cases x with y | y | y
  · omega
  · omega
  · exact y.2
theorem S_eq_zero {x : Int} (h : S x = 0) : x = 0 := sg_eq_zero (by rw [← sg_S, h]; rfl)
theorem F_zero_up {X p D q E : Int} (hp : p ≠ 0) (hD : 0 < D) (hE : 0 < E) (hs : ¬ IsSq D) (hP : 0 < S p * D + S q * E) (h : F X (S p * D) (S q * E) = 0) : False := by
  have aP := abs_S p D (by omega)
  have aQ := abs_S q E (by omega)
  have pp : 0 < p * p * D := by
    have := Int.mul_self_nonneg_pos hp
    exact Int.mul_pos this hD
  have h1 := sg_eq_zero h
  rw [sg_pos hP] at h1
  generalize hPd : S p * D = P at *
  generalize hQd : S q * E = Q at *
  rw [Int.one_mul, Int.one_mul] at h1
  obtain ⟨A, hA⟩ : ∃ A, (P.natAbs : Int) = A := ⟨_, rfl⟩
  obtain ⟨B, hB⟩ : ∃ B, (Q.natAbs : Int) = B := ⟨_, rfl⟩
  rw [hA, hB] at h1
  obtain ⟨w, hw⟩ : ∃ w, S X + (A + B) = w := ⟨_, rfl⟩
  rw [hw] at h1
  have hAB : 4 * (A * B) = w * w := by
    have e1 : A * B = ((P * Q).natAbs : Int) := by rw [← hA, ← hB, Int.natAbs_mul, Int.natCast_mul]
    have e2 : ((S w).natAbs : Int) = w * w := by
      have := abs_S w 1 (by decide)
      rw [Int.mul_one, Int.mul_one] at this
      exact this
    omega
  have A0 : 0 ≤ A := by omega
  have B0 : 0 ≤ B := by omega
  have wle : w ≤ A + B := by
    rcases Int.lt_or_le (A + B) w with z | z
    · have := sq_lt (show 0 ≤ A + B by omega) z
      have e : (A + B) * (A + B) = 4 * (A * B) + (A - B) * (A - B) := by grind
      have := Int.mul_self_nonneg' (A - B)
      omega
    · exact z
  have hX : X * X = A + B - w := by
    rcases Int.lt_or_le 0 X with z | z
    · rw [S_nn (by omega)] at hw
      have := Int.mul_pos z z
      omega
    · rw [S_np z] at hw
      omega
  have key : (2 * A - w) * (2 * A - w) = (2 * X * p) * (2 * X * p) * D := by
    have e1 : (2 * X * p) * (2 * X * p) * D = 4 * (X * X) * (p * p * D) := by grind
    rw [e1, hX, ← aP, hA]
    grind
  by_cases x0 : X = 0
  · subst x0
    have ew : w = A + B := by omega
    have e : (A - B) * (A - B) = 0 := by
      have : (A + B) * (A + B) = 4 * (A * B) + (A - B) * (A - B) := by grind
      rw [ew] at hAB
      omega
    have eAB : A = B := by
      rcases Int.mul_eq_zero.mp e with z | z <;> omega
    have wp : 0 < w := by omega
    rw [S_nn (by omega)] at h1
    have := Int.mul_pos wp wp
    have pq : P * Q < 0 := by omega
    have : P = -Q ∨ P = Q := by omega
    rcases this with z | z
    · omega
    · subst z
      have := Int.mul_self_nonneg' P
      omega
  · exact hs (sq_of (Int.mul_ne_zero (Int.mul_ne_zero (by decide) x0) hp) key)
theorem F_zero_rr {X p D q E : Int} (hp : p ≠ 0) (hD : 0 < D) (hE : 0 < E) (hs : ¬ IsSq D) (h : F X (S p * D) (S q * E) = 0) : S p * D + S q * E = 0 ∧ X = 0 := by
  rcases sg_cases (S p * D + S q * E) with z | z | z
  · exact (F_zero_up hp hD hE hs z.2 h).elim
  · have h' : F (-X) (S (-p) * D) (S (-q) * E) = 0 := by
      rw [S_neg, S_neg, Int.neg_mul, Int.neg_mul, F_neg, h]
      rfl
    exact (F_zero_up (p := -p) (q := -q) (by omega) hD hE hs (by rw [S_neg, S_neg, Int.neg_mul, Int.neg_mul]; omega) h').elim
  · refine ⟨z.2, ?_⟩
    have h1 := sg_eq_zero h
    rw [z.1, Int.zero_mul, Int.add_zero, Int.zero_mul, Int.zero_mul, Int.add_zero] at h1
    exact S_eq_zero (S_eq_zero h1)
theorem F_zero_fr {X q E : Int} (hq : q ≠ 0) (hE : 0 < E) (hs : ¬ IsSq E) (h : F X 0 (S q * E) = 0) : False := by
  have aQ := abs_S q E (by omega)
  have h1 := sg_eq_zero h
  rw [Int.zero_mul, Int.mul_zero, Int.add_zero, Int.zero_add] at h1
  have h2 := S_eq_zero h1
  have qq : 0 < q * q * E := Int.mul_pos (Int.mul_self_nonneg_pos hq) hE
  have hX : X * X = q * q * E := by
    have e2 : ((S X).natAbs : Int) = X * X := by
      have := abs_S X 1 (by decide)
      rw [Int.mul_one, Int.mul_one] at this
      exact this
    rcases sg_cases (S q * E) with z | z | z
    · rw [z.1] at h2; omega
    · rw [z.1] at h2; omega
    · omega
  exact hs (sq_of hq hX)
end RM

namespace RM
/-- both are one -/
theorem same_root {a1 b1 c1 s1 a2 b2 c2 s2 : Int} (h1 : Root a1 b1 c1 s1) (h2 : Root a2 b2 c2 s2) (hX : -b1 * (2 * a2) - -b2 * (2 * a1) = 0)
    (hP : S ((if s1 = 1 then 1 else -1) * (2 * a2)) * heart a1 b1 c1 + S (-(if s2 = 1 then 1 else -1) * (2 * a1)) * heart a2 b2 c2 = 0) : a1 = a2 ∧ b1 = b2 ∧ c1 = c2 ∧ s1 = s2 := by
  have p1 := h1.pos
  have p2 := h2.pos
  have d1 := h1.hp
  have d2 := h2.hp
  have q1 := Int.mul_pos (show 0 < 2 * a1 by omega) (show 0 < 2 * a1 by omega)
  have q2 := Int.mul_pos (show 0 < 2 * a2 by omega) (show 0 < 2 * a2 by omega)
  have m1 := Int.mul_pos q2 d1
  have m2 := Int.mul_pos q1 d2
  have eb : b1 * a2 = b2 * a1 := by grind
  have hh : s1 = s2 ∧ (2 * a2) * (2 * a2) * heart a1 b1 c1 = (2 * a1) * (2 * a1) * heart a2 b2 c2 := by
    rw [S_mul (if s1 = 1 then 1 else -1) (2 * a2), S_mul (-(if s2 = 1 then 1 else -1)) (2 * a1), S_nn (show 0 ≤ 2 * a2 by omega), S_nn (show 0 ≤ 2 * a1 by omega), S_neg] at hP
    rcases h1.side with e1 | e1 <;> rcases h2.side with e2 | e2 <;> subst e1 <;> subst e2 <;>
      simp only [show ((0 : Int) = 1) = False from by simp, if_true, if_false, show S 1 = 1 from rfl, show S (-1) = -1 from rfl, Int.one_mul, Int.neg_mul, Int.neg_neg] at hP <;> (first | (exact ⟨rfl, by omega⟩) | omega)
  obtain ⟨es, hh⟩ := hh
  have ec : c1 * a2 = c2 * a1 := by
    have e1 : (2 * a2) * (2 * a2) * heart a1 b1 c1 = 4 * ((b1 * a2) * (b1 * a2)) - 16 * (a1 * a2) * (c1 * a2) := by unfold heart; grind
    have e2 : (2 * a1) * (2 * a1) * heart a2 b2 c2 = 4 * ((b2 * a1) * (b2 * a1)) - 16 * (a1 * a2) * (c2 * a1) := by unfold heart; grind
    rw [e1, e2, eb] at hh
    have h16 : 16 * (a1 * a2) * (c1 * a2) = 16 * (a1 * a2) * (c2 * a1) := by omega
    have := Int.mul_pos p1 p2
    exact Int.eq_of_mul_eq_mul_left (by omega) h16
  have g1 := g3_mul a2 a1 b1 c1
  have g2 := g3_mul a1 a2 b2 c2
  rw [h1.low] at g1
  rw [h2.low] at g2
  rw [eb, ec, Int.mul_comm a1 a2] at g1
  have ea : a1 = a2 := by omega
  subst ea
  exact ⟨rfl, Int.eq_of_mul_eq_mul_right (by omega) eb, Int.eq_of_mul_eq_mul_right (by omega) ec, es⟩
theorem same_frac {u1 l1 u2 l2 : Int} (h1 : 0 < l1) (h2 : 0 < l2) (g1 : Int.gcd u1 l1 = 1) (g2 : Int.gcd u2 l2 = 1) (h : u1 * l2 - u2 * l1 = 0) : u1 = u2 ∧ l1 = l2 := by
  have e1 := gcd_times (m := l2) g1 h2
  have e2 := gcd_times (m := l1) g2 h1
  rw [show u1 * l2 = u2 * l1 by omega, Int.mul_comm l1 l2, e2] at e1
  subst e1
  exact ⟨Int.eq_of_mul_eq_mul_right (a := l1) (by omega) (by omega), rfl⟩
theorem cmpN_zero {xs ys : List Int} {A1 t1 D1 L1 A2 t2 D2 L2 : Int} (h1 : NumR xs A1 t1 D1 L1) (h2 : NumR ys A2 t2 D2 L2) : cmpN A1 t1 D1 L1 A2 t2 D2 L2 = 0 ↔ xs = ys := by
  have z : S 0 = 0 := rfl
  have tn : ∀ s : Int, (if s = 1 then (1 : Int) else -1) ≠ 0 := fun s => by split <;> decide
  constructor
  · intro h
    unfold cmpN at h
    rw [cmp2_F h1.D_nn h2.D_nn] at h
    cases h1 with
    | @frac u1 l1 hl1 hg1 =>
      cases h2 with
      | @frac u2 l2 hl2 hg2 =>
        simp only [Int.zero_mul, Int.neg_zero, z, Int.mul_zero] at h
        have := S_eq_zero (S_eq_zero (x := S (A1 * L2 - A2 * L1)) (by
          have := sg_eq_zero h
          simpa using this))
        obtain ⟨rfl, rfl⟩ := same_frac hl1 hl2 hg1 hg2 this
        rfl
      | @root a b c s r =>
        rw [Int.zero_mul, z, Int.zero_mul] at h
        exact (F_zero_fr (Int.mul_ne_zero (by have := tn s; omega) (by omega)) r.hp r.ns h).elim
    | @root a1 b1 c1 s1 r1 =>
      cases h2 with
      | @frac u2 l2 hl2 hg2 =>
        rw [Int.neg_zero, Int.zero_mul, z, Int.zero_mul, F_swap] at h
        exact (F_zero_fr (Int.mul_ne_zero (tn s1) (by omega)) r1.hp r1.ns h).elim
      | @root a2 b2 c2 s2 r2 =>
        have p2 := r2.pos
        obtain ⟨hP, hX⟩ := F_zero_rr (Int.mul_ne_zero (tn s1) (by omega)) r1.hp r2.hp r1.ns h
        obtain ⟨rfl, rfl, rfl, rfl⟩ := same_root r1 r2 hX hP
        rfl
  · intro h
    subst h
    have e : A1 = A2 ∧ t1 = t2 ∧ D1 = D2 ∧ L1 = L2 := by
      cases h1 <;> cases h2 <;> exact ⟨rfl, rfl, rfl, rfl⟩
    obtain ⟨rfl, rfl, rfl, rfl⟩ := e
    unfold cmpN
    rw [cmp2_F h1.D_nn h1.D_nn, Int.neg_mul, S_neg, Int.neg_mul, Int.sub_self]
    unfold F
    rw [show S (t1 * L1) * D1 + -(S (t1 * L1) * D1) = 0 by omega, sg_zero, Int.zero_mul, Int.zero_mul, Int.zero_mul]
    rfl
/-! above, by the equation -/
def abv (a b c s u l : Int) : Bool := if 0 < 2 * a * u + b * l then decide (s = 1) && decide (a * u * u + b * u * l + c * l * l < 0) else decide (s = 1) || decide (0 < a * u * u + b * u * l + c * l * l)
theorem abv_sA {a b c s u l : Int} (h : Root a b c s) (hl : 0 < l) : (abv a b c s u l = true → 0 < sA (-b) (if s = 1 then 1 else -1) (heart a b c) (2 * a) u l) ∧ (abv a b c s u l = false → sA (-b) (if s = 1 then 1 else -1) (heart a b c) (2 * a) u l < 0) := by
  have ll := Int.mul_pos hl hl
  have pa := h.pos
  have lh := Int.mul_pos ll h.hp
  obtain ⟨y, hy⟩ : ∃ y, 2 * a * u + b * l = y := ⟨_, rfl⟩
  obtain ⟨f, hf⟩ : ∃ f, a * u * u + b * u * l + c * l * l = f := ⟨_, rfl⟩
  have ey : -b * l - u * (2 * a) = -y := by rw [← hy]; grind
  have e4 : 4 * a * f = y * y - l * l * heart a b c := by subst hy hf; unfold heart; grind
  have ne : y * y ≠ l * l * heart a b c := fun e => h.ns (sq_of (by omega) e)
  have fs : (f < 0 ↔ y * y < l * l * heart a b c) := by
    constructor
    · intro z
      have := Int.mul_neg_of_pos_of_neg (show 0 < 4 * a by omega) z
      omega
    · intro z
      rcases Int.lt_or_le f 0 with w | w
      · exact w
      · have := Int.mul_nonneg (show 0 ≤ 4 * a by omega) w
        omega
  have fp : (0 < f ↔ l * l * heart a b c < y * y) := by
    constructor
    · intro z
      have := Int.mul_pos (show 0 < 4 * a by omega) z
      omega
    · intro z
      rcases Int.lt_or_le 0 f with w | w
      · exact w
      · have := Int.mul_nonneg (show 0 ≤ 4 * a by omega) (show 0 ≤ -f by omega)
        rw [Int.mul_neg] at this
        omega
  have yy := Int.mul_self_nonneg' y
  unfold abv sA
  rw [hy, hf, ey, S_neg, S_mul, S_nn (show 0 ≤ l by omega)]
  have m1 : S (-1) * (l * l) * heart a b c = -(l * l * heart a b c) := by rw [show S (-1) = -1 from rfl]; grind
  have m2 : S 1 * (l * l) * heart a b c = l * l * heart a b c := by rw [show S 1 = 1 from rfl, Int.one_mul]
  generalize l * l * heart a b c = h' at *
  rcases h.side with e | e
  · subst e
    rw [if_neg (show ¬ (0 : Int) = 1 by decide), show decide ((0 : Int) = 1) = false from rfl, Bool.false_and, Bool.false_or, m1]
    rcases Int.lt_or_le 0 y with z | z
    · rw [if_pos z, S_nn (show 0 ≤ y by omega)]
      exact ⟨(fun q => nomatch q), fun _ => by omega⟩
    · rw [if_neg (by omega), S_np z, decide_eq_true_iff, decide_eq_false_iff_not]
      exact ⟨fun q => by have := fp.mp q; omega, fun q => by have : ¬ h' < y * y := fun w => q (fp.mpr w); omega⟩
  · subst e
    rw [if_pos rfl, show decide ((1 : Int) = 1) = true from rfl, Bool.true_and, Bool.true_or, m2]
    rcases Int.lt_or_le 0 y with z | z
    · rw [if_pos z, S_nn (show 0 ≤ y by omega), decide_eq_true_iff, decide_eq_false_iff_not]
      exact ⟨fun q => by have := fs.mp q; omega, fun q => by have : ¬ y * y < h' := fun w => q (fs.mpr w); omega⟩
    · rw [if_neg (by omega), S_np z]
      exact ⟨fun _ => by omega, fun q => nomatch q⟩
/-! the whole part of a root -/
theorem part_right {a b c s g : Int} (h : Root a b c s) (g0 : 0 ≤ g) (g1 : g * g ≤ heart a b c) (g2 : heart a b c < (g + 1) * (g + 1)) {n : Int}
    (hn : n = ((if s = 0 then -g - 1 else g) - b) / (2 * a)) : abv a b c s n 1 = true ∧ abv a b c s (n + 1) 1 = false := by
  have pa := h.pos
  have gl : g * g < heart a b c := by
    have : g * g ≠ heart a b c := fun e => h.ns ⟨g, e⟩
    omega
  have lo := Int.mul_ediv_self_le (x := (if s = 0 then -g - 1 else g) - b) (k := 2 * a) (by omega)
  have hi := Int.lt_mul_ediv_self_add (x := (if s = 0 then -g - 1 else g) - b) (k := 2 * a) (by omega)
  rw [← hn] at lo hi
  have e1 : ∀ m : Int, 4 * a * (a * m * m + b * m * 1 + c * 1 * 1) = (2 * a * m + b) * (2 * a * m + b) - heart a b c := fun m => by unfold heart; grind
  have f1 := e1 n
  have f2 := e1 (n + 1)
  have e2 : 2 * a * (n + 1) = 2 * a * n + 2 * a := by grind
  rw [e2] at f2
  have neg : ∀ f : Int, 4 * a * f < 0 → f < 0 := fun f z => by
    rcases Int.lt_or_le f 0 with w | w
    · exact w
    · have := Int.mul_nonneg (show 0 ≤ 4 * a by omega) w
      omega
  have pos : ∀ f : Int, 0 < 4 * a * f → 0 < f := fun f z => by
    rcases Int.lt_or_le 0 f with w | w
    · exact w
    · have := Int.mul_nonneg (show 0 ≤ 4 * a by omega) (show 0 ≤ -f by omega)
      rw [Int.mul_neg] at this
      omega
  unfold abv
  rw [Int.mul_one, e2]
  generalize a * n * n + b * n * 1 + c * 1 * 1 = F1 at *
  generalize a * (n + 1) * (n + 1) + b * (n + 1) * 1 + c * 1 * 1 = F2 at *
  generalize 2 * a * n = y at *
  rcases h.side with e | e
  · subst e
    rw [if_pos rfl] at lo hi
    have a1 : (g + 1) * (g + 1) ≤ (y + b) * (y + b) := by
      have := sq_le (show 0 ≤ g + 1 by omega) (show g + 1 ≤ -(y + b) by omega)
      rw [Int.neg_mul_neg] at this
      exact this
    have p1 := pos F1 (by omega)
    constructor
    · rw [if_neg (by omega)]
      simp [p1]
    · split
      · simp
      · rename_i z
        have a2 := sq_le (x := -(y + 2 * a + b)) (y := g) (by omega) (by omega)
        rw [Int.neg_mul_neg] at a2
        have n1 := neg F2 (by omega)
        simp
        omega
  · subst e
    rw [if_neg (by decide)] at lo hi
    have a2 := sq_le (x := g + 1) (y := y + 2 * a + b) (by omega) (by omega)
    have p2 := pos F2 (by omega)
    constructor
    · split
      · rename_i z
        have a1 := sq_le (x := y + b) (y := g) (by omega) (by omega)
        have n1 := neg F1 (by omega)
        simp [n1]
      · simp
    · rw [if_pos (by omega)]
      simp
      omega
end RM

set_option maxHeartbeats 4000000
namespace RM
/-! 1 divided by a root less n -/
def abvS (s y f : Int) : Bool := if 0 < y then decide (s = 1) && decide (f < 0) else decide (s = 1) || decide (0 < f)
theorem abv_S (a b c s u l : Int) : abv a b c s u l = abvS s (2 * a * u + b * l) (a * u * u + b * u * l + c * l * l) := rfl
theorem abvS_iff {s y f : Int} : abvS s y f = true ↔ (0 < y ∧ s = 1 ∧ f < 0) ∨ (¬ 0 < y ∧ (s = 1 ∨ 0 < f)) := by
  unfold abvS
  by_cases h : 0 < y
  · rw [if_pos h, Bool.and_eq_true, decide_eq_true_iff, decide_eq_true_iff]
    omega
  · rw [if_neg h, Bool.or_eq_true, decide_eq_true_iff, decide_eq_true_iff]
    omega
theorem sgn_mul {k x : Int} (hk : 0 < k) : (0 < x → 0 < k * x) ∧ (x < 0 → k * x < 0) ∧ (x = 0 → k * x = 0) :=
  ⟨fun h => Int.mul_pos hk h, fun h => Int.mul_neg_of_pos_of_neg hk h, fun h => by rw [h, Int.mul_zero]⟩
theorem sgn3 {k x : Int} (hk : 0 < k) : (x < 0 ∧ k * x < 0) ∨ (x = 0 ∧ k * x = 0) ∨ (0 < x ∧ 0 < k * x) := by
  have h := sgn_mul (x := x) hk
  rcases Int.lt_trichotomy x 0 with z | z | z
  · exact .inl ⟨z, h.2.1 z⟩
  · exact .inr (.inl ⟨z, h.2.2 z⟩)
  · exact .inr (.inr ⟨z, h.1 z⟩)
theorem sgn33 {k m x : Int} (hk : 0 < k) (hm : 0 < m) : (x < 0 ∧ x * k < 0 ∧ x * m < 0) ∨ (x = 0 ∧ x * k = 0 ∧ x * m = 0) ∨ (0 < x ∧ 0 < x * k ∧ 0 < x * m) := by
  have h := sgn_mul (x := x) hk
  have g := sgn_mul (x := x) hm
  rw [Int.mul_comm k] at h
  rw [Int.mul_comm m] at g
  rcases Int.lt_trichotomy x 0 with z | z | z
  · exact .inl ⟨z, h.2.1 z, g.2.1 z⟩
  · exact .inr (.inl ⟨z, h.2.2 z, g.2.2 z⟩)
  · exact .inr (.inr ⟨z, h.1 z, g.1 z⟩)
theorem abvS_scale {k s y f : Int} (hk : 0 < k) : abvS s (k * y) (k * f) = abvS s y f := by
  rw [Bool.eq_iff_iff, abvS_iff, abvS_iff]
  have h1 := sgn_mul (x := y) hk
  have h2 := sgn_mul (x := f) hk
  omega
def due (a b c s n u l : Int) : Bool := if u = 0 then abv a b c s n 1 else if 0 < u then abv a b c s n 1 && !abv a b c s (n * u + l) u else abv a b c s n 1 || !abv a b c s (n * (0 - u) - l) (0 - u)
/-- the case by signs; p, q, a: the turned equation -/
theorem turn_up {a p q s u l d e f : Int} (ha : 0 < a) (hl : 0 < l) (hu : 0 < u) (hs : s = 0 ∨ s = 1) (hp : p ≠ 0) (hD : 4 * a * p < q * q) (hd : d = 2 * p * u + q * l) (he : e = q * u + 2 * a * l) (hR : u * d + l * e = 2 * f) (hf : f ≠ 0) :
    (if 0 < p then abvS (1 - s) d f else abvS s (-d) (-f)) = (abvS s q p && !abvS s e f) := by
  have al := Int.mul_pos (show 0 < 2 * a by omega) hl
  have h1 := sgn3 (x := d) hu
  have h2 := sgn3 (x := e) hl
  have h3 := sgn33 (x := q) hu hl
  have h4 := sgn3 (x := 2 * p) hu
  rw [Int.mul_comm u (2 * p)] at h4
  have q0 : 0 < p → q ≠ 0 := fun z e => by
    subst e
    have := Int.mul_pos (show 0 < 4 * a by omega) z
    omega
  have nb : 0 < p → q < 0 → 0 < e → ¬ 0 < d := fun y1 y2 y3 y4 => by
    have m := Int.mul_lt_mul_of_pos_right (show -(q * u) < 2 * a * l by omega) (show 0 < 2 * p * u by omega)
    have m2 := Int.mul_lt_mul_of_pos_left (show -(q * l) < 2 * p * u by omega) (show 0 < -(q * u) by omega)
    have e1 : 2 * a * l * (2 * p * u) = (4 * a * p) * (u * l) := by grind
    have e2 : -(q * u) * -(q * l) = (q * q) * (u * l) := by grind
    have m3 := Int.mul_lt_mul_of_pos_right hD (Int.mul_pos hu hl)
    omega
  by_cases h : 0 < p
  · rw [if_pos h, Bool.eq_iff_iff, Bool.and_eq_true, Bool.not_eq_true', Bool.eq_false_iff, ne_eq, abvS_iff, abvS_iff, abvS_iff]
    rcases hs with rfl | rfl <;> rcases h1 with h1 | h1 | h1 <;> rcases h2 with h2 | h2 | h2 <;> rcases h3 with h3 | h3 | h3 <;> rcases h4 with h4 | h4 | h4 <;> omega
  · rw [if_neg h, Bool.eq_iff_iff, Bool.and_eq_true, Bool.not_eq_true', Bool.eq_false_iff, ne_eq, abvS_iff, abvS_iff, abvS_iff]
    rcases hs with rfl | rfl <;> rcases h1 with h1 | h1 | h1 <;> rcases h2 with h2 | h2 | h2 <;> rcases h3 with h3 | h3 | h3 <;> rcases h4 with h4 | h4 | h4 <;> omega
theorem turn_down {a p q s v l d e f : Int} (ha : 0 < a) (hl : 0 < l) (hv : 0 < v) (hs : s = 0 ∨ s = 1) (hp : p ≠ 0) (hD : 4 * a * p < q * q) (hd : d = -(2 * p * v) + q * l) (he : e = -(q * v) + 2 * a * l) (hR : -(v * d) + l * e = 2 * f) (hf : f ≠ 0) :
    (if 0 < p then abvS (1 - s) d f else abvS s (-d) (-f)) = (abvS s q p || !abvS s (-e) f) := by
  have al := Int.mul_pos (show 0 < 2 * a by omega) hl
  have h1 := sgn3 (x := d) hv
  have h2 := sgn3 (x := e) hl
  have h3 := sgn33 (x := q) hv hl
  have h4 := sgn3 (x := 2 * p) hv
  rw [Int.mul_comm v (2 * p)] at h4
  have q0 : 0 < p → q ≠ 0 := fun z e => by
    subst e
    have := Int.mul_pos (show 0 < 4 * a by omega) z
    omega
  have nb : 0 < p → 0 < q → 0 ≤ e → 0 < d := fun y1 y2 y3 => by
    rcases Int.lt_or_le 0 d with z | z
    · exact z
    · exfalso
      have m := Int.mul_le_mul (show q * v ≤ 2 * a * l by omega) (show q * l ≤ 2 * p * v by omega) (by omega) (by omega)
      have e1 : 2 * a * l * (2 * p * v) = (4 * a * p) * (v * l) := by grind
      have e2 : q * v * (q * l) = (q * q) * (v * l) := by grind
      have m3 := Int.mul_lt_mul_of_pos_right hD (Int.mul_pos hv hl)
      omega
  by_cases h : 0 < p
  · rw [if_pos h, Bool.eq_iff_iff, Bool.or_eq_true, Bool.not_eq_true', Bool.eq_false_iff, ne_eq, abvS_iff, abvS_iff, abvS_iff]
    rcases hs with rfl | rfl <;> rcases h1 with h1 | h1 | h1 <;> rcases h2 with h2 | h2 | h2 <;> rcases h3 with h3 | h3 | h3 <;> rcases h4 with h4 | h4 | h4 <;> omega
  · rw [if_neg h, Bool.eq_iff_iff, Bool.or_eq_true, Bool.not_eq_true', Bool.eq_false_iff, ne_eq, abvS_iff, abvS_iff, abvS_iff]
    rcases hs with rfl | rfl <;> rcases h1 with h1 | h1 | h1 <;> rcases h2 with h2 | h2 | h2 <;> rcases h3 with h3 | h3 | h3 <;> rcases h4 with h4 | h4 | h4 <;> omega
theorem turn_flat {a p q s l d f : Int} (ha : 0 < a) (hl : 0 < l) (hs : s = 0 ∨ s = 1) (hp : p ≠ 0) (hD : 4 * a * p < q * q) (hd : d = q * l) (hf : f = a * (l * l)) :
    (if 0 < p then abvS (1 - s) d f else abvS s (-d) (-f)) = abvS s q p := by
  have ql := sgn_mul (x := q) hl
  rw [Int.mul_comm l q] at ql
  have fl := Int.mul_pos ha (Int.mul_pos hl hl)
  have q0 : 0 < p → q ≠ 0 := fun z e => by
    subst e
    have := Int.mul_pos (show 0 < 4 * a by omega) z
    omega
  by_cases h : 0 < p
  · rw [if_pos h, Bool.eq_iff_iff, abvS_iff, abvS_iff]
    omega
  · rw [if_neg h, Bool.eq_iff_iff, abvS_iff, abvS_iff]
    omega
/-- what turned tells -/
theorem turned_right {a b c s n : Int} (r : Root a b c s) : a * n * n + b * n + c ≠ 0 ∧ heart (a * n * n + b * n + c) (2 * a * n + b) a = heart a b c ∧
    ∀ {P Q A g : Int}, g ≠ 0 → a * n * n + b * n + c = P * g → 2 * a * n + b = Q * g → a = A * g → 0 < P → ∀ {u l : Int}, 0 < l →
      abv P Q A (if 0 < a * n * n + b * n + c then 1 - s else s) u l = due a b c s n u l := by
  have ha := r.pos
  have hh : heart (a * n * n + b * n + c) (2 * a * n + b) a = heart a b c := by unfold heart; grind
  have hp : a * n * n + b * n + c ≠ 0 := fun e => r.ns ⟨2 * a * n + b, by rw [← hh, e]; unfold heart; grind⟩
  refine ⟨hp, hh, ?_⟩
  intro P Q A g hg eP eQ eA hP u l hl
  have hD : 4 * a * (a * n * n + b * n + c) < (2 * a * n + b) * (2 * a * n + b) := by
    have := r.hp
    rw [← hh] at this
    unfold heart at this
    rw [show 4 * (a * n * n + b * n + c) * a = 4 * a * (a * n * n + b * n + c) by grind] at this
    omega
  obtain ⟨p, hpd⟩ : ∃ p, a * n * n + b * n + c = p := ⟨_, rfl⟩
  obtain ⟨q, hqd⟩ : ∃ q, 2 * a * n + b = q := ⟨_, rfl⟩
  have hF : ∀ u l : Int, a * (n * u + l) * (n * u + l) + b * (n * u + l) * u + c * u * u = p * u * u + q * u * l + a * l * l := fun u l => by subst hpd hqd; grind
  have hE : ∀ u l : Int, 2 * a * (n * u + l) + b * u = q * u + 2 * a * l := fun u l => by subst hqd; grind
  rw [hpd] at eP hD hp ⊢
  rw [hqd] at eQ hD
  obtain ⟨d, hd⟩ : ∃ d, 2 * p * u + q * l = d := ⟨_, rfl⟩
  obtain ⟨f, hf⟩ : ∃ f, p * u * u + q * u * l + a * l * l = f := ⟨_, rfl⟩
  have left : abv P Q A (if 0 < p then 1 - s else s) u l = if 0 < p then abvS (1 - s) d f else abvS s (-d) (-f) := by
    rw [abv_S]
    have e1 : g * (2 * P * u + Q * l) = d := by rw [← hd, eP, eQ]; grind
    have e2 : g * (P * u * u + Q * u * l + A * l * l) = f := by rw [← hf, eP, eQ, eA]; grind
    by_cases h : 0 < p
    · have g0 : 0 < g := by
        rcases Int.lt_or_le 0 g with z | z
        · exact z
        · have := Int.mul_nonneg (show 0 ≤ P by omega) (show 0 ≤ -g by omega)
          rw [Int.mul_neg] at this
          omega
      rw [if_pos h, if_pos h, ← abvS_scale g0, e1, e2]
    · have g0 : 0 < -g := by
        rcases Int.lt_or_le g 0 with z | z
        · omega
        · have := Int.mul_nonneg (show 0 ≤ P by omega) z
          omega
      rw [if_neg h, if_neg h, ← abvS_scale g0, Int.neg_mul, Int.neg_mul, e1, e2]
  have h0 : abv a b c s n 1 = abvS s q p := by
    rw [abv_S]
    congr 1
    · rw [← hqd]; omega
    · rw [← hpd]; grind
  rw [left]
  unfold due
  rw [h0]
  by_cases hu0 : u = 0
  · rw [if_pos hu0]
    subst hu0
    exact turn_flat ha hl r.side hp hD (by omega) (by rw [← hf]; grind)
  · rw [if_neg hu0]
    have hR : u * d + l * (q * u + 2 * a * l) = 2 * f := by rw [← hd, ← hf]; grind
    have f0 : f ≠ 0 := fun z => by
      have e1 : (q * u + 2 * a * l) * (q * u + 2 * a * l) = u * u * heart a b c := by
        have e2 : (q * u + 2 * a * l) * (q * u + 2 * a * l) = u * u * heart p q a + 4 * a * f := by rw [← hf]; unfold heart; grind
        rw [e2, z]
        rw [hpd, hqd] at hh
        rw [hh]
        omega
      exact r.ns (sq_of hu0 e1)
    by_cases hu : 0 < u
    · rw [if_pos hu, abv_S a b c s (n * u + l) u, hF, hE, hf]
      exact turn_up ha hl hu r.side hp hD hd.symm rfl hR f0
    · rw [if_neg hu]
      have e3 : abv a b c s (n * (0 - u) - l) (0 - u) = abvS s (-(q * u + 2 * a * l)) f := by
        rw [abv_S]
        congr 1
        · have := hE u l
          grind
        · have := hF u l
          rw [hf] at this
          grind
      rw [e3]
      exact turn_down (v := -u) ha hl (by omega) r.side hp hD (by rw [← hd]; grind) (by grind) (by rw [← hR]; grind) f0
end RM

namespace RM
/-! what a row stands for -/
def st : List Int → Int × Int
  | [] => (0, 0)
  | [x] => (x, 1)
  | a :: b :: r => (a * (st (b :: r)).1 + (st (b :: r)).2, (st (b :: r)).1)
theorem st_cons {a : Int} {r : List Int} (h : r ≠ []) : st (a :: r) = (a * (st r).1 + (st r).2, (st r).1) := by
  cases r with
  | nil => exact absurd rfl h
  | cons b r => rfl
def Ups (r : List Int) : Prop := ∀ x ∈ r, 1 ≤ x
end RM

set_option maxHeartbeats 4000000
namespace RM
/-! where a number lies beside u / l: 1 above, 0 there, -1 below -/
def cut : List Int → Int → Int → Int
  | [p, q], u, l => sg (p * l - u * q)
  | [a, b, c, s], u, l => if abv a b c s u l = true then 1 else -1
  | _, _, _ => 0
theorem S_lt {x y : Int} (h : x < y) : S x < S y := by
  rcases Int.lt_or_le x 0 with a | a
  · rcases Int.lt_or_le y 0 with b | b
    · rw [S_np (by omega), S_np (by omega)]
      have := sq_lt (x := -y) (y := -x) (by omega) (by omega)
      rw [Int.neg_mul_neg, Int.neg_mul_neg] at this
      omega
    · rw [S_np (by omega), S_nn b]
      have := Int.mul_self_nonneg_pos (show x ≠ 0 by omega)
      have := Int.mul_self_nonneg' y
      omega
  · rw [S_nn a, S_nn (by omega)]
    exact sq_lt a h
theorem S_le {x y : Int} (h : x ≤ y) : S x ≤ S y := by
  rcases Int.lt_or_eq_of_le h with z | z
  · have := S_lt z; omega
  · rw [z]; exact Int.le_refl _
theorem cut_01 (xs : List Int) (u l : Int) : cut xs u l = 1 ∨ cut xs u l = -1 ∨ cut xs u l = 0 := by
  unfold cut
  split
  · rename_i p q
    rcases sg_cases (p * l - u * q) with h | h | h
    · exact .inl h.1
    · exact .inr (.inl h.1)
    · exact .inr (.inr h.1)
  · split
    · exact .inl rfl
    · exact .inr (.inl rfl)
  · exact .inr (.inr rfl)
theorem cut_sA {xs : List Int} {A t D L u l : Int} (h : NumR xs A t D L) (hl : 0 < l) : cut xs u l = sg (sA A t D L u l) := by
  cases h with
  | frac hL hg =>
    have e : sA A 0 0 L u l = S (A * l - u * L) := by unfold sA; simp
    rw [e, sg_S]
    rfl
  | @root a b c s r =>
    have z := abv_sA (u := u) r hl
    show (if abv a b c s u l = true then 1 else -1) = _
    split
    · rename_i q
      rw [sg_pos (z.1 q)]
    · rename_i q
      rw [sg_nega (z.2 (by simpa using q))]
theorem sA_scale {A t D L u l k : Int} (hk : 0 < k) : sA A t D L (u * k) (l * k) = k * k * sA A t D L u l := by
  unfold sA
  rw [show A * (l * k) - u * k * L = k * (A * l - u * L) by grind, show t * (l * k) = k * (t * l) by grind, S_mul, S_mul, S_nn (show 0 ≤ k by omega)]
  grind
theorem sA_step {A t D L u u' l : Int} (hL : 0 < L) (h : u < u') : sA A t D L u' l < sA A t D L u l := by
  unfold sA
  have := Int.mul_lt_mul_of_pos_right h hL
  have := S_lt (show A * l - u' * L < A * l - u * L by omega)
  omega
theorem sg_le {x y : Int} (h : x ≤ y) : sg x ≤ sg y := by
  rcases sg_cases x with a | a | a <;> rcases sg_cases y with b | b | b <;> omega
theorem cut_le {xs : List Int} {A t D L u l u' l' : Int} (h : NumR xs A t D L) (hl : 0 < l) (hl' : 0 < l') (q : u * l' ≤ u' * l) : cut xs u' l' ≤ cut xs u l := by
  rw [cut_sA h hl, cut_sA h hl']
  have e1 := sg_scale (k := l' * l') (x := sA A t D L u l) (Int.mul_pos hl' hl')
  have e2 := sg_scale (k := l * l) (x := sA A t D L u' l') (Int.mul_pos hl hl)
  rw [← sA_scale hl'] at e1
  rw [← sA_scale hl] at e2
  rw [← e1, ← e2]
  refine sg_le ?_
  rw [Int.mul_comm l' l]
  rcases Int.lt_or_eq_of_le q with z | z
  · exact Int.le_of_lt (sA_step h.L_pos z)
  · rw [z]; exact Int.le_refl _
theorem cut_lt {xs : List Int} {A t D L u l u' l' : Int} (h : NumR xs A t D L) (hl : 0 < l) (hl' : 0 < l') (q : u * l' < u' * l) : (cut xs u l ≤ 0 → cut xs u' l' = -1) ∧ (0 ≤ cut xs u' l' → cut xs u l = 1) := by
  rw [cut_sA h hl, cut_sA h hl']
  have e1 := sg_scale (k := l' * l') (x := sA A t D L u l) (Int.mul_pos hl' hl')
  have e2 := sg_scale (k := l * l) (x := sA A t D L u' l') (Int.mul_pos hl hl)
  rw [← sA_scale hl'] at e1
  rw [← sA_scale hl] at e2
  rw [← e1, ← e2, Int.mul_comm l' l]
  have := sA_step (A := A) (t := t) (D := D) (l := l * l') h.L_pos q
  rcases sg_cases (sA A t D L (u * l') (l * l')) with a | a | a <;> rcases sg_cases (sA A t D L (u' * l) (l * l')) with b | b | b <;> omega
end RM

set_option maxHeartbeats 4000000
namespace RM
/-! between two numbers, the one less, lies a fraction -/
theorem isqrt_ex : ∀ n : Nat, ∃ k : Nat, k * k ≤ n ∧ n < (k + 1) * (k + 1)
  | 0 => ⟨0, by decide, by decide⟩
  | n + 1 => by
    obtain ⟨k, h1, h2⟩ := isqrt_ex n
    by_cases h : n + 1 < (k + 1) * (k + 1)
    · exact ⟨k, by omega, h⟩
    · exact ⟨k + 1, by omega, by grind⟩
theorem S_ceil (R : Int) : ∃ a : Int, R < S a ∧ S (a - 1) ≤ R := by
  rcases Int.lt_or_le R 0 with h | h
  · obtain ⟨k, h1, h2⟩ := isqrt_ex (-R - 1).toNat
    refine ⟨-(k : Int), ?_, ?_⟩
    · rw [S_np (by omega), Int.neg_mul_neg]
      have : ((k * k : Nat) : Int) ≤ -R - 1 := by omega
      rw [Int.natCast_mul] at this
      omega
    · rw [S_np (by omega), show (-(k : Int) - 1) * (-(k : Int) - 1) = ((k : Int) + 1) * ((k : Int) + 1) by grind]
      have : (-R - 1 : Int) < (((k + 1) * (k + 1) : Nat) : Int) := by omega
      rw [Int.natCast_mul, Int.natCast_add] at this
      have e : ((1 : Nat) : Int) = 1 := rfl
      rw [e] at this
      omega
  · obtain ⟨k, h1, h2⟩ := isqrt_ex R.toNat
    refine ⟨(k : Int) + 1, ?_, ?_⟩
    · rw [S_nn (by omega)]
      have : R < (((k + 1) * (k + 1) : Nat) : Int) := by omega
      rw [Int.natCast_mul, Int.natCast_add] at this
      have e : ((1 : Nat) : Int) = 1 := rfl
      rw [e] at this
      omega
    · rw [show (k : Int) + 1 - 1 = k by omega, S_nn (by omega)]
      have : ((k * k : Nat) : Int) ≤ R := by omega
      rw [Int.natCast_mul] at this
      omega
theorem F_mono {X Y P Q : Int} (h : X ≤ Y) : F X P Q ≤ F Y P Q := by
  unfold F
  refine sg_le ?_
  have := S_le h
  have := S_le (show S X + sg (P + Q) * ((P.natAbs : Int) + (Q.natAbs : Int)) ≤ S Y + sg (P + Q) * ((P.natAbs : Int) + (Q.natAbs : Int)) by omega)
  omega
/-- how far S leads -/
theorem S_near {x d : Int} (hd : 0 ≤ d) : S (x + d) ≤ S x + 2 * d * ((x.natAbs : Int) + d) := by
  have dd := Int.mul_nonneg hd hd
  rcases Int.lt_or_le x 0 with h | h
  · have e : (x.natAbs : Int) = -x := by omega
    rw [e, S_np (show x ≤ 0 by omega)]
    have dx := Int.mul_nonneg hd (show 0 ≤ -x by omega)
    rw [Int.mul_neg] at dx
    rcases Int.lt_or_le (x + d) 0 with g | g
    · rw [S_np (show x + d ≤ 0 by omega)]
      grind
    · rw [S_nn g]
      have : x * x ≤ d * d := by
        have := sq_le (x := -x) (y := d) (by omega) (by omega)
        rw [Int.neg_mul_neg] at this
        exact this
      have : 0 ≤ (x + d) * (-x) := Int.mul_nonneg g (by omega)
      grind
  · have e : (x.natAbs : Int) = x := by omega
    rw [e, S_nn h, S_nn (by omega)]
    grind
theorem gap {X P Q w T N : Int} (h : F X P Q = -1) (hw : ((S X + sg (P + Q) * ((P.natAbs : Int) + (Q.natAbs : Int))).natAbs : Int) ≤ w) (hT : (X.natAbs : Int) + 2 ≤ T) (hN : 8 * T * (w + 4 * T) < N) : F (N * X + 2) (N * N * P) (N * N * Q) = -1 := by
  have T1 : 1 ≤ T := by omega
  have w0 : 0 ≤ w := by omega
  have tw : 0 ≤ 8 * T * (w + 4 * T) := Int.mul_nonneg (by omega) (by omega)
  have N1 : 1 ≤ N := by omega
  have NN : 0 < N * N := Int.mul_pos (by omega) (by omega)
  unfold F at h ⊢
  have es : sg (N * N * P + N * N * Q) = sg (P + Q) := by rw [← Int.mul_add, sg_scale NN]
  have ea : ∀ x : Int, ((N * N * x).natAbs : Int) = N * N * (x.natAbs : Int) := fun x => by
    rw [Int.natAbs_mul, Int.natCast_mul, show ((N * N).natAbs : Int) = N * N by omega]
  rw [es, ea, ea]
  have V0 : S (S X + sg (P + Q) * ((P.natAbs : Int) + (Q.natAbs : Int))) + sg (P + Q) * 4 * (P * Q) ≤ -1 := by
    generalize S (S X + sg (P + Q) * ((P.natAbs : Int) + (Q.natAbs : Int))) + sg (P + Q) * 4 * (P * Q) = v at h
    rcases sg_cases v with z | z | z <;> omega
  have e4 : sg (P + Q) * 4 * (N * N * P * (N * N * Q)) = N * N * (N * N) * (sg (P + Q) * 4 * (P * Q)) := by grind
  have e5 : sg (P + Q) * (N * N * (P.natAbs : Int) + N * N * (Q.natAbs : Int)) = N * N * (sg (P + Q) * ((P.natAbs : Int) + (Q.natAbs : Int))) := by grind
  rw [e4, e5]
  generalize sg (P + Q) * 4 * (P * Q) = z at *
  generalize sg (P + Q) * ((P.natAbs : Int) + (Q.natAbs : Int)) = k at *
  -- the inner one
  have i1 := S_near (x := N * X) (d := 2) (by decide)
  have e6 : S (N * X) = N * N * S X := by rw [S_mul, S_nn (show 0 ≤ N by omega)]
  have e7 : ((N * X).natAbs : Int) = N * (X.natAbs : Int) := by rw [Int.natAbs_mul, Int.natCast_mul, show (N.natAbs : Int) = N by omega]
  rw [e6, e7] at i1
  have i2 : N * (X.natAbs : Int) + 2 ≤ N * T := by
    have := Int.mul_le_mul_of_nonneg_left hT (show 0 ≤ N by omega)
    rw [Int.mul_add] at this
    omega
  have i3 : S (N * X + 2) ≤ N * N * S X + 4 * (N * T) := by
    have NT := Int.mul_le_mul (show 1 ≤ N by omega) T1 (by decide) (by omega)
    omega
  have i4 : S (N * X + 2) + N * N * k ≤ N * N * (S X + k) + 4 * (N * T) := by rw [Int.mul_add]; omega
  have NT0 : 0 ≤ N * T := Int.mul_nonneg (by omega) (by omega)
  have i5 := S_near (x := N * N * (S X + k)) (d := 4 * (N * T)) (by omega)
  have i6 := S_le i4
  have e8 : S (N * N * (S X + k)) = N * N * (N * N) * S (S X + k) := by rw [S_mul, S_nn (show 0 ≤ N * N by omega)]
  have e9 : ((N * N * (S X + k)).natAbs : Int) = N * N * ((S X + k).natAbs : Int) := ea _
  rw [e8, e9] at i5
  generalize S (S X + k) = v at *
  generalize ((S X + k).natAbs : Int) = v' at *
  generalize S (S (N * X + 2) + N * N * k) = y at *
  have N4 : 0 < N * N * (N * N) := Int.mul_pos NN NN
  have c1 : N * N * (N * N) * (v + z) ≤ -(N * N * (N * N)) := by
    have := Int.mul_le_mul_of_nonneg_left V0 (show 0 ≤ N * N * (N * N) by omega)
    omega
  have c2 : 2 * (4 * (N * T)) * (N * N * v' + 4 * (N * T)) ≤ N * N * N * (8 * T * (w + 4 * T)) := by
    have d1 := Int.mul_le_mul_of_nonneg_left hw (show 0 ≤ N * N by omega)
    have d2 : N * T ≤ N * N * T := by
      have := Int.mul_le_mul_of_nonneg_right N1 NT0
      grind
    have d3 := Int.mul_le_mul_of_nonneg_left (show N * N * v' + 4 * (N * T) ≤ N * N * w + 4 * (N * N * T) by omega) (show 0 ≤ 2 * (4 * (N * T)) by omega)
    grind
  have c3 : N * N * N * (8 * T * (w + 4 * T)) < N * N * N * N := Int.mul_lt_mul_of_pos_left hN (Int.mul_pos NN (by omega))
  rw [Int.mul_add] at c1
  have e10 : N * N * N * N = N * N * (N * N) := by grind
  exact sg_nega (by omega)
theorem dense {xs ys : List Int} {A1 t1 D1 L1 A2 t2 D2 L2 w T : Int} (h1 : NumR xs A1 t1 D1 L1) (h2 : NumR ys A2 t2 D2 L2) (hc : cmpN A1 t1 D1 L1 A2 t2 D2 L2 = -1)
    (hw : ((S (A1 * L2 - A2 * L1) + sg (S (t1 * L2) * D1 + S (-t2 * L1) * D2) * (((S (t1 * L2) * D1).natAbs : Int) + ((S (-t2 * L1) * D2).natAbs : Int))).natAbs : Int) ≤ w) (hT : ((A1 * L2 - A2 * L1).natAbs : Int) + 2 ≤ T) :
    ∃ u l : Int, l = L1 * L2 * (8 * T * (w + 4 * T) + 1) ∧ 0 < l ∧ cut xs u l = -1 ∧ cut ys u l = 1 := by
  unfold cmpN at hc
  rw [cmp2_F h1.D_nn h2.D_nn] at hc
  have hg := gap hc hw hT (show 8 * T * (w + 4 * T) < 8 * T * (w + 4 * T) + 1 by omega)
  have tw : 0 ≤ 8 * T * (w + 4 * T) := Int.mul_nonneg (by omega) (by omega)
  obtain ⟨N, hN⟩ : ∃ N, 8 * T * (w + 4 * T) + 1 = N := ⟨_, rfl⟩
  rw [hN] at hg ⊢
  have N1 : 0 < N := by omega
  have l1 := h1.L_pos
  have l2 := h2.L_pos
  have hl : 0 < L1 * L2 * N := Int.mul_pos (Int.mul_pos l1 l2) N1
  obtain ⟨a, a1, a2⟩ := S_ceil (N * N * (S (t1 * L2) * D1))
  obtain ⟨c, c1, c2⟩ := S_ceil (N * N * (S (-t2 * L1) * D2))
  have key : a + c ≤ -(N * (A1 * L2 - A2 * L1)) := by
    rcases Int.lt_or_le (-(N * (A1 * L2 - A2 * L1))) (a + c) with z | z
    · exfalso
      have a3 : S (a - 2) < N * N * (S (t1 * L2) * D1) := by
        have := S_lt (show a - 2 < a - 1 by omega)
        omega
      have f := F_less (P := -(N * N * (S (t1 * L2) * D1))) (Q := -(N * N * (S (-t2 * L1) * D2))) (a := -(a - 2)) (c := -(c - 1)) (by rw [S_neg]; omega) (by rw [S_neg]; omega) (.inl (by rw [S_neg]; omega))
      rw [show -(-(a - 2) + -(c - 1)) = -(-((a - 2) + (c - 1))) by omega, F_neg] at f
      have m := F_mono (P := N * N * (S (t1 * L2) * D1)) (Q := N * N * (S (-t2 * L1) * D2)) (show -((a - 2) + (c - 1)) ≤ N * (A1 * L2 - A2 * L1) + 2 by omega)
      omega
    · exact z
  refine ⟨A1 * L2 * N + a, _, rfl, hl, ?_, ?_⟩
  · rw [cut_sA h1 hl]
    refine sg_nega ?_
    unfold sA
    rw [show A1 * (L1 * L2 * N) - (A1 * L2 * N + a) * L1 = -(a * L1) by grind, S_neg, S_mul, S_nn (show 0 ≤ L1 by omega), show t1 * (L1 * L2 * N) = t1 * L2 * (N * L1) by grind, S_mul _ (N * L1), S_nn (show 0 ≤ N * L1 from Int.mul_nonneg (by omega) (by omega))]
    have := Int.mul_lt_mul_of_pos_right a1 (Int.mul_pos l1 l1)
    grind
  · rw [cut_sA h2 hl]
    refine sg_pos ?_
    unfold sA
    obtain ⟨z, hz⟩ : ∃ z, -(N * (A1 * L2 - A2 * L1) + a) = z := ⟨_, rfl⟩
    have e1 : A2 * (L1 * L2 * N) - (A1 * L2 * N + a) * L2 = z * L2 := by grind
    have e2 : t2 * (L1 * L2 * N) = -(-t2 * L1 * (N * L2)) := by grind
    rw [e1, S_mul, S_nn (show 0 ≤ L2 by omega), e2, S_neg, S_mul _ (N * L2), S_nn (show 0 ≤ N * L2 from Int.mul_nonneg (by omega) (by omega))]
    have s1 := S_le (show c ≤ z by omega)
    have := Int.mul_lt_mul_of_pos_right (show N * N * (S (-t2 * L1) * D2) < S z by omega) (Int.mul_pos l2 l2)
    grind
end RM

set_option maxHeartbeats 4000000
namespace RM
/-! what a number leads to -/
/-- n: the greatest whole number that is no greater -/
inductive PartOf : List Int → Int → Prop where
  | frac {u l n : Int} (h1 : n * l ≤ u) (h2 : u < (n + 1) * l) : PartOf [u, l] n
  | root {a b c s n : Int} (h1 : abv a b c s n 1 = true) (h2 : abv a b c s (n + 1) 1 = false) (hb : n.natAbs ≤ (heart a b c).natAbs + b.natAbs + 1) : PartOf [a, b, c, s] n
/-- P, B, A: the turned root at n -/
def TurnOf (a b c s n P B A : Int) : Prop := Root P B A (if 0 < a * n * n + b * n + c then 1 - s else s) ∧ ∃ g : Int, g ≠ 0 ∧ a * n * n + b * n + c = P * g ∧ 2 * a * n + b = B * g ∧ a = A * g
inductive Led : List Int → Int → List Int → Prop where
  | frac {u l n : Int} (h : 0 < u - n * l) : Led [u, l] n [l, u - n * l]
  | root {a b c s n P B A : Int} (h : TurnOf a b c s n P B A) : Led [a, b, c, s] n [P, B, A, if 0 < a * n * n + b * n + c then 1 - s else s]
theorem PartOf.cuts {xs : List Int} {A t D L n : Int} (h : NumR xs A t D L) (p : PartOf xs n) : 0 ≤ cut xs n 1 ∧ cut xs (n + 1) 1 = -1 := by
  cases p with
  | @frac u l _ h1 h2 =>
    constructor
    · show 0 ≤ sg (u * 1 - n * l)
      rcases sg_cases (u * 1 - n * l) with z | z | z <;> omega
    · exact sg_nega (by omega)
  | @root a b c s _ h1 h2 hb =>
    constructor
    · show 0 ≤ (if abv a b c s n 1 = true then (1 : Int) else -1)
      rw [if_pos h1]; decide
    · show (if abv a b c s (n + 1) 1 = true then (1 : Int) else -1) = -1
      rw [h2]; rfl
theorem cut_root {a b c s u l : Int} : cut [a, b, c, s] u l = if abv a b c s u l = true then 1 else -1 := rfl
theorem cut_frac {p q u l : Int} : cut [p, q] u l = sg (p * l - u * q) := rfl
theorem Led.num {xs ys : List Int} {A t D L n : Int} (h : NumR xs A t D L) (p : Led xs n ys) : ∃ A' t' D' L', NumR ys A' t' D' L' := by
  cases p with
  | @frac u l _ z =>
    cases h with
    | frac hl hg =>
      refine ⟨_, _, _, _, .frac z ?_⟩
      rw [Int.gcd_comm] at hg
      simpa using hg
  | root z => exact ⟨_, _, _, _, .root z.1⟩
theorem Led.cuts {xs ys : List Int} {A t D L n u l : Int} (h : NumR xs A t D L) (hn : cut xs n 1 = 1) (p : Led xs n ys) (hu : 0 < u) (hl : 0 < l) : cut ys u l = -(cut xs (n * u + l) u) := by
  cases p with
  | @frac x q _ z =>
    rw [cut_frac, cut_frac, ← sg_neg]
    congr 1
    grind
  | @root a b c s _ P B A z =>
    cases h with
    | root r =>
      obtain ⟨rt, g, hg, e1, e2, e3⟩ := z
      have tr := (turned_right (n := n) r).2.2 hg e1 e2 e3 rt.pos (u := u) hl
      rw [cut_root] at hn ⊢
      have hn' : abv a b c s n 1 = true := by
        rcases Bool.eq_false_or_eq_true (abv a b c s n 1) with y | y
        · exact y
        · rw [y] at hn; exact absurd hn (by decide)
      rw [tr, cut_root]
      unfold due
      rw [if_neg (show ¬ u = 0 by omega), if_pos hu, hn', Bool.true_and]
      cases abv a b c s (n * u + l) u <;> rfl
/-- it is above 1 -/
theorem Led.above {xs ys : List Int} {A t D L n : Int} (h : NumR xs A t D L) (hn : cut xs n 1 = 1) (h1 : cut xs (n + 1) 1 = -1) (p : Led xs n ys) : cut ys 1 1 = 1 := by
  rw [p.cuts h hn (by decide) (by decide), Int.mul_one, h1]; rfl
/-! how great they grow -/
def Sz (D M : Int) : List Int → Prop
  | [u, l] => -M ≤ u ∧ u ≤ M ∧ l ≤ M
  | [a, b, c, _] => heart a b c ≤ D ∧ a ≤ M ∧ -(2 * M + D) ≤ b ∧ b ≤ 2 * M + D ∧ -M ≤ c ∧ c ≤ M
  | _ => False
theorem sq_bound {y h s : Int} (s0 : 0 ≤ s) (hs : h < (s + 1) * (s + 1)) (z : y * y ≤ h) : -s ≤ y ∧ y ≤ s := by
  constructor
  · have := lt_of_sq (x := -y) (y := s + 1) (by omega) (by rw [Int.neg_mul_neg]; omega)
    omega
  · have := lt_of_sq (x := y) (y := s + 1) (by omega) (by omega)
    omega
theorem part_mid {a b c s n m : Int} (r : Root a b c s) (h1 : abv a b c s n 1 = true) (h2 : abv a b c s (n + 1) 1 = false) (m0 : 0 ≤ m) (hm : heart a b c < (m + 1) * (m + 1)) : -m - 2 * a ≤ 2 * a * n + b ∧ 2 * a * n + b ≤ m := by
  have ha := r.pos
  have e4 : ∀ m : Int, 4 * a * (a * m * m + b * m * 1 + c * 1 * 1) = (2 * a * m + b * 1) * (2 * a * m + b * 1) - heart a b c := fun m => by unfold heart; grind
  have neg : ∀ m : Int, a * m * m + b * m * 1 + c * 1 * 1 ≤ 0 → (2 * a * m + b * 1) * (2 * a * m + b * 1) ≤ heart a b c := fun m z => by
    have := Int.mul_nonpos_of_nonneg_of_nonpos (show 0 ≤ 4 * a by omega) z
    have := e4 m
    omega
  constructor
  · have h2' := Bool.eq_false_iff.mp h2
    rw [abv_S, ne_eq, abvS_iff] at h2'
    have : 2 * a * (n + 1) = 2 * a * n + 2 * a := by grind
    rcases Int.lt_or_le 0 (2 * a * (n + 1) + b * 1) with z | z
    · omega
    · have := sq_bound m0 hm (neg (n + 1) (by omega))
      omega
  · rw [abv_S, abvS_iff] at h1
    rcases Int.lt_or_le 0 (2 * a * n + b * 1) with z | z
    · have := sq_bound m0 hm (neg n (by omega))
      omega
    · omega
theorem grow {a f y h m : Int} (ha : 0 < a) (h0 : 0 < h) (m0 : 0 ≤ m) (hm : m * m ≤ h) (e : 4 * a * f = y * y - h) (y1 : -m - 2 * a ≤ y) (y2 : y ≤ m) : -h ≤ f ∧ f ≤ a + m := by
  have yy := Int.mul_self_nonneg' y
  constructor
  · rcases Int.lt_or_le f 0 with z | z
    · have := Int.mul_le_mul_of_nonneg_right (show 1 ≤ 4 * a by omega) (show 0 ≤ -f by omega)
      simp only [Int.mul_neg, Int.one_mul] at this
      omega
    · omega
  · have b1 : y * y ≤ (m + 2 * a) * (m + 2 * a) := by
      rcases Int.lt_or_le y 0 with q | q
      · have := sq_le (x := -y) (y := m + 2 * a) (by omega) (by omega)
        rw [Int.neg_mul_neg] at this
        exact this
      · exact sq_le q (by omega)
    have b2 : (m + 2 * a) * (m + 2 * a) = m * m + 4 * a * (a + m) := by grind
    exact Int.le_of_mul_le_mul_left (show 4 * a * f ≤ 4 * a * (a + m) by omega) (show 0 < 4 * a by omega)
theorem isqrt_int {h : Int} (h0 : 0 ≤ h) : ∃ m : Int, 0 ≤ m ∧ m * m ≤ h ∧ h < (m + 1) * (m + 1) ∧ m ≤ h := by
  obtain ⟨k, h1, h2⟩ := isqrt_ex h.toNat
  have a1 : ((k * k : Nat) : Int) ≤ h := by omega
  have a2 : h < (((k + 1) * (k + 1) : Nat) : Int) := by omega
  rw [Int.natCast_mul] at a1 a2
  rw [Int.natCast_add] at a2
  exact ⟨k, by omega, a1, a2, sqrt_le (by omega) a1⟩
theorem Led.size {xs ys : List Int} {A t D' L n D M : Int} (h : NumR xs A t D' L) (p : PartOf xs n) (q : Led xs n ys) (z : Sz D M xs) (D0 : 0 ≤ D) : Sz D (M + D) ys := by
  cases q with
  | @frac u l _ z' =>
    cases h with
    | frac hl hg =>
      cases p with
      | frac h1 h2 =>
        obtain ⟨z1, z2, z3⟩ := z
        have e : (n + 1) * L = n * L + L := by grind
        refine ⟨?_, ?_, ?_⟩ <;> omega
  | @root a b c s _ P B A' z' =>
    cases h with
    | root r =>
      cases p with
      | root h1 h2 hb =>
        obtain ⟨z1, z2, z3, z4, z5, z6⟩ := z
        obtain ⟨rt, g, hg, e1, e2, e3⟩ := z'
        have hp := r.hp
        obtain ⟨m, m0, m1, m2, m3⟩ := isqrt_int (show 0 ≤ heart a b c by omega)
        have md := part_mid r h1 h2 m0 m2
        have e4 : 4 * a * (a * n * n + b * n + c) = (2 * a * n + b) * (2 * a * n + b) - heart a b c := by unfold heart; grind
        have gr := grow r.pos r.hp m0 m1 e4 md.1 md.2
        have hh := (turned_right (n := n) r).2.1
        have ha := r.pos
        have sm : ∀ {x y : Int}, x = y * g → y.natAbs ≤ x.natAbs := fun {x y} e => by
          rw [e, Int.natAbs_mul]
          exact Nat.le_mul_of_pos_right _ (by omega)
        have s1 := sm e1
        have s2 := sm e2
        have s3 := sm e3
        have hz : heart P B A' ≤ D := by
          refine Int.le_trans ?_ z1
          rw [← hh, e1, e2]
          conv => rhs; rw [e3]
          rw [heart_mul]
          have gg := Int.mul_self_nonneg_pos hg
          have := Int.mul_le_mul_of_nonneg_right (show 1 ≤ g * g by omega) (show 0 ≤ heart P B A' by have := rt.hp; omega)
          omega
        exact ⟨hz, by omega, by omega, by omega, by omega, by omega⟩
/-- what turned asks -/
theorem turn_ok {a b c s n D M : Int} (r : Root a b c s) (p : PartOf [a, b, c, s] n) (z : Sz D M [a, b, c, s]) : -(M + D) ≤ a * n * n + b * n + c ∧ a * n * n + b * n + c ≤ M + D ∧ -(D + 2 * M) ≤ 2 * a * n + b ∧ 2 * a * n + b ≤ D + 2 * M ∧ n.natAbs ≤ 2 * (D + M).natAbs + 1 := by
  cases p with
  | root h1 h2 hb =>
    obtain ⟨z1, z2, z3, z4, z5, z6⟩ := z
    have hp := r.hp
    have ha := r.pos
    obtain ⟨m, m0, m1, m2, m3⟩ := isqrt_int (show 0 ≤ heart a b c by omega)
    have md := part_mid r h1 h2 m0 m2
    have e4 : 4 * a * (a * n * n + b * n + c) = (2 * a * n + b) * (2 * a * n + b) - heart a b c := by unfold heart; grind
    have gr := grow r.pos r.hp m0 m1 e4 md.1 md.2
    exact ⟨by omega, by omega, by omega, by omega, by omega⟩
end RM

set_option maxHeartbeats 4000000
namespace RM
/-! the simplest fraction between two numbers -/
/-- parts ahead of a fraction -/
def run : List Int → Int × Int → Int × Int
  | [], p => p
  | n :: r, p => (n * (run r p).1 + (run r p).2, (run r p).1)
theorem run_snoc (n : Int) (p : Int × Int) : ∀ ns : List Int, run (ns ++ [n]) p = run ns (n * p.1 + p.2, p.1)
  | [] => rfl
  | a :: r => by
    show (a * (run (r ++ [n]) p).1 + (run (r ++ [n]) p).2, (run (r ++ [n]) p).1) = _
    rw [run_snoc n p r]; rfl
theorem st_run (x : Int) : ∀ ns : List Int, st (ns ++ [x]) = run ns (x, 1)
  | [] => rfl
  | a :: r => by
    rw [List.cons_append, st_cons (by simp), st_run x r]; rfl
theorem run_mono {a b a' b' : Int} (h1 : a ≤ a') (h2 : b ≤ b') : ∀ {ns : List Int}, (∀ n ∈ ns, 0 ≤ n) → (run ns (a, b)).1 ≤ (run ns (a', b')).1 ∧ (run ns (a, b)).2 ≤ (run ns (a', b')).2
  | [], _ => ⟨h1, h2⟩
  | n :: r, h => by
    have ih := run_mono h1 h2 (ns := r) (fun x hx => h x (List.mem_cons_of_mem _ hx))
    have n0 := h n (List.mem_cons_self ..)
    have := Int.mul_le_mul_of_nonneg_left ih.1 n0
    exact ⟨by show n * _ + _ ≤ n * _ + _; omega, ih.1⟩
def Btw (xs : List Int) (yo : Option (List Int)) (u l : Int) : Prop := cut xs u l = -1 ∧ ∀ ys, yo = some ys → cut ys u l = 1
def Num (xs : List Int) : Prop := ∃ A t D L, NumR xs A t D L
def LedO (xs : List Int) (n : Int) : Option (List Int) → Prop
  | none => cut xs n 1 = 0
  | some ys => cut xs n 1 = 1 ∧ Led xs n ys
structure SInv (x0 : List Int) (y0 : Option (List Int)) (ns xs : List Int) (yo : Option (List Int)) (u0 l0 U L : Int) : Prop where
  nx : Num xs
  ny : ∀ ys, yo = some ys → Num ys
  low : 0 ≤ cut xs 0 1
  one : ns ≠ [] → 0 ≤ cut xs 1 1
  wit : Btw xs yo u0 l0
  lpos : 0 < l0
  wrun : run ns (u0, l0) = (U, L)
  down : ∀ u l, 0 < l → Btw x0 y0 u l → ∃ u' l', 0 < l' ∧ Btw xs yo u' l' ∧ run ns (u', l') = (u, l)
  up : ∀ u l, 0 < u → 0 < l → Btw xs yo u l → Btw x0 y0 (run ns (u, l)).1 (run ns (u, l)).2 ∧ 0 < (run ns (u, l)).2
  nn : ∀ n ∈ ns, 0 ≤ n
  ups : Ups (ns.drop 1)
theorem SInv.start {x0 : List Int} {y0 : Option (List Int)} {U L : Int} (nx : Num x0) (ny : ∀ ys, y0 = some ys → Num ys) (low : 0 ≤ cut x0 0 1) (w : Btw x0 y0 U L) (hL : 0 < L) : SInv x0 y0 [] x0 y0 U L U L where
  nx := nx
  ny := ny
  low := low
  one := fun h => absurd rfl h
  wit := w
  lpos := hL
  wrun := rfl
  down := fun u l hl b => ⟨u, l, hl, b, rfl⟩
  up := fun u l _ hl b => ⟨b, hl⟩
  nn := fun n hn => by cases hn
  ups := fun n hn => by cases hn
theorem above_part {xs : List Int} {n u l : Int} (nx : Num xs) (hl : 0 < l) (h0 : 0 ≤ cut xs n 1) (h : cut xs u l = -1) : n * l < u := by
  obtain ⟨A, t, D, L, nx⟩ := nx
  rcases Int.lt_or_le (n * l) u with z | z
  · exact z
  · have := cut_le nx hl (show (0 : Int) < 1 by decide) (u := u) (u' := n) (by omega)
    omega
theorem below_part {xs : List Int} {n u l : Int} (nx : Num xs) (hl : 0 < l) (h0 : cut xs n 1 ≤ 0) (h : cut xs u l = 1) : u < n * l := by
  obtain ⟨A, t, D, L, nx⟩ := nx
  rcases Int.lt_or_le u (n * l) with z | z
  · exact z
  · have := cut_le nx (show (0 : Int) < 1 by decide) hl (u := n) (u' := u) (by omega)
    omega
theorem part_nn {xs : List Int} {n m : Int} (nx : Num xs) (h0 : 0 ≤ cut xs m 1) (h : cut xs (n + 1) 1 = -1) : m ≤ n := by
  have := above_part nx (show (0 : Int) < 1 by decide) h0 h
  omega
theorem SInv.next {x0 : List Int} {y0 : Option (List Int)} {ns xs ys lo : List Int} {hi : Option (List Int)} {u0 l0 U L n : Int} (I : SInv x0 y0 ns xs (some ys) u0 l0 U L)
    (p0 : 0 ≤ cut xs n 1) (p1 : cut xs (n + 1) 1 = -1) (hb : cut ys (n + 1) 1 ≤ 0) (hlo : Led ys n lo) (hhi : LedO xs n hi) :
    SInv x0 y0 (ns ++ [n]) lo hi l0 (u0 - n * l0) U L ∧ u0 - n * l0 < l0 := by
  have nx := I.nx
  have ny := I.ny ys rfl
  obtain ⟨A, t, D, L', ny'⟩ := ny
  obtain ⟨A2, t2, D2, L2, nx'⟩ := nx
  have c1 : (0 : Int) < 1 := by decide
  have n0 : 0 ≤ n := part_nn I.nx I.low p1
  have yn : cut ys n 1 = 1 := by
    have a := above_part I.nx I.lpos p0 I.wit.1
    have b := cut_le ny' c1 I.lpos (u := n) (u' := u0) (by omega)
    have := I.wit.2 ys rfl
    rcases cut_01 ys n 1 with z | z | z <;> omega
  -- between, turned
  have dn : ∀ u l, 0 < l → Btw xs (some ys) u l → 0 < u - n * l ∧ u - n * l < l ∧ Btw lo hi l (u - n * l) := fun u l hl b => by
    have a := above_part I.nx hl p0 b.1
    have c := below_part ⟨_, _, _, _, ny'⟩ hl hb (b.2 ys rfl)
    rw [Int.add_mul, Int.one_mul] at c
    refine ⟨by omega, by omega, ?_, fun h' e => ?_⟩
    · rw [hlo.cuts ny' yn hl (by omega), show n * l + (u - n * l) = u by omega, b.2 ys rfl]
    · subst e
      rw [hhi.2.cuts nx' hhi.1 hl (by omega), show n * l + (u - n * l) = u by omega, b.1]; rfl
  have un : ∀ u l, 0 < u → 0 < l → Btw lo hi u l → Btw xs (some ys) (n * u + l) u := fun u l hu hl b => by
    refine ⟨?_, fun h' e => ?_⟩
    · cases hi with
      | none =>
        have z : cut xs n 1 = 0 := hhi
        exact (cut_lt nx' c1 hu (u := n) (u' := n * u + l) (by omega)).1 (by omega)
      | some hs =>
        have := hhi.2.cuts nx' hhi.1 hu hl
        rw [b.2 hs rfl] at this
        omega
    · cases e
      have := hlo.cuts ny' yn hu hl
      rw [b.1] at this
      omega
  have w := dn u0 l0 I.lpos I.wit
  have l1 : 0 ≤ cut lo 1 1 := by
    rw [hlo.cuts ny' yn c1 c1, Int.mul_one]
    omega
  obtain ⟨A3, t3, D3, L3, nl⟩ := hlo.num ny'
  refine ⟨⟨⟨_, _, _, _, nl⟩, ?_, ?_, fun _ => l1, w.2.2, w.1, ?_, ?_, ?_, ?_, ?_⟩, w.2.1⟩
  · intro h' e
    subst e
    obtain ⟨_, _, _, _, z⟩ := hhi.2.num nx'
    exact ⟨_, _, _, _, z⟩
  · have := cut_le nl c1 c1 (u := 0) (u' := 1) (by decide)
    omega
  · rw [run_snoc]
    show run ns (n * l0 + (u0 - n * l0), l0) = _
    rw [show n * l0 + (u0 - n * l0) = u0 by omega]
    exact I.wrun
  · intro u l hl b
    obtain ⟨u', l', h1, h2, h3⟩ := I.down u l hl b
    have z := dn u' l' h1 h2
    refine ⟨l', u' - n * l', z.1, z.2.2, ?_⟩
    rw [run_snoc]
    show run ns (n * l' + (u' - n * l'), l') = _
    rw [show n * l' + (u' - n * l') = u' by omega]
    exact h3
  · intro u l hu hl b
    rw [run_snoc]
    have := Int.mul_nonneg n0 (show 0 ≤ u by omega)
    exact I.up (n * u + l) u (by omega) hu (un u l hu hl b)
  · intro m hm
    rcases List.mem_append.mp hm with z | z
    · exact I.nn m z
    · rw [List.mem_singleton] at z; omega
  · intro m hm
    by_cases e : ns = []
    · subst e; cases hm
    · rw [List.drop_append_of_le_length (List.length_pos_iff.mpr e)] at hm
      rcases List.mem_append.mp hm with z | z
      · exact I.ups m z
      · rw [List.mem_singleton] at z
        have := part_nn I.nx (I.one e) p1
        omega
/-- the told one is between, and none between is simpler -/
theorem SInv.stop {x0 : List Int} {y0 : Option (List Int)} {ns xs : List Int} {yo : Option (List Int)} {u0 l0 U L n : Int} (I : SInv x0 y0 ns xs yo u0 l0 U L)
    (p0 : 0 ≤ cut xs n 1) (p1 : cut xs (n + 1) 1 = -1) (hb : ∀ ys, yo = some ys → cut ys (n + 1) 1 = 1) :
    Btw x0 y0 (st (ns ++ [n + 1])).1 (st (ns ++ [n + 1])).2 ∧ 0 < (st (ns ++ [n + 1])).2 ∧ (∀ u l, 0 < l → Btw x0 y0 u l → (st (ns ++ [n + 1])).2 ≤ l ∧ (st (ns ++ [n + 1])).1 ≤ u) ∧ Ups ((ns ++ [n + 1]).drop 1) ∧ (∀ m ∈ ns ++ [n + 1], 0 ≤ m) := by
  have n0 : 0 ≤ n := part_nn I.nx I.low p1
  rw [st_run]
  have z := I.up (n + 1) 1 (by omega) (by decide) ⟨p1, hb⟩
  refine ⟨z.1, z.2, fun u l hl b => ?_, ?_, ?_⟩
  · obtain ⟨u', l', h1, h2, h3⟩ := I.down u l hl b
    have a := above_part I.nx h1 p0 h2.1
    have : n * 1 ≤ n * l' := Int.mul_le_mul_of_nonneg_left (by omega) n0
    have m := run_mono (a := n + 1) (b := 1) (a' := u') (b' := l') (by omega) (by omega) I.nn
    rw [h3] at m
    exact ⟨m.2, m.1⟩
  · intro m hm
    by_cases e : ns = []
    · subst e; cases hm
    · rw [List.drop_append_of_le_length (List.length_pos_iff.mpr e)] at hm
      rcases List.mem_append.mp hm with z | z
      · exact I.ups m z
      · rw [List.mem_singleton] at z
        omega
  · intro m hm
    rcases List.mem_append.mp hm with z | z
    · exact I.nn m z
    · rw [List.mem_singleton] at z; omega
end RM

set_option maxHeartbeats 4000000
namespace RM
/-! the fractions next to a number, of all with a lower number up to most -/
def sgB (up : Bool) : Int := if up = true then -1 else 1
structure AInv (xs : List Int) (most n0 : Int) (a b c d : Int) (ys : List Int) (up : Bool) : Prop where
  ny : Num ys
  one : cut ys 1 1 = 1
  d1 : 1 ≤ d
  dm : d ≤ most
  bm : b ≤ most
  b0 : 1 ≤ b ∨ (b = 0 ∧ d = 1)
  det : if up = true then a * d - c * b = 1 else c * b - a * d = 1
  tr : ∀ u l, 0 < u → 0 < l → cut xs (c * u + a * l) (d * u + b * l) = sgB up * cut ys u l
  pl : cut xs c d = -(sgB up)
  la : 1 ≤ b → cut xs a b = sgB up
  e1 : n0 * b ≤ a
  e2 : n0 * d ≤ c
  e3 : c ≤ n0 * d + d
  e4 : a + c ≤ n0 * b + n0 * d + b + d
theorem AInv.start {xs ys : List Int} {most n0 : Int} (nx : Num xs) (hm : 1 ≤ most) (hno : ∀ u l, 0 < l → l ≤ most → cut xs u l ≠ 0) (p0 : 0 ≤ cut xs n0 1) (p1 : cut xs (n0 + 1) 1 = -1) (h : Led xs n0 ys) :
    AInv xs most n0 1 0 n0 1 ys true := by
  obtain ⟨A, t, D, L, nx⟩ := nx
  have c1 : (0 : Int) < 1 := by decide
  have pc : cut xs n0 1 = 1 := by
    have := hno n0 1 c1 hm
    rcases cut_01 xs n0 1 with z | z | z <;> omega
  obtain ⟨_, _, _, _, ny⟩ := h.num nx
  refine ⟨⟨_, _, _, _, ny⟩, h.above nx pc p1, by omega, hm, by omega, .inr ⟨rfl, rfl⟩, ?_, ?_, ?_, fun z => absurd z (by decide), by omega, by omega, by omega, by omega⟩
  · rw [if_pos rfl]; omega
  · intro u l hu hl
    rw [h.cuts nx pc hu hl, show n0 * u + 1 * l = n0 * u + l by omega, show 1 * u + 0 * l = u by omega]
    show _ = -1 * _
    omega
  · rw [pc]; rfl
theorem AInv.next {xs ys zs : List Int} {most n0 a b c d n : Int} {up : Bool} (I : AInv xs most n0 a b c d ys up) (n1 : 1 ≤ n) (pc : cut ys n 1 = 1) (p1 : cut ys (n + 1) 1 = -1) (hn : b + n * d ≤ most) (h : Led ys n zs) :
    AInv xs most n0 c d (a + n * c) (b + n * d) zs (!up) ∧ b + d < d + (b + n * d) := by
  obtain ⟨A, t, D, L, ny⟩ := I.ny
  obtain ⟨_, _, _, _, nz⟩ := h.num ny
  have d1 := I.d1
  have hb := I.b0
  have nd := Int.mul_le_mul_of_nonneg_right n1 (show 0 ≤ d by omega)
  have sb : sgB (!up) = -(sgB up) := by cases up <;> rfl
  have e1 := I.e1
  have e2 := I.e2
  have e3 := I.e3
  have e4 := I.e4
  refine ⟨⟨⟨_, _, _, _, nz⟩, h.above ny pc p1, by omega, hn, I.dm, .inl d1, ?_, ?_, ?_, ?_, e2, ?_, ?_, ?_⟩, by omega⟩
  · have := I.det
    cases up
    · rw [if_neg (by decide)] at this
      rw [if_pos (by decide)]
      grind
    · rw [if_pos rfl] at this
      rw [if_neg (by decide)]
      grind
  · intro u l hu hl
    have nu := Int.mul_pos (show 0 < n by omega) hu
    have t := I.tr (n * u + l) u (by omega) hu
    rw [show (a + n * c) * u + c * l = c * (n * u + l) + a * u by grind, show (b + n * d) * u + d * l = d * (n * u + l) + b * u by grind, t, sb, h.cuts ny pc hu hl]
    grind
  · have t := I.tr n 1 (by omega) (by decide)
    rw [show a + n * c = c * n + a * 1 by grind, show b + n * d = d * n + b * 1 by grind, t, pc, sb]
    omega
  · intro _
    rw [I.pl, sb]
  · have := Int.mul_le_mul_of_nonneg_left e2 (show 0 ≤ n by omega)
    grind
  · have := Int.mul_le_mul_of_nonneg_left e3 (show 0 ≤ n - 1 by omega)
    grind
  · have := Int.mul_le_mul_of_nonneg_left e3 (show 0 ≤ n - 1 by omega)
    grind
/-- lo and hi: next to the number -/
structure Arnd (xs : List Int) (most B lo0 lo1 hi0 hi1 : Int) : Prop where
  l0 : 0 < lo1
  l1 : lo1 ≤ most
  h0 : 0 < hi1
  h1 : hi1 ≤ most
  sum : most < lo1 + hi1
  det : hi0 * lo1 - lo0 * hi1 = 1
  cl : cut xs lo0 lo1 = 1
  ch : cut xs hi0 hi1 = -1
  bl : -B ≤ lo0 ∧ lo0 ≤ B
  bh : -B ≤ hi0 ∧ hi0 ≤ B
theorem AInv.stop {xs ys : List Int} {most n0 a b c d n m B : Int} {up : Bool} (I : AInv xs most n0 a b c d ys up) (hm : 1 ≤ most) (p0 : 0 ≤ cut ys n 1) (hmn : m < n) (m0 : 0 ≤ m) (h1 : b + m * d ≤ most) (h2 : most < b + m * d + d)
    (hB : (n0.natAbs : Int) * (2 * most) + 2 * most ≤ B) :
    if up = true then Arnd xs most B c d (a + m * c) (b + m * d) else Arnd xs most B (a + m * c) (b + m * d) c d := by
  have d1 := I.d1
  have dm := I.dm
  have bm := I.bm
  have hb := I.b0
  have md := Int.mul_nonneg m0 (show 0 ≤ d by omega)
  have low : 0 < b + m * d := by
    rcases hb with z | ⟨z1, z2⟩
    · omega
    · subst z2; omega
  obtain ⟨A, t, D, L, ny⟩ := I.ny
  have side : cut xs (a + m * c) (b + m * d) = sgB up := by
    by_cases z : m = 0
    · subst z
      rw [show a + 0 * c = a by omega, show b + 0 * d = b by omega]
      exact I.la (by omega)
    · have t := I.tr m 1 (by omega) (by decide)
      have := (cut_lt ny (show (0 : Int) < 1 by decide) (show (0 : Int) < 1 by decide) (u := m) (u' := n) (by omega)).2 p0
      rw [show a + m * c = c * m + a * 1 by grind, show b + m * d = d * m + b * 1 by grind, t, this]
      omega
  have e1 := I.e1
  have e2 := I.e2
  have e3 := I.e3
  have e4 := I.e4
  have bnd : ∀ x : Int, 0 ≤ x → x ≤ 2 * most → -(n0.natAbs * (2 * most)) ≤ n0 * x ∧ n0 * x ≤ n0.natAbs * (2 * most) := fun x x0 x1 => by
    have q1 := Int.mul_le_mul_of_nonneg_left x1 (show 0 ≤ (n0.natAbs : Int) by omega)
    have q2 : (n0 * x).natAbs = n0.natAbs * x.natAbs := Int.natAbs_mul ..
    have q3 : ((n0.natAbs * x.natAbs : Nat) : Int) = (n0.natAbs : Int) * x := by rw [Int.natCast_mul, show (x.natAbs : Int) = x by omega]
    omega
  have g1 := bnd d (by omega) (by omega)
  have g2 : -B ≤ a + m * c ∧ a + m * c ≤ B := by
    have g3 := bnd (b + m * d) (by omega) (by omega)
    have q1 := Int.mul_le_mul_of_nonneg_left e2 m0
    have e5 : n0 * (b + m * d) = n0 * b + m * (n0 * d) := by grind
    by_cases z : m = 0
    · subst z; omega
    · have q2 := Int.mul_le_mul_of_nonneg_left e3 (show 0 ≤ m - 1 by omega)
      have e6 : m * c = (m - 1) * c + c := by grind
      have e7 : (m - 1) * (n0 * d + d) = m * (n0 * d) - n0 * d + m * d - d := by grind
      omega
  have pl := I.pl
  have det := I.det
  cases up
  · rw [if_neg (by decide)] at det ⊢
    exact ⟨low, h1, by omega, dm, by omega, by grind, side, pl, g2, by omega, by omega⟩
  · rw [if_pos rfl] at det ⊢
    exact ⟨by omega, dm, low, h1, by omega, by grind, pl, side, ⟨by omega, by omega⟩, g2⟩
/-- no other lies between them -/
theorem Arnd.none {xs : List Int} {most B lo0 lo1 hi0 hi1 u l : Int} (R : Arnd xs most B lo0 lo1 hi0 hi1) (hl : 0 < l) (hm : l ≤ most) : u * lo1 ≤ lo0 * l ∨ hi0 * l ≤ u * hi1 := by
  rcases Int.lt_or_le (lo0 * l) (u * lo1) with x | x
  · rcases Int.lt_or_le (u * hi1) (hi0 * l) with y | y
    · exfalso
      have l0 := R.l0
      have h0 := R.h0
      have q1 := Int.mul_le_mul_of_nonneg_left (show 1 ≤ hi0 * l - u * hi1 by omega) (show 0 ≤ lo1 by omega)
      have q2 := Int.mul_le_mul_of_nonneg_left (show 1 ≤ u * lo1 - lo0 * l by omega) (show 0 ≤ hi1 by omega)
      have e : lo1 * (hi0 * l - u * hi1) + hi1 * (u * lo1 - lo0 * l) = l * (hi0 * lo1 - lo0 * hi1) := by grind
      rw [R.det] at e
      have := R.sum
      omega
    · exact .inr y
  · exact .inl x
theorem no_root {a b c s most : Int} : ∀ u l, 0 < l → l ≤ most → cut [a, b, c, s] u l ≠ 0 := fun u l _ _ => by
  rw [cut_root]; split <;> decide
end RM

set_option maxHeartbeats 4000000
namespace RM
/-! the nearest -/
/-- nearer to the number than f is o -/
def nr (xs : List Int) (o0 o1 f0 f1 : Int) : Prop := if o0 * f1 < f0 * o1 then cut xs (o0 * f1 + f0 * o1) (2 * o1 * f1) = -1 else cut xs (o0 * f1 + f0 * o1) (2 * o1 * f1) = 1
structure Best (xs : List Int) (most f0 f1 : Int) : Prop where
  all : ∀ o0 o1, 0 < o1 → o1 ≤ most → Int.gcd o0 o1 = 1 → ¬ (o0 = f0 ∧ o1 = f1) → ¬ nr xs o0 o1 f0 f1 ∧ (¬ nr xs f0 f1 o0 o1 → ¬ (o1 < f1 ∨ (o1 = f1 ∧ o0 < f0)))
theorem det_gcd {a b c d : Int} (h : a * d - c * b = 1) : Int.gcd a b = 1 ∧ Int.gcd c d = 1 := by
  constructor
  · have h1 : ((Int.gcd a b : Nat) : Int) ∣ a * d - c * b := Int.dvd_sub (Int.dvd_mul_of_dvd_left (Int.gcd_dvd_left ..) ) (Int.dvd_mul_of_dvd_right (Int.gcd_dvd_right ..))
    rw [h] at h1
    have := Int.le_of_dvd (by decide) h1
    have : Int.gcd a b ≠ 0 := fun z => by
      rw [z] at h1
      obtain ⟨k, hk⟩ := h1
      simp at hk
    omega
  · have h1 : ((Int.gcd c d : Nat) : Int) ∣ a * d - c * b := Int.dvd_sub (Int.dvd_mul_of_dvd_right (Int.gcd_dvd_right ..)) (Int.dvd_mul_of_dvd_left (Int.gcd_dvd_left ..))
    rw [h] at h1
    have := Int.le_of_dvd (by decide) h1
    have : Int.gcd c d ≠ 0 := fun z => by
      rw [z] at h1
      obtain ⟨k, hk⟩ := h1
      simp at hk
    omega
end RM

set_option maxHeartbeats 4000000
namespace RM
/-! all fractions with a lower number up to most, in their order -/
structure FInv (lo0 lo1 hi0 hi1 most : Int) (a b c d : Int) (fs : List (Int × Int)) : Prop where
  b1 : 1 ≤ b
  bm : b ≤ most
  d1 : 1 ≤ d
  dm : d ≤ most
  det : c * b - a * d = 1
  sum : most < b + d
  lo : lo0 * d ≤ c * lo1
  mem : ∀ p ∈ fs, 0 < p.2 ∧ p.2 ≤ most ∧ Int.gcd p.1 p.2 = 1 ∧ lo0 * p.2 ≤ p.1 * lo1 ∧ p.1 * hi1 ≤ hi0 * p.2
  ch : ∀ (i : Nat) p q, fs[i]? = some p → fs[i + 1]? = some q → q.1 * p.2 - p.1 * q.2 = 1
  last : ∀ p, fs.getLast? = some p → p = (a, b)
  all : ∀ u l, 0 < l → l ≤ most → Int.gcd u l = 1 → lo0 * l ≤ u * lo1 → u * d < c * l → (u, l) ∈ fs
  below : ∀ p ∈ fs, p.1 * d < c * p.2
  nd : fs.Nodup
theorem FInv.start {xs : List Int} {lo0 lo1 hi0 hi1 most B a b c d : Int} (R : Arnd xs most B a b c d) (l1 : 0 < lo1) (m1 : 1 ≤ most) (hx : Num xs) (hc : ∀ u l, 0 < l → cut xs u l = sg ((2 * most * lo0 - 1) * l - u * (2 * most * lo1))) : FInv lo0 lo1 hi0 hi1 most a b c d [] := by
  have d0 := R.h0
  have b0 := R.l0
  refine ⟨R.l0, R.l1, R.h0, R.h1, R.det, R.sum, ?_, fun p hp => (by cases hp), fun i p q h => by simp at h, fun p h => by simp at h, ?_, fun p hp => (by cases hp), List.nodup_nil⟩
  · have ch := R.ch
    rw [hc c d d0] at ch
    have neg : (2 * most * lo0 - 1) * d - c * (2 * most * lo1) < 0 := by
      rcases sg_cases ((2 * most * lo0 - 1) * d - c * (2 * most * lo1)) with z | z | z <;> omega
    rcases Int.lt_or_le (c * lo1) (lo0 * d) with z | z
    · have := Int.mul_le_mul_of_nonneg_left (show 1 ≤ lo0 * d - c * lo1 by omega) (show 0 ≤ 2 * most by omega)
      have e : (2 * most * lo0 - 1) * d - c * (2 * most * lo1) = 2 * most * (lo0 * d - c * lo1) - d := by grind
      have := R.h1
      omega
    · exact z
  · intro u l hl hm g h1 h2
    exfalso
    rcases R.none hl hm (u := u) with z | z
    · obtain ⟨A, t, D, L, nx⟩ := hx
      have := cut_le nx hl b0 (u := u) (u' := a) z
      rw [R.cl] at this
      rw [hc u l hl] at this
      have e : (2 * most * lo0 - 1) * l - u * (2 * most * lo1) = 2 * most * (lo0 * l - u * lo1) - l := by grind
      have := Int.mul_nonpos_of_nonneg_of_nonpos (show 0 ≤ 2 * most by omega) (show lo0 * l - u * lo1 ≤ 0 by omega)
      have : sg ((2 * most * lo0 - 1) * l - u * (2 * most * lo1)) = -1 := sg_nega (by omega)
      omega
    · omega
theorem lt_trans_frac {a b c d e f : Int} (hb : 0 < b) (hd : 0 < d) (hf : 0 < f) (h1 : a * d ≤ c * b) (h2 : c * f < e * d) : a * f < e * b := by
  have q1 := Int.mul_le_mul_of_nonneg_right h1 (show 0 ≤ f by omega)
  have q2 := Int.mul_lt_mul_of_pos_right h2 hb
  have : d * (a * f) < d * (e * b) := by grind
  exact Int.lt_of_mul_lt_mul_left this (by omega)
theorem FInv.next {lo0 lo1 hi0 hi1 most a b c d t : Int} {fs : List (Int × Int)} (I : FInv lo0 lo1 hi0 hi1 most a b c d fs) (l1 : 0 < lo1) (hh : c * hi1 ≤ hi0 * d) (ht : t = (most + b) / d) :
    FInv lo0 lo1 hi0 hi1 most c d (t * c - a) (t * d - b) (fs ++ [(c, d)]) := by
  have d1 := I.d1
  have b1 := I.b1
  have dm := I.dm
  have bm := I.bm
  have det := I.det
  have t1 : d * t ≤ most + b := by rw [ht]; exact Int.mul_ediv_self_le (by omega)
  have t2 : most + b < d * t + d := by rw [ht]; exact Int.lt_mul_ediv_self_add (by omega)
  rw [Int.mul_comm] at t1 t2
  have gcd := (det_gcd (a := c) (b := d) (c := a) (d := b) det).1
  have det' : (t * c - a) * d - c * (t * d - b) = 1 := by grind
  have lt : c * (t * d - b) < (t * c - a) * d := by omega
  refine ⟨d1, dm, by omega, by omega, det', by omega, ?_, ?_, ?_, ?_, ?_, ?_, ?_⟩
  · rcases Int.lt_or_le ((t * c - a) * lo1) (lo0 * (t * d - b)) with z | z
    · exfalso
      have := lt_trans_frac l1 (show 0 < d by omega) (show 0 < t * d - b by omega) I.lo lt
      omega
    · exact z
  · intro p hp
    rcases List.mem_append.mp hp with z | z
    · exact I.mem p z
    · rw [List.mem_singleton] at z
      subst z
      exact ⟨by show 0 < d; omega, dm, gcd, I.lo, hh⟩
  · intro i p q hp hq
    have hi : i + 1 < (fs ++ [(c, d)]).length := (List.getElem?_eq_some_iff.mp hq).1
    rw [List.length_append, List.length_singleton] at hi
    rcases Nat.lt_or_ge (i + 1) fs.length with z | z
    · rw [List.getElem?_append_left (by omega)] at hp hq
      exact I.ch i p q hp hq
    · have e : i + 1 = fs.length := by omega
      rw [List.getElem?_append_right (by omega), e, Nat.sub_self] at hq
      rw [List.getElem?_append_left (by omega)] at hp
      have : fs.getLast? = some p := by rw [List.getLast?_eq_getElem?, ← e]; exact hp
      have := I.last p this
      subst this
      have : (c, d) = q := by simpa using hq
      subst this
      exact det
  · intro p hp
    rw [List.getLast?_append] at hp
    simp at hp
    exact hp.symm
  · intro u l hl hm g h1 h2
    rw [List.mem_append, List.mem_singleton]
    rcases Int.lt_trichotomy (u * d) (c * l) with z | z | z
    · exact .inl (I.all u l hl hm g h1 z)
    · obtain ⟨e1, e2⟩ := same_frac hl (show 0 < d by omega) g gcd (by omega)
      exact .inr (by rw [e1, e2])
    · exfalso
      have q1 := Int.mul_le_mul_of_nonneg_left (show 1 ≤ (t * c - a) * l - u * (t * d - b) by omega) (show 0 ≤ d by omega)
      have q2 := Int.mul_le_mul_of_nonneg_left (show 1 ≤ u * d - c * l by omega) (show 0 ≤ t * d - b by omega)
      have e : d * ((t * c - a) * l - u * (t * d - b)) + (t * d - b) * (u * d - c * l) = l * ((t * c - a) * d - c * (t * d - b)) := by grind
      rw [det'] at e
      omega
  · intro p hp
    rcases List.mem_append.mp hp with z | z
    · exact lt_trans_frac (I.mem p z).1 (show 0 < d by omega) (show 0 < t * d - b by omega) (Int.le_of_lt (I.below p z)) lt
    · rw [List.mem_singleton] at z
      subst z
      exact lt
  · rw [List.nodup_append]
    refine ⟨I.nd, by simp, fun p hp q hq e => ?_⟩
    rw [List.mem_singleton] at hq
    subst hq e
    have := I.below _ hp
    exact Int.lt_irrefl _ this
/-- the way to the end grows shorter -/
def far (hi0 hi1 c d : Int) : Int := hi0 * 2520 - hi1 * (c * (2520 / d))
end RM

set_option maxHeartbeats 4000000
namespace RM
/-! a root's row, reckoned -/
def isqB : Nat → Nat → Nat
  | 0, _ => 0
  | k + 1, n => if (2 * isqB k (n / 4) + 1) * (2 * isqB k (n / 4) + 1) ≤ n then 2 * isqB k (n / 4) + 1 else 2 * isqB k (n / 4)
theorem isqB_ok : ∀ {k n : Nat}, n < 4 ^ k → isqB k n * isqB k n ≤ n ∧ n < (isqB k n + 1) * (isqB k n + 1)
  | 0, n, h => by
    have : n = 0 := by simpa using h
    subst this
    exact ⟨by decide, by decide⟩
  | k + 1, n, h => by
    have ih := isqB_ok (k := k) (n := n / 4) (by rw [Nat.pow_succ] at h; omega)
    rw [isqB]
    generalize isqB k (n / 4) = r at *
    split
    · exact ⟨by assumption, by grind⟩
    · exact ⟨by grind, by omega⟩
def isq (n : Nat) : Nat := isqB (n.log2 / 2 + 1) n
theorem isq_ok (n : Nat) : isq n * isq n ≤ n ∧ n < (isq n + 1) * (isq n + 1) := by
  refine isqB_ok ?_
  have h := Nat.lt_log2_self (n := n)
  refine Nat.lt_of_lt_of_le h ?_
  rw [show 4 = 2 ^ 2 from rfl, ← Nat.pow_mul]
  exact Nat.pow_le_pow_right (by decide) (by omega)
def pt : List Int → Int
  | [a, b, c, s] => ((if s = 0 then -(isq (heart a b c).toNat : Int) - 1 else (isq (heart a b c).toNat : Int)) - b) / (2 * a)
  | _ => 0
def nxtN (a b c s n : Int) : List Int := [(a * n * n + b * n + c).fdiv (by3 (a * n * n + b * n + c) (2 * a * n + b) a), (2 * a * n + b).fdiv (by3 (a * n * n + b * n + c) (2 * a * n + b) a), a.fdiv (by3 (a * n * n + b * n + c) (2 * a * n + b) a), if 0 < a * n * n + b * n + c then 1 - s else s]
def nxt : List Int → List Int
  | [a, b, c, s] => nxtN a b c s (pt [a, b, c, s])
  | _ => []
def IsR (xs : List Int) : Prop := ∃ a b c s, xs = [a, b, c, s] ∧ Root a b c s
theorem IsR.num {xs : List Int} (h : IsR xs) : Num xs := by
  obtain ⟨a, b, c, s, rfl, r⟩ := h
  exact ⟨_, _, _, _, .root r⟩
theorem part_small' {a b h g s n : Int} (ha : 0 < a) (hh : 0 ≤ h) (g0 : 0 ≤ g) (g1 : g * g ≤ h) (hn : n = ((if s = 0 then -g - 1 else g) - b) / (2 * a)) : n.natAbs ≤ h.natAbs + b.natAbs + 1 := by
  have gl := sqrt_le g0 g1
  have lo := Int.mul_ediv_self_le (x := (if s = 0 then -g - 1 else g) - b) (k := 2 * a) (by omega)
  have hi := Int.lt_mul_ediv_self_add (x := (if s = 0 then -g - 1 else g) - b) (k := 2 * a) (by omega)
  rw [← hn] at lo hi
  obtain ⟨w, hw⟩ : ∃ w, (if s = 0 then -g - 1 else g) = w := ⟨_, rfl⟩
  have hwb : -h - 1 ≤ w ∧ w ≤ h := by rw [← hw]; split <;> omega
  rw [hw] at lo hi
  rcases Int.lt_or_le n 0 with z | z
  · have := Int.mul_le_mul_of_nonneg_right (show (2 : Int) ≤ 2 * a by omega) (show 0 ≤ -n - 1 by omega)
    rw [show 2 * a * (-n - 1) = -(2 * a * n) - 2 * a by grind] at this
    omega
  · have := Int.mul_le_mul_of_nonneg_right (show (2 : Int) ≤ 2 * a by omega) z
    omega
theorem pt_ok {a b c s : Int} (r : Root a b c s) : PartOf [a, b, c, s] (pt [a, b, c, s]) := by
  have hp := r.hp
  obtain ⟨i1, i2⟩ := isq_ok (heart a b c).toNat
  have g1 : ((isq (heart a b c).toNat : Nat) : Int) * (isq (heart a b c).toNat : Int) ≤ heart a b c := by
    rw [← Int.natCast_mul]; omega
  have g2 : heart a b c < ((isq (heart a b c).toNat : Int) + 1) * ((isq (heart a b c).toNat : Int) + 1) := by
    have : ((((isq (heart a b c).toNat + 1) * (isq (heart a b c).toNat + 1) : Nat)) : Int) = ((isq (heart a b c).toNat : Int) + 1) * ((isq (heart a b c).toNat : Int) + 1) := by rw [Int.natCast_mul, Int.natCast_add]; rfl
    omega
  have hn := part_right r (by omega) g1 g2 rfl
  have hs := part_small' (s := s) (b := b) r.pos (by omega) (show (0 : Int) ≤ (isq (heart a b c).toNat : Int) by omega) g1 rfl
  exact .root hn.1 hn.2 hs
theorem nxt_turn {a b c s : Int} (r : Root a b c s) (n : Int) : ∃ P B A : Int, TurnOf a b c s n P B A ∧ nxtN a b c s n = [P, B, A, if 0 < a * n * n + b * n + c then 1 - s else s] := by
  have tr := turned_right (n := n) r
  have hsq : ¬ IsSq (heart (a * n * n + b * n + c) (2 * a * n + b) a) := by rw [tr.2.1]; exact r.ns
  have hnn : 0 ≤ heart (a * n * n + b * n + c) (2 * a * n + b) a := by rw [tr.2.1]; have := r.hp; omega
  have sd := r.side
  have rt := root_low tr.1 hnn hsq (s := if 0 < a * n * n + b * n + c then 1 - s else s) (by split <;> omega)
  obtain ⟨A', B', C', ea, eb, ec, fa, fb', fc, hA', hg'⟩ := by3_split (b := 2 * a * n + b) (c := a) tr.1
  rw [fa, fb', fc] at rt
  refine ⟨A', B', C', ⟨rt, _, by3_ne tr.1, ea, eb, ec⟩, ?_⟩
  unfold nxtN
  rw [fa, fb', fc]
theorem nxt_ok {xs : List Int} (h : IsR xs) : PartOf xs (pt xs) ∧ Led xs (pt xs) (nxt xs) ∧ IsR (nxt xs) := by
  obtain ⟨a, b, c, s, rfl, r⟩ := h
  obtain ⟨P, B, A, t, e⟩ := nxt_turn r (pt [a, b, c, s])
  refine ⟨pt_ok r, ?_, ?_⟩
  · show Led _ _ (nxtN a b c s (pt [a, b, c, s]))
    rw [e]
    exact .root t
  · exact ⟨P, B, A, _, e, t.1⟩
theorem cuts_eq {xs ys : List Int} (hx : Num xs) (hy : Num ys) (h : ∀ u l, 0 < l → cut xs u l = cut ys u l) : xs = ys := by
  obtain ⟨A1, t1, D1, L1, hx⟩ := hx
  obtain ⟨A2, t2, D2, L2, hy⟩ := hy
  rcases cmpN_01 A1 t1 D1 L1 A2 t2 D2 L2 with z | z | z
  · obtain ⟨u, l, _, hl, c1, c2⟩ := dense hx hy z (Int.le_refl _) (Int.le_refl _)
    have := h u l hl
    omega
  · exact (cmpN_zero hx hy).mp z
  · have z' : cmpN A2 t2 D2 L2 A1 t1 D1 L1 = -1 := by rw [cmpN_turn hx.D_nn hy.D_nn, z]
    obtain ⟨u, l, _, hl, c1, c2⟩ := dense hy hx z' (Int.le_refl _) (Int.le_refl _)
    have := h u l hl
    omega
theorem part_one {xs : List Int} {n m : Int} (h : Num xs) (p : PartOf xs n) (q : PartOf xs m) : n = m := by
  have h' := h
  obtain ⟨A, t, D, L, h'⟩ := h'
  have a := p.cuts h'
  have b := q.cuts h'
  have := part_nn h a.1 b.2
  have := part_nn h b.1 a.2
  omega
theorem turn_one {a b c s n P B A P' B' A' : Int} (r : Root a b c s) (x : TurnOf a b c s n P B A) (y : TurnOf a b c s n P' B' A') : P = P' ∧ B = B' ∧ A = A' := by
  obtain ⟨r1, g1, hg1, e1, e2, e3⟩ := x
  obtain ⟨r2, g2, hg2, f1, f2, f3⟩ := y
  have := cuts_eq ⟨_, _, _, _, .root r1⟩ ⟨_, _, _, _, .root r2⟩ (fun u l hl => by
    rw [cut_root, cut_root, (turned_right (n := n) r).2.2 hg1 e1 e2 e3 r1.pos hl, (turned_right (n := n) r).2.2 hg2 f1 f2 f3 r2.pos hl])
  simp only [List.cons.injEq, and_true] at this
  exact ⟨this.1, this.2.1, this.2.2⟩
/-- the row by steps -/
def sq (x : List Int) : Nat → List Int
  | 0 => x
  | k + 1 => nxt (sq x k)
theorem sq_succ (x : List Int) : ∀ k, sq (nxt x) k = sq x (k + 1)
  | 0 => rfl
  | k + 1 => by rw [sq, sq_succ x k]; rfl
theorem sq_add (x : List Int) (m : Nat) : ∀ k, sq (sq x m) k = sq x (m + k)
  | 0 => rfl
  | k + 1 => by rw [sq, sq_add x m k]; rfl
theorem sq_R {x : List Int} (h : IsR x) : ∀ k, IsR (sq x k)
  | 0 => h
  | k + 1 => (nxt_ok (sq_R h k)).2.2
def pr (x : List Int) (k : Nat) : Int := pt (sq x k)
theorem strict_part {xs : List Int} (h : IsR xs) {n : Int} (p : PartOf xs n) : cut xs n 1 = 1 ∧ cut xs (n + 1) 1 = -1 := by
  have a := p.cuts h.num.choose_spec.choose_spec.choose_spec.choose_spec
  obtain ⟨x, b, c, s, rfl, r⟩ := h
  refine ⟨?_, a.2⟩
  have := no_root (a := x) (b := b) (c := c) (s := s) (most := 1) n 1 (by decide) (by decide)
  rcases cut_01 [x, b, c, s] n 1 with z | z | z <;> omega
theorem nxt_above {xs : List Int} (h : IsR xs) : cut (nxt xs) 1 1 = 1 := by
  obtain ⟨p, l, _⟩ := nxt_ok h
  obtain ⟨c1, c2⟩ := strict_part h p
  exact l.above h.num.choose_spec.choose_spec.choose_spec.choose_spec c1 c2
theorem pr_up {x : List Int} (h : IsR x) (k : Nat) : 1 ≤ pr x (k + 1) := by
  have r := sq_R h (k + 1)
  obtain ⟨p, _, _⟩ := nxt_ok r
  have := strict_part r p
  exact part_nn r.num (by show 0 ≤ cut (nxt (sq x k)) 1 1; rw [nxt_above (sq_R h k)]; decide) this.2
theorem row_gap : ∀ {L : Nat} {x y : List Int}, IsR x → IsR y → (∀ k, pr x k = pr y k) → ∀ {u l : Int}, 0 < l → l.toNat ≤ L → ¬ (cut x u l = -1 ∧ cut y u l = 1) := by
  intro L
  induction L with
  | zero => intro x y _ _ _ u l h1 h2; omega
  | succ L ih =>
    intro x y hx hy h u l hl hL ⟨c1, c2⟩
    obtain ⟨px, lx, rx⟩ := nxt_ok hx
    obtain ⟨py, ly, ry⟩ := nxt_ok hy
    have e : pt x = pt y := h 0
    rw [← e] at py ly
    have sx := strict_part hx px
    have sy := strict_part hy py
    have a1 := above_part hx.num hl (show 0 ≤ cut x (pt x) 1 by omega) c1
    have a2 := below_part hy.num hl (show cut y (pt x + 1) 1 ≤ 0 by omega) c2
    rw [Int.add_mul, Int.one_mul] at a2
    refine ih ry rx (fun k => ?_) (show 0 < u - pt x * l by omega) (by omega) (u := l) ⟨?_, ?_⟩
    · have := h (k + 1)
      unfold pr at this ⊢
      rw [sq_succ, sq_succ]
      exact this.symm
    · rw [ly.cuts hy.num.choose_spec.choose_spec.choose_spec.choose_spec sy.1 hl (by omega), show pt x * l + (u - pt x * l) = u by omega, c2]
    · rw [lx.cuts hx.num.choose_spec.choose_spec.choose_spec.choose_spec sx.1 hl (by omega), show pt x * l + (u - pt x * l) = u by omega, c1]; rfl
/-- one row, one root -/
theorem same_row {x y : List Int} (hx : IsR x) (hy : IsR y) (h : ∀ k, pr x k = pr y k) : x = y := by
  refine cuts_eq hx.num hy.num fun u l hl => ?_
  have h1 := row_gap hx hy h hl (Nat.le_refl _) (u := u)
  have h2 := row_gap hy hx (fun k => (h k).symm) hl (Nat.le_refl _) (u := u)
  have n1 : cut x u l ≠ 0 := by
    obtain ⟨a, b, c, s, rfl, _⟩ := hx
    exact no_root u l hl (Int.le_refl _)
  have n2 : cut y u l ≠ 0 := by
    obtain ⟨a, b, c, s, rfl, _⟩ := hy
    exact no_root u l hl (Int.le_refl _)
  rcases cut_01 x u l with z | z | z <;> rcases cut_01 y u l with w | w | w <;> first | omega | (exfalso; omega) | (exfalso; exact h1 ⟨z, w⟩) | (exfalso; exact h2 ⟨w, z⟩)
/-! where a row goes round -/
structure Round (x : List Int) (i j : Nat) : Prop where
  lt : i < j
  eq : sq x i = sq x j
  fst : ∀ i' j', i' < j' → j' < j → sq x i' ≠ sq x j'
theorem Round.per {x : List Int} {i j : Nat} (R : Round x i j) : ∀ k, i ≤ k → sq x (k + (j - i)) = sq x k := fun k hk => by
  have := R.lt
  obtain ⟨m, rfl⟩ := Nat.exists_eq_add_of_le hk
  rw [show i + m + (j - i) = j + m by omega, ← sq_add, ← sq_add, R.eq]
theorem Round.pers {x : List Int} {i j : Nat} (R : Round x i j) (k : Nat) (hk : i ≤ k) : ∀ t, sq x (k + t * (j - i)) = sq x k
  | 0 => by rw [Nat.zero_mul]; rfl
  | t + 1 => by rw [Nat.succ_mul, ← Nat.add_assoc, R.per _ (by omega), R.pers k hk t]
theorem Round.mod {x : List Int} {i j : Nat} (R : Round x i j) (k : Nat) : sq x (i + k) = sq x (i + k % (j - i)) := by
  have := R.pers (i + k % (j - i)) (by omega) (k / (j - i))
  rw [← this]
  congr 1
  have := Nat.mod_add_div k (j - i)
  rw [Nat.mul_comm] at this
  omega
/-- no other equals come first: where two are equal -/
theorem Round.bound {x : List Int} {i j m p : Nat} (R : Round x i j) (hp : 0 < p) (h : sq x m = sq x (m + p)) : i ≤ m ∧ j - i ≤ p := by
  have lt := R.lt
  -- far enough, all lie in the round
  have inj : ∀ a b, a < j - i → b < j - i → sq x (i + a) = sq x (i + b) → a = b := fun a b ha hb e => by
    rcases Nat.lt_trichotomy a b with z | z | z
    · exact absurd e (R.fst _ _ (by omega) (by omega))
    · exact z
    · exact absurd e.symm (R.fst _ _ (by omega) (by omega))
  have him : i ≤ m := by
    rcases Nat.lt_or_ge m i with z | z
    · exfalso
      rcases Nat.lt_or_ge (m + p) i with y | y
      · exact R.fst m (m + p) (by omega) (by omega) h
      · obtain ⟨k, hk⟩ := Nat.exists_eq_add_of_le y
        rw [hk, R.mod k] at h
        have := Nat.mod_lt k (show 0 < j - i by omega)
        exact R.fst m (i + k % (j - i)) (by omega) (by omega) h
    · exact z
  refine ⟨him, ?_⟩
  obtain ⟨k, rfl⟩ := Nat.exists_eq_add_of_le him
  rw [show i + k + p = i + (k + p) by omega, R.mod k, R.mod (k + p)] at h
  have l0 : 0 < j - i := by omega
  have e := inj _ _ (Nat.mod_lt k l0) (Nat.mod_lt (k + p) l0) h
  rcases Nat.lt_or_ge p (j - i) with z | z
  · exfalso
    have a1 := Nat.mod_add_div k (j - i)
    have a2 := Nat.mod_add_div (k + p) (j - i)
    have : (j - i) ∣ p := by
      have := Nat.dvd_of_mod_eq_zero (Nat.sub_mod_eq_zero_of_mod_eq e.symm)
      rwa [show k + p - k = p by omega] at this
    have := Nat.le_of_dvd hp this
    omega
  · exact z
theorem Round.short {x : List Int} {i j z : Nat} (hx : IsR x) (R : Round x i j) (z0 : 0 < z) (hz : z < j - i) (h : ∀ k, pr x (i + (k + z)) = pr x (i + k)) : False := by
  refine R.fst i (i + z) (by omega) (by omega) (same_row (sq_R hx i) (sq_R hx (i + z)) fun k => ?_)
  unfold pr at h ⊢
  rw [sq_add, sq_add, show i + z + k = i + (k + z) by omega]
  exact (h k).symm
end RM

set_option maxHeartbeats 4000000
namespace RM
/-! the root of a row that goes round -/
structure M22 where
  p : Int
  q : Int
  r : Int
  s : Int
def mst (m : M22) (a : Int) : M22 := ⟨a * m.p + m.q, m.p, a * m.r + m.s, m.r⟩
def mat (w : List Int) : M22 := w.foldl mst ⟨1, 0, 0, 1⟩
def mmul (m n : M22) : M22 := ⟨m.p * n.p + m.q * n.r, m.p * n.q + m.q * n.s, m.r * n.p + m.s * n.r, m.r * n.q + m.s * n.s⟩
theorem fold_mul : ∀ (w : List Int) (m : M22), w.foldl mst m = mmul m (mat w)
  | [], m => by show m = _; unfold mmul mat; cases m; simp
  | b :: t, m => by
    show t.foldl mst (mst m b) = mmul m (t.foldl mst (mst ⟨1, 0, 0, 1⟩ b))
    rw [fold_mul t, fold_mul t (mst ⟨1, 0, 0, 1⟩ b)]
    unfold mmul mst
    simp only [M22.mk.injEq]
    refine ⟨?_, ?_, ?_, ?_⟩ <;> grind
theorem mat_cons (a : Int) (t : List Int) : mat (a :: t) = ⟨a * (mat t).p + (mat t).r, a * (mat t).q + (mat t).s, (mat t).p, (mat t).q⟩ := by
  show t.foldl mst (mst ⟨1, 0, 0, 1⟩ a) = _
  rw [fold_mul]
  unfold mmul mst
  simp only [M22.mk.injEq]
  refine ⟨?_, ?_, ?_, ?_⟩ <;> grind
theorem mat_snoc (a : Int) (t : List Int) : mat (t ++ [a]) = mst (mat t) a := by
  unfold mat; rw [List.foldl_append]; rfl
structure MOk (t : List Int) (m : M22) : Prop where
  p1 : 1 ≤ m.p
  q0 : 0 ≤ m.q
  r0 : 0 ≤ m.r
  s0 : 0 ≤ m.s
  qs : 1 ≤ m.q + m.s
  more : (t = [] ∧ m = ⟨1, 0, 0, 1⟩) ∨ (m.r ≤ m.p ∧ m.s ≤ m.q ∧ 1 ≤ m.r ∧ 1 ≤ m.q ∧ m.r + m.s < m.p + m.q)
  det : m.p * m.s - m.q * m.r = 1 ∨ m.p * m.s - m.q * m.r = -1
theorem mat_ok : ∀ {t : List Int}, Ups t → MOk t (mat t)
  | [], _ => ⟨by decide, by decide, by decide, by decide, by decide, .inl ⟨rfl, rfl⟩, .inl (by decide)⟩
  | b :: t, h => by
    have I := mat_ok (t := t) fun x hx => h x (List.mem_cons_of_mem _ hx)
    have hb := h b (List.mem_cons_self ..)
    rw [mat_cons]
    obtain ⟨p1, q0, r0, s0, qs, more, det⟩ := I
    generalize mat t = m at *
    have bp := Int.mul_le_mul_of_nonneg_right hb (show 0 ≤ m.p by omega)
    have bq := Int.mul_le_mul_of_nonneg_right hb q0
    refine ⟨by show 1 ≤ b * m.p + m.r; omega, by show 0 ≤ b * m.q + m.s; omega, by show 0 ≤ m.p; omega, q0, by show 1 ≤ b * m.q + m.s + m.q; omega, .inr ?_, ?_⟩
    · refine ⟨by show m.p ≤ b * m.p + m.r; omega, by show m.q ≤ b * m.q + m.s; omega, p1, by show 1 ≤ b * m.q + m.s; omega, ?_⟩
      show m.p + m.q < b * m.p + m.r + (b * m.q + m.s)
      rcases more with ⟨_, e⟩ | e
      · subst e; show (1 : Int) + 0 < b * 1 + 0 + (b * 0 + 1); omega
      · omega
    · show (b * m.p + m.r) * m.q - (b * m.q + m.s) * m.p = 1 ∨ (b * m.p + m.r) * m.q - (b * m.q + m.s) * m.p = -1
      have : (b * m.p + m.r) * m.q - (b * m.q + m.s) * m.p = -(m.p * m.s - m.q * m.r) := by grind
      omega
theorem no_sq_up {T : Int} (h : 1 ≤ T) : ¬ IsSq (T * T + 4) := fun ⟨k, hk⟩ => by
  have : ∃ k : Int, 0 ≤ k ∧ k * k = T * T + 4 := by
    rcases Int.lt_or_le k 0 with z | z
    · exact ⟨-k, by omega, by rw [Int.neg_mul_neg]; exact hk⟩
    · exact ⟨k, z, hk⟩
  obtain ⟨k, k0, hk⟩ := this
  have h1 := lt_of_sq (x := T) (y := k) k0 (by omega)
  by_cases z : k = T + 1
  · subst z
    have : (T + 1) * (T + 1) = T * T + 2 * T + 1 := by grind
    omega
  · have := sq_le (x := T + 2) (y := k) (by omega) (by omega)
    have : (T + 2) * (T + 2) = T * T + 4 * T + 4 := by grind
    omega
theorem no_sq_down {T : Int} (h : 3 ≤ T) : ¬ IsSq (T * T - 4) := fun ⟨k, hk⟩ => by
  have : ∃ k : Int, 0 ≤ k ∧ k * k = T * T - 4 := by
    rcases Int.lt_or_le k 0 with z | z
    · exact ⟨-k, by omega, by rw [Int.neg_mul_neg]; exact hk⟩
    · exact ⟨k, z, hk⟩
  obtain ⟨k, k0, hk⟩ := this
  have h1 := lt_of_sq (x := k) (y := T) (by omega) (by omega)
  have := sq_le (x := k) (y := T - 1) k0 (by omega)
  have : (T - 1) * (T - 1) = T * T - 2 * T + 1 := by grind
  omega
/-- the round's equation -/
def rrE (w : List Int) : Int × Int × Int := ((mat w).r, (mat w).s - (mat w).p, -(mat w).q)
structure ROk (A B C : Int) : Prop where
  a1 : 1 ≤ A
  c1 : C ≤ -1
  hh : 0 ≤ heart A B C
  ns : ¬ IsSq (heart A B C)
theorem rr_ok {a : Int} {t : List Int} (ha : 1 ≤ a) (ht : Ups t) : ROk (rrE (a :: t)).1 (rrE (a :: t)).2.1 (rrE (a :: t)).2.2 := by
  unfold rrE
  rw [mat_cons]
  obtain ⟨p1, q0, r0, s0, qs, more, det⟩ := mat_ok ht
  generalize mat t = m at *
  show ROk m.p (m.q - (a * m.p + m.r)) (-(a * m.q + m.s))
  have ap := Int.mul_le_mul_of_nonneg_right ha (show 0 ≤ m.p by omega)
  have aq := Int.mul_le_mul_of_nonneg_right ha q0
  have e : heart m.p (m.q - (a * m.p + m.r)) (-(a * m.q + m.s)) = (a * m.p + m.r + m.q) * (a * m.p + m.r + m.q) + 4 * (m.p * m.s - m.q * m.r) := by unfold heart; grind
  have T1 : 1 ≤ a * m.p + m.r + m.q := by omega
  have sq1 := sq_le (x := 1) (y := a * m.p + m.r + m.q) (by decide) T1
  refine ⟨p1, by omega, ?_, ?_⟩
  · rw [e]
    rcases det with d | d
    · rw [d]; omega
    · rw [d]
      rcases more with ⟨_, z⟩ | z
      · subst z
        exact absurd d (by decide)
      · have := sq_le (x := 3) (y := a * m.p + m.r + m.q) (by decide) (by omega)
        omega
  · rw [e]
    rcases det with d | d
    · rw [d]; exact no_sq_up T1
    · rw [d]
      rcases more with ⟨_, z⟩ | z
      · subst z
        exact absurd d (by decide)
      · exact no_sq_down (by omega)
def nrm (A B C s : Int) : List Int := [A.fdiv (by3 A B C), B.fdiv (by3 A B C), C.fdiv (by3 A B C), s]
def rr (w : List Int) : List Int := nrm (rrE w).1 (rrE w).2.1 (rrE w).2.2 1
theorem nrm_root {A B C : Int} (h : ROk A B C) : IsR (nrm A B C 1) := ⟨_, _, _, _, rfl, root_low (by have := h.a1; omega) h.hh h.ns (.inr rfl)⟩
theorem abv_neg {A B C u l : Int} (hA : 1 ≤ A) (hC : C ≤ -1) (hu : 0 < u) (hl : 0 < l) : abv A B C 1 u l = decide (A * u * u + B * u * l + C * l * l < 0) := by
  unfold abv
  by_cases z : 0 < 2 * A * u + B * l
  · rw [if_pos z]; simp
  · rw [if_neg z]
    have a1 := Int.mul_pos (show 0 < A by omega) hu
    have a2 : A * u + B * l < 0 := by
      have : 2 * A * u = A * u + A * u := by grind
      omega
    have a3 := Int.mul_neg_of_neg_of_pos a2 hu
    have a4 := Int.mul_nonneg (show 0 ≤ -C by omega) (show 0 ≤ l * l from Int.mul_nonneg (by omega) (by omega))
    have e : A * u * u + B * u * l + C * l * l = (A * u + B * l) * u - -C * (l * l) := by grind
    rw [decide_eq_true (show A * u * u + B * u * l + C * l * l < 0 by omega)]; simp
theorem nrm_cut {A B C u l : Int} (h : ROk A B C) (hu : 0 < u) (hl : 0 < l) : cut (nrm A B C 1) u l = if A * u * u + B * u * l + C * l * l < 0 then 1 else -1 := by
  have a0 : A ≠ 0 := by have := h.a1; omega
  obtain ⟨A', B', C', ea, eb, ec, fa, fb, fc, hA', hg'⟩ := by3_split (b := B) (c := C) a0
  have gp : 0 < by3 A B C := by
    unfold by3
    rw [if_neg (by have := h.a1; omega)]
    exact g3_pos a0
  unfold nrm
  rw [fa, fb, fc, cut_root]
  have e : abv A B C 1 u l = abv A' B' C' 1 u l := by
    rw [abv_S, abv_S, ← abvS_scale gp (y := 2 * A' * u + B' * l)]
    congr 1
    · conv => lhs; rw [ea, eb]
      grind
    · conv => lhs; rw [ea, eb, ec]
      grind
  rw [← e, abv_neg h.a1 h.c1 hu hl]
  by_cases z : A * u * u + B * u * l + C * l * l < 0
  · rw [if_pos z, decide_eq_true z]; rfl
  · rw [if_neg z, decide_eq_false z]; rfl
theorem pt_by {xs : List Int} {n : Int} (h : IsR xs) (h0 : cut xs n 1 = 1) (h1 : cut xs (n + 1) 1 = -1) : pt xs = n := by
  have a := strict_part h (nxt_ok h).1
  have := part_nn h.num (show 0 ≤ cut xs n 1 by omega) a.2
  have := part_nn h.num (show 0 ≤ cut xs (pt xs) 1 by omega) h1
  omega
theorem cut_up {xs : List Int} {u l : Int} (h : Num xs) (hl : 0 < l) (h1 : cut xs 1 1 = 1) (hu : u ≤ l) : cut xs u l = 1 := by
  obtain ⟨A, t, D, L, h⟩ := h
  have := cut_le h hl (show (0 : Int) < 1 by decide) (u := u) (u' := 1) (by omega)
  rcases cut_01 xs u l with z | z | z <;> omega
theorem rr_part {a : Int} {t : List Int} (ha : 1 ≤ a) (ht : Ups t) : IsR (rr (a :: t)) ∧ pt (rr (a :: t)) = a := by
  have ok := rr_ok ha ht
  have R := nrm_root ok
  refine ⟨R, pt_by R ?_ ?_⟩
  · unfold rr
    rw [nrm_cut ok (by omega) (by decide), if_pos]
    unfold rrE
    rw [mat_cons]
    obtain ⟨p1, q0, r0, s0, qs, more, det⟩ := mat_ok ht
    generalize mat t = m at *
    show m.p * a * a + (m.q - (a * m.p + m.r)) * a * 1 + -(a * m.q + m.s) * 1 * 1 < 0
    have e : m.p * a * a + (m.q - (a * m.p + m.r)) * a * 1 + -(a * m.q + m.s) * 1 * 1 = -(a * m.r + m.s) := by grind
    rw [e]
    have ar := Int.mul_le_mul_of_nonneg_right ha r0
    rcases more with ⟨_, z⟩ | z
    · subst z; show -(a * 0 + 1) < (0 : Int); omega
    · omega
  · unfold rr
    rw [nrm_cut ok (by omega) (by decide), if_neg]
    unfold rrE
    rw [mat_cons]
    obtain ⟨p1, q0, r0, s0, qs, more, det⟩ := mat_ok ht
    generalize mat t = m at *
    show ¬ (m.p * (a + 1) * (a + 1) + (m.q - (a * m.p + m.r)) * (a + 1) * 1 + -(a * m.q + m.s) * 1 * 1 < 0)
    have e : m.p * (a + 1) * (a + 1) + (m.q - (a * m.p + m.r)) * (a + 1) * 1 + -(a * m.q + m.s) * 1 * 1 = (m.p - m.r) * (a + 1) + (m.q - m.s) := by grind
    rw [e]
    rcases more with ⟨_, z⟩ | z
    · subst z; show ¬ ((1 - 0) * (a + 1) + (0 - 1) < (0 : Int)); omega
    · have := Int.mul_nonneg (show 0 ≤ m.p - m.r by omega) (show 0 ≤ a + 1 by omega)
      omega
theorem ups_snoc {a : Int} {t : List Int} (ha : 1 ≤ a) (ht : Ups t) : Ups (t ++ [a]) := fun x hx => by
  rcases List.mem_append.mp hx with z | z
  · exact ht x z
  · rw [List.mem_singleton] at z; omega
theorem rr_ok' {w : List Int} (h : w ≠ []) (hw : Ups w) : ROk (rrE w).1 (rrE w).2.1 (rrE w).2.2 := by
  cases w with
  | nil => exact absurd rfl h
  | cons a t => exact rr_ok (hw a (List.mem_cons_self ..)) fun x hx => hw x (List.mem_cons_of_mem _ hx)
theorem rr_part' {w : List Int} (h : w ≠ []) (hw : Ups w) : IsR (rr w) ∧ 1 ≤ pt (rr w) := by
  cases w with
  | nil => exact absurd rfl h
  | cons a t =>
    have := rr_part (hw a (List.mem_cons_self ..)) (fun x hx => hw x (List.mem_cons_of_mem _ hx) : Ups t)
    exact ⟨this.1, by rw [this.2]; exact hw a (List.mem_cons_self ..)⟩
theorem above_one {xs : List Int} (h : IsR xs) (h1 : 1 ≤ pt xs) : cut xs 1 1 = 1 := by
  have a := strict_part h (nxt_ok h).1
  obtain ⟨A, t, D, L, hn⟩ := h.num
  have := cut_le hn (show (0 : Int) < 1 by decide) (show (0 : Int) < 1 by decide) (u := 1) (u' := pt xs) (by omega)
  rcases cut_01 xs 1 1 with z | z | z <;> omega
theorem rr_next {a : Int} {t : List Int} (ha : 1 ≤ a) (ht : Ups t) : nxt (rr (a :: t)) = rr (t ++ [a]) := by
  have R := rr_part ha ht
  have ok := rr_ok ha ht
  have hs := ups_snoc ha ht
  have R2 := rr_part' (w := t ++ [a]) (by simp) hs
  have ok2 := rr_ok' (w := t ++ [a]) (by simp) hs
  obtain ⟨p, l, r⟩ := nxt_ok R.1
  have sp := strict_part R.1 p
  refine cuts_eq r.num R2.1.num fun u v hv => ?_
  rcases Int.lt_or_le 0 u with hu | hu
  · rw [l.cuts R.1.num.choose_spec.choose_spec.choose_spec.choose_spec sp.1 hu hv, R.2]
    have au := Int.mul_pos (show 0 < a by omega) hu
    have nz : cut (rr (t ++ [a])) u v ≠ 0 := by
      obtain ⟨x, b, c, s, e, _⟩ := R2.1
      rw [e]
      exact no_root u v hv (Int.le_refl _)
    unfold rr at nz ⊢
    rw [nrm_cut ok (by omega) hu]
    rw [nrm_cut ok2 hu hv] at nz ⊢
    have key : (rrE (a :: t)).1 * (a * u + v) * (a * u + v) + (rrE (a :: t)).2.1 * (a * u + v) * u + (rrE (a :: t)).2.2 * u * u = -((rrE (t ++ [a])).1 * u * u + (rrE (t ++ [a])).2.1 * u * v + (rrE (t ++ [a])).2.2 * v * v) := by
      unfold rrE
      rw [mat_cons, mat_snoc]
      generalize mat t = m
      show m.p * (a * u + v) * (a * u + v) + (m.q - (a * m.p + m.r)) * (a * u + v) * u + -(a * m.q + m.s) * u * u = -((a * m.r + m.s) * u * u + (m.r - (a * m.p + m.q)) * u * v + -m.p * v * v)
      grind
    rw [key]
    have fz : (rrE (t ++ [a])).1 * u * u + (rrE (t ++ [a])).2.1 * u * v + (rrE (t ++ [a])).2.2 * v * v ≠ 0 := fun e => by
      -- then the heart were a square
      have h2 : (2 * (rrE (t ++ [a])).1 * u + (rrE (t ++ [a])).2.1 * v) * (2 * (rrE (t ++ [a])).1 * u + (rrE (t ++ [a])).2.1 * v) = v * v * heart (rrE (t ++ [a])).1 (rrE (t ++ [a])).2.1 (rrE (t ++ [a])).2.2 := by
        unfold heart; grind
      exact ok2.ns (sq_of (by omega) h2)
    generalize (rrE (t ++ [a])).1 * u * u + (rrE (t ++ [a])).2.1 * u * v + (rrE (t ++ [a])).2.2 * v * v = f at *
    by_cases z : f < 0
    · rw [if_pos z, if_neg (by omega)]; rfl
    · rw [if_neg z, if_pos (by omega)]
  · rw [cut_up r.num hv (nxt_above R.1) (by omega), cut_up R2.1.num hv (above_one R2.1 R2.2) (by omega)]
/-- part n, then 1 divided by y -/
def putN (n : Int) : List Int → List Int
  | [a, b, c, s] => [a, b - 2 * a * n, a * n * n - b * n + c, s]
  | _ => []
def putA (n : Int) : List Int → List Int
  | [a, b, c, s] => putN n (nxtN a b c s 0)
  | _ => []
theorem g3_one {a b c A B C : Int} (h : g3 A B C = 1) (ha : g3 a b c ∣ A) (hb : g3 a b c ∣ B) (hc : g3 a b c ∣ C) : g3 a b c = 1 := by
  have h1 : g3 a b c ∣ g3 A B C := Int.dvd_coe_gcd (Int.dvd_coe_gcd ha hb) hc
  rw [h] at h1
  have h0 := g3_nn a b c
  have := Int.le_of_dvd (by decide) h1
  have : g3 a b c ≠ 0 := fun z => by
    rw [z] at h1
    obtain ⟨k, hk⟩ := h1
    simp at hk
  omega
theorem putN_root {a b c s n : Int} (r : Root a b c s) : Root a (b - 2 * a * n) (a * n * n - b * n + c) s := by
  have e : heart a (b - 2 * a * n) (a * n * n - b * n + c) = heart a b c := by unfold heart; grind
  refine ⟨r.pos, r.side, ?_, by rw [e]; exact r.hp, by rw [e]; exact r.ns⟩
  have d1 := g3_dvd_a a (b - 2 * a * n) (a * n * n - b * n + c)
  have d2 := g3_dvd_b a (b - 2 * a * n) (a * n * n - b * n + c)
  have d3 := g3_dvd_c a (b - 2 * a * n) (a * n * n - b * n + c)
  have db : g3 a (b - 2 * a * n) (a * n * n - b * n + c) ∣ b := by
    have := Int.dvd_add d2 (Int.dvd_mul_of_dvd_left (c := 2 * n) d1)
    rwa [show b - 2 * a * n + a * (2 * n) = b by grind] at this
  refine g3_one r.low d1 db ?_
  have := Int.dvd_add (Int.dvd_sub d3 (Int.dvd_mul_of_dvd_left (c := n * n) d1)) (Int.dvd_mul_of_dvd_left (c := n) db)
  rwa [show a * n * n - b * n + c - a * (n * n) + b * n = c by grind] at this
theorem putN_cut {a b c s n u l : Int} : cut [a, b - 2 * a * n, a * n * n - b * n + c, s] u l = cut [a, b, c, s] (u - n * l) l := by
  rw [cut_root, cut_root, abv_S, abv_S]
  congr 3
  · grind
  · grind
theorem put_ok {y : List Int} {n : Int} (hy : IsR y) (h1 : cut y 1 1 = 1) : IsR (putA n y) ∧ pt (putA n y) = n ∧ nxt (putA n y) = y := by
  have h1' := h1
  have hy' := hy
  obtain ⟨a, b, c, s, rfl, r⟩ := hy
  obtain ⟨P, B, A, t, e⟩ := nxt_turn r 0
  obtain ⟨sd, hsd⟩ : ∃ sd, (if 0 < a * 0 * 0 + b * 0 + c then 1 - s else s) = sd := ⟨_, rfl⟩
  have ex : putA n [a, b, c, s] = [P, B - 2 * P * n, P * n * n - B * n + A, sd] := by
    show putN n (nxtN a b c s 0) = _
    rw [e, hsd]; rfl
  have ab0 : abv a b c s 0 1 = true := by
    have := cut_up hy'.num (show (0 : Int) < 1 by decide) h1' (u := 0) (by decide)
    rw [cut_root] at this
    rcases Bool.eq_false_or_eq_true (abv a b c s 0 1) with y | y
    · exact y
    · rw [y] at this; exact absurd this (by decide)
  obtain ⟨rt, g, hg, e1, e2, e3⟩ := t
  have ct : ∀ {u l : Int}, 0 < l → cut [P, B, A, sd] u l = if due a b c s 0 u l = true then 1 else -1 := fun {u l} hl => by
    rw [cut_root, ← hsd, (turned_right (n := 0) r).2.2 hg e1 e2 e3 rt.pos hl]
  rw [hsd] at rt
  have R : IsR (putA n [a, b, c, s]) := ⟨_, _, _, _, ex, putN_root rt⟩
  have cx : ∀ u l, cut (putA n [a, b, c, s]) u l = cut [P, B, A, sd] (u - n * l) l := fun u l => by rw [ex, putN_cut]
  have p : pt (putA n [a, b, c, s]) = n := by
    refine pt_by R ?_ ?_
    · rw [cx, show n - n * 1 = 0 by omega, ct (by decide)]
      unfold due
      rw [if_pos rfl, ab0]; rfl
    · rw [cx, show n + 1 - n * 1 = 1 by omega, ct (by decide)]
      unfold due
      rw [if_neg (show ¬ (1 : Int) = 0 by decide), if_pos (show (0 : Int) < 1 by decide), ab0, Bool.true_and, show (0 : Int) * 1 + 1 = 1 from rfl]
      have : abv a b c s 1 1 = true := by
        rw [cut_root] at h1
        rcases Bool.eq_false_or_eq_true (abv a b c s 1 1) with y | y
        · exact y
        · rw [y] at h1; exact absurd h1 (by decide)
      rw [this]; rfl
  refine ⟨R, p, ?_⟩
  obtain ⟨pp, ld, nr'⟩ := nxt_ok R
  have sp := strict_part R pp
  refine cuts_eq nr'.num hy'.num fun u l hl => ?_
  rcases Int.lt_or_le 0 u with hu | hu
  · rw [ld.cuts R.num.choose_spec.choose_spec.choose_spec.choose_spec sp.1 hu hl, p, cx, show n * u + l - n * u = l by omega, ct hu, cut_root]
    unfold due
    rw [if_neg (show ¬ l = 0 by omega), if_pos hl, ab0, Bool.true_and, show 0 * l + u = u by omega]
    cases abv a b c s u l <;> rfl
  · rw [cut_up nr'.num hl (nxt_above R) (by omega), cut_up hy'.num hl h1' (by omega)]
/-- the row itself -/
def rowAt : List Int → List Int → Nat → Int
  | [], w, k => w.getD (k % w.length) 0
  | n :: _, _, 0 => n
  | _ :: r, w, k + 1 => rowAt r w k
theorem rr_row : ∀ {k : Nat} {w : List Int}, w ≠ [] → Ups w → pr (rr w) k = w.getD (k % w.length) 0
  | k, [], h, _ => absurd rfl h
  | 0, a :: t, _, hw => by
    have := rr_part (hw a (List.mem_cons_self ..)) (fun x hx => hw x (List.mem_cons_of_mem _ hx) : Ups t)
    show pt (rr (a :: t)) = _
    rw [this.2, Nat.zero_mod]; rfl
  | k + 1, a :: t, _, hw => by
    have ha := hw a (List.mem_cons_self ..)
    have ht : Ups t := fun x hx => hw x (List.mem_cons_of_mem _ hx)
    have ih := rr_row (k := k) (w := t ++ [a]) (by simp) (ups_snoc ha ht)
    unfold pr at ih ⊢
    rw [← sq_succ, rr_next ha ht, ih, List.length_append, List.length_singleton, List.length_cons]
    have hl := Nat.mod_lt k (show 0 < t.length + 1 by omega)
    rw [List.getD_eq_getElem?_getD, List.getD_eq_getElem?_getD]
    congr 1
    rcases Nat.lt_or_ge (k % (t.length + 1)) t.length with z | z
    · have e : (k + 1) % (t.length + 1) = k % (t.length + 1) + 1 := by
        rw [Nat.add_mod, Nat.mod_eq_of_lt (a := 1) (by omega), Nat.mod_eq_of_lt (by omega)]
      rw [e, List.getElem?_append_left z, List.getElem?_cons_succ]
    · have e0 : k % (t.length + 1) = t.length := by omega
      have e : (k + 1) % (t.length + 1) = 0 := by
        have := Nat.mod_add_div k (t.length + 1)
        rw [show k + 1 = (t.length + 1) * (k / (t.length + 1) + 1) by rw [Nat.mul_add]; omega]
        exact Nat.mul_mod_right ..
      rw [e, e0, List.getElem?_append_right (by omega), Nat.sub_self]; rfl
def rootBy (ahead again : List Int) : List Int := ahead.foldr putA (rr again)
theorem rootBy_ok : ∀ {ahead again : List Int}, again ≠ [] → Ups again → Ups (ahead.drop 1) → IsR (rootBy ahead again) ∧ ∀ k, pr (rootBy ahead again) k = rowAt ahead again k
  | [], again, h, hw, _ => ⟨(rr_part' h hw).1, fun k => rr_row h hw⟩
  | n :: r, again, h, hw, hu => by
    have hr : Ups r := hu
    have ih := rootBy_ok (ahead := r) h hw (fun x hx => hr x (List.mem_of_mem_drop hx))
    have h1 : 1 ≤ pt (rootBy r again) := by
      have := ih.2 0
      cases r with
      | nil =>
        exact (rr_part' h hw).2
      | cons m r =>
        have e : pt (rootBy (m :: r) again) = m := this
        rw [e]
        exact hr m (List.mem_cons_self ..)
    obtain ⟨a, b, c⟩ := put_ok (n := n) ih.1 (above_one ih.1 h1)
    refine ⟨a, fun k => ?_⟩
    cases k with
    | zero => exact b
    | succ k =>
      show pr (putA n (rootBy r again)) (k + 1) = rowAt r again k
      unfold pr
      rw [← sq_succ, c]
      exact ih.2 k
end RM

set_option maxHeartbeats 4000000
set_option maxRecDepth 100000
namespace RM
/-! rounds, found by reckoning -/
theorem Round.one {x : List Int} {i j i' j' : Nat} (R : Round x i j) (S : Round x i' j') : i = i' ∧ j = j' := by
  have a := R.lt
  have b := S.lt
  have e : j = j' := by
    rcases Nat.lt_trichotomy j j' with z | z | z
    · exact absurd R.eq (S.fst i j a z)
    · exact z
    · exact absurd S.eq (R.fst i' j' b z)
  subst e
  refine ⟨?_, rfl⟩
  rcases Nat.lt_trichotomy i i' with z | z | z
  · exact absurd (R.eq.trans S.eq.symm) (R.fst i i' z b)
  · exact z
  · exact absurd (S.eq.trans R.eq.symm) (R.fst i' i z a)
/-- some two equal: a round -/
theorem Round.ex {x : List Int} : ∀ {n : Nat}, (∃ i j, i < j ∧ j ≤ n ∧ sq x i = sq x j) → ∃ i j, Round x i j ∧ j ≤ n
  | 0, ⟨i, j, h1, h2, _⟩ => by omega
  | n + 1, h => by
    by_cases z : ∃ i j, i < j ∧ j ≤ n ∧ sq x i = sq x j
    · obtain ⟨i, j, R, hj⟩ := Round.ex z
      exact ⟨i, j, R, by omega⟩
    · obtain ⟨i, j, h1, h2, h3⟩ := h
      refine ⟨i, j, ⟨h1, h3, fun a b hab hb e => z ⟨a, b, hab, by omega, e⟩⟩, h2⟩
/-! pairs put together -/
def nm (d : Int) (p : Int × Int) : Int := p.1 * p.1 - d * p.2 * p.2
theorem led_nxt {x ys : List Int} {n : Int} (h : IsR x) (p : PartOf x n) (l : Led x n ys) : ys = nxt x ∧ n = pt x := by
  have e : n = pt x := part_one h.num p (nxt_ok h).1
  refine ⟨?_, e⟩
  subst e
  obtain ⟨a, b, c, s, rfl, r⟩ := h
  cases l with
  | root t =>
    obtain ⟨P, B, A, t', e⟩ := nxt_turn r (pt [a, b, c, s])
    obtain ⟨e1, e2, e3⟩ := turn_one r t t'
    show _ = nxtN a b c s (pt [a, b, c, s])
    rw [e, e1, e2, e3]
def xd (d : Int) : List Int := [1, 0, -d, 1]
/-- the row of the root of d, up to the last part of its first round -/
def wsD (d : Int) (i j : Nat) : List Int := (List.range i).map (pr (xd d)) ++ ((List.range (j - i)).map fun k => pr (xd d) (i + k)).dropLast
end RM

set_option Elab.async false
set_option linter.all false
set_option maxRecDepth 100000
set_option maxHeartbeats 4000000
namespace Own
open PySem L2 RM
/-! ### the text by places -/
def top (i : Nat) : Stmt := PySem.Challenge.pw_rootrow_k12_whole_any_round_is_a_root.main.body.getD i (.Pass ⟨0, 0, 0, 0⟩)
abbrev s_is_whole : Stmt := top 4
abbrev s_common_divisor : Stmt := top 5
abbrev s_least_square : Stmt := top 6
abbrev s_heart_of : Stmt := top 8
abbrev s_is_square : Stmt := top 9
abbrev s_divisor_of_all : Stmt := top 10
abbrev s_is_root : Stmt := top 11
abbrev s_root_of : Stmt := top 12
abbrev s_part_of : Stmt := top 13
abbrev s_turned : Stmt := top 14
abbrev s_rounds_of : Stmt := top 16
abbrev s_root_of_round : Stmt := top 17
abbrev s_put_ahead : Stmt := top 18
abbrev s_root_by : Stmt := top 19
abbrev s_law_cell : Stmt := top 21
abbrev s_law_mix : Stmt := top 22
abbrev s_law_refused : Stmt := top 23
abbrev s_law_parts : Stmt := top 24
abbrev s_law : Stmt := top 25
/-- what the top has bound -/
structure Txt (K : PySem.W.Frag) (mg : Str → Option Value) (C_RowError : Addr) (C_NoNumber : Addr) : Prop where
  n_isinstance : mg "isinstance" = none
  n_int : mg "int" = none
  n_bool : mg "bool" = none
  n_abs : mg "abs" = none
  n_all : mg "all" = none
  n_tuple : mg "tuple" = none
  n_len : mg "len" = none
  n_any : mg "any" = none
  n_reversed : mg "reversed" = none
  n_ValueError : mg "ValueError" = none
  n_range : mg "range" = none
  n_list : mg "list" = none
  m_RowError : mg "RowError" = some (.ref C_RowError)
  m_NoNumber : mg "NoNumber" = some (.ref C_NoNumber)
  x_RowError : PySem.W.excIn K C_RowError [.type "ValueError", .type "Exception", .type "BaseException", .type "object"] "ValueError.__new__" = true
  x_NoNumber : PySem.W.excIn K C_NoNumber [.type "ValueError", .type "Exception", .type "BaseException", .type "object"] "ValueError.__new__" = true
  ex : PySem.W.exmOne K (.ref C_NoNumber) (.ref C_RowError) = some true
  iv : PySem.W.kitOne K (.ref C_NoNumber) (.type "ValueError") = some true
/-! ### what the defs promise -/
theorem ifF {c A B : Prop} [Decidable c] (hc : ¬ c) (h : B) : if c then A else B := by rw [if_neg hc]; exact h
theorem ifT {c A B : Prop} [Decidable c] (hc : c) (h : A) : if c then A else B := by rw [if_pos hc]; exact h
theorem flat_int (ns : List Int) : (ns.map V.int).all flatV = true := by
  rw [List.all_eq_true]
  intro x hx
  obtain ⟨i, _, rfl⟩ := List.mem_map.mp hx
  rfl
def wholeV : V → Option Bool
  | .int _ => some true
  | .bl _ => some false
  | .str _ => some false
  | .non => some false
  | _ => none
def sp_whole : Sp := fun vs H Q _ => ∃ v b, vs = [v] ∧ wholeV v = some b ∧ Q (.bl b) H
def sp_gcd : Sp := fun vs H Q _ => ∃ a b : Int, vs = [.int a, .int b] ∧ Q (.int (Int.gcd a b : Nat)) H
def sp_sqrt : Sp := fun vs H Q _ => ∃ n : Int, vs = [.int n] ∧ 0 ≤ n ∧ n < 10 ^ 90 ∧ ∀ g : Int, 0 ≤ g → g * g ≤ n → n < (g + 1) * (g + 1) → Q (.int g) H
def low (u l : Int) : List V := [.int (u.fdiv (by_ u l)), .int (l.fdiv (by_ u l))]
def sp_cell (K : PySem.W.Frag) : Sp := fun vs H Q _ => ∃ (a : Addr) (ns : List Int) (k : Int), vs = [.ref a, .int k] ∧ SqL K H a (ns.map V.int) ∧ 0 ≤ k ∧ Q (.int (ns.getD k.toNat 0)) H
def sp_mixE : Sp := fun vs H Q _ => ∃ c p m : Int, vs = [.int c, .int p, .int m] ∧ 0 < p ∧ 0 < m ∧ Q (.int (c * 48271 % p % m)) H
def Bd (x : Int) : Prop := -(10 ^ 40) < x ∧ x < 10 ^ 40
def sp_heart : Sp := fun vs H Q _ => ∃ a b c : Int, vs = [.int a, .int b, .int c] ∧ Bd a ∧ Bd b ∧ Bd c ∧ Q (.int (heart a b c)) H
def sp_issq : Sp := fun vs H Q _ => ∃ n : Int, vs = [.int n] ∧ 0 ≤ n ∧ n < 10 ^ 90 ∧ ∀ t : Bool, (t = true ↔ IsSq n) → Q (.bl t) H
def sp_g3 : Sp := fun vs H Q _ => ∃ a b c : Int, vs = [.int a, .int b, .int c] ∧ Q (.int (g3 a b c)) H
def sp_root_of (CN : Addr) : Sp := fun vs H Q E => ∃ a b c s : Int, vs = [.int a, .int b, .int c, .int s] ∧ Bd a ∧ Bd b ∧ Bd c ∧ (a = 0 ∨ heart a b c < 0 ∨ IsSq (heart a b c) → E (.ref CN) none H) ∧
  (a ≠ 0 → 0 ≤ heart a b c → ¬ IsSq (heart a b c) → newQ H (.tup [.int (a.fdiv (by3 a b c)), .int (b.fdiv (by3 a b c)), .int (c.fdiv (by3 a b c)), .int s]) Q)
inductive RootAns (K : PySem.W.Frag) (H : Hp) : V → Bool → Prop where
  | other {v : V} {t : Value} (ht : TyX K H v t) (e : PySem.W.kitOne K t (.type "tuple") = some false) : RootAns K H v false
  | len {a : Addr} {xs : List V} (h : SqT K H a xs) (e : xs.length ≠ 4) : RootAns K H (.ref a) false
  | items {a : Addr} {x y z t : V} {bx by' bz bt : Bool} (h : SqT K H a [x, y, z, t]) (ex : wholeV x = some bx) (ey : wholeV y = some by') (ez : wholeV z = some bz) (et : wholeV t = some bt) (e : (bx && by' && bz && bt) = false) : RootAns K H (.ref a) false
  | root {p : Addr} {a b c s : Int} {t : Bool} (h : SqT K H p [.int a, .int b, .int c, .int s]) (ha : Bd a) (hb : Bd b) (hc : Bd c) (e : t = true ↔ Root a b c s) : RootAns K H (.ref p) t
def sp_isroot (K : PySem.W.Frag) : Sp := fun vs H Q _ => ∃ v t, vs = [v] ∧ RootAns K H v t ∧ ∀ H', Same H H' → Q (.bl t) H'
def sp_part (K : PySem.W.Frag) : Sp := fun vs H Q _ => ∃ (p : Addr) (xs : List Int) (A t D L : Int), vs = [.ref p] ∧ SqT K H p (xs.map V.int) ∧ NumR xs A t D L ∧ (∀ x ∈ xs, Bd x) ∧ ∀ n, PartOf xs n → Q (.int n) H
def Sm (x : Int) : Prop := -(2 ^ 64) < x ∧ x < 2 ^ 64
def BadRow (ns : List Int) : Prop := ns = [] ∨ ∃ x ∈ ns.drop 1, x < 1
/-- the numbers on the way keep within 200 figures -/
def RowFit (ns : List Int) : Prop := (∀ y ∈ ns, Fit y) ∧ ∀ k, k < ns.length → Fit (st (ns.drop k)).1
def sp_turned (K : PySem.W.Frag) : Sp := fun vs H Q _ => ∃ (p : Addr) (a b c s n : Int), vs = [.ref p, .int n] ∧ SqT K H p [.int a, .int b, .int c, .int s] ∧ Root a b c s ∧ (Sm n ∨ Bd n ∧ Bd b) ∧ Bd (a * n * n + b * n + c) ∧ Bd (2 * a * n + b) ∧ Bd a ∧ ∀ P B A : Int, TurnOf a b c s n P B A → newQ H (.tup [.int P, .int B, .int A, .int (if 0 < a * n * n + b * n + c then 1 - s else s)]) Q
def sp_rounds (K : PySem.W.Frag) : Sp := fun vs H Q _ => ∃ (p : Addr) (x : List Int) (N : Nat) (D0 M : Int), vs = [.ref p] ∧ H p = some (.tup (x.map V.int)) ∧ IsR x ∧ Sz D0 M x ∧ 0 ≤ D0 ∧ D0 < 10 ^ 20 ∧ M < 10 ^ 30 ∧ N < 10 ^ 6 ∧ (∃ i j, i < j ∧ j ≤ N ∧ sq x i = sq x j) ∧
  ∀ i j, Round x i j → j ≤ N → ∀ r a b H', Same H H' → SqT K H' a (((List.range i).map (pr x)).map V.int) → SqT K H' b (((List.range (j - i)).map fun k => pr x (i + k)).map V.int) → SqT K H' r [.ref a, .ref b] → Q (.ref r) H'
def sp_rofr (K : PySem.W.Frag) : Sp := fun vs H Q _ => ∃ (p : Addr) (w : List Int), vs = [.ref p] ∧ SqT K H p (w.map V.int) ∧ w ≠ [] ∧ Ups w ∧ (mat w).p < 10 ^ 38 ∧ newQ H (.tup ((rr w).map V.int)) Q
def sp_put (K : PySem.W.Frag) : Sp := fun vs H Q _ => ∃ (p : Addr) (n a b c s : Int), vs = [.int n, .ref p] ∧ SqT K H p [.int a, .int b, .int c, .int s] ∧ Root a b c s ∧ Bd a ∧ Bd b ∧ Bd c ∧ Bd n ∧ ∀ r H', Same H H' → H' r = some (.tup ((putA n [a, b, c, s]).map V.int)) → Q (.ref r) H'
def BadRound (ahead again : List Int) : Prop := again = [] ∨ (∃ x, again.head? = some x ∧ x < 1) ∨ ∃ x ∈ (ahead ++ again).drop 1, x < 1
def sp_root_by (K : PySem.W.Frag) (CN : Addr) : Sp := fun vs H Q E => ∃ (p r : Addr) (ahead again : List Int), vs = [.ref p, .ref r] ∧ SqT K H p (ahead.map V.int) ∧ SqT K H r (again.map V.int) ∧ ahead.length < 10 ^ 6 ∧ again.length < 10 ^ 6 ∧ (BadRound ahead again → ∀ H', Same H H' → E (.ref CN) none H') ∧
  (¬ BadRound ahead again → (mat again).p < 10 ^ 38 ∧ (∀ n ∈ ahead, Bd n) ∧ (∀ k, k ≤ ahead.length → ∀ z ∈ rootBy (ahead.drop k) again, Bd z) ∧ ∀ r H', Same H H' → H' r = some (.tup ((rootBy ahead again).map V.int)) → Q (.ref r) H')
def sp_parts (K : PySem.W.Frag) : Sp := fun vs H Q _ => ∃ (p : Addr) (x : List Int) (k : Int) (D0 M : Int), vs = [.ref p, .int k] ∧ SqT K H p (x.map V.int) ∧ IsR x ∧ Sz D0 M x ∧ 0 ≤ D0 ∧ D0 < 10 ^ 20 ∧ M < 10 ^ 30 ∧ 0 ≤ k ∧ k < 10 ^ 6 ∧ newQ H (.lst (((List.range k.toNat).map (pr x)).map V.int)) Q
structure PD (d : Int) (i j : Nat) : Prop where
  R : Round (xd d) i j
  jb : j ≤ 1000
  i1 : 1 ≤ i
  d60 : d ≤ 60
  fit : RowFit (wsD d i j)
  good : ¬ BadRow (wsD d i j)
  s1 : (st (wsD d i j)).1.natAbs < 10 ^ 6
  s2 : (st (wsD d i j)).2.natAbs < 10 ^ 6
local macro_rules | `(tactic| walk_at "wp") => `(tactic| simp only [cxOf_K, L2.start, List.map_cons, List.map_nil, List.reduceReplicate, Nat.reduceSub, Nat.reduceAdd, tSeq, tNext, tIfS, tRet, tRetN, tRaise, tDrop, tAsg, gName, gTup, gCons, gNil, tTest, tB, tOp, tUn, tVar, tC, rI0, rI, rU, rEq, rNe, scal, tAnd, tOr, tNot, tAndV, tOrV, tNotV, tIf, tChain, tCons, tNil, tCB, tTup, tLst, tTupS, tLstS, rCatTS, rCatTG, rLtT, rCatS, rInsertS, iRevT, iRevL, iRevA, rSlTG, rSlA, rIxA, rRepG, rEqLs, rExtendS, rRepS, rSlLS, rSlTS, rIn, iTup, iList, iRng1, iRng2, tComp, rIxT, rIxL, rAppendS, tCall, tCallS, tPar, tBreak, tDGet, tDIn, tDNotIn, sDPut, tDNewT, tBM, tBM0, tSl, tPart, tNoPart, CM, CD, CDN, rEqT, List.getElem?_cons_zero, List.getElem?_cons_succ, List.set_cons_zero, List.set_cons_succ, List.append_nil, List.nil_append, List.cons_append, Option.some.injEq, V.int.injEq, V.bl.injEq, V.ref.injEq, V.str.injEq, List.cons.injEq, exists_eq_left', exists_eq_left, exists_eq_right, exists_and_left, exists_and_right, exists_eq, and_true, true_and, exists_const, exists_eq_right_right, and_self, List.length_cons, List.length_nil, decide_true, decide_false, ↓reduceIte, Bool.false_eq_true, if_true, if_false, Bool.not_true, Bool.not_false])
local macro_rules | `(tactic| walk_at "splen") => `(tactic| (intro vs H Q E h; first | (obtain ⟨_, e, _⟩ := h; subst e; rfl) | (obtain ⟨_, _, e, _⟩ := h; subst e; rfl) | (obtain ⟨_, _, _, e, _⟩ := h; subst e; rfl) | (obtain ⟨_, _, _, _, e, _⟩ := h; subst e; rfl) | (obtain ⟨_, _, _, _, _, e, _⟩ := h; subst e; rfl) | (obtain ⟨_, _, _, _, _, _, e, _⟩ := h; subst e; rfl) | (obtain ⟨_, _, _, _, _, _, _, e, _⟩ := h; subst e; rfl) | (obtain ⟨_, _, _, _, _, _, _, _, e, _⟩ := h; subst e; rfl) | (obtain ⟨_, _, _, _, _, _, _, _, _, e, _⟩ := h; subst e; rfl) | (obtain ⟨_, _, _, _, _, _, _, _, _, _, e, _⟩ := h; subst e; rfl) | (obtain ⟨_, _, _, _, _, _, _, _, _, _, _, e, _⟩ := h; subst e; rfl) | (obtain ⟨_, _, _, _, _, _, _, _, _, _, _, _, e, _⟩ := h; subst e; rfl) | (obtain ⟨_, _, _, _, _, _, _, _, _, _, _, _, _, e, _⟩ := h; subst e; rfl)))
section
variable {P : Program} {w : World} {K : PySem.W.Frag} {mg : Str → Option Value} {base : Heap} {C_RowError C_NoNumber : Addr}
theorem sc_common_divisor : FnScope ["one", "other", "greater", "lesser", "rest"] ["one", "other"] (defScope s_common_divisor) := ⟨rfl, rfl, rfl, by decide +kernel, rfl, by decide +kernel, by decide +kernel⟩
theorem d_common_divisor (F : In K mg "common_divisor" s_common_divisor ["one", "other"]) (T : Txt K mg C_RowError C_NoNumber)  : Def P w K mg base CX0 1 "common_divisor" ["one", "other"] sp_gcd := by
  refine F.ok0 sc_common_divisor (by walk_at "splen") (fun f cdv A outer s H vs Q E hr h => ?_)
  obtain ⟨a, b, rfl, q⟩ := h
  refine ⟨_, (pss_cons (ps_set (i := 2) sc_common_divisor.nd rfl (Or.inl rfl) (pe_callB call_abs rfl T.n_abs (by decide +kernel) (pa_cons (pv 0) pa_nil)))
    (pss_cons (ps_set (i := 3) sc_common_divisor.nd rfl (Or.inl rfl) (pe_callB call_abs rfl T.n_abs (by decide +kernel) (pa_cons (pv 1) pa_nil)))
    (pss_cons (ps_while PassesOwn.never (pt_cmpR op_ne (pv 3) pe_int (nomark _)) (pss_cons (ps_set (i := 4) sc_common_divisor.nd rfl (Or.inl rfl) (pe_op op_mod (pv 2) (pv 3)))
    (pss_cons (ps_set (i := 2) sc_common_divisor.nd rfl (Or.inl rfl) (pv 3))
    (pss_one (ps_set (i := 3) sc_common_divisor.nd rfl (Or.inl rfl) (pv 4))))))
    (pss_one (ps_ret (pv 2)))))), ?_⟩
  walk_at "wp"
  -- while lesser != 0
  refine ⟨fun m σ H1 => ∃ (x y : Int) (r : Option V), σ = [some (.int a), some (.int b), some (.int x), some (.int y), r] ∧ H1 = H ∧ m = y.toNat ∧ 0 ≤ x ∧ 0 ≤ y ∧ Int.gcd x y = Int.gcd a b, ⟨_, _, _, _, rfl, rfl, rfl, ?_, ?_, gcd_abs a b⟩, ?_⟩
  · split <;> omega
  · split <;> omega
  rintro m σ H1 ⟨x, y, r, rfl, rfl, rfl, hx, hy, hg⟩
  walk_at "wp"
  refine ite2 (fun c => ?_) (fun c => ?_)
  · have hy0 : y ≠ 0 := by simpa using c
    have hm0 := Int.emod_nonneg x hy0
    have hm1 := Int.emod_lt_of_pos x (show 0 < y by omega)
    exact ⟨_, fun _ _ h => h, by omega, _, by omega, y, x % y, ⟨_, rfl⟩, rfl, rfl, hy, hm0, (gcd_step hx (by omega)).trans hg⟩
  · have hy0 : y = 0 := by simpa using c
    subst hy0
    rw [← hg, gcd_end hx] at q
    exact q
theorem kt_ii : PySem.W.kitOne K (.type "int") (.type "int") = some true := by kernel_rfl
theorem kt_ib : PySem.W.kitOne K (.type "int") (.type "bool") = some false := by kernel_rfl
theorem kt_bi : PySem.W.kitOne K (.type "bool") (.type "int") = some true := by kernel_rfl
theorem kt_bb : PySem.W.kitOne K (.type "bool") (.type "bool") = some true := by kernel_rfl
theorem kt_si : PySem.W.kitOne K (.type "str") (.type "int") = some false := by kernel_rfl
theorem kt_ni : PySem.W.kitOne K (.type "NoneType") (.type "int") = some false := by kernel_rfl
theorem kt_tt : PySem.W.kitOne K (.type "tuple") (.type "tuple") = some true := by kernel_rfl
def rIsi (K : PySem.W.Frag) : List V → Hp → VK → Prop := fun xs H Q => ∃ x c t cv b, xs = [x, c] ∧ ClsV c cv ∧ TyX K H x t ∧ PySem.W.kitOne K t cv = some b ∧ Q (.bl b) H
theorem whole_rd {v : V} {b : Bool} {H : Hp} {Q : VK} (hw : wholeV v = some b) (q : Q (.bl b) H) :
    tAndV (tCB (rIsi K) (tCons (tVar 0) (tCons (tC (.ty "int")) tNil))) (tNotV (tCB (rIsi K) (tCons (tVar 0) (tCons (tC (.ty "bool")) tNil)))) [some v] H Q := by
  walk_at "wp"
  cases v with
  | int i =>
    cases hw
    exact ⟨_, _, _, _, _, rfl, .ty _, .of (.int i), kt_ii, true, rfl, iteT ⟨_, _, _, _, _, rfl, .ty _, .of (.int i), kt_ib, false, rfl, q⟩⟩
  | bl c =>
    cases hw
    exact ⟨_, _, _, _, _, rfl, .ty _, .of (.bl c), kt_bi, true, rfl, iteT ⟨_, _, _, _, _, rfl, .ty _, .of (.bl c), kt_bb, true, rfl, q⟩⟩
  | str x =>
    cases hw
    exact ⟨_, _, _, _, _, rfl, .ty _, .of (.str x), kt_si, false, rfl, iteF q⟩
  | non =>
    cases hw
    exact ⟨_, _, _, _, _, rfl, .ty _, .of .non, kt_ni, false, rfl, iteF q⟩
  | _ => cases hw
theorem sc_is_whole : FnScope ["thing"] ["thing"] (defScope s_is_whole) := ⟨rfl, rfl, rfl, by decide +kernel, rfl, by decide +kernel, by decide +kernel⟩
theorem d_is_whole (F : In K mg "is_whole" s_is_whole ["thing"]) (T : Txt K mg C_RowError C_NoNumber)  : Def P w K mg base CX0 1 "is_whole" ["thing"] sp_whole := by
  refine F.ok0 sc_is_whole (by walk_at "splen") (fun f cdv A outer s H vs Q E hr h => ?_)
  obtain ⟨v, b, rfl, hw, q⟩ := h
  refine ⟨_, (pss_one (ps_ret (pe_and (pe_callB call_isi rfl T.n_isinstance (by decide +kernel) (pa_cons (pv 0) (pa_cons (pe_bltn (v := .ty "int") (u := .type "int") rfl T.n_int (by decide +kernel) rfl) pa_nil))) (pe_one (pe_not (pe_callB call_isi rfl T.n_isinstance (by decide +kernel) (pa_cons (pv 0) (pa_cons (pe_bltn (v := .ty "bool") (u := .type "bool") rfl T.n_bool (by decide +kernel) rfl) pa_nil)))))))), ?_⟩
  exact whole_rd hw q
theorem pow_le_60 {e : Nat} (h : e ≤ 150) : (2 : Nat) ^ e < 10 ^ 60 :=
  Nat.lt_of_le_of_lt (Nat.pow_le_pow_right (by decide) h) (by decide +kernel)
theorem bits_top {n : Int} (h : 0 ≤ n) : n < ((2 ^ ((Builtin.Int.intBits n + 1) / 2) * 2 ^ ((Builtin.Int.intBits n + 1) / 2) : Nat) : Int) := by
  have q : n.natAbs < 2 ^ Builtin.Int.intBits n := PySem.intBits_le_iff.mp (Nat.le_refl _)
  have z : 2 ^ Builtin.Int.intBits n ≤ 2 ^ ((Builtin.Int.intBits n + 1) / 2) * 2 ^ ((Builtin.Int.intBits n + 1) / 2) := by
    rw [← Nat.pow_add]
    exact Nat.pow_le_pow_right (by decide) (by omega)
  omega
theorem bits_small {n : Int} (h : 0 ≤ n) (h1 : n < 10 ^ 90) : Builtin.Int.intBits n ≤ 299 := by
  refine PyProof.Rows.intBits_le (Nat.lt_of_lt_of_le (show n.natAbs < 10 ^ 90 by omega) ?_)
  decide +kernel
theorem sc_least_square : FnScope ["n", "guess"] ["n"] (defScope s_least_square) := ⟨rfl, rfl, rfl, by decide +kernel, rfl, by decide +kernel, by decide +kernel⟩
theorem d_least_square (F : In K mg "least_square" s_least_square ["n"]) (T : Txt K mg C_RowError C_NoNumber)  : Def P w K mg base CX0 1 "least_square" ["n"] sp_sqrt := by
  refine F.ok0 sc_least_square (by walk_at "splen") (fun f cdv A outer s H vs Q E hr h => ?_)
  obtain ⟨n, rfl, h0, h1, q⟩ := h
  refine ⟨_, (pss_cons (ps_set (i := 1) sc_least_square.nd rfl (Or.inl rfl) (pe_op op_shl pe_int (pe_op op_fdivP (pe_op op_add (pe_bm0 PySem.F.plainAttrs_int PySem.F.slot_int_bit_length PySem.F.type_int_bit_length mt_bits (pv 0)) pe_int) pe_int)))
    (pss_cons (ps_while PassesOwn.never (PW.pt (pw_and (pt_cmpR op_gt (pv 1) pe_int (nomark _)) (pw_and1 (pt_cmpR op_gt (pe_op op_mulB (pv 1) (pv 1)) (pv 0) (nomark _))))) (pss_one (ps_set (i := 1) sc_least_square.nd rfl (Or.inl rfl) (pe_op op_fdivP (pe_op op_add (pv 1) (pe_op op_fdivP (pv 0) (pv 1))) pe_int))))
    (pss_one (ps_ret (pv 1))))), ?_⟩
  walk_at "wp"
  have hb := bits_top h0
  have hb2 := bits_small h0 h1
  refine ⟨rfl, ⟨by decide, by constructor <;> decide⟩, ⟨by omega, by omega, by decide⟩, ?_⟩
  refine ⟨fun m σ H1 => ∃ g : Int, σ = [some (.int n), some (.int g)] ∧ H1 = H ∧ m = g.toNat ∧ 0 ≤ g ∧ g < 10 ^ 60 ∧ n < (g + 1) * (g + 1), ⟨_, _, rfl, rfl, rfl, ?_⟩, ?_⟩
  · have ee : ((((Builtin.Int.intBits n : Nat) : Int) + 1) / 2).toNat = (Builtin.Int.intBits n + 1) / 2 := by omega
    rw [ee]
    have p60 := pow_le_60 (e := (Builtin.Int.intBits n + 1) / 2) (by omega)
    have ec : (1 : Int) * 2 ^ ((Builtin.Int.intBits n + 1) / 2) = ((2 ^ ((Builtin.Int.intBits n + 1) / 2) : Nat) : Int) := by
      rw [Int.one_mul, Int.natCast_pow] <;> rfl
    rw [ec]
    rw [Int.natCast_mul] at hb
    generalize ((2 ^ ((Builtin.Int.intBits n + 1) / 2) : Nat)) = z at hb p60
    refine ⟨by omega, by omega, ?_⟩
    have x1 : ((z : Int) + 1) * ((z : Int) + 1) = (z : Int) * z + 2 * z + 1 := by
      simp only [Int.add_mul, Int.mul_add, Int.one_mul, Int.mul_one]; omega
    omega
  rintro m σ H1 ⟨g, rfl, rfl, rfl, hg, hg2, hn⟩
  walk_at "wp"
  have fg : Fit g := ⟨by omega, by omega⟩
  refine ite2 (fun c => ?_) (fun c => ?_)
  · have g0 : 0 < g := by simpa using c
    refine ⟨.inr fg, ite2 (fun c => ?_) (fun c => ?_)⟩
    · have c1 : n < g * g := by simpa using c
      obtain ⟨n1, n2⟩ := newton_falls g0 h0 c1
      exact ⟨_, fun _ _ h => h, ⟨g0, fg⟩, ⟨by decide, by constructor <;> decide⟩, _, by omega, _, rfl, rfl, rfl, n2, by omega, newton g0 h0⟩
    · have c1 : ¬ n < g * g := by simpa using c
      exact q g hg (by omega) hn
  · have g0 : ¬ 0 < g := by simpa using c
    have gz : g = 0 := by omega
    subst gz
    exact q 0 (by omega) (by omega) hn
theorem cell_at {ns : List Int} {k : Int} (h0 : 0 ≤ k) (h : k < (ns.length : Int)) : atI (ns.map V.int) k = some (.int (ns.getD k.toNat 0)) := by
  have hk : k.toNat < ns.length := by omega
  have ek : k = ((k.toNat : Nat) : Int) := by omega
  have q : atI (ns.map V.int) ((k.toNat : Nat) : Int) = some (.int (ns.getD k.toNat 0)) := atI_nat (by rw [List.getElem?_map, List.getD_eq_getElem?_getD, List.getElem?_eq_getElem hk] <;> rfl)
  rw [← ek] at q
  exact q
theorem cell_out {ns : List Int} {k : Int} (h : (ns.length : Int) ≤ k) : ns.getD k.toNat 0 = 0 := by
  rw [List.getD_eq_getElem?_getD, List.getElem?_eq_none (by omega)] <;> rfl
theorem sc_law_cell : FnScope ["_law_script", "_law_k"] ["_law_script", "_law_k"] (defScope s_law_cell) := ⟨rfl, rfl, rfl, by decide +kernel, rfl, by decide +kernel, by decide +kernel⟩
theorem d_law_cell (F : In K mg "_law_cell" s_law_cell ["_law_script", "_law_k"]) (T : Txt K mg C_RowError C_NoNumber)  : Def P w K mg base CX0 1 "_law_cell" ["_law_script", "_law_k"] (sp_cell K) := by
  refine F.ok0 sc_law_cell (by walk_at "splen") (fun f cdv A outer s H vs Q E hr h => ?_)
  obtain ⟨a, ns, k, rfl, hS, hk, q⟩ := h
  refine ⟨_, (pss_cons (ps_if (pt_cmpR op_lt (pv 1) (pe_callB call_len_seq rfl T.n_len (by decide +kernel) (pa_cons (pv 0) pa_nil)) (nomark _)) (pss_one (ps_ret (pe_ix ix_list (pv 0) (pv 1) (fun _ _ => rfl)))) pss_nil)
    (pss_one (ps_ret pe_int))), ?_⟩
  walk_at "wp"
  refine ⟨_, .inl hS, ?_⟩
  rw [List.length_map]
  refine ite2 (fun c => ?_) (fun c => ?_)
  · have hlt : k < (ns.length : Int) := by simpa using c
    exact ⟨_, hS, _, cell_at hk hlt, q⟩
  · have hge : ¬ k < (ns.length : Int) := by simpa using c
    rw [cell_out (by omega)] at q
    exact q
theorem sc_law_mix : FnScope ["_law_cell_here", "_law_prime", "_law_many"] ["_law_cell_here", "_law_prime", "_law_many"] (defScope s_law_mix) := ⟨rfl, rfl, rfl, by decide +kernel, rfl, by decide +kernel, by decide +kernel⟩
theorem d_law_mix (F : In K mg "_law_mix" s_law_mix ["_law_cell_here", "_law_prime", "_law_many"]) (T : Txt K mg C_RowError C_NoNumber)  : Def P w K mg base CX0 1 "_law_mix" ["_law_cell_here", "_law_prime", "_law_many"] sp_mixE := by
  refine F.ok0 sc_law_mix (by walk_at "splen") (fun f cdv A outer s H vs Q E hr h => ?_)
  obtain ⟨c, p, m, rfl, hp, hm, q⟩ := h
  refine ⟨_, (pss_one (ps_ret (pe_op op_mod (pe_op op_mod (pe_op op_mulB (pv 0) pe_int) (pv 1)) (pv 2)))), ?_⟩
  walk_at "wp"
  first | exact ⟨.inl (.inr ⟨by decide, by decide⟩), hp, hm, q _ (Int.emod_nonneg _ (by omega)) (Int.emod_lt_of_pos _ hm)⟩ | exact ⟨.inl (.inr ⟨by decide, by decide⟩), hp, hm, q⟩
theorem Bd.fit {x : Int} (h : Bd x) : Fit x := by
  obtain ⟨h1, h2⟩ := h
  constructor <;> omega
theorem bd_mul {x y : Int} {m n : Nat} (hx : x.natAbs < 10 ^ m) (hy : y.natAbs < 10 ^ n) : (x * y).natAbs < 10 ^ (m + n) := by
  rw [Int.natAbs_mul, Nat.pow_add]
  exact Nat.mul_lt_mul'' hx hy
theorem Bd.nat {x : Int} (h : Bd x) : x.natAbs < 10 ^ 40 := by
  obtain ⟨h1, h2⟩ := h
  omega
theorem heart_small {a b c : Int} (ha : Bd a) (hb : Bd b) (hc : Bd c) : heart a b c < 10 ^ 90 := by
  have h1 := bd_mul hb.nat hb.nat
  have h2 := bd_mul (bd_mul (show (4 : Int).natAbs < 10 ^ 1 by decide) ha.nat) hc.nat
  unfold heart
  omega
theorem sc_heart_of : FnScope ["a", "b", "c"] ["a", "b", "c"] (defScope s_heart_of) := ⟨rfl, rfl, rfl, by decide +kernel, rfl, by decide +kernel, by decide +kernel⟩
theorem d_heart_of (F : In K mg "heart_of" s_heart_of ["a", "b", "c"]) (T : Txt K mg C_RowError C_NoNumber)  : Def P w K mg base CX0 1 "heart_of" ["a", "b", "c"] sp_heart := by
  refine F.ok0 sc_heart_of (by walk_at "splen") (fun f cdv A outer s H vs Q E hr h => ?_)
  obtain ⟨a, b, c, rfl, ha, hb, hc, q⟩ := h
  refine ⟨_, (pss_one (ps_ret (pe_op op_sub (pe_op op_mulB (pv 1) (pv 1)) (pe_op op_mulB (pe_op op_mulB pe_int (pv 0)) (pv 2))))), ?_⟩
  walk_at "wp"
  have h1 := bd_mul (show (4 : Int).natAbs < 10 ^ 1 by decide) ha.nat
  refine ⟨.inr hb.fit, .inl (.inl ⟨by decide, by decide⟩), .inr ⟨⟨by omega, by omega⟩, hc.fit⟩, q⟩
theorem sc_is_square : FnScope ["n"] ["n"] (defScope s_is_square) := ⟨rfl, rfl, rfl, by decide +kernel, rfl, by decide +kernel, by decide +kernel⟩
theorem d_is_square (F : In K mg "is_square" s_is_square ["n"]) (T : Txt K mg C_RowError C_NoNumber) (D_least_square : Def P w K mg base CX0 1 "least_square" ["n"] sp_sqrt) : Def P w K mg base CX0 2 "is_square" ["n"] sp_issq := by
  refine F.ok0 sc_is_square (by walk_at "splen") (fun f cdv A outer s H vs Q E hr h => ?_)
  obtain ⟨n, rfl, h0, h1, q⟩ := h
  refine ⟨_, (pss_one (ps_ret (pe_cmpR op_eq (pe_op op_powB (pe_callD D_least_square hr rfl pass0 (pa_cons (pv 0) pa_nil)) pe_int) (pv 0) (nomark _)))), ?_⟩
  walk_at "wp"
  refine ⟨n, rfl, h0, h1, fun g g0 g1 g2 => ?_⟩
  have gn : g ≤ n ∨ g = 0 := by
    by_cases z : g = 0
    · exact .inr z
    · have := Int.mul_le_mul_of_nonneg_left (show 1 ≤ g by omega) g0
      exact .inl (by omega)
  refine ⟨g, rfl, ⟨by decide, by decide, by omega, by omega⟩, q _ ?_⟩
  rw [decide_eq_true_iff, show Int.toNat 2 = 2 from rfl, ← sq_iff g0 g1 g2]
  rw [Int.pow_succ, Int.pow_succ, Int.pow_zero, Int.one_mul]
theorem sc_divisor_of_all : FnScope ["a", "b", "c"] ["a", "b", "c"] (defScope s_divisor_of_all) := ⟨rfl, rfl, rfl, by decide +kernel, rfl, by decide +kernel, by decide +kernel⟩
theorem d_divisor_of_all (F : In K mg "divisor_of_all" s_divisor_of_all ["a", "b", "c"]) (T : Txt K mg C_RowError C_NoNumber) (D_common_divisor : Def P w K mg base CX0 1 "common_divisor" ["one", "other"] sp_gcd) : Def P w K mg base CX0 2 "divisor_of_all" ["a", "b", "c"] sp_g3 := by
  refine F.ok0 sc_divisor_of_all (by walk_at "splen") (fun f cdv A outer s H vs Q E hr h => ?_)
  obtain ⟨a, b, c, rfl, q⟩ := h
  refine ⟨_, (pss_one (ps_ret (pe_callD D_common_divisor hr rfl pass0 (pa_cons (pe_callD D_common_divisor hr rfl pass0 (pa_cons (pv 0) (pa_cons (pv 1) pa_nil))) (pa_cons (pv 2) pa_nil))))), ?_⟩
  walk_at "wp"
  exact ⟨_, _, rfl, _, _, rfl, q⟩
theorem Root_iff {a b c s : Int} : Root a b c s ↔ 0 < a ∧ (s = 0 ∨ s = 1) ∧ g3 a b c = 1 ∧ 0 < heart a b c ∧ ¬ IsSq (heart a b c) :=
  ⟨fun h => ⟨h.pos, h.side, h.low, h.hp, h.ns⟩, fun ⟨h1, h2, h3, h4, h5⟩ => ⟨h1, h2, h3, h4, h5⟩⟩
theorem sc_is_root : FnScope ["thing", "a", "b", "c", "heart"] ["thing"] (defScope s_is_root) := ⟨rfl, rfl, rfl, by decide +kernel, rfl, by decide +kernel, by decide +kernel⟩
theorem d_is_root (F : In K mg "is_root" s_is_root ["thing"]) (T : Txt K mg C_RowError C_NoNumber) (D_heart_of : Def P w K mg base CX0 1 "heart_of" ["a", "b", "c"] sp_heart) (D_divisor_of_all : Def P w K mg base CX0 2 "divisor_of_all" ["a", "b", "c"] sp_g3) (D_is_square : Def P w K mg base CX0 2 "is_square" ["n"] sp_issq) (D_is_whole : Def P w K mg base CX0 1 "is_whole" ["thing"] sp_whole) : Def P w K mg base CX0 3 "is_root" ["thing"] (sp_isroot K) := by
  refine F.ok0 sc_is_root (by walk_at "splen") (fun f cdv A outer s H vs Q E hr h => ?_)
  obtain ⟨v, t, rfl, hf, q⟩ := h
  refine ⟨_, (pss_cons (ps_if (PW.pt (pw_or (pt_not (pt_val (pe_callB call_isi rfl T.n_isinstance (by decide +kernel) (pa_cons (pv 0) (pa_cons (pe_bltn (v := .ty "tuple") (u := .type "tuple") rfl T.n_tuple (by decide +kernel) rfl) pa_nil))))) (pw_or1 (pt_cmpR op_ne (pe_callB call_len_seq rfl T.n_len (by decide +kernel) (pa_cons (pv 0) pa_nil)) pe_int (nomark _))))) (pss_one (ps_ret pe_bl)) pss_nil)
    (pss_cons (ps_if (pt_not (pt_val (pe_callB (call_allL rfl) rfl T.n_all (by decide +kernel) (pa_cons (pe_comp rfl (Clos.none (by decide +kernel)) (by decide +kernel) rfl (by decide +kernel) rfl (by decide +kernel) (pi_tup (pv 0)) (fun _ _ _ _ => (pe_callD D_is_whole hr rfl pass0 (pa_cons (pv 0) pa_nil)))) pa_nil)))) (pss_one (ps_ret pe_bl)) pss_nil)
    (pss_cons (ps_set (i := 1) sc_is_root.nd rfl (Or.inl rfl) (pe_ix ix_tup (pv 0) pe_int (fun _ _ => rfl)))
    (pss_cons (ps_set (i := 2) sc_is_root.nd rfl (Or.inl rfl) (pe_ix ix_tup (pv 0) pe_int (fun _ _ => rfl)))
    (pss_cons (ps_set (i := 3) sc_is_root.nd rfl (Or.inl rfl) (pe_ix ix_tup (pv 0) pe_int (fun _ _ => rfl)))
    (pss_cons (ps_if (PW.pt (pw_or (pt_cmpR op_lt (pv 1) pe_int (nomark _)) (pw_or (pt_cmpR op_notIn_seq (pe_ix ix_tup (pv 0) pe_int (fun _ _ => rfl)) (pe_tupS (pa_cons pe_int (pa_cons pe_int pa_nil))) (by with_unfolding_all rfl)) (pw_or1 (pt_cmpR op_ne (pe_callD D_divisor_of_all hr rfl pass0 (pa_cons (pv 1) (pa_cons (pv 2) (pa_cons (pv 3) pa_nil)))) pe_int (nomark _)))))) (pss_one (ps_ret pe_bl)) pss_nil)
    (pss_cons (ps_set (i := 4) sc_is_root.nd rfl (Or.inl rfl) (pe_callD D_heart_of hr rfl pass0 (pa_cons (pv 1) (pa_cons (pv 2) (pa_cons (pv 3) pa_nil)))))
    (pss_one (ps_ret (pe_and (pe_cmpR op_gt (pv 4) pe_int (nomark _)) (pe_one (pe_not (pe_callD D_is_square hr rfl pass0 (pa_cons (pv 4) pa_nil)))))))))))))), ?_⟩
  walk_at "wp"
  cases hf with
  | other ht e => exact ⟨_, _, ⟨rfl, rfl⟩, _, _, .ty _, ht, false, e, q H (Same.refl H)⟩
  | @len a xs h e =>
    refine ⟨_, _, ⟨rfl, rfl⟩, _, _, .ty _, .tup h, true, kt_tt, ?_⟩
    refine iteF ⟨a, rfl, xs, .inr h, ?_⟩
    refine ite2 (fun _ => q H (Same.refl H)) (fun c => ?_)
    exact absurd (by simpa using c) (show ¬ (xs.length : Int) = 4 by omega)
  | @items a x y z t bx by' bz bt h ex ey ez et e =>
    refine ⟨_, _, ⟨rfl, rfl⟩, _, _, .ty _, .tup h, true, kt_tt, ?_⟩
    refine iteF ⟨a, rfl, _, .inr h, ?_⟩
    refine iteF ⟨_, rfl, ⟨_, h⟩, comp_mapT (fun v => .bl ((wholeV v).getD false)) h (by show 4 ≤ sizeLine; decide) ?_ ?_⟩
    · intro x' hx H5 R s5 hR
      have hw : ∃ b, wholeV x' = some b := by
        simp only [List.mem_cons, List.not_mem_nil, or_false] at hx
        rcases hx with rfl | rfl | rfl | rfl
        · exact ⟨_, ex⟩
        · exact ⟨_, ey⟩
        · exact ⟨_, ez⟩
        · exact ⟨_, et⟩
      obtain ⟨b, hb⟩ := hw
      have hR' := hR H5 (Same.refl _)
      rw [hb] at hR'
      exact ⟨x', rfl, x', b, rfl, hb, hR'⟩
    intro d H5 n5 s5 td
    refine ⟨d, rfl, [bx, by', bz, bt], ?_, ?_⟩
    · simp only [List.map_cons, List.map_nil, ex, ey, ez, et, Option.getD_some] at td
      exact SqL.of td
    · have e2 : ([bx, by', bz, bt].all id) = false := by
        simpa [Bool.and_assoc] using e
      rw [e2]
      exact iteT (q _ s5)
  | @root p a b c s t h ha hb hc e =>
    refine ⟨_, _, ⟨rfl, rfl⟩, _, _, .ty _, .tup h, true, kt_tt, ?_⟩
    refine iteF ⟨p, rfl, _, .inr h, ?_⟩
    refine iteF ⟨_, rfl, ⟨_, h⟩, comp_mapT (fun _ => .bl true) h (by show 4 ≤ sizeLine; decide) ?_ ?_⟩
    · intro x hx H5 R s5 hR
      have hw : wholeV x = some true := by
        simp only [List.mem_cons, List.not_mem_nil, or_false] at hx
        rcases hx with rfl | rfl | rfl | rfl <;> rfl
      exact ⟨x, rfl, x, true, rfl, hw, hR H5 (Same.refl _)⟩
    intro d H5 n5 s5 td
    refine ⟨d, rfl, [true, true, true, true], SqL.of td, iteF ?_⟩
    have h5 := s5.seqT h
    rw [Root_iff] at e
    refine ⟨_, rfl, _, h5, _, rfl, _, rfl, _, h5, _, rfl, _, rfl, _, h5, _, rfl, _, rfl, ?_⟩
    have qf : (¬ Root a b c s) → ∀ H', Same H H' → Q (.bl false) H' := fun hn H' s' => by
      have : t = false := Bool.eq_false_iff.mpr fun z => hn (Root_iff.mpr (e.mp z))
      rw [this] at q
      exact q H' s'
    refine ite2 (fun z => ?_) (fun z => ?_)
    · have c1 : a < 1 := by simpa using z
      exact qf (fun r => by have := r.pos; omega) _ s5
    have a1 : ¬ a < 1 := by simpa using z
    refine ⟨_, rfl, _, h5, _, rfl, by decide, fun d6 H6 n6 s6 t6 => ⟨_, rfl, _, .inr (SqT.of t6), rfl, rfl, ?_⟩⟩
    have s56 := s5.trans s6
    have ein : inV (.int s) [.int 0, .int 1] = true ↔ (s = 0 ∨ s = 1) := by
      show ((0 == s) || ((1 == s) || false)) = true ↔ _
      rw [Bool.or_eq_true, Bool.or_false, beq_iff_eq, beq_iff_eq]
      omega
    refine ite2 (fun z => ?_) (fun z => ?_)
    · exact qf (fun r => by have := ein.mpr r.side; simp [this] at z) _ s56
    have hs : s = 0 ∨ s = 1 := ein.mp (by simpa using z)
    refine ⟨_, _, _, rfl, rfl, ?_⟩
    refine ite2 (fun z => ?_) (fun z => ?_)
    · exact qf (fun r => by simp [r.low] at z) _ s56
    have hg : g3 a b c = 1 := by simpa using z
    refine ⟨_, _, _, rfl, ha, hb, hc, _, rfl, ?_⟩
    refine ite2 (fun z => ?_) (fun z => ?_)
    · have hpos := of_decide_eq_true z
      refine ⟨_, rfl, by omega, heart_small ha hb hc, fun u hu => ⟨u, rfl, ?_⟩⟩
      have : t = !u := by
        rw [Bool.eq_iff_iff, e, Bool.not_eq_true', Bool.eq_false_iff, ne_eq, hu]
        exact ⟨fun z => z.2.2.2.2, fun z => ⟨by omega, hs, hg, hpos, z⟩⟩
      rw [← this]
      exact q _ s56
    · exact qf (fun r => z (decide_eq_true r.hp)) _ s56
theorem sc_root_of : FnScope ["a", "b", "c", "side", "heart", "divisor"] ["a", "b", "c", "side"] (defScope s_root_of) := ⟨rfl, rfl, rfl, by decide +kernel, rfl, by decide +kernel, by decide +kernel⟩
theorem d_root_of (F : In K mg "root_of" s_root_of ["a", "b", "c", "side"]) (T : Txt K mg C_RowError C_NoNumber) (D_heart_of : Def P w K mg base CX0 1 "heart_of" ["a", "b", "c"] sp_heart) (D_divisor_of_all : Def P w K mg base CX0 2 "divisor_of_all" ["a", "b", "c"] sp_g3) (D_is_square : Def P w K mg base CX0 2 "is_square" ["n"] sp_issq) : Def P w K mg base (CXE P w) 3 "root_of" ["a", "b", "c", "side"] (sp_root_of C_NoNumber) := by
  refine F.okX sc_root_of (by walk_at "splen") (fun f cdv A outer s H vs Q E hr h => ?_)
  obtain ⟨a, b, c, s, rfl, ha, hb, hc, h0, h1⟩ := h
  refine ⟨_, (pss_cons (ps_if (pt_cmpR op_eq (pv 0) pe_int (nomark _)) (pss_one (ps_raise raises_cx rfl PySem.F.excBase_ValueError rfl T.m_NoNumber T.x_NoNumber (pa_cons pe_str pa_nil))) pss_nil)
    (pss_cons (ps_set (i := 4) sc_root_of.nd rfl (Or.inl rfl) (pe_callD D_heart_of hr rfl pass0 (pa_cons (pv 0) (pa_cons (pv 1) (pa_cons (pv 2) pa_nil)))))
    (pss_cons (ps_if (PW.pt (pw_or (pt_cmpR op_lt (pv 4) pe_int (nomark _)) (pw_or1 (pt_val (pe_callD D_is_square hr rfl pass0 (pa_cons (pv 4) pa_nil)))))) (pss_one (ps_raise raises_cx rfl PySem.F.excBase_ValueError rfl T.m_NoNumber T.x_NoNumber (pa_cons pe_str pa_nil))) pss_nil)
    (pss_cons (ps_set (i := 5) sc_root_of.nd rfl (Or.inl rfl) (pe_callD D_divisor_of_all hr rfl pass0 (pa_cons (pv 0) (pa_cons (pv 1) (pa_cons (pv 2) pa_nil)))))
    (pss_cons (ps_if (pt_cmpR op_lt (pv 0) pe_int (nomark _)) (pss_one (ps_set (i := 5) sc_root_of.nd rfl (Or.inl rfl) (pe_un un_neg (pv 5)))) pss_nil)
    (pss_one (ps_ret (pe_tupS (pa_cons (pe_op op_fdivM (pv 0) (pv 5)) (pa_cons (pe_op op_fdivM (pv 1) (pv 5)) (pa_cons (pe_op op_fdivM (pv 2) (pv 5)) (pa_cons (pv 3) pa_nil)))))))))))), ?_⟩
  walk_at "wp"
  have one : 1 ≤ sizeLine := by decide
  refine ite2 (fun z => ?_) (fun z => ?_)
  · exact ⟨one, h0 (.inl (by simpa using z))⟩
  have a0 : a ≠ 0 := by simpa using z
  refine ⟨_, _, _, rfl, ha, hb, hc, _, rfl, ?_⟩
  refine ite2 (fun z => ?_) (fun z => ?_)
  · exact ⟨one, h0 (.inr (.inl (by simpa using z)))⟩
  have hn : ¬ heart a b c < 0 := by simpa using z
  refine ⟨_, rfl, by omega, heart_small ha hb hc, fun u hu => ⟨u, rfl, ?_⟩⟩
  refine ite2 (fun z => ?_) (fun z => ?_)
  · exact ⟨one, h0 (.inr (.inr (hu.mp z)))⟩
  have q := h1 a0 (by omega) (fun y => z (hu.mpr y))
  have nb := by3_ne (b := b) (c := c) a0
  have fb : Fit (by3 a b c) := by
    have g1 := by3_abs a b c
    have g2 : g3 a b c ≤ (a.natAbs : Int) := by
      rw [g3_eq]
      have := Nat.le_trans (Nat.gcd_le_left c.natAbs (Nat.gcd_pos_of_pos_left b.natAbs (show 0 < a.natAbs by omega))) (Nat.gcd_le_left b.natAbs (show 0 < a.natAbs by omega))
      omega
    obtain ⟨x, y⟩ := ha
    constructor <;> omega
  have four : 4 ≤ sizeLine := by decide
  refine ⟨_, _, _, rfl, ?_⟩
  refine ite2 (fun z => ?_) (fun z => ?_)
  · have hn : a < 0 := by simpa using z
    have e : by3 a b c = -(g3 a b c) := if_pos hn
    rw [e] at fb nb q
    exact ⟨_, rfl, ⟨nb, fb⟩, ⟨nb, fb⟩, ⟨nb, fb⟩, four, q⟩
  · have hn : ¬ a < 0 := by simpa using z
    have e : by3 a b c = g3 a b c := if_neg hn
    rw [e] at fb nb q
    exact ⟨_, rfl, ⟨nb, fb⟩, _, rfl, ⟨nb, fb⟩, _, rfl, ⟨nb, fb⟩, four, q⟩
theorem part_small {a b h g s n : Int} (ha : 0 < a) (hh : 0 ≤ h) (g0 : 0 ≤ g) (g1 : g * g ≤ h) (hn : n = ((if s = 0 then -g - 1 else g) - b) / (2 * a)) : n.natAbs ≤ h.natAbs + b.natAbs + 1 := by
  have gl := sqrt_le g0 g1
  have lo := Int.mul_ediv_self_le (x := (if s = 0 then -g - 1 else g) - b) (k := 2 * a) (by omega)
  have hi := Int.lt_mul_ediv_self_add (x := (if s = 0 then -g - 1 else g) - b) (k := 2 * a) (by omega)
  rw [← hn] at lo hi
  obtain ⟨w, hw⟩ : ∃ w, (if s = 0 then -g - 1 else g) = w := ⟨_, rfl⟩
  have hwb : -h - 1 ≤ w ∧ w ≤ h := by rw [← hw]; split <;> omega
  rw [hw] at lo hi
  rcases Int.lt_or_le n 0 with z | z
  · have := Int.mul_le_mul_of_nonneg_right (show (2 : Int) ≤ 2 * a by omega) (show 0 ≤ -n - 1 by omega)
    rw [show 2 * a * (-n - 1) = -(2 * a * n) - 2 * a by grind] at this
    omega
  · have := Int.mul_le_mul_of_nonneg_right (show (2 : Int) ≤ 2 * a by omega) z
    omega
theorem sc_part_of : FnScope ["number", "a", "b", "whole"] ["number"] (defScope s_part_of) := ⟨rfl, rfl, rfl, by decide +kernel, rfl, by decide +kernel, by decide +kernel⟩
theorem d_part_of (F : In K mg "part_of" s_part_of ["number"]) (T : Txt K mg C_RowError C_NoNumber) (D_least_square : Def P w K mg base CX0 1 "least_square" ["n"] sp_sqrt) (D_heart_of : Def P w K mg base CX0 1 "heart_of" ["a", "b", "c"] sp_heart) : Def P w K mg base CX0 2 "part_of" ["number"] (sp_part K) := by
  refine F.ok0 sc_part_of (by walk_at "splen") (fun f cdv A outer s H vs Q E hr h => ?_)
  obtain ⟨p, xs, A, t, D, L, rfl, hT, hN, hB, q⟩ := h
  refine ⟨_, (pss_cons (ps_if (pt_cmpR op_eq (pe_callB call_len_seq rfl T.n_len (by decide +kernel) (pa_cons (pv 0) pa_nil)) pe_int (nomark _)) (pss_one (ps_ret (pe_op op_fdivP (pe_ix ix_tup (pv 0) pe_int (fun _ _ => rfl)) (pe_ix ix_tup (pv 0) pe_int (fun _ _ => rfl))))) pss_nil)
    (pss_cons (ps_set (i := 1) sc_part_of.nd rfl (Or.inl rfl) (pe_ix ix_tup (pv 0) pe_int (fun _ _ => rfl)))
    (pss_cons (ps_set (i := 2) sc_part_of.nd rfl (Or.inl rfl) (pe_ix ix_tup (pv 0) pe_int (fun _ _ => rfl)))
    (pss_cons (ps_set (i := 3) sc_part_of.nd rfl (Or.inl rfl) (pe_callD D_least_square hr rfl pass0 (pa_cons (pe_callD D_heart_of hr rfl pass0 (pa_cons (pv 1) (pa_cons (pv 2) (pa_cons (pe_ix ix_tup (pv 0) pe_int (fun _ _ => rfl)) pa_nil)))) pa_nil)))
    (pss_cons (ps_if (pt_cmpR op_eq (pe_ix ix_tup (pv 0) pe_int (fun _ _ => rfl)) pe_int (nomark _)) (pss_one (ps_set (i := 3) sc_part_of.nd rfl (Or.inl rfl) (pe_op op_sub (pe_un un_neg (pv 3)) pe_int))) pss_nil)
    (pss_one (ps_ret (pe_op op_fdivP (pe_op op_sub (pv 3) (pv 2)) (pe_op op_mulB pe_int (pv 1)))))))))), ?_⟩
  walk_at "wp"
  cases hN with
  | frac hl hg =>
    refine ⟨_, .inr hT, iteT ?_⟩
    have bl := hB L (by simp)
    refine ⟨_, hT, _, rfl, _, hT, _, rfl, _, rfl, _, rfl, ⟨hl, bl.fit⟩, q _ (.frac ?_ ?_)⟩
    · rw [Int.mul_comm]; exact Int.mul_ediv_self_le (by omega)
    · have := Int.lt_mul_ediv_self_add (x := A) (k := L) hl
      rw [Int.add_mul, Int.mul_comm (A / L)]
      omega
  | @root a b c s r =>
    have ba := hB a (by simp)
    have bb := hB b (by simp)
    have bc := hB c (by simp)
    have pa := r.pos
    refine ⟨_, .inr hT, iteF ?_⟩
    refine ⟨_, hT, _, rfl, _, hT, _, rfl, _, hT, _, rfl, ?_⟩
    refine ⟨_, _, _, rfl, ba, bb, bc, _, rfl, by have := r.hp; omega, heart_small ba bb bc, fun g g0 g1 g2 => ?_⟩
    have fa : Fit (2 * a) := by
      have := ba.2
      constructor <;> omega
    refine ⟨_, hT, _, rfl, rfl, ?_⟩
    have hn := part_right r g0 g1 g2 rfl
    have hs := part_small (s := s) (b := b) pa (by have := r.hp; omega) g0 g1 rfl
    have c2 : CMul 2 a ∨ Fit 2 ∧ Fit a := .inl (.inl ⟨by decide, by decide⟩)
    refine ite2 (fun z => ?_) (fun z => ?_)
    · have s0 : s = 0 := by simpa using z
      rw [if_pos s0] at hn hs
      exact ⟨_, rfl, _, rfl, _, rfl, c2, ⟨by omega, fa⟩, q _ (.root hn.1 hn.2 hs)⟩
    · have s0 : ¬ s = 0 := by simpa using z
      rw [if_neg s0] at hn hs
      exact ⟨_, rfl, _, rfl, _, rfl, c2, ⟨by omega, fa⟩, q _ (.root hn.1 hn.2 hs)⟩
theorem fit_of {x : Int} {m : Nat} (h : x.natAbs < 10 ^ m) (hm : m ≤ 199) : Fit x := by
  have : 10 ^ m ≤ 10 ^ 199 := Nat.pow_le_pow_right (by decide) hm
  constructor <;> omega
theorem sc_turned : FnScope ["root", "n", "a", "b", "side", "at_n"] ["root", "n"] (defScope s_turned) := ⟨rfl, rfl, rfl, by decide +kernel, rfl, by decide +kernel, by decide +kernel⟩
theorem d_turned (F : In K mg "turned" s_turned ["root", "n"]) (T : Txt K mg C_RowError C_NoNumber) (D_root_of : Def P w K mg base (CXE P w) 3 "root_of" ["a", "b", "c", "side"] (sp_root_of C_NoNumber)) : Def P w K mg base (CXE P w) 4 "turned" ["root", "n"] (sp_turned K) := by
  refine F.okX sc_turned (by walk_at "splen") (fun f cdv A outer s H vs Q E hr h => ?_)
  obtain ⟨p, a, b, c, s0, n, rfl, hT, r, hn, b1, b2, b3, q⟩ := h
  refine ⟨_, (pss_cons (ps_set (i := 2) sc_turned.nd rfl (Or.inl rfl) (pe_ix ix_tup (pv 0) pe_int (fun _ _ => rfl)))
    (pss_cons (ps_set (i := 3) sc_turned.nd rfl (Or.inl rfl) (pe_ix ix_tup (pv 0) pe_int (fun _ _ => rfl)))
    (pss_cons (ps_set (i := 4) sc_turned.nd rfl (Or.inl rfl) (pe_ix ix_tup (pv 0) pe_int (fun _ _ => rfl)))
    (pss_cons (ps_set (i := 5) sc_turned.nd rfl (Or.inl rfl) (pe_op op_add (pe_op op_add (pe_op op_mulB (pe_op op_mulB (pv 2) (pv 1)) (pv 1)) (pe_op op_mulB (pv 3) (pv 1))) (pe_ix ix_tup (pv 0) pe_int (fun _ _ => rfl))))
    (pss_cons (ps_if (pt_cmpR op_gt (pv 5) pe_int (nomark _)) (pss_one (ps_set (i := 4) sc_turned.nd rfl (Or.inl rfl) (pe_op op_sub pe_int (pv 4)))) pss_nil)
    (pss_one (ps_ret (pe_callD D_root_of hr rfl passes_cx (pa_cons (pv 5) (pa_cons (pe_op op_add (pe_op op_mulB (pe_op op_mulB pe_int (pv 2)) (pv 1)) (pv 3)) (pa_cons (pv 2) (pa_cons (pv 4) pa_nil)))))))))))), ?_⟩
  walk_at "wp"
  have cn : ∀ x : Int, (Bd n → Bd b → Fit x) → CMul x n ∨ Fit x ∧ Fit n := fun x fx => by
    rcases hn with hn | ⟨hn, hb⟩
    · exact .inl (.inr hn)
    · exact .inr ⟨fx hn hb, hn.fit⟩
  have cn1 := cn a (fun _ _ => b3.fit)
  have cn2 := cn (a * n) (fun z _ => fit_of (bd_mul b3.nat z.nat) (by decide))
  have cn3 := cn b (fun _ z => z.fit)
  have cn4 := cn (2 * a) (fun _ _ => fit_of (bd_mul (show (2 : Int).natAbs < 10 ^ 1 by decide) b3.nat) (by decide))
  have c2 : CMul 2 a ∨ Fit 2 ∧ Fit a := .inl (.inl ⟨by decide, by decide⟩)
  have tr := turned_right (n := n) r
  refine ⟨_, hT, _, rfl, _, hT, _, rfl, _, hT, _, rfl, _, rfl, cn1, cn2, _, rfl, cn3, _, hT, _, rfl, _, rfl, ?_⟩
  have sd := r.side
  have hsq : ¬ IsSq (heart (a * n * n + b * n + c) (2 * a * n + b) a) := by rw [tr.2.1]; exact r.ns
  have hnn : 0 ≤ heart (a * n * n + b * n + c) (2 * a * n + b) a := by rw [tr.2.1]; have := r.hp; omega
  have fin : ∀ s' : Int, s' = (if 0 < a * n * n + b * n + c then 1 - s0 else s0) → sp_root_of C_NoNumber [.int (a * n * n + b * n + c), .int (2 * a * n + b), .int a, .int s'] H Q E := fun s' es => by
    have sd' : s' = 0 ∨ s' = 1 := by rw [es]; split <;> omega
    refine ⟨_, _, _, _, rfl, b1, b2, b3, fun z => ?_, fun _ _ _ => ?_⟩
    · exfalso
      rcases z with z | z | z
      · exact tr.1 z
      · omega
      · exact hsq z
    · have rt := root_low tr.1 hnn hsq sd'
      obtain ⟨A', B', C', ea, eb, ec, fa, fb', fc, hA', hg'⟩ := by3_split (b := 2 * a * n + b) (c := a) tr.1
      rw [fa, fb', fc] at rt ⊢
      subst es
      exact q A' B' C' ⟨rt, _, by3_ne tr.1, ea, eb, ec⟩
  refine ite2 (fun z => ?_) (fun z => ?_)
  · have hz : 0 < a * n * n + b * n + c := by simpa using z
    exact ⟨_, rfl, _, rfl, c2, cn4, _, rfl, fin _ (by rw [if_pos hz])⟩
  · have hz : ¬ 0 < a * n * n + b * n + c := by simpa using z
    exact ⟨_, rfl, c2, cn4, _, rfl, fin _ (by rw [if_neg hz])⟩
theorem inl_map {x y : List Int} : x.map (Sum.inl : Int → Key) = y.map Sum.inl ↔ x = y :=
  List.map_inj_right (fun a b h => by cases h; rfl)
def kv (x : List Int) (k : Nat) : List (List Key × V) := (List.range k).map fun i => ((sq x i).map Sum.inl, V.int (i : Int))
theorem kv_none {x y : List Int} {k : Nat} (h : ∀ i, i < k → sq x i ≠ y) : valV (kv x k) (y.map Sum.inl) = none := by
  unfold valV
  rw [Option.map_eq_none_iff, List.find?_eq_none]
  intro z hz
  obtain ⟨i, hi, rfl⟩ := List.mem_map.mp hz
  rw [decide_eq_true_iff, inl_map]
  exact h i (List.mem_range.mp hi)
theorem kv_some {x y : List Int} {k : Nat} (h : ∃ i, i < k ∧ sq x i = y) : ∃ i, i < k ∧ sq x i = y ∧ valV (kv x k) (y.map Sum.inl) = some (.int (i : Int)) := by
  obtain ⟨i, hi, e⟩ := h
  unfold valV
  cases hf : (kv x k).find? (fun z => decide (z.1 = y.map Sum.inl)) with
  | none =>
    rw [List.find?_eq_none] at hf
    have := hf ((sq x i).map Sum.inl, V.int (i : Int)) (List.mem_map.mpr ⟨i, List.mem_range.mpr hi, rfl⟩)
    rw [e] at this
    simp at this
  | some z =>
    have hm := List.mem_of_find?_eq_some hf
    have hz := List.find?_some hf
    obtain ⟨i', hi', rfl⟩ := List.mem_map.mp hm
    exact ⟨i', List.mem_range.mp hi', inl_map.mp (of_decide_eq_true hz), rfl⟩
theorem kv_put {x : List Int} {k : Nat} (h : ∀ i, i < k → sq x i ≠ sq x k) : putK (kv x k) ((sq x k).map Sum.inl) (.int (k : Int)) = kv x (k + 1) := by
  unfold putK
  rw [valV_any, kv_none h]
  rw [if_neg (by decide)]
  unfold kv
  rw [List.range_succ, List.map_append]
  rfl
theorem none_of {H H1 : Hp} {e : Addr} (s : Same H H1) (h : H1 e = none) : H e = none := by
  cases z : H e with
  | none => rfl
  | some o => rw [s _ _ z] at h; cases h
theorem Sz.mono {D M M' : Int} {xs : List Int} (z : Sz D M xs) (h : M ≤ M') : Sz D M' xs := by
  unfold Sz at *
  split at z
  · obtain ⟨a, b, c⟩ := z
    exact ⟨by omega, by omega, by omega⟩
  · obtain ⟨a, b, c, d, e, f⟩ := z
    exact ⟨a, by omega, by omega, by omega, by omega, by omega⟩
  · exact z
theorem sq_size {x : List Int} {D0 M : Int} (hR : IsR x) (z : Sz D0 M x) (d0 : 0 ≤ D0) : ∀ k : Nat, Sz D0 (M + k * D0) (sq x k)
  | 0 => by rw [show M + ((0 : Nat) : Int) * D0 = M by simp]; exact z
  | k + 1 => by
    have ih := sq_size hR z d0 k
    have r := sq_R hR k
    obtain ⟨p, l, _⟩ := nxt_ok r
    have := l.size r.num.choose_spec.choose_spec.choose_spec.choose_spec p ih d0
    rw [show M + ((k + 1 : Nat) : Int) * D0 = M + k * D0 + D0 by rw [Int.natCast_add, Int.add_mul]; omega]
    exact this
theorem root_bd {x : List Int} {D0 M : Int} (hR : IsR x) (z : Sz D0 M x) (d0 : 0 ≤ D0) (h : D0 + 2 * M < 10 ^ 39) : ∀ y ∈ x, Bd y := by
  obtain ⟨a, b, c, s, rfl, r⟩ := hR
  obtain ⟨z1, z2, z3, z4, z5, z6⟩ := z
  have ha := r.pos
  have hs := r.side
  intro y hy
  simp only [List.mem_cons, List.not_mem_nil, or_false] at hy
  rcases hy with e | e | e | e <;> subst e <;> constructor <;> omega
theorem size_line : (10 : Nat) ^ 6 < sizeLine := by decide
theorem sc_rounds_of : FnScope ["root", "parts", "places", "place", "part", "begun"] ["root"] (defScope s_rounds_of) := ⟨rfl, rfl, rfl, by decide +kernel, rfl, by decide +kernel, by decide +kernel⟩
theorem d_rounds_of (F : In K mg "rounds_of" s_rounds_of ["root"]) (T : Txt K mg C_RowError C_NoNumber) (D_part_of : Def P w K mg base CX0 2 "part_of" ["number"] (sp_part K)) (D_turned : Def P w K mg base (CXE P w) 4 "turned" ["root", "n"] (sp_turned K)) : Def P w K mg base (CXE P w) 5 "rounds_of" ["root"] (sp_rounds K) := by
  refine F.okX sc_rounds_of (by walk_at "splen") (fun f cdv A outer s H vs Q E hr h => ?_)
  obtain ⟨p, x, N, D0, M, rfl, hp, hR, hZ, d0, hd, hM, hN, hrep, q⟩ := h
  refine ⟨_, (pss_cons (ps_set (i := 1) sc_rounds_of.nd rfl (Or.inl rfl) (pe_lstS pa_nil))
    (pss_cons (ps_set (i := 2) sc_rounds_of.nd rfl (Or.inl rfl) pe_dnewT)
    (pss_cons (ps_set (i := 3) sc_rounds_of.nd rfl (Or.inl rfl) (pv 0))
    (pss_cons (ps_while PassesOwn.leaving (pt_cmp (pc_dnotin (hu_of hr) (pv 3) (pv 2))) (pss_cons (ps_dput (hu_of hr) (pv 2) (pv 3) (pe_callB call_len_seq rfl T.n_len (by decide +kernel) (pa_cons (pv 1) pa_nil)) rfl)
    (pss_cons (ps_set (i := 4) sc_rounds_of.nd rfl (Or.inl rfl) (pe_callD D_part_of hr rfl pass0 (pa_cons (pv 3) pa_nil)))
    (pss_cons (ps_expr (pe_bm PySem.F.plainAttrs_list PySem.F.slot_list_append PySem.F.type_list_append mt_appendS (pv 1) (pa_cons (pv 4) pa_nil)))
    (pss_one (ps_set (i := 3) sc_rounds_of.nd rfl (Or.inl rfl) (pe_callD D_turned hr rfl passes_cx (pa_cons (pv 3) (pa_cons (pv 4) pa_nil)))))))))
    (pss_cons (ps_set (i := 5) sc_rounds_of.nd rfl (Or.inl rfl) (pe_dget (hu_of hr) (pv 2) (pv 3) (fun _ _ => rfl)))
    (pss_one (ps_ret (pe_tupS (pa_cons (pe_callTy call_tupleS rfl T.n_tuple (by decide +kernel) (pa_cons (pe_slice sl_listS (pv 1) po_none (po_some (pv 5))) pa_nil)) (pa_cons (pe_callTy call_tupleS rfl T.n_tuple (by decide +kernel) (pa_cons (pe_slice sl_listS (pv 1) (po_some (pv 5)) po_none) pa_nil)) pa_nil)))))))))), ?_⟩
  walk_at "wp"
  refine ⟨Nat.zero_le _, fun d H1 n1 s1 t1 e ne => ?_⟩
  have hz := size_line
  have ne0 : H e = none := none_of s1 ne
  have s2 : Same H (upd H1 e (.dT [])) := fun b o z => by rw [upd_ne (ne_of_none (s1 b o z) ne)]; exact s1 b o z
  have ed : d ≠ e := ne_of_none t1 ne
  refine ⟨fun m σ H2 => ∃ (k : Nat) (pl : Addr) (x4 : Option V), σ = [some (.ref p), some (.ref d), some (.ref e), some (.ref pl), x4, none] ∧ Same H H2 ∧ H2 d = some (.lst (((List.range k).map (pr x)).map V.int)) ∧ H2 e = some (.dT (kv x k)) ∧ H2 pl = some (.tup ((sq x k).map V.int)) ∧ (∀ a b, a < b → b < k → sq x a ≠ sq x b) ∧ k ≤ N ∧ m + k = N, ⟨N, 0, p, none, rfl, s2, by rw [upd_ne ed]; exact t1, upd_same, s2 _ _ hp, fun a b _ hb => by omega, Nat.zero_le _, rfl⟩, ?_⟩
  rintro m σ H2 ⟨k, pl, x4, rfl, s3, t3, t4, t5, hdis, hk, hm⟩
  walk_at "wp"
  have key : H2 pl = some (.tup (((sq x k).map (Sum.inl : Int → Key)).map kV)) := by
    rw [List.map_map]; exact t5
  by_cases hin : ∃ i, i < k ∧ sq x i = sq x k
  · obtain ⟨i, hi, ei, ev⟩ := kv_some hin
    have g := DGet.t t4 key
    rw [ev] at g
    have c1 : cutV (((List.range k).map (pr x)).map V.int) none (some (i : Int)) = ((List.range i).map (pr x)).map V.int := by
      unfold cutV
      rw [HT.sIx_nat, HT.sIx_none, List.drop_zero, Nat.sub_zero, ← List.map_take, ← List.map_take, List.take_range]
      congr 3
      rw [List.length_map, List.length_map, List.length_range]
      omega
    have c2 : cutV (((List.range k).map (pr x)).map V.int) (some (i : Int)) none = ((List.range (k - i)).map fun t => pr x (i + t)).map V.int := by
      unfold cutV
      rw [HT.sIx_nat, HT.sIx_none, List.length_map, List.length_map, List.length_range, Nat.min_eq_left (by omega), ← List.map_drop, List.take_of_length_le (by simp)]
      congr 1
      refine List.ext_getElem (by simp) fun t h1 h2 => ?_
      simp
    refine ⟨_, g, ifF (by simp) ⟨_, g, _, rfl, _, SqL.of t3, fun w1 H3 n3 s4 t6 => ⟨w1, rfl, _, .inl (SqL.of t6), fun w2 H4 s5 t7 => ?_⟩⟩⟩
    have s45 := s4.trans s5
    refine ⟨_, rfl, _, SqL.of (s45 _ _ t3), fun w3 H5 n5 s6 t8 => ⟨w3, rfl, _, .inl (SqL.of t8), fun w4 H6 s7 t9 => ⟨by decide, fun w5 H7 n7 s8 t10 => ?_⟩⟩⟩
    rw [c1] at t7
    rw [c2] at t9
    exact q i k ⟨hi, ei, hdis⟩ hk w5 w2 w4 H7 (s3.trans (s45.trans (s6.trans (s7.trans s8)))) ((s6.trans (s7.trans s8)).seqT t7) (s8.seqT t9) (SqT.of t10)
  · have hno : ∀ i, i < k → sq x i ≠ sq x k := fun i hi e => hin ⟨i, hi, e⟩
    have g := DGet.t t4 key
    rw [kv_none hno] at g
    refine ⟨_, g, ifT rfl ⟨_, fun _ _ h => h, _, .inl (SqL.of t3), ?_⟩⟩
    rw [List.length_map, List.length_map, List.length_range]
    have klen : (kv x k).length = k := by unfold kv; rw [List.length_map, List.length_range]
    have hkN : k + 1 ≤ N := by
      rcases Nat.lt_or_ge k N with z | z
      · omega
      · exfalso
        obtain ⟨i, j, h1, h2, h3⟩ := hrep
        rcases Nat.lt_or_ge j k with y | y
        · exact hdis i j h1 y h3
        · have : j = k := by omega
          subst this
          exact hno i h1 h3
    refine ⟨_, DPut.t t4 key (by omega), ?_⟩
    rw [kv_put hno]
    have pe : pl ≠ e := fun z => by rw [z, t4] at t5; cases t5
    have de : d ≠ e := ed
    have pd : pl ≠ d := fun z => by rw [z, t3] at t5; cases t5
    have u1 : (upd H2 e (.dT (kv x (k + 1)))) pl = some (.tup ((sq x k).map V.int)) := by rw [upd_ne pe]; exact t5
    have u2 : (upd H2 e (.dT (kv x (k + 1)))) d = some (.lst (((List.range k).map (pr x)).map V.int)) := by rw [upd_ne de]; exact t3
    have s4 : Same H (upd H2 e (.dT (kv x (k + 1)))) := s3.thenX ne0 upd_sameX
    have u3 : (upd H2 e (.dT (kv x (k + 1)))) e = some (.dT (kv x (k + 1))) := upd_same
    generalize upd H2 e (.dT (kv x (k + 1))) = H3 at *
    have r := sq_R hR k
    have sz := sq_size hR hZ d0 k
    have im : (k : Int) * D0 < 10 ^ 27 := Int.lt_of_le_of_lt (Int.mul_le_mul (show (k : Int) ≤ 10 ^ 6 by omega) (show D0 ≤ 10 ^ 20 by omega) d0 (by omega)) (by decide)
    have i0 : 0 ≤ (k : Int) * D0 := Int.mul_nonneg (by omega) d0
    obtain ⟨A, t, D, L, nr⟩ := r.num
    refine ⟨pl, sq x k, A, t, D, L, rfl, SqT.of u1, nr, root_bd r sz d0 (by omega), fun n hn => ?_⟩
    refine ⟨.inl ⟨rfl, _, SqL.of u2⟩, _, u2, by rw [List.length_map, List.length_map, List.length_range]; omega, fun H4 sx t6 => ?_⟩
    have u1' : H4 pl = some (.tup ((sq x k).map V.int)) := sx _ _ pd u1
    have s5 : Same H H4 := s4.thenX n1 sx
    have u3' : H4 e = some (.dT (kv x (k + 1))) := sx _ _ (Ne.symm ed) u3
    have r0 := r
    obtain ⟨a, b, c, s', es, rt⟩ := r
    rw [es] at u1' hn sz
    obtain ⟨o1, o2, o3, o4, o5⟩ := turn_ok rt hn sz
    obtain ⟨z1, z2, z3, z4, z5, z6⟩ := sz
    have ha := rt.pos
    have hpz := rt.hp
    refine ⟨pl, a, b, c, s', n, rfl, SqT.of u1', rt, .inr ⟨⟨by omega, by omega⟩, ⟨by omega, by omega⟩⟩, ⟨by omega, by omega⟩, ⟨by omega, by omega⟩, ⟨by omega, by omega⟩, fun P' B' A' ht w5 H5 n5 s6 t7 => ?_⟩
    obtain ⟨e1, e2⟩ := led_nxt (x := [a, b, c, s']) ⟨_, _, _, _, rfl, rt⟩ hn (.root ht)
    have e3 : nxt [a, b, c, s'] = sq x (k + 1) := by rw [← es]; rfl
    have e4 : pt [a, b, c, s'] = pr x k := by rw [← es]; rfl
    rw [e3] at e1
    rw [e4] at e2
    refine ⟨m - 1, by omega, k + 1, w5, ⟨_, rfl⟩, s5.trans s6, ?_, s6 _ _ u3', ?_, ?_, hkN, by omega⟩
    · rw [s6 _ _ t6, List.range_succ, List.map_append, List.map_append, e2]; rfl
    · rw [t7, ← e1]; rfl
    · intro a b hab hb
      rcases Nat.lt_or_ge b k with y | y
      · exact hdis a b hab y
      · have : b = k := by omega
        subst this
        exact hno a hab
theorem mat_le {w : List Int} (hw : Ups w) : (mat w).q ≤ (mat w).p ∧ (mat w).r ≤ (mat w).p ∧ (mat w).s ≤ (mat w).p := by
  obtain ⟨p1, q0, r0, s0, qs, more, det⟩ := mat_ok hw
  rcases more with ⟨e, m⟩ | ⟨a, b, c, d, _⟩
  · rw [m]; exact ⟨by decide, by decide, by decide⟩
  · have qp : (mat w).q ≤ (mat w).p := by
      rcases List.eq_nil_or_concat w with e | ⟨t, x, e⟩
      · subst e; decide
      · rw [List.concat_eq_append] at e
        subst e
        have ht : Ups t := fun y hy => hw y (List.mem_append_left _ hy)
        have hx := hw x (List.mem_append_right _ (List.mem_singleton.mpr rfl))
        rw [mat_snoc]
        have o := mat_ok ht
        have := Int.mul_le_mul_of_nonneg_right hx (show 0 ≤ (mat t).p by have := o.p1; omega)
        show (mat t).p ≤ x * (mat t).p + (mat t).q
        have := o.q0
        omega
    exact ⟨qp, a, by omega⟩
theorem mat_grow : ∀ {v t : List Int}, Ups (t ++ v) → (mat t).p ≤ (mat (t ++ v)).p
  | [], t, _ => by rw [List.append_nil]; exact Int.le_refl _
  | x :: v, t, h => by
    have e : t ++ x :: v = (t ++ [x]) ++ v := by simp
    rw [e] at h ⊢
    refine Int.le_trans ?_ (mat_grow (v := v) (t := t ++ [x]) h)
    have ht : Ups t := fun y hy => h y (List.mem_append_left _ (List.mem_append_left _ hy))
    have hx := h x (List.mem_append_left _ (List.mem_append_right _ (List.mem_singleton.mpr rfl)))
    rw [mat_snoc]
    have o := mat_ok ht
    have := Int.mul_le_mul_of_nonneg_right hx (show 0 ≤ (mat t).p by have := o.p1; omega)
    show (mat t).p ≤ x * (mat t).p + (mat t).q
    have := o.q0
    omega
theorem sc_root_of_round : FnScope ["again", "upper", "last_upper", "lower", "last_lower", "part", "whole"] ["again"] (defScope s_root_of_round) := ⟨rfl, rfl, rfl, by decide +kernel, rfl, by decide +kernel, by decide +kernel⟩
theorem d_root_of_round (F : In K mg "root_of_round" s_root_of_round ["again"]) (T : Txt K mg C_RowError C_NoNumber) (D_root_of : Def P w K mg base (CXE P w) 3 "root_of" ["a", "b", "c", "side"] (sp_root_of C_NoNumber)) : Def P w K mg base (CXE P w) 4 "root_of_round" ["again"] (sp_rofr K) := by
  refine F.okX sc_root_of_round (by walk_at "splen") (fun f cdv A outer s H vs Q E hr h => ?_)
  obtain ⟨p, w', rfl, hT, hne, hu, hb, q⟩ := h
  refine ⟨_, (pss_cons (ps_set (i := 1) sc_root_of_round.nd rfl (Or.inl rfl) pe_int)
    (pss_cons (ps_set (i := 2) sc_root_of_round.nd rfl (Or.inl rfl) pe_int)
    (pss_cons (ps_set (i := 3) sc_root_of_round.nd rfl (Or.inl rfl) pe_int)
    (pss_cons (ps_set (i := 4) sc_root_of_round.nd rfl (Or.inl rfl) pe_int)
    (pss_cons (ps_for PassesOwn.leaving rfl (pi_tup (pv 0)) (pg_name (i := 5) sc_root_of_round.nd rfl (Or.inl rfl)) (pss_cons (ps_set (i := 6) sc_root_of_round.nd rfl (Or.inl rfl) (pe_op op_add (pe_op op_mulB (pv 5) (pv 1)) (pv 2)))
    (pss_cons (ps_set (i := 2) sc_root_of_round.nd rfl (Or.inl rfl) (pv 1))
    (pss_cons (ps_set (i := 1) sc_root_of_round.nd rfl (Or.inl rfl) (pv 6))
    (pss_cons (ps_set (i := 6) sc_root_of_round.nd rfl (Or.inl rfl) (pe_op op_add (pe_op op_mulB (pv 5) (pv 3)) (pv 4)))
    (pss_cons (ps_set (i := 4) sc_root_of_round.nd rfl (Or.inl rfl) (pv 3))
    (pss_one (ps_set (i := 3) sc_root_of_round.nd rfl (Or.inl rfl) (pv 6)))))))))
    (pss_one (ps_ret (pe_callD D_root_of hr rfl passes_cx (pa_cons (pv 3) (pa_cons (pe_op op_sub (pv 4) (pv 1)) (pa_cons (pe_un un_neg (pv 2)) (pa_cons pe_int pa_nil)))))))))))), ?_⟩
  walk_at "wp"
  have all : ∀ i, 1 ≤ (mat (w'.take i)).p ∧ 0 ≤ (mat (w'.take i)).q ∧ 0 ≤ (mat (w'.take i)).r ∧ 0 ≤ (mat (w'.take i)).s ∧ (mat (w'.take i)).q ≤ (mat w').p ∧ (mat (w'.take i)).r ≤ (mat w').p ∧ (mat (w'.take i)).s ≤ (mat w').p ∧ (mat (w'.take i)).p ≤ (mat w').p := fun i => by
    have ut : Ups (w'.take i) := fun y hy => hu y (List.mem_of_mem_take hy)
    have o := mat_ok ut
    have l := mat_le ut
    have g := mat_grow (t := w'.take i) (v := w'.drop i) (by rw [List.take_append_drop]; exact hu)
    rw [List.take_append_drop] at g
    have := o.p1
    have := o.q0
    have := o.r0
    have := o.s0
    exact ⟨by omega, by omega, by omega, by omega, by omega, by omega, by omega, g⟩
  refine tFor_rd fun R hR => ?_
  walk_at "wp"
  refine ⟨⟨_, hT⟩, hR _ _ ?_⟩
  clear hR
  refine for_tup (xs := w'.map V.int) (fun i σ H3 => ∃ (x5 x6 : Option V), σ = [some (.ref p), some (.int (mat (w'.take i)).p), some (.int (mat (w'.take i)).q), some (.int (mat (w'.take i)).r), some (.int (mat (w'.take i)).s), x5, x6] ∧ H3 = H) ⟨none, none, rfl, rfl⟩ (fun i σ H3 hi z => ?_) (fun i x σ H3 hx z => ?_) (fun σ H3 z => ?_)
  · obtain ⟨_, _, _, rfl⟩ := z
    exact hT
  · obtain ⟨x5, x6, rfl, rfl⟩ := z
    rw [List.getElem?_map] at hx
    obtain ⟨k, hk, rfl⟩ := Option.map_eq_some_iff.mp hx
    have hki : i < w'.length := (List.getElem?_eq_some_iff.mp hk).1
    have ek : w'[i] = k := (List.getElem?_eq_some_iff.mp hk).2
    have et : w'.take (i + 1) = w'.take i ++ [k] := by rw [List.take_succ_eq_append_getElem hki, ek]
    have a0 := all i
    have a1 := all (i + 1)
    have k1 := hu k (List.mem_of_getElem? hk)
    rw [et, mat_snoc] at a1 ⊢
    have kb : k ≤ (mat w').p := by
      have e : (mst (mat (w'.take i)) k).p = k * (mat (w'.take i)).p + (mat (w'.take i)).q := rfl
      rw [e] at a1
      have := Int.mul_le_mul_of_nonneg_left a0.1 (show 0 ≤ k by omega)
      omega
    walk_at "wp"
    have ft : ∀ x : Int, 0 ≤ x → x ≤ (mat w').p → Fit x := fun x h1 h2 => ⟨by omega, by omega⟩
    refine ⟨.inr ⟨ft k (by omega) kb, ft _ (by omega) a0.2.2.2.2.2.2.2⟩, .inr ⟨ft k (by omega) kb, ft _ a0.2.2.1 a0.2.2.2.2.2.1⟩, ?_⟩
    exact ⟨rfl, rfl, rfl, rfl, _, rfl⟩
  · obtain ⟨x5, x6, rfl, rfl⟩ := z
    rw [List.length_map, List.take_length]
    walk_at "wp"
    have a0 := all w'.length
    rw [List.take_length] at a0
    have ok := rr_ok' hne hu
    have A1 := ok.a1
    have bd : ∀ x : Int, -(mat w').p ≤ x → x ≤ (mat w').p → Bd x := fun x h1 h2 => ⟨by omega, by omega⟩
    refine ⟨_, _, _, _, rfl, bd _ (by omega) (by omega), bd _ (by omega) (by omega), bd _ (by omega) (by omega), fun z => ?_, fun _ _ _ => q⟩
    exfalso
    rcases z with z | z | z
    · have : (rrE w').1 = (mat w').r := rfl
      omega
    · have h0 := ok.hh
      have e : heart (mat w').r ((mat w').s - (mat w').p) (-(mat w').q) = heart (rrE w').1 (rrE w').2.1 (rrE w').2.2 := rfl
      omega
    · exact ok.ns z
theorem putA_eq {a b c s n P B A : Int} (r : Root a b c s) (t : TurnOf a b c s 0 P B A) : putA n [a, b, c, s] = [P, B - 2 * P * n, P * n * n - B * n + A, if 0 < a * 0 * 0 + b * 0 + c then 1 - s else s] := by
  obtain ⟨P', B', A', t', e⟩ := nxt_turn r 0
  obtain ⟨e1, e2, e3⟩ := turn_one r t t'
  show putN n (nxtN a b c s 0) = _
  rw [e, e1, e2, e3]; rfl
theorem sc_put_ahead : FnScope ["part", "root", "about", "a", "b"] ["part", "root"] (defScope s_put_ahead) := ⟨rfl, rfl, rfl, by decide +kernel, rfl, by decide +kernel, by decide +kernel⟩
theorem d_put_ahead (F : In K mg "put_ahead" s_put_ahead ["part", "root"]) (T : Txt K mg C_RowError C_NoNumber) (D_turned : Def P w K mg base (CXE P w) 4 "turned" ["root", "n"] (sp_turned K)) : Def P w K mg base (CXE P w) 5 "put_ahead" ["part", "root"] (sp_put K) := by
  refine F.okX sc_put_ahead (by walk_at "splen") (fun f cdv A outer s H vs Q E hr h => ?_)
  obtain ⟨p, n, a, b, c, s0, rfl, hT, rt, ba, bb, bc, bn, q⟩ := h
  refine ⟨_, (pss_cons (ps_set (i := 2) sc_put_ahead.nd rfl (Or.inl rfl) (pe_callD D_turned hr rfl passes_cx (pa_cons (pv 1) (pa_cons pe_int pa_nil))))
    (pss_cons (ps_set (i := 3) sc_put_ahead.nd rfl (Or.inl rfl) (pe_ix ix_tup (pv 2) pe_int (fun _ _ => rfl)))
    (pss_cons (ps_set (i := 4) sc_put_ahead.nd rfl (Or.inl rfl) (pe_ix ix_tup (pv 2) pe_int (fun _ _ => rfl)))
    (pss_one (ps_ret (pe_tupS (pa_cons (pv 3) (pa_cons (pe_op op_sub (pv 4) (pe_op op_mulB (pe_op op_mulB pe_int (pv 3)) (pv 0))) (pa_cons (pe_op op_add (pe_op op_sub (pe_op op_mulB (pe_op op_mulB (pv 3) (pv 0)) (pv 0)) (pe_op op_mulB (pv 4) (pv 0))) (pe_ix ix_tup (pv 2) pe_int (fun _ _ => rfl))) (pa_cons (pe_ix ix_tup (pv 2) pe_int (fun _ _ => rfl)) pa_nil)))))))))), ?_⟩
  walk_at "wp"
  refine ⟨p, a, b, c, s0, 0, rfl, hT, rt, .inl ⟨by decide, by decide⟩, ?_, ?_, ba, fun P' B' A' ht w1 H1 n1 s1 t1 => ?_⟩
  · rw [show a * 0 * 0 + b * 0 + c = c by omega]; exact bc
  · rw [show 2 * a * 0 + b = b by omega]; exact bb
  have pe := putA_eq (n := n) rt ht
  obtain ⟨rt', g, hg, e1, e2, e3⟩ := ht
  have sm : ∀ {x y : Int}, x = y * g → y.natAbs ≤ x.natAbs := fun {x y} e => by
    rw [e, Int.natAbs_mul]
    exact Nat.le_mul_of_pos_right _ (by omega)
  have m1 := sm e1
  have m2 := sm e2
  rw [show a * 0 * 0 + b * 0 + c = c by omega] at m1
  rw [show 2 * a * 0 + b = b by omega] at m2
  have nP : P'.natAbs < 10 ^ 40 := by have := bc.nat; omega
  have nB : B'.natAbs < 10 ^ 40 := by have := bb.nat; omega
  have fP : Fit P' := fit_of nP (by decide)
  have fB : Fit B' := fit_of nB (by decide)
  have f2P : Fit (2 * P') := ⟨by omega, by omega⟩
  have fPn : Fit (P' * n) := fit_of (bd_mul nP bn.nat) (by decide)
  have fn := bn.fit
  have T1 := SqT.of (K := K) t1
  generalize (if 0 < a * 0 * 0 + b * 0 + c then 1 - s0 else s0) = sd at *
  refine ⟨w1, rfl, _, T1, _, rfl, w1, rfl, _, T1, _, rfl, _, rfl, .inl (.inl ⟨by decide, by decide⟩), .inr ⟨f2P, fn⟩, _, rfl, _, rfl, .inr ⟨fP, fn⟩, .inr ⟨fPn, fn⟩, _, rfl, .inr ⟨fB, fn⟩, w1, rfl, _, T1, _, rfl, _, rfl, w1, rfl, _, T1, _, rfl, by decide, fun w2 H2 n2 s2 t2 => q _ _ (s1.trans s2) ?_⟩
  rw [t2, pe]; rfl
theorem cut_tail {ns : List Int} (h : ns ≠ []) : cutV (ns.map V.int) (some 1) none = (ns.drop 1).map V.int := by
  have hpos := List.length_pos_iff.mpr h
  unfold cutV
  have := HT.sIx_nat (ns.map V.int).length 0 1
  rw [show ((1 : Nat) : Int) = 1 from rfl] at this
  rw [this, List.length_map, HT.sIx_none, show min 1 ns.length = 1 by omega, ← List.map_drop]
  exact List.take_of_length_le (by rw [List.length_map, List.length_drop]; omega)
theorem at_zero (y : Int) (ys : List Int) : atI ((y :: ys).map V.int) 0 = some (.int y) := atI_nat (xs := (y :: ys).map V.int) (j := 0) rfl
theorem rev_all {ns : List Int} {i : Nat} {x : V} (hx : (ns.map V.int).reverse[i]? = some x) : ∃ k : Nat, k + 1 + i = ns.length ∧ ∃ h : k < ns.length, x = .int (ns[k]'h) := by
  have hi : i < (ns.map V.int).length := by
    have := (List.getElem?_eq_some_iff.mp hx).1
    rw [List.length_reverse] at this
    exact this
  rw [rev_at hi, List.length_map, List.getElem?_map] at hx
  obtain ⟨y, hy, rfl⟩ := Option.map_eq_some_iff.mp hx
  rw [List.length_map] at hi
  refine ⟨ns.length - 1 - i, by omega, by omega, ?_⟩
  rw [List.getElem?_eq_getElem (by omega)] at hy
  rw [Option.some.inj hy]
theorem sc_root_by : FnScope ["ahead", "again", "root", "part"] ["ahead", "again"] (defScope s_root_by) := ⟨rfl, rfl, rfl, by decide +kernel, rfl, by decide +kernel, by decide +kernel⟩
theorem d_root_by (F : In K mg "root_by" s_root_by ["ahead", "again"]) (T : Txt K mg C_RowError C_NoNumber) (D_root_of_round : Def P w K mg base (CXE P w) 4 "root_of_round" ["again"] (sp_rofr K)) (D_put_ahead : Def P w K mg base (CXE P w) 5 "put_ahead" ["part", "root"] (sp_put K)) : Def P w K mg base (CXE P w) 6 "root_by" ["ahead", "again"] (sp_root_by K C_NoNumber) := by
  refine F.okX sc_root_by (by walk_at "splen") (fun f cdv A outer s H vs Q E hr h => ?_)
  obtain ⟨p, r, ahead, again, rfl, hp, hr', l1, l2, qb, qg⟩ := h
  refine ⟨_, (pss_cons (ps_if (PW.pt (pw_or (pt_cmpR op_eq (pe_callB call_len_seq rfl T.n_len (by decide +kernel) (pa_cons (pv 1) pa_nil)) pe_int (nomark _)) (pw_or1 (pt_cmpR op_lt (pe_ix ix_tup (pv 1) pe_int (fun _ _ => rfl)) pe_int (nomark _))))) (pss_one (ps_raise raises_cx rfl PySem.F.excBase_ValueError rfl T.m_NoNumber T.x_NoNumber (pa_cons pe_str pa_nil))) pss_nil)
    (pss_cons (ps_if (pt_val (pe_callB (call_anyL rfl) rfl T.n_any (by decide +kernel) (pa_cons (pe_comp rfl (Clos.none (by decide +kernel)) (by decide +kernel) rfl (by decide +kernel) rfl (by decide +kernel) (pi_tup (pe_slice sl_tupG (pe_op op_catTG (pv 0) (pv 1)) (po_some pe_int) po_none)) (fun _ _ _ _ => (pe_cmpR op_lt (pv 0) pe_int (nomark _)))) pa_nil))) (pss_one (ps_raise raises_cx rfl PySem.F.excBase_ValueError rfl T.m_NoNumber T.x_NoNumber (pa_cons pe_str pa_nil))) pss_nil)
    (pss_cons (ps_set (i := 2) sc_root_by.nd rfl (Or.inl rfl) (pe_callD D_root_of_round hr rfl passes_cx (pa_cons (pv 1) pa_nil)))
    (pss_cons (ps_for PassesOwn.leaving rfl (pi_revT rfl T.n_reversed (pa_cons (pv 0) pa_nil)) (pg_name (i := 3) sc_root_by.nd rfl (Or.inl rfl)) (pss_one (ps_set (i := 2) sc_root_by.nd rfl (Or.inl rfl) (pe_callD D_put_ahead hr rfl passes_cx (pa_cons (pv 3) (pa_cons (pv 2) pa_nil))))))
    (pss_one (ps_ret (pv 2))))))), ?_⟩
  walk_at "wp"
  have szl := size_line
  have one : 1 ≤ sizeLine := by decide
  have sz2 : 2 * 10 ^ 6 < sizeLine := by decide
  refine ⟨_, .inr hr', ?_⟩
  rw [List.length_map]
  refine ite2 (fun c => ?_) (fun c => ?_)
  · have e : again = [] := by
      have : (again.length : Int) = 0 := by simpa using c
      exact List.length_eq_zero_iff.mp (by omega)
    exact ⟨one, qb (.inl e) H (Same.refl H)⟩
  cases again with
  | nil => exact absurd rfl c
  | cons y ys =>
    refine ⟨_, hr', _, at_zero y ys, _, rfl, ?_⟩
    refine ite2 (fun c => ?_) (fun c => ?_)
    · exact ⟨one, qb (.inr (.inl ⟨y, rfl, by simpa using c⟩)) H (Same.refl H)⟩
    have y1 : ¬ y < 1 := by simpa using c
    refine ⟨_, hp, _, hr', by rw [List.length_map, List.length_map]; omega, fun p1 H1 s1 t1 => ⟨_, t1, fun p2 H2 s2 t2 => ?_⟩⟩
    rw [← List.map_append, cut_tail (by simp)] at t2
    refine ⟨⟨_, t2⟩, comp_mapT (fun v => .bl (match v with | .int i => decide (i < 1) | _ => false)) t2 (by rw [List.length_map, List.length_drop, List.length_append]; omega) ?_ ?_⟩
    · intro z hz H3 R s3 hR
      obtain ⟨i, _, rfl⟩ := List.mem_map.mp hz
      walk_at "wp"
      exact hR H3 (Same.refl _)
    intro d3 H3 n3 s3 t3
    refine ⟨d3, rfl, ((ahead ++ y :: ys).drop 1).map (fun i => decide (i < 1)), ?_, ?_⟩
    · rw [List.map_map] at t3
      rw [List.map_map]
      exact SqL.of t3
    have sH3 := s1.trans (s2.trans s3)
    refine ite2 (fun c => ?_) (fun c => ?_)
    · rw [List.any_map, List.any_eq_true] at c
      obtain ⟨x, hx, hx1⟩ := c
      exact ⟨one, qb (.inr (.inr ⟨x, hx, by simpa using hx1⟩)) _ sH3⟩
    have good : ¬ BadRound ahead (y :: ys) := by
      rintro (e | ⟨x, hx, hx1⟩ | ⟨x, hx, hx1⟩)
      · cases e
      · cases hx
        exact y1 hx1
      · refine c ?_
        rw [List.any_map, List.any_eq_true]
        exact ⟨x, hx, by simpa using hx1⟩
    obtain ⟨mb, nb, zb, q⟩ := qg good
    have up : ∀ x ∈ (ahead ++ y :: ys).drop 1, 1 ≤ x := fun x hx => by
      rcases Int.lt_or_le x 1 with z | z
      · exact absurd (.inr (.inr ⟨x, hx, z⟩)) good
      · exact z
    have upA : Ups (y :: ys) := fun x hx => by
      rcases List.mem_cons.mp hx with e | e
      · omega
      · refine up x ?_
        cases ahead with
        | nil => exact e
        | cons a0 as => exact List.mem_append_right _ (List.mem_cons_of_mem _ e)
    have upH : Ups (ahead.drop 1) := fun x hx => up x (by
      cases ahead with
      | nil => cases hx
      | cons a0 as => exact List.mem_append_left _ hx)
    refine ⟨r, _, rfl, sH3.seqT hr', by simp, upA, mb, fun w1 H4 n4 s4 t4 => ?_⟩
    refine tFor_rd fun R hR => ?_
    walk_at "wp"
    have hp4 := (sH3.trans s4).seqT hp
    refine ⟨_, hp4, hR _ _ ?_⟩
    clear hR
    refine for_revT (fun i σ H5 => ∃ (x3 : Option V) (ra : Addr), σ = [some (.ref p), some (.ref r), some (.ref ra), x3] ∧ Same H4 H5 ∧ i ≤ ahead.length ∧ H5 ra = some (.tup ((rootBy (ahead.drop (ahead.length - i)) (y :: ys)).map V.int))) ⟨none, w1, rfl, Same.refl H4, Nat.zero_le _, ?_⟩ (fun i σ H5 hi z => ?_) (fun i x σ H5 hx z => ?_) (fun σ H5 z => ?_)
    · rw [Nat.sub_zero, List.drop_length]
      exact t4
    · obtain ⟨_, _, _, s5, _⟩ := z
      exact s5.seqT hp4
    · obtain ⟨x3, ra, rfl, s5, hi, t5⟩ := z
      obtain ⟨k, hk, hkl, rfl⟩ := rev_all hx
      have ed : ahead.drop (ahead.length - (i + 1)) = ahead[k] :: ahead.drop (ahead.length - i) := by
        rw [show ahead.length - (i + 1) = k by omega, show ahead.length - i = k + 1 by omega, List.drop_eq_getElem_cons hkl]
      have ok := (rootBy_ok (ahead := ahead.drop (ahead.length - i)) (again := y :: ys) (by simp) upA (fun x hx => by
        rw [List.drop_drop] at hx
        have : ahead.drop (ahead.length - i + 1) = (ahead.drop 1).drop (ahead.length - i) := by rw [List.drop_drop, Nat.add_comm]
        rw [this] at hx
        exact upH x (List.mem_of_mem_drop hx))).1
      have zz := zb (ahead.length - i) (by omega)
      obtain ⟨a, b, c', s', er, rt⟩ := ok
      rw [er] at t5 zz
      walk_at "wp"
      refine ⟨ra, _, a, b, c', s', rfl, SqT.of t5, rt, zz a (by simp), zz b (by simp), zz c' (by simp), nb _ (List.getElem_mem hkl), fun w6 H6 s6 t6 => ⟨_, w6, ⟨rfl, rfl⟩, s5.trans s6, by omega, ?_⟩⟩
      rw [t6, ed]
      show some (HO.tup (List.map V.int (putA ahead[k] [a, b, c', s']))) = some (HO.tup (List.map V.int (putA ahead[k] (rootBy (ahead.drop (ahead.length - i)) (y :: ys)))))
      rw [er]
    · obtain ⟨x3, ra, rfl, s5, _, t5⟩ := z
      walk_at "wp"
      rw [List.length_map, Nat.sub_self, List.drop_zero] at t5
      exact q _ _ (sH3.trans (s4.trans s5)) t5
theorem sc_law_parts : FnScope ["_law_root", "_law_count", "_law_found", "_law_k"] ["_law_root", "_law_count"] (defScope s_law_parts) := ⟨rfl, rfl, rfl, by decide +kernel, rfl, by decide +kernel, by decide +kernel⟩
theorem d_law_parts (F : In K mg "_law_parts" s_law_parts ["_law_root", "_law_count"]) (T : Txt K mg C_RowError C_NoNumber) (D_turned : Def P w K mg base (CXE P w) 4 "turned" ["root", "n"] (sp_turned K)) (D_part_of : Def P w K mg base CX0 2 "part_of" ["number"] (sp_part K)) : Def P w K mg base CX0 5 "_law_parts" ["_law_root", "_law_count"] (sp_parts K) := by
  refine F.ok0 sc_law_parts (by walk_at "splen") (fun f cdv A outer s H vs Q E hr h => ?_)
  obtain ⟨p, x, k, D0, M, rfl, hT, hR, hZ, d0, hd, hM, k0, k1, q⟩ := h
  refine ⟨_, (pss_cons (ps_set (i := 2) sc_law_parts.nd rfl (Or.inl rfl) (pe_lstS pa_nil))
    (pss_cons (ps_for PassesOwn.never rfl (pi_range1 rfl T.n_range (pa_cons (pv 1) pa_nil)) (pg_name (i := 3) sc_law_parts.nd rfl (Or.inl rfl)) (pss_cons (ps_expr (pe_bm PySem.F.plainAttrs_list PySem.F.slot_list_append PySem.F.type_list_append mt_appendS (pv 2) (pa_cons (pe_callD D_part_of hr rfl pass0 (pa_cons (pv 0) pa_nil)) pa_nil)))
    (pss_one (ps_set (i := 0) sc_law_parts.nd rfl (Or.inl rfl) (pe_callD D_turned hr rfl passE (pa_cons (pv 0) (pa_cons (pe_ix ix_list (pv 2) (pe_un un_neg pe_int) (fun _ _ => rfl)) pa_nil)))))))
    (pss_one (ps_ret (pv 2))))), ?_⟩
  walk_at "wp"
  have szl := size_line
  refine ⟨Nat.zero_le _, fun d H1 n1 s1 t1 => ?_⟩
  refine tFor_rd fun R hR' => ?_
  walk_at "wp"
  refine ⟨by omega, by omega, hR' _ _ ?_⟩
  clear hR'
  refine for_range (n := k.toNat) (lo := 0) (fun i σ H2 => ∃ (x3 : Option V) (a : Addr), σ = [some (.ref a), some (.int k), some (.ref d), x3] ∧ Same H H2 ∧ H2 d = some (.lst (((List.range i).map (pr x)).map V.int)) ∧ SqT K H2 a ((sq x i).map V.int)) ⟨none, p, rfl, s1, t1, s1.seqT hT⟩ (fun i σ H2 hi z => ?_) (fun σ H2 z => ?_)
  · obtain ⟨x3, a, rfl, s2, t2, ha⟩ := z
    have r := sq_R hR i
    have sz := sq_size hR hZ d0 i
    have im : (i : Int) * D0 < 10 ^ 27 := Int.lt_of_le_of_lt (Int.mul_le_mul (show (i : Int) ≤ 10 ^ 6 by omega) (show D0 ≤ 10 ^ 20 by omega) d0 (by omega)) (by decide)
    have i0 : 0 ≤ (i : Int) * D0 := Int.mul_nonneg (by omega) d0
    obtain ⟨A, t, D, L, nr⟩ := r.num
    walk_at "wp"
    refine ⟨.inl ⟨rfl, _, SqL.of t2⟩, a, sq x i, A, t, D, L, rfl, ha, nr, root_bd r sz d0 (by omega), fun n hn => ⟨_, t2, by rw [List.length_map, List.length_map, List.length_range]; omega, fun H3 sx t3 => ⟨_, SqL.of t3, _, atI_last _ _, ?_⟩⟩⟩
    have ha3 := sx.seqT t2 ha
    have s3 := s2.thenX n1 sx
    obtain ⟨a', b, c, s', es, rt⟩ := r
    rw [es] at ha3 hn sz
    obtain ⟨o1, o2, o3, o4, o5⟩ := turn_ok rt hn sz
    obtain ⟨z1, z2, z3, z4, z5, z6⟩ := sz
    have hpos := rt.pos
    have hpz := rt.hp
    refine ⟨a, a', b, c, s', n, rfl, ha3, rt, .inr ⟨⟨by omega, by omega⟩, ⟨by omega, by omega⟩⟩, ⟨by omega, by omega⟩, ⟨by omega, by omega⟩, ⟨by omega, by omega⟩, fun P' B' A' ht w5 H5 n5 s6 t7 => ?_⟩
    obtain ⟨e1, e2⟩ := led_nxt (x := [a', b, c, s']) ⟨_, _, _, _, rfl, rt⟩ hn (.root ht)
    have e3 : nxt [a', b, c, s'] = sq x (i + 1) := by rw [← es]; rfl
    have e4 : pt [a', b, c, s'] = pr x i := by rw [← es]; rfl
    rw [e3] at e1
    rw [e4] at e2
    refine ⟨_, w5, ⟨rfl, rfl⟩, s3.trans s6, ?_, ?_⟩
    · rw [s6 _ _ t3, List.range_succ, List.map_append, List.map_append, e2]; rfl
    · rw [← e1]; exact SqT.of t7
  · obtain ⟨x3, a, rfl, s2, t2, ha⟩ := z
    walk_at "wp"
    exact q d H2 n1 s2 t2
theorem rep_at {α : Type} {xs : List α} {m k : Nat} (h : k < xs.length * m) : (List.replicate m xs).flatten[k]? = xs[k % xs.length]? := by
  induction m generalizing k with
  | zero => omega
  | succ m ih =>
    rw [List.replicate_succ, List.flatten_cons]
    rcases Nat.lt_or_ge k xs.length with z | z
    · rw [List.getElem?_append_left z, Nat.mod_eq_of_lt z]
    · rw [List.getElem?_append_right z, ih (by rw [Nat.mul_succ] at h; omega)]
      congr 1
      conv => rhs; rw [show k = (k - xs.length) + xs.length by omega]
      rw [Nat.add_mod_right]
theorem row_gen {x : List Int} {i j : Nat} (R : Round x i j) : ∀ (n m k : Nat), m + n = i → rowAt ((List.range n).map fun t => pr x (m + t)) ((List.range (j - i)).map fun k => pr x (i + k)) k = pr x (m + k) := by
  have lt := R.lt
  intro n
  induction n with
  | zero =>
    intro m k h
    have : m = i := by omega
    subst this
    show (((List.range (j - m)).map fun k => pr x (m + k))).getD (k % (((List.range (j - m)).map fun k => pr x (m + k))).length) 0 = _
    rw [List.length_map, List.length_range, List.getD_eq_getElem?_getD, List.getElem?_map, List.getElem?_range (Nat.mod_lt _ (by omega))]
    show pr x (m + k % (j - m)) = _
    unfold pr
    rw [← R.mod k]
  | succ n ih =>
    intro m k h
    rw [List.range_succ_eq_map, List.map_cons, List.map_map]
    cases k with
    | zero => rfl
    | succ k =>
      have := ih (m + 1) k (by omega)
      show rowAt ((List.range n).map ((fun t => pr x (m + t)) ∘ Nat.succ)) _ k = _
      rw [show m + (k + 1) = m + 1 + k by omega, ← this]
      congr 1
      refine List.map_congr_left fun t _ => ?_
      show pr x (m + (t + 1)) = pr x (m + 1 + t)
      congr 1
      omega
theorem pr_pos {x : List Int} (hR : IsR x) {k : Nat} (h : 1 ≤ k) : 1 ≤ pr x k := by
  obtain ⟨n, rfl⟩ : ∃ n, k = n + 1 := ⟨k - 1, by omega⟩
  exact pr_up hR n
theorem again_up {x : List Int} {i j : Nat} (hR : IsR x) (R : Round x i j) : Ups ((List.range (j - i)).map fun k => pr x (i + k)) := fun y hy => by
  have lt := R.lt
  obtain ⟨k, _, rfl⟩ := List.mem_map.mp hy
  by_cases z : 1 ≤ i + k
  · exact pr_pos hR z
  · have e : i + k = i := by omega
    show 1 ≤ pr x (i + k)
    rw [e]
    have : pr x i = pr x j := by unfold pr; rw [R.eq]
    rw [this]
    exact pr_pos hR (by omega)
theorem ahead_drop (x : List Int) (i k : Nat) : ((List.range i).map (pr x)).drop k = (List.range (i - k)).map fun t => pr x (k + t) := by
  refine List.ext_getElem (by simp) fun t h1 h2 => ?_
  simp
theorem again_ne {x : List Int} {i j : Nat} (R : Round x i j) : ((List.range (j - i)).map fun k => pr x (i + k)) ≠ [] := fun e => by
  have := congrArg List.length e
  rw [List.length_map, List.length_range] at this
  have := R.lt
  simp at *
  omega
theorem rb_eq {x : List Int} {i j k : Nat} (hR : IsR x) (R : Round x i j) (hk : k ≤ i) : rootBy (((List.range i).map (pr x)).drop k) ((List.range (j - i)).map fun k => pr x (i + k)) = sq x k := by
  have ok := rootBy_ok (ahead := ((List.range i).map (pr x)).drop k) (again_ne R) (again_up hR R) (fun y hy => by
    rw [ahead_drop] at hy
    rw [← List.map_drop] at hy
    obtain ⟨t, ht, rfl⟩ := List.mem_map.mp hy
    obtain ⟨n, rfl⟩ : ∃ n, t = n + 1 := by
      rw [List.mem_iff_getElem] at ht
      obtain ⟨m, hm, e⟩ := ht
      rw [List.getElem_drop, List.getElem_range] at e
      exact ⟨m, by omega⟩
    exact pr_pos hR (by omega))
  refine same_row ok.1 (sq_R hR k) fun t => ?_
  rw [ok.2 t, ahead_drop, row_gen R (i - k) k t (by omega)]
  unfold pr
  rw [sq_add]
theorem good_round {x : List Int} {i j : Nat} (hR : IsR x) (R : Round x i j) : ¬ BadRound ((List.range i).map (pr x)) ((List.range (j - i)).map fun k => pr x (i + k)) := by
  have au := again_up hR R
  rintro (e | ⟨y, hy, hy1⟩ | ⟨y, hy, hy1⟩)
  · exact again_ne R e
  · have := au y (List.mem_of_mem_head? hy)
    omega
  · have : 1 ≤ y := by
      by_cases z : i = 0
      · subst z
        exact au y (List.mem_of_mem_drop hy)
      · rw [List.drop_append_of_le_length (by rw [List.length_map, List.length_range]; omega), ahead_drop] at hy
        rcases List.mem_append.mp hy with h | h
        · obtain ⟨t, _, rfl⟩ := List.mem_map.mp h
          exact pr_pos hR (by omega)
        · exact au y h
    omega
theorem AInv.small {xs ys : List Int} {most n0 a b c d : Int} {up : Bool} {k : Nat} (I : AInv xs most n0 a b c d ys up) (hm : most ≤ 100) (hk : n0.natAbs ≤ k) : 0 ≤ b ∧ a.natAbs ≤ k * 300 + 300 ∧ c.natAbs ≤ k * 300 + 300 := by
  have d1 := I.d1
  have dm := I.dm
  have bm := I.bm
  have hb := I.b0
  have e1 := I.e1
  have e2 := I.e2
  have e3 := I.e3
  have e4 := I.e4
  have b0 : 0 ≤ b := by omega
  have m1 : (n0 * b).natAbs ≤ k * 100 := by rw [Int.natAbs_mul]; exact Nat.mul_le_mul hk (by omega)
  have m2 : (n0 * d).natAbs ≤ k * 100 := by rw [Int.natAbs_mul]; exact Nat.mul_le_mul hk (by omega)
  exact ⟨b0, by omega, by omega⟩
end
end Own



set_option Elab.async false
set_option linter.all false
set_option maxRecDepth 100000
set_option maxHeartbeats 4000000
namespace Own
open PySem L2 RM
local macro_rules | `(tactic| walk_at "wp") => `(tactic| simp only [cxOf_K, L2.start, List.map_cons, List.map_nil, List.reduceReplicate, Nat.reduceSub, Nat.reduceAdd, tSeq, tNext, tIfS, tRet, tRetN, tRaise, tDrop, tAsg, gName, gTup, gCons, gNil, tTest, tB, tOp, tUn, tVar, tC, rI0, rI, rU, rEq, rNe, scal, tAnd, tOr, tNot, tAndV, tOrV, tNotV, tIf, tChain, tCons, tNil, tCB, tTup, tLst, tTupS, tLstS, rCatTS, rCatTG, rLtT, rCatS, rInsertS, iRevT, iRevL, iRevA, rSlTG, rSlA, rIxA, rRepG, rEqLs, rExtendS, rRepS, rSlLS, rSlTS, rIn, iTup, iList, iRng1, iRng2, tComp, rIxT, rIxL, rAppendS, tCall, tCallS, tPar, tBreak, tDGet, tDIn, tDNotIn, sDPut, tDNewT, tBM, tBM0, tSl, tPart, tNoPart, CM, CD, CDN, rEqT, List.getElem?_cons_zero, List.getElem?_cons_succ, List.set_cons_zero, List.set_cons_succ, List.append_nil, List.nil_append, List.cons_append, Option.some.injEq, V.int.injEq, V.bl.injEq, V.ref.injEq, V.str.injEq, List.cons.injEq, exists_eq_left', exists_eq_left, exists_eq_right, exists_and_left, exists_and_right, exists_eq, and_true, true_and, exists_const, exists_eq_right_right, and_self, List.length_cons, List.length_nil, decide_true, decide_false, ↓reduceIte, Bool.false_eq_true, if_true, if_false, Bool.not_true, Bool.not_false])
local macro_rules | `(tactic| walk_at "splen") => `(tactic| (intro vs H Q E h; first | (obtain ⟨_, e, _⟩ := h; subst e; rfl) | (obtain ⟨_, _, e, _⟩ := h; subst e; rfl) | (obtain ⟨_, _, _, e, _⟩ := h; subst e; rfl) | (obtain ⟨_, _, _, _, e, _⟩ := h; subst e; rfl) | (obtain ⟨_, _, _, _, _, e, _⟩ := h; subst e; rfl) | (obtain ⟨_, _, _, _, _, _, e, _⟩ := h; subst e; rfl) | (obtain ⟨_, _, _, _, _, _, _, e, _⟩ := h; subst e; rfl) | (obtain ⟨_, _, _, _, _, _, _, _, e, _⟩ := h; subst e; rfl) | (obtain ⟨_, _, _, _, _, _, _, _, _, e, _⟩ := h; subst e; rfl) | (obtain ⟨_, _, _, _, _, _, _, _, _, _, e, _⟩ := h; subst e; rfl) | (obtain ⟨_, _, _, _, _, _, _, _, _, _, _, e, _⟩ := h; subst e; rfl) | (obtain ⟨_, _, _, _, _, _, _, _, _, _, _, _, e, _⟩ := h; subst e; rfl) | (obtain ⟨_, _, _, _, _, _, _, _, _, _, _, _, _, e, _⟩ := h; subst e; rfl)))
section
variable {P : Program} {w : World} {K : PySem.W.Frag} {mg : Str → Option Value} {base : Heap} {C_RowError C_NoNumber : Addr}
def sp_law (K : PySem.W.Frag) : Sp := fun vs H Q _ => ∃ (a : Addr) (ns : List Int), vs = [.ref a] ∧ SqL K H a (ns.map V.int) ∧ ns.length ≤ 63 ∧ ∀ H', Q (.bl true) H'
def sp_refused (K : PySem.W.Frag) : Sp := fun vs H Q _ => ∃ (p r : Addr) (ahead again : List Int), vs = [.ref p, .ref r] ∧ SqT K H p (ahead.map V.int) ∧ SqT K H r (again.map V.int) ∧ ahead.length < 10 ^ 6 ∧ again.length < 10 ^ 6 ∧ BadRound ahead again ∧ ∀ H', Same H H' → Q (.bl true) H'
structure Rw (ahead again : List Int) : Prop where
  la : ahead.length ≤ 5
  lg : 1 ≤ again.length
  lg6 : again.length ≤ 6
  ug : Ups again
  bg : ∀ y ∈ again, y ≤ 30
  ua : Ups (ahead.drop 1)
  ba : ∀ y ∈ ahead, -20 ≤ y ∧ y ≤ 30
def MidA (K : PySem.W.Frag) (H : Hp) (a : Addr) : St → Hp → Prop := fun σ H' => ∃ (pa pg : Addr) (ahead again : List Int), σ = [some (.ref a), some (.ref pa), some (.ref pg), none, none, none, none, none] ∧ Same H H' ∧ SqT K H' pa (ahead.map V.int) ∧ SqT K H' pg (again.map V.int) ∧ Rw ahead again
theorem comp_mapR {lo : Int} {n : Nat} {js : List Nat} {te : TE} {σ : St} {H : Hp} {Q : VK} (f : V → V) (hz : n ≤ sizeLine) (hf : ∀ i, i < n → ∀ H' (R : VK), Same H H' → (∀ H4, Same H' H4 → R (f (.int (lo + (i : Int)))) H4) → te (some (.int (lo + (i : Int))) :: js.map fun j => σ.getD j none) H' R) (hd : newQ H (.lst ((List.range n).map fun i : Nat => f (.int (lo + (i : Int))))) Q) : CompW (Itr lo n) js te σ H Q := by
  refine comp_map (xs := (List.range n).map fun i : Nat => V.int (lo + (i : Int))) f (by rw [List.length_map, List.length_range]; exact hz) (fun i H' hi _ => (show i < n by simpa using hi)) (fun H' _ => (show n ≤ ((List.range n).map fun i : Nat => V.int (lo + (i : Int))).length by simp)) (fun i H' x H2 hi _ y => ⟨y.1, ?_⟩) (fun x hx H' R sm h => ?_) ?_
  · rw [y.2, List.getElem?_map, List.getElem?_range (by simpa using hi)]; rfl
  · obtain ⟨i, hi, rfl⟩ := List.mem_map.mp hx
    exact hf i (List.mem_range.mp hi) H' R sm h
  · rw [List.map_map]
    exact hd
theorem mat_b : ∀ {w : List Int}, Ups w → (∀ y ∈ w, y ≤ 30) → (mat w).p ≤ 31 ^ w.length
  | [], _, _ => by decide
  | a :: t, hu, hb => by
    have ht : Ups t := fun x hx => hu x (List.mem_cons_of_mem _ hx)
    have ih := mat_b ht fun x hx => hb x (List.mem_cons_of_mem _ hx)
    have o := (mat_ok ht).p1
    have l := mat_le ht
    have ha := hb a (List.mem_cons_self ..)
    rw [mat_cons, List.length_cons, Int.pow_succ]
    have := Int.mul_le_mul_of_nonneg_right ha (show 0 ≤ (mat t).p by omega)
    show a * (mat t).p + (mat t).r ≤ _
    omega
theorem mat_b6 {w : List Int} (hu : Ups w) (hb : ∀ y ∈ w, y ≤ 30) (hl : w.length ≤ 6) : (mat w).p ≤ 10 ^ 9 := by
  refine Int.le_trans (mat_b hu hb) ?_
  have h := Nat.pow_le_pow_right (show 0 < 31 by decide) hl
  have e1 : (31 : Int) ^ w.length = ((31 ^ w.length : Nat) : Int) := by rw [Int.natCast_pow]; rfl
  have e2 : (31 : Nat) ^ 6 ≤ 10 ^ 9 := by decide
  rw [e1]
  omega
theorem part_le {x y g : Int} (hg : g ≠ 0) (e : x = y * g) : y.natAbs ≤ x.natAbs := by
  rw [e, Int.natAbs_mul]
  exact Nat.le_mul_of_pos_right _ (by omega)
def Hb (D : Int) (B : Nat) : List Int → Prop
  | [a, b, c, _] => heart a b c ≤ D ∧ a.natAbs ≤ B ∧ b.natAbs ≤ B ∧ c.natAbs ≤ B
  | _ => False
theorem put_b {y : List Int} {n D : Int} {B : Nat} (hy : IsR y) (hb : Hb D B y) (hn : n.natAbs ≤ 30) : Hb D (1000 * B) (putA n y) := by
  obtain ⟨a, b, c, s, rfl, r⟩ := hy
  obtain ⟨h0, h1, h2, h3⟩ := hb
  obtain ⟨P, B', A, t, e⟩ := nxt_turn r 0
  rw [putA_eq r t]
  obtain ⟨rt, g, hg, e1, e2, e3⟩ := t
  have hh := (turned_right (n := 0) r).2.1
  have m1 := part_le hg e1
  have m2 := part_le hg e2
  have m3 := part_le hg e3
  rw [show a * 0 * 0 + b * 0 + c = c by omega] at m1
  rw [show 2 * a * 0 + b = b by omega] at m2
  have pn : (P * n).natAbs ≤ B * 30 := by rw [Int.natAbs_mul]; exact Nat.mul_le_mul (by omega) hn
  have pnn : (P * n * n).natAbs ≤ B * 30 * 30 := by rw [Int.natAbs_mul]; exact Nat.mul_le_mul pn hn
  have bn : (B' * n).natAbs ≤ B * 30 := by rw [Int.natAbs_mul]; exact Nat.mul_le_mul (by omega) hn
  refine ⟨?_, by omega, ?_, by omega⟩
  · have e5 : heart P (B' - 2 * P * n) (P * n * n - B' * n + A) = heart P B' A := by unfold heart; grind
    rw [e5]
    rw [e1, e2] at hh
    have e6 : heart (P * g) (B' * g) a = heart (P * g) (B' * g) (A * g) := by rw [← e3]
    rw [e6, heart_mul] at hh
    have gg := Int.mul_self_nonneg_pos hg
    have := Int.mul_le_mul_of_nonneg_right (show 1 ≤ g * g by omega) (show 0 ≤ heart P B' A by have := rt.hp; omega)
    omega
  · have e7 : 2 * P * n = 2 * (P * n) := by grind
    rw [e7]
    omega
theorem rr_b {w : List Int} (hne : w ≠ []) (hu : Ups w) (hb : (mat w).p ≤ 10 ^ 9) : Hb (10 ^ 19) (10 ^ 9) (rr w) := by
  have ok := rr_ok' hne hu
  have a0 : (rrE w).1 ≠ 0 := by have := ok.a1; omega
  obtain ⟨A', B', C', ea, eb, ec, fa, fb, fc, hA', hg'⟩ := by3_split (b := (rrE w).2.1) (c := (rrE w).2.2) a0
  have gn := by3_ne (b := (rrE w).2.1) (c := (rrE w).2.2) a0
  have m1 := part_le gn ea
  have m2 := part_le gn eb
  have m3 := part_le gn ec
  have o := mat_ok hu
  have l := mat_le hu
  have p1 := o.p1
  have q0 := o.q0
  have r0 := o.r0
  have s0 := o.s0
  have v1 : (rrE w).1 = (mat w).r := rfl
  have v2 : (rrE w).2.1 = (mat w).s - (mat w).p := rfl
  have v3 : (rrE w).2.2 = -(mat w).q := rfl
  show Hb _ _ (nrm (rrE w).1 (rrE w).2.1 (rrE w).2.2 1)
  unfold nrm
  rw [fa, fb, fc]
  have hh : heart (rrE w).1 (rrE w).2.1 (rrE w).2.2 ≤ 10 ^ 19 := by
    rw [v1, v2, v3]
    unfold heart
    have e1 : ((mat w).s - (mat w).p) * ((mat w).s - (mat w).p) ≤ 10 ^ 9 * 10 ^ 9 := by
      have : (((mat w).s - (mat w).p) * ((mat w).s - (mat w).p)).natAbs ≤ 10 ^ 9 * 10 ^ 9 := by rw [Int.natAbs_mul]; exact Nat.mul_le_mul (by omega) (by omega)
      omega
    have e2 : (4 * (mat w).r * -(mat w).q).natAbs ≤ 4 * 10 ^ 9 * 10 ^ 9 := by rw [Int.natAbs_mul]; exact Nat.mul_le_mul (by omega) (by omega)
    omega
  have hs : heart A' B' C' ≤ heart (rrE w).1 (rrE w).2.1 (rrE w).2.2 := by
    have h0 := ok.hh
    clear v1 v2 v3 hh fa fb fc hg'
    generalize by3 (rrE w).1 (rrE w).2.1 (rrE w).2.2 = g at *
    have hx : heart (rrE w).1 (rrE w).2.1 (rrE w).2.2 = g * g * heart A' B' C' := by rw [ea, eb, ec, heart_mul]
    rw [hx] at h0 ⊢
    have gg := Int.mul_self_nonneg_pos gn
    rcases Int.lt_or_le (heart A' B' C') 0 with z | z
    · have := Int.mul_neg_of_pos_of_neg gg z
      omega
    · have := Int.mul_le_mul_of_nonneg_right (show 1 ≤ g * g by omega) z
      omega
  exact ⟨by omega, by omega, by omega, by omega⟩
theorem rb_b : ∀ {ahead again : List Int}, again ≠ [] → Ups again → (mat again).p ≤ 10 ^ 9 → Ups (ahead.drop 1) → (∀ y ∈ ahead, y.natAbs ≤ 30) → Hb (10 ^ 19) (1000 ^ ahead.length * 10 ^ 9) (rootBy ahead again)
  | [], again, h, hu, hb, _, _ => by
    show Hb _ (1000 ^ 0 * 10 ^ 9) (rr again)
    rw [Nat.pow_zero, Nat.one_mul]
    exact rr_b h hu hb
  | n :: r, again, h, hu, hb, ua, ba => by
    have ur : Ups (r.drop 1) := fun x hx => ua x (List.mem_of_mem_drop hx)
    have ih := rb_b h hu hb ur fun y hy => ba y (List.mem_cons_of_mem _ hy)
    have ok := (rootBy_ok (ahead := r) h hu ur).1
    have := put_b (n := n) ok ih (ba n (List.mem_cons_self ..))
    rw [List.length_cons, Nat.pow_succ, Nat.mul_comm (1000 ^ r.length) 1000, Nat.mul_assoc]
    exact this
theorem Hb.sz {D : Int} {B : Nat} {x : List Int} (h : Hb D B x) (hD : 0 ≤ D) : Sz D (B : Int) x := by
  unfold Hb at h
  split at h
  · obtain ⟨h0, h1, h2, h3⟩ := h
    exact ⟨h0, by omega, by omega, by omega, by omega, by omega⟩
  · exact h.elim
theorem rowAt_ahead : ∀ {ahead again : List Int} {k : Nat}, k < ahead.length → some (rowAt ahead again k) = ahead[k]?
  | [], _, _, h => by simp at h
  | n :: r, w, 0, _ => rfl
  | n :: r, w, k + 1, h => by
    rw [List.getElem?_cons_succ, ← rowAt_ahead (again := w) (by simpa using h)]; rfl
theorem rowAt_again : ∀ {ahead again : List Int} {k : Nat}, rowAt ahead again (ahead.length + k) = again.getD (k % again.length) 0
  | [], again, k => by
    rw [List.length_nil, Nat.zero_add]; rfl
  | n :: r, again, k => by
    rw [List.length_cons, show r.length + 1 + k = r.length + k + 1 by omega]
    exact rowAt_again (ahead := r)
theorem rowAt_whole {ahead again : List Int} (h : again ≠ []) : ahead ++ (List.replicate 3 again).flatten = (List.range (ahead.length + 3 * again.length)).map (rowAt ahead again) := by
  have l0 := List.length_pos_iff.mpr h
  refine List.ext_getElem? fun k => ?_
  rcases Nat.lt_or_ge k ahead.length with z | z
  · rw [List.getElem?_append_left z, List.getElem?_map, List.getElem?_range (by omega), ← rowAt_ahead (again := again) z]; rfl
  · rw [List.getElem?_append_right z]
    rcases Nat.lt_or_ge k (ahead.length + 3 * again.length) with y | y
    · have hm := Nat.mod_lt (k - ahead.length) l0
      rw [rep_at (by omega), List.getElem?_map, List.getElem?_range y]
      show _ = some (rowAt ahead again k)
      conv => rhs; rw [show k = ahead.length + (k - ahead.length) by omega]
      rw [rowAt_again, List.getD_eq_getElem?_getD, List.getElem?_eq_getElem hm]; rfl
    · rw [List.getElem?_eq_none, List.getElem?_eq_none]
      · rw [List.length_map, List.length_range]; omega
      · rw [List.length_flatten, List.map_replicate]
        simp
        omega
theorem rowAt_le {ahead again : List Int} (R : Rw ahead again) (k : Nat) : rowAt ahead again k ≤ 30 := by
  rcases Nat.lt_or_ge k ahead.length with z | z
  · have := rowAt_ahead (again := again) z
    exact (R.ba _ (List.mem_of_getElem? this.symm)).2
  · have l0 := R.lg
    rw [show k = ahead.length + (k - ahead.length) by omega, rowAt_again, List.getD_eq_getElem?_getD, List.getElem?_eq_getElem (Nat.mod_lt _ (by omega))]
    exact R.bg _ (List.getElem_mem _)
theorem sc_law_refused : FnScope ["_law_ahead", "_law_again", "_law_told", "e"] ["_law_ahead", "_law_again"] (defScope s_law_refused) := ⟨rfl, rfl, rfl, by decide +kernel, rfl, by decide +kernel, by decide +kernel⟩
theorem d_law_refused (F : In K mg "_law_refused" s_law_refused ["_law_ahead", "_law_again"]) (T : Txt K mg C_RowError C_NoNumber) (D_root_by : Def P w K mg base (CXE P w) 6 "root_by" ["ahead", "again"] (sp_root_by K C_NoNumber)) : Def P w K mg base CX0 7 "_law_refused" ["_law_ahead", "_law_again"] (sp_refused K) := by
  refine F.ok0 sc_law_refused (by walk_at "splen") (fun f cdv A outer s H vs Q E hr h => ?_)
  obtain ⟨p, r, ahead, again, rfl, hp, hr', l1, l2, hb, q⟩ := h
  refine ⟨_, (pss_cons (ps_set (i := 2) sc_law_refused.nd rfl (Or.inl rfl) pe_bl)
    (pss_cons (ps_tryAs (i := 3) (E := (fun σ cls _ H' => σ = [some (.ref p), some (.ref r), some (.bl false), none] ∧ cls = .ref C_NoNumber ∧ Same H H')) sc_law_refused.nd rfl rfl rfl T.m_RowError (fun pn xe hx => (pss_one (ps_expr (pe_callDS D_root_by hr rfl hx (pa_cons (pv 0) (pa_cons (pv 1) pa_nil)))))) (fun a => (pss_one (ps_set (i := 2) sc_law_refused.nd rfl (Or.inl rfl) (pe_and (pe_callB (call_isiE (K := K) rfl) rfl T.n_isinstance (by decide +kernel) (pa_cons (pv 3) (pa_cons (pe_glob (v := .ref _) rfl T.m_NoNumber rfl) pa_nil))) (pe_one (pe_callB (call_isiE (K := K) rfl) rfl T.n_isinstance (by decide +kernel) (pa_cons (pv 3) (pa_cons (pe_bltn (v := .ty "ValueError") (u := .type "ValueError") rfl T.n_ValueError (by decide +kernel) rfl) pa_nil)))))))))
    (pss_one (ps_ret (pv 2))))), ?_⟩
  walk_at "wp"
  refine ⟨?_, fun σ' cls H' e hE na => ?_⟩
  · walk_at "wp"
    exact ⟨p, r, ahead, again, rfl, hp, hr', l1, l2, fun _ H1 s1 => ⟨rfl, s1⟩, fun z => absurd hb z⟩
  · obtain ⟨rfl, rfl, hs⟩ := hE
    refine ⟨T.ex, ?_⟩
    have self : PySem.W.kitOne K (.ref C_NoNumber) (.ref C_NoNumber) = some true := if_pos (beq_self_eq_true _)
    have sm : Same H (upd H' e (excO e (.ref C_NoNumber))) := fun b o z => by
      rw [upd_ne (ne_of_none (hs b o z) na)]
      exact hs b o z
    walk_at "wp"
    exact ⟨e, _, _, ⟨rfl, rfl⟩, _, .own C_NoNumber, upd_same, self, e, _, _, ⟨rfl, rfl⟩, _, .ty _, upd_same, T.iv, q _ sm⟩
theorem sc_law : FnScope ["_law_script", "_law_ahead", "_law_again", "_law_root", "_law_whole", "_law_found", "_law_bad", "_law_other"] ["_law_script"] (defScope s_law) := ⟨rfl, rfl, rfl, by decide +kernel, rfl, by decide +kernel, by decide +kernel⟩
theorem ok_law {f : Addr} {fd : FuncData} (F : Fun K "law" "law" s_law f fd) (T : Txt K mg C_RowError C_NoNumber) (D_root_by : Def P w K mg base (CXE P w) 6 "root_by" ["ahead", "again"] (sp_root_by K C_NoNumber)) (D_rounds_of : Def P w K mg base (CXE P w) 5 "rounds_of" ["root"] (sp_rounds K)) (D_law_refused : Def P w K mg base CX0 7 "_law_refused" ["_law_ahead", "_law_again"] (sp_refused K)) (D_is_root : Def P w K mg base CX0 3 "is_root" ["thing"] (sp_isroot K)) (D_law_parts : Def P w K mg base CX0 5 "_law_parts" ["_law_root", "_law_count"] (sp_parts K)) (D_law_cell : Def P w K mg base CX0 1 "_law_cell" ["_law_script", "_law_k"] (sp_cell K)) (D_law_mix : Def P w K mg base CX0 1 "_law_mix" ["_law_cell_here", "_law_prime", "_law_many"] sp_mixE) : FnOk P w K mg base CX0 8 f fd ["_law_script"] (sp_law K) := by
  refine F.ok sc_law (by walk_at "splen") (fun cdv A outer s H vs Q E hr h => ?_)
  obtain ⟨a, ns, rfl, hS, h63, q⟩ := h
  refine ⟨_, (pss_cons (ps_set (i := 1) sc_law.nd rfl (Or.inl rfl) (pe_callTy call_tupleS rfl T.n_tuple (by decide +kernel) (pa_cons (pe_comp rfl (Clos.none (by decide +kernel)) (by decide +kernel) rfl (by decide +kernel) rfl (by decide +kernel) (pi_list (pe_slice sl_listS (pv 0) (po_some pe_int) (po_some (pe_op op_add pe_int (pe_op op_mod (pe_callD D_law_cell hr rfl pass0 (pa_cons (pv 0) (pa_cons pe_int pa_nil))) pe_int))))) (fun _ _ _ _ => (pe_op op_add pe_int (pe_callD D_law_mix hr rfl pass0 (pa_cons (pv 0) (pa_cons pe_int (pa_cons pe_int pa_nil))))))) pa_nil)))
    (pss_cons (ps_set (i := 2) sc_law.nd rfl (Or.inl rfl) (pe_callTy call_tupleS rfl T.n_tuple (by decide +kernel) (pa_cons (pe_comp rfl (Clos.one (y0 := "_law_script") (c0 := s.heap.objs.size + 1) (i0 := 0) (by with_unfolding_all rfl) (by with_unfolding_all rfl) (by decide +kernel) rfl (by with_unfolding_all rfl) (by decide +kernel)) (by decide +kernel) rfl (by decide +kernel) rfl (by decide +kernel) (pi_range1 rfl T.n_range (pa_cons (pe_op op_add pe_int (pe_op op_mod (pe_callD D_law_cell hr rfl pass0 (pa_cons (pv 0) (pa_cons pe_int pa_nil))) pe_int)) pa_nil)) (fun _ _ _ _ => (pe_op op_add pe_int (pe_callD D_law_mix hr rfl pass0 (pa_cons (pe_callD D_law_cell hr rfl pass0 (pa_cons (pv 1) (pa_cons (pe_op op_add pe_int (pv 0)) pa_nil))) (pa_cons pe_int (pa_cons pe_int pa_nil))))))) pa_nil)))
    (pss_cut (MidA K H a) (ps_if (pt_truth (pv 1) (fun _ => rfl)) (pss_one (ps_set (i := 1) sc_law.nd rfl (Or.inl rfl) (pe_op op_catTG (pe_tupS (pa_cons (pe_op op_sub (pe_ix ix_tup (pv 1) pe_int (fun _ _ => rfl)) pe_int) pa_nil)) (pe_slice sl_tupG (pv 1) (po_some pe_int) po_none)))) pss_nil)
    (pss_cons (ps_set (i := 3) sc_law.nd rfl (Or.inl rfl) (pe_callD D_root_by hr rfl passE (pa_cons (pv 1) (pa_cons (pv 2) pa_nil))))
    (pss_cons (ps_set (i := 4) sc_law.nd rfl (Or.inl rfl) (pe_op op_catS (pe_callTy call_listS rfl T.n_list (by decide +kernel) (pa_cons (pv 1) pa_nil)) (pe_op op_repG (pe_callTy call_listS rfl T.n_list (by decide +kernel) (pa_cons (pv 2) pa_nil)) pe_int)))
    (pss_cons (ps_if (PW.pt (pw_or (pt_cmpR op_notB (pe_callD D_is_root hr rfl pass0 (pa_cons (pv 3) pa_nil)) pe_bl (nomark _)) (pw_or1 (pt_cmpR (op_neLs (hu_of hr)) (pe_callD D_law_parts hr rfl pass0 (pa_cons (pv 3) (pa_cons (pe_callB call_len_seq rfl T.n_len (by decide +kernel) (pa_cons (pv 4) pa_nil)) pa_nil))) (pv 4) (nomark _))))) (pss_one (ps_ret pe_bl)) pss_nil)
    (pss_cons (ps_set (i := 5) sc_law.nd rfl (Or.inl rfl) (pe_callD D_rounds_of hr rfl passE (pa_cons (pv 3) pa_nil)))
    (pss_cons (ps_if (PW.pt (pw_or (pt_cmpR op_gt (pe_callB call_len_seq rfl T.n_len (by decide +kernel) (pa_cons (pe_ix ix_tup (pv 5) pe_int (fun _ _ => rfl)) pa_nil)) (pe_callB call_len_seq rfl T.n_len (by decide +kernel) (pa_cons (pv 1) pa_nil)) (nomark _)) (pw_or (pt_cmpR op_gt (pe_callB call_len_seq rfl T.n_len (by decide +kernel) (pa_cons (pe_ix ix_tup (pv 5) pe_int (fun _ _ => rfl)) pa_nil)) (pe_callB call_len_seq rfl T.n_len (by decide +kernel) (pa_cons (pv 2) pa_nil)) (nomark _)) (pw_or1 (pt_cmpR (op_neT (hu_of hr)) (pe_callD D_root_by hr rfl passE (pa_cons (pe_ix ix_tup (pv 5) pe_int (fun _ _ => rfl)) (pa_cons (pe_ix ix_tup (pv 5) pe_int (fun _ _ => rfl)) pa_nil))) (pv 3) (nomark _)))))) (pss_one (ps_ret pe_bl)) pss_nil)
    (pss_cons (ps_set (i := 6) sc_law.nd rfl (Or.inl rfl) (pe_op op_sub pe_int (pe_op op_mod (pe_callD D_law_cell hr rfl pass0 (pa_cons (pv 0) (pa_cons pe_int pa_nil))) pe_int)))
    (pss_cons (ps_for PassesOwn.never rfl (pi_list (pe_lstS (pa_cons (pe_tupS pa_nil) (pa_cons (pe_op op_catTG (pe_tupS (pa_cons (pv 6) pa_nil)) (pv 2)) (pa_cons (pe_op op_catTG (pv 2) (pe_tupS (pa_cons (pv 6) pa_nil))) pa_nil))))) (pg_name (i := 7) sc_law.nd rfl (Or.inl rfl)) (pss_one (ps_if (pt_not (pt_val (pe_callD D_law_refused hr rfl pass0 (pa_cons (pv 1) (pa_cons (pv 7) pa_nil))))) (pss_one (ps_ret pe_bl)) pss_nil)))
    (pss_one (ps_ret (pe_callD D_law_refused hr rfl pass0 (pa_cons (pe_op op_catTG (pe_op op_catTG (pe_tupS (pa_cons pe_int pa_nil)) (pe_slice sl_tupG (pv 1) (po_some pe_int) po_none)) (pe_tupS (pa_cons (pv 6) pa_nil))) (pa_cons (pv 2) pa_nil))))))))))))))), ?_⟩
  walk_at "wp"
  refine ⟨a, ns, 0, rfl, hS, by decide, _, rfl, by decide, _, hS, fun sl H1 n1 s1 t1 => ?_⟩
  have ecut : ∃ ms : List Int, cutV (ns.map V.int) (some 2) (some (2 + ns.getD (Int.toNat 0) 0 % 6)) = ms.map V.int ∧ ms.length ≤ 5 := by
    unfold cutV
    refine ⟨(ns.drop _).take _, by rw [List.map_take, List.map_drop], ?_⟩
    rw [List.length_take, List.length_drop]
    have h1 := HT.sIx_nat (ns.map V.int).length 0 2
    have h2 := HT.sIx_nat (ns.map V.int).length (ns.map V.int).length (2 + (ns.getD (Int.toNat 0) 0 % 6).toNat)
    rw [show ((2 : Nat) : Int) = 2 from rfl] at h1
    rw [show (((2 + (ns.getD (Int.toNat 0) 0 % 6).toNat : Nat)) : Int) = 2 + ns.getD (Int.toNat 0) 0 % 6 by omega] at h2
    rw [h1, h2]
    omega
  obtain ⟨ms, ems, hms⟩ := ecut
  rw [ems] at t1
  have szl := size_line
  refine ⟨sl, rfl, ⟨_, SqL.of t1⟩, comp_mapL (fun v => match v with | .int c => .int (1 + c * 48271 % 9973 % 30) | v => v) (SqL.of t1) (by rw [List.length_map]; omega) ?_ ?_⟩
  · intro y hy H2 R s2 hR
    obtain ⟨c, _, rfl⟩ := List.mem_map.mp hy
    walk_at "wp"
    exact ⟨_, _, _, rfl, by decide, by decide, _, rfl, hR H2 (Same.refl _)⟩
  intro d2 H2 n2 s2 t2
  rw [List.map_map] at t2
  refine ⟨d2, rfl, _, .inl (SqL.of t2), fun pa H3 s3 t3 => ?_⟩
  have s13 := s1.trans (s2.trans s3)
  have hS3 := s13.seq hS
  refine ⟨a, ns, 1, rfl, hS3, by decide, _, rfl, by decide, by omega, by omega, ?_⟩
  have g0 := Int.emod_nonneg (ns.getD (Int.toNat 1) 0) (show (6 : Int) ≠ 0 by decide)
  have g1 := Int.emod_lt_of_pos (ns.getD (Int.toNat 1) 0) (show (0 : Int) < 6 by decide)
  generalize ns.getD (Int.toNat 1) 0 % 6 = gg at *
  refine comp_mapR (fun v => match v with | .int k => .int (1 + ns.getD (8 + k).toNat 0 * 48271 % 9967 % 30) | v => v) (by omega) ?_ ?_
  · intro i hi H4 R s4 hR
    walk_at "wp"
    refine ⟨_, rfl, ?_⟩
    exact ⟨a, ns, _, rfl, s4.seq hS3, by omega, _, _, _, rfl, by decide, by decide, _, rfl, hR H4 (Same.refl _)⟩
  intro d4 H4 n4 s4 t4
  refine ⟨d4, rfl, _, .inl (SqL.of t4), fun pg H5 s5 t5 => ?_⟩
  have s15 := s13.trans (s4.trans s5)
  have e3 : ms.map ((fun v => match v with | .int c => .int (1 + c * 48271 % 9973 % 30) | v => v) ∘ V.int) = (ms.map fun c => 1 + c * 48271 % 9973 % 30).map V.int := by rw [List.map_map]; rfl
  have e5 : ((List.range (1 + gg).toNat).map fun i : Nat => (match V.int (0 + (i : Int)) with | .int k => V.int (1 + ns.getD (8 + k).toNat 0 * 48271 % 9967 % 30) | v => v)) = ((List.range (1 + gg).toNat).map fun i : Nat => 1 + ns.getD (8 + (0 + (i : Int))).toNat 0 * 48271 % 9967 % 30).map V.int := by rw [List.map_map]; rfl
  rw [e3] at t3
  rw [e5] at t5
  obtain ⟨A0, hA0⟩ : ∃ A0, ms.map (fun c => 1 + c * 48271 % 9973 % 30) = A0 := ⟨_, rfl⟩
  obtain ⟨G, hG⟩ : ∃ G, ((List.range (1 + gg).toNat).map fun i : Nat => 1 + ns.getD (8 + (0 + (i : Int))).toNat 0 * 48271 % 9967 % 30) = G := ⟨_, rfl⟩
  rw [hA0] at t3
  rw [hG] at t5
  have bA : ∀ y ∈ A0, 1 ≤ y ∧ y ≤ 30 := fun y hy => by
    rw [← hA0] at hy
    obtain ⟨c, _, rfl⟩ := List.mem_map.mp hy
    omega
  have bG : ∀ y ∈ G, 1 ≤ y ∧ y ≤ 30 := fun y hy => by
    rw [← hG] at hy
    obtain ⟨c, _, rfl⟩ := List.mem_map.mp hy
    omega
  have lA : A0.length ≤ 5 := by rw [← hA0, List.length_map]; exact hms
  have lG : 1 ≤ G.length ∧ G.length ≤ 6 := by rw [← hG, List.length_map, List.length_range]; omega
  have tA := (s4.trans s5).seqT t3
  refine ⟨?_, ?_⟩
  · walk_at "wp"
    refine ⟨!A0.isEmpty, .inr (.inl ⟨_, tA, by cases A0 <;> rfl⟩), ?_⟩
    cases A0 with
    | nil =>
      exact iteF ⟨pa, pg, [], G, rfl, s15, tA, t5, ⟨by simp, lG.1, lG.2, fun y hy => (bG y hy).1, fun y hy => (bG y hy).2, fun y hy => (by cases hy), fun y hy => (by cases hy)⟩⟩
    | cons y0 ys =>
      refine iteT ⟨_, tA, _, at_zero y0 ys, _, rfl, by decide, fun w1 H6 n6 s6 t6 => ⟨_, s6.seqT tA, fun w2 H7 s7 t7 => ⟨w1, rfl, _, SqT.of (s7 _ _ t6), _, t7, ?_, fun w3 H8 s8 t8 => ?_⟩⟩⟩
      · rw [cut_tail (by simp), List.length_map, List.length_drop]
        simp at lA ⊢
        omega
      · rw [cut_tail (by simp)] at t8
        have y0b := bA y0 (List.mem_cons_self ..)
        refine ⟨w3, pg, (y0 - 21) :: ys, G, rfl, s15.trans (s6.trans (s7.trans s8)), t8, (s6.trans (s7.trans s8)).seqT t5, ⟨by simpa using lA, lG.1, lG.2, fun y hy => (bG y hy).1, fun y hy => (bG y hy).2, fun y hy => (bA y (List.mem_cons_of_mem _ hy)).1, fun y hy => ?_⟩⟩
        rcases List.mem_cons.mp hy with e | e
        · omega
        · have := bA y (List.mem_cons_of_mem _ e)
          omega
  rintro σ6 H6 ⟨pa, pg, ahead, again, rfl, s6, ta, tg, RW⟩
  walk_at "wp"
  have gne : again ≠ [] := fun e => by have := RW.lg; rw [e] at this; simp at this
  have la := RW.la
  have lg := RW.lg
  have lg6 := RW.lg6
  have mb := mat_b6 RW.ug RW.bg RW.lg6
  have abs30 : ∀ y ∈ ahead, y.natAbs ≤ 30 := fun y hy => by have := RW.ba y hy; omega
  obtain ⟨hR, row⟩ := rootBy_ok gne RW.ug RW.ua
  have hb := rb_b gne RW.ug mb RW.ua abs30
  have pw5 : ∀ n, n ≤ 5 → 1000 ^ n * 10 ^ 9 ≤ 10 ^ 24 := fun n hn => by
    have := Nat.pow_le_pow_right (show 0 < 1000 by decide) hn
    omega
  have hz0 := hb.sz (by decide)
  have p5 := pw5 _ la
  have hz : Sz (10 ^ 19) (10 ^ 24) (rootBy ahead again) := Sz.mono hz0 (by omega)
  have nbad : ¬ BadRound ahead again := by
    rintro (e | ⟨y, hy, hy1⟩ | ⟨y, hy, hy1⟩)
    · exact gne e
    · have := RW.ug y (List.mem_of_mem_head? hy)
      omega
    · have : 1 ≤ y := by
        cases ahead with
        | nil => exact RW.ug y (List.mem_of_mem_drop hy)
        | cons a0 as =>
          rcases List.mem_append.mp hy with h | h
          · exact RW.ua y h
          · exact RW.ug y h
      omega
  have bdz : ∀ k, k ≤ ahead.length → ∀ z ∈ rootBy (ahead.drop k) again, Bd z := fun k hk z hz' => by
    have ud : Ups ((ahead.drop k).drop 1) := fun x hx => by
      rw [List.drop_drop] at hx
      have : ahead.drop (k + 1) = (ahead.drop 1).drop k := by rw [List.drop_drop, Nat.add_comm]
      rw [this] at hx
      exact RW.ua x (List.mem_of_mem_drop hx)
    have h1 := rb_b gne RW.ug mb ud (fun y hy => abs30 y (List.mem_of_mem_drop hy))
    have ok := (rootBy_ok gne RW.ug ud).1
    have := pw5 (ahead.drop k).length (by rw [List.length_drop]; omega)
    exact root_bd ok (h1.sz (by decide)) (by decide) (by omega) z hz'
  obtain ⟨x, hx⟩ : ∃ x, rootBy ahead again = x := ⟨_, rfl⟩
  have szl := size_line
  refine ⟨pa, pg, ahead, again, rfl, ta, tg, by omega, by omega, fun z => absurd z nbad, fun _ => ⟨by omega, fun n hn => by have := abs30 n hn; constructor <;> omega, bdz, fun pr' H7 s7 t7 => ?_⟩⟩
  rw [hx] at t7 hR row hz
  refine ⟨_, .inr (s7.seqT ta), fun w1 H8 n8 s8 t8 => ⟨_, .inr ((s7.trans s8).seqT tg), fun w2 H9 n9 s9 t9 => ⟨w2, rfl, _, t9, by decide, by decide, ?_, fun w3 H10 n10 s10 t10 => ⟨w1, rfl, w3, rfl, _, s10 _ _ (s9 _ _ t8), _, t10, ?_, fun w4 H11 n11 s11 t11 => ?_⟩⟩⟩⟩
  · rw [List.length_map, show Int.toNat 3 = 3 from rfl]
    omega
  · rw [show Int.toNat 3 = 3 from rfl, List.length_flatten, List.map_replicate, List.length_map, List.length_map]
    simp
    omega
  rw [show Int.toNat 3 = 3 from rfl, ← List.map_replicate, ← List.map_flatten, ← List.map_append, rowAt_whole gne] at t11
  have s711 := s8.trans (s9.trans (s10.trans s11))
  have t7' := s711 _ _ t7
  have exx : ∃ A B C S, x = [A, B, C, S] ∧ Root A B C S := hR
  obtain ⟨A, B, C, S, ex, rt⟩ := exx
  have bdx := root_bd hR hz (by decide) (by decide)
  have t7r : SqT K H11 pr' [.int A, .int B, .int C, .int S] := by
    have := SqT.of (K := K) t7'
    rw [ex] at this
    exact this
  refine ⟨_, true, rfl, .root t7r (bdx A (by rw [ex]; simp)) (bdx B (by rw [ex]; simp)) (bdx C (by rw [ex]; simp)) ⟨fun _ => rt, fun _ => rfl⟩, fun H12 s12 => ⟨true, rfl, ?_⟩⟩
  refine iteF ⟨w4, rfl, _, .inl (SqL.of (s12 _ _ t11)), ?_⟩
  rw [List.length_map, List.length_map, List.length_range]
  obtain ⟨N, hN⟩ : ∃ N, ahead.length + 3 * again.length = N := ⟨_, rfl⟩
  rw [hN] at t11 ⊢
  have erow : (List.range N).map (rowAt ahead again) = (List.range N).map (pr x) := List.map_congr_left fun k _ => (row k).symm
  rw [erow] at t11
  have t712 := s12 _ _ t7'
  refine ⟨pr', x, (N : Int), 10 ^ 19, 10 ^ 24, rfl, SqT.of t712, hR, hz, by decide, by decide, by decide, by omega, by omega, fun w5 H13 n13 s13' t13 => ?_⟩
  rw [Int.toNat_natCast] at t13
  refine ⟨w5, rfl, w4, rfl, _, SqL.of t13, _, SqL.of (s13' _ _ (s12 _ _ t11)), flat_int _, flat_int _, ?_⟩
  rw [eqL_int, decide_eq_true rfl]
  have t713 := s13' _ _ t712
  have hrep : sq x ahead.length = sq x (ahead.length + again.length) := by
    refine same_row (sq_R hR _) (sq_R hR _) fun k => ?_
    unfold pr
    rw [sq_add, sq_add]
    show pr x (ahead.length + k) = pr x (ahead.length + again.length + k)
    rw [row, row, rowAt_again, show ahead.length + again.length + k = ahead.length + (again.length + k) by omega, rowAt_again, Nat.add_mod_left]
  refine iteF ⟨pr', x, ahead.length + again.length, 10 ^ 19, 10 ^ 24, rfl, t713, hR, hz, by decide, by decide, by decide, by omega, ⟨_, _, by omega, Nat.le_refl _, hrep⟩, fun i j RD jN fo fa fg H14 s14 ua ug uo => ?_⟩
  have lt := RD.lt
  obtain ⟨bi, bj⟩ := RD.bound (by omega) hrep
  have s714 : Same H7 H14 := s711.trans (s12.trans (s13'.trans s14))
  refine ⟨fo, rfl, _, uo, _, rfl, fa, rfl, _, .inr ua, _, .inr ((s7.trans s714).seqT ta), ?_⟩
  simp only [List.length_map, List.length_range]
  refine ifF (by simp; omega) ⟨fo, rfl, _, uo, _, rfl, fg, rfl, _, .inr ug, _, .inr ((s7.trans s714).seqT tg), ?_⟩
  simp only [List.length_map, List.length_range]
  refine ifF (by simp; omega) ⟨fo, rfl, _, uo, _, rfl, fo, rfl, _, uo, _, rfl, ?_⟩
  have mb2 : (mat ((List.range (j - i)).map fun k => pr x (i + k))).p ≤ 10 ^ 9 := mat_b6 (again_up hR RD) (fun y hy => by
    obtain ⟨k, _, rfl⟩ := List.mem_map.mp hy
    rw [row]
    exact rowAt_le RW _) (by rw [List.length_map, List.length_range]; omega)
  refine ⟨fa, fg, _, _, rfl, ua, ug, by rw [List.length_map, List.length_range]; omega, by rw [List.length_map, List.length_range]; omega, fun z => absurd z (good_round hR RD), fun _ => ⟨by omega, fun n hn => ?_, fun k hk z hz' => ?_, fun w10 H15 s15' t15 => ?_⟩⟩
  · obtain ⟨k, hk, rfl⟩ := List.mem_map.mp hn
    have hk := List.mem_range.mp hk
    have e := rowAt_ahead (ahead := ahead) (again := again) (k := k) (by omega)
    rw [← row] at e
    have := RW.ba _ (List.mem_of_getElem? e.symm)
    constructor <;> omega
  · rw [List.length_map, List.length_range] at hk
    rw [rb_eq hR RD hk] at hz'
    have k5 : (k : Int) * 10 ^ 19 ≤ 5 * 10 ^ 19 := by omega
    exact root_bd (sq_R hR k) (sq_size hR hz (by decide) k) (by decide) (by omega) z hz'
  have er : rootBy ((List.range i).map (pr x)) ((List.range (j - i)).map fun k => pr x (i + k)) = x := rb_eq (k := 0) hR RD (Nat.zero_le _)
  rw [er] at t15
  refine ⟨w10, rfl, pr', rfl, _, SqT.of t15, _, SqT.of (s15' _ _ (s14 _ _ t713)), flat_int _, flat_int _, ?_⟩
  rw [eqL_int, decide_eq_true rfl]
  have s615 : Same H6 H15 := s7.trans (s714.trans s15')
  have sH15 := s6.trans s615
  refine iteF ⟨a, ns, 14, rfl, sH15.seq hS, by decide, _, rfl, by decide, ?_⟩
  have c0 := Int.emod_nonneg (ns.getD (Int.toNat 14) 0) (show (4 : Int) ≠ 0 by decide)
  obtain ⟨bad, hbad⟩ : ∃ bad, 0 - ns.getD (Int.toNat 14) 0 % 4 = bad := ⟨_, rfl⟩
  rw [hbad]
  have b1 : bad < 1 := by omega
  have ta15 := s615.seqT ta
  have tg15 := s615.seqT tg
  refine tFor_rd fun R hR' => ?_
  walk_at "wp"
  refine ⟨Nat.zero_le _, fun e0 H16 n16 s16 t16 => ⟨by decide, fun e1 H17 n17 s17 t17 => ⟨e1, rfl, _, SqT.of t17, _, (s16.trans s17).seqT tg15, ?_, fun o1 H18 s18 u1 => ⟨by decide, fun e2 H19 n19 s19 t19 => ⟨e2, rfl, _, (s16.trans (s17.trans (s18.trans s19))).seqT tg15, _, SqT.of t19, ?_, fun o2 H20 s20 u2 => ⟨by decide, fun l H21 n21 s21 t21 => ⟨l, rfl, ⟨_, SqL.of t21⟩, hR' _ _ ?_⟩⟩⟩⟩⟩⟩⟩
  · rw [List.length_map]
    show 1 + again.length ≤ sizeLine
    omega
  · rw [List.length_map]
    show again.length + 1 ≤ sizeLine
    omega
  clear hR'
  have s1521 : Same H15 H21 := s16.trans (s17.trans (s18.trans (s19.trans (s20.trans s21))))
  have v0 : SqT K H21 e0 (([] : List Int).map V.int) := (s17.trans (s18.trans (s19.trans (s20.trans s21)))).seqT (SqT.of t16)
  have v1 : SqT K H21 o1 ((bad :: again).map V.int) := (s19.trans (s20.trans s21)).seqT u1
  have v2 : SqT K H21 o2 ((again ++ [bad]).map V.int) := by
    rw [List.map_append]
    exact s21.seqT u2
  have inb : bad ∈ (ahead ++ (again ++ [bad])).drop 1 := by
    cases ahead with
    | nil =>
      cases again with
      | nil => exact absurd rfl gne
      | cons g0 gs => simp
    | cons a0 as => simp
  refine for_list (xs := [V.ref e0, V.ref o1, V.ref o2]) (fun i σ H' => ∃ x7, σ = [some (.ref a), some (.ref pa), some (.ref pg), some (.ref pr'), some (.ref w4), some (.ref fo), some (.int bad), x7] ∧ Same H21 H') ⟨none, rfl, Same.refl _⟩ (fun i σ H' hi z => ?_) (fun i y σ H' hy z => ?_) (fun σ H' z => ?_)
  · obtain ⟨_, _, s'⟩ := z
    exact s'.seq (SqL.of t21)
  · obtain ⟨x7, rfl, s'⟩ := z
    have hm := List.mem_of_getElem? hy
    have ho : ∃ (o : Addr) (L : List Int), y = .ref o ∧ SqT K H' o (L.map V.int) ∧ L.length < 10 ^ 6 ∧ BadRound ahead L := by
      simp only [List.mem_cons, List.not_mem_nil, or_false] at hm
      rcases hm with e | e | e
      · exact ⟨e0, [], e, s'.seqT v0, by decide, .inl rfl⟩
      · exact ⟨o1, bad :: again, e, s'.seqT v1, by rw [List.length_cons]; omega, .inr (.inl ⟨bad, rfl, b1⟩)⟩
      · exact ⟨o2, again ++ [bad], e, s'.seqT v2, by rw [List.length_append, List.length_singleton]; omega, .inr (.inr ⟨bad, inb, b1⟩)⟩
    obtain ⟨o, L, rfl, to, lL, hbr⟩ := ho
    walk_at "wp"
    exact ⟨pa, o, ahead, L, rfl, (s1521.trans s').seqT ta15, to, by omega, lL, hbr, fun H22 s22 => ⟨true, rfl, iteF (s'.trans s22)⟩⟩
  · obtain ⟨x7, rfl, s'⟩ := z
    walk_at "wp"
    have sF := s1521.trans s'
    refine ⟨by decide, fun f1 H22 n22 s22 t22 => ?_⟩
    have ta22 := (sF.trans s22).seqT ta15
    refine ⟨_, ta22, fun f2 H23 s23 t23 => ⟨f1, rfl, _, SqT.of (s23 _ _ t22), _, t23, ?_, fun f3 H24 s24 t24 => ⟨by decide, fun f4 H25 n25 s25 t25 => ⟨f4, rfl, _, s25.seqT t24, _, SqT.of t25, ?_, fun f5 H26 s26 t26 => ?_⟩⟩⟩⟩
    · have := cutV_length (ahead.map V.int) (some 1) none
      rw [List.length_map] at this
      show 1 + _ ≤ sizeLine
      omega
    · have := cutV_length (ahead.map V.int) (some 1) none
      rw [List.length_map] at this
      rw [List.length_append]
      show 1 + _ + 1 ≤ sizeLine
      omega
    · have ect : cutV (ahead.map V.int) (some 1) none = (ahead.drop 1).map V.int := by
        cases ahead with
        | nil => rfl
        | cons a0 as => exact cut_tail (by simp)
      rw [ect] at t26
      have t26' : SqT K H26 f5 ((3 :: (ahead.drop 1 ++ [bad])).map V.int) := by
        rw [List.map_cons, List.map_append]
        exact t26
      have sl : (ahead.drop 1).length ≤ 5 := by rw [List.length_drop]; omega
      refine ⟨f5, pg, _, again, rfl, t26', (sF.trans (s22.trans (s23.trans (s24.trans (s25.trans s26))))).seqT tg15, by rw [List.length_cons, List.length_append, List.length_singleton]; omega, by omega, .inr (.inr ⟨bad, ?_, b1⟩), fun H27 _ => q H27⟩
      show bad ∈ ahead.drop 1 ++ [bad] ++ again
      simp
end
/-! ### the program's top -/
theorem all_mk {l : PySem.W.OpenLaw} {w : World} {K : PySem.W.Frag} {h : Heap} {mg : Str → Option Value} {fa C_NoNumber C_RowError f0 f1 f2 f3 f4 f5 f6 f7 f8 f9 f10 f11 f12 f13 f14 f15 f16 f17 f18 : Addr} {od0 an0 od1 an1 od2 an2 od3 an3 od4 an4 od5 an5 od6 an6 od7 an7 od8 an8 od9 an9 od10 an10 od11 an11 od12 an12 od13 an13 od14 an14 od15 an15 od16 an16 od17 an17 od18 an18 : Option Addr} {sl0 sl1 sl2 sl3 sl4 sl5 sl6 sl7 sl8 sl9 sl10 sl11 sl12 sl13 sl14 sl15 sl16 sl17 sl18 : Array (Option Value)} {oc0 kV0 dc0 pm0 cd0 ct0 oc1 kV1 dc1 pm1 cd1 ct1 oc2 kV2 dc2 pm2 cd2 ct2 oc3 kV3 dc3 pm3 cd3 ct3 oc4 kV4 dc4 pm4 cd4 ct4 oc5 kV5 dc5 pm5 cd5 ct5 oc6 kV6 dc6 pm6 cd6 ct6 oc7 kV7 dc7 pm7 cd7 ct7 oc8 kV8 dc8 pm8 cd8 ct8 oc9 kV9 dc9 pm9 cd9 ct9 oc10 kV10 dc10 pm10 cd10 ct10 oc11 kV11 dc11 pm11 cd11 ct11 oc12 kV12 dc12 pm12 cd12 ct12 oc13 kV13 dc13 pm13 cd13 ct13 oc14 kV14 dc14 pm14 cd14 ct14 oc15 kV15 dc15 pm15 cd15 ct15 oc16 kV16 dc16 pm16 cd16 ct16 oc17 kV17 dc17 pm17 cd17 ct17 oc18 kV18 dc18 pm18 cd18 ct18 : Value} (X : K.In h) (G : h.Ns mainGlobals mg) (hfa : mg "law" = some (.ref fa))
    (a0 : PySem.W.nsIn K mainGlobals "is_whole" = some (some (.ref f0))) (l0 : K.lookup f0 = some ⟨oc0, od0, .func (PySem.W.fnOf "is_whole" "is_whole" (defArgs s_is_whole) (defBody s_is_whole) (defScope s_is_whole) .none kV0 dc0 pm0 an0 cd0 ct0), sl0⟩) (c0 : PySem.W.codeIn K cd0 "is_whole" = true) (k0 : PySem.W.keepIn K (.ref f0) = true)
    (a1 : PySem.W.nsIn K mainGlobals "common_divisor" = some (some (.ref f1))) (l1 : K.lookup f1 = some ⟨oc1, od1, .func (PySem.W.fnOf "common_divisor" "common_divisor" (defArgs s_common_divisor) (defBody s_common_divisor) (defScope s_common_divisor) .none kV1 dc1 pm1 an1 cd1 ct1), sl1⟩) (c1 : PySem.W.codeIn K cd1 "common_divisor" = true) (k1 : PySem.W.keepIn K (.ref f1) = true)
    (a2 : PySem.W.nsIn K mainGlobals "least_square" = some (some (.ref f2))) (l2 : K.lookup f2 = some ⟨oc2, od2, .func (PySem.W.fnOf "least_square" "least_square" (defArgs s_least_square) (defBody s_least_square) (defScope s_least_square) .none kV2 dc2 pm2 an2 cd2 ct2), sl2⟩) (c2 : PySem.W.codeIn K cd2 "least_square" = true) (k2 : PySem.W.keepIn K (.ref f2) = true)
    (a3 : PySem.W.nsIn K mainGlobals "heart_of" = some (some (.ref f3))) (l3 : K.lookup f3 = some ⟨oc3, od3, .func (PySem.W.fnOf "heart_of" "heart_of" (defArgs s_heart_of) (defBody s_heart_of) (defScope s_heart_of) .none kV3 dc3 pm3 an3 cd3 ct3), sl3⟩) (c3 : PySem.W.codeIn K cd3 "heart_of" = true) (k3 : PySem.W.keepIn K (.ref f3) = true)
    (a4 : PySem.W.nsIn K mainGlobals "is_square" = some (some (.ref f4))) (l4 : K.lookup f4 = some ⟨oc4, od4, .func (PySem.W.fnOf "is_square" "is_square" (defArgs s_is_square) (defBody s_is_square) (defScope s_is_square) .none kV4 dc4 pm4 an4 cd4 ct4), sl4⟩) (c4 : PySem.W.codeIn K cd4 "is_square" = true) (k4 : PySem.W.keepIn K (.ref f4) = true)
    (a5 : PySem.W.nsIn K mainGlobals "divisor_of_all" = some (some (.ref f5))) (l5 : K.lookup f5 = some ⟨oc5, od5, .func (PySem.W.fnOf "divisor_of_all" "divisor_of_all" (defArgs s_divisor_of_all) (defBody s_divisor_of_all) (defScope s_divisor_of_all) .none kV5 dc5 pm5 an5 cd5 ct5), sl5⟩) (c5 : PySem.W.codeIn K cd5 "divisor_of_all" = true) (k5 : PySem.W.keepIn K (.ref f5) = true)
    (a6 : PySem.W.nsIn K mainGlobals "is_root" = some (some (.ref f6))) (l6 : K.lookup f6 = some ⟨oc6, od6, .func (PySem.W.fnOf "is_root" "is_root" (defArgs s_is_root) (defBody s_is_root) (defScope s_is_root) .none kV6 dc6 pm6 an6 cd6 ct6), sl6⟩) (c6 : PySem.W.codeIn K cd6 "is_root" = true) (k6 : PySem.W.keepIn K (.ref f6) = true)
    (a7 : PySem.W.nsIn K mainGlobals "root_of" = some (some (.ref f7))) (l7 : K.lookup f7 = some ⟨oc7, od7, .func (PySem.W.fnOf "root_of" "root_of" (defArgs s_root_of) (defBody s_root_of) (defScope s_root_of) .none kV7 dc7 pm7 an7 cd7 ct7), sl7⟩) (c7 : PySem.W.codeIn K cd7 "root_of" = true) (k7 : PySem.W.keepIn K (.ref f7) = true)
    (a8 : PySem.W.nsIn K mainGlobals "part_of" = some (some (.ref f8))) (l8 : K.lookup f8 = some ⟨oc8, od8, .func (PySem.W.fnOf "part_of" "part_of" (defArgs s_part_of) (defBody s_part_of) (defScope s_part_of) .none kV8 dc8 pm8 an8 cd8 ct8), sl8⟩) (c8 : PySem.W.codeIn K cd8 "part_of" = true) (k8 : PySem.W.keepIn K (.ref f8) = true)
    (a9 : PySem.W.nsIn K mainGlobals "turned" = some (some (.ref f9))) (l9 : K.lookup f9 = some ⟨oc9, od9, .func (PySem.W.fnOf "turned" "turned" (defArgs s_turned) (defBody s_turned) (defScope s_turned) .none kV9 dc9 pm9 an9 cd9 ct9), sl9⟩) (c9 : PySem.W.codeIn K cd9 "turned" = true) (k9 : PySem.W.keepIn K (.ref f9) = true)
    (a10 : PySem.W.nsIn K mainGlobals "rounds_of" = some (some (.ref f10))) (l10 : K.lookup f10 = some ⟨oc10, od10, .func (PySem.W.fnOf "rounds_of" "rounds_of" (defArgs s_rounds_of) (defBody s_rounds_of) (defScope s_rounds_of) .none kV10 dc10 pm10 an10 cd10 ct10), sl10⟩) (c10 : PySem.W.codeIn K cd10 "rounds_of" = true) (k10 : PySem.W.keepIn K (.ref f10) = true)
    (a11 : PySem.W.nsIn K mainGlobals "root_of_round" = some (some (.ref f11))) (l11 : K.lookup f11 = some ⟨oc11, od11, .func (PySem.W.fnOf "root_of_round" "root_of_round" (defArgs s_root_of_round) (defBody s_root_of_round) (defScope s_root_of_round) .none kV11 dc11 pm11 an11 cd11 ct11), sl11⟩) (c11 : PySem.W.codeIn K cd11 "root_of_round" = true) (k11 : PySem.W.keepIn K (.ref f11) = true)
    (a12 : PySem.W.nsIn K mainGlobals "put_ahead" = some (some (.ref f12))) (l12 : K.lookup f12 = some ⟨oc12, od12, .func (PySem.W.fnOf "put_ahead" "put_ahead" (defArgs s_put_ahead) (defBody s_put_ahead) (defScope s_put_ahead) .none kV12 dc12 pm12 an12 cd12 ct12), sl12⟩) (c12 : PySem.W.codeIn K cd12 "put_ahead" = true) (k12 : PySem.W.keepIn K (.ref f12) = true)
    (a13 : PySem.W.nsIn K mainGlobals "root_by" = some (some (.ref f13))) (l13 : K.lookup f13 = some ⟨oc13, od13, .func (PySem.W.fnOf "root_by" "root_by" (defArgs s_root_by) (defBody s_root_by) (defScope s_root_by) .none kV13 dc13 pm13 an13 cd13 ct13), sl13⟩) (c13 : PySem.W.codeIn K cd13 "root_by" = true) (k13 : PySem.W.keepIn K (.ref f13) = true)
    (a14 : PySem.W.nsIn K mainGlobals "_law_cell" = some (some (.ref f14))) (l14 : K.lookup f14 = some ⟨oc14, od14, .func (PySem.W.fnOf "_law_cell" "_law_cell" (defArgs s_law_cell) (defBody s_law_cell) (defScope s_law_cell) .none kV14 dc14 pm14 an14 cd14 ct14), sl14⟩) (c14 : PySem.W.codeIn K cd14 "_law_cell" = true) (k14 : PySem.W.keepIn K (.ref f14) = true)
    (a15 : PySem.W.nsIn K mainGlobals "_law_mix" = some (some (.ref f15))) (l15 : K.lookup f15 = some ⟨oc15, od15, .func (PySem.W.fnOf "_law_mix" "_law_mix" (defArgs s_law_mix) (defBody s_law_mix) (defScope s_law_mix) .none kV15 dc15 pm15 an15 cd15 ct15), sl15⟩) (c15 : PySem.W.codeIn K cd15 "_law_mix" = true) (k15 : PySem.W.keepIn K (.ref f15) = true)
    (a16 : PySem.W.nsIn K mainGlobals "_law_refused" = some (some (.ref f16))) (l16 : K.lookup f16 = some ⟨oc16, od16, .func (PySem.W.fnOf "_law_refused" "_law_refused" (defArgs s_law_refused) (defBody s_law_refused) (defScope s_law_refused) .none kV16 dc16 pm16 an16 cd16 ct16), sl16⟩) (c16 : PySem.W.codeIn K cd16 "_law_refused" = true) (k16 : PySem.W.keepIn K (.ref f16) = true)
    (a17 : PySem.W.nsIn K mainGlobals "_law_parts" = some (some (.ref f17))) (l17 : K.lookup f17 = some ⟨oc17, od17, .func (PySem.W.fnOf "_law_parts" "_law_parts" (defArgs s_law_parts) (defBody s_law_parts) (defScope s_law_parts) .none kV17 dc17 pm17 an17 cd17 ct17), sl17⟩) (c17 : PySem.W.codeIn K cd17 "_law_parts" = true) (k17 : PySem.W.keepIn K (.ref f17) = true)
    (a18 : PySem.W.nsIn K mainGlobals "law" = some (some (.ref f18))) (l18 : K.lookup f18 = some ⟨oc18, od18, .func (PySem.W.fnOf "law" "law" (defArgs s_law) (defBody s_law) (defScope s_law) .none kV18 dc18 pm18 an18 cd18 ct18), sl18⟩) (c18 : PySem.W.codeIn K cd18 "law" = true) (k18 : PySem.W.keepIn K (.ref f18) = true)
    (z_isinstance : PySem.W.nsIn K mainGlobals "isinstance" = some none)
    (z_int : PySem.W.nsIn K mainGlobals "int" = some none)
    (z_bool : PySem.W.nsIn K mainGlobals "bool" = some none)
    (z_abs : PySem.W.nsIn K mainGlobals "abs" = some none)
    (z_all : PySem.W.nsIn K mainGlobals "all" = some none)
    (z_tuple : PySem.W.nsIn K mainGlobals "tuple" = some none)
    (z_len : PySem.W.nsIn K mainGlobals "len" = some none)
    (z_any : PySem.W.nsIn K mainGlobals "any" = some none)
    (z_reversed : PySem.W.nsIn K mainGlobals "reversed" = some none)
    (z_ValueError : PySem.W.nsIn K mainGlobals "ValueError" = some none)
    (z_range : PySem.W.nsIn K mainGlobals "range" = some none)
    (z_list : PySem.W.nsIn K mainGlobals "list" = some none)
    (e_RowError : PySem.W.nsIn K mainGlobals "RowError" = some (some (.ref C_RowError))) (x_RowError : PySem.W.excIn K C_RowError [.type "ValueError", .type "Exception", .type "BaseException", .type "object"] "ValueError.__new__" = true)
    (e_NoNumber : PySem.W.nsIn K mainGlobals "NoNumber" = some (some (.ref C_NoNumber))) (x_NoNumber : PySem.W.excIn K C_NoNumber [.type "ValueError", .type "Exception", .type "BaseException", .type "object"] "ValueError.__new__" = true)
    (xe : PySem.W.exmOne K (.ref C_NoNumber) (.ref C_RowError) = some true) (xv : PySem.W.kitOne K (.ref C_NoNumber) (.type "ValueError") = some true) :
    ∃ fd : FuncData, (∀ (s : Shared) (v : Value), BindsTo s fd ⟨[v], []⟩ [("_law_script", v)]) ∧ ∀ base : Heap, K.In base → base.Ns mainGlobals mg → FnOk l.prog w K mg base CX0 8 fa fd ["_law_script"] (sp_law K) := by
  have e := hfa.symm.trans (PySem.W.mg_of X G a18)
  cases e
  have T : Txt K mg C_RowError C_NoNumber := ⟨PySem.W.mg_none_of X G z_isinstance, PySem.W.mg_none_of X G z_int, PySem.W.mg_none_of X G z_bool, PySem.W.mg_none_of X G z_abs, PySem.W.mg_none_of X G z_all, PySem.W.mg_none_of X G z_tuple, PySem.W.mg_none_of X G z_len, PySem.W.mg_none_of X G z_any, PySem.W.mg_none_of X G z_reversed, PySem.W.mg_none_of X G z_ValueError, PySem.W.mg_none_of X G z_range, PySem.W.mg_none_of X G z_list, PySem.W.mg_of X G e_RowError, PySem.W.mg_of X G e_NoNumber, x_RowError, x_NoNumber, xe, xv⟩
  have F0 : In K mg "is_whole" s_is_whole ["thing"] := ⟨_, _, PySem.W.mg_of X G a0, fun_mk (st := s_is_whole) l0 c0 k0, (fun_mk (st := s_is_whole) l0 c0 k0).binds (ps := ["thing"]) fun _ _ _ _ _ _ us hl => match us, hl with | [_], _ => rfl⟩
  have F1 : In K mg "common_divisor" s_common_divisor ["one", "other"] := ⟨_, _, PySem.W.mg_of X G a1, fun_mk (st := s_common_divisor) l1 c1 k1, (fun_mk (st := s_common_divisor) l1 c1 k1).binds (ps := ["one", "other"]) fun _ _ _ _ _ _ us hl => match us, hl with | [_, _], _ => rfl⟩
  have F2 : In K mg "least_square" s_least_square ["n"] := ⟨_, _, PySem.W.mg_of X G a2, fun_mk (st := s_least_square) l2 c2 k2, (fun_mk (st := s_least_square) l2 c2 k2).binds (ps := ["n"]) fun _ _ _ _ _ _ us hl => match us, hl with | [_], _ => rfl⟩
  have F3 : In K mg "heart_of" s_heart_of ["a", "b", "c"] := ⟨_, _, PySem.W.mg_of X G a3, fun_mk (st := s_heart_of) l3 c3 k3, (fun_mk (st := s_heart_of) l3 c3 k3).binds (ps := ["a", "b", "c"]) fun _ _ _ _ _ _ us hl => match us, hl with | [_, _, _], _ => rfl⟩
  have F4 : In K mg "is_square" s_is_square ["n"] := ⟨_, _, PySem.W.mg_of X G a4, fun_mk (st := s_is_square) l4 c4 k4, (fun_mk (st := s_is_square) l4 c4 k4).binds (ps := ["n"]) fun _ _ _ _ _ _ us hl => match us, hl with | [_], _ => rfl⟩
  have F5 : In K mg "divisor_of_all" s_divisor_of_all ["a", "b", "c"] := ⟨_, _, PySem.W.mg_of X G a5, fun_mk (st := s_divisor_of_all) l5 c5 k5, (fun_mk (st := s_divisor_of_all) l5 c5 k5).binds (ps := ["a", "b", "c"]) fun _ _ _ _ _ _ us hl => match us, hl with | [_, _, _], _ => rfl⟩
  have F6 : In K mg "is_root" s_is_root ["thing"] := ⟨_, _, PySem.W.mg_of X G a6, fun_mk (st := s_is_root) l6 c6 k6, (fun_mk (st := s_is_root) l6 c6 k6).binds (ps := ["thing"]) fun _ _ _ _ _ _ us hl => match us, hl with | [_], _ => rfl⟩
  have F7 : In K mg "root_of" s_root_of ["a", "b", "c", "side"] := ⟨_, _, PySem.W.mg_of X G a7, fun_mk (st := s_root_of) l7 c7 k7, (fun_mk (st := s_root_of) l7 c7 k7).binds (ps := ["a", "b", "c", "side"]) fun _ _ _ _ _ _ us hl => match us, hl with | [_, _, _, _], _ => rfl⟩
  have F8 : In K mg "part_of" s_part_of ["number"] := ⟨_, _, PySem.W.mg_of X G a8, fun_mk (st := s_part_of) l8 c8 k8, (fun_mk (st := s_part_of) l8 c8 k8).binds (ps := ["number"]) fun _ _ _ _ _ _ us hl => match us, hl with | [_], _ => rfl⟩
  have F9 : In K mg "turned" s_turned ["root", "n"] := ⟨_, _, PySem.W.mg_of X G a9, fun_mk (st := s_turned) l9 c9 k9, (fun_mk (st := s_turned) l9 c9 k9).binds (ps := ["root", "n"]) fun _ _ _ _ _ _ us hl => match us, hl with | [_, _], _ => rfl⟩
  have F10 : In K mg "rounds_of" s_rounds_of ["root"] := ⟨_, _, PySem.W.mg_of X G a10, fun_mk (st := s_rounds_of) l10 c10 k10, (fun_mk (st := s_rounds_of) l10 c10 k10).binds (ps := ["root"]) fun _ _ _ _ _ _ us hl => match us, hl with | [_], _ => rfl⟩
  have F11 : In K mg "root_of_round" s_root_of_round ["again"] := ⟨_, _, PySem.W.mg_of X G a11, fun_mk (st := s_root_of_round) l11 c11 k11, (fun_mk (st := s_root_of_round) l11 c11 k11).binds (ps := ["again"]) fun _ _ _ _ _ _ us hl => match us, hl with | [_], _ => rfl⟩
  have F12 : In K mg "put_ahead" s_put_ahead ["part", "root"] := ⟨_, _, PySem.W.mg_of X G a12, fun_mk (st := s_put_ahead) l12 c12 k12, (fun_mk (st := s_put_ahead) l12 c12 k12).binds (ps := ["part", "root"]) fun _ _ _ _ _ _ us hl => match us, hl with | [_, _], _ => rfl⟩
  have F13 : In K mg "root_by" s_root_by ["ahead", "again"] := ⟨_, _, PySem.W.mg_of X G a13, fun_mk (st := s_root_by) l13 c13 k13, (fun_mk (st := s_root_by) l13 c13 k13).binds (ps := ["ahead", "again"]) fun _ _ _ _ _ _ us hl => match us, hl with | [_, _], _ => rfl⟩
  have F14 : In K mg "_law_cell" s_law_cell ["_law_script", "_law_k"] := ⟨_, _, PySem.W.mg_of X G a14, fun_mk (st := s_law_cell) l14 c14 k14, (fun_mk (st := s_law_cell) l14 c14 k14).binds (ps := ["_law_script", "_law_k"]) fun _ _ _ _ _ _ us hl => match us, hl with | [_, _], _ => rfl⟩
  have F15 : In K mg "_law_mix" s_law_mix ["_law_cell_here", "_law_prime", "_law_many"] := ⟨_, _, PySem.W.mg_of X G a15, fun_mk (st := s_law_mix) l15 c15 k15, (fun_mk (st := s_law_mix) l15 c15 k15).binds (ps := ["_law_cell_here", "_law_prime", "_law_many"]) fun _ _ _ _ _ _ us hl => match us, hl with | [_, _, _], _ => rfl⟩
  have F16 : In K mg "_law_refused" s_law_refused ["_law_ahead", "_law_again"] := ⟨_, _, PySem.W.mg_of X G a16, fun_mk (st := s_law_refused) l16 c16 k16, (fun_mk (st := s_law_refused) l16 c16 k16).binds (ps := ["_law_ahead", "_law_again"]) fun _ _ _ _ _ _ us hl => match us, hl with | [_, _], _ => rfl⟩
  have F17 : In K mg "_law_parts" s_law_parts ["_law_root", "_law_count"] := ⟨_, _, PySem.W.mg_of X G a17, fun_mk (st := s_law_parts) l17 c17 k17, (fun_mk (st := s_law_parts) l17 c17 k17).binds (ps := ["_law_root", "_law_count"]) fun _ _ _ _ _ _ us hl => match us, hl with | [_, _], _ => rfl⟩
  have F18 : In K mg "law" s_law ["_law_script"] := ⟨_, _, PySem.W.mg_of X G a18, fun_mk (st := s_law) l18 c18 k18, (fun_mk (st := s_law) l18 c18 k18).binds (ps := ["_law_script"]) fun _ _ _ _ _ _ us hl => match us, hl with | [_], _ => rfl⟩
  have FL := fun_mk (st := s_law) l18 c18 k18
  refine ⟨PySem.W.fnOf "law" "law" (defArgs s_law) (defBody s_law) (defScope s_law) .none kV18 dc18 pm18 an18 cd18 ct18, fun s v => .of_eq rfl, fun base _ _ => ?_⟩
  have D_heart_of := d_heart_of (P := l.prog) (w := w) (base := base) F3 T
  have D_common_divisor := d_common_divisor (P := l.prog) (w := w) (base := base) F1 T
  have D_divisor_of_all := d_divisor_of_all (P := l.prog) (w := w) (base := base) F5 T D_common_divisor
  have D_least_square := d_least_square (P := l.prog) (w := w) (base := base) F2 T
  have D_is_square := d_is_square (P := l.prog) (w := w) (base := base) F4 T D_least_square
  have D_root_of := d_root_of (P := l.prog) (w := w) (base := base) F7 T D_heart_of D_divisor_of_all D_is_square
  have D_root_of_round := d_root_of_round (P := l.prog) (w := w) (base := base) F11 T D_root_of
  have D_turned := d_turned (P := l.prog) (w := w) (base := base) F9 T D_root_of
  have D_put_ahead := d_put_ahead (P := l.prog) (w := w) (base := base) F12 T D_turned
  have D_root_by := d_root_by (P := l.prog) (w := w) (base := base) F13 T D_root_of_round D_put_ahead
  have D_part_of := d_part_of (P := l.prog) (w := w) (base := base) F8 T D_least_square D_heart_of
  have D_rounds_of := d_rounds_of (P := l.prog) (w := w) (base := base) F10 T D_part_of D_turned
  have D_law_refused := d_law_refused (P := l.prog) (w := w) (base := base) F16 T D_root_by
  have D_is_whole := d_is_whole (P := l.prog) (w := w) (base := base) F0 T
  have D_is_root := d_is_root (P := l.prog) (w := w) (base := base) F6 T D_heart_of D_divisor_of_all D_is_square D_is_whole
  have D_law_parts := d_law_parts (P := l.prog) (w := w) (base := base) F17 T D_turned D_part_of
  have D_law_cell := d_law_cell (P := l.prog) (w := w) (base := base) F14 T
  have D_law_mix := d_law_mix (P := l.prog) (w := w) (base := base) F15 T
  exact ok_law FL T D_root_by D_rounds_of D_law_refused D_is_root D_law_parts D_law_cell D_law_mix
theorem walk {l : PySem.W.OpenLaw} {q : Program} {loose : List Str} {XP : (Str → Option Value) → Heap → Prop} {YP : World → Heap → Prop} {d : DefRec} {K : Params → PySem.W.Frag} (hn : l.most = some 63) (hdf : d.params.defaults = [])
    (hY : ∀ (w : World) (h : Heap), YP w h → (K w.params).In h)
    (F : ∀ (w : World) (mg : Str → Option Value) (fa : Addr) (h : Heap), (K w.params).In h → h.Ns mainGlobals mg → mg d.name = some (.ref fa) →
      ∃ fd : FuncData, (∀ (s : Shared) (u : Value), BindsTo s fd ⟨[u], []⟩ [("_law_script", u)]) ∧ ∀ base : Heap, (K w.params).In base → base.Ns mainGlobals mg → FnOk l.prog w (K w.params) mg base CX0 8 fa fd ["_law_script"] (sp_law (K w.params))) :
    PySem.W.WalkO q loose XP YP l.row.toRowW d [] (fun f vs => PySem.call f vs) :=
  L2.walk_of (n := 63) (k := 8) (x := "_law_script") (CX := fun _ => CX0) (sp := fun w => sp_law (K w.params)) hn (by decide) hdf ⟨rfl, by decide, by decide⟩ hY F (fun _ _ a ns hl _ hS => ⟨a, ns, rfl, hS, hl, fun _ => rfl⟩) fun _ _ _ _ _ z => z
end Own
open PySem PySem.W PyProof.Rows
set_option maxRecDepth 100000 in
set_option maxHeartbeats 0 in
theorem PySem.Challenge.cw_rootrow_k12_whole_any_round_is_a_root_holds : PySem.Challenge.rw_rootrow_k12_whole_any_round_is_a_root.Holds := by
  w_on; o_law; k_head; (case hw => w_witness2)
  k_fill
  refine Own.walk (l := PySem.Challenge.rw_rootrow_k12_whole_any_round_is_a_root) rfl rfl (fun w h Y => PySem.W.kIn_of Y) ?F
  case F =>
    intro w mg fa h KX G hmg
    refine' Own.all_mk KX G hmg ?a0 ?l0 ?c0 ?k0 ?a1 ?l1 ?c1 ?k1 ?a2 ?l2 ?c2 ?k2 ?a3 ?l3 ?c3 ?k3 ?a4 ?l4 ?c4 ?k4 ?a5 ?l5 ?c5 ?k5 ?a6 ?l6 ?c6 ?k6 ?a7 ?l7 ?c7 ?k7 ?a8 ?l8 ?c8 ?k8 ?a9 ?l9 ?c9 ?k9 ?a10 ?l10 ?c10 ?k10 ?a11 ?l11 ?c11 ?k11 ?a12 ?l12 ?c12 ?k12 ?a13 ?l13 ?c13 ?k13 ?a14 ?l14 ?c14 ?k14 ?a15 ?l15 ?c15 ?k15 ?a16 ?l16 ?c16 ?k16 ?a17 ?l17 ?c17 ?k17 ?a18 ?l18 ?c18 ?k18 ?z_isinstance ?z_int ?z_bool ?z_abs ?z_all ?z_tuple ?z_len ?z_any ?z_reversed ?z_ValueError ?z_range ?z_list ?e_RowError ?x_RowError ?e_NoNumber ?x_NoNumber ?xe ?xv
    (case a0 => k_is)
    (case l0 => k_is)
    (case c0 => k_is)
    (case k0 => k_is)
    (case a1 => k_is)
    (case l1 => k_is)
    (case c1 => k_is)
    (case k1 => k_is)
    (case a2 => k_is)
    (case l2 => k_is)
    (case c2 => k_is)
    (case k2 => k_is)
    (case a3 => k_is)
    (case l3 => k_is)
    (case c3 => k_is)
    (case k3 => k_is)
    (case a4 => k_is)
    (case l4 => k_is)
    (case c4 => k_is)
    (case k4 => k_is)
    (case a5 => k_is)
    (case l5 => k_is)
    (case c5 => k_is)
    (case k5 => k_is)
    (case a6 => k_is)
    (case l6 => k_is)
    (case c6 => k_is)
    (case k6 => k_is)
    (case a7 => k_is)
    (case l7 => k_is)
    (case c7 => k_is)
    (case k7 => k_is)
    (case a8 => k_is)
    (case l8 => k_is)
    (case c8 => k_is)
    (case k8 => k_is)
    (case a9 => k_is)
    (case l9 => k_is)
    (case c9 => k_is)
    (case k9 => k_is)
    (case a10 => k_is)
    (case l10 => k_is)
    (case c10 => k_is)
    (case k10 => k_is)
    (case a11 => k_is)
    (case l11 => k_is)
    (case c11 => k_is)
    (case k11 => k_is)
    (case a12 => k_is)
    (case l12 => k_is)
    (case c12 => k_is)
    (case k12 => k_is)
    (case a13 => k_is)
    (case l13 => k_is)
    (case c13 => k_is)
    (case k13 => k_is)
    (case a14 => k_is)
    (case l14 => k_is)
    (case c14 => k_is)
    (case k14 => k_is)
    (case a15 => k_is)
    (case l15 => k_is)
    (case c15 => k_is)
    (case k15 => k_is)
    (case a16 => k_is)
    (case l16 => k_is)
    (case c16 => k_is)
    (case k16 => k_is)
    (case a17 => k_is)
    (case l17 => k_is)
    (case c17 => k_is)
    (case k17 => k_is)
    (case a18 => k_is)
    (case l18 => k_is)
    (case c18 => k_is)
    (case k18 => k_is)
    (case z_isinstance => k_is)
    (case z_int => k_is)
    (case z_bool => k_is)
    (case z_abs => k_is)
    (case z_all => k_is)
    (case z_tuple => k_is)
    (case z_len => k_is)
    (case z_any => k_is)
    (case z_reversed => k_is)
    (case z_ValueError => k_is)
    (case z_range => k_is)
    (case z_list => k_is)
    (case e_RowError => k_is)
    (case x_RowError => k_exc)
    (case e_NoNumber => k_is)
    (case x_NoNumber => k_exc)
    (case xe => kts_exm)
    (case xv => kit_is)
#print axioms PySem.Challenge.cw_rootrow_k12_whole_any_round_is_a_root_holds




