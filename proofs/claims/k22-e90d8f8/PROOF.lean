import PyProof.Rows.All
import Wide.All
import OpenK.AllK
import Wide.FinOn
import Lean
import PyProof.EqAt
import PyProof.EqKinds
import PyProof.TupleCall
import PyProof.TupleKey
import PyProof.DictRoadsH
import PySem.Challenge.RW_figurebook_k22_rings_gone_through
set_option Elab.async false
set_option linter.all false
set_option maxRecDepth 100000
/-! THE HAND LAYER, for ints, bools, texts, own classes, LISTS and tuples (index, slices, in, append, pop ..), calls, loops. Paste it whole ahead of your own text; what your proof does not reach may be deleted. -/
namespace L2
open PySem PySem.Spec PyProof.Rows

/-- a key: an int or a str -/
abbrev Key := Sum Int Str
def keyIs : Key → Value → Bool
  | .inl k, v => Value.isInt k v
  | .inr x, v => Value.isStrOf x v
def keyH (w : World) : Key → Int
  | .inl k => hashInt k
  | .inr x => hashStr w x
theorem keyIs_shape : ∀ {k : Key} {v : Value}, keyIs k v = true → (∃ i t, k = Sum.inl i ∧ v = Value.int i t) ∨ (∃ x t, k = Sum.inr x ∧ v = Value.str x t)
  | .inl i, v, h => by
    obtain ⟨t, e⟩ := Value.isInt_shape (k := i) (v := v) h
    exact .inl ⟨i, t, rfl, e⟩
  | .inr x, v, h => by
    obtain ⟨t, e⟩ := Value.isStrOf_shape (x := x) (v := v) h
    exact .inr ⟨x, t, rfl, e⟩
theorem key_ll (a b : Int) : decide ((Sum.inl a : Key) = Sum.inl b) = (a == b) := by
  by_cases e : a = b
  · subst e; simp
  · have h : ¬ (Sum.inl a : Key) = Sum.inl b := fun q => e (Sum.inl.inj q)
    rw [decide_eq_false h]
    exact (beq_eq_false_iff_ne.mpr e).symm
theorem key_rr (a b : Str) : decide ((Sum.inr a : Key) = Sum.inr b) = decide (a = b) := by
  by_cases e : a = b
  · subst e; simp
  · have h : ¬ (Sum.inr a : Key) = Sum.inr b := fun q => e (Sum.inr.inj q)
    rw [decide_eq_false h, decide_eq_false e]
theorem key_lr (a : Int) (b : Str) : decide ((Sum.inl a : Key) = Sum.inr b) = false := decide_eq_false (fun q => nomatch q)
theorem key_rl (a : Str) (b : Int) : decide ((Sum.inr a : Key) = Sum.inl b) = false := decide_eq_false (fun q => nomatch q)

def mixKind (prog : Program) (w : World) : PySem.KeyKind prog w Key where
  is := keyIs
  hash := keyH w
  inj := fun v a b ha hb => by
    rcases keyIs_shape ha with ⟨i, t, rfl, rfl⟩ | ⟨x, t, rfl, rfl⟩
    · rcases keyIs_shape hb with ⟨j, u, rfl, e⟩ | ⟨y, u, rfl, e⟩
      · injection e with e1 _; rw [e1]
      · exact nomatch e
    · rcases keyIs_shape hb with ⟨j, u, rfl, e⟩ | ⟨y, u, rfl, e⟩
      · exact nomatch e
      · injection e with e1 _; rw [e1]
  byValue := fun k v h => by
    rcases keyIs_shape h with ⟨i, t, rfl, rfl⟩ | ⟨x, t, rfl, rfl⟩ <;> rfl
  pyHash := fun hv h => by
    rcases keyIs_shape hv with ⟨i, t, rfl, rfl⟩ | ⟨x, t, rfl, rfl⟩
    · exact wpAny_pyHash_int h
    · exact wpAny_pyHash_str h
  eqBool := fun hu hv h => by
    rcases keyIs_shape hu with ⟨i, t, rfl, rfl⟩ | ⟨x, t, rfl, rfl⟩
    · rcases keyIs_shape hv with ⟨j, u, rfl, rfl⟩ | ⟨y, u, rfl, rfl⟩
      · rw [key_ll] at h; exact wpAny_eqBool_int h
      · rw [key_lr] at h; exact SeqAt.EqAt.int_str i t y u _ _ _ _ h
    · rcases keyIs_shape hv with ⟨j, u, rfl, rfl⟩ | ⟨y, u, rfl, rfl⟩
      · rw [key_rl] at h; exact SeqAt.EqAt.str_int x t j u _ _ _ _ h
      · rw [key_rr] at h; exact wpAny_eqBool_str h
  «strs» := fun k x t v h => by
    rcases keyIs_shape h with ⟨i, u, rfl, e⟩ | ⟨y, u, rfl, e⟩
    · exact nomatch e
    · injection e with e1 _
      subst e1
      cases v <;> rfl

end L2

namespace L2
open PySem PySem.Spec PyProof.Rows

/-- a value, without the heap -/
inductive V where
  | non | bl (b : Bool) | int (i : Int) | str (x : Str) | byt (b : Array UInt8) | flt (b : UInt64) | ref (a : Addr) | ty (n : String)
  deriving DecidableEq

def RelV : V → Value → Prop
  | .non, u => u = Value.none
  | .bl b, u => u = Value.bool b
  | .int i, u => ∃ t, u = Value.int i t
  | .str x, u => ∃ t, u = Value.str x t
  | .byt b, u => ∃ t, u = Value.bytes b t
  | .flt b, u => ∃ t, u = Value.float b t
  | .ref a, u => u = Value.ref a
  | .ty n, u => u = Value.type n

abbrev Vals : List V → List Value → Prop := Paired RelV
theorem Vals.length {xs : List V} {us : List Value} (r : Vals xs us) : xs.length = us.length := Paired.length r
theorem Vals.get : ∀ {xs : List V} {us : List Value} {i : Nat} {x : V}, Vals xs us → xs[i]? = some x → ∃ u, us[i]? = some u ∧ RelV x u
  | _, _, _, _, .nil, e => by simp at e
  | _, _, 0, _, .cons r _, e => by simp at e; subst e; exact ⟨_, rfl, r⟩
  | _, _, i + 1, x, .cons _ t, e => by
    obtain ⟨u, h1, h2⟩ := Vals.get (i := i) (x := x) t (by simpa using e)
    exact ⟨u, by simpa using h1, h2⟩
theorem Vals.set {x : V} {u : Value} (r : RelV x u) : ∀ {xs : List V} {us : List Value} (i : Nat), Vals xs us → Vals (xs.set i x) (us.set i u)
  | _, _, _, .nil => .nil
  | _, _, 0, .cons _ t => .cons r t
  | _, _, i + 1, .cons q t => .cons q (Vals.set r i t)
theorem Vals.append : ∀ {xs ys : List V} {us ws : List Value}, Vals xs us → Vals ys ws → Vals (xs ++ ys) (us ++ ws)
  | _, _, _, _, .nil, s => s
  | _, _, _, _, .cons r t, s => .cons r (Vals.append t s)
theorem Vals.take : ∀ {xs : List V} {us : List Value} (n : Nat), Vals xs us → Vals (xs.take n) (us.take n)
  | _, _, 0, _ => .nil
  | _, _, _ + 1, .nil => .nil
  | _, _, n + 1, .cons r t => .cons r (Vals.take n t)
theorem Vals.drop : ∀ {xs : List V} {us : List Value} (n : Nat), Vals xs us → Vals (xs.drop n) (us.drop n)
  | _, _, 0, r => r
  | _, _, _ + 1, .nil => .nil
  | _, _, n + 1, .cons _ t => Vals.drop n t
theorem Vals.none_of : ∀ {xs : List V} {us : List Value} {i : Nat}, Vals xs us → xs[i]? = none → us[i]? = none := fun {xs us i} r e => by
  have h1 := r.length
  have h2 : xs.length ≤ i := List.getElem?_eq_none_iff.mp e
  exact List.getElem?_eq_none_iff.mpr (by omega)

def RelO : Option V → Option Value → Prop
  | some v, some u => RelV v u
  | none, none => True
  | _, _ => False
def KV {κ : Type} : List (κ × V) → List (κ × Value) → Prop := Paired fun (p : κ × V) (q : κ × Value) => p.1 = q.1 ∧ RelV p.2 q.2

/-- a key of a dict (00_mix): an int or a text -/
def kV : Key → V
  | .inl i => .int i
  | .inr x => .str x

/-- what stands at a tracked address -/
inductive HO where
  /-- a list -/
  | lst (xs : List V)
  /-- a tuple (never changes) -/
  | tup (xs : List V)
  /-- a dict whose keys are ints and texts; one whose keys are tuples of ints and texts (the empty one is both) -/
  | dK (kvs : List (Key × V)) | dT (kvs : List (List Key × V))
  /-- a set of ints: its members, its size -/
  | set (S : Int → Bool) (n : Nat)
  /-- an instance of the class at C, its dict at dx, its attributes -/
  | ins (C dx : Addr) (fs : List (Str × V))
  /-- the dict of the instance at x -/
  | own (x : Addr)
  /-- the dict of an exception -/
  | xd (fs : List (Str × V))
  /-- a bound method, f of x -/
  | met (f x : Addr)
  /-- a range object lo, lo + 1, .. below hi -/
  | rng (lo hi : Int)
  /-- a thing that is known to the object (the script; a dict while a loop walks it): read, never written while it is so -/
  | frz (o : Obj) (u : HO)
  /-- a code object's table -/
  | tbl (ps : Array Value)
  /-- any other thing, by what is true of its one object (a def of one's own: SetO a S n := HO.ext fun h => ..) -/
  | ext (φ : Heap → Prop)

abbrev Hp := Addr → Option HO
def upd (H : Hp) (a : Addr) (o : HO) : Hp := fun b => if b = a then some o else H b
theorem upd_same {H : Hp} {a : Addr} {o : HO} : upd H a o a = some o := by unfold upd; rw [if_pos rfl]
theorem upd_ne {H : Hp} {a b : Addr} {o : HO} (h : b ≠ a) : upd H a o b = H b := by unfold upd; rw [if_neg h]
/-- two objects of different content stand apart -/
theorem ne_of {H : Hp} {a b : Addr} {o u : HO} (h : H a = some o) (h' : H b = some u) (d : o ≠ u) : a ≠ b := by
  intro e; subst e; rw [h] at h'; exact d (Option.some.inj h')
theorem ne_of_none {H : Hp} {a b : Addr} {o : HO} (h : H a = some o) (h' : H b = none) : a ≠ b := by
  intro e; subst e; rw [h] at h'; cases h'

section
variable (P : Program) (w : World)
def ObjOk (H : Hp) (h : Heap) (a : Addr) : HO → Prop
  | .lst xs => xs.length ≤ sizeLine ∧ ∃ (its : List Value) (n : Nat), Vals xs its ∧ h.get? a = some { cls := .type "list", data := .seq its.toArray n }
  | .tup xs => xs.length ≤ sizeLine ∧ ∃ its : List Value, Vals xs its ∧ IsTup h a its.toArray
  | .dK kvs => kvs.length ≤ sizeLine ∧ (a == sysModules) = false ∧ ∃ vs, KV kvs vs ∧ h.DictOf (mixKind P w) a vs
  | .dT kvs => kvs.length ≤ sizeLine ∧ (a == sysModules) = false ∧ ∃ xs : List (List Key × Addr × Value),
      Paired (fun (p : List Key × V) (q : List Key × Addr × Value) => p.1 = q.1 ∧ H q.2.1 = some (.tup (p.1.map kV)) ∧ RelV p.2 q.2.2) kvs xs ∧
      ∃ o es ep, h.get? a = some o ∧ o.ExactDict ∧ o.data = .dict es ep ∧ es.toList = xs.map (entryOfKey (tupleKind (mixKind P w))) ∧ (xs.map (·.1)).Nodup
  | .set S n => h.SetOf (intKind P w) a S n
  | .ins C dx fs => H dx = some (.own a) ∧ fs.length ≤ 1000 ∧ dx ≠ a ∧ h.get? a = some (PySem.W.instObj C dx) ∧
      ∃ mA, h.Ns1 dx mA ∧ (∀ f, RelO (fs.lookup f) (mA f)) ∧ PySem.Within mA (fs.map (·.1))
  | .own _ => ∃ o, h.get? a = some o
  | .xd fs => ∃ mA, h.Ns1 a mA ∧ ∀ f, RelO (fs.lookup f) (mA f)
  | .rng lo hi => ∃ t u v, h.get? a = some { cls := .type "range", data := .fields #[.int lo t, .int hi u, .int 1 v] }
  | .frz o u => h.get? a = some o ∧ ObjOk H h a u
  | .tbl ps => h.get? a = some { cls := .none, data := .fields ps }
  | .met f x => h.get? a = some (PySem.W.methodObj (.ref f) (.ref x))
  | .ext φ => φ h ∧ (∃ o, h.get? a = some o) ∧ ∀ h1 h2 : Heap, φ h1 → (∀ o, h1.get? a = some o → h2.get? a = some o) → φ h2
/-- the abstract heap is held -/
def HOk (H : Hp) (h : Heap) : Prop := ∀ a o, H a = some o → ObjOk P w H h a o
end

section
variable {P : Program} {w : World} {H H' : Hp} {h h' : Heap} {a : Addr} {o : HO}
theorem ObjOk.lt (x : ObjOk P w H h a o) : a < h.objs.size := by
  cases o with
  | lst xs => obtain ⟨_, _, _, _, e⟩ := x; exact Heap.lt_size e
  | tup xs => obtain ⟨_, _, _, p⟩ := x; exact p.lt
  | dK kvs => obtain ⟨_, _, _, _, o, _, _, e, _⟩ := x; exact Heap.lt_size e
  | dT kvs => obtain ⟨_, _, _, _, o, _, _, e, _⟩ := x; exact Heap.lt_size e
  | set S n => obtain ⟨o, _, _, _, e, _⟩ := x; exact Heap.lt_size e
  | ins C dx fs => obtain ⟨_, _, _, e, _⟩ := x; exact Heap.lt_size e
  | own y => obtain ⟨_, e⟩ := x; exact Heap.lt_size e
  | xd fs => obtain ⟨_, ⟨_, _, _, e, _⟩, _⟩ := x; exact Heap.lt_size e
  | rng lo hi => obtain ⟨_, _, _, e⟩ := x; exact Heap.lt_size e
  | frz ob u => obtain ⟨e, _⟩ := x; exact Heap.lt_size e
  | tbl ps => exact Heap.lt_size (show h.get? a = some _ from x)
  | met f y => exact Heap.lt_size (show h.get? a = some _ from x)
  | ext φ => obtain ⟨_, ⟨_, e⟩, _⟩ := x; exact Heap.lt_size e
theorem Paired.mapP {α β : Type} {F G : α → β → Prop} : ∀ {l₁ : List α} {l₂ : List β}, Paired F l₁ l₂ → (∀ a b, F a b → G a b) → Paired G l₁ l₂
  | _, _, .nil, _ => .nil
  | _, _, .cons r t, f => .cons (f _ _ r) (Paired.mapP t f)
/-- what an object's description leans on: its own object, its own dict, the tuples -/
theorem ObjOk.stay (x : ObjOk P w H h a o) (k : ∀ b u, (b = a ∨ H b = some (.own a)) → h.get? b = some u → h'.get? b = some u)
    (ho : ∀ b, H b = some (.own a) → H' b = some (.own a)) (ht : ∀ b xs, H b = some (.tup xs) → H' b = some (.tup xs)) : ObjOk P w H' h' a o := by
  induction o with
  | lst xs => obtain ⟨z, its, n, r, e⟩ := x; exact ⟨z, its, n, r, k _ _ (.inl rfl) e⟩
  | tup xs => obtain ⟨z, its, r, ob, e, c⟩ := x; exact ⟨z, its, r, ob, k _ _ (.inl rfl) e, c⟩
  | dK kvs => obtain ⟨z, y, vs, r, ob, es, ep, e, c⟩ := x; exact ⟨z, y, vs, r, ob, es, ep, k _ _ (.inl rfl) e, c⟩
  | dT kvs =>
    obtain ⟨z, y, xs, r, ob, es, ep, e, c⟩ := x
    exact ⟨z, y, xs, Paired.mapP r fun p q z => ⟨z.1, ht _ _ z.2.1, z.2.2⟩, ob, es, ep, k _ _ (.inl rfl) e, c⟩
  | set S n => obtain ⟨ob, es, ep, t, e, c⟩ := x; exact ⟨ob, es, ep, t, k _ _ (.inl rfl) e, c⟩
  | ins C dx fs =>
    obtain ⟨d, z, ne, e, mA, ⟨od, es, ep, e2, c⟩, r⟩ := x
    exact ⟨ho _ d, z, ne, k _ _ (.inl rfl) e, mA, ⟨od, es, ep, k _ _ (.inr d) e2, c⟩, r⟩
  | own y => obtain ⟨ob, e⟩ := x; exact ⟨ob, k _ _ (.inl rfl) e⟩
  | xd fs => obtain ⟨mA, ⟨od, es, ep, e, c⟩, r⟩ := x; exact ⟨mA, ⟨od, es, ep, k _ _ (.inl rfl) e, c⟩, r⟩
  | rng lo hi => obtain ⟨t, u, v, e⟩ := x; exact ⟨t, u, v, k _ _ (.inl rfl) e⟩
  | frz ob u ih => obtain ⟨e, q⟩ := x; exact ⟨k _ _ (.inl rfl) e, ih q⟩
  | tbl ps =>
    have e : h.get? a = some { cls := .none, data := .fields ps } := x
    show h'.get? a = some { cls := .none, data := .fields ps }
    exact k a _ (.inl rfl) e
  | met f y =>
    have e : h.get? a = some (PySem.W.methodObj (.ref f) (.ref y)) := x
    show h'.get? a = some (PySem.W.methodObj (.ref f) (.ref y))
    exact k a _ (.inl rfl) e
  | ext φ => obtain ⟨p, ⟨o, e⟩, st⟩ := x; exact ⟨st _ _ p fun o q => k _ _ (.inl rfl) q, ⟨o, k _ _ (.inl rfl) e⟩, st⟩
theorem HOk.lt (x : HOk P w H h) (e : H a = some o) : a < h.objs.size := (x a o e).lt
theorem HOk.fresh (x : HOk P w H h) (e : h.objs.size ≤ a) : H a = none := by
  cases q : H a with
  | none => rfl
  | some u => exact absurd (Nat.lt_of_lt_of_le (x.lt q) e) (Nat.lt_irrefl _)
/-- every object of the heap is kept -/
theorem HOk.kept (x : HOk P w H h) (k : ∀ b u, h.get? b = some u → h'.get? b = some u) : HOk P w H h' := fun a o e =>
  (x a o e).stay (fun b u _ q => k b u q) (fun _ q => q) fun _ _ q => q
/-- a new object is laid and tracked -/
theorem HOk.laid (x : HOk P w H h) (k : ∀ b u, h.get? b = some u → h'.get? b = some u) (hp : h.objs.size ≤ a) (new : ObjOk P w (upd H a o) h' a o) : HOk P w (upd H a o) h' := fun b u e => by
  have hn := x.fresh hp
  by_cases hb : b = a
  · subst hb; rw [upd_same] at e; cases e; exact new
  · rw [upd_ne hb] at e
    exact (x b u e).stay (fun c v _ q => k c v q) (fun c q => by rw [upd_ne (ne_of_none q hn)]; exact q) fun c xs q => by rw [upd_ne (ne_of_none q hn)]; exact q
end

/-- what may be read as u: it is u, or a known u -/
def Rd (H : Hp) (a : Addr) (u : HO) : Prop := H a = some u ∨ ∃ o, H a = some (.frz o u)
theorem Rd.of {H : Hp} {a : Addr} {u : HO} (h : H a = some u) : Rd H a u := .inl h
theorem Rd.ok {P : Program} {w : World} {H : Hp} {h : Heap} {a : Addr} {u : HO} (r : Rd H a u) (x : HOk P w H h) : ObjOk P w H h a u := by
  rcases r with r | ⟨o, r⟩
  · exact x a u r
  · obtain ⟨_, q⟩ := x a _ r
    exact q
/-- what may be written -/
def Mut : Option HO → Prop
  | some (.lst _) => True
  | some (.dK _) => True
  | some (.dT _) => True
  | some (.set _ _) => True
  | some (.ins _ _ _) => True
  | some (.ext _) => True
  | _ => False
section
variable {P : Program} {w : World} {H : Hp} {h h' : Heap} {x e : Addr} {o' : HO}
/-- the object at e is changed: x itself, or the dict of the instance x -/
theorem HOk.write (ok : HOk P w H h) (mu : Mut (H x)) (he : e = x ∨ H e = some (.own x)) (k : ∀ b u, b ≠ e → h.get? b = some u → h'.get? b = some u) (heo : ∃ u, h'.get? e = some u)
    (new : ObjOk P w (upd H x o') h' x o') : HOk P w (upd H x o') h' := fun b u q => by
  have nown : ∀ c y, H c = some (.own y) → c ≠ x := fun c y r z => by subst z; rw [r] at mu; exact mu
  have ntup : ∀ c xs, H c = some (.tup xs) → c ≠ x := fun c xs r z => by subst z; rw [r] at mu; exact mu
  by_cases hb : b = x
  · subst hb; rw [upd_same] at q; cases q; exact new
  · rw [upd_ne hb] at q
    by_cases hbe : b = e
    · have q' : H b = some (.own x) := by
        rcases he with z | z
        · exact absurd (hbe.trans z) hb
        · rw [hbe]; exact z
      rw [q] at q'; cases q'
      obtain ⟨v, hv⟩ := heo
      exact ⟨v, by rw [hbe]; exact hv⟩
    · refine (ok b u q).stay (fun c v hc r => k c v ?_ r) (fun c r => by rw [upd_ne (nown c b r)]; exact r) fun c xs r => by rw [upd_ne (ntup c xs r)]; exact r
      rcases hc with rfl | hc
      · exact hbe
      · rintro rfl
        rcases he with z | z
        · exact nown c b hc z
        · rw [hc] at z; cases z; exact hb rfl
end

/-! ### kept unless tracked; of the frames at fs (the callers') the slots may change (an exception that passes writes there); of the records at ex (iterators) nothing is said -/
structure Un (fs ex : List Addr) (H H' : Hp) (h h' : Heap) : Prop where
  keep : ∀ b o, h.get? b = some o → H b = none → b ∉ fs → b ∉ ex → h'.get? b = some o
  slot : ∀ b o, h.get? b = some o → H b = none → b ∈ fs → b ∉ ex → ∃ sl, h'.get? b = some { o with slots := sl }
  free : ∀ b o, h.get? b = some o → H b = none → b ∉ ex → H' b = none
  there : ∀ b o, h.get? b = some o → b ∉ ex → ∃ o', h'.get? b = some o'
  tups : ∀ b xs, H b = some (.tup xs) → H' b = some (.tup xs)
  frzs : ∀ b o u, H b = some (.frz o u) → H' b = some (.frz o u)
  tbls : ∀ b ps, H b = some (.tbl ps) → ∃ more, H' b = some (.tbl (ps ++ more))
section
variable {fs fs' ex ex' : List Addr} {H H1 H2 : Hp} {h h1 h2 h' : Heap} {a x e : Addr} {o : HO}
theorem Un.any (u : Un fs ex H H1 h h1) {b : Addr} {ob : Obj} (q : h.get? b = some ob) (n : H b = none) (hx : b ∉ ex) : ∃ sl, h1.get? b = some { ob with slots := sl } := by
  by_cases hb : b ∈ fs
  · exact u.slot b ob q n hb hx
  · exact ⟨ob.slots, u.keep b ob q n hb hx⟩
theorem Un.trans (a : Un fs ex H H1 h h1) (b : Un fs ex H1 H2 h1 h2) : Un fs ex H H2 h h2 where
  keep := fun c ob q n hc hx => b.keep c ob (a.keep c ob q n hc hx) (a.free c ob q n hx) hc hx
  slot := fun c ob q n hc hx => by
    obtain ⟨sl, e1⟩ := a.slot c ob q n hc hx
    obtain ⟨sl', e2⟩ := b.slot c _ e1 (a.free c ob q n hx) hc hx
    exact ⟨sl', e2⟩
  free := fun c ob q n hx => by
    obtain ⟨o', e1⟩ := a.there c ob q hx
    exact b.free c o' e1 (a.free c ob q n hx) hx
  there := fun c ob q hx => by
    obtain ⟨o', e1⟩ := a.there c ob q hx
    exact b.there c o' e1 hx
  tups := fun c xs q => b.tups c xs (a.tups c xs q)
  frzs := fun c ob xs q => b.frzs c ob xs (a.frzs c ob xs q)
  tbls := fun c ps q => by
    obtain ⟨m1, e1⟩ := a.tbls c ps q
    obtain ⟨m2, e2⟩ := b.tbls c _ e1
    exact ⟨m1 ++ m2, by rw [e2, Array.append_assoc]⟩
theorem Un.kept (k : ∀ b u, h.get? b = some u → h'.get? b = some u) : Un fs ex H H h h' :=
  ⟨fun b ob q _ _ _ => k b ob q, fun b ob q _ _ _ => ⟨ob.slots, k b ob q⟩, fun _ _ _ n _ => n, fun b ob q _ => ⟨ob, k b ob q⟩, fun _ _ q => q, fun _ _ _ q => q, fun _ ps q => ⟨#[], by rw [q]; simp⟩⟩
theorem Un.refl : Un fs ex H H h h := Un.kept fun _ _ q => q
theorem Un.laid (k : ∀ b u, h.get? b = some u → h'.get? b = some u) (hp : h.objs.size ≤ a) (hn : H a = none) : Un fs ex H (upd H a o) h h' where
  keep := fun b u q _ _ _ => k b u q
  slot := fun b u q _ _ _ => ⟨u.slots, k b u q⟩
  free := fun b u q n _ => by rw [upd_ne (Nat.ne_of_lt (Nat.lt_of_lt_of_le (Heap.lt_size q) hp))]; exact n
  there := fun b u q _ => ⟨u, k b u q⟩
  tups := fun b xs q => by rw [upd_ne (ne_of_none q hn)]; exact q
  frzs := fun b u xs q => by rw [upd_ne (ne_of_none q hn)]; exact q
  tbls := fun b ps q => ⟨#[], by rw [upd_ne (ne_of_none q hn), q]; simp⟩
theorem Un.write (mu : Mut (H x)) (he : e = x ∨ H e = some (.own x)) (k : ∀ b u, b ≠ e → h.get? b = some u → h'.get? b = some u) (heo : ∃ u, h'.get? e = some u) : Un fs ex H (upd H x o) h h' := by
  have hx : ∀ b, H b = none → b ≠ x := fun b n z => by subst z; rw [n] at mu; exact mu
  have hb : ∀ b, H b = none → b ≠ e := fun b n z => by
    subst z
    rcases he with r | r
    · exact hx b n r
    · rw [n] at r; cases r
  have hm : ∀ b u, H b = some u → ¬ Mut (some u) → b ≠ x := fun b u q nm z => by subst z; rw [q] at mu; exact nm mu
  refine ⟨fun b u q n _ _ => k b u (hb b n) q, fun b u q n _ _ => ⟨u.slots, k b u (hb b n) q⟩, fun b u q n _ => by rw [upd_ne (hx b n)]; exact n, fun b u q _ => ?_,
    fun b xs q => by rw [upd_ne (hm b _ q fun z => z)]; exact q, fun b u xs q => by rw [upd_ne (hm b _ q fun z => z)]; exact q, fun b ps q => ⟨#[], by rw [upd_ne (hm b _ q fun z => z), q]; simp⟩⟩
  by_cases hbe : b = e
  · subst hbe; exact heo
  · exact ⟨u, k b u hbe q⟩
theorem Un.mono (u : Un fs ex H H1 h h1) (hs : ∀ b ∈ fs, b ∈ fs') (hx : ∀ b ∈ ex, b ∈ ex') : Un fs' ex' H H1 h h1 :=
  ⟨fun b ob q n hb he => u.keep b ob q n (fun z => hb (hs b z)) fun z => he (hx b z), fun _ _ q n _ he => u.any q n fun z => he (hx _ z), fun b ob q n he => u.free b ob q n fun z => he (hx b z), fun b ob q he => u.there b ob q fun z => he (hx b z), u.tups, u.frzs, u.tbls⟩
end

/-! ### the heap without what is tracked -/
def trk (h : Heap) (H : Hp) : List Addr := (List.range h.objs.size).filter fun a => (H a).isSome
def hidT (h : Heap) (H : Hp) : Heap := PySem.W.hideAll h (trk h H)
theorem hidT_size (h : Heap) (H : Hp) : (hidT h H).objs.size = h.objs.size := PySem.W.hideAll_size _ _
theorem hidT_get {h : Heap} {H : Hp} {b : Addr} {o : Obj} (e : h.get? b = some o) (n : H b = none) : (hidT h H).get? b = some o :=
  PySem.W.hideAll_get _ e fun hm => by
    have q : (H b).isSome = true := (List.mem_filter.mp hm).2
    rw [n] at q; simp at q
theorem of_hidT {h : Heap} {H : Hp} {b : Addr} {o : Obj} (e : (hidT h H).get? b = some o) : h.get? b = some o ∧ H b = none := by
  have e' : h.get? b = some o := PySem.W.of_hideAll (trk h H) e
  refine ⟨e', ?_⟩
  cases q : H b with
  | none => rfl
  | some x =>
    have hm : b ∈ trk h H := List.mem_filter.mpr ⟨List.mem_range.mpr (Heap.lt_size e'), by simp [q]⟩
    have z : (hidT h H).get? b = none := PySem.W.hideAll_none (trk h H) hm
    rw [z] at e; cases e

/-! ### OpenK's ledger, filled with every new object but one -/
def allNews (g h : Heap) (L : Addr) : List (Addr × Obj) := (List.range h.objs.size).filterMap fun a => if a = L ∨ (g.get? a).isSome = true then none else (h.get? a).map fun o => (a, o)
def rest (g h : Heap) (L d : Addr) : List (Addr × Obj) := (allNews g h L).filter fun p => decide (p.1 ≠ d)
end L2

namespace L2
open PySem PySem.Spec PyProof.Rows

/-- the module's facts, over the base: the heap at the law's entry without what is tracked there -/
structure Mod (K : PySem.W.Frag) (mg : Str → Option Value) (base : Heap) : Prop where
  kin : K.In base
  glob : base.Ns mainGlobals mg
  blt : ∃ mb, base.Ns builtinsNs mb ∧ ∀ x : Str, x ≠ "__name__" → mb x = bootBuiltins x
  nolimit : base.NoLimit

/-- the context: a def's body (or a comprehension's block) running. base: fixed through the whole law; s₀, H₀: the entry; outer: the frames whose slots others may change (a def's callers); stack: all frames that run;
   ex: iterators that were made ahead of the entry and are walked here (a comprehension's); fn: the names whose cells were made at the entry (a def: all; a comprehension's block: its own); calm: not within an except suite; pn: pins that every state bears; xe: what is wanted of an exception that leaves the code -/
structure Cx where
  prog : Program
  w : World
  K : PySem.W.Frag
  mg : Str → Option Value
  base : Heap
  A : Around
  N : List Str
  s₀ : Shared
  H₀ : Hp
  env : Env
  outer : List Env
  stack : List Env
  ex : List Addr
  fn : Str → Bool
  calm : Bool
  pn : List (Addr × Obj)
  xe : Value → Shared → Prop
/-- the callers' frames -/
def frs (l : List Env) : List Addr := l.filterMap (·.frame)
abbrev Cx.fs (X : Cx) : List Addr := frs X.outer

def Vis (sc : Scope) (x : Str) : Prop := sc.names.lookup x = some .local ∨ sc.names.lookup x = some .cell ∨ sc.names.lookup x = some .free
def Loc (sc : Scope) (x : Str) : Prop := sc.names.lookup x = some .local ∨ sc.names.lookup x = some .cell
def Look (env : Env) (h : Heap) (m : Str → Option Value) (x : Str) (u : Value) : Prop :=
  (env.kindOf x = some .local ∧ m x = some u) ∨ ((env.kindOf x = some .cell ∨ env.kindOf x = some .free) ∧ ∃ c, env.cells.lookup x = some c ∧ h.IsCell c (some u))

structure Cx.Ok (X : Cx) : Prop where
  mod : Mod X.K X.mg X.base
  kind : X.env.scope.kind = .function
  glob : X.env.globals = mainGlobals
  blt : X.env.builtins = builtinsNs
  above : X.s₀.heap.objs.size ≤ X.env.locals
  inj : ∀ x y c, X.env.cells.lookup x = some c → X.env.cells.lookup y = some c → x = y
  has : ∀ x, (X.env.kindOf x = some .cell ∨ X.env.kindOf x = some .free) → ∃ c, X.env.cells.lookup x = some c
  cab : ∀ x c, X.fn x = true → X.env.cells.lookup x = some c → X.s₀.heap.objs.size ≤ c
  hd : X.calm = true → X.A.handled = none
  frames : X.A.frames = some X.stack
  stk : X.stack = X.outer ∨ (X.stack = X.env :: X.outer ∧ X.env.frame = some X.env.locals)
  exf : ∀ b ∈ X.ex, b ≠ X.env.locals ∧ ∀ x c, X.env.cells.lookup x = some c → c ≠ b
  bs : ∀ b o, X.base.get? b = some o → X.s₀.heap.get? b = some o ∧ X.H₀ b = none
  bsz : X.base.objs.size ≤ X.s₀.heap.objs.size
  noex : ∀ b o, X.base.get? b = some o → b ∉ X.ex
  exfs : ∀ b ∈ X.ex, b ∉ X.fs
  funs : X.s₀.heap.FunFrames X.base X.outer
  frf : ∀ b ∈ X.fs, X.H₀ b = none

structure Inv (X : Cx) (pins : List (Addr × Obj)) (σ : List (Option V)) (H : Hp) (s : Shared) : Prop where
  ok : X.Ok
  os : s.os = X.s₀.os
  bare : AllBare s.gens
  base : Un X.fs X.ex X.H₀ H X.s₀.heap s.heap
  loc : ∃ m, s.heap.Ns X.env.locals m ∧ ∀ (i : Nat) (x : Str) (v : V), X.N[i]? = some x → σ[i]? = some (some v) → Vis X.env.scope x → ∃ u, RelV v u ∧ Look X.env s.heap m x u
  cell : ∀ x c, X.env.cells.lookup x = some c → ∃ v, s.heap.IsCell c v
  free : H X.env.locals = none
  freeC : ∀ x c, X.env.cells.lookup x = some c → H c = none
  pin : ∀ p ∈ X.pn ++ pins, s.heap.get? p.1 = some p.2 ∧ H p.1 = none ∧ p.1 ≠ X.env.locals ∧ p.1 ∉ X.fs ∧ ∀ v, p.2.data ≠ .cell v
  hok : HOk X.prog X.w H s.heap
  len : σ.length = X.N.length

section
variable {X : Cx} {pins : List (Addr × Obj)} {σ : List (Option V)} {H H' : Hp} {s : Shared} {h' : Heap}

theorem Cx.Ok.nofr (ok : X.Ok) {b : Addr} {o : Obj} (e : X.base.get? b = some o) : b ∉ X.fs := fun hb => by
  have := (ok.funs.mem hb).1
  rw [e] at this; cases this
theorem Inv.bs (I : Inv X pins σ H s) : ∀ b o, X.base.get? b = some o → s.heap.get? b = some o ∧ H b = none := fun b o e =>
  ⟨I.base.keep b o (I.ok.bs b o e).1 (I.ok.bs b o e).2 (I.ok.nofr e) (I.ok.noex b o e), I.base.free b o (I.ok.bs b o e).1 (I.ok.bs b o e).2 (I.ok.noex b o e)⟩
theorem Inv.bk (I : Inv X pins σ H s) : ∀ b o, X.base.get? b = some o → s.heap.get? b = some o := fun b o e => (I.bs b o e).1
theorem Inv.mod (I : Inv X pins σ H s) : Mod X.K X.mg X.base := I.ok.mod
theorem Inv.kIn (I : Inv X pins σ H s) : X.K.In s.heap := I.ok.mod.kin.keeps I.bk
theorem Inv.nolimit (I : Inv X pins σ H s) : s.heap.NoLimit := I.ok.mod.nolimit.keeps I.bk
/-- the frame over the base: for OpenK's rules (K.In X.base is I.mod.kin) -/
theorem Inv.fr (I : Inv X pins σ H s) : ∃ m, Fr X.base X.env.locals s.heap m :=
  let ⟨m, hn, _⟩ := I.loc
  ⟨m, hn, I.bk, Nat.le_trans I.ok.bsz I.ok.above⟩
theorem Inv.lt (I : Inv X pins σ H s) : X.env.locals < s.heap.objs.size := let ⟨_, hn, _⟩ := I.loc; hn.lt
theorem Inv.sz (I : Inv X pins σ H s) : X.s₀.heap.objs.size ≤ s.heap.objs.size := Nat.le_trans I.ok.above (Nat.le_of_lt I.lt)
theorem Inv.nofs (I : Inv X pins σ H s) {a : Addr} (h : s.heap.objs.size ≤ a) : a ∉ X.fs := fun hb => by
  obtain ⟨_, o, ho, _⟩ := I.ok.funs.mem hb
  exact absurd (Nat.lt_of_lt_of_le (Heap.lt_size ho) (Nat.le_trans I.sz h)) (Nat.lt_irrefl _)
theorem Inv.cne (I : Inv X pins σ H s) : ∀ x c, X.env.cells.lookup x = some c → c ≠ X.env.locals := fun x c e z => by
  obtain ⟨v, o, ho, hd⟩ := I.cell x c e
  obtain ⟨m, ⟨o', es, ep, ho', hd', _⟩, _⟩ := I.loc
  rw [z, ho'] at ho; cases ho; rw [hd'] at hd; cases hd
theorem Inv.funs (I : Inv X pins σ H s) : s.heap.FunFrames X.base X.outer := by
  have all : ∀ (l : List Env), (∀ b ∈ frs l, b ∈ X.fs) → X.s₀.heap.FunFrames X.base l → s.heap.FunFrames X.base l := by
    intro l
    induction l with
    | nil => intro _ _; trivial
    | cons env r ih =>
      intro hs hl
      obtain ⟨hk, ⟨L, o, hf, hn, ho, hd⟩, hr⟩ := hl
      have hL : L ∈ X.fs := hs L (by unfold frs; rw [List.filterMap_cons, hf]; exact List.mem_cons_self)
      obtain ⟨sl, e⟩ := I.base.slot L o ho (I.ok.frf L hL) hL fun z => I.ok.exfs L z hL
      exact ⟨hk, ⟨L, _, hf, hn, e, hd⟩, ih (fun b hb => hs b (by unfold frs; rw [List.filterMap_cons, hf]; exact List.mem_cons_of_mem _ hb)) hr⟩
  exact all X.outer (fun _ hb => hb) I.ok.funs

/-- the frames that run, for a call -/
theorem Inv.stack (I : Inv X pins σ H s) : s.heap.FunFrames X.base X.stack := by
  rcases I.ok.stk with e | ⟨e, hf⟩
  · rw [e]; exact I.funs
  · rw [e]
    obtain ⟨m, hn, _⟩ := I.loc
    refine .cons (by rw [I.ok.kind]; decide) hf hn ?_ I.funs
    exact Heap.get?_none_of_le (Nat.le_trans I.ok.bsz I.ok.above)
theorem Inv.stkSub (I : Inv X pins σ H s) : ∀ b ∈ frs X.stack, b ∈ X.env.locals :: X.fs := fun b hb => by
  rcases I.ok.stk with e | ⟨e, hf⟩
  · rw [e] at hb; exact List.mem_cons_of_mem _ hb
  · rw [e] at hb
    unfold frs at hb
    rw [List.filterMap_cons, hf] at hb
    exact hb
theorem Inv.stkFree (I : Inv X pins σ H s) : ∀ b ∈ frs X.stack, H b = none := fun b hb => by
  rcases List.mem_cons.mp (I.stkSub b hb) with e | hb
  · rw [e]; exact I.free
  · obtain ⟨_, o, ho, _⟩ := I.ok.funs.mem hb
    exact I.base.free b o ho (I.ok.frf b hb) fun z => I.ok.exfs b z hb

/-- THE STEP: the untracked objects but the frame and the records at ch are kept (the callers' frames up to slots), the frame's map is kept, the new abstract heap is held -/
theorem Inv.step {g' : Array GenState} {t' : Nat} {d' : Drawn} {ch : List Addr} (I : Inv X pins σ H s)
    (hch : ∀ b ∈ ch, (b ∈ X.ex ∨ X.s₀.heap.objs.size ≤ b) ∧ b ≠ X.env.locals ∧ (∀ x c, X.env.cells.lookup x = some c → c ≠ b) ∧ ∀ p ∈ X.pn ++ pins, p.1 ≠ b)
    (keep : ∀ b o, b ≠ X.env.locals → b ∉ X.fs → b ∉ ch → s.heap.get? b = some o → H b = none → h'.get? b = some o)
    (slot : ∀ b o, b ≠ X.env.locals → b ∈ X.fs → b ∉ ch → s.heap.get? b = some o → H b = none → ∃ sl, h'.get? b = some { o with slots := sl }) (free : ∀ b o, b ∉ ch → s.heap.get? b = some o → H b = none → H' b = none)
    (there : ∀ b o, b ∉ ch → s.heap.get? b = some o → ∃ o', h'.get? b = some o')
    (tups : ∀ b xs, H b = some (.tup xs) → H' b = some (.tup xs)) (frzs : ∀ b o u, H b = some (.frz o u) → H' b = some (.frz o u)) (tbls : ∀ b ps, H b = some (.tbl ps) → ∃ more, H' b = some (.tbl (ps ++ more)))
    (ns : ∀ m, s.heap.Ns X.env.locals m → h'.Ns X.env.locals m) (hok : HOk X.prog X.w H' h') (hg : AllBare g') :
    Inv X pins σ H' { s with heap := h', gens := g', drawn := d', toks := t' } := by
  have neL : ∀ b o, X.s₀.heap.get? b = some o → b ≠ X.env.locals := fun b o e => Nat.ne_of_lt (Nat.lt_of_lt_of_le (Heap.lt_size e) I.ok.above)
  have neC : ∀ b o, X.s₀.heap.get? b = some o → b ∉ X.ex → b ∉ ch := fun b o e hx hb => by
    rcases (hch b hb).1 with z | z
    · exact hx z
    · exact absurd (Nat.lt_of_lt_of_le (Heap.lt_size e) z) (Nat.lt_irrefl _)
  have cellK : ∀ x c, X.env.cells.lookup x = some c → ∀ v, s.heap.IsCell c v → h'.IsCell c v := fun x c e v ⟨o, ho, hd⟩ => by
    have nch : c ∉ ch := fun z => (hch c z).2.2.1 x c e rfl
    by_cases hc : c ∈ X.fs
    · obtain ⟨sl, q⟩ := slot c o (I.cne x c e) hc nch ho (I.freeC x c e)
      exact ⟨_, q, hd⟩
    · exact ⟨o, keep c o (I.cne x c e) hc nch ho (I.freeC x c e), hd⟩
  refine ⟨I.ok, I.os, hg, ⟨fun b o e n hb hx => ?_, fun b o e n hb hx => ?_, fun b o e n hx => ?_, fun b o e hx => ?_, fun b xs e => tups b xs (I.base.tups b xs e), fun b o xs e => frzs b o xs (I.base.frzs b o xs e), fun b ps e => ?_⟩, ?_, fun x c e => ?_, ?_, fun x c e => ?_, fun p hp => ?_, hok, I.len⟩
  · exact keep b o (neL b o e) hb (neC b o e hx) (I.base.keep b o e n hb hx) (I.base.free b o e n hx)
  · obtain ⟨sl, e1⟩ := I.base.slot b o e n hb hx
    obtain ⟨sl', e2⟩ := slot b _ (neL b o e) hb (neC b o e hx) e1 (I.base.free b o e n hx)
    exact ⟨sl', e2⟩
  · obtain ⟨o', e1⟩ := I.base.there b o e hx
    exact free b o' (neC b o e hx) e1 (I.base.free b o e n hx)
  · obtain ⟨o', e1⟩ := I.base.there b o e hx
    exact there b o' (neC b o e hx) e1
  · obtain ⟨m1, e1⟩ := I.base.tbls b ps e
    obtain ⟨m2, e2⟩ := tbls b _ e1
    exact ⟨m1 ++ m2, by rw [e2, Array.append_assoc]⟩
  · obtain ⟨m, hn, hl⟩ := I.loc
    refine ⟨m, ns m hn, fun i x v e1 e2 e3 => ?_⟩
    obtain ⟨u, r, l⟩ := hl i x v e1 e2 e3
    refine ⟨u, r, ?_⟩
    rcases l with l | ⟨k, c, e, z⟩
    · exact .inl l
    · exact .inr ⟨k, c, e, cellK x c e _ z⟩
  · obtain ⟨v, z⟩ := I.cell x c e
    exact ⟨v, cellK x c e v z⟩
  · obtain ⟨m, ⟨o, _, _, ho, _⟩, _⟩ := I.loc
    exact free _ o (fun z => (hch _ z).2.1 rfl) ho I.free
  · obtain ⟨v, o, ho, hd⟩ := I.cell x c e
    exact free c o (fun z => (hch c z).2.2.1 x c e rfl) ho (I.freeC x c e)
  · obtain ⟨e, n, ne, nf, d⟩ := I.pin p hp
    have nch : p.1 ∉ ch := fun z => (hch p.1 z).2.2.2 p hp rfl
    exact ⟨keep p.1 p.2 ne nf nch e n, free p.1 p.2 nch e n, ne, nf, d⟩
/-- .. where the frame's own object is kept too -/
theorem Inv.un {t' : Nat} (I : Inv X pins σ H s) (u : Un X.fs [] H H' s.heap h') (hok : HOk X.prog X.w H' h') : Inv X pins σ H' { s with heap := h', toks := t' } := by
  obtain ⟨m, ⟨o, es, ep, ho, r⟩, _⟩ := id I.loc
  obtain ⟨sl, hL⟩ := u.any ho I.free (by simp)
  exact I.step (g' := s.gens) (d' := s.drawn) (ch := []) (fun _ z => nomatch z) (fun b o _ hb _ e n => u.keep b o e n hb (by simp)) (fun b o _ hb _ e n => u.slot b o e n hb (by simp)) (fun b o _ e n => u.free b o e n (by simp)) (fun b o _ e => u.there b o e (by simp)) u.tups u.frzs u.tbls (fun m' hm => by
    obtain ⟨o', es', ep', ho', r'⟩ := hm
    rw [ho] at ho'; cases ho'
    exact ⟨_, es', ep', hL, r'⟩) hok I.bare
/-- behind a call (or a comprehension's block): the slots of this frame may have changed too, the records at ch may have turned -/
theorem Inv.call {g' : Array GenState} {t' : Nat} {d' : Drawn} {ch : List Addr} (I : Inv X pins σ H s) (u : Un (frs X.stack) ch H H' s.heap h') (hok : HOk X.prog X.w H' h') (hg : AllBare g')
    (hch : ∀ b ∈ ch, (b ∈ X.ex ∨ X.s₀.heap.objs.size ≤ b) ∧ b ≠ X.env.locals ∧ (∀ x c, X.env.cells.lookup x = some c → c ≠ b) ∧ ∀ p ∈ X.pn ++ pins, p.1 ≠ b) :
    Inv X pins σ H' { s with heap := h', gens := g', drawn := d', toks := t' } := by
  obtain ⟨m, ⟨o, es, ep, ho, r⟩, _⟩ := id I.loc
  obtain ⟨sl, hL⟩ := u.any ho I.free fun z => (hch _ z).2.1 rfl
  exact I.step (ch := ch) hch (fun b o hL hb hc e n => u.keep b o e n (fun z => (List.mem_cons.mp (I.stkSub b z)).elim hL hb) hc) (fun b o _ _ hc e n => u.any e n hc) (fun b o hc e n => u.free b o e n hc) (fun b o hc e => u.there b o e hc) u.tups u.frzs u.tbls (fun m' hm => by
    obtain ⟨o', es', ep', ho', r'⟩ := hm
    rw [ho] at ho'; cases ho'
    exact ⟨_, es', ep', hL, r'⟩) hok hg
/-- an untracked record of ours (an iterator) has turned -/
theorem Inv.turned {t' : Nat} {it : Addr} (I : Inv X pins σ H s) (k : ∀ b o, b ≠ it → s.heap.get? b = some o → h'.get? b = some o) (hn : H it = none) (hL : it ≠ X.env.locals)
    (h1 : it ∈ X.ex ∨ X.s₀.heap.objs.size ≤ it) (h2 : ∀ x c, X.env.cells.lookup x = some c → c ≠ it) (h3 : ∀ p ∈ X.pn ++ pins, p.1 ≠ it) : Inv X pins σ H { s with heap := h', toks := t' } := by
  have nit : ∀ b u, H b = some u → b ≠ it := fun b u e z => by rw [z, hn] at e; cases e
  refine I.step (g' := s.gens) (d' := s.drawn) (ch := [it]) (fun b hb => ?_) (fun b o _ _ hc e _ => k b o (fun z => hc (by simp [z])) e) (fun b o _ _ hc e _ => ⟨o.slots, k b o (fun z => hc (by simp [z])) e⟩) (fun _ _ _ _ n => n)
    (fun b o hc e => ⟨o, k b o (fun z => hc (by simp [z])) e⟩) (fun _ _ e => e) (fun _ _ _ e => e) (fun b ps e => ⟨#[], by rw [e]; simp⟩) (fun m hm => ?_) (fun b u e => ?_) I.bare
  · have e : b = it := by simpa using hb
    subst e
    exact ⟨h1, hL, h2, h3⟩
  · obtain ⟨o, es, ep, ho, r⟩ := hm
    exact ⟨o, es, ep, k _ o (Ne.symm hL) ho, r⟩
  · refine (I.hok b u e).stay (fun c v hc q => k c v ?_ q) (fun _ q => q) fun _ _ q => q
    rcases hc with z | z
    · rw [z]; exact nit b u e
    · exact nit c _ z
theorem Inv.tok (I : Inv X pins σ H s) (t : Nat) : Inv X pins σ H { s with toks := t } := I.un (h' := s.heap) (t' := t) Un.refl I.hok
/-- all objects kept -/
theorem Inv.kept {t' : Nat} (I : Inv X pins σ H s) (k : ∀ b u, s.heap.get? b = some u → h'.get? b = some u) : Inv X pins σ H { s with heap := h', toks := t' } := I.un (Un.kept k) (I.hok.kept k)
/-- a new object laid and tracked -/
theorem Inv.laid {a : Addr} {o : HO} {t' : Nat} (I : Inv X pins σ H s) (k : ∀ b u, s.heap.get? b = some u → h'.get? b = some u) (hp : s.heap.objs.size ≤ a) (new : ObjOk X.prog X.w (upd H a o) h' a o) :
    Inv X pins σ (upd H a o) { s with heap := h', toks := t' } := I.un (Un.laid k hp (I.hok.fresh hp)) (I.hok.laid k hp new)
/-- an object written -/
theorem Inv.write {x e : Addr} {o : HO} {t' : Nat} (I : Inv X pins σ H s) (mu : Mut (H x)) (he : e = x ∨ H e = some (.own x)) (k : ∀ b u, b ≠ e → s.heap.get? b = some u → h'.get? b = some u) (heo : ∃ u, h'.get? e = some u)
    (new : ObjOk X.prog X.w (upd H x o) h' x o) : Inv X pins σ (upd H x o) { s with heap := h', toks := t' } := I.un (Un.write mu he k heo) (I.hok.write mu he k heo new)
theorem Inv.pins_of {pins' : List (Addr × Obj)} (I : Inv X pins σ H s) (h : ∀ p ∈ pins', s.heap.get? p.1 = some p.2 ∧ H p.1 = none ∧ p.1 ≠ X.env.locals ∧ p.1 ∉ X.fs ∧ ∀ v, p.2.data ≠ .cell v) : Inv X pins' σ H s :=
  ⟨I.ok, I.os, I.bare, I.base, I.loc, I.cell, I.free, I.freeC, fun p hp => (List.mem_append.mp hp).elim (fun z => I.pin p (List.mem_append_left _ z)) (h p), I.hok, I.len⟩

theorem nodup_ix {N : List Str} (hN : N.Nodup) {i j : Nat} {x : Str} (a : N[i]? = some x) (b : N[j]? = some x) : i = j := by
  obtain ⟨h1, e1⟩ := List.getElem?_eq_some_iff.mp a
  obtain ⟨h2, e2⟩ := List.getElem?_eq_some_iff.mp b
  exact (List.getElem_inj hN).mp (e1.trans e2.symm)

/-- a name is stored; what changed -/
theorem store_ok2 {M : Model} {A : Around} {E : Value → Shared → Prop} {i : Nat} {x : Str} {v : V} {u : Value} {Q : Unit → Shared → Prop} (I : Inv X pins σ H s) (hN : X.N.Nodup) (hi : X.N[i]? = some x) (hx : Loc X.env.scope x) (r : RelV v u)
    (h : ∀ s', Inv X pins (σ.set i (some v)) H s' → (∃ a, Heap.SameBut a s.heap s'.heap ∧ (a = X.env.locals ∨ X.env.cells.lookup x = some a)) → Q () s') (hf : X.fn x = true ∨ X.env.scope.names.lookup x = some .local := by first | exact .inl rfl | exact .inr rfl | assumption) : wpAny M A (storeName X.env x u) Q E s := by
  obtain ⟨m, hn, hl⟩ := id I.loc
  have hcls : (X.env.scope.kind == .class || (X.env.scope.kind == .module && X.env.locals != X.env.globals)) = false := by rw [I.ok.kind]; rfl
  have hiσ : i < σ.length := by rw [I.len]; exact (List.getElem?_eq_some_iff.mp hi).1
  have cne := I.cne
  have tracked : ∀ {a : Addr} {h' : Heap}, (∃ o, s.heap.get? a = some o ∧ H a = none) → Heap.SameBut a s.heap h' → HOk X.prog X.w H h' := fun {a h'} ha hs b ob e => by
    obtain ⟨_, _, hfree⟩ := ha
    refine (I.hok b ob e).stay (fun c w' hc q => (hs.2 c ?_).trans q) (fun _ q => q) fun _ _ q => q
    rintro rfl
    rcases hc with rfl | hc
    · rw [hfree] at e; cases e
    · rw [hfree] at hc; cases hc
  rcases hx with hk | hk
  · refine wpAny_storeName_local hk hn (fun h' hn' hs => ?_) hcls
    obtain ⟨oL, _, _, hoL, _⟩ := id hn
    refine h _ ⟨I.ok, I.os, I.bare, ⟨fun b o e n hb hx => ?_, fun b o e n hb hx => ?_, I.base.free, fun b o e hx => ?_, I.base.tups, I.base.frzs, I.base.tbls⟩, ⟨_, hn', fun j y v' e1 e2 e3 => ?_⟩, fun y c e => ?_, I.free, I.freeC, fun p hp => ?_, tracked ⟨oL, hoL, I.free⟩ hs, by simpa using I.len⟩ ⟨_, hs, .inl rfl⟩
    · exact (hs.2 b (Nat.ne_of_lt (Nat.lt_of_lt_of_le (Heap.lt_size e) I.ok.above))).trans (I.base.keep b o e n hb hx)
    · obtain ⟨sl, e1⟩ := I.base.slot b o e n hb hx
      exact ⟨sl, (hs.2 b (Nat.ne_of_lt (Nat.lt_of_lt_of_le (Heap.lt_size e) I.ok.above))).trans e1⟩
    · obtain ⟨o', e1⟩ := I.base.there b o e hx
      exact ⟨o', (hs.2 b (Nat.ne_of_lt (Nat.lt_of_lt_of_le (Heap.lt_size e) I.ok.above))).trans e1⟩
    · by_cases hj : j = i
      · subst hj
        rw [hi] at e1; cases e1
        rw [List.getElem?_set_self hiσ] at e2
        cases e2
        exact ⟨u, r, .inl ⟨hk, by simp⟩⟩
      · rw [List.getElem?_set_ne (Ne.symm hj)] at e2
        obtain ⟨u', r', q⟩ := hl j y v' e1 e2 e3
        refine ⟨u', r', ?_⟩
        rcases q with ⟨k, e⟩ | ⟨k, c, e, z⟩
        · refine .inl ⟨k, ?_⟩
          have : y ≠ x := fun e => hj (nodup_ix hN e1 (e ▸ hi))
          simp [this, e]
        · exact .inr ⟨k, c, e, z.sameBut hs (cne y c e)⟩
    · obtain ⟨w', z⟩ := I.cell y c e
      exact ⟨w', z.sameBut hs (cne y c e)⟩
    · obtain ⟨e, n, ne, nf, d⟩ := I.pin p hp
      exact ⟨(hs.2 p.1 ne).trans e, n, ne, nf, d⟩
  · have hfn : X.fn x = true := by
      rcases hf with z | z
      · exact z
      · rw [z] at hk; cases hk
    obtain ⟨c, hc⟩ := I.ok.has x (.inl hk)
    obtain ⟨w', z⟩ := I.cell x c hc
    refine wpAny_storeName_cell I.ok.kind hk hc z (fun h' hc' hs => ?_)
    obtain ⟨oc, hoc, hocd⟩ := id z
    refine h { s with heap := h' } ⟨I.ok, I.os, I.bare, ⟨fun b o e n hb hx => ?_, fun b o e n hb hx => ?_, I.base.free, fun b o e hx => ?_, I.base.tups, I.base.frzs, I.base.tbls⟩, ⟨m, hn.sameBut hs (Ne.symm (cne x c hc)), fun j y v' e1 e2 e3 => ?_⟩, fun y c' e => ?_, I.free, I.freeC, fun p hp => ?_, tracked ⟨oc, hoc, I.freeC x c hc⟩ hs, by simpa using I.len⟩ ⟨c, hs, .inr hc⟩
    · exact (hs.2 b (Nat.ne_of_lt (Nat.lt_of_lt_of_le (Heap.lt_size e) (I.ok.cab x c hfn hc)))).trans (I.base.keep b o e n hb hx)
    · obtain ⟨sl, e1⟩ := I.base.slot b o e n hb hx
      exact ⟨sl, (hs.2 b (Nat.ne_of_lt (Nat.lt_of_lt_of_le (Heap.lt_size e) (I.ok.cab x c hfn hc)))).trans e1⟩
    · obtain ⟨o', e1⟩ := I.base.there b o e hx
      exact ⟨o', (hs.2 b (Nat.ne_of_lt (Nat.lt_of_lt_of_le (Heap.lt_size e) (I.ok.cab x c hfn hc)))).trans e1⟩
    · by_cases hj : j = i
      · subst hj
        rw [hi] at e1; cases e1
        rw [List.getElem?_set_self hiσ] at e2
        cases e2
        exact ⟨u, r, .inr ⟨.inl hk, c, hc, hc'⟩⟩
      · rw [List.getElem?_set_ne (Ne.symm hj)] at e2
        obtain ⟨u', r', q⟩ := hl j y v' e1 e2 e3
        refine ⟨u', r', ?_⟩
        rcases q with q | ⟨k, c', e, z'⟩
        · exact .inl q
        · refine .inr ⟨k, c', e, z'.sameBut hs ?_⟩
          rintro rfl
          exact hj (nodup_ix hN e1 (I.ok.inj _ _ _ e hc ▸ hi))
    · by_cases hcc : c' = c
      · subst hcc; exact ⟨_, hc'⟩
      · obtain ⟨w2, z2⟩ := I.cell y c' e
        exact ⟨w2, z2.sameBut hs hcc⟩
    · obtain ⟨e, n, ne, nf, d⟩ := I.pin p hp
      refine ⟨(hs.2 p.1 ?_).trans e, n, ne, nf, d⟩
      intro q
      rw [q, hoc] at e
      have q' : oc = p.2 := Option.some.inj e
      exact d w' (by rw [← q']; exact hocd)
theorem store_ok {M : Model} {A : Around} {E : Value → Shared → Prop} {i : Nat} {x : Str} {v : V} {u : Value} {Q : Unit → Shared → Prop} (I : Inv X pins σ H s) (hN : X.N.Nodup) (hi : X.N[i]? = some x) (hx : Loc X.env.scope x) (r : RelV v u)
    (h : ∀ s', Inv X pins (σ.set i (some v)) H s' → Q () s') (hf : X.fn x = true ∨ X.env.scope.names.lookup x = some .local := by first | exact .inl rfl | exact .inr rfl | assumption) : wpAny M A (storeName X.env x u) Q E s :=
  store_ok2 I hN hi hx r (fun s' I' _ => h s' I') hf
/-- behind a call or a block, the state as it is -/
theorem Inv.call' {s' : Shared} {ch : List Addr} (I : Inv X pins σ H s) (ho : s'.os = s.os) (u : Un (frs X.stack) ch H H' s.heap s'.heap) (hok : HOk X.prog X.w H' s'.heap) (hg : AllBare s'.gens)
    (hch : ∀ b ∈ ch, (b ∈ X.ex ∨ X.s₀.heap.objs.size ≤ b) ∧ b ≠ X.env.locals ∧ (∀ x c, X.env.cells.lookup x = some c → c ≠ b) ∧ ∀ p ∈ X.pn ++ pins, p.1 ≠ b) : Inv X pins σ H' s' := by
  obtain ⟨h', g', d', t', o'⟩ := s'
  have e : o' = s.os := ho
  subst e
  exact I.call (g' := g') (t' := t') (d' := d') u hok hg hch
end

/-! ### the judgements -/
/-- an exception: its class, its own dict's address (where it has one), the abstract heap behind it -/
abbrev XK := Value → Option Addr → Hp → Prop
abbrev St := List (Option V)
abbrev VK := V → Hp → Prop
/-- an expression's reading; a test's; an argument list's -/
abbrev TE := St → Hp → VK → Prop
abbrev TT := St → Hp → (Bool → Hp → Prop) → Prop
abbrev TA := St → Hp → (List V → Hp → Prop) → Prop
/-- what is wanted behind a statement -/
structure Ends where
  nx : St → Hp → Prop
  rt : VK
  bk : St → Hp → Prop := fun _ _ => False
  ct : St → Hp → Prop := fun _ _ => False
abbrev TS := Ends → St → Hp → Prop

def EP (X : Cx) (pins : List (Addr × Obj)) (σ : St) (Q : VK) (u : Value) (s' : Shared) : Prop := ∃ v H', Inv X pins σ H' s' ∧ RelV v u ∧ Q v H'
def TP (X : Cx) (pins : List (Addr × Obj)) (σ : St) (Q : Bool → Hp → Prop) (b : Bool) (s' : Shared) : Prop := ∃ H', Inv X pins σ H' s' ∧ Q b H'
def AP (X : Cx) (pins : List (Addr × Obj)) (σ : St) (Q : List V → Hp → Prop) (us : List Value) (s' : Shared) : Prop := ∃ vs H', Inv X pins σ H' s' ∧ Vals vs us ∧ Q vs H'
def SP (X : Cx) (pins : List (Addr × Obj)) (D : Ends) (f : Flow) (s' : Shared) : Prop :=
  match f with
  | .next => ∃ σ' H', Inv X pins σ' H' s' ∧ D.nx σ' H'
  | .brk => ∃ σ' H', Inv X pins σ' H' s' ∧ D.bk σ' H'
  | .cont => ∃ σ' H', Inv X pins σ' H' s' ∧ D.ct σ' H'
  | .ret u => ∃ v σ' H', Inv X pins σ' H' s' ∧ RelV v u ∧ D.rt v H'

def PE (X : Cx) (e : Expr) (t : TE) : Prop :=
  ∀ (pins : List (Addr × Obj)) (s : Shared) (σ : St) (H : Hp) (Q : VK), Inv X pins σ H s → t σ H Q → wpAny (model X.prog X.w) X.A (eval e X.env) (EP X pins σ Q) X.xe s
def PT (X : Cx) (e : Expr) (t : TT) : Prop :=
  ∀ (pins : List (Addr × Obj)) (s : Shared) (σ : St) (H : Hp) (Q : Bool → Hp → Prop), Inv X pins σ H s → t σ H Q → wpAny (model X.prog X.w) X.A (isTrue e X.env (eval e X.env)) (TP X pins σ Q) X.xe s
/-- a test whatever its 'whole' is (and, or) -/
def PW (X : Cx) (e : Expr) (t : TT) : Prop :=
  ∀ (whole : Sem Value) (pins : List (Addr × Obj)) (s : Shared) (σ : St) (H : Hp) (Q : Bool → Hp → Prop), Inv X pins σ H s → t σ H Q → wpAny (model X.prog X.w) X.A (isTrue e X.env whole) (TP X pins σ Q) X.xe s
theorem PW.pt {X : Cx} {e : Expr} {t : TT} (h : PW X e t) : PT X e t := h _
/-- an argument list (no star), from the left -/
def PA (X : Cx) (es : List Expr) (t : TA) : Prop :=
  ∀ (pos : Pos) (pins : List (Addr × Obj)) (s : Shared) (σ : St) (H : Hp) (Q : List V → Hp → Prop), Inv X pins σ H s → t σ H Q → wpAny (model X.prog X.w) X.A (spliced (backTo pos (starEach es X.env))) (AP X pins σ Q) X.xe s
def PS (X : Cx) (st : Stmt) (t : TS) : Prop :=
  ∀ (pins : List (Addr × Obj)) (s : Shared) (σ : St) (H : Hp) (D : Ends), Inv X pins σ H s → t D σ H → wpAny (model X.prog X.w) X.A (exec st X.env) (SP X pins D) X.xe s
def PSs (X : Cx) (st : List Stmt) (t : TS) : Prop :=
  ∀ (pins : List (Addr × Obj)) (s : Shared) (σ : St) (H : Hp) (D : Ends), Inv X pins σ H s → t D σ H → wpAny (model X.prog X.w) X.A (execs st X.env) (SP X pins D) X.xe s
/-- weaken the end -/
theorem thn {α : Type} {t : Sem α} {Q Q' : α → Shared → Prop} {M : Model} {A : Around} {E : Value → Shared → Prop} {s : Shared} (h : wpAny M A t Q E s) (hQ : ∀ a s, Q a s → Q' a s) : wpAny M A t Q' E s := wpAny_mono h hQ fun _ _ x => x
end L2

namespace L2
open PySem PySem.Spec PyProof.Rows
section
variable {X : Cx}

/-! ### names and constants -/
def tVar (i : Nat) : TE := fun σ H Q => ∃ v, σ[i]? = some (some v) ∧ Q v H
def tC (v : V) : TE := fun _ H Q => Q v H
theorem pe_var {i : Nat} {x : Str} {pos : Pos} (hN : X.N[i]? = some x) (hv : Vis X.env.scope x) (hd : (x == ("__debug__" : Str)) = false := by decide) (hcd : (x == ("__classdict__" : Str)) = false := by decide) : PE X (.Name x pos) (tVar i) := by
  intro pins s σ H Q I h
  obtain ⟨v, e, h⟩ := h
  obtain ⟨m, hn, hl⟩ := I.loc
  obtain ⟨u, r, l⟩ := hl i x v hN e hv
  have fin : EP X pins σ Q u s := ⟨v, H, I, r, h⟩
  rcases l with ⟨hk, hm⟩ | ⟨hk, c, hc, hcell⟩
  · exact wpAny_Name (wpAny_loadName_local I.ok.kind hk hn hm fin) hd
  · rcases hk with hk | hk
    · exact wpAny_Name (wpAny_loadName_cell I.ok.kind hk hc hcell fin) hd
    · exact wpAny_Name (wpAny_loadName_free I.ok.kind hk hc hcell fin hcd) hd
theorem pe_int {i j pos} : PE X (.Constant (.int i) j pos) (tC (.int i)) := fun _ _ _ H _ I h => wpAny_Constant_int ⟨.int i, H, I.tok _, ⟨_, rfl⟩, h⟩
theorem pe_bl {b j pos} : PE X (.Constant (.bool b) j pos) (tC (.bl b)) := fun _ _ _ H _ I h => Constant_bool ⟨.bl b, H, I, rfl, h⟩
/-- a global name of the def -/
def Gl (X : Cx) (x : Str) : Prop := X.env.kindOf x = some .globalImplicit
theorem ld_glob {E : Value → Shared → Prop} {pins : List (Addr × Obj)} {s : Shared} {σ : St} {H : Hp} {x : Str} {u : Value} {pos : Pos} {Q : Value → Shared → Prop} (I : Inv X pins σ H s) (hg : Gl X x) (hm : X.mg x = some u) (h : Q u s)
    (hd : (x == ("__debug__" : Str)) = false := by decide) : wpAny (model X.prog X.w) X.A (eval (.Name x pos) X.env) Q E s :=
  Calls.Name_function_global I.ok.kind hg (Calls.loadGlobal_global (by rw [I.ok.glob]; exact I.mod.glob.keeps I.bk) hm h) hd
theorem ld_blt {E : Value → Shared → Prop} {pins : List (Addr × Obj)} {s : Shared} {σ : St} {H : Hp} {x : Str} {u : Value} {pos : Pos} {Q : Value → Shared → Prop} (I : Inv X pins σ H s) (hg : Gl X x) (hm : X.mg x = none) (hv : bootBuiltins x = some u) (h : Q u s)
    (hn : x ≠ "__name__" := by decide) (hd : (x == ("__debug__" : Str)) = false := by decide) : wpAny (model X.prog X.w) X.A (eval (.Name x pos) X.env) Q E s := by
  obtain ⟨mb, h1, h2⟩ := I.mod.blt
  exact Calls.Name_function_global I.ok.kind hg (Calls.loadGlobal_builtin (by rw [I.ok.glob]; exact I.mod.glob.keeps I.bk) hm (by rw [I.ok.blt]; exact h1.keeps I.bk) ((h2 x hn).trans hv) h) hd
theorem pe_bltn {x : Str} {v : V} {u : Value} {pos : Pos} (hg : Gl X x) (hm : X.mg x = none) (hv : bootBuiltins x = some u) (r : RelV v u) (hn : x ≠ "__name__" := by decide) (hd : (x == ("__debug__" : Str)) = false := by decide) : PE X (.Name x pos) (tC v) :=
  fun _ _ _ H _ I h => ld_blt I hg hm hv ⟨v, H, I, r, h⟩ hn hd

/-! ### arithmetic -/
/-- two ints -/
def t2I (ta tb : TE) (k : Int → Int → Hp → Prop) : St → Hp → Prop := fun σ H => ta σ H fun x H1 => tb σ H1 fun y H2 => ∃ i j, x = .int i ∧ y = .int j ∧ k i j H2
def tAdd (ta tb : TE) : TE := fun σ H Q => t2I ta tb (fun i j H2 => Q (.int (i + j)) H2) σ H
def tSub (ta tb : TE) : TE := fun σ H Q => t2I ta tb (fun i j H2 => Q (.int (i - j)) H2) σ H
/-- the left factor below 2^64 -/
def tMul (ta tb : TE) : TE := fun σ H Q => t2I ta tb (fun i j H2 => (-(2 ^ 64) < i ∧ i < 2 ^ 64) ∧ Q (.int (i * j)) H2) σ H
variable {a b : Expr} {ta tb : TE} {pos : Pos}
/-! ### comparisons -/
def PC (X : Cx) (op : CmpOp) (a b : Expr) (t : TE) : Prop :=
  ∀ (pins : List (Addr × Obj)) (s : Shared) (σ : St) (H : Hp) (Q : VK), Inv X pins σ H s → t σ H Q →
    wpAny (model X.prog X.w) X.A (eval a X.env) (fun v s₁ => wpAny (model X.prog X.w) X.A (eval b X.env) (fun u s₂ => wpAny (model X.prog X.w) X.A (compareOp op v u) (EP X pins σ Q) X.xe s₂) X.xe s₁) X.xe s
def tCmp (p : Int → Int → Bool) (ta tb : TE) : TE := fun σ H Q => t2I ta tb (fun i j H2 => Q (.bl (p i j)) H2) σ H
abbrev tLt : TE → TE → TE := tCmp fun i j => decide (i < j)
abbrev tLe : TE → TE → TE := tCmp fun i j => decide (i ≤ j)
abbrev tGt : TE → TE → TE := tCmp fun i j => decide (j < i)
abbrev tGe : TE → TE → TE := tCmp fun i j => decide (j ≤ i)
abbrev tEqI : TE → TE → TE := tCmp fun i j => decide (i = j)
abbrev tNeI : TE → TE → TE := tCmp fun i j => !decide (i = j)
/-- is None -/
def tIsN (ta : TE) : TE := fun σ H Q => ta σ H fun x H1 => Q (.bl (decide (x = .non))) H1
def tNotN (ta : TE) : TE := fun σ H Q => ta σ H fun x H1 => Q (.bl (!decide (x = .non))) H1
/-- a comparison as a value, as a test -/
def tB (t : TE) : TT := fun σ H Q => t σ H fun x H1 => ∃ c, x = .bl c ∧ Q c H1
/-- an expression whose value is a bool, as a test -/
theorem pt_val {e : Expr} {t : TE} (h : PE X e t) (he : ∀ whole, isTrue e X.env whole = (do let v ← whole; standAt e.pos; holding [v] (truthy v)) := by intro _; rfl) : PT X e (tB t) := by
  intro pins s σ H Q I hw
  refine isTrue_plain (thn (h pins s σ H _ I hw) fun v s1 ⟨x, H1, I1, r1, q1⟩ => ?_) (he _)
  obtain ⟨d, rfl, q⟩ := q1
  cases r1
  exact wpAny_truthy_bool ⟨H1, I1, q⟩

/-! ### and, or, not -/
variable {tA tB' : TT} {rest : List Expr}
def tAnd (t u : TT) : TT := fun σ H Q => t σ H fun c H1 => if c = true then u σ H1 Q else Q false H1
def tOr (t u : TT) : TT := fun σ H Q => t σ H fun c H1 => if c = true then Q true H1 else u σ H1 Q
def tNot (t : TT) : TT := fun σ H Q => t σ H fun c H1 => Q (!c) H1
theorem pw_or1 (ha : PT X a tA) : PW X (.BoolOp .Or [a] pos) tA := by
  intro wh pins s σ H Q I h
  refine isTrue_or (thn (ha pins s σ H Q I h) fun c s1 e => ?_)
  cases c with
  | false => exact isTrue_or_nil e
  | true => exact e
theorem pw_or (ha : PT X a tA) (hb : PW X (.BoolOp .Or (b :: rest) pos) tB') : PW X (.BoolOp .Or (a :: b :: rest) pos) (tOr tA tB') := by
  intro wh pins s σ H Q I h
  refine isTrue_or (thn (ha pins s σ H _ I h) fun c s1 ⟨H1, I1, q1⟩ => ?_)
  cases c with
  | true => exact ⟨H1, I1, q1⟩
  | false => exact hb wh pins s1 σ H1 Q I1 q1
theorem pt_not (ha : PT X a tA) : PT X (.UnaryOp .Not a pos) (tNot tA) := by
  intro pins s σ H Q I h
  exact isTrue_not (ha pins s σ H (fun c H1 => Q (!c) H1) I h)
/-- .. as values (bools) -/
def tAndV (ta tb : TE) : TE := fun σ H Q => ta σ H fun x H1 => ∃ c, x = .bl c ∧ if c = true then tb σ H1 Q else Q (.bl false) H1
def tOrV (ta tb : TE) : TE := fun σ H Q => ta σ H fun x H1 => ∃ c, x = .bl c ∧ if c = true then Q (.bl true) H1 else tb σ H1 Q
def tNotV (ta : TE) : TE := fun σ H Q => ta σ H fun x H1 => ∃ c, x = .bl c ∧ Q (.bl (!c)) H1
theorem pe_one {op} {t : TE} (h : PE X a t) : PE X (.BoolOp op [a] pos) t := fun pins s σ H Q I hw => BoolOp_one (h pins s σ H Q I hw)
theorem pe_and (ha : PE X a ta) (hb : PE X (.BoolOp .And (b :: rest) pos) tb) : PE X (.BoolOp .And (a :: b :: rest) pos) (tAndV ta tb) := by
  intro pins s σ H Q I h
  refine BoolOp_and (thn (ha pins s σ H _ I h) fun v s1 ⟨x, H1, I1, r1, q1⟩ => ?_)
  obtain ⟨c, rfl, q1⟩ := q1
  cases r1
  refine wpAny_truthy_bool ?_
  cases c with
  | true => exact hb pins s1 σ H1 Q I1 q1
  | false => exact ⟨.bl false, H1, I1, rfl, q1⟩
theorem pe_not (ha : PE X a ta) : PE X (.UnaryOp .Not a pos) (tNotV ta) := by
  intro pins s σ H Q I h
  refine UnaryOp_ (thn (ha pins s σ H _ I h) fun v s1 ⟨x, H1, I1, r1, q1⟩ => ?_)
  obtain ⟨c, rfl, q1⟩ := q1
  cases r1
  exact not_of (wpAny_truthy_bool ⟨.bl (!c), H1, I1, rfl, q1⟩)
/-- a if t else b -/
def tIf (t : TT) (ta tb : TE) : TE := fun σ H Q => t σ H fun c H1 => if c = true then ta σ H1 Q else tb σ H1 Q
end
end L2

namespace L2
open PySem PySem.Spec PyProof.Rows

/-! ### a list, a tuple that is read: tracked, frozen, or an object of the module -/
def SqL (K : PySem.W.Frag) (H : Hp) (a : Addr) (xs : List V) : Prop :=
  Rd H a (.lst xs) ∨
    ∃ (o : Obj) (its : Array Value) (n : Nat), K.lookup a = some o ∧ o.cls = .type "list" ∧ o.dict = none ∧ o.data = .seq its n ∧ its.size ≤ sizeLine ∧ Vals xs its.toList
def SqT (K : PySem.W.Frag) (H : Hp) (a : Addr) (xs : List V) : Prop :=
  Rd H a (.tup xs) ∨
    ∃ (o : Obj) (its : Array Value) (n : Nat), K.lookup a = some o ∧ o.cls = .type "tuple" ∧ o.data = .seq its n ∧ its.size ≤ sizeLine ∧ Vals xs its.toList
def absV : Value → Option V
  | .none => some .non
  | .bool b => some (.bl b)
  | .int i _ => some (.int i)
  | .str x _ => some (.str x)
  | .bytes b _ => some (.byt b)
  | .float b _ => some (.flt b)
  | .ref a => some (.ref a)
  | .type n => some (.ty n)
  | _ => none
theorem RelV.abs {x : V} {u : Value} (r : RelV x u) : absV u = some x := by
  cases x with
  | non => cases r; rfl
  | bl _ => cases r; rfl
  | int _ => obtain ⟨t, rfl⟩ := r; rfl
  | str _ => obtain ⟨t, rfl⟩ := r; rfl
  | byt _ => obtain ⟨t, rfl⟩ := r; rfl
  | flt _ => obtain ⟨t, rfl⟩ := r; rfl
  | ref _ => cases r; rfl
  | ty _ => cases r; rfl
theorem RelV.inj {x y : V} {u : Value} (r : RelV x u) (q : RelV y u) : x = y := Option.some.inj (r.abs.symm.trans q.abs)
theorem Vals.inj : ∀ {xs ys : List V} {us : List Value}, Vals xs us → Vals ys us → xs = ys
  | _, _, _, .nil, .nil => rfl
  | _, _, _, .cons r t, .cons r' t' => by rw [r.inj r', Vals.inj t t']
section
variable {X : Cx} {pins : List (Addr × Obj)} {σ : St} {H : Hp} {s : Shared} {a : Addr} {xs ys : List V}
theorem SqL.of {K : PySem.W.Frag} (h : H a = some (.lst xs)) : SqL K H a xs := .inl (.inl h)
theorem SqT.of {K : PySem.W.Frag} (h : H a = some (.tup xs)) : SqT K H a xs := .inl (.inl h)
theorem Inv.list (I : Inv X pins σ H s) (h : SqL X.K H a xs) : ∃ its : List Value, Vals xs its ∧ PlainL s.heap a its.toArray ∧ xs.length ≤ sizeLine := by
  rcases h with h | ⟨o, its, n, hk, hc, hd, hs, hz, r⟩
  · obtain ⟨z, its, n, r, e⟩ := h.ok I.hok
    exact ⟨its, r, ⟨_, n, e, rfl, rfl, rfl⟩, z⟩
  · refine ⟨its.toList, r, ⟨o, n, I.kIn a o hk, hc, hd, by simpa using hs⟩, ?_⟩
    have e := r.length
    simp only [Array.length_toList] at e
    omega
theorem Inv.tuple (I : Inv X pins σ H s) (h : SqT X.K H a xs) : ∃ its : List Value, Vals xs its ∧ IsTup s.heap a its.toArray ∧ xs.length ≤ sizeLine := by
  rcases h with h | ⟨o, its, n, hk, hc, hs, hz, r⟩
  · obtain ⟨z, its, r, p⟩ := h.ok I.hok
    exact ⟨its, r, p, z⟩
  · refine ⟨its.toList, r, ⟨o, I.kIn a o hk, hc, n, by simpa using hs⟩, ?_⟩
    have e := r.length
    simp only [Array.length_toList] at e
    omega
theorem Inv.list_inj (I : Inv X pins σ H s) (h : SqL X.K H a xs) (h' : SqL X.K H a ys) : xs = ys := by
  obtain ⟨its, r, ⟨o, n, e, _, _, d⟩, _⟩ := I.list h
  obtain ⟨its', r', ⟨o', n', e', _, _, d'⟩, _⟩ := I.list h'
  rw [e] at e'; cases e'
  rw [d] at d'
  injection d' with d1 _
  have : its = its' := by simpa using congrArg Array.toList d1
  subst this
  exact r.inj r'
theorem Inv.tuple_inj (I : Inv X pins σ H s) (h : SqT X.K H a xs) (h' : SqT X.K H a ys) : xs = ys := by
  obtain ⟨its, r, ⟨o, e, _, n, d⟩, _⟩ := I.tuple h
  obtain ⟨its', r', ⟨o', e', _, n', d'⟩, _⟩ := I.tuple h'
  rw [e] at e'; cases e'
  rw [d] at d'
  injection d' with d1 _
  have : its = its' := by simpa using congrArg Array.toList d1
  subst this
  exact r.inj r'
end

/-! ### another wish about exceptions -/
abbrev Cx.wish (X : Cx) (E : Value → Shared → Prop) : Cx := { X with xe := E }
/-- no exception leaves -/
abbrev Cx.nox (X : Cx) : Cx := X.wish fun _ _ => False
theorem Cx.Ok.wish {X : Cx} (ok : X.Ok) (E : Value → Shared → Prop) : (X.wish E).Ok :=
  ⟨ok.mod, ok.kind, ok.glob, ok.blt, ok.above, ok.inj, ok.has, ok.cab, ok.hd, ok.frames, ok.stk, ok.exf, ok.bs, ok.bsz, ok.noex, ok.exfs, ok.funs, ok.frf⟩
theorem Cx.Ok.unwish {X : Cx} {E : Value → Shared → Prop} (ok : (X.wish E).Ok) : X.Ok :=
  ⟨ok.mod, ok.kind, ok.glob, ok.blt, ok.above, ok.inj, ok.has, ok.cab, ok.hd, ok.frames, ok.stk, ok.exf, ok.bs, ok.bsz, ok.noex, ok.exfs, ok.funs, ok.frf⟩
section
variable {X : Cx} {pins : List (Addr × Obj)} {σ : St} {H : Hp} {s : Shared} {E : Value → Shared → Prop}
theorem Inv.wish (I : Inv X pins σ H s) (E : Value → Shared → Prop) : Inv (X.wish E) pins σ H s := ⟨I.ok.wish E, I.os, I.bare, I.base, I.loc, I.cell, I.free, I.freeC, I.pin, I.hok, I.len⟩
theorem Inv.unwish (I : Inv (X.wish E) pins σ H s) : Inv X pins σ H s := ⟨I.ok.unwish, I.os, I.bare, I.base, I.loc, I.cell, I.free, I.freeC, I.pin, I.hok, I.len⟩
theorem SP.unwish {D : Ends} {f : Flow} {s' : Shared} (h : SP (X.wish E) pins D f s') : SP X pins D f s' := by
  cases f with
  | next => obtain ⟨σ', H', I, q⟩ := h; exact ⟨σ', H', I.unwish, q⟩
  | brk => obtain ⟨σ', H', I, q⟩ := h; exact ⟨σ', H', I.unwish, q⟩
  | cont => obtain ⟨σ', H', I, q⟩ := h; exact ⟨σ', H', I.unwish, q⟩
  | ret u => obtain ⟨v, σ', H', I, r, q⟩ := h; exact ⟨v, σ', H', I.unwish, r, q⟩
theorem PE.nox {e : Expr} {t : TE} (h : PE X.nox e t) : PE X e t := fun pins s σ H Q I hw =>
  wpAny_mono (h pins s σ H Q (I.wish _) hw) (fun _ _ ⟨v, H', I', r, q⟩ => ⟨v, H', I'.unwish, r, q⟩) fun _ _ z => False.elim z
theorem PT.nox {e : Expr} {t : TT} (h : PT X.nox e t) : PT X e t := fun pins s σ H Q I hw =>
  wpAny_mono (h pins s σ H Q (I.wish _) hw) (fun _ _ ⟨H', I', q⟩ => ⟨H', I'.unwish, q⟩) fun _ _ z => False.elim z
theorem PSs.nox {st : List Stmt} {t : TS} (h : PSs X.nox st t) : PSs X st t := fun pins s σ H D I hw =>
  wpAny_mono (h pins s σ H D (I.wish _) hw) (fun _ _ q => q.unwish) fun _ _ z => False.elim z
end

/-! ### blocks and small statements -/
section
variable {X : Cx} {st : Stmt} {rest : List Stmt} {t u : TS} {e : Expr} {te : TE} {pos : Pos}
def tNext : TS := fun D σ H => D.nx σ H
def tSeq (t u : TS) : TS := fun D σ H => t { D with nx := u D } σ H
theorem pss_nil : PSs X [] tNext := fun _ _ σ H _ I h => wpAny_execs_nil ⟨σ, H, I, h⟩
theorem pss_cons (h1 : PS X st t) (h2 : PSs X rest u) : PSs X (st :: rest) (tSeq t u) := by
  intro pins s σ H D I h
  refine wpAny_execs_cons (thn (h1 pins s σ H { D with nx := u D } I h) fun f s1 q => ?_)
  cases f with
  | next =>
    obtain ⟨σ', H', I', q⟩ := q
    exact h2 pins s1 σ' H' D I' q
  | ret v => exact q
  | brk => exact q
  | cont => exact q
theorem pss_one (h1 : PS X st t) : PSs X [st] t := by
  intro pins s σ H D I h
  refine wpAny_execs_cons (thn (h1 pins s σ H D I h) fun f s1 q => ?_)
  cases f with
  | next => exact wpAny_execs_nil q
  | ret v => exact q
  | brk => exact q
  | cont => exact q
def tBreak : TS := fun D σ H => D.bk σ H
def tCont : TS := fun D σ H => D.ct σ H
/-- in a def's body nothing is shown -/
theorem Inv.quiet {pins : List (Addr × Obj)} {σ : St} {H : Hp} {s : Shared} (I : Inv X pins σ H s) : interactive X.env = false := by simp [interactive, I.ok.kind]
/-- an expression whose value is dropped -/
def tDrop (te : TE) : TS := fun D σ H => te σ H fun _ H1 => D.nx σ H1
theorem ps_expr (he : PE X e te) (hs : swapsWith e none pos.line X.env = pure false := by rfl) : PS X (.Expr e pos) (tDrop te) := by
  intro pins s σ H D I h
  exact wpAny_Expr_any (thn (he pins s σ H _ I h) fun v s1 ⟨x, H1, I1, r1, q1⟩ => ⟨σ, H1, I1, q1⟩) I.quiet hs
def tRet (te : TE) : TS := fun D σ H => te σ H D.rt
theorem ps_ret (he : PE X e te) : PS X (.Return (some e) pos) (tRet te) := by
  intro pins s σ H D I h
  exact wpAny_Return_some (thn (he pins s σ H _ I h) fun v s1 ⟨x, H1, I1, r1, q1⟩ => ⟨x, σ, H1, I1, r1, q1⟩)
def tRetN : TS := fun D _ H => D.rt .non H
def tIfS (c : TT) (t u : TS) : TS := fun D σ H => c σ H fun b H1 => if b = true then t D σ H1 else u D σ H1
theorem ps_if {c : Expr} {a b : List Stmt} {tc : TT} (hc : PT X c tc) (ha : PSs X a t) (hb : PSs X b u) : PS X (.If c a b pos) (tIfS tc t u) := by
  intro pins s σ H D I h
  refine wpAny_If (thn (hc pins s σ H _ I h) fun d s1 ⟨H1, I1, q1⟩ => ?_)
  cases d with
  | true => exact ha pins s1 σ H1 D I1 q1
  | false => exact hb pins s1 σ H1 D I1 q1
/-- code that the proof never comes to -/
def tNever : TS := fun _ _ _ => False
end

/-! ### targets -/
abbrev TG := V → St → Hp → (St → Hp → Prop) → Prop
abbrev TGs := List V → St → Hp → (St → Hp → Prop) → Prop
def PG (X : Cx) (target : Expr) (t : TG) : Prop :=
  ∀ (pins : List (Addr × Obj)) (s : Shared) (σ : St) (H : Hp) (v : V) (u : Value) (Q : St → Hp → Prop), Inv X pins σ H s → RelV v u → t v σ H Q →
    wpAny (model X.prog X.w) X.A (assign target X.env u) (fun _ s' => ∃ σ' H', Inv X pins σ' H' s' ∧ Q σ' H') X.xe s
/-- several targets, one after another -/
def PGs (X : Cx) (ts : List Expr) (t : TGs) : Prop :=
  ∀ (pins : List (Addr × Obj)) (s : Shared) (σ : St) (H : Hp) (vs : List V) (us : List Value) (Q : St → Hp → Prop), Inv X pins σ H s → Vals vs us → t vs σ H Q →
    wpAny (model X.prog X.w) X.A (assignInOrder ((assignEach ts X.env).map (·.2)) us) (fun _ s' => ∃ σ' H', Inv X pins σ' H' s' ∧ Q σ' H') X.xe s
/-- o[i] = v, by values -/
abbrev TSet := V → V → V → Hp → (Hp → Prop) → Prop
def PSet (X : Cx) (t : TSet) : Prop :=
  ∀ (pins : List (Addr × Obj)) (s : Shared) (σ : St) (H : Hp) (o i v : V) (ov iv u : Value) (Q : Hp → Prop), Inv X pins σ H s → RelV o ov → RelV i iv → RelV v u → t o i v H Q →
    wpAny (model X.prog X.w) X.A (setItem ov iv u) (fun _ s' => ∃ H', Inv X pins σ H' s' ∧ Q H') X.xe s
/-- a op= b, by values -/
abbrev TIp := V → V → Hp → VK → Prop
def PIp (X : Cx) (op : Operator) (t : TIp) : Prop :=
  ∀ (pins : List (Addr × Obj)) (s : Shared) (σ : St) (H : Hp) (x y : V) (v u : Value) (Q : VK), Inv X pins σ H s → RelV x v → RelV y u → t x y H Q →
    wpAny (model X.prog X.w) X.A (inplaceOp op v u) (EP X pins σ Q) X.xe s
section
variable {X : Cx} {pos : Pos}
def gName (i : Nat) : TG := fun v σ H Q => Q (σ.set i (some v)) H
theorem pg_name {i : Nat} {x : Str} (hN : X.N.Nodup) (hi : X.N[i]? = some x) (hx : Loc X.env.scope x) (hf : X.fn x = true ∨ X.env.scope.names.lookup x = some .local := by first | exact .inl rfl | exact .inr rfl | assumption) : PG X (.Name x pos) (gName i) := by
  intro pins s σ H v u Q I r h
  exact wpAny_assign_Name (store_ok I hN hi hx r (fun s' I' => ⟨_, H, I', h⟩) hf)
def gNil : TGs := fun vs σ H Q => vs = [] ∧ Q σ H
def gCons (t : TG) (u : TGs) : TGs := fun vs σ H Q => ∃ v r, vs = v :: r ∧ t v σ H fun σ' H' => u r σ' H' Q
/-- (a, b, ..) = a tuple of that length -/
def gTup (K : PySem.W.Frag) (n : Nat) (t : TGs) : TG := fun v σ H Q => ∃ a xs, v = .ref a ∧ SqT K H a xs ∧ xs.length = n ∧ t xs σ H Q
/-- o[i] = .. -/
def gSub (to ti : TE) (t : TSet) : TG := fun v σ H Q => to σ H fun o H1 => ti σ H1 fun i H2 => t o i v H2 fun H3 => Q σ H3
theorem pg_sub {o i : Expr} {to ti : TE} {t : TSet} (ho : PE X o to) (hi : PE X i ti) (hs : PSet X t)
    (ha : ∀ v, assign (.Subscript o i pos) X.env v = (do
      let ov ← holding [v] (eval o X.env)
      let iv ← holding [v, ov] (eval i X.env)
      standAt pos
      holding [v, ov, iv] (setItem ov iv v)
      release [v, ov, iv] []) := by intro _; rfl) : PG X (.Subscript o i pos) (gSub to ti t) := by
  intro pins s σ H v u Q I r h
  rw [ha]
  refine wpAny_bind (wpAny_holding (thn (ho pins s σ H _ I h) fun ov s1 ⟨x, H1, I1, r1, q1⟩ => ?_))
  refine wpAny_bind (wpAny_holding (thn (hi pins s1 σ H1 _ I1 q1) fun iv s2 ⟨y, H2, I2, r2, q2⟩ => ?_))
  refine wpAny_bind (wpAny_standAt (wpAny_bind (wpAny_holding (thn (hs pins s2 σ H2 x y v ov iv u _ I2 r1 r2 r q2) fun _ s3 ⟨H3, I3, q3⟩ => ?_))))
  exact wpAny_release ⟨σ, H3, I3, q3⟩
/-- target = value -/
def tAsg (te : TE) (g : TG) : TS := fun D σ H => te σ H fun x H1 => g x σ H1 D.nx
theorem ps_asg {tg e : Expr} {te : TE} {g : TG} (he : PE X e te) (hg : PG X tg g) (hs : swapsWithSole [tg] e pos.line X.env = pure false := by rfl) (hw : swappedStores [tg] e X.env = pure none := by rfl)
    (h1 : (assignEach [tg] X.env).map (·.2) = [assign tg X.env] := by rfl) : PS X (.Assign [tg] e pos) (tAsg te g) := by
  intro pins s σ H D I h
  refine wpAny_Assign_stores (thn (he pins s σ H _ I h) fun v s1 ⟨x, H1, I1, r1, q1⟩ => ?_) hs hw
  rw [h1]
  exact thn (hg pins s1 σ H1 x v _ I1 r1 q1) fun _ s2 q => q
/-- name = value -/
theorem ps_set {i : Nat} {x : Str} {e : Expr} {te : TE} {pos' : Pos} (hN : X.N.Nodup) (hi : X.N[i]? = some x) (hx : Loc X.env.scope x) (he : PE X e te) (hs : swapsWith e (some (.Name x pos')) pos.line X.env = pure false := by rfl) (hf : X.fn x = true ∨ X.env.scope.names.lookup x = some .local := by first | exact .inl rfl | exact .inr rfl | assumption) :
    PS X (.Assign [.Name x pos'] e pos) (tAsg te (gName i)) := by
  intro pins s σ H D I h
  refine wpAny_Assign_Name (thn (he pins s σ H _ I h) fun v s1 ⟨y, H1, I1, r1, q1⟩ => ?_) hs
  exact store_ok I1 hN hi hx r1 (fun s2 I2 => ⟨_, H1, I2, q1⟩) hf
/-- a, b = x, y with plain local names: stored from the right; the pair itself is not tracked (the opening rows as in PyProof/Rows/TupAssign.lean:23) -/
def tPar (i j : Nat) (ta : TA) : TS := fun D σ H => ta σ H fun vs H1 => ∃ v w, vs = [v, w] ∧ D.nx ((σ.set i (some v)).set j (some w)) H1
theorem ps_par {i j : Nat} {x y : Str} {a b : Expr} {ta : TA} {px py pt : Pos} {kt k2 pt2} (hc : X.calm = true) (hN : X.N.Nodup) (hi : X.N[i]? = some x) (hj : X.N[j]? = some y) (hij : i ≠ j)
    (hx : X.env.scope.names.lookup x = some .local) (hy : X.env.scope.names.lookup y = some .local) (ha : PA X [a, b] ta)
    (hw : swappedStores [.Tuple [.Name x px, .Name y py] kt pt] (.Tuple [a, b] k2 pt2) X.env = pure (some [x, y]))
    (hs : swapsWithSole [.Tuple [.Name x px, .Name y py] kt pt] (.Tuple [a, b] k2 pt2) pos.line X.env = pure false := by rfl) :
    PS X (.Assign [.Tuple [.Name x px, .Name y py] kt pt] (.Tuple [a, b] k2 pt2) pos) (tPar i j ta) := by
  intro pins s σ H D I h
  rw [exec_Assign_arm]
  refine wpAny_bind (wpAny_standAt ?_)
  rw [hs]
  refine wpAny_bind (wpAny_pure ?_)
  rw [if_neg (by decide)]
  refine wpAny_bind (Tuple_ (thn (ha _ pins s σ H _ I h) fun us s1 ⟨vs, H1, I1, r1, q1⟩ => ?_))
  obtain ⟨v, w, e1, q1⟩ := q1
  subst e1
  obtain ⟨u1, u2, rfl, rv, rw'⟩ : ∃ u1 u2, us = [u1, u2] ∧ RelV v u1 ∧ RelV w u2 := by
    cases r1 with
    | cons p q =>
      cases q with
      | cons p' q' =>
        cases q'
        exact ⟨_, _, rfl, p, p'⟩
  refine wpAny_newObj_type ?_ (by show 2 ≤ sizeLine; decide)
  have I2 : Inv X pins σ H1 { s1 with heap := s1.heap.push { cls := .type "tuple", data := .seq [u1, u2].toArray } } := I1.kept (t' := s1.toks) fun b o e => Heap.get?_push_of_some _ e
  rw [hw]
  refine wpAny_bind (wpAny_pure ?_)
  show wpAny (model X.prog X.w) X.A (do rule "assign.swapped-stores"; let items ← unpackItems (.ref s1.heap.objs.size) 2 none; assignInOrder [fun v => bindName X.env y v, fun v => bindName X.env x v] items.reverse; pure Flow.next) _ _ _
  refine wpAny_bind (wpAny_rule (wpAny_bind (unpackItems_tuple (items := #[u1, u2]) (I.ok.hd hc) (IsTup.new s1.heap _) fun h' hx' => ?_)))
  have I3 := I2.kept (h' := h') (t' := s1.toks) fun b o e => hx' b o (Nat.ne_of_lt (Heap.lt_size e)) e
  show wpAny _ _ (assignInOrder [fun v => bindName X.env y v, fun v => bindName X.env x v] [u2, u1] >>= fun _ => pure Flow.next) _ _ _
  refine wpAny_bind (assignInOrder_cons (wpAny_bindName (store_ok I3 hN hj (.inl hy) rw' (fun s2 I4 => ?_) (.inr hy))))
  refine assignInOrder_cons (wpAny_bindName (store_ok I4 hN hi (.inl hx) rv (fun s3 I5 => assignInOrder_nil (wpAny_pure ?_)) (.inr hx)))
  rw [List.set_comm _ _ (Ne.symm hij)] at I5
  exact ⟨_, H1, I5, q1⟩
/-- name op= e -/
def tAug (i : Nat) (te : TE) (ti : TIp) : TS := fun D σ H => ∃ x, σ[i]? = some (some x) ∧ te σ H fun y H1 => ti x y H1 fun z H2 => D.nx (σ.set i (some z)) H2
/-- o[i] op= e -/
def tAugS (to ti te : TE) (tget : V → V → Hp → VK → Prop) (tip : TIp) (tset : TSet) : TS := fun D σ H => to σ H fun o H1 => ti σ H1 fun i H2 => tget o i H2 fun x H3 => te σ H3 fun y H4 => tip x y H4 fun z H5 => tset o i z H5 fun H6 => D.nx σ H6
/-- o[i], by values -/
def PGet (X : Cx) (t : V → V → Hp → VK → Prop) : Prop :=
  ∀ (pins : List (Addr × Obj)) (s : Shared) (σ : St) (H : Hp) (o i : V) (ov iv : Value) (Q : VK), Inv X pins σ H s → RelV o ov → RelV i iv → t o i H Q →
    wpAny (model X.prog X.w) X.A (getItem ov iv) (EP X pins σ Q) X.xe s
/-- ints -/
def ipI (f : Int → Int → Int) : TIp := fun x y H Q => ∃ i j, x = .int i ∧ y = .int j ∧ Q (.int (f i j)) H
end

/-! ### while -/
section
variable {X : Cx} {pos : Pos}
/-- the invariant W with its measure -/
def tWhile (c : TT) (tb : TS) : TS := fun D σ H => ∃ W : Nat → St → Hp → Prop, (∃ m, W m σ H) ∧ ∀ m σ H, W m σ H →
  c σ H fun b H1 => if b = true then ∃ N : St → Hp → Prop, (∀ σ' H', N σ' H' → ∃ m', m' < m ∧ W m' σ' H') ∧ tb { D with nx := N, ct := N, bk := D.nx } σ H1 else D.nx σ H1
theorem ps_while {c : Expr} {body : List Stmt} {tc : TT} {tb : TS} (hp : PassesOwn (model X.prog X.w) X.A X.env X.xe) (hc : PT X c tc) (hb : PSs X body tb) : PS X (.While c body [] pos) (tWhile tc tb) := by
  intro pins s σ H D I h
  obtain ⟨W, ⟨m0, w0⟩, turn⟩ := h
  refine wpAny_While (codeAny_whileLoop (fun n s' => ∃ σ' H', Inv X pins σ' H' s' ∧ W n σ' H') ?_ m0 ⟨σ, H, I, w0⟩)
  rintro n s1 ⟨σ1, H1, I1, w1⟩
  refine wpAny_passesOwn hp (thn (hc pins s1 σ1 H1 _ I1 (turn n σ1 H1 w1)) fun b s2 ⟨H2, I2, q2⟩ => ?_)
  cases b with
  | true =>
    obtain ⟨N, hN, q2⟩ := q2
    rw [if_pos rfl]
    refine wpAny_passesOwn hp (thn (hb pins s2 σ1 H2 _ I2 q2) fun f s3 q3 => ?_)
    cases f with
    | next =>
      obtain ⟨σ3, H3, I3, n3⟩ := q3
      obtain ⟨m', hm, w3⟩ := hN σ3 H3 n3
      exact ⟨m', hm, σ3, H3, I3, w3⟩
    | cont =>
      obtain ⟨σ3, H3, I3, n3⟩ := q3
      obtain ⟨m', hm, w3⟩ := hN σ3 H3 n3
      exact ⟨m', hm, σ3, H3, I3, w3⟩
    | brk => exact q3
    | ret v => exact q3
  | false =>
    rw [if_neg Bool.false_ne_true]
    exact wpAny_execs_nil ⟨σ1, H2, I2, q2⟩
end

/-! ### what a loop or a comprehension walks -/
/-- at turn i: it yields x (the heap may grow), or it stops -/
structure It where
  go : Nat → Hp → Prop
  yld : Nat → Hp → V → Hp → Prop
  stop : Nat → Hp → Prop
/-- the iterator's own objects may turn: they are not the frame's, not pinned, younger than the entry (or a comprehension's own) -/
def FpOk (X : Cx) (pins : List (Addr × Obj)) (H : Hp) (b : Addr) : Prop :=
  H b = none ∧ b ≠ X.env.locals ∧ b ∉ X.fs ∧ (b ∈ X.ex ∨ X.s₀.heap.objs.size ≤ b) ∧ (∀ x c, X.env.cells.lookup x = some c → c ≠ b) ∧ ∀ p ∈ X.pn ++ pins, p.1 ≠ b
theorem Inv.fpOk {X : Cx} {pins : List (Addr × Obj)} {σ : St} {H H' : Hp} {s : Shared} {b : Addr} (I : Inv X pins σ H s) (hb : s.heap.objs.size ≤ b) (hn : H' b = none) : FpOk X pins H' b := by
  refine ⟨hn, Nat.ne_of_gt (Nat.lt_of_lt_of_le I.lt hb), I.nofs hb, .inr (Nat.le_trans I.sz hb), fun x c e z => ?_, fun p hp z => ?_⟩
  · obtain ⟨v, q⟩ := I.cell x c e
    exact absurd (Nat.lt_of_lt_of_le q.lt (by rw [z]; exact hb)) (Nat.lt_irrefl _)
  · exact absurd (Nat.lt_of_lt_of_le (Heap.lt_size (I.pin p hp).1) (by rw [z]; exact hb)) (Nat.lt_irrefl _)
structure Turn (P : Program) (w : World) (K : PySem.W.Frag) (tg : Expr) (J : It) (fp : List Addr) (it : Addr) (tn : Nat → Heap → Prop) : Prop where
  mem : it ∈ fp
  obj : ∀ i h, tn i h → ∀ b ∈ fp, ∃ o, h.get? b = some o ∧ ∀ v, o.data ≠ .cell v
  keep : ∀ i h h', tn i h → (∀ b ∈ fp, ∀ o, h.get? b = some o → h'.get? b = some o) → tn i h'
  item : ∀ (X : Cx), X.prog = P → X.w = w → X.K = K → X.calm = true → ∀ (i : Nat) (pins : List (Addr × Obj)) (s : Shared) (σ : St) (H : Hp) (E : Value → Shared → Prop), Inv X pins σ H s → (∀ b ∈ fp, FpOk X pins H b) → tn i s.heap → J.go i H →
    wpAny (model P w) X.A (pyNext (.ref it)) (fun r s1 => ∃ u, r = some u ∧
      wpAny (model P w) X.A (letOwnedTupleGo tg (.ref it) u) (fun _ s2 => ∃ x H', Inv X pins σ H' s2 ∧ RelV x u ∧ J.yld i H x H' ∧ tn (i + 1) s2.heap ∧ ∀ b ∈ fp, H' b = none) E s1) E s
  done : ∀ (X : Cx), X.prog = P → X.w = w → X.K = K → X.calm = true → ∀ (i : Nat) (pins : List (Addr × Obj)) (s : Shared) (σ : St) (H : Hp) (E : Value → Shared → Prop), Inv X pins σ H s → (∀ b ∈ fp, FpOk X pins H b) → tn i s.heap → J.stop i H →
    wpAny (model P w) X.A (pyNext (.ref it)) (fun r s1 => r = none ∧ Inv X pins σ H s1) E s
  self : ∀ (A : Around) (i : Nat) (s : Shared) (Q : Value → Shared → Prop) (E : Value → Shared → Prop), tn i s.heap → Q (.ref it) s → wpAny (model P w) A (pyIter (.ref it)) Q E s
abbrev TI := St → Hp → (It → Hp → Prop) → Prop
/-- an iterator has come -/
def PIE (X : Cx) (pins : List (Addr × Obj)) (σ : St) (tg : Expr) (R : It → Hp → Prop) (itv : Value) (s2 : Shared) : Prop :=
  ∃ (it : Addr) (fp : List Addr) (tn : Nat → Heap → Prop) (J : It) (H' : Hp), itv = .ref it ∧ Inv X pins σ H' s2 ∧ Turn X.prog X.w X.K tg J fp it tn ∧ tn 0 s2.heap ∧ (∀ b ∈ fp, FpOk X pins H' b) ∧ R J H'
def PI (X : Cx) (tg iter : Expr) (wi : TI) : Prop :=
  ∀ (pins : List (Addr × Obj)) (s : Shared) (σ : St) (H : Hp) (R : It → Hp → Prop), Inv X pins σ H s → wi σ H R →
    wpAny (model X.prog X.w) X.A (eval iter X.env) (fun v s1 => wpAny (model X.prog X.w) X.A (pyIter v) (PIE X pins σ tg R) X.xe s1) X.xe s

/-- the step ahead of the store is nothing for an iterator that keeps no tuple -/
theorem go_of {M : Model} {A : Around} {E : Value → Shared → Prop} {s : Shared} {tg : Expr} {it : Addr} {u : Value} {o : Obj} {n : String} {vs : Array Value} {Q : Unit → Shared → Prop} (ho : s.heap.get? it = some o) (hc : o.cls = .type n) (hd : o.data = .fields vs)
    (hn : ["enumerate", "zip", "dict_itemiterator", "dict_reverseitemiterator", "odict_iterator", "itertools.zip_longest", "itertools.pairwise"].contains n = false) (hQ : Q () s) : wpAny M A (letOwnedTupleGo tg (.ref it) u) Q E s := by
  unfold letOwnedTupleGo
  cases tg <;> first
    | exact wpAny_pure hQ
    | (cases u <;> first
        | exact wpAny_pure hQ
        | (refine wpAny_bind (wpAny_load ho ?_)
           rw [hc, hd]
           show wpAny M A (if (["enumerate", "zip", "dict_itemiterator", "dict_reverseitemiterator", "odict_iterator", "itertools.zip_longest", "itertools.pairwise"].contains n && vs[0]? == some (rawInt _)) = true then _ else _) Q E s
           rw [if_neg (by intro h; rw [hn, Bool.false_and] at h; cases h)]
           exact wpAny_pure hQ))

/-- the list at a, as it stands at each turn (a loop may append to it) -/
def Itl (K : PySem.W.Frag) (a : Addr) : It :=
  ⟨fun i H => ∃ xs x, SqL K H a xs ∧ xs[i]? = some x, fun i H x H' => H' = H ∧ ∀ xs, SqL K H a xs → xs[i]? = some x, fun i H => ∃ xs, SqL K H a xs ∧ xs.length ≤ i⟩
def Itt (K : PySem.W.Frag) (a : Addr) : It :=
  ⟨fun i H => ∃ xs x, SqT K H a xs ∧ xs[i]? = some x, fun i H x H' => H' = H ∧ ∀ xs, SqT K H a xs → xs[i]? = some x, fun i H => ∃ xs, SqT K H a xs ∧ xs.length ≤ i⟩
/-- lo, lo + 1, .. (n of them) -/
def Itr (lo : Int) (n : Nat) : It := ⟨fun i _ => i < n, fun i H x H' => H' = H ∧ x = .int (lo + i), fun i _ => n ≤ i⟩
theorem turn_list {P : Program} {w : World} {K : PySem.W.Frag} {tg : Expr} (a it : Addr) : Turn P w K tg (Itl K a) [it] it (fun i h => h.IsListIter it a i) where
  mem := by simp
  obj := fun i h st b hb => by
    have e : b = it := by simpa using hb
    subst e
    obtain ⟨o, e, c, d⟩ := st
    exact ⟨o, e, fun v z => by rw [d] at z; cases z⟩
  keep := fun i h h' st k => st.at fun o e => k it (by simp) o e
  item := by
    intro X hP hw hK hc i pins s σ H E I hf st hg
    subst hP hw hK
    obtain ⟨xs, x, hq, hx⟩ := hg
    obtain ⟨its, rv, p, hz⟩ := I.list hq
    obtain ⟨u, hu, ru⟩ := rv.get hx
    obtain ⟨f0, f1, f2, f3, f4, f5⟩ := hf it (by simp)
    refine wpAny_pyNext_list_item st p.isList (x := u) (by simpa using hu) fun h' st' sb => ?_
    have I1 : Inv X pins σ H { s with heap := h' } := I.turned (t' := s.toks) (fun b o hb e => (sb.2 b hb).trans e) f0 f1 f3 f4 f5
    obtain ⟨o, e, c, d⟩ := id st'
    exact ⟨u, rfl, go_of (s := { s with heap := h' }) e c d (by decide) ⟨x, H, I1, ru, ⟨rfl, fun ys hy => by rw [I.list_inj hy hq]; exact hx⟩, st', fun b hb => (hf b hb).1⟩⟩
  done := by
    intro X hP hw hK hc i pins s σ H E I hf st hg
    subst hP hw hK
    obtain ⟨xs, hq, hx⟩ := hg
    obtain ⟨its, rv, p, hz⟩ := I.list hq
    obtain ⟨f0, f1, f2, f3, f4, f5⟩ := hf it (by simp)
    have hl := rv.length
    exact wpAny_pyNext_list_end (I.ok.hd hc) st p.isList (by simp; omega) fun h' eb => ⟨rfl, I.turned (t' := s.toks) (fun b o hb e => eb b o hb e) f0 f1 f3 f4 f5⟩
  self := fun _ _ _ _ _ st h => wpAny_pyIter_listiter st h
theorem turn_tuple {P : Program} {w : World} {K : PySem.W.Frag} {tg : Expr} (a it : Addr) : Turn P w K tg (Itt K a) [it] it (fun i h => h.IsTupleIter it a i) where
  mem := by simp
  obj := fun i h st b hb => by
    have e : b = it := by simpa using hb
    subst e
    obtain ⟨o, e, c, d⟩ := st
    exact ⟨o, e, fun v z => by rw [d] at z; cases z⟩
  keep := fun i h h' st k => st.at fun o e => k it (by simp) o e
  item := by
    intro X hP hw hK hc i pins s σ H E I hf st hg
    subst hP hw hK
    obtain ⟨xs, x, hq, hx⟩ := hg
    obtain ⟨its, rv, p, hz⟩ := I.tuple hq
    obtain ⟨u, hu, ru⟩ := rv.get hx
    obtain ⟨f0, f1, f2, f3, f4, f5⟩ := hf it (by simp)
    refine wpAny_pyNext_tuple_item st (show s.heap.IsTuple a its.toArray from p) (x := u) (by simpa using hu) fun h' st' sb => ?_
    have I1 : Inv X pins σ H { s with heap := h' } := I.turned (t' := s.toks) (fun b o hb e => (sb.2 b hb).trans e) f0 f1 f3 f4 f5
    obtain ⟨o, e, c, d⟩ := id st'
    exact ⟨u, rfl, go_of (s := { s with heap := h' }) e c d (by decide) ⟨x, H, I1, ru, ⟨rfl, fun ys hy => by rw [I.tuple_inj hy hq]; exact hx⟩, st', fun b hb => (hf b hb).1⟩⟩
  done := by
    intro X hP hw hK hc i pins s σ H E I hf st hg
    subst hP hw hK
    obtain ⟨xs, hq, hx⟩ := hg
    obtain ⟨its, rv, p, hz⟩ := I.tuple hq
    obtain ⟨f0, f1, f2, f3, f4, f5⟩ := hf it (by simp)
    have hl := rv.length
    exact wpAny_pyNext_tuple_end (I.ok.hd hc) st (show s.heap.IsTuple a its.toArray from p) (by simp; omega) fun h' eb => ⟨rfl, I.turned (t' := s.toks) (fun b o hb e => eb b o hb e) f0 f1 f3 f4 f5⟩
  self := fun _ _ _ _ _ st h => wpAny_pyIter_tupleiter st h
theorem turn_range {P : Program} {w : World} {K : PySem.W.Frag} {tg : Expr} (it : Addr) (lo : Int) (n : Nat) : Turn P w K tg (Itr lo n) [it] it (fun i h => IsRangeIter h it (lo + (i : Nat) * 1) ((n : Int) - (i : Nat)) 1) where
  mem := by simp
  obj := fun i h st b hb => by
    have e : b = it := by simpa using hb
    subst e
    exact ⟨_, st, fun v z => by
      have z' : Data.fields _ = Data.cell v := z
      cases z'⟩
  keep := fun i h h' st k => k it (by simp) _ st
  item := by
    intro X hP hw hK hc i pins s σ H E I hf st hg
    subst hP hw hK
    obtain ⟨f0, f1, f2, f3, f4, f5⟩ := hf it (by simp)
    have W := Walks.range (prog := X.prog) (w := X.w) (I.ok.hd hc) it lo 1 n
    refine W.item i s _ _ hg st fun v h' tk hv st' kk => ?_
    obtain ⟨t, rfl⟩ := hv
    have I1 : Inv X pins σ H { s with heap := h', toks := tk } := I.turned (fun b o hb e => kk b o (by simpa using hb) e) f0 f1 f3 f4 f5
    refine ⟨_, rfl, go_of (s := { s with heap := h', toks := tk }) (n := "range_iterator") st' rfl rfl (by decide) ⟨.int (lo + i), H, I1, ⟨t, ?_⟩, ⟨rfl, rfl⟩, st', fun b hb => (hf b hb).1⟩⟩
    rw [Int.mul_one]
  done := by
    intro X hP hw hK hc i pins s σ H E I hf st hg
    subst hP hw hK
    obtain ⟨f0, f1, f2, f3, f4, f5⟩ := hf it (by simp)
    exact wpAny_pyNext_range_end (I.ok.hd hc) st (by have : n ≤ i := hg; omega) fun h' eb => ⟨rfl, I.turned (t' := s.toks) (fun b o hb e => eb b o hb e) f0 f1 f3 f4 f5⟩
  self := fun _ _ _ _ _ st h => wpAny_pyIter_rangeiter st h
end L2

namespace L2
open PySem PySem.Spec PyProof.Rows
section
variable {X : Cx} {tg : Expr}
def iList (K : PySem.W.Frag) (tl : TE) : TI := fun σ H R => tl σ H fun x H1 => ∃ a, x = .ref a ∧ (∃ xs, SqL K H1 a xs) ∧ R (Itl K a) H1
def iTup (K : PySem.W.Frag) (tl : TE) : TI := fun σ H R => tl σ H fun x H1 => ∃ a, x = .ref a ∧ (∃ xs, SqT K H1 a xs) ∧ R (Itt K a) H1
/-- a range object just made, walked -/
theorem range_it {pins : List (Addr × Obj)} {σ : St} {H : Hp} {s : Shared} {R : It → Hp → Prop} {E : Value → Shared → Prop} {lo hi : Int} {t u v : Tok} {tk : Nat} (I : Inv X pins σ H s) (h1 : -(2 ^ 62) ≤ lo) (h2 : lo < 2 ^ 62) (h3 : -(2 ^ 62) ≤ hi) (h4 : hi < 2 ^ 62)
    (q : R (Itr lo (hi - lo).toNat) H) : wpAny (model X.prog X.w) X.A (pyIter (.ref s.heap.objs.size)) (PIE X pins σ tg R) E { s with heap := s.heap.push { cls := .type "range", data := .fields #[.int lo t, .int hi u, .int 1 v] }, toks := tk } := by
  refine wpAny_pyIter_range (IsRange.new ..) (small_one h1 h2 h3 h4) ?_
  have I1 : Inv X pins σ H { s with heap := s.heap.push { cls := .type "range", data := .fields #[.int lo t, .int hi u, .int 1 v] }, toks := tk } := I.kept fun b o e => Heap.get?_push_of_some _ e
  refine ⟨(s.heap.push { cls := .type "range", data := .fields #[.int lo t, .int hi u, .int 1 v] }).objs.size, [(s.heap.push { cls := .type "range", data := .fields #[.int lo t, .int hi u, .int 1 v] }).objs.size], _, _, H, rfl,
    I1.kept (t' := tk) fun b o e => Heap.get?_push_of_some _ e, turn_range _ lo (hi - lo).toNat, ?_, fun b hb => ?_, q⟩
  · have e1 : lo + ((0 : Nat) : Int) * 1 = lo := by simp
    have e2 : (((hi - lo).toNat : Nat) : Int) - ((0 : Nat) : Int) = Builtin.Range.rangeSize lo hi 1 := by rw [rangeSize_one]; split <;> omega
    show IsRangeIter _ _ (lo + ((0 : Nat) : Int) * 1) ((((hi - lo).toNat : Nat) : Int) - ((0 : Nat) : Int)) 1
    rw [e1, e2]
    exact Heap.get?_push_size _ rfl
  · have e : b = (s.heap.push { cls := .type "range", data := .fields #[.int lo t, .int hi u, .int 1 v] }).objs.size := by simpa using hb
    subst e
    exact I1.fpOk (Nat.le_refl _) (I1.hok.fresh (Nat.le_refl _))
def iRng1 (ta : TA) : TI := fun σ H R => ta σ H fun vs H1 => ∃ j : Int, vs = [.int j] ∧ -(2 ^ 62) ≤ j ∧ j < 2 ^ 62 ∧ R (Itr 0 j.toNat) H1
def iRng2 (ta : TA) : TI := fun σ H R => ta σ H fun vs H1 => ∃ i j : Int, vs = [.int i, .int j] ∧ (-(2 ^ 62) ≤ i ∧ i < 2 ^ 62 ∧ -(2 ^ 62) ≤ j ∧ j < 2 ^ 62) ∧ R (Itr i (j - i).toNat) H1
/-! ### for -/
/-- W: the invariant by the turn and a measure; N: what the body is to reach -/
def tFor (wi : TI) (g : TG) (tb : TS) : TS := fun D σ H => wi σ H fun J H1 => ∃ W : Nat → Nat → St → Hp → Prop, (∃ m, W 0 m σ H1) ∧ ∀ i m σ H, W i m σ H →
  (J.stop i H ∧ D.nx σ H) ∨ (J.go i H ∧ ∃ N : St → Hp → Prop, (∀ σ' H', N σ' H' → ∃ m', m' < m ∧ W (i + 1) m' σ' H') ∧ ∀ x H', J.yld i H x H' → g x σ H' fun σ2 H2 => tb { D with nx := N, ct := N, bk := D.nx } σ2 H2)
/-- the records at fp as they stand -/
def pinsAt (fp : List Addr) (h : Heap) : List (Addr × Obj) := fp.filterMap fun b => (h.get? b).map fun o => (b, o)
theorem mem_pinsAt {fp : List Addr} {h : Heap} {b : Addr} {o : Obj} (hb : b ∈ fp) (e : h.get? b = some o) : (b, o) ∈ pinsAt fp h := List.mem_filterMap.mpr ⟨b, hb, by rw [e]; rfl⟩
theorem of_pinsAt {fp : List Addr} {h : Heap} {p : Addr × Obj} (hp : p ∈ pinsAt fp h) : p.1 ∈ fp ∧ h.get? p.1 = some p.2 := by
  obtain ⟨b, hb, e⟩ := List.mem_filterMap.mp hp
  cases q : h.get? b with
  | none => rw [q] at e; cases e
  | some o =>
    rw [q] at e
    have e' : (b, o) = p := Option.some.inj e
    subst e'
    exact ⟨hb, q⟩
theorem Inv.pinned {pins : List (Addr × Obj)} {σ : St} {H : Hp} {s : Shared} {fp : List Addr} (I : Inv X pins σ H s) (hf : ∀ b ∈ fp, FpOk X pins H b) (ho : ∀ b ∈ fp, ∃ o, s.heap.get? b = some o ∧ ∀ v, o.data ≠ .cell v) : Inv X (pins ++ pinsAt fp s.heap) σ H s :=
  I.pins_of fun p hp => (List.mem_append.mp hp).elim (fun z => I.pin p (List.mem_append_right _ z)) fun z => by
    obtain ⟨hb, e⟩ := of_pinsAt z
    obtain ⟨f0, f1, f2, _⟩ := hf p.1 hb
    obtain ⟨o, e', d⟩ := ho p.1 hb
    rw [e] at e'; cases e'
    exact ⟨e, f0, f1, f2, d⟩
theorem Inv.unpinned {pins pl : List (Addr × Obj)} {σ : St} {H : Hp} {s : Shared} (I : Inv X (pins ++ pl) σ H s) : Inv X pins σ H s := I.pins_of fun p hp => I.pin p (List.mem_append_right _ (List.mem_append_left _ hp))
theorem ps_for {iter : Expr} {body : List Stmt} {wi : TI} {g : TG} {tb : TS} {pos : Pos} (hp : PassesOwn (model X.prog X.w) X.A X.env X.xe) (hc : X.calm = true) (hi : PI X tg iter wi) (hg : PG X tg g) (hb : PSs X body tb)
    (hs : ∀ x, foldedSetIterable iter X.env x = pure x := by intro _; rfl) : PS X (.For tg iter body [] pos) (tFor wi g tb) := by
  intro pins s σ H D I h
  refine wpAny_For (thn (hi pins s σ H _ I h) fun v s1 h1 => thn h1 fun itv s2 h2 => ?_) hs
  obtain ⟨it, fp, tn, J, H2, e, I2, T, st2, f2, W, ⟨m0, w0⟩, turn⟩ := h2
  subst e
  -- what stays true of the iterator's objects through the loop
  have stat : ∀ {H' : Hp}, (∀ b ∈ fp, H' b = none) → ∀ b ∈ fp, FpOk X pins H' b := fun hn b hb => ⟨hn b hb, (f2 b hb).2⟩
  refine codeAny_forLoop_any (fun n s' => ∃ i σ' H', Inv X pins σ' H' s' ∧ tn i s'.heap ∧ (∀ b ∈ fp, H' b = none) ∧ W i n σ' H') ?_ m0 ⟨0, σ, H2, I2, st2, fun b hb => (f2 b hb).1, w0⟩
  rintro n s3 ⟨i, σ3, H3, I3, st3, fr3, w3⟩
  rcases turn i n σ3 H3 w3 with ⟨stop, qn⟩ | ⟨go, N, hN, step⟩
  · refine wpAny_passesOwn hp (thn (T.done X rfl rfl rfl hc i pins s3 σ3 H3 X.xe I3 (stat fr3) st3 stop) fun r s4 ⟨hr, I4⟩ => ?_)
    subst hr
    exact wpAny_execs_nil ⟨σ3, H3, I4, qn⟩
  · refine wpAny_passesOwn hp (thn (T.item X rfl rfl rfl hc i pins s3 σ3 H3 X.xe I3 (stat fr3) st3 go) fun r s4 ⟨u, hr, h4⟩ => ?_)
    subst hr
    refine wpAny_passesOwn hp (thn h4 fun _ s5 ⟨x, H5, I5, r5, y5, st5, fr5⟩ => ?_)
    have I5' := I5.pinned (stat fr5) (T.obj _ _ st5)
    refine wpAny_passesOwn hp (thn (hg _ s5 σ3 H5 x u _ I5' r5 (step x H5 y5)) fun _ s6 ⟨σ6, H6, I6, q6⟩ => ?_)
    refine wpAny_passesOwn hp (thn (hb _ s6 σ6 H6 _ I6 q6) fun f s7 q7 => ?_)
    have again : ∀ {σ7 : St} {H7 : Hp}, Inv X (pins ++ pinsAt fp s5.heap) σ7 H7 s7 → N σ7 H7 → ∃ m, m < n ∧ ∃ i σ' H', Inv X pins σ' H' s7 ∧ tn i s7.heap ∧ (∀ b ∈ fp, H' b = none) ∧ W i m σ' H' := fun {σ7 H7} I7 n7 => by
      obtain ⟨m', hm, w7⟩ := hN σ7 H7 n7
      refine ⟨m', hm, i + 1, σ7, H7, I7.unpinned, T.keep _ _ _ st5 fun b hb o e => (I7.pin (b, o) (List.mem_append_right _ (List.mem_append_right _ (mem_pinsAt hb e)))).1, fun b hb => ?_, w7⟩
      obtain ⟨o, e, d⟩ := T.obj _ _ st5 b hb
      exact (I7.pin (b, o) (List.mem_append_right _ (List.mem_append_right _ (mem_pinsAt hb e)))).2.1
    cases f with
    | next => obtain ⟨σ7, H7, I7, n7⟩ := q7; exact again I7 n7
    | cont => obtain ⟨σ7, H7, I7, n7⟩ := q7; exact again I7 n7
    | brk => obtain ⟨σ7, H7, I7, q7⟩ := q7; exact ⟨σ7, H7, I7.unpinned, q7⟩
    | ret v => obtain ⟨x7, σ7, H7, I7, r7, q7⟩ := q7; exact ⟨x7, σ7, H7, I7.unpinned, r7, q7⟩
end

/-! ### the forms one uses -/
theorem for_range {lo : Int} {n : Nat} {g : TG} {tb : TS} {D : Ends} {σ : St} {H : Hp} (Pv : Nat → St → Hp → Prop) (h0 : Pv 0 σ H)
    (hs : ∀ i σ H, i < n → Pv i σ H → g (.int (lo + i)) σ H fun σ2 H2 => tb { D with nx := Pv (i + 1), ct := Pv (i + 1), bk := D.nx } σ2 H2) (hd : ∀ σ H, Pv n σ H → D.nx σ H) :
    ∃ W : Nat → Nat → St → Hp → Prop, (∃ m, W 0 m σ H) ∧ ∀ i m σ H, W i m σ H →
      ((Itr lo n).stop i H ∧ D.nx σ H) ∨ ((Itr lo n).go i H ∧ ∃ N : St → Hp → Prop, (∀ σ' H', N σ' H' → ∃ m', m' < m ∧ W (i + 1) m' σ' H') ∧ ∀ x H', (Itr lo n).yld i H x H' → g x σ H' fun σ2 H2 => tb { D with nx := N, ct := N, bk := D.nx } σ2 H2) := by
  refine ⟨fun i m σ H => m = n - i ∧ i ≤ n ∧ Pv i σ H, ⟨n, by simp, Nat.zero_le _, h0⟩, ?_⟩
  rintro i m σ H ⟨rfl, hi, p⟩
  by_cases hlt : i < n
  · refine .inr ⟨hlt, Pv (i + 1), fun σ' H' p' => ⟨n - (i + 1), by omega, rfl, hlt, p'⟩, fun x H' y => ?_⟩
    obtain ⟨e, y⟩ := y
    subst e y
    exact hs i σ _ hlt p
  · have e : i = n := by omega
    subst e
    exact .inl ⟨Nat.le_refl _, hd σ H p⟩
end L2

namespace L2
open PySem PySem.Spec PyProof.Rows

abbrev R2 := V → V → Hp → VK → Prop
/-- a two-place operation on values: f is binaryOp op, inplaceOp op or compareOp op -/
def OpR (X : Cx) (f : Value → Value → Sem Value) (r : R2) : Prop :=
  ∀ (pins : List (Addr × Obj)) (s : Shared) (σ : St) (H : Hp) (x y : V) (v u : Value) (Q : VK), Inv X pins σ H s → RelV x v → RelV y u → r x y H Q →
    wpAny (model X.prog X.w) X.A (f v u) (EP X pins σ Q) X.xe s
/-- a one-place operation -/
def UnR (X : Cx) (f : Value → Sem Value) (r : V → Hp → VK → Prop) : Prop :=
  ∀ (pins : List (Addr × Obj)) (s : Shared) (σ : St) (H : Hp) (x : V) (v : Value) (Q : VK), Inv X pins σ H s → RelV x v → r x H Q →
    wpAny (model X.prog X.w) X.A (f v) (EP X pins σ Q) X.xe s
/-- a call of a value that is known (a builtin, a type) with values -/
def CallR (X : Cx) (f : Value) (r : List V → Hp → VK → Prop) : Prop :=
  ∀ (pins : List (Addr × Obj)) (s : Shared) (σ : St) (H : Hp) (xs : List V) (us : List Value) (Q : VK), Inv X pins σ H s → Vals xs us → r xs H Q →
    wpAny (model X.prog X.w) X.A (call f us) (EP X pins σ Q) X.xe s
/-- a value's truth -/
def TruR (X : Cx) (r : V → Hp → (Bool → Hp → Prop) → Prop) : Prop :=
  ∀ (pins : List (Addr × Obj)) (s : Shared) (σ : St) (H : Hp) (x : V) (v : Value) (Q : Bool → Hp → Prop), Inv X pins σ H s → RelV x v → r x H Q →
    wpAny (model X.prog X.w) X.A (truthy v) (TP X pins σ Q) X.xe s

def tOp (r : R2) (ta tb : TE) : TE := fun σ H Q => ta σ H fun x H1 => tb σ H1 fun y H2 => r x y H2 Q
def tUn (r : V → Hp → VK → Prop) (ta : TE) : TE := fun σ H Q => ta σ H fun x H1 => r x H1 Q
/-- ints in, under C, and a value out -/
def rI (C : Int → Int → Prop) (g : Int → Int → V) : R2 := fun x y H Q => ∃ i j, x = .int i ∧ y = .int j ∧ C i j ∧ Q (g i j) H
def rI0 (g : Int → Int → V) : R2 := fun x y H Q => ∃ i j, x = .int i ∧ y = .int j ∧ Q (g i j) H
def rU (g : Int → V) : V → Hp → VK → Prop := fun x H Q => ∃ i, x = .int i ∧ Q (g i) H

section
variable {X : Cx} {a b c : Expr} {ta tb tc : TE} {pos : Pos}

theorem binT (ha : PE X a ta) (hb : PE X b tb) {pins : List (Addr × Obj)} {s : Shared} {σ : St} {H : Hp} {R : V → V → Hp → Prop} (I : Inv X pins σ H s)
    (h : ta σ H fun x H1 => tb σ H1 fun y H2 => R x y H2) {Q : Value → Shared → Prop} {f : Value → Value → Sem Value}
    (hf : ∀ v u s2 x y H2, Inv X pins σ H2 s2 → RelV x v → RelV y u → R x y H2 → wpAny (model X.prog X.w) X.A (f v u) Q X.xe s2) :
    wpAny (model X.prog X.w) X.A (eval a X.env) (fun v s₁ => wpAny (model X.prog X.w) X.A (eval b X.env) (fun u s₂ => wpAny (model X.prog X.w) X.A (f v u) Q X.xe s₂) X.xe s₁) X.xe s := by
  refine thn (ha pins s σ H _ I h) fun v s1 ⟨x, H1, I1, r1, q1⟩ => ?_
  refine thn (hb pins s1 σ H1 _ I1 q1) fun u s2 ⟨y, H2, I2, r2, q2⟩ => ?_
  exact hf v u s2 x y H2 I2 r1 r2 q2

theorem pe_op {op : Operator} {r : R2} (ho : OpR X (binaryOp op) r) (ha : PE X a ta) (hb : PE X b tb) : PE X (.BinOp a op b pos) (tOp r ta tb) := by
  intro pins s σ H Q I h
  exact wpAny_BinOp (binT ha hb I h fun v u s2 x y H2 I2 rx ry q => ho pins s2 σ H2 x y v u Q I2 rx ry q)
/-! ### ints -/
theorem opI {f : Value → Value → Sem Value} {C : Int → Int → Prop} {g : Int → Int → Int}
    (rule : ∀ (i j : Int) (t u : Tok) (s : Shared) (Q : Value → Shared → Prop) (E : Value → Shared → Prop), C i j → Q (.int (g i j) s.toks) { s with toks := s.toks + 1 } → wpAny (model X.prog X.w) X.A (f (.int i t) (.int j u)) Q E s) :
    OpR X f (rI C fun i j => .int (g i j)) := by
  intro pins s σ H x y v u Q I rx ry h
  obtain ⟨i, j, rfl, rfl, hc, q⟩ := h
  obtain ⟨t, rfl⟩ := rx
  obtain ⟨t', rfl⟩ := ry
  exact rule i j t t' s _ _ hc ⟨.int (g i j), H, I.tok _, ⟨_, rfl⟩, q⟩
theorem opI0 {f : Value → Value → Sem Value} {g : Int → Int → Int}
    (rule : ∀ (i j : Int) (t u : Tok) (s : Shared) (Q : Value → Shared → Prop) (E : Value → Shared → Prop), Q (.int (g i j) s.toks) { s with toks := s.toks + 1 } → wpAny (model X.prog X.w) X.A (f (.int i t) (.int j u)) Q E s) :
    OpR X f (rI0 fun i j => .int (g i j)) := by
  intro pins s σ H x y v u Q I rx ry h
  obtain ⟨i, j, rfl, rfl, q⟩ := h
  obtain ⟨t, rfl⟩ := rx
  obtain ⟨t', rfl⟩ := ry
  exact rule i j t t' s _ _ ⟨.int (g i j), H, I.tok _, ⟨_, rfl⟩, q⟩
theorem opB0 {f : Value → Value → Sem Value} {g : Int → Int → Bool}
    (rule : ∀ (i j : Int) (t u : Tok) (s : Shared) (Q : Value → Shared → Prop) (E : Value → Shared → Prop), Q (.bool (g i j)) s → wpAny (model X.prog X.w) X.A (f (.int i t) (.int j u)) Q E s) :
    OpR X f (rI0 fun i j => .bl (g i j)) := by
  intro pins s σ H x y v u Q I rx ry h
  obtain ⟨i, j, rfl, rfl, q⟩ := h
  obtain ⟨t, rfl⟩ := rx
  obtain ⟨t', rfl⟩ := ry
  exact rule i j t t' s _ _ ⟨.bl (g i j), H, I, rfl, q⟩

def CDiv (i j : Int) : Prop := 0 < j ∧ j < 1073741824
def CDivN (i j : Int) : Prop := j ≠ 0 ∧ j.natAbs < 1073741824
def CPow (i j : Int) : Prop := 0 ≤ j ∧ j ≤ 1000000 ∧ i.natAbs < 2 ^ 64
def CMul (i j : Int) : Prop := (-(2 ^ 64) < i ∧ i < 2 ^ 64) ∨ (-(2 ^ 64) < j ∧ j < 2 ^ 64)
theorem CMul.ok {i j : Int} (h : CMul i j) : IntMulOk i j := by
  rcases h with ⟨h1, h2⟩ | ⟨h1, h2⟩
  · exact .of_left (intBits_le_64 h1 h2)
  · exact .of_right (intBits_le_64 h1 h2)
theorem op_add : OpR X (binaryOp .Add) (rI0 fun i j => .int (i + j)) := opI0 fun _ _ _ _ _ _ _ q => add_int q
theorem op_sub : OpR X (binaryOp .Sub) (rI0 fun i j => .int (i - j)) := opI0 fun _ _ _ _ _ _ _ q => sub_int q
/-- // by a positive divisor -/
theorem op_fdiv : OpR X (binaryOp .FloorDiv) (rI CDiv fun i j => .int (i / j)) := opI fun i j _ _ _ _ _ hc q => by
  have h1 : (0 : Int) < j := hc.1
  have h2 : j < 1073741824 := hc.2
  exact floordiv_int (by omega) (by rw [Int.fdiv_eq_ediv_of_nonneg i (by omega)]; exact q) (.inl (PyProof.noPylong_small (by omega)))
/-- % by a positive divisor of any size -/
theorem op_mod : OpR X (binaryOp .Mod) (rI (fun _ j => 0 < j) fun i j => .int (i % j)) := opI fun i j _ _ _ _ _ hc q => by
  have h1 : (0 : Int) < j := hc
  exact mod_int' (by omega) (by rw [Int.fmod_eq_emod_of_nonneg i (by omega)]; exact q)
/-! ### bools among ints: n += (a < b) -/
end

/-! ### comparisons -/
/-- the scalars that == tells apart as data does -/
def scal : V → V → Bool
  | .non, .non => true | .non, .int _ => true | .int _, .non => true | .non, .bl _ => true | .bl _, .non => true | .non, .str _ => true | .str _, .non => true
  | .int _, .int _ => true | .bl _, .bl _ => true | .str _, .str _ => true | .byt _, .byt _ => true
  | .int _, .str _ => true | .str _, .int _ => true | .bl _, .str _ => true | .str _, .bl _ => true
  | _, _ => false
def rEq : R2 := fun x y H Q => scal x y = true ∧ Q (.bl (decide (x = y))) H
def rNe : R2 := fun x y H Q => scal x y = true ∧ Q (.bl (!decide (x = y))) H

theorem dec_int {i j : Int} : decide (V.int i = V.int j) = (i == j) := by
  rw [Bool.eq_iff_iff]
  simp
theorem dec_bl {i j : Bool} : decide (V.bl i = V.bl j) = (i == j) := by
  rw [Bool.eq_iff_iff]
  simp
theorem dec_str {i j : Str} : decide (V.str i = V.str j) = (i == j) := by
  rw [Bool.eq_iff_iff]
  simp
theorem dec_byt {i j : Array UInt8} : decide (V.byt i = V.byt j) = (i.toList == j.toList) := by
  rw [Bool.eq_iff_iff]
  cases i
  cases j
  simp

section
variable {X : Cx} {a b c : Expr} {ta tb tc : TE} {pos : Pos}
theorem fin_bl {pins : List (Addr × Obj)} {σ : St} {H : Hp} {s : Shared} {Q : VK} {k k' : Bool} (I : Inv X pins σ H s) (q : Q (.bl k) H) (e : k = k') : EP X pins σ Q (.bool k') s := by
  subst e
  exact ⟨.bl k, H, I, rfl, q⟩
theorem op_eq : OpR X (compareOp .Eq) rEq := by
  intro pins s σ H x y v u Q I rx ry h
  obtain ⟨hs, q⟩ := h
  cases x with
  | non =>
    cases rx
    cases y with
    | non => cases ry; exact PySem.EqNone.eq_none_none (fin_bl I q (by simp))
    | bl j => cases ry; exact PySem.EqNone.eq_none_bool (fin_bl I q (by simp))
    | int j => obtain ⟨t', rfl⟩ := ry; exact PySem.EqNone.eq_none_int (fin_bl I q (by simp))
    | str j => obtain ⟨t', rfl⟩ := ry; exact PySem.EqNone.eq_none_str (fin_bl I q (by simp))
    | _ => exact absurd (show false = true from hs) Bool.false_ne_true
  | bl i =>
    cases rx
    cases y with
    | non => cases ry; exact PySem.EqNone.eq_bool_none (fin_bl I q (by simp))
    | bl j => cases ry; exact eq_bool (fin_bl I q dec_bl)
    | str j => obtain ⟨t', rfl⟩ := ry; exact PySem.EqMixed.eq_bool_str (fin_bl I q (by simp))
    | _ => exact absurd (show false = true from hs) Bool.false_ne_true
  | int i =>
    obtain ⟨t, rfl⟩ := rx
    cases y with
    | non => cases ry; exact PySem.EqNone.eq_int_none (fin_bl I q (by simp))
    | int j => obtain ⟨t', rfl⟩ := ry; exact eq_int (fin_bl I q dec_int)
    | str j => obtain ⟨t', rfl⟩ := ry; exact PySem.EqMixed.eq_int_str (fin_bl I q (by simp))
    | _ => exact absurd (show false = true from hs) Bool.false_ne_true
  | str i =>
    obtain ⟨t, rfl⟩ := rx
    cases y with
    | non => cases ry; exact PySem.EqNone.eq_str_none (fin_bl I q (by simp))
    | bl j => cases ry; exact PySem.EqMixed.eq_str_bool (fin_bl I q (by simp))
    | int j => obtain ⟨t', rfl⟩ := ry; exact PySem.EqMixed.eq_str_int (fin_bl I q (by simp))
    | str j => obtain ⟨t', rfl⟩ := ry; exact eq_str (fin_bl I q dec_str)
    | _ => exact absurd (show false = true from hs) Bool.false_ne_true
  | byt i =>
    obtain ⟨t, rfl⟩ := rx
    cases y with
    | byt j => obtain ⟨t', rfl⟩ := ry; exact PySem.W.eq_bytes (fin_bl I q dec_byt)
    | _ => exact absurd (show false = true from hs) Bool.false_ne_true
  | _ => cases y <;> exact absurd (show false = true from hs) Bool.false_ne_true
theorem op_ne : OpR X (compareOp .NotEq) rNe := by
  intro pins s σ H x y v u Q I rx ry h
  obtain ⟨hs, q⟩ := h
  cases x with
  | non =>
    cases rx
    cases y with
    | non => cases ry; exact PySem.EqNone.ne_none_none (fin_bl I q (by simp))
    | bl j => cases ry; exact PySem.EqNone.ne_none_bool (fin_bl I q (by simp))
    | int j => obtain ⟨t', rfl⟩ := ry; exact PySem.EqNone.ne_none_int (fin_bl I q (by simp))
    | str j => obtain ⟨t', rfl⟩ := ry; exact PySem.EqNone.ne_none_str (fin_bl I q (by simp))
    | _ => exact absurd (show false = true from hs) Bool.false_ne_true
  | bl i =>
    cases rx
    cases y with
    | non => cases ry; exact PySem.EqNone.ne_bool_none (fin_bl I q (by simp))
    | bl j => cases ry; exact ne_bool (fin_bl I q (congrArg not dec_bl))
    | str j => obtain ⟨t', rfl⟩ := ry; exact PySem.EqMixed.ne_bool_str (fin_bl I q (by simp))
    | _ => exact absurd (show false = true from hs) Bool.false_ne_true
  | int i =>
    obtain ⟨t, rfl⟩ := rx
    cases y with
    | non => cases ry; exact PySem.EqNone.ne_int_none (fin_bl I q (by simp))
    | int j => obtain ⟨t', rfl⟩ := ry; exact ne_int (fin_bl I q (congrArg not dec_int))
    | str j => obtain ⟨t', rfl⟩ := ry; exact PySem.EqMixed.ne_int_str (fin_bl I q (by simp))
    | _ => exact absurd (show false = true from hs) Bool.false_ne_true
  | str i =>
    obtain ⟨t, rfl⟩ := rx
    cases y with
    | non => cases ry; exact PySem.EqNone.ne_str_none (fin_bl I q (by simp))
    | bl j => cases ry; exact PySem.EqMixed.ne_str_bool (fin_bl I q (by simp))
    | int j => obtain ⟨t', rfl⟩ := ry; exact PySem.EqMixed.ne_str_int (fin_bl I q (by simp))
    | str j => obtain ⟨t', rfl⟩ := ry; exact ne_str (fin_bl I q (congrArg not dec_str))
    | _ => exact absurd (show false = true from hs) Bool.false_ne_true
  | byt i =>
    obtain ⟨t, rfl⟩ := rx
    cases y with
    | byt j => obtain ⟨t', rfl⟩ := ry; exact PySem.W.ne_bytes (fin_bl I q (congrArg not dec_byt))
    | _ => exact absurd (show false = true from hs) Bool.false_ne_true
  | _ => cases y <;> exact absurd (show false = true from hs) Bool.false_ne_true

theorem op_lt : OpR X (compareOp .Lt) (rI0 fun i j => .bl (decide (i < j))) := opB0 fun _ _ _ _ _ _ _ q => lt_int q
theorem op_gt : OpR X (compareOp .Gt) (rI0 fun i j => .bl (decide (j < i))) := opB0 fun _ _ _ _ _ _ _ q => gt_int q
theorem op_lt_str : OpR X (compareOp .Lt) (fun x y H Q => ∃ i j, x = .str i ∧ y = .str j ∧ Q (.bl (decide (i.cps.toList < j.cps.toList))) H) := by
  intro pins s σ H x y v u Q I rx ry h
  obtain ⟨i, j, rfl, rfl, q⟩ := h
  obtain ⟨t, rfl⟩ := rx
  obtain ⟨t', rfl⟩ := ry
  exact lt_str (fin_bl I q rfl)
/-- is, is not of two objects that are tracked lists or instances -/
def isObj : HO → Bool
  | .lst _ => true
  | .ins _ _ _ => true
  | _ => false
/-- two rules for one operation: by cases -/
theorem OpR.or {f : Value → Value → Sem Value} {r r' : R2} (h : OpR X f r) (h' : OpR X f r') : OpR X f (fun x y H Q => r x y H Q ∨ r' x y H Q) := by
  intro pins s σ H x y v u Q I rx ry q
  rcases q with q | q
  · exact h pins s σ H x y v u Q I rx ry q
  · exact h' pins s σ H x y v u Q I rx ry q

theorem nomark (b : Expr) {op : CmpOp} (h : op ≠ .In := by decide) (h2 : op ≠ .NotIn := by decide) : behindInMarks op b = false := by
  have e1 : (op == CmpOp.In) = false := by cases op <;> first | rfl | exact absurd rfl h
  have e2 : (op == CmpOp.NotIn) = false := by cases op <;> first | rfl | exact absurd rfl h2
  cases b <;> simp [behindInMarks, e1, e2]
/-- a comparison as a value; hm: nomark b, or (for in, not in) by with_unfolding_all rfl -/
theorem pe_cmpR {op : CmpOp} {r : R2} (ho : OpR X (compareOp op) r) (ha : PE X a ta) (hb : PE X b tb) (hm : behindInMarks op b = false) : PE X (.Compare a [op] [b] pos) (tOp r ta tb) := by
  intro pins s σ H Q I h
  exact wpAny_Compare1 (binT ha hb I h fun v u s2 x y H2 I2 rx ry q => ho pins s2 σ H2 x y v u Q I2 rx ry q) hm
/-- a reading of a value as a test -/
def tTest (t : TE) : TT := fun σ H Q => t σ H fun x H' => ∃ k, x = .bl k ∧ Q k H'
theorem pt_cmpR {op : CmpOp} {r : R2} (ho : OpR X (compareOp op) r) (ha : PE X a ta) (hb : PE X b tb) (hm : behindInMarks op b = false) : PT X (.Compare a [op] [b] pos) (tTest (tOp r ta tb)) := by
  intro pins s σ H Q I h
  refine wpAny_isTrue_Compare1 (thn (ha pins s σ H _ I h) fun v s1 ⟨x, H1, I1, r1, q1⟩ => thn (hb pins s1 σ H1 _ I1 q1) fun u s2 ⟨y, H2, I2, r2, q2⟩ =>
    thn (ho pins s2 σ H2 x y v u _ I2 r1 r2 q2) fun c s3 ⟨z, H3, I3, r3, k, e, q3⟩ => ?_) hm
  subst e
  cases r3
  exact wpAny_truthy_bool ⟨H3, I3, q3⟩
/-- a op1 b op2 c -/
def tChain (r r' : R2) (ta tb tc : TE) : TE := fun σ H Q => ta σ H fun x H1 => tb σ H1 fun y H2 => r x y H2 fun z H3 => ∃ k, z = .bl k ∧
  (if k = true then tc σ H3 fun w' H4 => r' y w' H4 Q else Q (.bl false) H3)
/-! ### truth -/
/-- a value's truth by the abstract heap -/
def TruV (K : PySem.W.Frag) (x : V) (H : Hp) (k : Bool) : Prop :=
  match x with
  | .non => k = false
  | .bl b => k = b
  | .int i => k = (i != 0)
  | .str y => y.length ≤ sizeLine ∧ k = ((y.length : Int) != 0)
  | .byt y => y.size ≤ sizeLine ∧ k = ((y.size : Int) != 0)
  | .ref p => (∃ xs, SqL K H p xs ∧ k = !xs.isEmpty) ∨ (∃ xs, SqT K H p xs ∧ k = !xs.isEmpty) ∨ ∃ kvs, H p = some (.dK kvs) ∧ k = !kvs.isEmpty
  | _ => False
theorem line63 : (sizeLine : Nat) < 2 ^ 63 := by rw [sizeLine_eq]; decide
/-! ### strs and bytes -/
theorem op_add_str : OpR X (binaryOp .Add) (fun x y H Q => ∃ i j, x = .str i ∧ y = .str j ∧ i.length + j.length ≤ sizeLine ∧ Q (.str (i ++ j)) H) := by
  intro pins s σ H x y v u Q I rx ry h
  obtain ⟨i, j, rfl, rfl, hz, q⟩ := h
  obtain ⟨t, rfl⟩ := rx
  obtain ⟨t', rfl⟩ := ry
  exact add_str (fun t' tk => ⟨.str (i ++ j), H, I.tok _, ⟨_, rfl⟩, q⟩) hz
def PlainIxT (b : Expr) : Prop := ∀ o i, subscripted b false o i = operate [o, i] (getItem o i)
/-! ### scalar builtins, by CallR -/
theorem vals1 {x : V} {us : List Value} (r : Vals [x] us) : ∃ u, us = [u] ∧ RelV x u := by
  cases r with
  | cons r1 r2 => cases r2; exact ⟨_, rfl, r1⟩
theorem vals2 {x y : V} {us : List Value} (r : Vals [x, y] us) : ∃ u w', us = [u, w'] ∧ RelV x u ∧ RelV y w' := by
  cases r with
  | cons r1 r2 =>
    cases r2 with
    | cons r3 r4 => cases r4; exact ⟨_, _, rfl, r1, r3⟩
theorem call_min2 (hc : X.calm = true) : CallR X (.builtin "min") (fun xs H Q => ∃ i j, xs = [.int i, .int j] ∧ Q (.int (if j < i then j else i)) H) := by
  intro pins s σ H xs us Q I r h
  obtain ⟨i, j, rfl, q⟩ := h
  obtain ⟨u, w', rfl, ⟨t, rfl⟩, ⟨t', rfl⟩⟩ := vals2 r
  refine min_two_ints (I.ok.hd hc) fun h' tk k => ⟨_, H, I.kept k, ?_, q⟩
  by_cases hj : j < i
  · rw [if_pos hj, if_pos hj]; exact ⟨_, rfl⟩
  · rw [if_neg hj, if_neg hj]; exact ⟨_, rfl⟩
/-- len of a str, a bytes, a list, a tuple -/
def LenV (K : PySem.W.Frag) (x : V) (H : Hp) (n : Nat) : Prop :=
  match x with
  | .str y => y.length ≤ sizeLine ∧ n = y.length
  | .byt y => y.size ≤ sizeLine ∧ n = y.size
  | .ref p => (∃ xs, SqL K H p xs ∧ n = xs.length) ∨ ∃ xs, SqT K H p xs ∧ n = xs.length
  | _ => False
end
end L2

namespace L2
open PySem PySem.Spec PyProof.Rows

/-! ### an instance, its attributes a map -/
structure ObjM (h : Heap) (x dx C : Addr) (mA : Str → Option Value) : Prop where
  obj : h.get? x = some (PySem.W.instObj C dx)
  ns : h.Ns1 dx mA
  ne : dx ≠ x

theorem lookIn_ns {h : Heap} {dx : Addr} {mA : Str → Option Value} (n : h.Ns1 dx mA) : ∃ od, h.get? dx = some od ∧ ∀ name, PySem.W.lookIn name od = some (mA name) := by
  obtain ⟨o, es, ep, ho, hd, hk, _, hm⟩ := n
  refine ⟨o, ho, fun name => ?_⟩
  have e := hm name
  unfold nsFind findBy at e
  rw [← Array.find?_toList] at e
  unfold PySem.W.lookIn
  rw [hd]
  dsimp only
  split
  · rename_i y q
    rw [q] at e
    exact congrArg some e
  · rename_i q
    rw [q] at e
    have a : es.toList.any (·.refKey) = false := by
      rw [List.any_eq_false]
      intro y hy
      obtain ⟨z, t, hkey⟩ := hk y (Array.mem_toList_iff.mp hy)
      simp [DictEntry.refKey, hkey]
    have a' : ¬ es.toList.any (·.refKey) = true := by rw [a]; exact Bool.false_ne_true
    rw [if_neg a']
    exact congrArg some e

theorem ObjM.look {h : Heap} {x dx C : Addr} {mA : Str → Option Value} (I : ObjM h x dx C mA) : ∃ od, PySem.W.InstAt h x (PySem.W.instObj C dx) C (some od) ∧ ∀ name, PySem.W.lookIn name od = some (mA name) :=
  let ⟨od, ho, hl⟩ := lookIn_ns I.ns
  ⟨od, ⟨I.obj, rfl, rfl, ho⟩, hl⟩

section
variable {prog : Program} {w : World} {A : Around} {E : Value → Shared → Prop} {s : Shared} {K : PySem.W.Frag} {x dx C f : Addr} {mA : Str → Option Value} {name : Str} {v : Value}

end

/-! ### the attributes as a list of pairs -/
def putF (f : Str) (v : V) : List (Str × V) → List (Str × V)
  | [] => [(f, v)]
  | (g, x) :: r => if g = f then (g, v) :: r else (g, x) :: putF f v r
theorem RelO.none_of {o : Option Value} (r : RelO none o) : o = none := by
  cases o with
  | none => rfl
  | some u => exact (show False from r).elim
section
variable {P : Program} {w : World} {H H' : Hp} {h h' : Heap} {a C dx : Addr} {fs fs' : List (Str × V)}
theorem ins_get (hok : HOk P w H h) (e : H a = some (.ins C dx fs)) : ∃ mA, ObjM h a dx C mA ∧ (∀ f, RelO (fs.lookup f) (mA f)) ∧ PySem.Within mA (fs.map (·.1)) ∧ fs.length ≤ 1000 ∧ H dx = some (.own a) := by
  obtain ⟨d, z, ne, ob, mA, n, r, q⟩ := (show ObjOk P w H h a (.ins C dx fs) from hok a _ e)
  exact ⟨mA, ⟨ob, n, ne⟩, r, q, z, d⟩
end

/-! ### what of the text a class must have -/
structure Cls (K : PySem.W.Frag) (C : Addr) : Prop where
  pg : PySem.W.plainGet K C Str.empty = true
  hd : PySem.W.hasDictIn K C = true
  po : PySem.W.plainOver K C = true
  sa : PySem.W.findIn K (.ref C) "__setattr__" = some (some (.builtin "object.__setattr__"))
theorem Cls.get {K : PySem.W.Frag} {C : Addr} (c : Cls K C) (f : Str) : PySem.W.plainGet K C f = true := c.pg
/-- no class of it has the name -/
def NoAttr (K : PySem.W.Frag) (C : Addr) (f : Str) : Prop := PySem.W.findIn K (.ref C) f = some none
/-- a constant of the class -/
structure Con (K : PySem.W.Frag) (C : Addr) (f : Str) (v : V) (u : Value) : Prop where
  at_ : PySem.W.findIn K (.ref C) f = some (some u)
  rel : RelV v u
  get : PySem.W.specialIn K u "__get__" = some none
  cp : PySem.W.copiedNames.contains f = false
/-- a method: a plain def of the class or of one above it -/
structure Meth (K : PySem.W.Frag) (C : Addr) (m : Str) (f : Addr) : Prop where
  at_ : PySem.W.findIn K (.ref C) m = some (some (.ref f))
  fn : PySem.W.isFn K (.ref f) = true
  kp : PySem.W.keepIn K (.ref f) = true

section
variable {X : Cx} {pins : List (Addr × Obj)} {σ : St} {H : Hp} {s : Shared} {a C dx : Addr} {fs : List (Str × V)} {f : Str} {v : V} {A : Around} {E : Value → Shared → Prop}

/-- a new instance, tracked, without attributes -/
theorem Inv.made (I : Inv X pins σ H s) : Inv X pins σ (upd (upd H s.heap.objs.size (.own (s.heap.objs.size + 1))) (s.heap.objs.size + 1) (.ins C s.heap.objs.size []))
    { s with heap := (s.heap.push PySem.W.emptyDict).push (PySem.W.instObj C s.heap.objs.size) } := by
  have e1 : (s.heap.push PySem.W.emptyDict).get? s.heap.objs.size = some PySem.W.emptyDict := Heap.get?_push_size s.heap rfl
  have e2 : ((s.heap.push PySem.W.emptyDict).push (PySem.W.instObj C s.heap.objs.size)).get? (s.heap.objs.size + 1) = some (PySem.W.instObj C s.heap.objs.size) := by
    have := Heap.get?_push_size (s.heap.push PySem.W.emptyDict) (o := PySem.W.instObj C s.heap.objs.size) rfl
    rwa [Heap.size_push] at this
  have e3 : (s.heap.push PySem.W.emptyDict).Ns s.heap.objs.size (fun _ => none) := ⟨PySem.W.emptyDict, #[], _, e1, rfl, (fun e he => absurd he (by simp)), fun _ => rfl⟩
  have I1 := I.laid (a := s.heap.objs.size) (o := .own (s.heap.objs.size + 1)) (h' := s.heap.push PySem.W.emptyDict) (t' := s.toks) (fun b u q => Heap.get?_push_of_some _ q) (Nat.le_refl _) ⟨_, e1⟩
  refine I1.laid (a := s.heap.objs.size + 1) (o := .ins C s.heap.objs.size []) (t' := s.toks) (fun b u q => Heap.get?_push_of_some _ q) (Nat.le_of_eq (Heap.size_push _ _)) ?_
  have ne : s.heap.objs.size ≠ s.heap.objs.size + 1 := Nat.ne_of_lt (Nat.lt_succ_self _)
  refine ⟨by rw [upd_ne ne, upd_same], Nat.zero_le _, ne, e2, fun _ => none, (Heap.Ns1.of_empty e3).at fun o q => Heap.get?_push_of_some _ q, fun _ => True.intro, fun y hy => absurd rfl hy⟩

end

/-! ### readings and rules -/
/-- e.f, an attribute of the instance -/
def tFld (K : PySem.W.Frag) (ta : TE) (f : Str) : TE := fun σ H Q => ta σ H fun x H1 => ∃ a C dx fs v, x = .ref a ∧ H1 a = some (.ins C dx fs) ∧ Cls K C ∧ NoAttr K C f ∧ fs.lookup f = some v ∧ Q v H1
/-- e.f, a constant of the class -/
def tCon (K : PySem.W.Frag) (ta : TE) (f : Str) : TE := fun σ H Q => ta σ H fun x H1 => ∃ a C dx fs v u, x = .ref a ∧ H1 a = some (.ins C dx fs) ∧ Cls K C ∧ Con K C f v u ∧ fs.lookup f = none ∧ Q v H1
/-- e.f = value -/
def sFld (K : PySem.W.Frag) (ta tv : TE) (f : Str) : TS := fun D σ H => tv σ H fun y H1 => ta σ H1 fun x H2 => ∃ a C dx fs, x = .ref a ∧ H2 a = some (.ins C dx fs) ∧ Cls K C ∧ NoAttr K C f ∧ fs.length < 1000 ∧
  D.nx σ (upd H2 a (.ins C dx (putF f y fs)))
/-- an augmented operator on two values -/
def InOp (X : Cx) (op : Operator) (rd : V → V → Hp → VK → Prop) : Prop :=
  ∀ (pins : List (Addr × Obj)) (s : Shared) (σ : St) (H : Hp) (x y : V) (u v : Value) (Q : VK), Inv X pins σ H s → RelV x u → RelV y v → rd x y H Q → wpAny (model X.prog X.w) X.A (inplaceOp op u v) (EP X pins σ Q) X.xe s
/-- e.f op= value -/
def sFldAug (K : PySem.W.Frag) (ta tv : TE) (rd : V → V → Hp → VK → Prop) (f : Str) : TS := fun D σ H => ta σ H fun x H1 => ∃ a C dx fs v, x = .ref a ∧ H1 a = some (.ins C dx fs) ∧ Cls K C ∧ NoAttr K C f ∧ fs.lookup f = some v ∧
  tv σ H1 fun y H2 => rd v y H2 fun z H3 => ∃ dx' fs', H3 a = some (.ins C dx' fs') ∧ fs'.length < 1000 ∧ D.nx σ (upd H3 a (.ins C dx' (putF f z fs')))

section
variable {X : Cx} {o e value : Expr} {f : Str} {pos pos' tpos : Pos} {ta tv : TE}
def rAdd : V → V → Hp → VK → Prop := fun x y H Q => ∃ i j, x = .int i ∧ y = .int j ∧ Q (.int (i + j)) H
def rSub : V → V → Hp → VK → Prop := fun x y H Q => ∃ i j, x = .int i ∧ y = .int j ∧ Q (.int (i - j)) H
end

/-! ### isinstance -/
section
variable {X : Cx} {pins : List (Addr × Obj)} {σ : St} {H : Hp} {s : Shared} {A : Around} {E : Value → Shared → Prop} {Q : Value → Shared → Prop} {c : Value} {b : Bool}
/-- the type of a value, as the fragment's deciders take it; for an instance its class -/
inductive TyOf (K : PySem.W.Frag) (H : Hp) : V → Value → Prop where
  | non : TyOf K H .non (.type "NoneType")
  | bl (x : Bool) : TyOf K H (.bl x) (.type "bool")
  | int (i : Int) : TyOf K H (.int i) (.type "int")
  | str (x : Str) : TyOf K H (.str x) (.type "str")
  | flt (x : UInt64) : TyOf K H (.flt x) (.type "float")
  | lst {a : Addr} {xs : List V} (e : H a = some (.lst xs)) : TyOf K H (.ref a) (.type "list")
  | frz {a : Addr} {o : Obj} {xs : List V} (e : H a = some (.frz o (.lst xs))) : TyOf K H (.ref a) (.type "list")
  | tup {a : Addr} {xs : List V} (e : H a = some (.tup xs)) : TyOf K H (.ref a) (.type "tuple")
  | dK {a : Addr} {kvs : List (Key × V)} (e : H a = some (.dK kvs)) : TyOf K H (.ref a) (.type "dict")
  | dT {a : Addr} {kvs : List (List Key × V)} (e : H a = some (.dT kvs)) : TyOf K H (.ref a) (.type "dict")
  | ins {a C dx : Addr} {fs : List (Str × V)} (e : H a = some (.ins C dx fs)) (cl : Cls K C) (ha : PySem.W.findIn K (.ref C) "__class__" = some (some (.builtin "object.__class__")))
      (hn : PySem.W.specialIn K (.builtin "object.__class__") "__get__" = some (some (.builtin "getset_descriptor.__get__"))) (htk : PySem.W.takesIn K (.builtin "object.__class__") = some true)
      (hm : PySem.W.mroIn K C (.type "object") = some true) : TyOf K H (.ref a) (.ref C)
/-- isinstance(x, c) for one class c, a built-in or an own one: kitOne's answer -/
theorem isinst_ok {x : V} {u t : Value} (I : Inv X pins σ H s) (rx : RelV x u) (ty : TyOf X.K H x t) (e : PySem.W.kitOne X.K t c = some b) (h : ∀ tk, Q (.bool b) { s with toks := tk }) :
    wpAny (model X.prog X.w) A (call (.builtin "isinstance") [u, c]) Q E s := by
  cases ty with
  | non => cases (show u = Value.none from rx); exact PySem.W.kia_one PySem.W.kitx_none I.kIn True.intro e (fun z => nomatch z) h
  | bl y => cases (show u = Value.bool y from rx); exact PySem.W.kia_one PySem.W.kitx_bool I.kIn True.intro e (fun z => nomatch z) h
  | int i => obtain ⟨t, q⟩ := (show ∃ t, u = Value.int i t from rx); cases q; exact PySem.W.kia_one PySem.W.kitx_int I.kIn True.intro e (fun z => nomatch z) h
  | str y => obtain ⟨t, q⟩ := (show ∃ t, u = Value.str y t from rx); cases q; exact PySem.W.kia_one PySem.W.kitx_str I.kIn True.intro e (fun z => nomatch z) h
  | flt y => obtain ⟨t, q⟩ := (show ∃ t, u = Value.float y t from rx); cases q; exact PySem.W.kia_one PySem.W.kitx_float I.kIn True.intro e (fun z => nomatch z) h
  | @lst a xs ea =>
    cases (show u = Value.ref a from rx)
    obtain ⟨_, _, n, _, h1⟩ := (show ObjOk X.prog X.w H s.heap a (.lst xs) from I.hok a _ ea)
    exact PySem.W.kia_one PySem.W.kitx_list I.kIn ⟨_, h1, rfl⟩ e (fun z => nomatch z) h
  | @frz a ob xs ea =>
    cases (show u = Value.ref a from rx)
    obtain ⟨_, _, _, n, _, h1⟩ := (show ObjOk X.prog X.w H s.heap a (.frz ob (.lst xs)) from I.hok a _ ea)
    exact PySem.W.kia_one PySem.W.kitx_list I.kIn ⟨_, h1, rfl⟩ e (fun z => nomatch z) h
  | @tup a xs ea =>
    cases (show u = Value.ref a from rx)
    obtain ⟨_, _, _, p⟩ := (show ObjOk X.prog X.w H s.heap a (.tup xs) from I.hok a _ ea)
    obtain ⟨o, h1, h2, _⟩ := p
    exact PySem.W.kia_one PySem.W.kitx_tuple I.kIn ⟨o, h1, h2⟩ e (fun z => nomatch z) h
  | @dK a kvs ea =>
    cases (show u = Value.ref a from rx)
    obtain ⟨_, _, vs, _, p⟩ := (show ObjOk X.prog X.w H s.heap a (.dK kvs) from I.hok a _ ea)
    obtain ⟨o, es, ep, h1, h2, _⟩ := p
    exact PySem.W.kia_one PySem.W.kitx_dict I.kIn ⟨o, h1, h2.1⟩ e (fun z => nomatch z) h
  | @dT a kvs ea =>
    cases (show u = Value.ref a from rx)
    obtain ⟨_, _, xs, _, o, es, ep, h1, h2, _⟩ := (show ObjOk X.prog X.w H s.heap a (.dT kvs) from I.hok a _ ea)
    exact PySem.W.kia_one PySem.W.kitx_dict I.kIn ⟨o, h1, h2.1⟩ e (fun z => nomatch z) h
  | @ins a C dx fs ea cl ha hn htk hm =>
    cases (show u = Value.ref a from rx)
    obtain ⟨mA, O, _⟩ := ins_get I.hok ea
    obtain ⟨od, J, _⟩ := O.look
    exact PySem.W.kia_one (PySem.W.kitx_own (cl.get _) cl.hd ha hn htk hm) I.kIn J e (fun z => nomatch z) h
end
end L2

namespace L2
open PySem PySem.Spec PyProof.Rows

/-! ### room -/
structure Room (k : Nat) (A : Around) : Prop where
  hd : A.handled = none
  dp : A.depth + 3 * k + 5 < recursionLimit
  un : A.units + 16 * k + 200 < cLine
theorem Room.mono {j k : Nat} {A : Around} (r : Room k A) (h : j ≤ k) : Room j A := ⟨r.hd, by have := r.dp; omega, by have := r.un; omega⟩
theorem Room.deeper {k : Nat} {A : Around} (r : Room (k + 1) A) (env : Env) : Room k (A.deeper env) :=
  ⟨r.hd, by have := r.dp; show A.depth + 1 + 3 * k + 5 < _; omega, by have := r.un; show A.units + 3 + 16 * k + 200 < _; omega⟩
theorem Room.in1 {k : Nat} {A : Around} (r : Room (k + 1) A) : Room k A.in1 :=
  ⟨r.hd, by have := r.dp; show A.depth + 3 * k + 5 < _; omega, by have := r.un; show A.units + 1 + 16 * k + 200 < _; omega⟩
theorem Room.depth {k : Nat} {A : Around} (r : Room k A) : A.depth < recursionLimit := by have := r.dp; omega
theorem Room.units {k : Nat} {A : Around} (r : Room k A) : A.units + 64 < cLine := by have := r.un; omega
/-! ### argument lists and displays -/
def tNil : TA := fun _ H Q => Q [] H
def tCons (ta : TE) (tr : TA) : TA := fun σ H Q => ta σ H fun x H1 => tr σ H1 fun xs H2 => Q (x :: xs) H2
section
variable {X : Cx} {e : Expr} {es : List Expr} {te : TE} {t : TA} {pos : Pos}
theorem pa_nil : PA X [] tNil := fun _ _ _ _ H Q I h => Calls.spliced_nil ⟨[], H, I, .nil, h⟩
theorem pa_cons (ha : PE X e te) (hr : PA X es t) (hs : starEach (e :: es) X.env = (false, eval e X.env) :: starEach es X.env := by rfl) : PA X (e :: es) (tCons te t) := by
  intro pos pins s σ H Q I h
  rw [hs]
  show wpAny _ _ (spliced ((false, eval e X.env) :: backTo pos (starEach es X.env))) _ _ s
  refine Calls.spliced_cons (thn (ha pins s σ H _ I h) fun u s1 ⟨x, H1, I1, r1, q1⟩ => ?_)
  exact thn (hr pos pins s1 σ H1 _ I1 q1) fun us s2 ⟨xs, H2, I2, r2, q2⟩ => ⟨x :: xs, H2, I2, .cons r1 r2, q2⟩

/-- a tuple, a list of written items -/
def tTup (t : TA) : TE := fun σ H Q => t σ H fun xs H1 => xs.length ≤ sizeLine ∧ ∀ p, H1 p = none → Q (.ref p) (upd H1 p (.tup xs))
def tLst (t : TA) : TE := fun σ H Q => t σ H fun xs H1 => xs.length ≤ sizeLine ∧ ∀ p, H1 p = none → Q (.ref p) (upd H1 p (.lst xs))
theorem pe_tup {x1} (h : PA X es t) : PE X (.Tuple es x1 pos) (tTup t) := by
  intro pins s σ H Q I hq
  refine wpAny_Tuple_spliced (thn (h pos pins s σ H _ I hq) fun us s1 ⟨xs, H1, I1, r, z, q⟩ => ⟨by rw [← r.length]; exact z, ?_⟩)
  have hf : H1 s1.heap.objs.size = none := I1.hok.fresh (Nat.le_refl _)
  refine ⟨.ref s1.heap.objs.size, upd H1 s1.heap.objs.size (.tup xs), I1.laid (t' := s1.toks) (fun b u e => Heap.get?_push_of_some _ e) (Nat.le_refl _) ?_, rfl, q _ hf⟩
  exact ⟨z, us, r, ⟨_, Heap.get?_push_size _ rfl, rfl, _, rfl⟩⟩
theorem pe_lst (h : PA X es t) : PE X (.List es pos) (tLst t) := by
  intro pins s σ H Q I hq
  refine wpAny_List_spliced (thn (h pos pins s σ H _ I hq) fun us s1 ⟨xs, H1, I1, r, z, q⟩ => ⟨by rw [← r.length]; exact z, ?_⟩)
  have hf : H1 s1.heap.objs.size = none := I1.hok.fresh (Nat.le_refl _)
  refine ⟨.ref s1.heap.objs.size, upd H1 s1.heap.objs.size (.lst xs), I1.laid (t' := s1.toks) (fun b u e => Heap.get?_push_of_some _ e) (Nat.le_refl _) ?_, rfl, q _ hf⟩
  exact ⟨z, us, 0, r, Heap.get?_push_size _ rfl⟩
end

/-! ### what a def promises -/
/-- a def's promise: the bound arguments in the parameters' order, the heap, the wanted end, the wanted exception -/
abbrev Sp := List V → Hp → VK → XK → Prop
/-- how an exception lies behind a call (file 08 gives it): the callers' frames, abstract heap and state ahead of the call, the wish, the exception, the state -/
abbrev CXT := List Env → Hp → Shared → XK → Value → Shared → Prop

/-- the state at a call -/
structure Env0 (P : Program) (w : World) (K : PySem.W.Frag) (mg : Str → Option Value) (base : Heap) (A : Around) (outer : List Env) (s : Shared) (H : Hp) : Prop where
  frames : A.frames = some outer
  mod : Mod K mg base
  bs : ∀ b o, base.get? b = some o → s.heap.get? b = some o ∧ H b = none
  bsz : base.objs.size ≤ s.heap.objs.size
  funs : s.heap.FunFrames base outer
  frf : ∀ b ∈ frs outer, H b = none
  hok : HOk P w H s.heap
  bare : AllBare s.gens
/-- a call's end -/
def CE (outer : List Env) (P : Program) (w : World) (H : Hp) (s : Shared) (Q : VK) (u : Value) (s' : Shared) : Prop :=
  ∃ v H', s'.os = s.os ∧ AllBare s'.gens ∧ Un (frs outer) [] H H' s.heap s'.heap ∧ HOk P w H' s'.heap ∧ RelV v u ∧ Q v H'
def CR (CX : CXT) (outer : List Env) (P : Program) (w : World) (H : Hp) (s : Shared) (Q : VK) (E : XK) (r : Result) (s' : Shared) : Prop :=
  match r with
  | .ok (.ret u) => CE outer P w H s Q u s'
  | .ok _ => False
  | .error e => CX outer H s E e s'
structure FnOk (P : Program) (w : World) (K : PySem.W.Frag) (mg : Str → Option Value) (base : Heap) (CX : CXT) (k : Nat) (f : Addr) (fd : FuncData) (ps : List Str) (sp : Sp) : Prop where
  len : ∀ vs H Q E, sp vs H Q E → vs.length = ps.length
  run : ∀ (A : Around) (outer : List Env) (s : Shared) (H : Hp) (args : Args) (us : List Value) (vs : List V) (Q : VK) (E : XK), Room k A → Env0 P w K mg base A outer s H → BindsTo s fd args (ps.zip us) → Vals vs us → sp vs H Q E →
    codeAny (model P w) A (.call (.ref f) args) (CR CX outer P w H s Q E) s
theorem FnOk.mono {P : Program} {w : World} {K : PySem.W.Frag} {mg : Str → Option Value} {base : Heap} {CX : CXT} {j k : Nat} {f : Addr} {fd : FuncData} {ps : List Str} {sp : Sp} (F : FnOk P w K mg base CX j f fd ps sp) (h : j ≤ k) :
    FnOk P w K mg base CX k f fd ps sp := ⟨F.len, fun A outer s H args us vs Q E hr => F.run A outer s H args us vs Q E (hr.mono h)⟩
/-- a weaker promise -/
theorem FnOk.imp {P : Program} {w : World} {K : PySem.W.Frag} {mg : Str → Option Value} {base : Heap} {CX : CXT} {k : Nat} {f : Addr} {fd : FuncData} {ps : List Str} {sp sp' : Sp} (F : FnOk P w K mg base CX k f fd ps sp)
    (h : ∀ vs H Q E, sp' vs H Q E → sp vs H Q E) : FnOk P w K mg base CX k f fd ps sp' :=
  ⟨fun vs H Q E q => F.len vs H Q E (h _ _ _ _ q), fun A outer s H args us vs Q E hr he hb hv hs => F.run A outer s H args us vs Q E hr he hb hv (h _ _ _ _ hs)⟩

theorem Env0.in1 {P : Program} {w : World} {K : PySem.W.Frag} {mg : Str → Option Value} {base : Heap} {A : Around} {outer : List Env} {s : Shared} {H : Hp} (e : Env0 P w K mg base A outer s H) :
    Env0 P w K mg base A.in1 outer s H := ⟨e.frames, e.mod, e.bs, e.bsz, e.funs, e.frf, e.hok, e.bare⟩

section
variable {X : Cx} {pins : List (Addr × Obj)} {σ : St} {H : Hp} {s s' : Shared}
/-- from a body: what a callee wants -/
theorem Inv.env0 (I : Inv X pins σ H s) : Env0 X.prog X.w X.K X.mg X.base X.A X.stack s H :=
  ⟨I.ok.frames, I.ok.mod, I.bs, Nat.le_trans I.ok.bsz I.sz, I.stack, I.stkFree, I.hok, I.bare⟩
/-- behind a call -/
theorem Inv.after {Q : VK} {u : Value} (I : Inv X pins σ H s) (h : CE X.stack X.prog X.w H s Q u s') : EP X pins σ Q u s' := by
  obtain ⟨v, H', os, bare, un, hok, r, q⟩ := h
  obtain ⟨hh, g, d, t, os'⟩ := s'
  obtain rfl : os' = s.os := os
  exact ⟨v, H', I.call (h' := hh) (g' := g) (d' := d) (t' := t) (ch := []) un hok bare (fun b z => absurd z (by simp)), r, q⟩
end

/-! ### calls -/
/-- f(..): the written arguments, then the defaults dvs; E: what is wanted of an exception -/
def tCall (sp : Sp) (dvs : List V) (E : XK) (t : TA) : TE := fun σ H Q => t σ H fun vs H1 => sp (vs ++ dvs) H1 Q E
/-- o.m(..) of an instance of the class at C -/
def tMeth (C : Addr) (m : Str) (sp : Sp) (dvs : List V) (E : XK) (ta : TE) (t : TA) : TE := fun σ H Q => ta σ H fun x H1 => ∃ a dx fs, x = .ref a ∧ H1 a = some (.ins C dx fs) ∧ fs.lookup m = none ∧
  t σ H1 fun vs H2 => sp (x :: (vs ++ dvs)) H2 Q E
/-- C(..): a new instance and its dict, then __init__ -/
def tMake (C : Addr) (sp : Sp) (dvs : List V) (E : XK) (t : TA) : TE := fun σ H Q => t σ H fun vs H1 => ∀ x dx, H1 x = none → H1 dx = none → dx ≠ x →
  sp (.ref x :: (vs ++ dvs)) (upd (upd H1 dx (.own x)) x (.ins C dx [])) (fun v H2 => v = .non ∧ Q (.ref x) H2) E

/-- how the parameters are bound: us the positional arguments, kw the keywords' values by name, ds the defaults that fill up -/
def Binds (K : PySem.W.Frag) (fd : FuncData) (ps : List Str) (ds : List Value) : Prop :=
  ∀ (s : Shared) (us : List Value), K.In s.heap → (us ++ ds).length = ps.length → BindsTo s fd ⟨us, []⟩ (ps.zip (us ++ ds))
/-- every parameter is given -/
theorem Binds.all {K : PySem.W.Frag} {fd : FuncData} {ps : List Str} (h : ∀ us : List Value, us.length = ps.length → bindArgs fd ⟨us, []⟩ = pure (ps.zip us)) : Binds K fd ps [] := fun s us _ hl => by
  rw [List.append_nil] at hl ⊢
  exact .of_eq (h us hl)

/-- an exception of a callee reaches what this body wants of exceptions -/
def Passes (CX : CXT) (X : Cx) (E : XK) : Prop := ∀ (pins : List (Addr × Obj)) (σ : St) (H : Hp) (s : Shared) (e : Value) (s' : Shared), Inv X pins σ H s → CX X.stack H s E e s' → X.xe e s'

section
variable {X : Cx} {CX : CXT} {k : Nat} {f C : Addr} {fd : FuncData} {ps : List Str} {sp : Sp} {dvs : List V} {ds : List Value} {E : XK} {x m : Str} {p pos apos : Pos} {e o : Expr} {es : List Expr} {ta : TE} {t : TA}

/-- the callee runs -/
theorem run_fn {pins : List (Addr × Obj)} {σ : St} {H : Hp} {s : Shared} {Q : VK} {us : List Value} {vs : List V} (F : FnOk X.prog X.w X.K X.mg X.base CX k f fd ps sp) (hr : Room k X.A) (hb : Binds X.K fd ps ds) (hd : Vals dvs ds) (hx : Passes CX X E)
    (I : Inv X pins σ H s) (r : Vals vs us) (h : sp (vs ++ dvs) H Q E) : wpAny (model X.prog X.w) X.A (call (.ref f) us) (EP X pins σ Q) X.xe s := by
  have r2 : Vals (vs ++ dvs) (us ++ ds) := r.append hd
  have hl : (us ++ ds).length = ps.length := by rw [← r2.length]; exact F.len _ _ _ _ h
  refine wpAny_call (codeAny_mono (F.run X.A X.stack s H ⟨us, []⟩ (us ++ ds) (vs ++ dvs) Q E hr I.env0 (hb s us I.kIn hl) r2 h) fun r s' hq => ?_)
  cases r with
  | error e => exact hx pins σ H s e s' I hq
  | ok fl =>
    cases fl with
    | ret u => exact I.after hq
    | next => exact False.elim hq
    | brk => exact False.elim hq
    | cont => exact False.elim hq

theorem pe_call (F : FnOk X.prog X.w X.K X.mg X.base CX k f fd ps sp) (hr : Room k X.A) (hg : Gl X x) (hm : X.mg x = some (.ref f)) (hk : PySem.W.keepIn X.K (.ref f) = true) (hb : Binds X.K fd ps ds) (hd : Vals dvs ds) (hx : Passes CX X E)
    (ha : PA X (e :: es) t) (hdb : (x == ("__debug__" : Str)) = false := by decide) (he : starEach (e :: es) X.env = (false, eval e X.env) :: starEach es X.env := by rfl) (hpl : (backTo pos (starEach es X.env)).any (·.1) = false := by rfl) :
    PE X (.Call (.Name x p) (e :: es) [] pos) (tCall sp dvs E t) := by
  intro pins s σ H Q I h
  refine wpAny_Call_Name_kw (ld_glob I hg hm ?_ hdb)
  refine PySem.W.callWith_K (h₀ := X.base) I.ok.mod.kin hk (thn (ha pos pins s σ H _ I h) fun us s1 ⟨vs, H1, I1, r, q⟩ => ⟨I1.kIn, ?_⟩) he hpl
  exact run_fn F hr hb hd hx I1 r q
/-- what a class must have to be made -/
structure Mk (K : PySem.W.Frag) (C f : Addr) : Prop where
  makes : PySem.W.makesIn K C = true
  init : PySem.W.findIn K (.ref C) "__init__" = some (some (.ref f))
  fn : PySem.W.isFn K (.ref f) = true
  kp : PySem.W.keepIn K (.ref C) = true

end

/-! ### keywords -/
/-- the values of the keywords, from the left -/
def PK (X : Cx) (kws : List Keyword) (t : TA) : Prop :=
  ∀ (pos : Pos) (pins : List (Addr × Obj)) (s : Shared) (σ : St) (H : Hp) (Q : List V → Hp → Prop), Inv X pins σ H s → t σ H Q → wpAny (model X.prog X.w) X.A (evalAll ((backToKw pos (keywordEach kws X.env)).map (·.2))) (AP X pins σ Q) X.xe s
section
variable {X : Cx} {CX : CXT} {k : Nat} {f C : Addr} {fd : FuncData} {ps ks : List Str} {sp : Sp} {E : XK} {x m : Str} {p pos apos kpos : Pos} {e o : Expr} {es : List Expr} {kws : List Keyword} {te ta : TE} {t tk : TA} {nm : Option Str}
/-- how a call with keywords binds: g puts the positional values us and the keywords' values ws (names ks) in the parameters' order, defaults among them -/
structure KBinds (K : PySem.W.Frag) (fd : FuncData) (ps ks : List Str) (g : List Value → List Value → List Value) (gV : List V → List V → List V) : Prop where
  to : ∀ (s : Shared) (us ws : List Value), K.In s.heap → (g us ws).length = ps.length → BindsTo s fd ⟨us, ks.zip ws⟩ (ps.zip (g us ws))
  rel : ∀ {vs : List V} {us : List Value} {zs : List V} {ws : List Value}, Vals vs us → Vals zs ws → Vals (gV vs zs) (g us ws)
def tCallK (sp : Sp) (gV : List V → List V → List V) (E : XK) (t tk : TA) : TE := fun σ H Q => t σ H fun vs H1 => tk σ H1 fun zs H2 => sp (gV vs zs) H2 Q E
variable {g : List Value → List Value → List Value} {gV : List V → List V → List V}
end

/-! ### a def's body keeps its promise -/
/-- names: the parameters first -/
structure FnScope (N P : List Str) (sc : Scope) : Prop where
  kind : sc.kind = .function
  co : sc.isCoroutine = false
  gen : sc.isGenerator = false
  nd : N.Nodup
  pre : N.take P.length = P
  par : ∀ x ∈ P, sc.names.lookup x = some .local ∨ sc.names.lookup x = some .cell
  nofree : ∀ y ∈ sc.names, y.2 ≠ .free

theorem bindL_out {kindOf : Str → Option NameKind} {x : Str} : ∀ {binds : List (Str × Value)} {m : Str → Option Value}, (∀ v, (x, v) ∉ binds) → bindL kindOf binds m x = m x
  | [], _, _ => rfl
  | (n, v) :: r, m, h => by
    unfold bindL
    rw [bindL_out fun w hw => h w (List.mem_cons_of_mem _ hw)]
    split
    · have : x ≠ n := by rintro rfl; exact h v List.mem_cons_self
      simp [this]
    · rfl
theorem bindC_out {kindOf : Str → Option NameKind} {x : Str} : ∀ {binds : List (Str × Value)} {m : Str → Option Value}, (∀ v, (x, v) ∉ binds) → bindC kindOf binds m x = m x
  | [], _, _ => rfl
  | (n, v) :: r, m, h => by
    unfold bindC
    rw [bindC_out fun w hw => h w (List.mem_cons_of_mem _ hw)]
    split
    · rfl
    · have : x ≠ n := by rintro rfl; exact h v List.mem_cons_self
      simp [this]
theorem bindL_get {kindOf : Str → Option NameKind} {x : Str} {v : Value} : ∀ {P : List Str} {vs : List Value} {i : Nat} {m : Str → Option Value}, P.Nodup → P[i]? = some x → vs[i]? = some v → kindOf x = some .local →
    bindL kindOf (P.zip vs) m x = some v
  | [], _, _, _, _, h, _, _ => by simp at h
  | _ :: _, [], _, _, _, _, h, _ => by simp at h
  | p :: P, w :: vs, 0, m, nd, h1, h2, hk => by
    simp at h1 h2; subst h1; subst h2
    show bindL kindOf ((p, w) :: P.zip vs) m p = _
    unfold bindL
    rw [bindL_out fun v hv => (List.nodup_cons.mp nd).1 (List.of_mem_zip hv).1, if_pos hk]
    simp
  | p :: P, w :: vs, i + 1, m, nd, h1, h2, hk => by
    show bindL kindOf ((p, w) :: P.zip vs) m x = _
    unfold bindL
    exact bindL_get (i := i) (List.nodup_cons.mp nd).2 (by simpa using h1) (by simpa using h2) hk
theorem bindC_get {kindOf : Str → Option NameKind} {x : Str} {v : Value} : ∀ {P : List Str} {vs : List Value} {i : Nat} {m : Str → Option Value}, P.Nodup → P[i]? = some x → vs[i]? = some v → kindOf x ≠ some .local →
    bindC kindOf (P.zip vs) m x = some v
  | [], _, _, _, _, h, _, _ => by simp at h
  | _ :: _, [], _, _, _, _, h, _ => by simp at h
  | p :: P, w :: vs, 0, m, nd, h1, h2, hk => by
    simp at h1 h2; subst h1; subst h2
    show bindC kindOf ((p, w) :: P.zip vs) m p = _
    unfold bindC
    rw [bindC_out fun v hv => (List.nodup_cons.mp nd).1 (List.of_mem_zip hv).1, if_neg hk]
    simp
  | p :: P, w :: vs, i + 1, m, nd, h1, h2, hk => by
    show bindC kindOf ((p, w) :: P.zip vs) m x = _
    unfold bindC
    exact bindC_get (i := i) (List.nodup_cons.mp nd).2 (by simpa using h1) (by simpa using h2) hk

/-- the names' values at the entry -/
def start (N : List Str) (vs : List V) : St := vs.map some ++ List.replicate (N.length - vs.length) none

/-- the context of a def's body, at its entry; an exception leaves the frame, then lies as CX says -/
def cxOf (CX : CXT) (P : Program) (w : World) (K : PySem.W.Frag) (mg : Str → Option Value) (base : Heap) (N : List Str) (qual : Str) (scope : Scope) (f : Addr) (cd : Value) (A : Around) (outer : List Env) (s : Shared) (H : Hp) (E : XK) : Cx where
  prog := P
  w := w
  K := K
  mg := mg
  base := base
  A := A.deeper (envOfC qual scope s.heap.objs.size f cd)
  N := N
  s₀ := s
  H₀ := H
  env := envOfC qual scope s.heap.objs.size f cd
  outer := outer
  stack := envOfC qual scope s.heap.objs.size f cd :: outer
  ex := []
  calm := true
  fn := fun _ => true
  pn := []
  xe := fun e s' => wpAny (model P w) (A.deeper (envOfC qual scope s.heap.objs.size f cd)) (leaving (envOfC qual scope s.heap.objs.size f cd) e) (fun _ s'' => CX outer H s E e s'') (fun e' s'' => CX outer H s E e' s'') s'

theorem cell_has {sc : Scope} {n : Nat} {x : Str} (h : sc.names.lookup x = some .cell) : ∃ c, (cellsFrom n sc.names []).lookup x = some c := by
  have q := PySem.W.cellsFrom_some sc.names n [] (.inl h)
  exact Option.isSome_iff_exists.mp q

theorem inv_start {CX : CXT} {P : Program} {w : World} {K : PySem.W.Frag} {mg : Str → Option Value} {base : Heap} {N ps : List Str} {qual : Str} {scope : Scope} {f : Addr} {cd : Value} {A : Around} {outer : List Env} {s s1 : Shared} {H : Hp} {E : XK} {us : List Value} {vs : List V}
    (S : FnScope N ps scope) (hd : A.handled = none) (e0 : Env0 P w K mg base A outer s H) (hl : vs.length = ps.length) (r : Vals vs us)
    (x : InCallC s s.heap.objs.size (bindL (envOfC qual scope s.heap.objs.size f cd).kindOf (ps.zip us) fun _ => none) (cellsFrom (s.heap.objs.size + 1) scope.names []) (bindC (envOfC qual scope s.heap.objs.size f cd).kindOf (ps.zip us) fun _ => none) s1) :
    Inv (cxOf CX P w K mg base N qual scope f cd A outer s H E) [] (start N vs) H s1 := by
  have hpl : ps.length ≤ N.length := by have := congrArg List.length S.pre; rw [List.length_take] at this; omega
  obtain ⟨h1, tk, rfl, hk⟩ := x.done
  have noA : ∀ b : Addr, b ∉ (cxOf CX P w K mg base N qual scope f cd A outer s H E).ex := fun b z => absurd (show b ∈ ([] : List Addr) from z) (by simp)
  refine ⟨⟨e0.mod, S.kind, rfl, rfl, Nat.le_refl _, fun y z c h1 h2 => ?_, fun y hy => ?_, fun y c _ h => ?_, fun _ => hd, Around.frames_deeper e0.frames, .inr ⟨rfl, rfl⟩, fun b z => absurd z (noA b), e0.bs, e0.bsz, fun b _ _ => noA b, fun b z => absurd z (noA b), e0.funs, e0.frf⟩,
    rfl, e0.bare, Un.kept hk, ⟨_, x.toInCall.ns, fun i y v h1 h2 h3 => ?_⟩, fun y c h => ⟨_, x.cell y c h⟩, e0.hok.fresh (Nat.le_refl _), fun y c h => ?_, fun p hp => absurd (show p ∈ ([] : List (Addr × Obj)) from hp) (by simp), e0.hok.kept hk, ?_⟩
  · exact name_of_addr x.apart (PySem.mem_of_lookup h1) (PySem.mem_of_lookup h2)
  · have hy : scope.names.lookup y = some .cell ∨ scope.names.lookup y = some .free := hy
    rcases hy with hy | hy
    · exact cell_has hy
    · exact absurd rfl (S.nofree _ (PySem.mem_of_lookup hy))
  · exact Nat.le_of_lt (x.above y c (PySem.mem_of_lookup h))
  · have hi : i < vs.length := by
      unfold start at h2
      by_cases hi : i < vs.length
      · exact hi
      · rw [List.getElem?_append_right (by simpa using hi)] at h2
        rw [List.getElem?_replicate] at h2
        split at h2 <;> cases h2
    have ha : vs[i]? = some v := by
      unfold start at h2
      rw [List.getElem?_append_left (by simpa using hi), List.getElem?_map] at h2
      cases e : vs[i]? with
      | none => rw [e] at h2; cases h2
      | some a => rw [e] at h2; cases h2; rfl
    obtain ⟨u, hu, rv⟩ := r.get ha
    have hp : ps[i]? = some y := by
      rw [← S.pre, List.getElem?_take_of_lt (by omega)]; exact h1
    have ndP : ps.Nodup := by rw [← S.pre]; exact S.nd.sublist (List.take_sublist _ _)
    refine ⟨u, rv, ?_⟩
    rcases S.par y (List.mem_of_getElem? hp) with k | k
    · exact .inl ⟨k, bindL_get ndP hp hu k⟩
    · obtain ⟨c, e⟩ := cell_has (n := s.heap.objs.size + 1) k
      refine .inr ⟨.inl k, c, e, ?_⟩
      have q := x.cell y c e
      rw [bindC_get ndP hp hu (by show scope.names.lookup y ≠ _; rw [k]; decide)] at q
      exact q
  · exact e0.hok.fresh (Nat.le_of_lt (x.above y c (PySem.mem_of_lookup h)))
  · unfold start
    show _ = N.length
    rw [List.length_append, List.length_map, List.length_replicate]
    omega

/-- THE RULE: a def (or a method) of the text, by its body. The body's reading t is chosen for each entry; it is run at the parameters' values -/
theorem fn_of {CX : CXT} {P : Program} {w : World} {K : PySem.W.Frag} {mg : Str → Option Value} {base : Heap} {k : Nat} {f : Addr} {name qual : Str} {params : Arguments} {body : List Stmt} {scope : Scope} {dV kV doc pm cdv ct oc : Value} {an od : Option Addr}
    {osl : Array (Option Value)} {N ps : List Str} {sp : Sp} (lk : K.lookup f = some ⟨oc, od, .func (PySem.W.fnOf name qual params body scope dV kV doc pm an cdv ct), osl⟩) (hcd : PySem.W.codeIn K cdv qual = true) (S : FnScope N ps scope)
    (len : ∀ vs H Q E, sp vs H Q E → vs.length = ps.length)
    (hbody : ∀ (A : Around) (outer : List Env) (s : Shared) (H : Hp) (vs : List V) (Q : VK) (E : XK), Room k (A.deeper (envOfC qual scope s.heap.objs.size f cdv)) → sp vs H Q E →
      ∃ t, PSs (cxOf CX P w K mg base N qual scope f cdv A outer s H E) body t ∧ t { nx := fun _ H' => Q .non H', rt := Q } (start N vs) H) :
    FnOk P w K mg base CX (k + 1) f (PySem.W.fnOf name qual params body scope dV kV doc pm an cdv ct) ps sp := by
  refine ⟨len, fun A outer s H args us vs Q E hr e0 hb r hsp => ?_⟩
  have hl := len _ _ _ _ hsp
  have KX : K.In s.heap := e0.mod.kin.keeps fun b o e => (e0.bs b o e).1
  have lim : s.heap.NoLimit := e0.mod.nolimit.keeps fun b o e => (e0.bs b o e).1
  have hkind : ∀ y ∈ ps.zip us, scope.names.lookup y.1 = some .local ∨ (scope.names.lookup y.1 = some .cell ∧ ((cellsFrom (s.heap.objs.size + 1) scope.names []).lookup y.1).isSome = true) := fun ⟨n, v⟩ hy => by
    rcases S.par n (List.of_mem_zip hy).1 with q | q
    · exact .inl q
    · exact .inr ⟨q, PySem.W.cellsFrom_some _ _ _ (.inl q)⟩
  refine codeAny_call_function hr.depth (KX _ _ lk) rfl S.co S.gen rfl (PySem.W.codeRec_of KX hcd) (hb _ _ _ _ ?_)
  refine wpAny_newFunctionEnv_cells S.kind hkind fun env he s1 x => ?_
  subst he
  refine ⟨lim.keeps x.toInCall.keep, codeAny_func ?_⟩
  obtain ⟨t, ht, hq⟩ := hbody A outer s H vs Q E (hr.deeper _) hsp
  have I : Inv (cxOf CX P w K mg base N qual scope f cdv A outer s H E) [] (start N vs) H s1 := inv_start S hr.hd e0 hl r x
  refine wpAny_mono (ht [] s1 (start N vs) H _ I hq) (fun fl s' hs => ?_) fun e s' hs => hs
  have fin : ∀ {σ' : St} {H' : Hp} {v : V} {u : Value}, Inv (cxOf CX P w K mg base N qual scope f cdv A outer s H E) [] σ' H' s' → RelV v u → Q v H' → CE outer P w H s Q u s' :=
    fun {σ' H' v u} J rv q => ⟨v, H', J.os, J.bare, J.base, J.hok, rv, q⟩
  cases fl with
  | ret u =>
    obtain ⟨v, σ', H', J, rv, q⟩ := hs
    exact fin J rv q
  | next =>
    obtain ⟨σ', H', J, q⟩ := hs
    exact fin (v := V.non) (u := Value.none) J rfl q
  | brk =>
    obtain ⟨_, _, _, q⟩ := hs
    exact False.elim q
  | cont =>
    obtain ⟨_, _, _, q⟩ := hs
    exact False.elim q
end L2

namespace L2
open PySem PySem.Spec PyProof.Rows
section
variable {X : Cx} {x : Str} {p pos : Pos} {e : Expr} {es : List Expr} {t : TA} {id T : String} {r : List V → Hp → VK → Prop}

def tCB (r : List V → Hp → VK → Prop) (t : TA) : TE := fun σ H Q => t σ H fun vs H1 => r vs H1 Q
/-- f(e, ..), f a built-in function -/
theorem pe_callB (hc : CallR X (.builtin id) r) (hg : Gl X x) (hm : X.mg x = none) (hv : bootBuiltins x = some (.builtin id)) (ha : PA X (e :: es) t) (hn : x ≠ "__name__" := by decide) (hdb : (x == ("__debug__" : Str)) = false := by decide)
    (he : starEach (e :: es) X.env = (false, eval e X.env) :: starEach es X.env := by rfl) (hpl : (backTo pos (starEach es X.env)).any (·.1) = false := by rfl) : PE X (.Call (.Name x p) (e :: es) [] pos) (tCB r t) := by
  intro pins s σ H Q I h
  refine wpAny_Call_Name_kw (ld_blt I hg hm hv ?_ hn hdb)
  exact PyProof.Rows.callWith_builtin1 (thn (ha pos pins s σ H _ I h) fun us s1 ⟨vs, H1, I1, r1, q1⟩ => hc pins s1 σ H1 vs us Q I1 r1 q1) he hpl
/-- T(e, ..), T a built-in type -/
theorem pe_callTy (hc : CallR X (.type T) r) (hg : Gl X x) (hm : X.mg x = none) (hv : bootBuiltins x = some (.type T)) (ha : PA X (e :: es) t) (hn : x ≠ "__name__" := by decide) (hdb : (x == ("__debug__" : Str)) = false := by decide)
    (he : starEach (e :: es) X.env = (false, eval e X.env) :: starEach es X.env := by rfl) (hpl : (backTo pos (starEach es X.env)).any (·.1) = false := by rfl) : PE X (.Call (.Name x p) (e :: es) [] pos) (tCB r t) := by
  intro pins s σ H Q I h
  refine wpAny_Call_Name_kw (ld_blt I hg hm hv ?_ hn hdb)
  exact PyProof.Rows.callWith_type1 (thn (ha pos pins s σ H _ I h) fun us s1 ⟨vs, H1, I1, r1, q1⟩ => hc pins s1 σ H1 vs us Q I1 r1 q1) he hpl
end
end L2

namespace HT
open PySem PyProof.Rows

/-- t < u of tuples of ints -/
def lexLt : List Int → List Int → Bool
  | [], [] => false
  | [], _ :: _ => true
  | _ :: _, [] => false
  | x :: xs, y :: ys => if x = y then lexLt xs ys else decide (x < y)
theorem rcLt_int (A : Around) (s : Shared) (a : Int) (t : Tok) (c : Int) (u : Tok) (prog : Program) (w : World) (E : Value → Shared → Prop) (Q : Value → Shared → Prop) (h : Q (.bool (decide (a < c))) s) :
    wpAny (model prog w) A (richCompare .Lt (.int a t) (.int c u)) Q E s :=
  (PyProof.Rows.lt_int h : wpAny (model prog w) A (compareOp .Lt (.int a t) (.int c u)) Q E s)

section
open PySem.SeqAt
open PySem.AutoSeq1 (wpAny_loadPart')
open PySem.MeetsSeq PySem.MeetsSeq2 PySem.MeetsSeq3

end

section
variable {prog : Program} {w : World} {A : Around} {E : Value → Shared → Prop} {s : Shared}

/-- t + u, t not empty -/
theorem cat_tup {t b : Addr} {vs ws : List Value} {Q : Value → Shared → Prop} (ht : IsTup s.heap t vs.toArray) (hb : IsTup s.heap b ws.toArray) (hv : vs ≠ [])
    (h1 : ws = [] → Q (.ref t) s) (h2 : ws ≠ [] → Q (.ref s.heap.objs.size) { s with heap := s.heap.push { cls := .type "tuple", data := .seq (vs ++ ws).toArray } })
    (hsz : vs.length + ws.length ≤ sizeLine) : wpAny (model prog w) A (binaryOp .Add (.ref t) (.ref b)) Q E s := by
  obtain ⟨⟨cls, dd, data, sl⟩, ho, hc, n, hd⟩ := id ht
  obtain ⟨⟨cls2, dd2, data2, sl2⟩, ho2, hc2, n2, hd2⟩ := id hb
  simp only at hc hd hc2 hd2
  subst hc hd hc2 hd2
  have e : vs.toArray ++ ws.toArray = (vs ++ ws).toArray := by simp
  by_cases hw : ws = []
  · exact concat_meets ⟨_, ho, rfl⟩ ⟨_, ho2, rfl⟩ noFill_tuple_add seq_tuple_add PySem.F.slot_tuple_add PySem.F.entry_tuple_add (PySem.F.args_tuple_add_2 _ _)
      (tuple_addW1 t b vs.toArray ws.toArray n n2 dd dd2 sl sl2 (by simpa using hv) (by simp [hw])) ⟨ho, ho2, h1 hw⟩
  · refine concat_meets ⟨_, ho, rfl⟩ ⟨_, ho2, rfl⟩ noFill_tuple_add seq_tuple_add PySem.F.slot_tuple_add PySem.F.entry_tuple_add (PySem.F.args_tuple_add_2 _ _)
      (tuple_addW2 t b vs.toArray ws.toArray n n2 dd dd2 sl sl2 (by simpa using hv) (by simpa using hw) (by rw [List.size_toArray, List.size_toArray]; exact hsz)) ⟨ho, ho2, ?_⟩
    rw [e]
    exact h2 hw

/-! ### t[a:b], not the whole -/
/-- a slice's bound as a place among n (d where it is left out) -/
def sIx (n d : Nat) : Option Int → Nat
  | none => d
  | some v => if v < 0 then (v + (n : Int)).toNat else min v.toNat n
theorem sIx_none (n d : Nat) : sIx n d none = d := rfl
theorem sIx_nat (n d k : Nat) : sIx n d (some (k : Int)) = min k n := by
  show (if (k : Int) < 0 then ((k : Int) + (n : Int)).toNat else min (k : Int).toNat n) = min k n
  rw [if_neg (by omega), Int.toNat_natCast]
theorem sIx_le (n d : Nat) (hd : d ≤ n) (o : Option Int) : sIx n d o ≤ n := by
  cases o with
  | none => exact hd
  | some v =>
    show (if v < 0 then (v + (n : Int)).toNat else min v.toNat n) ≤ n
    by_cases hv : v < 0
    · rw [if_pos hv]; omega
    · rw [if_neg hv]; exact Nat.min_le_right _ _
theorem clip_eq (v : Int) (n d : Nat) : (if v < 0 then max (v + (n : Int)) 0 else min v (n : Int)) = ((sIx n d (some v) : Nat) : Int) := by
  show (if v < 0 then max (v + (n : Int)) 0 else min v (n : Int)) = (((if v < 0 then (v + (n : Int)).toNat else min v.toNat n) : Nat) : Int)
  by_cases hv : v < 0
  · simp only [if_pos hv]; omega
  · simp only [if_neg hv]; omega
theorem adjust_gen (lo hi : Option Int) (n : Nat) : Builtin.Slice.sliceAdjust lo hi 1 (n : Int) = (((sIx n 0 lo : Nat) : Int), ((sIx n n hi : Nat) : Int)) := by
  have h1 : ¬ ((1 : Int) < 0) := by omega
  unfold Builtin.Slice.sliceAdjust
  simp only [h1, if_false]
  refine Prod.ext ?_ ?_
  · cases lo with
    | none => rfl
    | some v => exact clip_eq v n 0
  · cases hi with
    | none => rfl
    | some v => exact clip_eq v n n
theorem places_gen (i j : Nat) : Builtin.Slice.slicePlaces (i : Int) (j : Int) 1 = j - i := by
  unfold Builtin.Slice.slicePlaces
  have h1 : (1 : Int) > 0 := by omega
  simp only [h1, if_true, Int.ediv_one]
  split <;> omega
theorem slicePart_ {v : Value} {o : Option Int} {Q : Option Int → Shared → Prop} (p : IsPart v o) (h : Q o s) : wpAny (model prog w) A (Builtin.Slice.slicePartIndex v) Q E s := by
  cases p with
  | none => exact slicePart_none h
  | int i t => exact slicePart_int h
theorem sliceApplied_gen {sl : Addr} {vl vu : Value} {lo hi : Option Int} {n : Nat} {Q : Int × Int × Nat → Shared → Prop} (hs : s.heap.IsSliceOf sl vl vu .none) (pl : IsPart vl lo) (pu : IsPart vu hi)
    (h : Q (((sIx n 0 lo : Nat) : Int), 1, sIx n n hi - sIx n 0 lo) s) : wpAny (model prog w) A (Builtin.Slice.sliceApplied (.ref sl) (pure (n : Int))) Q E s := by
  obtain ⟨os, hos, hcs, hds⟩ := id hs
  unfold Builtin.Slice.sliceApplied Builtin.Slice.sliceFields
  refine wpAny_bind (wpAny_bind (wpAny_field hos hds (x := vl) rfl (wpAny_bind (wpAny_field hos hds (x := vu) rfl (wpAny_bind (wpAny_field hos hds (x := .none) rfl (wpAny_pure ?_)))))))
  refine wpAny_bind (slicePart_none ?_)
  show wpAny _ _ (if ((1 : Int) == 0) = true then _ else _) _ _ s
  rw [if_neg (by decide)]
  refine wpAny_bind (slicePart_ pl (wpAny_bind (slicePart_ pu (wpAny_bind (wpAny_pure ?_)))))
  show wpAny _ _ (match Builtin.Slice.sliceAdjust lo hi 1 (n : Int) with | (lo, hi) => pure (lo, (1 : Int), Builtin.Slice.slicePlaces lo hi 1)) _ _ s
  rw [adjust_gen lo hi n]
  show wpAny _ _ (pure (((sIx n 0 lo : Nat) : Int), (1 : Int), Builtin.Slice.slicePlaces ((sIx n 0 lo : Nat) : Int) ((sIx n n hi : Nat) : Int) 1)) _ _ s
  rw [places_gen]
  exact wpAny_pure h
theorem pick_gen (xs : Array Value) (i k : Nat) : ((List.range k).filterMap fun (m : Nat) => xs[((i : Int) + (m : Int) * 1).toNat]?).toArray = ((xs.toList.drop i).take k).toArray := by
  have e : (fun (m : Nat) => xs[((i : Int) + (m : Int) * 1).toNat]?) = fun m => xs[i + m]? := by
    funext m
    have : ((i : Int) + (m : Int) * 1).toNat = i + m := by omega
    rw [this]
  rw [e]
  have := pick_run xs i k
  rw [List.filterMap_map] at this
  have e2 : ((fun x => xs[x]?) ∘ fun x => i + x) = fun m => xs[i + m]? := rfl
  rw [e2] at this
  rw [this]

theorem getItem_tuple_cut {t sl : Addr} {items : Array Value} {vl vu : Value} {lo hi : Option Int} {Q : Value → Shared → Prop} (ht : IsTup s.heap t items) (hs : s.heap.IsSliceOf sl vl vu .none) (pl : IsPart vl lo) (pu : IsPart vu hi)
    (hw : ¬ (sIx items.size 0 lo = 0 ∧ sIx items.size items.size hi = items.size))
    (h : Q (.ref s.heap.objs.size) { s with heap := s.heap.push { cls := .type "tuple", data := .seq ((items.toList.drop (sIx items.size 0 lo)).take (sIx items.size items.size hi - sIx items.size 0 lo)).toArray } })
    (hsz : items.size ≤ sizeLine) : wpAny (model prog w) A (getItem (.ref t) (.ref sl)) Q E s := by
  have htake : sizeOk (.seq ((items.toList.drop (sIx items.size 0 lo)).take (sIx items.size items.size hi - sIx items.size 0 lo)).toArray) := by
    show ((items.toList.drop (sIx items.size 0 lo)).take (sIx items.size items.size hi - sIx items.size 0 lo)).toArray.size ≤ sizeLine
    rw [List.size_toArray, List.length_take, List.length_drop, Array.length_toList]
    omega
  have hj : sIx items.size items.size hi ≤ items.size := sIx_le _ _ (Nat.le_refl _) hi
  obtain ⟨os, hos, hcs, hds⟩ := id hs
  have hTs : s.TypeIs (.ref sl) "slice" := ⟨os, hos, hcs⟩
  unfold getItem
  try with_reducible refine wpAny_holding ?_
  first | refine wpAny_bind (wpAny_pure ?_) | skip
  refine wpAny_bind (wpAny_sequenceKey ht.typeIs (by decide) ?_)
  refine wpAny_bind (wpAny_callSpecial?_slot (name := Str.ofString "__getitem__") ht.typeIs PyProof.Rows.slot_tuple_getitem
    (wpAny_call_entry PyProof.Rows.slot_tuple_getitem ht.typeIs entry_tuple_getitem ?_ (args_tuple_getitem _ _)))
  show wpAny _ _ (Builtin.Tuple.tupleItemsOf (.ref t) >>= _) _ _ s
  refine wpAny_bind (tupleItemsOf_ ht ?_)
  refine wpAny_bind (wpAny_typeOf hTs ?_)
  rw [if_pos (by decide)]
  refine wpAny_bind (sliceApplied_gen hs pl pu ?_)
  have hno : ¬ ((((sIx items.size 0 lo : Nat) : Int) == 0 && (1 : Int) == 1 && (sIx items.size items.size hi - sIx items.size 0 lo) == items.size) = true) := by
    intro q
    rw [Bool.and_eq_true, Bool.and_eq_true] at q
    have q1 : ((sIx items.size 0 lo : Nat) : Int) = 0 := eq_of_beq q.1.1
    have q2 : sIx items.size items.size hi - sIx items.size 0 lo = items.size := eq_of_beq q.2
    exact hw ⟨by omega, by omega⟩
  show wpAny _ _ (if (((sIx items.size 0 lo : Nat) : Int) == 0 && (1 : Int) == 1 && (sIx items.size items.size hi - sIx items.size 0 lo) == items.size) = true then _ else _) _ _ s
  rw [if_neg hno, pick_gen]
  first
    | exact wpAny_bind (m := Builtin.Tuple.tupleExact _) (wpAny_newObj_type (wpAny_pure ⟨_, rfl, wpAny_pure h⟩) htake)
    | exact wpAny_bind (m := Builtin.Tuple.tupleExact _) (wpAny_newObj_type (wpAny_bind (wpAny_pure (wpAny_pure ⟨_, rfl, wpAny_pure h⟩))) htake)
    | exact wpAny_bind (wpAny_bind (m := Builtin.Tuple.tupleExact _) (wpAny_newObj_type (wpAny_pure (wpAny_pure ⟨_, rfl, wpAny_pure h⟩)) htake))
    | exact wpAny_bind (wpAny_bind (m := Builtin.Tuple.tupleExact _) (wpAny_newObj_type (wpAny_pure ⟨_, rfl, wpAny_pure h⟩) htake))
end
end HT

namespace L2
open PySem PySem.Spec PyProof.Rows

/-! ### the parts of a slice -/
abbrev TO := St → Hp → (Option Int → Hp → Prop) → Prop
/-- a slice's part (left out, or an int) -/
def PO (X : Cx) (e : Option Expr) (t : TO) : Prop :=
  ∀ (pins : List (Addr × Obj)) (s : Shared) (σ : St) (H : Hp) (Q : Option Int → Hp → Prop), Inv X pins σ H s → t σ H Q →
    wpAny (model X.prog X.w) X.A (evalPart e X.env) (fun u s' => ∃ o H', Inv X pins σ H' s' ∧ IsPart u o ∧ Q o H') X.xe s
def tNoPart : TO := fun _ H Q => Q none H
def tPart (t : TE) : TO := fun σ H Q => t σ H fun x H1 => ∃ i, x = .int i ∧ Q (some i) H1

section
variable {X : Cx} {e : Expr} {te : TE} {lo hi : Option Expr} {tl th : TO} {pos p2 : Pos}

theorem po_none : PO X none tNoPart := by
  intro pins s σ H Q I h
  rw [evalPart_none]
  exact wpAny_pure ⟨none, H, I, .none, h⟩
theorem po_some (h : PE X e te) : PO X (some e) (tPart te) := by
  intro pins s σ H Q I hw
  rw [evalPart_some]
  refine thn (h pins s σ H _ I hw) fun u s1 ⟨x, H1, I1, r1, q1⟩ => ?_
  obtain ⟨i, rfl, q⟩ := q1
  obtain ⟨t, rfl⟩ := r1
  exact ⟨some i, H1, I1, .int i t, q⟩

/-- what a slice of a value is, by values: the slice object stands at sl -/
def SlR (X : Cx) (r : V → Option Int → Option Int → Hp → VK → Prop) : Prop :=
  ∀ (pins : List (Addr × Obj)) (s : Shared) (σ : St) (H : Hp) (x : V) (v vl vu : Value) (lo hi : Option Int) (sl : Addr) (Q : VK), Inv X pins σ H s → RelV x v → s.heap.IsSliceOf sl vl vu .none → IsPart vl lo → IsPart vu hi → r x lo hi H Q →
    ∃ T id, typeLookup (.type T) "__getitem__" = pure (some (.builtin id)) ∧ s.TypeIs v T ∧ wpAny (model X.prog X.w) X.A (getItem v (.ref sl)) (EP X pins σ Q) X.xe s
theorem SlR.or {r r' : V → Option Int → Option Int → Hp → VK → Prop} (h : SlR X r) (h' : SlR X r') : SlR X (fun x lo hi H Q => r x lo hi H Q ∨ r' x lo hi H Q) := by
  intro pins s σ H x v vl vu lo hi sl Q I rx hs pl pu q
  rcases q with q | q
  · exact h pins s σ H x v vl vu lo hi sl Q I rx hs pl pu q
  · exact h' pins s σ H x v vl vu lo hi sl Q I rx hs pl pu q
def tSl (r : V → Option Int → Option Int → Hp → VK → Prop) (te : TE) (tl th : TO) : TE := fun σ H Q => te σ H fun x H1 => tl σ H1 fun l H2 => th σ H2 fun u H3 => r x l u H3 Q
/-- a[lo:hi], any a -/
theorem pe_slice {r : V → Option Int → Option Int → Hp → VK → Prop} (hr : SlR X r) (he : PE X e te) (hl : PO X lo tl) (hu : PO X hi th) : PE X (.Subscript e (.Slice lo hi none p2) pos) (tSl r te tl th) := by
  intro pins s σ H Q I h
  refine Subscript_ (thn (he pins s σ H _ I h) fun v s1 ⟨x, H1, I1, r1, q1⟩ => ?_)
  refine wpAny_Slice (thn (hl pins s1 σ H1 _ I1 q1) fun vl s2 ⟨l, H2, I2, pl, q2⟩ => thn (hu pins s2 σ H2 _ I2 q2) fun vu s3 ⟨u, H3, I3, pu, q3⟩ => ?_)
  rw [evalPart_none]
  refine wpAny_pure ?_
  have I4 : Inv X pins σ H3 { s3 with heap := s3.heap.push { cls := .type "slice", data := .fields #[vl, vu, .none] } } := I3.kept (t' := s3.toks) fun b ob q => Heap.get?_push_of_some _ q
  obtain ⟨T, id, hT, ht, hg⟩ := hr pins { s3 with heap := s3.heap.push { cls := .type "slice", data := .fields #[vl, vu, .none] } } σ H3 x v vl vu l u s3.heap.objs.size Q I4 r1 (Heap.IsSliceOf.new ..) pl pu q3
  show wpAny (model X.prog X.w) X.A (subscriptTail e (.Slice lo hi none p2) v (.ref s3.heap.objs.size)) (EP X pins σ Q) X.xe { s3 with heap := s3.heap.push { cls := .type "slice", data := .fields #[vl, vu, .none] } }
  exact tail_any (ops := [.ref s3.heap.objs.size, v]) ht hT hg (by with_unfolding_all rfl)

/-- the items of xs[lo:hi] -/
def cutV (xs : List V) (lo hi : Option Int) : List V := (xs.drop (HT.sIx xs.length 0 lo)).take (HT.sIx xs.length xs.length hi - HT.sIx xs.length 0 lo)
theorem cutV_length (xs : List V) (lo hi : Option Int) : (cutV xs lo hi).length ≤ xs.length := by
  unfold cutV
  rw [List.length_take, List.length_drop]
  omega
/-- t[lo:hi], not the whole of it (the whole would be t itself) -/
def rSlT (K : PySem.W.Frag) : V → Option Int → Option Int → Hp → VK → Prop := fun x lo hi H Q => ∃ a xs, x = .ref a ∧ SqT K H a xs ∧
  ¬ (HT.sIx xs.length 0 lo = 0 ∧ HT.sIx xs.length xs.length hi = xs.length) ∧ ∀ p, H p = none → Q (.ref p) (upd H p (.tup (cutV xs lo hi)))
theorem sl_tup : SlR X (rSlT X.K) := by
  intro pins s σ H x v vl vu lo hi sl Q I rx hs pl pu h
  obtain ⟨a, xs, rfl, hx, hw, q⟩ := h
  cases rx
  obtain ⟨its, r, ht, hz⟩ := I.tuple hx
  have hlen : its.toArray.size = xs.length := by rw [List.size_toArray]; exact r.length.symm
  refine ⟨"tuple", _, PyProof.Rows.slot_tuple_getitem.lookup, ht.typeIs, ?_⟩
  refine HT.getItem_tuple_cut ht hs pl pu (by rw [hlen]; exact hw) ?_ (by rw [hlen]; exact hz)
  rw [hlen]
  refine ⟨.ref s.heap.objs.size, _, I.laid (t' := s.toks) (o := .tup (cutV xs lo hi)) (fun b ob q => Heap.get?_push_of_some _ q) (Nat.le_refl _) ?_, rfl, q _ (I.hok.fresh (Nat.le_refl _))⟩
  exact ⟨Nat.le_trans (cutV_length xs lo hi) hz, _, (r.drop (HT.sIx xs.length 0 lo)).take (HT.sIx xs.length xs.length hi - HT.sIx xs.length 0 lo), IsTup.new _ _⟩

/-! ### t < u, t + u -/
def rLtT (K : PySem.W.Frag) : R2 := fun x y H Q => ∃ a b ns ms, x = .ref a ∧ y = .ref b ∧ SqT K H a (ns.map V.int) ∧ SqT K H b (ms.map V.int) ∧ Q (.bl (HT.lexLt ns ms)) H
/-- t + u, t not empty: u empty gives t itself -/
def rCatT (K : PySem.W.Frag) : R2 := fun x y H Q => ∃ a b xs ys, x = .ref a ∧ y = .ref b ∧ SqT K H a xs ∧ SqT K H b ys ∧ xs ≠ [] ∧ xs.length + ys.length ≤ sizeLine ∧
  (ys = [] → Q (.ref a) H) ∧ (ys ≠ [] → ∀ p, H p = none → Q (.ref p) (upd H p (.tup (xs ++ ys))))
theorem Vals.nil_iff {xs : List V} {us : List Value} (r : Vals xs us) : us = [] ↔ xs = [] := by
  cases r with
  | nil => simp
  | cons _ _ => simp
theorem op_catT : OpR X (binaryOp .Add) (rCatT X.K) := by
  intro pins s σ H x y v u Q I rx ry h
  obtain ⟨a, b, xs, ys, rfl, rfl, ha, hb, hx, hz, q1, q2⟩ := h
  cases rx
  cases ry
  obtain ⟨its, r1, p1, _⟩ := I.tuple ha
  obtain ⟨its2, r2, p2, _⟩ := I.tuple hb
  refine HT.cat_tup p1 p2 (fun z => hx (r1.nil_iff.mp z)) (fun z => ⟨.ref a, H, I, rfl, q1 (r2.nil_iff.mp z)⟩) (fun z => ?_) (by rw [← r1.length, ← r2.length]; exact hz)
  refine ⟨.ref s.heap.objs.size, _, I.laid (t' := s.toks) (o := .tup (xs ++ ys)) (fun b ob q => Heap.get?_push_of_some _ q) (Nat.le_refl _) ?_, rfl, q2 (fun w => z (r2.nil_iff.mpr w)) _ (I.hok.fresh (Nat.le_refl _))⟩
  exact ⟨by rw [List.length_append]; exact hz, _, r1.append r2, IsTup.new _ _⟩
end
end L2

namespace L2
open PySem PySem.Spec PyProof.Rows

/-! ### places -/
/-- the place that an index of any sign means -/
def ixN (n : Nat) (i : Int) : Option Nat := if 0 ≤ i then (if i < n then some i.toNat else none) else if -(n : Int) ≤ i then some (i + n).toNat else none
def atI {α : Type} (xs : List α) (i : Int) : Option α := (ixN xs.length i).bind fun j => xs[j]?
theorem ixN_seq {n : Nat} {i : Int} {j : Nat} (h : ixN n i = some j) : seqIndex? i n = some j ∧ j < n ∧ -(n : Int) ≤ i ∧ i < n := by
  unfold ixN at h
  by_cases h0 : 0 ≤ i
  · rw [if_pos h0] at h
    by_cases h1 : i < n
    · rw [if_pos h1] at h
      have e : i.toNat = j := Option.some.inj h
      exact ⟨by rw [seqIndex_of h0 h1, e], by omega, by omega, h1⟩
    · rw [if_neg h1] at h; cases h
  · rw [if_neg h0] at h
    by_cases h1 : -(n : Int) ≤ i
    · rw [if_pos h1] at h
      have e : (i + n).toNat = j := Option.some.inj h
      exact ⟨by rw [seqIndex_neg (by omega) h1, e], by omega, h1, by omega⟩
    · rw [if_neg h1] at h; cases h
theorem atI_get {α : Type} {xs : List α} {i : Int} {v : α} (h : atI xs i = some v) : ∃ j, seqIndex? i xs.length = some j ∧ xs[j]? = some v ∧ j < xs.length ∧ -(xs.length : Int) ≤ i ∧ i < xs.length := by
  unfold atI at h
  cases e : ixN xs.length i with
  | none => rw [e] at h; cases h
  | some j =>
    rw [e] at h
    obtain ⟨h1, h2, h3, h4⟩ := ixN_seq e
    exact ⟨j, h1, h, h2, h3, h4⟩
theorem atI_nat {α : Type} {xs : List α} {j : Nat} {v : α} (h : xs[j]? = some v) : atI xs (j : Int) = some v := by
  have hj : j < xs.length := (List.getElem?_eq_some_iff.mp h).1
  have e : ixN xs.length (j : Int) = some j := by
    unfold ixN
    rw [if_pos (by omega), if_pos (by omega)]; simp
  unfold atI; rw [e]; exact h
/-! ### what may be subscripted -/
/-- what stands as an index of a plain subscript -/
def PlainIx (b : Expr) : Prop := ∀ o i, subscripted b false o i = operate [o, i] (getItem o i)
/-- a subscript by values -/
def IxR (X : Cx) (r : R2) : Prop :=
  ∀ (value slice : Expr) (pins : List (Addr × Obj)) (s : Shared) (σ : St) (H : Hp) (x y : V) (v u : Value) (Q : VK), Inv X pins σ H s → RelV x v → RelV y u → r x y H Q →
    subscripted slice false v u = operate [v, u] (getItem v u) → wpAny (model X.prog X.w) X.A (subscriptTail value slice v u) (EP X pins σ Q) X.xe s
/-- a call of a builtin's method by values: the receiver, the arguments -/
def MtR (X : Cx) (id : String) (r : V → List V → Hp → VK → Prop) : Prop :=
  ∀ (pins : List (Addr × Obj)) (s : Shared) (σ : St) (H : Hp) (x : V) (xs : List V) (v : Value) (us : List Value) (Q : VK), Inv X pins σ H s → RelV x v → Vals xs us → r x xs H Q →
    wpAny (model X.prog X.w) X.A (call (.builtin id) (v :: us)) (EP X pins σ Q) X.xe s
section
variable {X : Cx} {a b : Expr} {ta tb : TE} {pos : Pos}
theorem IxR.or {r r' : R2} (h : IxR X r) (h' : IxR X r') : IxR X (fun x y H Q => r x y H Q ∨ r' x y H Q) := by
  intro value slice pins s σ H x y v u Q I rx ry q hs
  rcases q with q | q
  · exact h value slice pins s σ H x y v u Q I rx ry q hs
  · exact h' value slice pins s σ H x y v u Q I rx ry q hs
theorem MtR.or {id : String} {r r' : V → List V → Hp → VK → Prop} (h : MtR X id r) (h' : MtR X id r') : MtR X id (fun x xs H Q => r x xs H Q ∨ r' x xs H Q) := by
  intro pins s σ H x xs v us Q I rx rs q
  rcases q with q | q
  · exact h pins s σ H x xs v us Q I rx rs q
  · exact h' pins s σ H x xs v us Q I rx rs q
/-- a[b] -/
theorem pe_ix {r : R2} (hr : IxR X r) (ha : PE X a ta) (hb : PE X b tb) (hs : PlainIx b) : PE X (.Subscript a b pos) (tOp r ta tb) := by
  intro pins s σ H Q I h
  exact Subscript_ (binT ha hb I h fun v u s2 x y H2 I2 rx ry q => hr a b pins s2 σ H2 x y v u Q I2 rx ry q (hs _ _))

def rIxL (K : PySem.W.Frag) : R2 := fun x y H Q => ∃ p xs i v, x = .ref p ∧ y = .int i ∧ SqL K H p xs ∧ atI xs i = some v ∧ Q v H
def rIxT (K : PySem.W.Frag) : R2 := fun x y H Q => ∃ p xs i v, x = .ref p ∧ y = .int i ∧ SqT K H p xs ∧ atI xs i = some v ∧ Q v H
def rIxS : R2 := fun x y H Q => ∃ z i c, x = .str z ∧ y = .int i ∧ z.length ≤ sizeLine ∧ atI z.cps.toList i = some c ∧ Q (.str ⟨#[c]⟩) H
theorem ix_list : IxR X (rIxL X.K) := by
  intro value slice pins s σ H x y v u Q I rx ry h hs
  obtain ⟨p, xs, i, z, rfl, rfl, hq, he, q⟩ := h
  cases rx
  obtain ⟨t, rfl⟩ := ry
  obtain ⟨its, r, pl, hz⟩ := I.list hq
  obtain ⟨j, h1, h2, h3, h4, h5⟩ := atI_get he
  obtain ⟨w, ew, rw'⟩ := r.get h2
  have hl := r.length
  have hn := line63
  have fin : EP X pins σ Q w s := ⟨z, H, I, rw', q⟩
  by_cases h0 : 0 ≤ i
  · have hj : i.toNat = j := by
      rw [seqIndex_of h0 h5] at h1
      exact Option.some.inj h1
    exact item_listR pl.isList h0 (by omega) (by rw [hj]; simpa using ew) fin hs
  · have hj : (i + (its.toArray.size : Int)).toNat = j := by
      rw [seqIndex_neg (by omega) h4] at h1
      rw [List.size_toArray, ← hl]
      exact Option.some.inj h1
    exact subscriptTail_builtinR (x := w) pl.isList.typeIs slot_list_getitem.lookup
      (wpAny_getItem_list_neg (Q := fun r s' => r = w ∧ EP X pins σ Q r s') pl.isList (by omega) (by rw [List.size_toArray] <;> omega) (by omega) (by rw [hj]; simpa using ew) ⟨rfl, fin⟩) hs
theorem ix_tup : IxR X (rIxT X.K) := by
  intro value slice pins s σ H x y v u Q I rx ry h hs
  obtain ⟨p, xs, i, z, rfl, rfl, hq, he, q⟩ := h
  cases rx
  obtain ⟨t, rfl⟩ := ry
  obtain ⟨its, r, pl, hz⟩ := I.tuple hq
  obtain ⟨j, h1, h2, h3, h4, h5⟩ := atI_get he
  obtain ⟨w, ew, rw'⟩ := r.get h2
  have hl := r.length
  have hn := line63
  have fin : EP X pins σ Q w s := ⟨z, H, I, rw', q⟩
  exact subscriptTail_builtinR (x := w) pl.typeIs slot_tuple_getitem.lookup
    (getItem_tuple (j := j) (Q := fun r s' => r = w ∧ EP X pins σ Q r s') pl (by omega) (by omega) (by rw [List.size_toArray, ← hl]; exact h1) (by simpa using ew) ⟨rfl, fin⟩) hs
theorem ix_str : IxR X rIxS := by
  intro value slice pins s σ H x y v u Q I rx ry h hs
  obtain ⟨z, i, c, rfl, rfl, hz, he, q⟩ := h
  obtain ⟨t, rfl⟩ := rx
  obtain ⟨t', rfl⟩ := ry
  obtain ⟨j, h1, h2, h3, h4, h5⟩ := atI_get he
  have hl : z.cps.toList.length = z.length := by simp [Str.length]
  rw [hl] at h1 h4 h5
  have hn := line63
  exact tail_any (typeIs_str s z t) slot_str_getitem.lookup (getItem_str (c := c) (by
    have e1 : decide (i < -(2 ^ 63 : Int)) = false := decide_eq_false (by omega)
    have e2 : decide (i ≥ 2 ^ 63) = false := decide_eq_false (by omega)
    rw [e1, e2, Bool.or_false]) (by rw [h1]; simpa using h2) ⟨.str ⟨#[c]⟩, H, I.tok _, ⟨_, rfl⟩, q⟩) hs
/-- list, tuple or str -/
def rIx (K : PySem.W.Frag) : R2 := fun x y H Q => rIxL K x y H Q ∨ rIxT K x y H Q ∨ rIxS x y H Q
theorem ix_seq : IxR X (rIx X.K) := ix_list.or (ix_tup.or ix_str)

/-! ### xs[i] = v, any sign -/
theorem Inv.lst {pins : List (Addr × Obj)} {σ : St} {H : Hp} {s : Shared} {p : Addr} {xs : List V} (I : Inv X pins σ H s) (h : H p = some (.lst xs)) :
    ∃ (its : List Value) (n : Nat), Vals xs its ∧ s.heap.get? p = some { cls := .type "list", data := .seq its.toArray n } ∧ xs.length ≤ sizeLine := by
  obtain ⟨z, its, n, r, e⟩ := I.hok p _ h
  exact ⟨its, n, r, e, z⟩
def rSetL : V → V → V → Hp → (Hp → Prop) → Prop := fun o i v H Q => ∃ p xs k j, o = .ref p ∧ i = .int k ∧ H p = some (.lst xs) ∧ ixN xs.length k = some j ∧ Q (upd H p (.lst (xs.set j v)))
/-! ### slices -/
theorem slice_bounds (lo hi : Option Int) (n : Nat) : (sliceBounds lo hi none n).1 = ((HT.sIx n 0 lo : Nat) : Int) ∧ (sliceBounds lo hi none n).2.1 = ((HT.sIx n n hi : Nat) : Int) ∧ (sliceBounds lo hi none n).2.2 = 1 := by
  refine ⟨?_, ?_, rfl⟩
  · cases lo with
    | none => simp [sliceBounds, HT.sIx]
    | some i =>
      simp only [sliceBounds, HT.sIx, Option.getD_none, show (1 : Int) > 0 by decide, if_true]
      by_cases h : i < 0
      · simp only [h, if_true] <;> omega
      · simp only [h, if_false] <;> omega
  · cases hi with
    | none => simp [sliceBounds, HT.sIx]
    | some i =>
      simp only [sliceBounds, HT.sIx, Option.getD_none, show (1 : Int) > 0 by decide, if_true]
      by_cases h : i < 0
      · simp only [h, if_true] <;> omega
      · simp only [h, if_false] <;> omega
theorem slicePick_cut (its : List Value) (lo hi : Option Int) : slicePick its.toArray lo hi none = ((its.drop (HT.sIx its.length 0 lo)).take (HT.sIx its.length its.length hi - HT.sIx its.length 0 lo)).toArray := by
  obtain ⟨h1, h2, h3⟩ := slice_bounds lo hi its.toArray.size
  unfold slicePick
  rw [h1, h2, h3]
  simp only [sliceRange_one, pick_run, List.size_toArray] <;> rfl
/-- xs[lo:hi] of a list: a new list -/
def rSlL (K : PySem.W.Frag) : V → Option Int → Option Int → Hp → VK → Prop := fun x lo hi H Q => ∃ a xs, x = .ref a ∧ SqL K H a xs ∧ ∀ p, H p = none → Q (.ref p) (upd H p (.lst (cutV xs lo hi)))
theorem sl_list : SlR X (rSlL X.K) := by
  intro pins s σ H x v vl vu lo hi sl Q I rx hs pl pu h
  obtain ⟨a, xs, rfl, hx, q⟩ := h
  cases rx
  obtain ⟨its, r, ht, hz⟩ := I.list hx
  have hlen := r.length
  refine ⟨"list", _, slot_list_getitem.lookup, ht.isList.typeIs, ?_⟩
  refine wpAny_getItem_list_slice ht.isList hs pl pu .none (by simp) ?_ (by rw [List.size_toArray] <;> omega)
  rw [slicePick_cut, ← hlen]
  refine ⟨.ref s.heap.objs.size, _, I.laid (t' := s.toks) (o := .lst (cutV xs lo hi)) (fun b ob q => Heap.get?_push_of_some _ q) (Nat.le_refl _) ?_, rfl, q _ (I.hok.fresh (Nat.le_refl _))⟩
  exact ⟨Nat.le_trans (cutV_length xs lo hi) hz, _, 0, (r.drop (HT.sIx xs.length 0 lo)).take (HT.sIx xs.length xs.length hi - HT.sIx xs.length 0 lo), Heap.get?_push_size _ rfl⟩

/-! ### in, not in: flat items -/
def flatV : V → Bool
  | .non => true
  | .bl _ => true
  | .int _ => true
  | .str _ => true
  | _ => false
/-- == of flat values -/
def eqV : V → V → Bool
  | .non, .non => true
  | .bl a, .bl b => a == b
  | .bl a, .int b => (if a then 1 else 0) == b
  | .int a, .bl b => a == (if b then 1 else 0)
  | .int a, .int b => a == b
  | .str a, .str b => a == b
  | _, _ => false
/-- the items' answers, read off the values (a value's own answer does not lean on its token) -/
def eqU (x : V) (u : Value) : Bool := match u with
  | .none => eqV .non x
  | .bool b => eqV (.bl b) x
  | .int i _ => eqV (.int i) x
  | .str z _ => eqV (.str z) x
  | _ => false
def inV (x : V) (xs : List V) : Bool := xs.any fun y => eqV y x
/-- x in a list or tuple of flat items -/
def rIn (K : PySem.W.Frag) (neg : Bool) : R2 := fun x y H Q => ∃ p xs, y = .ref p ∧ (SqL K H p xs ∨ SqT K H p xs) ∧ flatV x = true ∧ xs.all flatV = true ∧ Q (.bl (if neg then !inV x xs else inV x xs)) H
/-! ### len, list(x), tuple(x) of any list or tuple that is read -/
theorem call_len_seq : CallR X (.builtin "len") (fun xs H Q => ∃ p ys, xs = [.ref p] ∧ (SqL X.K H p ys ∨ SqT X.K H p ys) ∧ Q (.int ys.length) H) := by
  intro pins s σ H xs us Q I r h
  obtain ⟨p, ys, rfl, hq, q⟩ := h
  obtain ⟨u, rfl, rx⟩ := vals1 r
  cases rx
  have hn := line63
  rcases hq with hq | hq
  · obtain ⟨its, r', pl, hz⟩ := I.list hq
    have hlen := r'.length
    exact Calls.call_len_list pl.isList (by simp only [List.size_toArray] <;> omega) ⟨.int ys.length, H, I.tok _, ⟨s.toks + 1, by rw [List.size_toArray, hlen]⟩, q⟩
  · obtain ⟨its, r', pl, hz⟩ := I.tuple hq
    have hlen := r'.length
    exact len_tuple pl (by simp only [List.size_toArray] <;> omega) ⟨.int ys.length, H, I.tok _, ⟨s.toks + 1, by rw [List.size_toArray, hlen]⟩, q⟩
theorem call_len_str : CallR X (.builtin "len") (fun xs H Q => ∃ z, xs = [.str z] ∧ z.length ≤ sizeLine ∧ Q (.int z.length) H) := by
  intro pins s σ H xs us Q I r h
  obtain ⟨z, rfl, hz, q⟩ := h
  obtain ⟨u, rfl, t, rfl⟩ := vals1 r
  have hn := line63
  exact len_str (by omega) ⟨.int z.length, H, I.tok _, ⟨_, rfl⟩, q⟩
theorem CallR.or {f : Value} {r r' : List V → Hp → VK → Prop} (h : CallR X f r) (h' : CallR X f r') : CallR X f (fun xs H Q => r xs H Q ∨ r' xs H Q) := by
  intro pins s σ H xs us Q I rs q
  rcases q with q | q
  · exact h pins s σ H xs us Q I rs q
  · exact h' pins s σ H xs us Q I rs q
theorem call_list_of : CallR X (.type "list") (fun xs H Q => ∃ p ys, xs = [.ref p] ∧ (SqL X.K H p ys ∨ SqT X.K H p ys) ∧ ∀ l, H l = none → Q (.ref l) (upd H l (.lst ys))) := by
  intro pins s σ H xs us Q I r h
  obtain ⟨p, ys, rfl, hq, q⟩ := h
  obtain ⟨u, rfl, rx⟩ := vals1 r
  cases rx
  have fin : ∀ (its : List Value), Vals ys its → ys.length ≤ sizeLine → ∀ (h' : Heap) (c' : Nat), (∀ b o', s.heap.get? b = some o' → h'.get? b = some o') →
      h'.get? s.heap.objs.size = some { cls := .type "list", dict := none, data := .seq its.toArray c', slots := #[] } → EP X pins σ Q (.ref s.heap.objs.size) { s with heap := h' } := fun its r' hz h' c' kp e =>
    ⟨.ref s.heap.objs.size, _, I.laid (t' := s.toks) kp (Nat.le_refl _) (show ObjOk X.prog X.w _ h' _ (.lst ys) from ⟨hz, its, c', r', e⟩), rfl, q _ (I.hok.fresh (Nat.le_refl _))⟩
  rcases hq with hq | hq
  · obtain ⟨its, r', pl, hz⟩ := I.list hq
    have hlen := r'.length
    obtain ⟨o, ho, hc, n, hd⟩ := pl.isList
    exact call_list_seq p (.inl rfl) ho hc hd (fun h' c' kp e => fin its r' hz h' c' kp e) (by simp only [List.size_toArray] <;> omega)
  · obtain ⟨its, r', pl, hz⟩ := I.tuple hq
    have hlen := r'.length
    obtain ⟨o, ho, hc, n, hd⟩ := pl
    exact call_list_seq p (.inr rfl) ho hc hd (fun h' c' kp e => fin its r' hz h' c' kp e) (by simp only [List.size_toArray] <;> omega)
/-! ### the call of a builtin's method: o.m(..) -/
/-- the value is of that builtin type -/
def tyV (K : PySem.W.Frag) (T : String) (x : V) (H : Hp) : Prop := match x with
  | .str _ => T = "str"
  | .int _ => T = "int"
  | .ref p => (T = "list" ∧ ∃ xs, SqL K H p xs) ∨ (T = "tuple" ∧ ∃ o, K.lookup p = some o ∧ o.cls = .type "tuple" ∧ o.dict = none) ∨
      (T = "dict" ∧ ((∃ kvs, H p = some (.dK kvs)) ∨ ∃ kvs, H p = some (.dT kvs))) ∨ (T = "set" ∧ ∃ S n, H p = some (.set S n))
  | _ => False
theorem tyV_is {pins : List (Addr × Obj)} {σ : St} {H : Hp} {s : Shared} {T : String} {x : V} {v : Value} (I : Inv X pins σ H s) (r : RelV x v) (ty : tyV X.K T x H) :
    s.TypeIs v T ∧ ∀ a, v = .ref a → ∃ ob, s.heap.get? a = some ob ∧ ob.dict = none := by
  cases x with
  | str z =>
    obtain ⟨t, rfl⟩ := r
    cases (show T = "str" from ty)
    exact ⟨typeIs_str s z t, fun _ e => nomatch e⟩
  | int i =>
    obtain ⟨t, rfl⟩ := r
    cases (show T = "int" from ty)
    exact ⟨typeIs_int s i t, fun _ e => nomatch e⟩
  | ref p =>
    cases r
    rcases ty with ⟨rfl, xs, hq⟩ | ⟨rfl, o, hk, hc, hd⟩ | ⟨rfl, hk⟩ | ⟨rfl, S, n, hk⟩
    · obtain ⟨its, _, pl, _⟩ := I.list hq
      refine ⟨pl.isList.typeIs, fun a e => ?_⟩
      cases e
      obtain ⟨o, n, e, c, hd, _⟩ := pl
      exact ⟨o, e, hd⟩
    · refine ⟨⟨o, I.kIn p o hk, hc⟩, fun a e => ?_⟩
      cases e
      exact ⟨o, I.kIn _ o hk, hd⟩
    · have z : ∃ o, s.heap.get? p = some o ∧ o.ExactDict := by
        rcases hk with ⟨kvs, hk⟩ | ⟨kvs, hk⟩
        · obtain ⟨_, _, _, _, o, _, _, e, ex, _⟩ := I.hok p _ hk
          exact ⟨o, e, ex⟩
        · obtain ⟨_, _, _, _, o, _, _, e, ex, _⟩ := I.hok p _ hk
          exact ⟨o, e, ex⟩
      obtain ⟨o, e, ex⟩ := z
      refine ⟨⟨o, e, ex.1⟩, fun a e2 => ?_⟩
      cases e2
      exact ⟨o, e, ex.2.1⟩
    · obtain ⟨o, _, _, _, e, ex, _⟩ := I.hok p _ hk
      refine ⟨⟨o, e, ex.1⟩, fun a e2 => ?_⟩
      cases e2
      exact ⟨o, e, ex.2.1⟩
  | _ => exact False.elim ty
def tBM0 (K : PySem.W.Frag) (T : String) (r : V → List V → Hp → VK → Prop) (to : TE) : TE := fun σ H Q => to σ H fun x H1 => tyV K T x H1 ∧ r x [] H1 Q
def tBM (K : PySem.W.Frag) (T : String) (r : V → List V → Hp → VK → Prop) (to : TE) (t : TA) : TE := fun σ H Q => to σ H fun x H1 => tyV K T x H1 ∧ t σ H1 fun xs H2 => r x xs H2 Q
variable {o e : Expr} {es : List Expr} {to : TE} {t : TA} {name : Str} {apos cpos : Pos} {T id : String} {r : V → List V → Hp → VK → Prop}
theorem pe_bm (pa : PlainAttrs T) (slot : Slot T name id) (hty : typeOf (.builtin id) = pure (.type "method_descriptor")) (hm : MtR X id r) (ho : PE X o to) (ha : PA X (e :: es) t)
    (hbase : attributeBase o name X.env (eval o X.env) = eval o X.env := by rfl)
    (hfew : ((backTo cpos (starEach (e :: es) X.env)).all (fun x => !x.1) && (backToKw cpos (keywordEach [] X.env)).all (fun x => x.1.isSome)
      && decide ((e :: es).length + ([] : List Keyword).length + (if ([] : List Keyword).isEmpty then 0 else 1) < 30)) = true := by rfl)
    (hline : (apos.endLine == cpos.line) = true := by rfl) (hs : starEach (e :: es) X.env = (false, eval e X.env) :: starEach es X.env := by rfl) (hplain : (backTo cpos (starEach es X.env)).any (·.1) = false := by rfl) :
    PE X (.Call (.Attribute o name apos) (e :: es) [] cpos) (tBM X.K T r to t) := by
  intro pins s σ H Q I h
  refine wpAny_Call_method_late hbase hfew hline rfl (thn (ho pins s σ H _ I h) fun v s1 ⟨x, H1, I1, r1, ty, q1⟩ => ?_)
  obtain ⟨h1, h2⟩ := tyV_is I1 r1 ty
  refine ⟨T, id, pa, slot, hty, h1, h2, ?_⟩
  have hA := ha cpos pins s1 σ H1 _ I1 q1
  rw [hs] at hA ⊢
  refine Calls.callWith_builtin (by show (false || (backTo cpos (starEach es X.env)).any (·.1)) = false; rw [hplain] <;> rfl) (Calls.evalArgs_plain ?_)
  exact thn hA fun us s2 ⟨vs, H2, I2, r2, q2⟩ => hm pins s2 σ H2 x vs v us Q I2 r1 r2 q2
/- xs.append(e), list.index on a module's tuple .. are MtR facts of 06m -/
end
end L2

namespace L2
open PySem PySem.Spec PyProof.Rows

def MtM (X : Cx) (id : String) (r : V → List V → Hp → VK → Prop) : Prop :=
  ∀ (pins : List (Addr × Obj)) (s : Shared) (σ : St) (H : Hp) (x : V) (xs : List V) (v : Value) (us : List Value) (Q : VK), Inv X pins σ H s → RelV x v → Vals xs us → r x xs H Q →
    wpAny (model X.prog X.w) X.A (call (.builtin id) (v :: us)) (EP X pins σ Q) X.xe s

/-! ### lists of values -/
theorem Vals.one : ∀ {x : V} {us : List Value}, Vals [x] us → ∃ u, us = [u] ∧ RelV x u
  | _, _, .cons r .nil => ⟨_, rfl, r⟩
theorem Vals.two : ∀ {x y : V} {us : List Value}, Vals [x, y] us → ∃ u v, us = [u, v] ∧ RelV x u ∧ RelV y v
  | _, _, _, .cons r (.cons q .nil) => ⟨_, _, rfl, r, q⟩
theorem Vals.zero : ∀ {us : List Value}, Vals [] us → us = []
  | _, .nil => rfl
theorem Vals.dropLast {xs : List V} {us : List Value} (h : Vals xs us) : Vals xs.dropLast us.dropLast := by
  induction h with
  | nil => exact .nil
  | cons r t ih =>
    cases t with
    | nil => exact .nil
    | cons q t' => exact .cons r ih
theorem Vals.eraseIdx : ∀ {xs : List V} {us : List Value} (i : Nat), Vals xs us → Vals (xs.eraseIdx i) (us.eraseIdx i)
  | _, _, _, .nil => .nil
  | _, _, 0, .cons _ t => t
  | _, _, i + 1, .cons r t => .cons r (Vals.eraseIdx i t)
theorem Vals.reverse {xs : List V} {us : List Value} (h : Vals xs us) : Vals xs.reverse us.reverse := by
  induction h with
  | nil => exact .nil
  | cons r t ih => rw [List.reverse_cons, List.reverse_cons]; exact Vals.append ih (.cons r .nil)
theorem Vals.rep {xs : List V} {us : List Value} (h : Vals xs us) : ∀ k : Nat, Vals (List.replicate k xs).flatten (List.replicate k us).flatten
  | 0 => .nil
  | k + 1 => by
    rw [List.replicate_succ, List.replicate_succ, List.flatten_cons, List.flatten_cons]
    exact Vals.append h (Vals.rep h k)
theorem foldl_rep (its : List Value) : ∀ (k : Nat) (acc : List Value),
    List.foldl (fun x1 x2 => x1 ++ x2) acc.toArray (List.replicate k its.toArray) = (acc ++ (List.replicate k its).flatten).toArray
  | 0, acc => by simp
  | k + 1, acc => by
    have e : acc.toArray ++ its.toArray = (acc ++ its).toArray := by simp
    have e2 : (acc ++ its) ++ (List.replicate k its).flatten = acc ++ (List.replicate (k + 1) its).flatten := by
      rw [List.replicate_succ, List.flatten_cons, List.append_assoc]
    rw [← e2, ← foldl_rep its k (acc ++ its), ← e, List.replicate_succ, List.foldl_cons]

section
variable {X : Cx} {pins : List (Addr × Obj)} {σ : St} {H : Hp} {s : Shared} {l b : Addr} {xs ys zs : List V}

/-! ### the two steps: a tracked list is rewritten, a new list is laid -/
theorem Inv.lset {its its' : List Value} {n : Nat} {f : Array Value → Array Value} {t' : Nat} (I : Inv X pins σ H s) (hH : H l = some (.lst xs))
    (e : s.heap.get? l = some { cls := .type "list", data := .seq its.toArray n }) (hf : f its.toArray = its'.toArray) (hv : Vals ys its') (hz : ys.length ≤ sizeLine) :
    Inv X pins σ (upd H l (.lst ys)) { s with heap := s.heap.update l (Obj.mapSeq f), toks := t' } := by
  have q := PySem.IsL.update e f
  rw [hf] at q
  refine I.write (x := l) (e := l) (by rw [hH]; exact trivial) (.inl rfl) (fun b' u hb hu => (Heap.get?_update_other s.heap (Obj.mapSeq f) (Ne.symm hb)).trans hu) ⟨_, q⟩ ?_
  exact ⟨hz, its', _, hv, q⟩
theorem Inv.lnew {its : List Value} {t' : Nat} (I : Inv X pins σ H s) (hv : Vals ys its) (hz : ys.length ≤ sizeLine) :
    Inv X pins σ (upd H s.heap.objs.size (.lst ys)) { s with heap := s.heap.push { cls := .type "list", data := .seq its.toArray }, toks := t' } :=
  I.laid (fun _ _ q => Heap.get?_push_of_some _ q) (Nat.le_refl _) ⟨hz, its, 0, hv, Heap.get?_push_size _ rfl⟩
theorem Inv.fresh (I : Inv X pins σ H s) : H s.heap.objs.size = none := I.hok.fresh (Nat.le_refl _)
theorem Inv.lstM (I : Inv X pins σ H s) (hH : H l = some (.lst xs)) : xs.length ≤ sizeLine ∧ ∃ (its : List Value) (n : Nat), Vals xs its ∧ xs.length = its.length ∧ s.heap.get? l = some { cls := .type "list", data := .seq its.toArray n } := by
  obtain ⟨z, its, n, r, e⟩ := I.hok l _ hH
  exact ⟨z, its, n, r, r.length, e⟩

theorem notLongL {n : Nat} (h : n ≤ sizeLine) : Builtin.List.listTooLong n = false := by
  unfold Builtin.List.listTooLong
  exact decide_eq_false (by omega)
end

section
variable {X : Cx}

/-! ### methods -/
def rAppend : V → List V → Hp → VK → Prop := fun x vs H Q => ∃ l xs y, x = .ref l ∧ vs = [y] ∧ H l = some (.lst xs) ∧ xs.length < sizeLine ∧ Q .non (upd H l (.lst (xs ++ [y])))
theorem mt_append : MtM X "list.append" rAppend := by
  intro pins s σ H x vs v us Q I rx rv h
  obtain ⟨l, xs, y, rfl, rfl, hH, hz, q⟩ := h
  cases rx
  obtain ⟨u, rfl, ru⟩ := rv.one
  obtain ⟨z, its, n, r, hl, e⟩ := I.lstM hH
  refine call_meets F.slot_list_append ⟨_, e, rfl⟩ F.entry_list_append (F.args_list_append_2 _ _) (PySem.list_append l its.toArray n u (by rw [List.size_toArray]; omega)) ⟨e, ?_⟩
  refine ⟨.non, _, I.lset (its' := its ++ [u]) hH e (by simp) (r.append (.cons ru .nil)) ?_, rfl, q⟩
  rw [List.length_append, List.length_singleton]
  omega

def rExtend : V → List V → Hp → VK → Prop := fun x vs H Q => ∃ l b xs zs, x = .ref l ∧ vs = [.ref b] ∧ H l = some (.lst xs) ∧ H b = some (.lst zs) ∧ xs.length + zs.length ≤ sizeLine ∧ Q .non (upd H l (.lst (xs ++ zs)))
theorem mt_extend : MtM X "list.extend" rExtend := by
  intro pins s σ H x vs v us Q I rx rv h
  obtain ⟨l, b, xs, zs, rfl, rfl, hH, hB, hz, q⟩ := h
  cases rx
  obtain ⟨u, rfl, ru⟩ := rv.one
  cases ru
  obtain ⟨z, its, n, r, hl, e⟩ := I.lstM hH
  obtain ⟨z2, its2, n2, r2, hl2, e2⟩ := I.lstM hB
  have hsz : its.toArray.size + its2.toArray.size ≤ sizeLine := by rw [List.size_toArray, List.size_toArray]; omega
  have hlong : ¬ (!its.toArray.isEmpty && Builtin.List.listTooLong (its.toArray.size + its2.toArray.size)) = true := by
    rw [notLongL hsz, Bool.and_false]
    exact Bool.false_ne_true
  refine call_meets F.slot_list_extend ⟨_, e, rfl⟩ F.entry_list_extend (F.args_list_extend_2 _ _)
    (AutoSeq1.list_extend_list_list_0 l its.toArray n b its2.toArray n2 hlong (by rw [List.size_toArray]; omega) (by omega)) ⟨e, e2, ?_⟩
  refine ⟨.non, _, I.lset (its' := its ++ its2) hH e (by simp) (r.append r2) ?_, rfl, q⟩
  rw [List.length_append]
  omega

def rPop : V → List V → Hp → VK → Prop := fun x vs H Q => ∃ l xs y, x = .ref l ∧ vs = [] ∧ H l = some (.lst xs) ∧ xs[xs.length - 1]? = some y ∧ Q y (upd H l (.lst xs.dropLast))
def rPopAt : V → List V → Hp → VK → Prop := fun x vs H Q => ∃ l xs i k y, x = .ref l ∧ vs = [.int i] ∧ H l = some (.lst xs) ∧ -(2 ^ 63) ≤ i ∧ i < 2 ^ 63 ∧ seqIndex? i xs.length = some k ∧ xs[k]? = some y ∧ Q y (upd H l (.lst (xs.eraseIdx k)))
def rReverse : V → List V → Hp → VK → Prop := fun x vs H Q => ∃ l xs, x = .ref l ∧ vs = [] ∧ H l = some (.lst xs) ∧ Q .non (upd H l (.lst xs.reverse))
def rClear : V → List V → Hp → VK → Prop := fun x vs H Q => ∃ l xs, x = .ref l ∧ vs = [] ∧ H l = some (.lst xs) ∧ Q .non (upd H l (.lst []))
/-! ### list + list, list += list, list * int -/
def rCat : R2 := fun x y H Q => ∃ l b xs zs, x = .ref l ∧ y = .ref b ∧ H l = some (.lst xs) ∧ H b = some (.lst zs) ∧ xs.length + zs.length ≤ sizeLine ∧ ∀ p, H p = none → Q (.ref p) (upd H p (.lst (xs ++ zs)))
/-- a list times an int (a negative one is nothing) -/
def rRep : R2 := fun x y H Q => ∃ l k xs, x = .ref l ∧ y = .int k ∧ H l = some (.lst xs) ∧ -(2 ^ 63) ≤ k ∧ k < 2 ^ 63 ∧ xs.length * k.toNat ≤ sizeLine ∧
  ∀ p, H p = none → Q (.ref p) (upd H p (.lst (List.replicate k.toNat xs).flatten))
theorem len_rep {α : Type} (xs : List α) (k : Nat) : (List.replicate k xs).flatten.length = k * xs.length := by
  induction k with
  | zero => simp
  | succ k ih => rw [List.replicate_succ, List.flatten_cons, List.length_append, ih, Nat.succ_mul, Nat.add_comm]
theorem op_rep : OpR X (binaryOp .Mult) rRep := by
  intro pins s σ H x y v u Q I rx ry h
  obtain ⟨l, k, xs, rfl, rfl, hH, h1, h2, hz, q⟩ := h
  cases rx
  obtain ⟨t, rfl⟩ := ry
  obtain ⟨z, its, n, r, hl, e⟩ := I.lstM hH
  have hlen : its.toArray.size * k.toNat ≤ sizeLine := by rw [List.size_toArray, ← hl]; exact hz
  have hcap : ¬ its.toArray.size * k.toNat > (2 ^ 63 - 1) / 8 := by
    have : (sizeLine : Nat) ≤ (2 ^ 63 - 1) / 8 := by decide
    omega
  have hfit : ¬ (!Builtin.List.listFitsIndex k) = true := by
    rw [fitsIndex_both h1 h2]
    exact Bool.false_ne_true
  have hlong : ¬ Builtin.List.listTooLong (its.toArray.size * k.toNat) = true := by
    rw [notLongL hlen]
    exact Bool.false_ne_true
  have hnew : List.foldl (fun x1 x2 => x1 ++ x2) #[] (List.replicate (if its.toArray.isEmpty = true then 0 else k.toNat) its.toArray) = (List.replicate k.toNat its).flatten.toArray := by
    have f0 : ∀ m : Nat, List.foldl (fun x1 x2 => x1 ++ x2) #[] (List.replicate m its.toArray) = (List.replicate m its).flatten.toArray := fun m => by
      have := foldl_rep its m []
      rw [List.nil_append] at this
      exact this
    rw [f0]
    cases its with
    | nil => simp
    | cons a r' => rw [if_neg (by simp)]
  refine wpAny_binaryOp_repeat_ref (T := "list") (U := "int") (by decide) ⟨_, e, rfl⟩ (fun s' => typeIs_int s' k t) noFill_list_mul F.fills_int_mul F.slot_int_rmul repeat_list F.slot_int_index.lookup
    (call_meets F.slot_int_rmul (typeIs_int s k t) F.entry_int_rmul (F.args_int_rmul_2 _ _) (int___rmul___int_list k t l its.toArray n)
      ⟨e, rfl, ⟨_, e, rfl⟩, call_meets F.slot_list_mul ⟨_, e, rfl⟩ F.entry_list_mul (F.args_list_mul_2 _ _) (AutoListH.list___mul___list_int_3 l its.toArray n k t hfit hcap hlong) ⟨e, ?_⟩⟩)
  rw [hnew]
  exact ⟨.ref _, _, I.lnew (t' := s.toks) (r.rep k.toNat) (by rw [len_rep, Nat.mul_comm]; exact hz), rfl, q _ I.fresh⟩

/-! ### del xs[i] -/
end

/-! ### xs[a:b] = ys -/
section
variable {prog : Program} {w : World} {A : Around} {E : Value → Shared → Prop} {s : Shared}
end

section
variable {X : Cx}
end
end L2

namespace Att
open PySem PySem.W PySem.Calls PyProof.Rows

/-! ### the script -/
theorem ints_of_wellAll {P : Params} {h : Heap} : ∀ (ns : List Int) (vs : List Value), WellAll P h vs (ns.map WData.int) → IntsAre vs ns := by
  intro ns
  induction ns with
  | nil =>
    intro vs w
    rw [List.map_nil] at w
    cases w
    exact .nil
  | cons n ns ih =>
    intro vs w
    rw [List.map_cons] at w
    cases w with
    | cons a b =>
      cases a
      exact .cons _ _ (ih _ b)

theorem script_of {l : OpenLaw} {n : Nat} (hn : l.most = some n) {P : Params} {h : Heap} {args : List WData} {vals : List Value}
    (hpre : l.row.toRowW.claim.pre args = true) (hwl : WellAll P h vals args) :
    ∃ a vs ns, vals = [Value.ref a] ∧ args = [WData.list (ns.map WData.int)] ∧ h.get? a = some { cls := .type "list", data := .seq vs.toArray } ∧ IntsAre vs ns ∧ ns.length ≤ n := by
  have hsh : WShape.hasAll [] args [.list .int] = true := (pre_splitW hpre).1
  have hc : l.pre.holds [] { args := args } = true := (pre_splitW hpre).2
  obtain ⟨d, r, rfl, h1, h2⟩ := hasAllW_cons hsh
  obtain rfl := hasAllW_nil h2
  obtain ⟨xs, rfl, h3⟩ := hasW_list h1
  obtain ⟨ns, rfl⟩ := items_int h3
  have hlen : ns.length ≤ n := by
    unfold OpenLaw.pre at hc
    have h4 : (WTm.not (.lt (.lit (.int (n : Int))) (.len (.arg 0)))).holds [] { args := [.list (ns.map .int)] } = true := by
      have h4 := (holds_andW hc).1
      rw [hn] at h4
      exact h4
    have h5 := condW_of h4 (w_not (w_lt w_lit (w_len_list (w_arg rfl))))
    rw [List.length_map] at h5
    refine Nat.le_of_not_lt fun q => ?_
    have q' : (n : Int) < ((ns.length : Nat) : Int) := by omega
    first
      | (rw [decide_eq_true q'] at h5; exact absurd h5 (by decide))
      | (simp at h5; omega)
  cases hwl with
  | cons w1 w2 =>
    cases w2
    cases w1 with
    | list ho hall => exact ⟨_, _, ns, rfl, rfl, ho, ints_of_wellAll ns _ hall, hlen⟩

theorem post_true (l : OpenLaw) (args : List WData) : l.row.toRowW.claim.post args (.bool true) args = true :=
  postW_of (r := l.row.toRowW) (X := (true == true))
    (show WShape.has [] (.bool true) .bool = true by first | rfl | decide | simp [WShape.has, WShape.arms, WShape.armsAll])
    (show (WTm.eq .res (.lit (.bool true))).value [] { args := args, res := some (.bool true), after := args } = some (.bool (true == true)) from w_eq_bool (w_res rfl) w_lit) rfl

/-! ### the attachment: holds_open's last premise (the goal 'hc' behind k_head) from a wpAny of the law's body -/
/-- the same from a codeAny of the CALL (for a layer whose function contracts speak of calls) -/
theorem attach_call {l : OpenLaw} {n : Nat} {q : Program} {loose : List Str} {XP : (Str → Option Value) → Heap → Prop} {YP : World → Heap → Prop} {d : DefRec}
    (hn : l.most = some n) (hdf : d.params.defaults = [])
    (call : ∀ (w : World) (s₀ s₁ : Shared) (mg mb : Str → Option Value) (fa : Addr) (o : Obj) (pm cd doc : Value) (a : Addr) (vs : List Value) (ns : List Int),
      Ground q loose [] XP w s₀ mg mb s₁.heap → YP w s₁.heap →
      s₁.heap.get? fa = some o → o.data = .func (docDef d.name d.params d.body d.scope pm cd doc) → s₁.heap.CodeRec cd d.name → mg d.name = some (.ref fa) →
      s₁.heap.get? a = some { cls := .type "list", data := .seq vs.toArray } → IntsAre vs ns → ns.length ≤ n → s₁.gens = #[] →
      codeAny (model l.prog w) callerA (.call (.ref fa) ⟨[.ref a], []⟩) (fun r s' => r = .ok (.ret (.bool true)) ∧ OldK s₁.heap s'.heap ∧ s'.os = s₁.os ∧ AllBare s'.gens) s₁) :
    WalkO q loose XP YP l.row.toRowW d [] (fun f vs => PySem.call f vs) := by
  intro w s₀ s₁ mg mb G Y fa o pm cd doc dV kV ho hd hcd hD hmg hg args vals as hpre hlay hrd hwl hlo
  obtain rfl : dV = .none := Dflts.none hD hdf
  obtain rfl : kV = .none := Dflts.noKw hD
  obtain ⟨a, vs, ns, rfl, rfl, hobj, hints, hlen⟩ := script_of hn hpre hwl
  refine enter_call (codeAny_mono (call w s₀ s₁ mg mb fa o pm cd doc a vs ns G Y ho (fd_plain hd) hcd hmg hobj hints hlen hg) fun r s' hq => ?_)
  obtain ⟨rfl, h2, h3, h4⟩ := hq
  exact ⟨.inl ⟨.bool true, .bool true, [], rfl, fun _ => rfl, .bool true, post_true l _, fun _ => ⟨List.Pairwise.nil, fun _ hm => (nomatch hm)⟩⟩, h2, h3, h4⟩

/-! ### rules over ANY heap (no ledger) from facts about the written part K: the library's own take a ledger (News) for what they write -/
section
variable {prog : Program} {w : World} {A : Around} {E : Value → Shared → Prop} {s : Shared} {K : Frag}

/-! the whole heap as the ledger: makes every rule that writes through a ledger a rule over any heap -/
def noObjs (h : Heap) : Heap := { h with objs := #[] }
def ledger (h : Heap) (L d : Addr) : List (Addr × Obj) := (List.range h.objs.size).filterMap fun a => if a = L ∨ a = d then none else (h.get? a).map fun o => (a, o)
end
end Att

namespace L2
open PySem PySem.Spec PyProof.Rows

theorem vals_ints : ∀ {vs : List Value} {ns : List Int}, IntsAre vs ns → Vals (ns.map V.int) vs
  | _, _, .nil => .nil
  | _, _, .cons n t h => .cons ⟨t, rfl⟩ (vals_ints h)

/-- nothing is tracked but the script, known to the object (or it is an object of the module) -/
def Only (H : Hp) : Prop := ∀ b, H b = none ∨ ∃ o xs, H b = some (.frz o (.lst xs))

/-- THE HEAD: the law's promise, at the heap behind the top. F, the promise of the law's def, may use that base is part of the heap (so K.In base, base.Ns mainGlobals mg stand in Mod) -/
theorem law_call {P : Program} {w : World} {K : PySem.W.Frag} {mg mb : Str → Option Value} {CX : CXT} {k : Nat} {fa a : Addr} {fd : FuncData} {x : Str} {sp : Sp} {s₁ : Shared} {vs : List Value} {ns : List Int}
    (KX : K.In s₁.heap) (hns : s₁.heap.Ns mainGlobals mg) (hb : s₁.heap.Ns builtinsNs mb) (hbb : ∀ x : Str, x ≠ "__name__" → mb x = bootBuiltins x) (hlim : s₁.heap.NoLimit) (hg : s₁.gens = #[])
    (ha : s₁.heap.get? a = some { cls := .type "list", data := .seq vs.toArray }) (hi : IntsAre vs ns) (hl : ns.length ≤ sizeLine) (hr : Room k callerA)
    (F : ∀ base : Heap, K.In base → base.Ns mainGlobals mg → FnOk P w K mg base CX k fa fd [x] sp) (hbind : ∀ (s : Shared) (u : Value), BindsTo s fd ⟨[u], []⟩ [(x, u)])
    (hsp : ∀ H : Hp, Only H → SqL K H a (ns.map V.int) → sp [.ref a] H (fun v _ => v = .bl true) fun _ _ _ => False)
    (hCX : ∀ H e s', CX [] H s₁ (fun _ _ _ => False) e s' → False) :
    codeAny (model P w) callerA (.call (.ref fa) ⟨[.ref a], []⟩) (fun r s' => r = .ok (.ret (.bool true)) ∧ OldK s₁.heap s'.heap ∧ s'.os = s₁.os ∧ AllBare s'.gens) s₁ := by
  have rv := vals_ints hi
  have lenV := hi.length
  -- from an abstract heap in which nothing but the script may be tracked
  have core : ∀ H : Hp, Only H → SqL K H a (ns.map V.int) → HOk P w H s₁.heap → (∀ b, H b ≠ none → b = a) → (H a ≠ none → K.lookup a = none) →
      codeAny (model P w) callerA (.call (.ref fa) ⟨[.ref a], []⟩) (fun r s' => r = .ok (.ret (.bool true)) ∧ OldK s₁.heap s'.heap ∧ s'.os = s₁.os ∧ AllBare s'.gens) s₁ := by
    intro H hO hS hok hA hK
    have base_of : ∀ {b : Addr} {o : Obj}, s₁.heap.get? b = some o → H b = none → (hidT s₁.heap H).get? b = some o := fun e n => hidT_get e n
    have noA : ∀ {b : Addr} {o : Obj} {es : Array DictEntry} {ep : Nat}, s₁.heap.get? b = some o → o.data = .dict es ep → H b = none := fun {b o es ep} e d => by
      cases q : H b with
      | none => rfl
      | some u =>
        have e' : b = a := hA b (by rw [q]; simp)
        subst e'
        rw [ha] at e; cases e
        have d' : Data.seq vs.toArray _ = Data.dict es ep := d
        cases d'
    have nsK : ∀ {b : Addr} {m : Str → Option Value}, s₁.heap.Ns b m → (hidT s₁.heap H).Ns b m := fun {b m} ⟨o, es, ep, e, d, r⟩ => ⟨o, es, ep, base_of e (noA e d), d, r⟩
    have hKb : K.In (hidT s₁.heap H) := fun b o e => base_of (KX b o e) (by
      cases q : H b with
      | none => rfl
      | some u =>
        have e' : b = a := hA b (by rw [q]; simp)
        subst e'
        rw [hK (by rw [q]; simp)] at e; cases e)
    have hM : Mod K mg (hidT s₁.heap H) := ⟨hKb, nsK hns, ⟨mb, nsK hb, hbb⟩, let ⟨mc, h1, h2⟩ := hlim; ⟨mc, nsK h1, h2⟩⟩
    have e0 : Env0 P w K mg (hidT s₁.heap H) callerA [] s₁ H := ⟨rfl, hM, fun b o e => of_hidT e, Nat.le_of_eq (hidT_size _ _), trivial, fun b hb => absurd (show b ∈ ([] : List Addr) from hb) (by simp), hok, .of_eq hg⟩
    refine codeAny_mono ((F _ hKb (nsK hns)).run callerA [] s₁ H ⟨[.ref a], []⟩ [.ref a] [.ref a] _ _ hr e0 (hbind s₁ (.ref a)) (.cons rfl .nil) (hsp H hO hS)) fun r s' h => ?_
    cases r with
    | error e => exact (hCX H e s' h).elim
    | ok fl =>
      cases fl with
      | next => exact False.elim h
      | brk => exact False.elim h
      | cont => exact False.elim h
      | ret u =>
        obtain ⟨v, H', os, bare, un, hok', r', q⟩ := h
        have q' : v = .bl true := q
        subst q'
        obtain rfl : u = Value.bool true := r'
        refine ⟨rfl, OldK.of_keep fun b o e => ?_, os, bare⟩
        cases q : H b with
        | none => exact un.keep b o e q (by intro z; exact absurd (show b ∈ ([] : List Addr) from z) (by simp)) (by simp)
        | some u =>
          rcases hO b with z | ⟨ob, xs, z⟩
          · rw [q] at z; cases z
          · have z2 := un.frzs b ob _ z
            obtain ⟨e1, _⟩ := hok b _ z
            obtain ⟨e2, _⟩ := hok' b _ z2
            rw [e] at e1; cases e1
            exact e2
  cases hk : K.lookup a with
  | some o =>
    -- the script is one of the module's own objects
    have e := KX a o hk
    rw [ha] at e
    cases e
    refine core (fun _ => none) (fun _ => .inl rfl) (.inr ⟨_, vs.toArray, _, hk, rfl, rfl, rfl, by rw [List.size_toArray, lenV]; exact hl, by simpa using rv⟩) (fun b u z => by have z' : (none : Option HO) = some u := z; cases z') (fun b z => absurd rfl z) fun z => absurd rfl z
  | none =>
    refine core (fun b => if b = a then some (.frz { cls := .type "list", data := .seq vs.toArray } (.lst (ns.map V.int))) else none) (fun b => ?_) (.inl (.inr ⟨{ cls := .type "list", data := .seq vs.toArray }, if_pos rfl⟩)) (fun b u z => ?_) (fun b z => ?_) fun _ => hk
    · by_cases hb : b = a
      · exact .inr ⟨_, _, if_pos hb⟩
      · exact .inl (if_neg hb)
    · by_cases hb : b = a
      · have z' := (if_pos hb).symm.trans z
        cases z'
        subst hb
        exact ⟨ha, by rw [List.length_map]; exact hl, vs, _, rv, ha⟩
      · have z' := (if_neg hb).symm.trans z
        cases z'
    · by_cases hb : b = a
      · exact hb
      · exact absurd (if_neg hb) z
end L2

namespace L2
open PySem PySem.Spec PyProof.Rows

abbrev KOf {K : PySem.W.Frag} {h : Heap} (_ : K.In h) : PySem.W.Frag := K

/-- the goal that k_head leaves (case hc), from the law's promise. F gives the function object fd (K's own) once, then the promise over every base -/
theorem walk_of {l : PySem.W.OpenLaw} {n k : Nat} {q : Program} {loose : List Str} {XP : (Str → Option Value) → Heap → Prop} {YP : World → Heap → Prop} {d : DefRec} {K : Params → PySem.W.Frag} {CX : World → CXT} {sp : World → Sp} {x : Str}
    (hn : l.most = some n) (hn2 : n ≤ sizeLine) (hdf : d.params.defaults = []) (hr : Room k callerA)
    (hY : ∀ (w : World) (h : Heap), YP w h → (K w.params).In h)
    (F : ∀ (w : World) (mg : Str → Option Value) (fa : Addr) (h : Heap), (K w.params).In h → h.Ns mainGlobals mg → mg d.name = some (.ref fa) →
      ∃ fd : FuncData, (∀ (s : Shared) (u : Value), BindsTo s fd ⟨[u], []⟩ [(x, u)]) ∧
        ∀ base : Heap, (K w.params).In base → base.Ns mainGlobals mg → FnOk l.prog w (K w.params) mg base (CX w) k fa fd [x] (sp w))
    (hsp : ∀ (w : World) (H : Hp) (a : Addr) (ns : List Int), ns.length ≤ n → Only H → SqL (K w.params) H a (ns.map V.int) → sp w [.ref a] H (fun v _ => v = .bl true) fun _ _ _ => False)
    (hCX : ∀ (w : World) (H : Hp) (s : Shared) (e : Value) (s' : Shared), CX w [] H s (fun _ _ _ => False) e s' → False) :
    PySem.W.WalkO q loose XP YP l.row.toRowW d [] (fun f vs => PySem.call f vs) := by
  refine Att.attach_call hn hdf fun w s₀ s₁ mg mb fa o pm cd doc a vs ns G Y ho hd hcd hmg hobj hints hlen hg => ?_
  have KX := hY w _ Y
  obtain ⟨fd, hb, hF⟩ := F w mg fa _ KX G.T.g hmg
  exact law_call KX G.T.g G.T.b G.T.builtins G.T.nolimit hg hobj hints (Nat.le_trans hlen hn2) hr hF hb (fun H hO hS => hsp w H a ns hlen hO hS) fun H e s' => hCX w H s₁ e s'
end L2

/- THE LAST THEOREM (shape; LID, My.* are yours):
   My.Adr: a structure of the addresses that your layer names (classes, functions); My.Txt K t: a structure (Prop) of the equations over K;
   My.txt_mk : {K} {implicit addresses ..} (e1 : nsIn K mainGlobals "law" = some (some (.ref f))) (e2 : K.lookup f = some ⟨oc, od, .func (fnOf "law" "law" params body scope dV kV doc pm an cdv ct), sl⟩) (e3 : codeIn K cdv "law" = true) .. : ∃ t, My.Txt K t

set_option maxRecDepth 100000 in
set_option maxHeartbeats 0 in
theorem PySem.Challenge.cw_LID_holds : PySem.Challenge.rw_LID.Holds := by
  w_on; o_law; k_head; (case hw => w_witness2)
  k_fill
  refine L2.walk_of (l := PySem.Challenge.rw_LID) (n := 63) (k := 40) (x := "script") (CX := fun w => ..) (sp := fun _ => My.sp_law) rfl (by decide) rfl ⟨rfl, by decide, by decide⟩ (fun w h Y => PySem.W.kIn_of Y) ?F ?S ?C
  case F =>
    intro w mg fa h KX G hmg
    have T : ∃ t, My.Txt (L2.KOf KX) t := by
      dsimp only [L2.KOf]                          -- K must stand as «<heap const> w.params» for k_is
      refine' My.txt_mk ?e1 ?e2 ?e3 ..
      (case e1 => PySem.W.k_is)                    -- in the order: a name -> its address -> its object -> its parts
      (case e2 => PySem.W.k_is)
      ..
    obtain ⟨t, T⟩ := T
    have e0 := hmg.symm.trans (PySem.W.mg_of KX G T.law)
    cases e0                                       -- fa is the law's own address
    exact ⟨_, fun s u => .of_eq rfl, fun base kb nb => My.law_fn T kb nb⟩     -- if «.of_eq rfl» comes too early: refine' ⟨_, ?b, fun base kb nb => My.law_fn T kb nb⟩; exact fun s u => .of_eq rfl
  case S => exact fun w H a ns hl hO hS => ..
  case C => exact ..
(the tactic k_is has no namespace: write k_is) -/

/-! SHORT WORDS over the layer: a def of the text, its body, what a loop and a test want. -/
namespace L2
open PySem PySem.Spec PyProof.Rows

/-! ### the text by places -/
/-- the j-th statement of a class's body -/
def inClass (s : Stmt) (j : Nat) : Stmt := match s with
  | .ClassDef _ _ _ body _ _ _ _ _ _ _ => body.getD j (.Pass ⟨0, 0, 0, 0⟩)
  | _ => .Pass ⟨0, 0, 0, 0⟩
def defArgs (s : Stmt) : Arguments := match s with
  | .FunctionDef _ a _ _ _ _ _ _ _ _ => a
  | _ => { posonlyargs := [], args := [], vararg := none, kwonlyargs := [], kw_defaults := [], kwarg := none, defaults := [] }
def defBody (s : Stmt) : List Stmt := match s with
  | .FunctionDef _ _ b _ _ _ _ _ _ _ => b
  | _ => []
def defScope (s : Stmt) : Scope := match s with
  | .FunctionDef _ _ _ _ _ _ sc _ _ _ => sc
  | _ => { kind := .function, names := [], isGenerator := false, isCoroutine := false }

/-! ### no exception leaves a def -/
abbrev CX0 : CXT := fun _ _ _ _ _ _ => False
abbrev E0 : XK := fun _ _ _ => False
theorem pass0 {X : Cx} : Passes CX0 X E0 := fun _ _ _ _ _ _ _ h => h.elim

/-! ### a def (or method) of the text as it stands behind the top -/
structure Fun (K : PySem.W.Frag) (x qual : Str) (st : Stmt) (f : Addr) (fd : FuncData) : Prop where
  ex : ∃ (oc : Value) (od : Option Addr) (kV doc pm : Value) (an : Option Addr) (cdv ct : Value) (osl : Array (Option Value)),
    fd = PySem.W.fnOf x qual (defArgs st) (defBody st) (defScope st) .none kV doc pm an cdv ct ∧ K.lookup f = some ⟨oc, od, .func fd, osl⟩ ∧ PySem.W.codeIn K cdv qual = true
  kp : PySem.W.keepIn K (.ref f) = true
section
variable {P : Program} {w : World} {K : PySem.W.Frag} {mg : Str → Option Value} {base : Heap}
/-- THE RULE for a def: its body as a term of rules, and the reading of that term -/
theorem Fun.ok {x qual : Str} {st : Stmt} {f : Addr} {fd : FuncData} {N ps : List Str} {k : Nat} {sp : Sp} (F : Fun K x qual st f fd) (S : FnScope N ps (defScope st)) (len : ∀ vs H Q E, sp vs H Q E → vs.length = ps.length)
    (hbody : ∀ (cdv : Value) (A : Around) (outer : List Env) (s : Shared) (H : Hp) (vs : List V) (Q : VK) (E : XK), Room k (A.deeper (envOfC qual (defScope st) s.heap.objs.size f cdv)) → sp vs H Q E →
      ∃ t, PSs (cxOf CX0 P w K mg base N qual (defScope st) f cdv A outer s H E).nox (defBody st) t ∧ t { nx := fun _ H' => Q .non H', rt := Q } (start N vs) H) : FnOk P w K mg base CX0 (k + 1) f fd ps sp := by
  obtain ⟨oc, od, kV, doc, pm, an, cdv, ct, osl, rfl, lk, hcd⟩ := F.ex
  refine fn_of lk hcd S len fun A outer s H vs Q E hr hsp => ?_
  obtain ⟨t, h, q⟩ := hbody cdv A outer s H vs Q E hr hsp
  exact ⟨t, h.nox, q⟩
/-- how its arguments bind (no defaults): h is «fun _ _ _ _ _ _ us hl => match us, hl with | [_, _], _ => rfl», one _ a parameter -/
theorem Fun.binds {x qual : Str} {st : Stmt} {f : Addr} {fd : FuncData} {ps : List Str} (F : Fun K x qual st f fd)
    (h : ∀ (kV doc pm : Value) (an : Option Addr) (cdv ct : Value) (us : List Value), us.length = ps.length → bindArgs (PySem.W.fnOf x qual (defArgs st) (defBody st) (defScope st) .none kV doc pm an cdv ct) ⟨us, []⟩ = pure (ps.zip us)) : Binds K fd ps [] := by
  obtain ⟨oc, od, kV, doc, pm, an, cdv, ct, osl, rfl, lk, hcd⟩ := F.ex
  exact .all (h kV doc pm an cdv ct)
theorem fun_mk {x qual : Str} {st : Stmt} {f : Addr} {oc : Value} {od an : Option Addr} {osl : Array (Option Value)} {kV doc pm cdv ct : Value} (l : K.lookup f = some ⟨oc, od, .func (PySem.W.fnOf x qual (defArgs st) (defBody st) (defScope st) .none kV doc pm an cdv ct), osl⟩)
    (c : PySem.W.codeIn K cdv qual = true) (k : PySem.W.keepIn K (.ref f) = true) : Fun K x qual st f (PySem.W.fnOf x qual (defArgs st) (defBody st) (defScope st) .none kV doc pm an cdv ct) := ⟨⟨oc, od, kV, doc, pm, an, cdv, ct, osl, rfl, l, c⟩, k⟩
end
theorem small1000 {n : Nat} (h : n ≤ 1000) : n < sizeLine := Nat.lt_of_le_of_lt h (by decide)

/-! ### expressions in short: the name that stands in the i-th slot -/
section
variable {X : Cx}
theorem pv (i : Nat) {x : Str} {pos : Pos} (hN : X.N[i]? = some x := by rfl) (hv : Vis X.env.scope x := by first | exact Or.inl rfl | exact Or.inr (Or.inl rfl) | exact Or.inr (Or.inr rfl)) (hd : (x == ("__debug__" : Str)) = false := by decide)
    (hcd : (x == ("__classdict__" : Str)) = false := by decide) : PE X (.Name x pos) (tVar i) := pe_var hN hv hd hcd
end

/-! ### tests -/
theorem iteT {A B : Prop} (h : A) : if true = true then A else B := by
  rw [if_pos rfl]
  exact h
theorem ite2 {c A B : Prop} [Decidable c] (h1 : c → A) (h2 : ¬ c → B) : if c then A else B := by
  by_cases h : c
  · rw [if_pos h]
    exact h1 h
  · rw [if_neg h]
    exact h2 h
/-! ### heaps -/
/-- all that was tracked is as it was -/
def Same (H H' : Hp) : Prop := ∀ b o, H b = some o → H' b = some o
theorem Same.refl (H : Hp) : Same H H := fun _ _ h => h
theorem Same.trans {H H1 H2 : Hp} (a : Same H H1) (b : Same H1 H2) : Same H H2 := fun c o h => b c o (a c o h)
theorem Same.free {H H' : Hp} (e : Same H H') {l : Addr} (h : H' l = Option.none) : H l = Option.none := by
  cases q : H l with
  | none => rfl
  | some o =>
    rw [e l o q] at h
    cases h
theorem Same.seq {K : PySem.W.Frag} {H H' : Hp} {a : Addr} {xs : List V} (e : Same H H') (h : SqL K H a xs) : SqL K H' a xs := by
  rcases h with (h | ⟨o, h⟩) | h
  · exact .inl (.inl (e _ _ h))
  · exact .inl (.inr ⟨o, e _ _ h⟩)
  · exact .inr h

end L2

set_option Elab.async false
set_option linter.all false
set_option maxRecDepth 100000
set_option maxHeartbeats 4000000
/-! own rules over the layer: texts walked -/
namespace L2
open PySem PySem.Spec PyProof.Rows

/-- the signs of a text -/
def Its (x : Str) : It := ⟨fun i _ => i < x.cps.size, fun i H v H' => H' = H ∧ ∃ c, x.cps[i]? = some c ∧ v = .str ⟨#[c]⟩, fun i _ => x.cps.size ≤ i⟩
section
variable {X : Cx} {tg : Expr}
def iStr (tl : TE) : TI := fun σ H R => tl σ H fun x H1 => ∃ z, x = .str z ∧ R (Its z) H1
end
end L2

set_option Elab.async false
set_option linter.all false
set_option maxRecDepth 100000
set_option maxHeartbeats 4000000
/-! own rules over the layer: list comprehensions of one clause -/
namespace L2
open PySem PySem.Spec PyProof.Rows

/-- the block of a comprehension, one turn at a time, whatever its target -/
theorem compLoop_any {prog : Program} {w : World} {A : Around} {R : Result → Shared → Prop} {s : Shared} {elt target iter : Expr} {ifs : List Expr} {scope : Scope} {pos : Pos} {it acc : Value} {env : Env} (I : Nat → Shared → Prop)
    (turn : ∀ n s, I n s → wpAny (model prog w) A (pyNext it) (fun r s₁ => match r with
      | none => R (.ok .next) s₁
      | some v => wpAny (model prog w) A (letOwnedTupleGo target it v) (fun _ s₁' => wpAny (model prog w) A (assign target env v) (fun _ s₂ =>
          wpAny (model prog w) A (forIn ifs true fun c r => if r = true then do let ok ← isTrue c env (eval c env); pure (ForInStep.yield ok) else pure (ForInStep.yield r)) (fun ok s₃ =>
            if ok = true then wpAny (model prog w) A (eval elt env) (fun x s₄ =>
              wpAny (model prog w) A (call (.builtin "list.append") [acc, x]) (fun _ s₅ => ∃ m, m < n ∧ I m s₅) (fun _ _ => False) s₄) (fun _ _ => False) s₃
            else ∃ m, m < n ∧ I m s₃) (fun _ _ => False) s₂) (fun _ _ => False) s₁') (fun _ _ => False) s₁) (fun _ _ => False) s)
    (n : Nat) (h : I n s) :
    codeAny (model prog w) A (.compLoop (.ListComp elt [⟨target, iter, ifs, 0⟩] scope pos) 0 it acc env) R s := by
  refine codeAny_loop rfl I (fun n s hI => ?_) n h
  show wpAny _ A ((compTurn (.ListComp elt [⟨target, iter, ifs, 0⟩] scope pos) 0 it acc env).onRaise (fun x => do noteFrame x env; theTreesLotGoes x)) _ _ s
  refine wpAny_noted ?_
  rw [compTurn_list]
  refine wpAny_bind (wpAny_standAt (wpAny_bind (wpAny_mono (turn n s hI) (fun r s₁ h₁ => ?_) fun _ _ h' => h'.elim)))
  cases r with
  | none => exact wpAny_pure h₁
  | some v =>
    refine wpAny_bind (wpAny_mono h₁ (fun _ s₁' h₁' => ?_) fun _ _ h' => h'.elim)
    refine wpAny_bind (wpAny_mono h₁' (fun _ s₂ h₂ => wpAny_bind (wpAny_mono h₂ (fun ok s₃ h₃ => ?_) fun _ _ h' => h'.elim)) fun _ _ h' => h'.elim)
    cases ok with
    | false => exact wpAny_pure ⟨rfl, h₃⟩
    | true =>
      exact wpAny_bind (wpAny_bind (wpAny_mono h₃ (fun x s₄ h₄ => wpAny_bind (wpAny_mono h₄ (fun _ s₅ h₅ => wpAny_pure (wpAny_pure ⟨rfl, h₅⟩)) fun _ _ h' => h'.elim)) fun _ _ h' => h'.elim))

/-- the context of a comprehension's block -/
def Cx.comp (X : Cx) (scope : Scope) (cl : List (Str × Addr)) (N : List Str) (pins : List (Addr × Obj)) (s : Shared) (H : Hp) (fp : List Addr) : Cx where
  prog := X.prog
  w := X.w
  K := X.K
  mg := X.mg
  base := X.base
  A := X.A
  N := N
  s₀ := s
  H₀ := H
  env := compEnvC scope cl s.heap.objs.size X.env
  outer := X.stack
  stack := X.stack
  ex := fp
  fn := fun _ => false
  calm := X.calm
  pn := X.pn ++ pins
  xe := fun _ _ => False

/-- the free names' values at the block's entry, behind nt targets -/
def compStart (nt : Nat) (frs : List (Str × Nat)) (σ : St) : St := List.replicate nt none ++ frs.map fun p => (σ[p.2]?).join

/-- what of the names a comprehension must have: targets ts, free names frs with their slots outside -/
structure CompScope (X : Cx) (scope : Scope) (cl : List (Str × Addr)) (ts : List Str) (frs : List (Str × Nat)) : Prop where
  clos : closureFor scope X.env = pure cl
  kind : scope.kind = .function
  nocell : ∀ y ∈ scope.names, y.2 ≠ .cell
  names : ∀ y ∈ scope.names, y.2 = .local → scope.names.lookup y.1 = some .local
  sub : ∀ p ∈ cl, X.env.cells.lookup p.1 = some p.2
  has : ∀ p ∈ (relabel scope X.env).names, p.2 = .cell ∨ p.2 = .free → (cl.lookup p.1).isSome = true
  out : ∀ p ∈ frs, X.N[p.2]? = some p.1 ∧ (X.env.kindOf p.1 = some .cell ∨ X.env.kindOf p.1 = some .free) ∧ ((relabel scope X.env).names.lookup p.1 = some .cell ∨ (relabel scope X.env).names.lookup p.1 = some .free) ∧ (cl.lookup p.1).isSome = true

section
variable {X : Cx} {scope : Scope} {cl : List (Str × Addr)} {ts : List Str} {frs' : List (Str × Nat)} {pins : List (Addr × Obj)} {σ : St} {H : Hp} {s : Shared} {fp : List Addr}
theorem CompScope.subL (S : CompScope X scope cl ts frs') {x : Str} {c : Addr} (h : cl.lookup x = some c) : X.env.cells.lookup x = some c := S.sub (x, c) (PySem.mem_of_lookup h)

theorem CompScope.inv (S : CompScope X scope cl ts frs') (I : Inv X pins σ H s) (hf : ∀ b ∈ fp, FpOk X pins H b) (hlt : ∀ b ∈ fp, b < s.heap.objs.size) {h₁ : Heap} {tk : Nat} {m : Str → Option Value} (hns : h₁.Ns s.heap.objs.size m)
    (hk : ∀ b o, s.heap.get? b = some o → h₁.get? b = some o) : Inv (X.comp scope cl (ts ++ frs'.map (·.1)) pins s H fp) [] (compStart ts.length frs' σ) H { s with heap := h₁, toks := tk } := by
  have hC : ∀ b o, s.heap.get? b = some o → b ≠ s.heap.objs.size := fun b o e => Nat.ne_of_lt (Heap.lt_size e)
  have hcell : ∀ x c, cl.lookup x = some c → ∃ v, h₁.IsCell c v := fun x c e => by
    obtain ⟨v, o, ho, hd⟩ := I.cell x c (S.subL e)
    exact ⟨v, o, hk c o ho, hd⟩
  refine ⟨⟨I.ok.mod, ?_, I.ok.glob, I.ok.blt, Nat.le_refl _, fun x y c h1 h2 => I.ok.inj x y c (S.subL h1) (S.subL h2), fun x hx => ?_, fun x c z => (by cases z), I.ok.hd, I.ok.frames, .inl rfl, fun b hb => ⟨Nat.ne_of_lt (hlt b hb), fun x c e => ?_⟩, I.bs, Nat.le_trans I.ok.bsz I.sz, fun b o e hb => ?_, fun b hb z => ?_, I.stack, I.stkFree⟩,
    rfl, I.bare, Un.kept hk, ⟨m, hns, fun i x v h1 h2 h3 => ?_⟩, hcell, I.hok.fresh (Nat.le_refl _), fun x c e => I.freeC x c (S.subL e), fun p hp => ?_, I.hok.kept hk, ?_⟩
  · exact S.kind
  · have hx' : (relabel scope X.env).names.lookup x = some .cell ∨ (relabel scope X.env).names.lookup x = some .free := hx
    have : (cl.lookup x).isSome = true := by
      rcases hx' with e | e
      · exact S.has (x, .cell) (PySem.mem_of_lookup e) (.inl rfl)
      · exact S.has (x, .free) (PySem.mem_of_lookup e) (.inr rfl)
    exact Option.isSome_iff_exists.mp this
  · exact (hf b hb).2.2.2.2.1 x c (S.subL e)
  · obtain ⟨_, _, _, h4, _⟩ := hf b hb
    rcases h4 with h4 | h4
    · exact I.ok.noex b o e h4
    · exact absurd (Nat.lt_of_lt_of_le (Heap.lt_size e) (Nat.le_trans I.ok.bsz h4)) (Nat.lt_irrefl _)
  · obtain ⟨_, h2, h3, _⟩ := hf b hb
    rcases List.mem_cons.mp (I.stkSub b z) with e | e
    · exact h2 e
    · exact h3 e
  · have hi : ts.length ≤ i := by
      by_cases hi : ts.length ≤ i
      · exact hi
      · have : (compStart ts.length frs' σ)[i]? = some none := by
          unfold compStart
          rw [List.getElem?_append_left (by simp; omega), List.getElem?_replicate, if_pos (by omega)]
        rw [this] at h2; cases h2
    obtain ⟨p, hp, e1, e2⟩ : ∃ p ∈ frs', p.1 = x ∧ (σ[p.2]?).join = some v := by
      have h1' : (ts ++ frs'.map (·.1))[i]? = some x := h1
      have h2' : (compStart ts.length frs' σ)[i]? = some (some v) := h2
      unfold compStart at h2'
      rw [List.getElem?_append_right hi, List.getElem?_map] at h1'
      rw [List.getElem?_append_right (by simpa using hi), List.getElem?_map, List.length_replicate] at h2'
      cases e : frs'[i - ts.length]? with
      | none => rw [e] at h1'; cases h1'
      | some p =>
        rw [e] at h1' h2'
        exact ⟨p, List.mem_of_getElem? e, Option.some.inj h1', Option.some.inj h2'⟩
    obtain ⟨o1, o2, o3, o4⟩ := S.out p hp
    rw [e1] at o1 o2 o3 o4
    have e3 : σ[p.2]? = some (some v) := by
      cases e : σ[p.2]? with
      | none => rw [e] at e2; cases e2
      | some q => rw [e] at e2; exact congrArg some e2
    obtain ⟨m', _, hl⟩ := I.loc
    have hv : Vis X.env.scope x := by
      rcases o2 with o2 | o2
      · exact .inr (.inl o2)
      · exact .inr (.inr o2)
    obtain ⟨u, r, l⟩ := hl p.2 x v o1 e3 hv
    refine ⟨u, r, .inr ⟨o3, ?_⟩⟩
    obtain ⟨c, hc⟩ := Option.isSome_iff_exists.mp o4
    rcases l with ⟨k, _⟩ | ⟨_, c', e, ob, ho, hd⟩
    · rcases o2 with o2 | o2 <;> (rw [o2] at k; cases k)
    · have : c' = c := by have := S.subL hc; rw [this] at e; exact (Option.some.inj e).symm
      subst this
      exact ⟨c', hc, ob, hk c' ob ho, hd⟩
  · have hp' : p ∈ X.pn ++ pins := by
      have : p ∈ (X.pn ++ pins) ++ [] := hp
      rwa [List.append_nil] at this
    obtain ⟨e, n, ne, nf, d⟩ := I.pin p hp'
    refine ⟨hk _ _ e, n, hC _ _ e, fun z => ?_, d⟩
    rcases List.mem_cons.mp (I.stkSub _ z) with e' | e'
    · exact ne e'
    · exact nf e'
  · show (compStart ts.length frs' σ).length = (ts ++ frs'.map (·.1)).length
    unfold compStart
    simp

/-- behind the block -/
theorem CompScope.after (I : Inv X pins σ H s) (hf : ∀ b ∈ fp, FpOk X pins H b) {N : List Str} {σ' : St} {H' : Hp} {s' : Shared} (J : Inv (X.comp scope cl N pins s H fp) [] σ' H' s') {h' : Heap} (hs : Heap.SameBut s.heap.objs.size s'.heap h') :
    Inv X pins σ H' { s' with heap := h' } := by
  have hC : ∀ b o, s.heap.get? b = some o → b ≠ s.heap.objs.size := fun b o e => Nat.ne_of_lt (Heap.lt_size e)
  have fr : H' s.heap.objs.size = none := J.free
  refine I.call' (s' := { s' with heap := h' }) (ch := fp) J.os ?_ ?_ J.bare fun b hb => ?_
  · have u := J.base
    exact ⟨fun b o e n h1 h2 => (hs.2 b (hC b o e)).trans (u.keep b o e n h1 h2), fun b o e n h1 h2 => by
        obtain ⟨sl, q⟩ := u.slot b o e n h1 h2
        exact ⟨sl, (hs.2 b (hC b o e)).trans q⟩, u.free, fun b o e h2 => by
        obtain ⟨o', q⟩ := u.there b o e h2
        exact ⟨o', (hs.2 b (hC b o e)).trans q⟩, u.tups, u.frzs, u.tbls⟩
  · intro b ob e
    refine (J.hok b ob e).stay (fun c w' hc q => (hs.2 c ?_).trans q) (fun _ q => q) fun _ _ q => q
    rintro rfl
    rcases hc with hc | hc
    · rw [← hc, fr] at e; cases e
    · rw [fr] at hc; cases hc
  · obtain ⟨h1, h2, h3, h4, h5, h6⟩ := hf b hb
    exact ⟨h4, h2, h5, h6⟩
end

/-- the clause's tests -/
def PIfs (X : Cx) (ifs : List Expr) (t : TT) : Prop :=
  ∀ (pins : List (Addr × Obj)) (s : Shared) (σ : St) (H : Hp) (Q : Bool → Hp → Prop), Inv X pins σ H s → t σ H Q →
    wpAny (model X.prog X.w) X.A (forIn ifs true fun c r => if r = true then do let ok ← isTrue c X.env (eval c X.env); pure (ForInStep.yield ok) else pure (ForInStep.yield r)) (TP X pins σ Q) X.xe s
def tTrue : TT := fun _ H Q => Q true H
theorem pifs_nil {X : Cx} : PIfs X [] tTrue := fun _ _ _ H _ I h => wpAny_tests_nil ⟨H, I, h⟩
theorem pifs_one {X : Cx} {c : Expr} {t : TT} (h : PT X c t) : PIfs X [c] t := fun pins s σ H Q I q => wpAny_tests_one (h pins s σ H Q I q)

def tComp (nt : Nat) (frs : List (Str × Nat)) (wi : TI) (g : TG) (tt : TT) (te : TE) : TE := fun σ H Q => wi σ H fun J H1 => ∀ l, H1 l = none → ∃ W : Nat → Nat → St → Hp → Prop, (∃ m, W 0 m (compStart nt frs σ) (upd H1 l (.lst []))) ∧
  ∀ i m τ H, W i m τ H → (J.stop i H ∧ Q (.ref l) H) ∨ (J.go i H ∧ ∀ x H', J.yld i H x H' → g x τ H' fun τ2 H2 => tt τ2 H2 fun ok H3 =>
    if ok = true then te τ2 H3 fun y H4 => ∃ ys, H4 l = some (.lst ys) ∧ ys.length < sizeLine ∧ ∃ m', m' < m ∧ W (i + 1) m' τ2 (upd H4 l (.lst (ys ++ [y]))) else ∃ m', m' < m ∧ W (i + 1) m' τ2 H3)

theorem pe_comp {X : Cx} {elt tg iter : Expr} {ifs : List Expr} {scope : Scope} {cl : List (Str × Addr)} {ts : List Str} {frs' : List (Str × Nat)} {pos : Pos} {wi : TI} {g : TG} {tt : TT} {te : TE} (hc : X.calm = true) (S : CompScope X scope cl ts frs')
    (hi : PI X tg iter wi) (hg : ∀ pins s H fp, PG (X.comp scope cl (ts ++ frs'.map (·.1)) pins s H fp) tg g) (ht : ∀ pins s H fp, PIfs (X.comp scope cl (ts ++ frs'.map (·.1)) pins s H fp) ifs tt)
    (he : ∀ pins s H fp, PE (X.comp scope cl (ts ++ frs'.map (·.1)) pins s H fp) elt te) (hs : ∀ x, foldedSetIterable iter X.env x = pure x := by intro _; rfl) :
    PE X (.ListComp elt [⟨tg, iter, ifs, 0⟩] scope pos) (tComp ts.length frs' wi g tt te) := by
  intro pins s σ H Q I h
  rw [eval_ListComp]
  refine wpAny_comprehension_free (use := none) (cl := cl) rfl hs S.clos S.kind S.names (thn (hi pins s σ H _ I h) fun v s1 h1 => thn h1 fun itv s2 h2 => ?_)
  obtain ⟨it, fp, tn, J, H2, e, I2, T, st2, f2, q2⟩ := h2
  subst e
  have fr2 : H2 s2.heap.objs.size = none := I2.hok.fresh (Nat.le_refl _)
  obtain ⟨W, ⟨m0, w0⟩, turn⟩ := q2 _ fr2
  refine wpAny_newObj_type ?_
  have hlt2 : ∀ b ∈ fp, b < s2.heap.objs.size := fun b hb => by
    obtain ⟨o, e, _⟩ := T.obj _ _ st2 b hb
    exact Heap.lt_size e
  -- the list is laid
  have I3 : Inv X pins σ (upd H2 s2.heap.objs.size (.lst [])) { s2 with heap := s2.heap.push { cls := .type "list", data := .seq ([] : List Value).toArray } } :=
    I2.laid (t' := s2.toks) (fun b u e => Heap.get?_push_of_some _ e) (Nat.le_refl _) ⟨Nat.zero_le _, [], 0, .nil, Heap.get?_push_size _ rfl⟩
  have f3 : ∀ b ∈ fp, FpOk X pins (upd H2 s2.heap.objs.size (.lst [])) b := fun b hb => ⟨by rw [upd_ne (Nat.ne_of_lt (hlt2 b hb))]; exact (f2 b hb).1, (f2 b hb).2⟩
  have hk3 : ∀ b o, s2.heap.get? b = some o → (s2.heap.push { cls := .type "list", data := .seq ([] : List Value).toArray }).get? b = some o := fun b o e => Heap.get?_push_of_some _ e
  have hsz3 : (s2.heap.push { cls := .type "list", data := .seq ([] : List Value).toArray }).objs.size = s2.heap.objs.size + 1 := Heap.size_push ..
  refine wpAny_newFunctionEnv S.nocell (by intro y hy; simp at hy) (fun h₁ hns₁ hsb₁ => ?_) S.kind
  dsimp only at hns₁ hsb₁ ⊢
  generalize hs3 : ({ s2 with heap := s2.heap.push { cls := .type "list", data := .seq ([] : List Value).toArray } } : Shared) = s3 at I3 hns₁ hsb₁ ⊢
  have es3 : s3.heap = s2.heap.push { cls := .type "list", data := .seq ([] : List Value).toArray } := by rw [← hs3]
  have hk4 : ∀ b o, s3.heap.get? b = some o → h₁.get? b = some o := fun b o e => by
    have := hsb₁.2 b (by rw [← es3]; exact Nat.ne_of_lt (Heap.lt_size e))
    rw [← es3] at this
    exact this.trans (Heap.get?_push_of_some _ e)
  have hlt3 : ∀ b ∈ fp, b < s3.heap.objs.size := fun b hb => by
    rw [es3, hsz3]
    exact Nat.lt_succ_of_lt (hlt2 b hb)
  rw [← es3] at hns₁
  have I4 := S.inv I3 f3 hlt3 (tk := s2.toks + ([] : List (Str × Value)).length) hns₁ hk4
  have st4 : tn 0 h₁ := T.keep _ _ _ st2 fun b hb o e => hk4 b o (by rw [es3]; exact hk3 b o e)
  have estart : ({ s2 with heap := h₁, toks := s2.toks + ([] : List (Str × Value)).length } : Shared) = { s3 with heap := h₁, toks := s2.toks + ([] : List (Str × Value)).length } := by rw [← hs3]
  rw [estart]
  -- what stays true of the iterator's objects
  have stat : ∀ {H' : Hp}, (∀ b ∈ fp, H' b = none) → ∀ b ∈ fp, FpOk (X.comp scope cl (ts ++ frs'.map (·.1)) pins s3 (upd H2 s2.heap.objs.size (.lst [])) fp) [] H' b := fun hn b hb => by
    obtain ⟨h1, h2, h3, h4, h5, h6⟩ := f3 b hb
    refine ⟨hn b hb, Nat.ne_of_lt (hlt3 b hb), fun z => ?_, .inl hb, fun x c e => h5 x c (S.subL e), fun p hp => h6 p (by
      have : p ∈ (X.pn ++ pins) ++ [] := hp
      rwa [List.append_nil] at this)⟩
    rcases List.mem_cons.mp (I3.stkSub _ z) with e' | e'
    · exact h2 e'
    · exact h3 e'
  have loop : codeAny (model X.prog X.w) X.A (.compLoop (.ListComp elt [⟨tg, iter, ifs, 0⟩] scope pos) 0 (.ref it) (.ref s2.heap.objs.size) (compEnvC scope cl s3.heap.objs.size X.env))
      (compPost (model X.prog X.w) X.A X.xe none (EP X pins σ Q) (.ref s2.heap.objs.size) s3.heap.objs.size) { s3 with heap := h₁, toks := s2.toks + ([] : List (Str × Value)).length } := by
    refine compLoop_any (fun n s' => ∃ i τ H', Inv (X.comp scope cl (ts ++ frs'.map (·.1)) pins s3 (upd H2 s2.heap.objs.size (.lst [])) fp) [] τ H' s' ∧ tn i s'.heap ∧ (∀ b ∈ fp, H' b = none) ∧ W i n τ H') ?_ m0
      ⟨0, _, _, I4, st4, fun b hb => (f3 b hb).1, w0⟩
    rintro n s5 ⟨i, τ, H5, I5, st5, fr5, w5⟩
    rcases turn i n τ H5 w5 with ⟨stop, qn⟩ | ⟨go, step⟩
    · refine wpAny_mono (T.done (X.comp scope cl (ts ++ frs'.map (·.1)) pins s3 (upd H2 s2.heap.objs.size (.lst [])) fp) rfl rfl rfl hc i [] s5 τ H5 (fun _ _ => False) I5 (stat fr5) st5 stop) (fun r s6 ⟨hr, I6⟩ => ?_) fun _ _ z => z
      subst hr
      obtain ⟨m6, hn6, _⟩ := id I6.loc
      exact ⟨m6, hn6, fun h' hs' => ⟨.ref _, H5, CompScope.after I3 f3 I6 hs', rfl, qn⟩⟩
    · refine wpAny_mono (T.item (X.comp scope cl (ts ++ frs'.map (·.1)) pins s3 (upd H2 s2.heap.objs.size (.lst [])) fp) rfl rfl rfl hc i [] s5 τ H5 (fun _ _ => False) I5 (stat fr5) st5 go) (fun r s6 ⟨u, hr, h6⟩ => ?_) fun _ _ z => z
      subst hr
      refine thn h6 fun _ s7 ⟨x, H7, I7, r7, y7, st7, fr7⟩ => ?_
      have I7' := I7.pinned (stat fr7) (T.obj _ _ st7)
      refine thn (hg _ _ _ _ _ s7 τ H7 x u _ I7' r7 (step x H7 y7)) fun _ s8 ⟨τ8, H8, I8, q8⟩ => ?_
      refine thn (ht _ _ _ _ _ s8 τ8 H8 _ I8 q8) fun ok s9 ⟨H9, I9, q9⟩ => ?_
      have again : ∀ {m' : Nat} {H' : Hp} {s' : Shared}, Inv (X.comp scope cl (ts ++ frs'.map (·.1)) pins s3 (upd H2 s2.heap.objs.size (.lst [])) fp) ([] ++ pinsAt fp s7.heap) τ8 H' s' → m' < n → W (i + 1) m' τ8 H' →
          ∃ m, m < n ∧ ∃ i τ H', Inv (X.comp scope cl (ts ++ frs'.map (·.1)) pins s3 (upd H2 s2.heap.objs.size (.lst [])) fp) [] τ H' s' ∧ tn i s'.heap ∧ (∀ b ∈ fp, H' b = none) ∧ W i m τ H' := fun {m' H' s'} I' hm w' => by
        refine ⟨m', hm, i + 1, τ8, H', I'.unpinned, T.keep _ _ _ st7 fun b hb o e => (I'.pin (b, o) (List.mem_append_right _ (List.mem_append_right _ (mem_pinsAt hb e)))).1, fun b hb => ?_, w'⟩
        obtain ⟨o, e, d⟩ := T.obj _ _ st7 b hb
        exact (I'.pin (b, o) (List.mem_append_right _ (List.mem_append_right _ (mem_pinsAt hb e)))).2.1
      cases ok with
      | false =>
        rw [if_neg Bool.false_ne_true]
        rw [if_neg Bool.false_ne_true] at q9
        obtain ⟨m', hm, w'⟩ := q9
        exact again I9 hm w'
      | true =>
        rw [if_pos rfl]
        rw [if_pos rfl] at q9
        refine thn (he _ _ _ _ _ s9 τ8 H9 _ I9 q9) fun yv s10 ⟨y, H10, I10, r10, ys, hl, hz, m', hm, w'⟩ => ?_
        refine thn (mt_append _ s10 τ8 H10 (.ref s2.heap.objs.size) [y] (.ref s2.heap.objs.size) [yv] (fun _ H' => W (i + 1) m' τ8 H') I10 rfl (.cons r10 .nil) ⟨_, ys, y, rfl, rfl, hl, hz, w'⟩) fun _ s11 ⟨_, H11, I11, _, w11⟩ => ?_
        exact again I11 hm w11
  have es : (s2.heap.push { cls := .type "list", data := .seq ([] : List Value).toArray }).objs.size = s3.heap.objs.size := by rw [es3]
  rw [es]
  exact codeAny_compStart_list loop (T.self _ 0 _ _ _ st4 loop)
end L2

set_option Elab.async false
set_option linter.all false
set_option maxRecDepth 100000
set_option maxHeartbeats 4000000
/-! own rules over the layer: slices and great letters of texts, all, isinstance, a module's tuple -/
namespace L2
open PySem PySem.Spec PyProof.Rows PySem.Builtin.Str

/-- the signs of x[lo:hi] -/
def cutS (z : Str) (lo hi : Option Int) : Str := ⟨((z.cps.toList.drop (HT.sIx z.cps.toList.length 0 lo)).take (HT.sIx z.cps.toList.length z.cps.toList.length hi - HT.sIx z.cps.toList.length 0 lo)).toArray⟩

theorem clipS_eq (v : Int) (n d : Nat) : max 0 (min (if v < 0 then v + (n : Int) else v) (n : Int)) = ((HT.sIx n d (some v) : Nat) : Int) := by
  rw [← HT.clip_eq v n d]
  split <;> omega
theorem indices_eq (lo hi : Option Int) (n : Nat) : strSliceIndices lo hi 1 n = (List.range (HT.sIx n n hi - HT.sIx n 0 lo)).map fun k => HT.sIx n 0 lo + k := by
  have h1 : ∀ (a b : Nat), sliceRange (a : Int) (b : Int) 1 = (List.range (b - a)).map fun k => a + k := by
    intro a b
    unfold sliceRange
    simp only [show (1 : Int) > 0 by decide, if_true]
    have e : (if (a : Int) < (b : Int) then ((b : Int) - (a : Int) + 1 - 1) / 1 else 0).toNat = b - a := by
      rw [Int.ediv_one]
      split <;> omega
    rw [e]
    refine List.map_congr_left fun k _ => ?_
    omega
  unfold strSliceIndices
  simp only [show (1 : Int) > 0 by decide, if_true]
  cases lo with
  | none =>
    cases hi with
    | none => exact h1 0 n
    | some v =>
      dsimp only
      rw [clipS_eq v n n]
      exact h1 0 _
  | some u =>
    cases hi with
    | none =>
      dsimp only
      rw [clipS_eq u n 0]
      exact h1 _ n
    | some v =>
      dsimp only
      rw [clipS_eq u n 0, clipS_eq v n n]
      exact h1 _ _
theorem pick_range (l : List Nat) (a k : Nat) (h : a + k ≤ l.length) : ((List.range k).map fun i => a + i).filterMap (fun i => l[i]?) = (l.drop a).take k := by
  induction k generalizing a with
  | zero => simp
  | succ k ih =>
    rw [List.range_succ_eq_map, List.map_cons, List.filterMap_cons]
    have ha : a < l.length := by omega
    simp only [Nat.add_zero]
    rw [List.getElem?_eq_getElem ha]
    dsimp only
    rw [List.drop_eq_getElem_cons ha, List.take_succ_cons]
    congr 1
    rw [List.map_map, ← ih (a + 1) (by omega)]
    congr 1
    refine List.map_congr_left fun i _ => ?_
    show a + (i + 1) = a + 1 + i
    omega
theorem slice_eq (x : Str) (lo hi : Option Int) : Txt.slice x lo hi = cutS x lo hi := by
  unfold Txt.slice cutS
  have hn : x.length = x.cps.toList.length := by show x.cps.size = _; simp
  have ha := HT.sIx_le x.cps.toList.length 0 (Nat.zero_le _) lo
  have hb := HT.sIx_le x.cps.toList.length x.cps.toList.length (Nat.le_refl _) hi
  rw [hn, indices_eq]
  generalize HT.sIx x.cps.toList.length 0 lo = a at ha ⊢
  generalize HT.sIx x.cps.toList.length x.cps.toList.length hi = b at hb ⊢
  have hp := pick_range x.cps.toList a (b - a)
  split
  · rename_i h
    simp only [List.length_map, List.length_range, Bool.and_eq_true, beq_iff_eq] at h
    have h2 : b - a = x.cps.toList.length := h.2
    by_cases h0 : x.cps.toList.length = 0
    · have : x.cps = #[] := by
        apply Array.eq_empty_of_size_eq_zero; simpa using h0
      cases x; simp_all
    · have ea : a = 0 := by omega
      subst ea
      rw [List.drop_zero, List.take_of_length_le (by omega)]
  · congr 1
    by_cases hab : a ≤ b
    · rw [← hp (by omega)]
      congr 1
      simp only [Array.getElem?_toList]
    · have : b - a = 0 := by omega
      rw [this]; simp
section
variable {X : Cx}
def rSlS : V → Option Int → Option Int → Hp → VK → Prop := fun x lo hi H Q => ∃ z, x = .str z ∧ z.length ≤ sizeLine ∧ Q (.str (cutS z lo hi)) H
theorem sl_str : SlR X rSlS := by
  intro pins s σ H x v vl vu lo hi sl Q I rx hs pl pu h
  obtain ⟨z, rfl, hz, q⟩ := h
  obtain ⟨t, rfl⟩ := rx
  rw [← slice_eq] at q
  refine ⟨"str", _, F.slot_str_getitem.lookup, typeIs_str _ _ _, ?_⟩
  obtain ⟨o, ho, hc, hd⟩ := hs
  have key : ∀ (l u : Option (Int × Tok)), vl = partValue l → vu = partValue u → lo = l.map (·.1) → hi = u.map (·.1) → wpAny (model X.prog X.w) X.A (getItem (.str z t) (.ref sl)) (EP X pins σ Q) X.xe s := by
    intro l u e1 e2 e3 e4
    subst e1 e2 e3 e4
    refine wpAny_getItem_str_slice (l := l) (u := u) (st := none) ⟨o, ho, hc, hd⟩ rfl (post_val_or_str ⟨Nat.le_trans (Txt.slice_le z _ _) hz, fun t' k => ?_⟩)
    exact ⟨.str _, H, I.tok k, ⟨_, rfl⟩, q⟩
  cases pl with
  | none =>
    cases pu with
    | none => exact key none none rfl rfl rfl rfl
    | int j u => exact key none (some (j, u)) rfl rfl rfl rfl
  | int i t =>
    cases pu with
    | none => exact key (some (i, t)) none rfl rfl rfl rfl
    | int j u => exact key (some (i, t)) (some (j, u)) rfl rfl rfl rfl

/-- str.upper of a text that is not long -/
def rUpper : V → List V → Hp → VK → Prop := fun x vs H Q => ∃ z, x = .str z ∧ vs = [] ∧ z.length ≤ 5592405 ∧ ((Txt.upper z).length ≤ 3 * z.length → Q (.str (Txt.upper z)) H)
/-- isinstance(x, c), c a type's name or a class -/
def tyW : V → Option Value
  | .ty n => some (.type n)
  | .ref a => some (.ref a)
  | _ => none
theorem call_isinst : CallR X (.builtin "isinstance") (fun xs H Q => ∃ x c cv t b, xs = [x, c] ∧ tyW c = some cv ∧ TyOf X.K H x t ∧ PySem.W.kitOne X.K t cv = some b ∧ Q (.bl b) H) := by
  intro pins s σ H xs us Q I r h
  obtain ⟨x, c, cv, t, b, rfl, hc, ty, hk, q⟩ := h
  obtain ⟨u, cu, rfl, ru, rc⟩ := r.two
  have e : cu = cv := by
    cases c <;> first | (cases hc; done) | skip
    · cases rc; exact (Option.some.inj hc)
    · cases rc; exact (Option.some.inj hc)
  subst e
  exact isinst_ok I ru ty hk fun tk => ⟨.bl b, H, I.tok tk, rfl, q⟩
end
end L2

set_option Elab.async false
set_option linter.all false
set_option maxRecDepth 100000
set_option maxHeartbeats 4000000
/-! own rules over the layer: one rule an operation, by the values' kinds (the readings are then unfolded by simp) -/
namespace L2
open PySem PySem.Spec PyProof.Rows PySem.Builtin.Str

/-- a list or a tuple that is read -/
def Sq (K : PySem.W.Frag) (H : Hp) (a : Addr) (xs : List V) : Prop := SqL K H a xs ∨ SqT K H a xs
/-- x stands in y as a text -/
def occ (y x : Str) : Bool := !(occurrences y x 0 y.length 1).isEmpty

def uAdd (K : PySem.W.Frag) : R2 := fun x y H Q => match x, y with
  | .int i, .int j => Q (.int (i + j)) H
  | .str i, .str j => i.length + j.length ≤ sizeLine ∧ Q (.str (i ++ j)) H
  | .ref a, .ref b => rCat (.ref a) (.ref b) H Q ∨ rCatT K (.ref a) (.ref b) H Q
  | _, _ => False
def uSub : R2 := fun x y H Q => match x, y with
  | .int i, .int j => Q (.int (i - j)) H
  | _, _ => False
def uMul : R2 := fun x y H Q => match x, y with
  | .int i, .int j => CMul i j ∧ Q (.int (i * j)) H
  | .ref a, .int k => rRep (.ref a) (.int k) H Q
  | _, _ => False
def uDiv : R2 := fun x y H Q => match x, y with
  | .int i, .int j => CDiv i j ∧ Q (.int (i / j)) H
  | _, _ => False
def uMod : R2 := fun x y H Q => match x, y with
  | .int i, .int j => 0 < j ∧ Q (.int (i % j)) H
  | _, _ => False
def uPow : R2 := fun x y H Q => match x, y with
  | .int i, .int j => CPow i j ∧ Q (.int (i ^ j.toNat)) H
  | _, _ => False
def uLt : R2 := fun x y H Q => match x, y with
  | .int i, .int j => Q (.bl (decide (i < j))) H
  | .str i, .str j => Q (.bl (decide (i.cps.toList < j.cps.toList))) H
  | _, _ => False
def uLe : R2 := fun x y H Q => match x, y with
  | .int i, .int j => Q (.bl (decide (i ≤ j))) H
  | _, _ => False
def uGt : R2 := fun x y H Q => match x, y with
  | .int i, .int j => Q (.bl (decide (j < i))) H
  | _, _ => False
def uGe : R2 := fun x y H Q => match x, y with
  | .int i, .int j => Q (.bl (decide (j ≤ i))) H
  | _, _ => False
def uEq : R2 := fun x y H Q => match x, y with
  | .int i, .int j => Q (.bl (decide (i = j))) H
  | .str i, .str j => Q (.bl (decide (i = j))) H
  | .bl i, .bl j => Q (.bl (decide (i = j))) H
  | .non, .non => Q (.bl true) H
  | .non, .str _ => Q (.bl false) H
  | .str _, .non => Q (.bl false) H
  | _, _ => False
def uNe : R2 := fun x y H Q => match x, y with
  | .int i, .int j => Q (.bl (!decide (i = j))) H
  | .str i, .str j => Q (.bl (!decide (i = j))) H
  | .bl i, .bl j => Q (.bl (!decide (i = j))) H
  | .non, .non => Q (.bl false) H
  | .non, .str _ => Q (.bl true) H
  | .str _, .non => Q (.bl true) H
  | _, _ => False
def uIn (K : PySem.W.Frag) : R2 := fun x y H Q => match x, y with
  | .str i, .str j => Q (.bl (occ j i)) H
  | x, .ref p => ∃ xs, Sq K H p xs ∧ flatV x = true ∧ xs.all flatV = true ∧ Q (.bl (inV x xs)) H
  | _, _ => False
def uNin (K : PySem.W.Frag) : R2 := fun x y H Q => match x, y with
  | .str i, .str j => Q (.bl (!occ j i)) H
  | x, .ref p => ∃ xs, Sq K H p xs ∧ flatV x = true ∧ xs.all flatV = true ∧ Q (.bl (!inV x xs)) H
  | _, _ => False
def uIx (K : PySem.W.Frag) : R2 := fun x y H Q => match x, y with
  | .str z, .int i => z.length ≤ sizeLine ∧ ∃ c, atI z.cps.toList i = some c ∧ Q (.str ⟨#[c]⟩) H
  | .ref p, .int i => ∃ xs v, Sq K H p xs ∧ atI xs i = some v ∧ Q v H
  | _, _ => False
def uSl (K : PySem.W.Frag) : V → Option Int → Option Int → Hp → VK → Prop := fun x lo hi H Q => match x with
  | .str z => z.length ≤ sizeLine ∧ Q (.str (cutS z lo hi)) H
  | .ref p => rSlL K (.ref p) lo hi H Q ∨ rSlT K (.ref p) lo hi H Q
  | _ => False
def uLen (K : PySem.W.Frag) : List V → Hp → VK → Prop := fun xs H Q => match xs with
  | [.str z] => z.length ≤ sizeLine ∧ Q (.int z.length) H
  | [.ref p] => ∃ ys, Sq K H p ys ∧ Q (.int ys.length) H
  | _ => False
def uMax : List V → Hp → VK → Prop := fun xs H Q => match xs with
  | [.int i, .int j] => Q (.int (max i j)) H
  | _ => False
def uMin : List V → Hp → VK → Prop := fun xs H Q => match xs with
  | [.int i, .int j] => Q (.int (min i j)) H
  | _ => False
def uInt : List V → Hp → VK → Prop := fun xs H Q => match xs with
  | [.int i] => Q (.int i) H
  | [.bl k] => Q (.int (if k then 1 else 0)) H
  | _ => False
def uIsi (K : PySem.W.Frag) : List V → Hp → VK → Prop := fun xs H Q => match xs with
  | [x, .ty n] => ∃ t b, TyOf K H x t ∧ PySem.W.kitOne K t (.type n) = some b ∧ Q (.bl b) H
  | [x, .ref c] => ∃ t b, TyOf K H x t ∧ PySem.W.kitOne K t (.ref c) = some b ∧ Q (.bl b) H
  | _ => False

section
variable {X : Cx}
/-- a rule that is asked by the kinds of two values -/
theorem OpR.imp {f : Value → Value → Sem Value} {r r' : R2} (h : OpR X f r) (hi : ∀ x y H Q, r' x y H Q → r x y H Q) : OpR X f r' := fun pins s σ H x y v u Q I rx ry q => h pins s σ H x y v u Q I rx ry (hi _ _ _ _ q)
theorem CallR.imp {f : Value} {r r' : List V → Hp → VK → Prop} (h : CallR X f r) (hi : ∀ xs H Q, r' xs H Q → r xs H Q) : CallR X f r' := fun pins s σ H xs us Q I rx q => h pins s σ H xs us Q I rx (hi _ _ _ q)
theorem o_sub : OpR X (binaryOp .Sub) uSub := op_sub.imp fun x y H Q q => by
  unfold uSub at q
  split at q
  · exact ⟨_, _, rfl, rfl, q⟩
  · exact q.elim
theorem o_fdiv : OpR X (binaryOp .FloorDiv) uDiv := op_fdiv.imp fun x y H Q q => by
  unfold uDiv at q
  split at q
  · exact ⟨_, _, rfl, rfl, q.1, q.2⟩
  · exact q.elim
theorem o_mod : OpR X (binaryOp .Mod) uMod := op_mod.imp fun x y H Q q => by
  unfold uMod at q
  split at q
  · exact ⟨_, _, rfl, rfl, q.1, q.2⟩
  · exact q.elim
theorem o_lt : OpR X (compareOp .Lt) uLt := (op_lt.or op_lt_str).imp fun x y H Q q => by
  unfold uLt at q
  split at q
  · exact .inl ⟨_, _, rfl, rfl, q⟩
  · exact .inr ⟨_, _, rfl, rfl, q⟩
  · exact q.elim
theorem o_gt : OpR X (compareOp .Gt) uGt := op_gt.imp fun x y H Q q => by
  unfold uGt at q
  split at q
  · exact ⟨_, _, rfl, rfl, q⟩
  · exact q.elim
theorem o_eq : OpR X (compareOp .Eq) uEq := op_eq.imp fun x y H Q q => by
  unfold uEq at q
  split at q <;> first | exact q.elim | (refine ⟨rfl, ?_⟩; simpa using q)
theorem o_ne : OpR X (compareOp .NotEq) uNe := op_ne.imp fun x y H Q q => by
  unfold uNe at q
  split at q <;> first | exact q.elim | (refine ⟨rfl, ?_⟩; simpa using q)
theorem o_ix : IxR X (uIx X.K) := by
  intro value slice pins s σ H x y v u Q I rx ry q hs
  refine ix_seq value slice pins s σ H x y v u Q I rx ry ?_ hs
  unfold uIx at q
  split at q
  · obtain ⟨h1, c, h2, h3⟩ := q
    exact .inr (.inr ⟨_, _, c, rfl, rfl, h1, h2, h3⟩)
  · obtain ⟨xs, v, h1 | h1, h2, h3⟩ := q
    · exact .inl ⟨_, xs, _, v, rfl, rfl, h1, h2, h3⟩
    · exact .inr (.inl ⟨_, xs, _, v, rfl, rfl, h1, h2, h3⟩)
  · exact q.elim
theorem c_len : CallR X (.builtin "len") (uLen X.K) := (call_len_str.or call_len_seq).imp fun xs H Q q => by
  unfold uLen at q
  split at q
  · exact .inl ⟨_, rfl, q.1, q.2⟩
  · obtain ⟨ys, h1, h2⟩ := q
    exact .inr ⟨_, ys, rfl, h1, h2⟩
  · exact q.elim
theorem c_min (hc : X.calm = true) : CallR X (.builtin "min") uMin := (call_min2 hc).imp fun xs H Q q => by
  unfold uMin at q
  split at q
  · rename_i i j
    refine ⟨i, j, rfl, ?_⟩
    have e : (if j < i then j else i) = min i j := by split <;> omega
    rw [e]; exact q
  · exact q.elim
theorem c_isi : CallR X (.builtin "isinstance") (uIsi X.K) := call_isinst.imp fun xs H Q q => by
  unfold uIsi at q
  split at q
  · obtain ⟨t, b, h1, h2, h3⟩ := q
    exact ⟨_, _, _, t, b, rfl, rfl, h1, h2, h3⟩
  · obtain ⟨t, b, h1, h2, h3⟩ := q
    exact ⟨_, _, _, t, b, rfl, rfl, h1, h2, h3⟩
  · exact q.elim
/-- a built-in type as a value -/
theorem pe_ty {x : Str} {T : String} {pos : Pos} (hg : Gl X x) (hm : X.mg x = none) (hv : bootBuiltins x = some (.type T)) (hn : x ≠ "__name__" := by decide) (hd : (x == ("__debug__" : Str)) = false := by decide) : PE X (.Name x pos) (tC (.ty T)) := pe_bltn hg hm hv rfl hn hd

/-! the loops' readings, closed by their invariants -/
end
end L2

set_option Elab.async false
set_option linter.all false
set_option maxRecDepth 100000
set_option maxHeartbeats 4000000
/-! readings, one step at a time from the outside: each row is by rfl -/
namespace L2
open PySem PySem.Spec PyProof.Rows
section
variable {K : PySem.W.Frag} {σ : St} {H : Hp} {D : Ends} {Q : VK} {B : Bool → Hp → Prop} {L : List V → Hp → Prop} {O : Option Int → Hp → Prop} {R : It → Hp → Prop} {ta tb tc te : TE} {t u : TS} {c c' : TT} {tl : TA} {x y v : V} {a b : Addr}
theorem r_seq  : (tSeq t u D σ H) = (t { D with nx := u D } σ H) := rfl
theorem r_next  : (tNext D σ H) = (D.nx σ H) := rfl
theorem r_var0  : (tVar 0 (some v :: σ) H Q) = (Q v H) := by simp [tVar]
theorem r_gn0 {g : St → Hp → Prop} {a0 : Option V} : (gName 0 v (a0 :: σ) H g) = (g (some v :: σ) H) := rfl
theorem r_var1 {a0 : Option V} : (tVar 1 (a0 :: some v :: σ) H Q) = (Q v H) := by simp [tVar]
theorem r_gn1 {g : St → Hp → Prop} {a0 a1 : Option V} : (gName 1 v (a0 :: a1 :: σ) H g) = (g (a0 :: some v :: σ) H) := rfl
theorem r_var2 {a0 a1 : Option V} : (tVar 2 (a0 :: a1 :: some v :: σ) H Q) = (Q v H) := by simp [tVar]
theorem r_gn2 {g : St → Hp → Prop} {a0 a1 a2 : Option V} : (gName 2 v (a0 :: a1 :: a2 :: σ) H g) = (g (a0 :: a1 :: some v :: σ) H) := rfl
theorem r_var3 {a0 a1 a2 : Option V} : (tVar 3 (a0 :: a1 :: a2 :: some v :: σ) H Q) = (Q v H) := by simp [tVar]
theorem r_gn3 {g : St → Hp → Prop} {a0 a1 a2 a3 : Option V} : (gName 3 v (a0 :: a1 :: a2 :: a3 :: σ) H g) = (g (a0 :: a1 :: a2 :: some v :: σ) H) := rfl
theorem r_var4 {a0 a1 a2 a3 : Option V} : (tVar 4 (a0 :: a1 :: a2 :: a3 :: some v :: σ) H Q) = (Q v H) := by simp [tVar]
theorem r_gn4 {g : St → Hp → Prop} {a0 a1 a2 a3 a4 : Option V} : (gName 4 v (a0 :: a1 :: a2 :: a3 :: a4 :: σ) H g) = (g (a0 :: a1 :: a2 :: a3 :: some v :: σ) H) := rfl
theorem r_var5 {a0 a1 a2 a3 a4 : Option V} : (tVar 5 (a0 :: a1 :: a2 :: a3 :: a4 :: some v :: σ) H Q) = (Q v H) := by simp [tVar]
theorem r_gn5 {g : St → Hp → Prop} {a0 a1 a2 a3 a4 a5 : Option V} : (gName 5 v (a0 :: a1 :: a2 :: a3 :: a4 :: a5 :: σ) H g) = (g (a0 :: a1 :: a2 :: a3 :: a4 :: some v :: σ) H) := rfl
theorem r_var6 {a0 a1 a2 a3 a4 a5 : Option V} : (tVar 6 (a0 :: a1 :: a2 :: a3 :: a4 :: a5 :: some v :: σ) H Q) = (Q v H) := by simp [tVar]
theorem r_gn6 {g : St → Hp → Prop} {a0 a1 a2 a3 a4 a5 a6 : Option V} : (gName 6 v (a0 :: a1 :: a2 :: a3 :: a4 :: a5 :: a6 :: σ) H g) = (g (a0 :: a1 :: a2 :: a3 :: a4 :: a5 :: some v :: σ) H) := rfl
theorem r_var7 {a0 a1 a2 a3 a4 a5 a6 : Option V} : (tVar 7 (a0 :: a1 :: a2 :: a3 :: a4 :: a5 :: a6 :: some v :: σ) H Q) = (Q v H) := by simp [tVar]
theorem r_gn7 {g : St → Hp → Prop} {a0 a1 a2 a3 a4 a5 a6 a7 : Option V} : (gName 7 v (a0 :: a1 :: a2 :: a3 :: a4 :: a5 :: a6 :: a7 :: σ) H g) = (g (a0 :: a1 :: a2 :: a3 :: a4 :: a5 :: a6 :: some v :: σ) H) := rfl
theorem r_var8 {a0 a1 a2 a3 a4 a5 a6 a7 : Option V} : (tVar 8 (a0 :: a1 :: a2 :: a3 :: a4 :: a5 :: a6 :: a7 :: some v :: σ) H Q) = (Q v H) := by simp [tVar]
theorem r_gn8 {g : St → Hp → Prop} {a0 a1 a2 a3 a4 a5 a6 a7 a8 : Option V} : (gName 8 v (a0 :: a1 :: a2 :: a3 :: a4 :: a5 :: a6 :: a7 :: a8 :: σ) H g) = (g (a0 :: a1 :: a2 :: a3 :: a4 :: a5 :: a6 :: a7 :: some v :: σ) H) := rfl
theorem r_var9 {a0 a1 a2 a3 a4 a5 a6 a7 a8 : Option V} : (tVar 9 (a0 :: a1 :: a2 :: a3 :: a4 :: a5 :: a6 :: a7 :: a8 :: some v :: σ) H Q) = (Q v H) := by simp [tVar]
theorem r_gn9 {g : St → Hp → Prop} {a0 a1 a2 a3 a4 a5 a6 a7 a8 a9 : Option V} : (gName 9 v (a0 :: a1 :: a2 :: a3 :: a4 :: a5 :: a6 :: a7 :: a8 :: a9 :: σ) H g) = (g (a0 :: a1 :: a2 :: a3 :: a4 :: a5 :: a6 :: a7 :: a8 :: some v :: σ) H) := rfl
theorem r_var10 {a0 a1 a2 a3 a4 a5 a6 a7 a8 a9 : Option V} : (tVar 10 (a0 :: a1 :: a2 :: a3 :: a4 :: a5 :: a6 :: a7 :: a8 :: a9 :: some v :: σ) H Q) = (Q v H) := by simp [tVar]
theorem r_gn10 {g : St → Hp → Prop} {a0 a1 a2 a3 a4 a5 a6 a7 a8 a9 a10 : Option V} : (gName 10 v (a0 :: a1 :: a2 :: a3 :: a4 :: a5 :: a6 :: a7 :: a8 :: a9 :: a10 :: σ) H g) = (g (a0 :: a1 :: a2 :: a3 :: a4 :: a5 :: a6 :: a7 :: a8 :: a9 :: some v :: σ) H) := rfl
theorem r_var11 {a0 a1 a2 a3 a4 a5 a6 a7 a8 a9 a10 : Option V} : (tVar 11 (a0 :: a1 :: a2 :: a3 :: a4 :: a5 :: a6 :: a7 :: a8 :: a9 :: a10 :: some v :: σ) H Q) = (Q v H) := by simp [tVar]
theorem r_gn11 {g : St → Hp → Prop} {a0 a1 a2 a3 a4 a5 a6 a7 a8 a9 a10 a11 : Option V} : (gName 11 v (a0 :: a1 :: a2 :: a3 :: a4 :: a5 :: a6 :: a7 :: a8 :: a9 :: a10 :: a11 :: σ) H g) = (g (a0 :: a1 :: a2 :: a3 :: a4 :: a5 :: a6 :: a7 :: a8 :: a9 :: a10 :: some v :: σ) H) := rfl
theorem r_var12 {a0 a1 a2 a3 a4 a5 a6 a7 a8 a9 a10 a11 : Option V} : (tVar 12 (a0 :: a1 :: a2 :: a3 :: a4 :: a5 :: a6 :: a7 :: a8 :: a9 :: a10 :: a11 :: some v :: σ) H Q) = (Q v H) := by simp [tVar]
theorem r_gn12 {g : St → Hp → Prop} {a0 a1 a2 a3 a4 a5 a6 a7 a8 a9 a10 a11 a12 : Option V} : (gName 12 v (a0 :: a1 :: a2 :: a3 :: a4 :: a5 :: a6 :: a7 :: a8 :: a9 :: a10 :: a11 :: a12 :: σ) H g) = (g (a0 :: a1 :: a2 :: a3 :: a4 :: a5 :: a6 :: a7 :: a8 :: a9 :: a10 :: a11 :: some v :: σ) H) := rfl
theorem r_var13 {a0 a1 a2 a3 a4 a5 a6 a7 a8 a9 a10 a11 a12 : Option V} : (tVar 13 (a0 :: a1 :: a2 :: a3 :: a4 :: a5 :: a6 :: a7 :: a8 :: a9 :: a10 :: a11 :: a12 :: some v :: σ) H Q) = (Q v H) := by simp [tVar]
theorem r_gn13 {g : St → Hp → Prop} {a0 a1 a2 a3 a4 a5 a6 a7 a8 a9 a10 a11 a12 a13 : Option V} : (gName 13 v (a0 :: a1 :: a2 :: a3 :: a4 :: a5 :: a6 :: a7 :: a8 :: a9 :: a10 :: a11 :: a12 :: a13 :: σ) H g) = (g (a0 :: a1 :: a2 :: a3 :: a4 :: a5 :: a6 :: a7 :: a8 :: a9 :: a10 :: a11 :: a12 :: some v :: σ) H) := rfl
theorem r_var14 {a0 a1 a2 a3 a4 a5 a6 a7 a8 a9 a10 a11 a12 a13 : Option V} : (tVar 14 (a0 :: a1 :: a2 :: a3 :: a4 :: a5 :: a6 :: a7 :: a8 :: a9 :: a10 :: a11 :: a12 :: a13 :: some v :: σ) H Q) = (Q v H) := by simp [tVar]
theorem r_gn14 {g : St → Hp → Prop} {a0 a1 a2 a3 a4 a5 a6 a7 a8 a9 a10 a11 a12 a13 a14 : Option V} : (gName 14 v (a0 :: a1 :: a2 :: a3 :: a4 :: a5 :: a6 :: a7 :: a8 :: a9 :: a10 :: a11 :: a12 :: a13 :: a14 :: σ) H g) = (g (a0 :: a1 :: a2 :: a3 :: a4 :: a5 :: a6 :: a7 :: a8 :: a9 :: a10 :: a11 :: a12 :: a13 :: some v :: σ) H) := rfl
theorem r_var15 {a0 a1 a2 a3 a4 a5 a6 a7 a8 a9 a10 a11 a12 a13 a14 : Option V} : (tVar 15 (a0 :: a1 :: a2 :: a3 :: a4 :: a5 :: a6 :: a7 :: a8 :: a9 :: a10 :: a11 :: a12 :: a13 :: a14 :: some v :: σ) H Q) = (Q v H) := by simp [tVar]
theorem r_gn15 {g : St → Hp → Prop} {a0 a1 a2 a3 a4 a5 a6 a7 a8 a9 a10 a11 a12 a13 a14 a15 : Option V} : (gName 15 v (a0 :: a1 :: a2 :: a3 :: a4 :: a5 :: a6 :: a7 :: a8 :: a9 :: a10 :: a11 :: a12 :: a13 :: a14 :: a15 :: σ) H g) = (g (a0 :: a1 :: a2 :: a3 :: a4 :: a5 :: a6 :: a7 :: a8 :: a9 :: a10 :: a11 :: a12 :: a13 :: a14 :: some v :: σ) H) := rfl
theorem r_var16 {a0 a1 a2 a3 a4 a5 a6 a7 a8 a9 a10 a11 a12 a13 a14 a15 : Option V} : (tVar 16 (a0 :: a1 :: a2 :: a3 :: a4 :: a5 :: a6 :: a7 :: a8 :: a9 :: a10 :: a11 :: a12 :: a13 :: a14 :: a15 :: some v :: σ) H Q) = (Q v H) := by simp [tVar]
theorem r_gn16 {g : St → Hp → Prop} {a0 a1 a2 a3 a4 a5 a6 a7 a8 a9 a10 a11 a12 a13 a14 a15 a16 : Option V} : (gName 16 v (a0 :: a1 :: a2 :: a3 :: a4 :: a5 :: a6 :: a7 :: a8 :: a9 :: a10 :: a11 :: a12 :: a13 :: a14 :: a15 :: a16 :: σ) H g) = (g (a0 :: a1 :: a2 :: a3 :: a4 :: a5 :: a6 :: a7 :: a8 :: a9 :: a10 :: a11 :: a12 :: a13 :: a14 :: a15 :: some v :: σ) H) := rfl
theorem r_var17 {a0 a1 a2 a3 a4 a5 a6 a7 a8 a9 a10 a11 a12 a13 a14 a15 a16 : Option V} : (tVar 17 (a0 :: a1 :: a2 :: a3 :: a4 :: a5 :: a6 :: a7 :: a8 :: a9 :: a10 :: a11 :: a12 :: a13 :: a14 :: a15 :: a16 :: some v :: σ) H Q) = (Q v H) := by simp [tVar]
theorem r_gn17 {g : St → Hp → Prop} {a0 a1 a2 a3 a4 a5 a6 a7 a8 a9 a10 a11 a12 a13 a14 a15 a16 a17 : Option V} : (gName 17 v (a0 :: a1 :: a2 :: a3 :: a4 :: a5 :: a6 :: a7 :: a8 :: a9 :: a10 :: a11 :: a12 :: a13 :: a14 :: a15 :: a16 :: a17 :: σ) H g) = (g (a0 :: a1 :: a2 :: a3 :: a4 :: a5 :: a6 :: a7 :: a8 :: a9 :: a10 :: a11 :: a12 :: a13 :: a14 :: a15 :: a16 :: some v :: σ) H) := rfl
theorem r_var18 {a0 a1 a2 a3 a4 a5 a6 a7 a8 a9 a10 a11 a12 a13 a14 a15 a16 a17 : Option V} : (tVar 18 (a0 :: a1 :: a2 :: a3 :: a4 :: a5 :: a6 :: a7 :: a8 :: a9 :: a10 :: a11 :: a12 :: a13 :: a14 :: a15 :: a16 :: a17 :: some v :: σ) H Q) = (Q v H) := by simp [tVar]
theorem r_gn18 {g : St → Hp → Prop} {a0 a1 a2 a3 a4 a5 a6 a7 a8 a9 a10 a11 a12 a13 a14 a15 a16 a17 a18 : Option V} : (gName 18 v (a0 :: a1 :: a2 :: a3 :: a4 :: a5 :: a6 :: a7 :: a8 :: a9 :: a10 :: a11 :: a12 :: a13 :: a14 :: a15 :: a16 :: a17 :: a18 :: σ) H g) = (g (a0 :: a1 :: a2 :: a3 :: a4 :: a5 :: a6 :: a7 :: a8 :: a9 :: a10 :: a11 :: a12 :: a13 :: a14 :: a15 :: a16 :: a17 :: some v :: σ) H) := rfl
theorem r_var19 {a0 a1 a2 a3 a4 a5 a6 a7 a8 a9 a10 a11 a12 a13 a14 a15 a16 a17 a18 : Option V} : (tVar 19 (a0 :: a1 :: a2 :: a3 :: a4 :: a5 :: a6 :: a7 :: a8 :: a9 :: a10 :: a11 :: a12 :: a13 :: a14 :: a15 :: a16 :: a17 :: a18 :: some v :: σ) H Q) = (Q v H) := by simp [tVar]
theorem r_gn19 {g : St → Hp → Prop} {a0 a1 a2 a3 a4 a5 a6 a7 a8 a9 a10 a11 a12 a13 a14 a15 a16 a17 a18 a19 : Option V} : (gName 19 v (a0 :: a1 :: a2 :: a3 :: a4 :: a5 :: a6 :: a7 :: a8 :: a9 :: a10 :: a11 :: a12 :: a13 :: a14 :: a15 :: a16 :: a17 :: a18 :: a19 :: σ) H g) = (g (a0 :: a1 :: a2 :: a3 :: a4 :: a5 :: a6 :: a7 :: a8 :: a9 :: a10 :: a11 :: a12 :: a13 :: a14 :: a15 :: a16 :: a17 :: a18 :: some v :: σ) H) := rfl
theorem r_c  : (tC v σ H Q) = (Q v H) := rfl
theorem r_op {r : R2} : (tOp r ta tb σ H Q) = (ta σ H fun x H1 => tb σ H1 fun y H2 => r x y H2 Q) := rfl
theorem r_un {r : V → Hp → VK → Prop} : (tUn r ta σ H Q) = (ta σ H fun x H1 => r x H1 Q) := rfl
theorem r_test  : (tTest te σ H B) = (te σ H fun x H1 => ∃ k, x = .bl k ∧ B k H1) := rfl
theorem r_tb  : (tB te σ H B) = (te σ H fun x H1 => ∃ k, x = .bl k ∧ B k H1) := rfl
theorem r_bl {b : Bool} {F : Bool → Prop} : (∃ k, V.bl b = .bl k ∧ F k) = (F b) := by simp
theorem r_ifs  : (tIfS c t u D σ H) = (c σ H fun b H1 => if b = true then t D σ H1 else u D σ H1) := rfl
theorem r_ret  : (tRet te D σ H) = (te σ H D.rt) := rfl
theorem r_retn  : (tRetN D σ H) = (D.rt .non H) := rfl
theorem r_asg {g : TG} : (tAsg te g D σ H) = (te σ H fun x H1 => g x σ H1 D.nx) := rfl
theorem r_and  : (tAnd c c' σ H B) = (c σ H fun k H1 => if k = true then c' σ H1 B else B false H1) := rfl
theorem r_or  : (tOr c c' σ H B) = (c σ H fun k H1 => if k = true then B true H1 else c' σ H1 B) := rfl
theorem r_not  : (tNot c σ H B) = (c σ H fun k H1 => B (!k) H1) := rfl
theorem r_andv  : (tAndV ta tb σ H Q) = (ta σ H fun x H1 => ∃ k, x = .bl k ∧ if k = true then tb σ H1 Q else Q (.bl false) H1) := rfl
theorem r_orv  : (tOrV ta tb σ H Q) = (ta σ H fun x H1 => ∃ k, x = .bl k ∧ if k = true then Q (.bl true) H1 else tb σ H1 Q) := rfl
theorem r_notv  : (tNotV ta σ H Q) = (ta σ H fun x H1 => ∃ k, x = .bl k ∧ Q (.bl (!k)) H1) := rfl
theorem r_drop  : (tDrop te D σ H) = (te σ H fun _ H1 => D.nx σ H1) := rfl
theorem r_cons  : (tCons te tl σ H L) = (te σ H fun x H1 => tl σ H1 fun xs H2 => L (x :: xs) H2) := rfl
theorem r_nil  : (tNil σ H L) = (L [] H) := rfl
theorem r_cb {r : List V → Hp → VK → Prop} : (tCB r tl σ H Q) = (tl σ H fun vs H1 => r vs H1 Q) := rfl
theorem r_lst  : (tLst tl σ H Q) = (tl σ H fun xs H1 => xs.length ≤ sizeLine ∧ ∀ p, H1 p = none → Q (.ref p) (upd H1 p (.lst xs))) := rfl
theorem r_tup  : (tTup tl σ H Q) = (tl σ H fun xs H1 => xs.length ≤ sizeLine ∧ ∀ p, H1 p = none → Q (.ref p) (upd H1 p (.tup xs))) := rfl
theorem r_call {sp : Sp} {dvs : List V} {E : XK} : (tCall sp dvs E tl σ H Q) = (tl σ H fun vs H1 => sp (vs ++ dvs) H1 Q E) := rfl
theorem r_sl {r : V → Option Int → Option Int → Hp → VK → Prop} {to1 to2 : TO} : (tSl r te to1 to2 σ H Q) = (te σ H fun x H1 => to1 σ H1 fun l H2 => to2 σ H2 fun u H3 => r x l u H3 Q) := rfl
theorem r_nopart  : (tNoPart σ H O) = (O none H) := rfl
theorem r_part  : (tPart te σ H O) = (te σ H fun x H1 => ∃ i, x = .int i ∧ O (some i) H1) := rfl
theorem r_int {i : Int} {F : Int → Prop} : (∃ k, V.int i = .int k ∧ F k) = (F i) := by simp
theorem r_bm {T : String} {r : V → List V → Hp → VK → Prop} : (tBM K T r te tl σ H Q) = (te σ H fun x H1 => tyV K T x H1 ∧ tl σ H1 fun xs H2 => r x xs H2 Q) := rfl
theorem r_bm0 {T : String} {r : V → List V → Hp → VK → Prop} : (tBM0 K T r te σ H Q) = (te σ H fun x H1 => tyV K T x H1 ∧ r x [] H1 Q) := rfl
theorem r_if  : (tIf c ta tb σ H Q) = (c σ H fun k H1 => if k = true then ta σ H1 Q else tb σ H1 Q) := rfl
theorem r_chain {r r' : R2} : (tChain r r' ta tb tc σ H Q) = (ta σ H fun x H1 => tb σ H1 fun y H2 => r x y H2 fun z H3 => ∃ k, z = .bl k ∧ (if k = true then tc σ H3 fun w H4 => r' y w H4 Q else Q (.bl false) H3)) := rfl
theorem r_true  : (tTrue σ H B) = (B true H) := rfl
theorem r_add {i j : Int} : (uAdd K (.int i) (.int j) H Q) = (Q (.int (i + j)) H) := rfl
theorem r_adds {i j : Str} : (uAdd K (.str i) (.str j) H Q) = (i.length + j.length ≤ sizeLine ∧ Q (.str (i ++ j)) H) := rfl
theorem r_addr  : (uAdd K (.ref a) (.ref b) H Q) = (rCat (.ref a) (.ref b) H Q ∨ rCatT K (.ref a) (.ref b) H Q) := rfl
theorem r_sub {i j : Int} : (uSub (.int i) (.int j) H Q) = (Q (.int (i - j)) H) := rfl
theorem r_mul {i j : Int} : (uMul (.int i) (.int j) H Q) = (CMul i j ∧ Q (.int (i * j)) H) := rfl
theorem r_div {i j : Int} : (uDiv (.int i) (.int j) H Q) = (CDiv i j ∧ Q (.int (i / j)) H) := rfl
theorem r_mod {i j : Int} : (uMod (.int i) (.int j) H Q) = (0 < j ∧ Q (.int (i % j)) H) := rfl
theorem r_pow {i j : Int} : (uPow (.int i) (.int j) H Q) = (CPow i j ∧ Q (.int (i ^ j.toNat)) H) := rfl
theorem r_lt {i j : Int} : (uLt (.int i) (.int j) H Q) = (Q (.bl (decide (i < j))) H) := rfl
theorem r_le {i j : Int} : (uLe (.int i) (.int j) H Q) = (Q (.bl (decide (i ≤ j))) H) := rfl
theorem r_gt {i j : Int} : (uGt (.int i) (.int j) H Q) = (Q (.bl (decide (j < i))) H) := rfl
theorem r_ge {i j : Int} : (uGe (.int i) (.int j) H Q) = (Q (.bl (decide (j ≤ i))) H) := rfl
theorem r_eqint {i j : Int} : (uEq (.int i) (.int j) H Q) = (Q (.bl (decide (i = j))) H) := rfl
theorem r_neint {i j : Int} : (uNe (.int i) (.int j) H Q) = (Q (.bl (!decide (i = j))) H) := rfl
theorem r_eqstr {i j : Str} : (uEq (.str i) (.str j) H Q) = (Q (.bl (decide (i = j))) H) := rfl
theorem r_nestr {i j : Str} : (uNe (.str i) (.str j) H Q) = (Q (.bl (!decide (i = j))) H) := rfl
theorem r_eqbl {i j : Bool} : (uEq (.bl i) (.bl j) H Q) = (Q (.bl (decide (i = j))) H) := rfl
theorem r_nebl {i j : Bool} : (uNe (.bl i) (.bl j) H Q) = (Q (.bl (!decide (i = j))) H) := rfl
theorem r_ins {i j : Str} : (uIn K (.str i) (.str j) H Q) = (Q (.bl (occ j i)) H) := rfl
theorem r_nins {i j : Str} : (uNin K (.str i) (.str j) H Q) = (Q (.bl (!occ j i)) H) := rfl
theorem r_inint {i : Int} : (uIn K (.int i) (.ref a) H Q) = (∃ xs, Sq K H a xs ∧ flatV (.int i) = true ∧ xs.all flatV = true ∧ Q (.bl (inV (.int i) xs)) H) := rfl
theorem r_ninint {i : Int} : (uNin K (.int i) (.ref a) H Q) = (∃ xs, Sq K H a xs ∧ flatV (.int i) = true ∧ xs.all flatV = true ∧ Q (.bl (!inV (.int i) xs)) H) := rfl
theorem r_instr {i : Str} : (uIn K (.str i) (.ref a) H Q) = (∃ xs, Sq K H a xs ∧ flatV (.str i) = true ∧ xs.all flatV = true ∧ Q (.bl (inV (.str i) xs)) H) := rfl
theorem r_ninstr {i : Str} : (uNin K (.str i) (.ref a) H Q) = (∃ xs, Sq K H a xs ∧ flatV (.str i) = true ∧ xs.all flatV = true ∧ Q (.bl (!inV (.str i) xs)) H) := rfl
theorem r_ixs {z : Str} {i : Int} : (uIx K (.str z) (.int i) H Q) = (z.length ≤ sizeLine ∧ ∃ c, atI z.cps.toList i = some c ∧ Q (.str ⟨#[c]⟩) H) := rfl
theorem r_ixr {i : Int} : (uIx K (.ref a) (.int i) H Q) = (∃ xs v, Sq K H a xs ∧ atI xs i = some v ∧ Q v H) := rfl
theorem r_sls {z : Str} {lo hi : Option Int} : (uSl K (.str z) lo hi H Q) = (z.length ≤ sizeLine ∧ Q (.str (cutS z lo hi)) H) := rfl
theorem r_slr {lo hi : Option Int} : (uSl K (.ref a) lo hi H Q) = (rSlL K (.ref a) lo hi H Q ∨ rSlT K (.ref a) lo hi H Q) := rfl
theorem r_lens {z : Str} : (uLen K [.str z] H Q) = (z.length ≤ sizeLine ∧ Q (.int z.length) H) := rfl
theorem r_lenr  : (uLen K [.ref a] H Q) = (∃ ys, Sq K H a ys ∧ Q (.int ys.length) H) := rfl
theorem r_max {i j : Int} : (uMax [.int i, .int j] H Q) = (Q (.int (max i j)) H) := rfl
theorem r_min {i j : Int} : (uMin [.int i, .int j] H Q) = (Q (.int (min i j)) H) := rfl
theorem r_inti {i : Int} : (uInt [.int i] H Q) = (Q (.int i) H) := rfl
theorem r_intb {k : Bool} : (uInt [.bl k] H Q) = (Q (.int (if k then 1 else 0)) H) := rfl
theorem r_isi {n : String} : (uIsi K [x, .ty n] H Q) = (∃ t b, TyOf K H x t ∧ PySem.W.kitOne K t (.type n) = some b ∧ Q (.bl b) H) := rfl
theorem r_isic  : (uIsi K [x, .ref a] H Q) = (∃ t b, TyOf K H x t ∧ PySem.W.kitOne K t (.ref a) = some b ∧ Q (.bl b) H) := rfl
theorem r_fld {f : Str} : (tFld K ta f σ H Q) = (ta σ H fun x H1 => ∃ a C dx fs v, x = .ref a ∧ H1 a = some (.ins C dx fs) ∧ Cls K C ∧ NoAttr K C f ∧ fs.lookup f = some v ∧ Q v H1) := rfl
end
section
variable {CX : CXT} {P : Program} {w : World} {K : PySem.W.Frag} {mg : Str → Option Value} {base : Heap} {N : List Str} {qual : Str} {scope : Scope} {f : Addr} {cd : Value} {A : Around} {outer : List Env} {s : Shared} {H : Hp} {E : XK}
theorem r_cxK  : ((cxOf CX P w K mg base N qual scope f cd A outer s H E).K) = (K) := rfl
theorem r_nilapp {α : Type} {l : List α} : (l ++ []) = (l) := List.append_nil l
end
end L2

set_option Elab.async false
set_option linter.all false
set_option maxRecDepth 100000
set_option maxHeartbeats 4000000
/-! loops and comprehensions by their invariants; small words -/
namespace L2
open PySem PySem.Spec PyProof.Rows

/-- a loop over J -/
def tLoop (J : It) (g : TG) (tb : TS) (D : Ends) (σ : St) (H : Hp) : Prop := ∃ W : Nat → Nat → St → Hp → Prop, (∃ m, W 0 m σ H) ∧ ∀ i m σ H, W i m σ H →
  (J.stop i H ∧ D.nx σ H) ∨ (J.go i H ∧ ∃ N : St → Hp → Prop, (∀ σ' H', N σ' H' → ∃ m', m' < m ∧ W (i + 1) m' σ' H') ∧ ∀ x H', J.yld i H x H' → g x σ H' fun σ2 H2 => tb { D with nx := N, ct := N, bk := D.nx } σ2 H2)
theorem r_for {wi : TI} {g : TG} {tb : TS} {D : Ends} {σ : St} {H : Hp} : (tFor wi g tb D σ H) = (wi σ H fun J H1 => tLoop J g tb D σ H1) := rfl
def uRng1 : List V → Hp → (It → Hp → Prop) → Prop := fun vs H R => match vs with
  | [.int j] => -(2 ^ 62) ≤ j ∧ j < 2 ^ 62 ∧ R (Itr 0 j.toNat) H
  | _ => False
def uRng2 : List V → Hp → (It → Hp → Prop) → Prop := fun vs H R => match vs with
  | [.int i, .int j] => (-(2 ^ 62) ≤ i ∧ i < 2 ^ 62 ∧ -(2 ^ 62) ≤ j ∧ j < 2 ^ 62) ∧ R (Itr i (j - i).toNat) H
  | _ => False
def jRng1 (ta : TA) : TI := fun σ H R => ta σ H fun vs H1 => uRng1 vs H1 R
def jRng2 (ta : TA) : TI := fun σ H R => ta σ H fun vs H1 => uRng2 vs H1 R
def uList (K : PySem.W.Frag) : V → Hp → (It → Hp → Prop) → Prop := fun x H R => match x with
  | .ref a => (∃ xs, SqL K H a xs) ∧ R (Itl K a) H
  | _ => False
def uTupI (K : PySem.W.Frag) : V → Hp → (It → Hp → Prop) → Prop := fun x H R => match x with
  | .ref a => (∃ xs, SqT K H a xs) ∧ R (Itt K a) H
  | _ => False
def uStrI : V → Hp → (It → Hp → Prop) → Prop := fun x H R => match x with
  | .str z => R (Its z) H
  | _ => False
def jOf (u : V → Hp → (It → Hp → Prop) → Prop) (te : TE) : TI := fun σ H R => te σ H fun x H1 => u x H1 R
theorem PI.imp {X : Cx} {tg iter : Expr} {wi wi' : TI} (h : PI X tg iter wi) (hi : ∀ σ H R, wi' σ H R → wi σ H R) : PI X tg iter wi' := fun pins s σ H R I q => h pins s σ H R I (hi σ H R q)
theorem PE.imp {X : Cx} {e : Expr} {t t' : TE} (h : PE X e t) (hi : ∀ σ H R, t' σ H R → t σ H R) : PE X e t' := fun pins s σ H Q I q => h pins s σ H Q I (hi σ H Q q)
section
variable {X : Cx} {tg : Expr} {K : PySem.W.Frag} {σ : St} {H : Hp} {R : It → Hp → Prop} {te : TE} {ta : TA}
/-- the reading of an argument list is monotone -/
def MonoA (ta : TA) : Prop := ∀ σ H (L L' : List V → Hp → Prop), (∀ vs H1, L vs H1 → L' vs H1) → ta σ H L → ta σ H L'
end
section
variable {X : Cx} {tg : Expr} {a b : Expr} {p pos : Pos} {ta : TA} {te : TE}
theorem pj_range1 (hg : Gl X "range") (hm : X.mg "range" = none) (ha : PA X [a] ta) (hs : starEach [a] X.env = [(false, eval a X.env)] := by rfl) : PI X tg (.Call (.Name "range" p) [a] [] pos) (jRng1 ta) := by
  intro pins s σ H R I h
  refine Call_ (ld_blt I hg hm boot_range (PyProof.Rows.callWith_type1 (thn (ha pos pins s σ H _ I h) fun us s1 ⟨vs, H1, I1, r1, q1⟩ => ?_) hs rfl))
  unfold uRng1 at q1
  dsimp only at q1
  split at q1
  · obtain ⟨q1, q2, q⟩ := q1
    cases r1 with
    | cons r rr =>
      cases rr
      obtain ⟨t, rfl⟩ := r
      exact call_range_1 (range_it I1 (by omega) (by omega) q1 q2 (by simpa using q))
  · exact q1.elim
theorem pj_range2 (hg : Gl X "range") (hm : X.mg "range" = none) (ha : PA X [a, b] ta) (hs : starEach [a, b] X.env = [(false, eval a X.env), (false, eval b X.env)] := by rfl) (hs2 : starEach [b] X.env = [(false, eval b X.env)] := by rfl) :
    PI X tg (.Call (.Name "range" p) [a, b] [] pos) (jRng2 ta) := by
  intro pins s σ H R I h
  refine Call_ (ld_blt I hg hm boot_range (PyProof.Rows.callWith_type1 (thn (ha pos pins s σ H _ I h) fun us s1 ⟨vs, H1, I1, r1, q1⟩ => ?_) (by rw [hs, hs2]) (by rw [hs2]; rfl)))
  unfold uRng2 at q1
  dsimp only at q1
  split at q1
  · obtain ⟨⟨q1, q2, q3, q4⟩, q⟩ := q1
    cases r1 with
    | cons r rr =>
      cases rr with
      | cons r' rr =>
        cases rr
        obtain ⟨t, rfl⟩ := r
        obtain ⟨t', rfl⟩ := r'
        exact call_range_2 (range_it I1 q1 q2 q3 q4 q)
  · exact q1.elim
theorem pj_list (hl : PE X a te) : PI X tg a (jOf (uList X.K) te) := by
  intro pins s σ H R I h
  refine thn (hl pins s σ H _ I h) fun v s1 ⟨x, H1, I1, r1, q1⟩ => ?_
  cases x with
  | ref l =>
    obtain ⟨hx, q⟩ := q1
    have hc : PE X a (fun σ H Q => Q (.ref l) H1) → True := fun _ => trivial
    obtain ⟨xs, hq⟩ := hx
    cases r1
    obtain ⟨its, rv, p, hz⟩ := I1.list hq
    refine wpAny_pyIter_list p.isList ?_
    refine ⟨s1.heap.objs.size, [s1.heap.objs.size], _, _, H1, rfl, I1.kept (t' := s1.toks) fun b o e => Heap.get?_push_of_some _ e, turn_list l _, ⟨_, Heap.get?_push_size _ rfl, rfl, rfl⟩, fun b hb => ?_, q⟩
    have e : b = s1.heap.objs.size := by simpa using hb
    subst e
    exact I1.fpOk (Nat.le_refl _) (I1.hok.fresh (Nat.le_refl _))
  | _ => exact q1.elim
end
section
variable {K : PySem.W.Frag} {σ : St} {H : Hp} {R : It → Hp → Prop} {te : TE} {ta : TA} {a : Addr} {i j : Int} {z : Str} {u : V → Hp → (It → Hp → Prop) → Prop}
theorem r_jof : (jOf u te σ H R) = (te σ H fun x H1 => u x H1 R) := rfl
theorem r_jrng1 : (jRng1 ta σ H R) = (ta σ H fun vs H1 => uRng1 vs H1 R) := rfl
theorem r_jrng2 : (jRng2 ta σ H R) = (ta σ H fun vs H1 => uRng2 vs H1 R) := rfl
theorem r_urng1 : (uRng1 [.int j] H R) = (-(2 ^ 62) ≤ j ∧ j < 2 ^ 62 ∧ R (Itr 0 j.toNat) H) := rfl
theorem r_urng2 : (uRng2 [.int i, .int j] H R) = ((-(2 ^ 62) ≤ i ∧ i < 2 ^ 62 ∧ -(2 ^ 62) ≤ j ∧ j < 2 ^ 62) ∧ R (Itr i (j - i).toNat) H) := rfl
theorem r_ulist : (uList K (.ref a) H R) = ((∃ xs, SqL K H a xs) ∧ R (Itl K a) H) := rfl
theorem r_utup : (uTupI K (.ref a) H R) = ((∃ xs, SqT K H a xs) ∧ R (Itt K a) H) := rfl
theorem r_ustr : (uStrI (.str z) H R) = (R (Its z) H) := rfl
end

/-- a comprehension's turns over J; the list is at l -/
def tCL (J : It) (g : TG) (tt : TT) (te : TE) (l : Addr) (Q : VK) (τ : St) (H : Hp) : Prop := ∃ W : Nat → Nat → St → Hp → Prop, (∃ m, W 0 m τ H) ∧
  ∀ i m τ H, W i m τ H → (J.stop i H ∧ Q (.ref l) H) ∨ (J.go i H ∧ ∀ x H', J.yld i H x H' → g x τ H' fun τ2 H2 => tt τ2 H2 fun ok H3 =>
    if ok = true then te τ2 H3 fun y H4 => ∃ ys, H4 l = some (.lst ys) ∧ ys.length < sizeLine ∧ ∃ m', m' < m ∧ W (i + 1) m' τ2 (upd H4 l (.lst (ys ++ [y]))) else ∃ m', m' < m ∧ W (i + 1) m' τ2 H3)
theorem r_comp {nt : Nat} {frs : List (Str × Nat)} {wi : TI} {g : TG} {tt : TT} {te : TE} {σ : St} {H : Hp} {Q : VK} : (tComp nt frs wi g tt te σ H Q) = (wi σ H fun J H1 => ∀ l, H1 l = none → tCL J g tt te l Q (compStart nt frs σ) (upd H1 l (.lst []))) := rfl

/-- readings go with a weaker wish -/
def MonoT (tt : TT) : Prop := ∀ σ H (Q Q' : Bool → Hp → Prop), (∀ b H1, Q b H1 → Q' b H1) → tt σ H Q → tt σ H Q'
theorem cl_of {J : It} {n : Nat} {g : TG} {tt : TT} {te : TE} {l : Addr} {Q : VK} {τ : St} {H : Hp} (Pv : Nat → St → Hp → Prop) (h0 : Pv 0 τ H) (hgo : ∀ i τ H, i < n → Pv i τ H → J.go i H) (hst : ∀ τ H, Pv n τ H → J.stop n H)
    (hs : ∀ i τ H x H', i < n → Pv i τ H → J.yld i H x H' → g x τ H' fun τ2 H2 => tt τ2 H2 fun ok H3 =>
      if ok = true then te τ2 H3 fun y H4 => ∃ ys, H4 l = some (.lst ys) ∧ ys.length < sizeLine ∧ ∃ m', m' < n - i ∧ (m' = n - (i + 1) ∧ i + 1 ≤ n ∧ Pv (i + 1) τ2 (upd H4 l (.lst (ys ++ [y])))) else ∃ m', m' < n - i ∧ (m' = n - (i + 1) ∧ i + 1 ≤ n ∧ Pv (i + 1) τ2 H3))
    (hd : ∀ τ H, Pv n τ H → Q (.ref l) H) : tCL J g tt te l Q τ H := by
  refine ⟨fun i m τ H => m = n - i ∧ i ≤ n ∧ Pv i τ H, ⟨n, by simp, Nat.zero_le _, h0⟩, ?_⟩
  rintro i m τ H ⟨rfl, hi, p⟩
  by_cases hlt : i < n
  · exact .inr ⟨hgo i τ H hlt p, fun x H' y => hs i τ H x H' hlt p y⟩
  · have e : i = n := by omega
    subst e
    exact .inl ⟨hst τ H p, hd τ H p⟩
/-- the turn's end in cl_of -/
theorem cl_end {n i : Nat} {Pv : Prop} (hi : i < n) (h : Pv) : ∃ m', m' < n - i ∧ (m' = n - (i + 1) ∧ i + 1 ≤ n ∧ Pv) := ⟨_, by omega, rfl, hi, h⟩

/-! a display of texts -/
def strsIn : List Expr → Option (List Str)
  | [] => some []
  | .Constant (.str x) _ _ :: r => (strsIn r).map (x :: ·)
  | _ => none
def tConst (vs : List V) : TA := fun _ H L => L vs H
theorem r_const {vs : List V} {σ : St} {H : Hp} {L : List V → Hp → Prop} : (tConst vs σ H L) = (L vs H) := rfl
/-! small words -/
theorem Same.upd_new {H : Hp} {l : Addr} {o : HO} (h : H l = none) : Same H (upd H l o) := fun b u e => by rw [upd_ne (ne_of_none e h)]; exact e
theorem Same.upd_in {H H' : Hp} {l : Addr} {o : HO} (s : Same H H') (h : H l = none) : Same H (upd H' l o) := fun b u e => by rw [upd_ne (ne_of_none e h)]; exact s b u e
theorem Same.sq {K : PySem.W.Frag} {H H' : Hp} {a : Addr} {xs : List V} (e : Same H H') (h : SqT K H a xs) : SqT K H' a xs := by
  rcases h with (h | ⟨o, h⟩) | h
  · exact .inl (.inl (e _ _ h))
  · exact .inl (.inr ⟨o, e _ _ h⟩)
  · exact .inr h
theorem atI_lt {α : Type} {xs : List α} {i : Int} (h0 : 0 ≤ i) (h : i < xs.length) : ∃ v, atI xs i = some v ∧ xs[i.toNat]? = some v := by
  have hlt : i.toNat < xs.length := by omega
  refine ⟨xs[i.toNat], ?_, List.getElem?_eq_getElem hlt⟩
  have e : (i.toNat : Int) = i := by omega
  have h := atI_nat (List.getElem?_eq_getElem hlt)
  rw [e] at h
  exact h
theorem atI_ints {ns : List Int} {i : Int} (h0 : 0 ≤ i) (h : i < ns.length) : ∃ z, atI (ns.map V.int) i = some (.int z) ∧ ns[i.toNat]? = some z := by
  obtain ⟨v, h1, h2⟩ := atI_lt (xs := ns.map V.int) h0 (by simpa using h)
  rw [List.getElem?_map] at h2
  cases e : ns[i.toNat]? with
  | none => rw [e] at h2; cases h2
  | some z => rw [e] at h2; cases h2; exact ⟨z, h1, rfl⟩
end L2
namespace L2
open PySem PySem.Spec PyProof.Rows
section
variable {P : Program} {w : World} {K : PySem.W.Frag} {mg : Str → Option Value} {base : Heap}
/-- the rule for a def, its scope and its body written out once -/
theorem Fun.ok2 {x qual : Str} {st : Stmt} {f : Addr} {fd : FuncData} {N ps : List Str} {k : Nat} {sp : Sp} {sc : Scope} {body : List Stmt} (F : Fun K x qual st f fd) (hs : defScope st = sc) (hb : defBody st = body) (S : FnScope N ps (defScope st)) (len : ∀ vs H Q E, sp vs H Q E → vs.length = ps.length)
    (hbody : FnScope N ps sc → ∀ (cdv : Value) (A : Around) (outer : List Env) (s : Shared) (H : Hp) (vs : List V) (Q : VK) (E : XK), Room k (A.deeper (envOfC qual sc s.heap.objs.size f cdv)) → sp vs H Q E →
      ∃ t, PSs (cxOf CX0 P w K mg base N qual sc f cdv A outer s H E).nox body t ∧ t { nx := fun _ H' => Q .non H', rt := Q } (L2.start N vs) H) : FnOk P w K mg base CX0 (k + 1) f fd ps sp := by
  subst hs hb
  exact F.ok S len (hbody S)
end
end L2
namespace L2
open PySem PySem.Spec PyProof.Rows
section
variable {P : Program} {w : World} {K : PySem.W.Frag} {mg : Str → Option Value} {base : Heap}
/-- a def that gives a new list of written texts -/
def spStrs (xs : List Str) : Sp := fun vs H Q _ => vs = [] ∧ ∀ l, H l = none → Q (.ref l) (upd H l (.lst (xs.map V.str)))
end
end L2
namespace L2
open PySem
section
variable {X : Cx} (K : PySem.W.Frag) (h : X.K = K)
include h
theorem k_ix : IxR X (uIx K) := h ▸ o_ix
end
end L2

set_option Elab.async false
set_option linter.all false
set_option maxRecDepth 100000
set_option maxHeartbeats 4000000
/-! deep data, equality of it, sum, great products, comprehensions over a range and over a list -/
namespace L2
open PySem PySem.Spec PyProof.Rows

mutual
/-- plain data at a value -/
inductive Rep (K : PySem.W.Frag) (H : Hp) : PyData → V → Prop
  | non : Rep K H .none .non
  | bl (b : Bool) : Rep K H (.bool b) (.bl b)
  | int (i : Int) : Rep K H (.int i) (.int i)
  | str (x : Str) : Rep K H (.str x) (.str x)
  | tup {a : Addr} {xs : List V} {ds : List PyData} : SqT K H a xs → Reps K H ds xs → Rep K H (.tuple ds) (.ref a)
  | lst {a : Addr} {xs : List V} {ds : List PyData} : SqL K H a xs → Reps K H ds xs → Rep K H (.list ds) (.ref a)
inductive Reps (K : PySem.W.Frag) (H : Hp) : List PyData → List V → Prop
  | nil : Reps K H [] []
  | cons {d : PyData} {v : V} {ds : List PyData} {vs : List V} : Rep K H d v → Reps K H ds vs → Reps K H (d :: ds) (v :: vs)
end
section
variable {K : PySem.W.Frag} {H H' : Hp}
mutual
theorem Rep.same (e : Same H H') : ∀ {d : PyData} {v : V}, Rep K H d v → Rep K H' d v
  | _, _, .non => .non
  | _, _, .bl b => .bl b
  | _, _, .int i => .int i
  | _, _, .str x => .str x
  | _, _, .tup h r => .tup (e.sq h) (Reps.same e r)
  | _, _, .lst h r => .lst (e.seq h) (Reps.same e r)
theorem Reps.same (e : Same H H') : ∀ {ds : List PyData} {vs : List V}, Reps K H ds vs → Reps K H' ds vs
  | _, _, .nil => .nil
  | _, _, .cons h r => .cons (Rep.same e h) (Reps.same e r)
end
theorem Reps.length : ∀ {ds : List PyData} {vs : List V}, Reps K H ds vs → ds.length = vs.length
  | _, _, .nil => rfl
  | _, _, .cons _ r => by rw [List.length_cons, List.length_cons, r.length]
theorem Reps.app : ∀ {ds es : List PyData} {vs us : List V}, Reps K H ds vs → Reps K H es us → Reps K H (ds ++ es) (vs ++ us)
  | _, _, _, _, .nil, s => s
  | _, _, _, _, .cons h r, s => .cons h (Reps.app r s)
theorem Reps.one {d : PyData} {v : V} (h : Rep K H d v) : Reps K H [d] [v] := .cons h .nil
theorem Reps.get : ∀ {ds : List PyData} {vs : List V} {i : Nat} {v : V}, Reps K H ds vs → vs[i]? = some v → ∃ d, ds[i]? = some d ∧ Rep K H d v
  | _, _, _, _, .nil, e => by simp at e
  | _, _, 0, _, .cons h _, e => by simp at e; subst e; exact ⟨_, rfl, h⟩
  | _, _, i + 1, _, .cons _ r, e => by simp at e; simpa using Reps.get r e
theorem Reps.get' : ∀ {ds : List PyData} {vs : List V} {i : Nat} {d : PyData}, Reps K H ds vs → ds[i]? = some d → ∃ v, vs[i]? = some v ∧ Rep K H d v
  | _, _, _, _, .nil, e => by simp at e
  | _, _, 0, _, .cons h _, e => by simp at e; subst e; exact ⟨_, rfl, h⟩
  | _, _, i + 1, _, .cons _ r, e => by simp at e; simpa using Reps.get' r e
theorem Reps.ints : ∀ {ns : List Int}, Reps K H (ns.map PyData.int) (ns.map V.int)
  | [] => .nil
  | n :: ns => .cons (.int n) Reps.ints
theorem Rep.ints {a : Addr} {ns : List Int} (h : SqL K H a (ns.map V.int)) : Rep K H (.list (ns.map PyData.int)) (.ref a) := .lst h Reps.ints
theorem eqvAll_ints : ∀ ns ms : List Int, PyData.eqvAll (ns.map PyData.int) (ms.map PyData.int) = decide (ns = ms)
  | [], [] => rfl
  | [], _ :: _ => rfl
  | _ :: _, [] => rfl
  | n :: ns, m :: ms => by
    simp only [List.map_cons, PyData.eqvAll, PyData.eqv, eqvAll_ints ns ms]
    rw [Bool.eq_iff_iff]
    simp
theorem eqv_ints (ns ms : List Int) : PyData.eqv (.list (ns.map PyData.int)) (.list (ms.map PyData.int)) = decide (ns = ms) := by
  rw [PyData.eqv]; exact eqvAll_ints ns ms
theorem canLay_ints : ∀ ns : List Int, PyData.canLayAll0 (ns.map PyData.int) = true
  | [] => rfl
  | _ :: ns => by simp only [List.map_cons, PyData.canLayAll0, canLay_ints ns, PyData.canLay0, Bool.and_true]
theorem depth_ints : ∀ ns : List Int, PyData.depthAll (ns.map PyData.int) ≤ 1
  | [] => by simp [PyData.depthAll]
  | _ :: ns => by
    have := depth_ints ns
    simp only [List.map_cons, PyData.depthAll, PyData.depth]
    omega
end
section
variable {X : Cx} {pins : List (Addr × Obj)} {σ : St} {H : Hp} {s : Shared}
mutual
theorem Rep.reads (I : Inv X pins σ H s) : ∀ {d : PyData} {v : V} {u : Value}, Rep X.K H d v → RelV v u → ∃ as, Reads s.heap u d as
  | _, _, _, .non, r => by cases r; exact ⟨_, .none⟩
  | _, _, _, .bl b, r => by cases r; exact ⟨_, .bool b⟩
  | _, _, _, .int i, r => by obtain ⟨t, rfl⟩ := r; exact ⟨_, .int i t⟩
  | _, _, _, .str x, r => by obtain ⟨t, rfl⟩ := r; exact ⟨_, .str x t⟩
  | _, _, _, .tup h q, r => by
    cases r
    obtain ⟨its, rv, ⟨o, e, c, n, d⟩, hz⟩ := I.tuple h
    obtain ⟨as, ra⟩ := Reps.reads I q rv
    exact ⟨_, .tuple e c d (by simpa using ra)⟩
  | _, _, _, .lst h q, r => by
    cases r
    obtain ⟨its, rv, ⟨o, n, e, c, _, d⟩, hz⟩ := I.list h
    obtain ⟨as, ra⟩ := Reps.reads I q rv
    exact ⟨_, .list e c d (by simpa using ra)⟩
theorem Reps.reads (I : Inv X pins σ H s) : ∀ {ds : List PyData} {vs : List V} {us : List Value}, Reps X.K H ds vs → Vals vs us → ∃ as, ReadsAll s.heap us ds as
  | _, _, _, .nil, r => by cases r; exact ⟨_, .nil⟩
  | _, _, _, .cons h q, r => by
    cases r with
    | cons r0 r1 =>
      obtain ⟨as, ra⟩ := Rep.reads I h r0
      obtain ⟨bs, rb⟩ := Reps.reads I q r1
      exact ⟨_, .cons ra rb⟩
end
/-- x == y of deep data -/
def rEqD (K : PySem.W.Frag) (ne : Bool) : R2 := fun x y H Q => ∃ d e, Rep K H d x ∧ Rep K H e y ∧ d.canLay0 = true ∧ e.canLay0 = true ∧ d.depth ≤ 190 ∧ Q (.bl (if ne then !PyData.eqv d e else PyData.eqv d e)) H
theorem op_eqD (hu : X.A.units + 200 < cLine) : OpR X (compareOp .Eq) (rEqD X.K false) := by
  intro pins s σ H x y v u Q I rx ry h
  obtain ⟨d, e, h1, h2, c1, c2, dp, q⟩ := h
  obtain ⟨as, ra⟩ := Rep.reads I h1 rx
  obtain ⟨bs, rb⟩ := Rep.reads I h2 ry
  refine SeqAt.compareEq_reads ra rb c1 c2 ?_ ⟨.bl _, H, I, rfl, q⟩
  have : min d.depth e.depth ≤ d.depth := Nat.min_le_left _ _
  omega
theorem op_neD (hu : X.A.units + 200 < cLine) : OpR X (compareOp .NotEq) (rEqD X.K true) := by
  intro pins s σ H x y v u Q I rx ry h
  obtain ⟨d, e, h1, h2, c1, c2, dp, q⟩ := h
  obtain ⟨as, ra⟩ := Rep.reads I h1 rx
  obtain ⟨bs, rb⟩ := Rep.reads I h2 ry
  refine SeqAt.compareNe_reads ra rb c1 c2 ?_ ⟨.bl _, H, I, rfl, q⟩
  have : min d.depth e.depth ≤ d.depth := Nat.min_le_left _ _
  omega
def uEqD (K : PySem.W.Frag) : R2 := fun x y H Q => match x, y with
  | .ref a, y => rEqD K false (.ref a) y H Q
  | x, .ref b => rEqD K false x (.ref b) H Q
  | x, y => uEq x y H Q
def uNeD (K : PySem.W.Frag) : R2 := fun x y H Q => match x, y with
  | .ref a, y => rEqD K true (.ref a) y H Q
  | x, .ref b => rEqD K true x (.ref b) H Q
  | x, y => uNe x y H Q
theorem o_eqD {k : Nat} (hr : Room k X.A) : OpR X (compareOp .Eq) (uEqD X.K) := ((op_eqD (by have := hr.un; omega)).or o_eq).imp fun x y H Q q => by
  unfold uEqD at q
  split at q
  · exact .inl q
  · exact .inl q
  · exact .inr q
theorem o_neD {k : Nat} (hr : Room k X.A) : OpR X (compareOp .NotEq) (uNeD X.K) := ((op_neD (by have := hr.un; omega)).or o_ne).imp fun x y H Q q => by
  unfold uNeD at q
  split at q
  · exact .inl q
  · exact .inl q
  · exact .inr q
theorem k_eqD (K : PySem.W.Frag) (h : X.K = K) {k : Nat} (hr : Room k X.A) : OpR X (compareOp .Eq) (uEqD K) := h ▸ o_eqD hr
end
section
variable {K : PySem.W.Frag} {H : Hp} {Q : VK} {a b : Addr} {i j : Int} {x y : Str} {k l : Bool} {v : V}
theorem r_eqDrr : (uEqD K (.ref a) (.ref b) H Q) = (∃ d e, Rep K H d (.ref a) ∧ Rep K H e (.ref b) ∧ d.canLay0 = true ∧ e.canLay0 = true ∧ d.depth ≤ 190 ∧ Q (.bl (PyData.eqv d e)) H) := rfl
theorem r_neDrr : (uNeD K (.ref a) (.ref b) H Q) = (∃ d e, Rep K H d (.ref a) ∧ Rep K H e (.ref b) ∧ d.canLay0 = true ∧ e.canLay0 = true ∧ d.depth ≤ 190 ∧ Q (.bl (!PyData.eqv d e)) H) := rfl
theorem r_eqDii : (uEqD K (.int i) (.int j) H Q) = (Q (.bl (decide (i = j))) H) := rfl
theorem r_neDii : (uNeD K (.int i) (.int j) H Q) = (Q (.bl (!decide (i = j))) H) := rfl
theorem r_eqDss : (uEqD K (.str x) (.str y) H Q) = (Q (.bl (decide (x = y))) H) := rfl
theorem r_neDss : (uNeD K (.str x) (.str y) H Q) = (Q (.bl (!decide (x = y))) H) := rfl
theorem r_eqDbb : (uEqD K (.bl k) (.bl l) H Q) = (Q (.bl (decide (k = l))) H) := rfl
theorem r_neDbb : (uNeD K (.bl k) (.bl l) H Q) = (Q (.bl (!decide (k = l))) H) := rfl
end

/-! sum -/
def uSum (K : PySem.W.Frag) : List V → Hp → VK → Prop := fun xs H Q => match xs with
  | [.ref p] => ∃ ns : List Int, SqL K H p (ns.map V.int) ∧ Q (.int ns.sum) H
  | _ => False
theorem r_sum {K : PySem.W.Frag} {p : Addr} {H : Hp} {Q : VK} : (uSum K [.ref p] H Q) = (∃ ns : List Int, SqL K H p (ns.map V.int) ∧ Q (.int ns.sum) H) := rfl
theorem preSum_eq (ns : List Int) : ∀ n, n ≤ ns.length → preSum (fun i => ns.getD i 0) n = (ns.take n).sum
  | 0, _ => by simp [preSum]
  | n + 1, h => by
    rw [preSum, preSum_eq ns n (by omega), List.take_add_one, List.getElem?_eq_getElem (by omega), List.sum_append]
    simp [List.getD_eq_getElem?_getD, List.getElem?_eq_getElem (show n < ns.length by omega)]
theorem c_sum {X : Cx} (hc : X.calm = true) : CallR X (.builtin "sum") (uSum X.K) := by
  intro pins s σ H xs us Q I r h
  unfold uSum at h
  split at h
  · rename_i p
    obtain ⟨ns, hl, q⟩ := h
    obtain ⟨u, rfl, ru⟩ := r.one
    cases ru
    obtain ⟨its, rv, pl, hz⟩ := I.list hl
    refine call_sum_walkAnyS (wpAny_pyIter_list pl.isList ?_)
    have hne : p ≠ s.heap.objs.size := Nat.ne_of_lt (by obtain ⟨o, n, e, _⟩ := pl; exact Heap.lt_size e)
    have hlen : its.toArray.size = ns.length := by have := rv.length; simp at this; simp; omega
    refine ⟨s.heap.objs.size, _, _, _, _, _, _, fun i => ns.getD i 0, rfl, (Walks.list (show X.A.in1.handled = none from I.ok.hd hc) s.heap.objs.size p hne its.toArray).toS, ⟨⟨_, Heap.get?_push_size _ rfl, rfl, rfl⟩, pl.isList.at fun o e => Heap.get?_push_of_some _ e⟩, ?_, ?_, fun s' t' hm => ?_⟩
    · intro b hb
      have hp : p < s.heap.objs.size := by obtain ⟨o, n, e, _⟩ := pl; exact Heap.lt_size e
      rw [Heap.size_push]
      rcases List.mem_cons.mp hb with rfl | hb
      · exact Nat.lt_succ_self _
      · have : b = p := by simpa using hb
        subst this
        exact Nat.lt_succ_of_lt hp
    · intro i v hv
      have hv' : its[i]? = some v := by simpa using hv
      cases e : (ns.map V.int)[i]? with
      | none =>
        have := rv.none_of e
        rw [this] at hv'; cases hv'
      | some y =>
        obtain ⟨u, hu, ru⟩ := rv.get e
        rw [hv'] at hu; cases hu
        rw [List.getElem?_map] at e
        cases eb : ns[i]? with
        | none => rw [eb] at e; cases e
        | some b =>
          rw [eb] at e
          cases e
          obtain ⟨t, rfl⟩ := ru
          exact ⟨t, by dsimp only; rw [List.getD_eq_getElem?_getD, eb]; rfl⟩
    · have e : preSum (fun i => ns.getD i 0) its.toArray.size = ns.sum := by
        rw [hlen, preSum_eq ns _ (Nat.le_refl _), List.take_length]
      rw [e]
      have hI : Inv X pins σ H { s with heap := s'.heap, toks := s'.toks } := I.kept (t' := s'.toks) fun b o e => hm.heap b o (by simp; exact Nat.ne_of_lt (Heap.lt_size e)) (Heap.get?_push_of_some _ e)
      have es : ({ s with heap := s'.heap, toks := s'.toks } : Shared) = s' := by
        have h1 := hm.gens
        have h2 := hm.drawn
        have h3 := hm.os
        cases s'
        simp only at h1 h2 h3
        subst h1 h2 h3
        rfl
      rw [es] at hI
      exact ⟨.int _, H, hI, ⟨_, rfl⟩, q⟩
  · exact h.elim
theorem k_sum {X : Cx} (K : PySem.W.Frag) (h : X.K = K) (hc : X.calm = true) : CallR X (.builtin "sum") (uSum K) := h ▸ c_sum hc

/-! products of great numbers -/
def uMulB : R2 := fun x y H Q => match x, y with
  | .int i, .int j => IntMulOk i j ∧ Q (.int (i * j)) H
  | .ref a, .int k => rRep (.ref a) (.int k) H Q
  | _, _ => False
theorem op_mulB {X : Cx} : OpR X (binaryOp .Mult) (fun x y H Q => ∃ i j, x = .int i ∧ y = .int j ∧ IntMulOk i j ∧ Q (.int (i * j)) H) := by
  intro pins s σ H x y v u Q I rx ry h
  obtain ⟨i, j, rfl, rfl, hm, q⟩ := h
  obtain ⟨t, rfl⟩ := rx
  obtain ⟨t', rfl⟩ := ry
  exact PyProof.Rows.mul_int ⟨.int _, H, I.tok _, ⟨_, rfl⟩, q⟩ hm
theorem o_mulB {X : Cx} : OpR X (binaryOp .Mult) uMulB := (op_mulB.or op_rep).imp fun x y H Q q => by
  unfold uMulB at q
  split at q
  · exact .inl ⟨_, _, rfl, rfl, q.1, q.2⟩
  · exact .inr q
  · exact q.elim
theorem r_mulB {i j : Int} {H : Hp} {Q : VK} : (uMulB (.int i) (.int j) H Q) = (IntMulOk i j ∧ Q (.int (i * j)) H) := rfl
/-- both factors of at most a thousand thousands of bits -/
theorem mul_ok {i j : Int} {m n : Nat} (hi : i.natAbs < 2 ^ m) (hj : j.natAbs < 2 ^ n) (h : m + n ≤ 1000000) : IntMulOk i j := by
  have bits : ∀ {k : Int} {m : Nat}, k.natAbs < 2 ^ m → Builtin.Int.intBits k ≤ m := by
    intro k m hk
    unfold Builtin.Int.intBits
    split
    · exact Nat.zero_le _
    · rename_i h0
      have hne : k.natAbs ≠ 0 := by
        intro e
        apply h0
        have : k = 0 := by omega
        simp [this]
      have := (Nat.log2_lt hne).mpr hk
      omega
  exact mulOk_of_bits (bits hi) (bits hj) (by omega)
theorem mul_small {i j : Int} (h : CMul i j) : IntMulOk i j := h.ok

/-! a, b = x, y -/
theorem r_par {i j : Nat} {ta : TA} {D : Ends} {σ : St} {H : Hp} : (tPar i j ta D σ H) = (ta σ H fun vs H1 => ∃ v w, vs = [v, w] ∧ D.nx ((σ.set i (some v)).set j (some w)) H1) := rfl
theorem r_two {v w : V} {F : V → V → Prop} : (∃ a b, [v, w] = [a, b] ∧ F a b) = (F v w) := propext ⟨fun ⟨a, b, e, h⟩ => by injection e with e1 e2; injection e2 with e2 _; subst e1 e2; exact h, fun h => ⟨_, _, rfl, h⟩⟩

/-! comprehensions -/
section
variable {K : PySem.W.Frag} {tt : TT} {te : TE} {l : Addr} {Q : VK} {fr : St} {H : Hp} {k0 : Option V}
/-- over a range -/
theorem cl_rng {lo : Int} {n : Nat} (p : Nat → Bool) (f : Nat → V) (hl : H l = none) (hn : n ≤ 1000)
    (hs : ∀ i H2, i < n → Same H H2 → ∀ (Cy : V → Hp → Prop) (Cn : Hp → Prop), (p i = true → ∀ H3, Same H2 H3 → Cy (f i) H3) → (p i = false → ∀ H3, Same H2 H3 → Cn H3) →
      tt (some (.int (lo + i)) :: fr) H2 fun ok H3 => if ok = true then te (some (.int (lo + i)) :: fr) H3 Cy else Cn H3)
    (hd : ∀ H2, Same H H2 → H2 l = some (.lst (((List.range n).filter p).map f)) → Q (.ref l) H2) :
    tCL (Itr lo n) (gName 0) tt te l Q (k0 :: fr) (upd H l (.lst [])) := by
  refine cl_of (n := n) (fun i τ H2 => ∃ k, τ = k :: fr ∧ Same H H2 ∧ H2 l = some (.lst (((List.range i).filter p).map f))) ⟨_, rfl, Same.upd_new hl, upd_same⟩ (fun i τ H2 hi _ => hi) (fun τ H2 _ => Nat.le_refl _) ?_ ?_
  · rintro i τ H2 v H3 hi ⟨k, rfl, hs2, hl2⟩ ⟨rfl, rfl⟩
    have hlen : (((List.range i).filter p).map f).length ≤ i := by
      rw [List.length_map]
      exact Nat.le_trans (List.length_filter_le ..) (by simp)
    refine hs i _ hi hs2 _ _ (fun hp H3 h3 => ?_) (fun hp H3 h3 => ?_)
    · refine ⟨_, h3 _ _ hl2, small1000 (by omega), cl_end hi ⟨_, rfl, (hs2.trans h3).upd_in hl, ?_⟩⟩
      rw [upd_same, List.range_succ, List.filter_append, List.map_append]
      simp [hp]
    · refine cl_end hi ⟨_, rfl, hs2.trans h3, ?_⟩
      rw [h3 _ _ hl2, List.range_succ, List.filter_append, List.map_append]
      simp [hp]
  · rintro τ H2 ⟨k, rfl, hs2, hl2⟩
    exact hd H2 hs2 hl2
/-- over a list that stays -/
theorem cl_lst {a : Addr} {xs : List V} (p : V → Bool) (f : V → V) (hl : H l = none) (hx : SqL K H a xs) (hn : xs.length ≤ 1000)
    (hs : ∀ x H2, x ∈ xs → Same H H2 → ∀ (Cy : V → Hp → Prop) (Cn : Hp → Prop), (p x = true → ∀ H3, Same H2 H3 → Cy (f x) H3) → (p x = false → ∀ H3, Same H2 H3 → Cn H3) →
      tt (some x :: fr) H2 fun ok H3 => if ok = true then te (some x :: fr) H3 Cy else Cn H3)
    (hd : ∀ H2, Same H H2 → H2 l = some (.lst ((xs.filter p).map f)) → Q (.ref l) H2) :
    tCL (Itl K a) (gName 0) tt te l Q (k0 :: fr) (upd H l (.lst [])) := by
  refine cl_of (n := xs.length) (fun i τ H2 => ∃ k, τ = k :: fr ∧ Same H H2 ∧ H2 l = some (.lst (((xs.take i).filter p).map f))) ⟨_, rfl, Same.upd_new hl, by rw [upd_same]; rfl⟩
    (fun i τ H2 hi ⟨k, _, hs2, _⟩ => ⟨xs, xs[i], hs2.seq hx, by simp [hi]⟩) (fun τ H2 ⟨k, _, hs2, _⟩ => ⟨xs, hs2.seq hx, Nat.le_refl _⟩) ?_ ?_
  · rintro i τ H2 v H3 hi ⟨k, rfl, hs2, hl2⟩ ⟨rfl, hv⟩
    have hv := hv xs (hs2.seq hx)
    have hm : v ∈ xs := List.mem_of_getElem? hv
    have hlen : (((xs.take i).filter p).map f).length ≤ i := by
      rw [List.length_map]
      exact Nat.le_trans (List.length_filter_le ..) (by simp; omega)
    refine hs v _ hm hs2 _ _ (fun hp H3 h3 => ?_) (fun hp H3 h3 => ?_)
    · refine ⟨_, h3 _ _ hl2, small1000 (by omega), cl_end hi ⟨_, rfl, (hs2.trans h3).upd_in hl, ?_⟩⟩
      rw [upd_same, List.take_add_one, hv, List.filter_append, List.map_append]
      simp [hp]
    · refine cl_end hi ⟨_, rfl, hs2.trans h3, ?_⟩
      rw [h3 _ _ hl2, List.take_add_one, hv, List.filter_append, List.map_append]
      simp [hp]
  · rintro τ H2 ⟨k, rfl, hs2, hl2⟩
    rw [List.take_length] at hl2
    exact hd H2 hs2 hl2
end
/-! free names of a comprehension -/
theorem allm_cons {α : Type} {P : α → Prop} {a : α} {l : List α} (h : P a) (t : ∀ p ∈ l, P p) : ∀ p ∈ a :: l, P p := fun p hp => by
  rcases List.mem_cons.mp hp with rfl | hp
  · exact h
  · exact t p hp
theorem allm_nil {α : Type} {P : α → Prop} : ∀ p ∈ ([] : List α), P p := fun _ z => nomatch z
theorem free_has {scope : Scope} {env : Env} {names : List (Str × NameKind)} {cl : List (Str × Addr)} (h : (relabel scope env).names = names) (h2 : (names.all fun p => (p.2 != .cell && p.2 != .free) || (cl.lookup p.1).isSome) = true) :
    ∀ p ∈ (relabel scope env).names, p.2 = .cell ∨ p.2 = .free → (cl.lookup p.1).isSome = true := by
  intro p hp hk
  rw [h] at hp
  have := List.all_eq_true.mp h2 p hp
  rcases hk with e | e
  · rw [e] at this; simpa using this
  · rw [e] at this; simpa using this
/-! while, by a word and a measure, nothing asked of the test's reading -/
def whN (Pv : St → Hp → Prop) (μ : St → Hp → Nat) (tb : TS) (D : Ends) (k : Nat) (σ : St) (H1 : Hp) : Prop := ∃ N : St → Hp → Prop, (∀ σ' H', N σ' H' → ∃ m', m' < k ∧ (m' = μ σ' H' ∧ Pv σ' H')) ∧ tb { D with nx := N, ct := N, bk := D.nx } σ H1
theorem wh_go {Pv : St → Hp → Prop} {μ : St → Hp → Nat} {tb : TS} {D : Ends} {k : Nat} {σ : St} {H1 : Hp} (h : tb { D with nx := fun σ' H' => Pv σ' H' ∧ μ σ' H' < k, ct := fun σ' H' => Pv σ' H' ∧ μ σ' H' < k, bk := D.nx } σ H1) : whN Pv μ tb D k σ H1 :=
  ⟨_, fun σ' H' ⟨p, l⟩ => ⟨_, l, rfl, p⟩, h⟩
theorem while_of {c : TT} {tb : TS} {D : Ends} {σ : St} {H : Hp} (Pv : St → Hp → Prop) (μ : St → Hp → Nat) (h0 : Pv σ H)
    (hs : ∀ σ H, Pv σ H → c σ H fun b H1 => if b = true then whN Pv μ tb D (μ σ H) σ H1 else D.nx σ H1) : tWhile c tb D σ H := by
  refine ⟨fun m σ H => m = μ σ H ∧ Pv σ H, ⟨_, rfl, h0⟩, ?_⟩
  rintro m σ H ⟨rfl, p⟩
  exact hs σ H p
/-! list + list, whatever lists -/
section
variable {X : Cx}
def rCatL (K : PySem.W.Frag) : R2 := fun x y H Q => ∃ l b xs zs, x = .ref l ∧ y = .ref b ∧ SqL K H l xs ∧ SqL K H b zs ∧ xs.length + zs.length ≤ sizeLine ∧ ∀ p, H p = none → Q (.ref p) (upd H p (.lst (xs ++ zs)))
theorem op_catL : OpR X (binaryOp .Add) (rCatL X.K) := by
  intro pins s σ H x y v u Q I rx ry h
  obtain ⟨l, b, xs, zs, rfl, rfl, hH, hB, hz, q⟩ := h
  cases rx
  cases ry
  obtain ⟨its, r, pl, z1⟩ := I.list hH
  obtain ⟨its2, r2, pl2, z2⟩ := I.list hB
  have hl := r.length
  have hl2 := r2.length
  obtain ⟨⟨cls, dd, data, sl⟩, ho, hc, n, hd⟩ := id pl.isList
  obtain ⟨⟨cls2, dd2, data2, sl2⟩, ho2, hc2, n2, hd2⟩ := id pl2.isList
  simp only at hc hd hc2 hd2
  subst hc hd hc2 hd2
  have e : its.toArray ++ its2.toArray = (its ++ its2).toArray := by simp
  refine concat_meets ⟨_, ho, rfl⟩ ⟨_, ho2, rfl⟩ noFill_list_add seq_list_add PySem.F.slot_list_add PySem.F.entry_list_add (PySem.F.args_list_add_2 _ _) (PyProof.Rows.list_addW l b its.toArray its2.toArray n n2 dd dd2 sl sl2 (by rw [List.size_toArray, List.size_toArray]; omega)) ⟨ho, ho2, ?_⟩
  rw [e]
  exact ⟨.ref _, _, I.lnew (t' := s.toks) (r.append r2) (by rw [List.length_append]; omega), rfl, q _ I.fresh⟩
def uAddL (K : PySem.W.Frag) : R2 := fun x y H Q => match x, y with
  | .int i, .int j => Q (.int (i + j)) H
  | .str i, .str j => i.length + j.length ≤ sizeLine ∧ Q (.str (i ++ j)) H
  | .ref a, .ref b => (∃ xs zs, SqL K H a xs ∧ SqL K H b zs ∧ xs.length + zs.length ≤ sizeLine ∧ ∀ p, H p = none → Q (.ref p) (upd H p (.lst (xs ++ zs)))) ∨ rCatT K (.ref a) (.ref b) H Q
  | _, _ => False
theorem o_addL : OpR X (binaryOp .Add) (uAddL X.K) := ((op_add.or op_add_str).or (op_catL.or op_catT)).imp fun x y H Q q => by
  unfold uAddL at q
  split at q
  · exact .inl (.inl ⟨_, _, rfl, rfl, q⟩)
  · exact .inl (.inr ⟨_, _, rfl, rfl, q.1, q.2⟩)
  · rcases q with ⟨xs, zs, h1, h2, h3, h4⟩ | q
    · exact .inr (.inl ⟨_, _, xs, zs, rfl, rfl, h1, h2, h3, h4⟩)
    · exact .inr (.inr q)
  · exact q.elim
theorem k_addL (K : PySem.W.Frag) (h : X.K = K) : OpR X (binaryOp .Add) (uAddL K) := h ▸ o_addL
end
section
variable {K : PySem.W.Frag} {H : Hp} {Q : VK} {a b : Addr} {i j : Int} {x y : Str}
theorem r_addLi : (uAddL K (.int i) (.int j) H Q) = (Q (.int (i + j)) H) := rfl
theorem r_addLs : (uAddL K (.str x) (.str y) H Q) = (x.length + y.length ≤ sizeLine ∧ Q (.str (x ++ y)) H) := rfl
theorem r_addLr : (uAddL K (.ref a) (.ref b) H Q) = ((∃ xs zs, SqL K H a xs ∧ SqL K H b zs ∧ xs.length + zs.length ≤ sizeLine ∧ ∀ p, H p = none → Q (.ref p) (upd H p (.lst (xs ++ zs)))) ∨ rCatT K (.ref a) (.ref b) H Q) := rfl
end
/-! a comprehension that is stored at once -/
theorem r_neg {i : Int} {H : Hp} {Q : VK} : (rU (fun i => .int (-i)) (.int i) H Q) = (Q (.int (-i)) H) := propext ⟨fun ⟨j, e, h⟩ => by cases e; exact h, fun h => ⟨i, rfl, h⟩⟩
/-! list(x), tuple(x) -/
def uListOf (K : PySem.W.Frag) : List V → Hp → VK → Prop := fun xs H Q => match xs with
  | [.ref p] => ∃ ys, Sq K H p ys ∧ ∀ l, H l = none → Q (.ref l) (upd H l (.lst ys))
  | _ => False
theorem c_list {X : Cx} : CallR X (.type "list") (uListOf X.K) := call_list_of.imp fun xs H Q q => by
  unfold uListOf at q
  split at q
  · obtain ⟨ys, h1, h2⟩ := q
    exact ⟨_, ys, rfl, h1, h2⟩
  · exact q.elim
theorem r_listof {K : PySem.W.Frag} {p : Addr} {H : Hp} {Q : VK} : (uListOf K [.ref p] H Q) = (∃ ys, Sq K H p ys ∧ ∀ l, H l = none → Q (.ref l) (upd H l (.lst ys))) := rfl
def uTupOf (K : PySem.W.Frag) : List V → Hp → VK → Prop := fun xs H Q => match xs with
  | [.ref p] => ∃ ys, ((SqL K H p ys ∧ ∀ l, H l = none → Q (.ref l) (upd H l (.tup ys))) ∨ (SqT K H p ys ∧ Q (.ref p) H))
  | _ => False
theorem r_tupof {K : PySem.W.Frag} {p : Addr} {H : Hp} {Q : VK} : (uTupOf K [.ref p] H Q) = (∃ ys, ((SqL K H p ys ∧ ∀ l, H l = none → Q (.ref l) (upd H l (.tup ys))) ∨ (SqT K H p ys ∧ Q (.ref p) H))) := rfl
/-! o[i] = v -/
theorem r_gsub {to ti : TE} {ts : TSet} {v : V} {σ : St} {H : Hp} {N : St → Hp → Prop} : (gSub to ti ts v σ H N) = (to σ H fun o H1 => ti σ H1 fun i H2 => ts o i v H2 fun H3 => N σ H3) := rfl
theorem r_setl {p : Addr} {k : Int} {v : V} {H : Hp} {N : Hp → Prop} : (rSetL (.ref p) (.int k) v H N) = (∃ xs j, H p = some (.lst xs) ∧ ixN xs.length k = some j ∧ N (upd H p (.lst (xs.set j v)))) :=
  propext ⟨fun ⟨_, xs, _, j, e1, e2, h1, h2, h3⟩ => by cases e1; cases e2; exact ⟨xs, j, h1, h2, h3⟩, fun ⟨xs, j, h1, h2, h3⟩ => ⟨_, xs, _, j, rfl, rfl, h1, h2, h3⟩⟩
end L2

set_option Elab.async false
set_option linter.all false
set_option maxRecDepth 100000
set_option maxHeartbeats 4000000
/-! mathematics: sums, lists that grow by what stands in them -/
namespace MM
/-- f 0 + .. + f (n - 1) -/
def sm (n : Nat) (f : Nat → Int) : Int := ((List.range n).map f).sum
theorem sm_zero (f : Nat → Int) : sm 0 f = 0 := rfl
theorem sm_succ (n : Nat) (f : Nat → Int) : sm (n + 1) f = sm n f + f n := by
  unfold sm
  rw [List.range_succ, List.map_append, List.sum_append]
  simp
theorem sm_congr {n : Nat} {f g : Nat → Int} (h : ∀ i, i < n → f i = g i) : sm n f = sm n g := by
  induction n with
  | zero => rfl
  | succ n ih => rw [sm_succ, sm_succ, ih fun i hi => h i (by omega), h n (by omega)]
theorem sm_nonneg {n : Nat} {f : Nat → Int} (h : ∀ i, i < n → 0 ≤ f i) : 0 ≤ sm n f := by
  induction n with
  | zero => exact Int.le_refl _
  | succ n ih =>
    rw [sm_succ]
    have := ih fun i hi => h i (by omega)
    have := h n (by omega)
    omega
theorem sm_le {n : Nat} {f : Nat → Int} {b : Int} (h : ∀ i, i < n → f i ≤ b) : sm n f ≤ n * b := by
  induction n with
  | zero => simp [sm_zero]
  | succ n ih =>
    rw [sm_succ]
    have h1 := ih fun i hi => h i (by omega)
    have h2 := h n (by omega)
    have h3 : ((n + 1 : Nat) : Int) * b = (n : Int) * b + b := by rw [Int.natCast_add, Int.add_mul]; simp
    rw [h3]; omega
/-- place i of a list, 0 behind it -/
abbrev at0 (l : List Int) (i : Nat) : Int := l.getD i 0
theorem at0_app_left {l m : List Int} {i : Nat} (h : i < l.length) : at0 (l ++ m) i = at0 l i := by
  unfold at0
  rw [List.getD_eq_getElem?_getD, List.getD_eq_getElem?_getD, List.getElem?_append_left h]
theorem at0_app_last (l : List Int) (x : Int) : at0 (l ++ [x]) l.length = x := by
  unfold at0
  rw [List.getD_eq_getElem?_getD, List.getElem?_append_right (Nat.le_refl _)]
  simp
/-- [x], and n times what f tells of the list so far and its length -/
def grow (f : List Int → Nat → Int) (x : Int) : Nat → List Int
  | 0 => [x]
  | n + 1 => grow f x n ++ [f (grow f x n) (n + 1)]
theorem grow_len (f : List Int → Nat → Int) (x : Int) : ∀ n, (grow f x n).length = n + 1
  | 0 => rfl
  | n + 1 => by rw [grow, List.length_append, grow_len f x n]; rfl
theorem grow_at (f : List Int → Nat → Int) (x : Int) : ∀ (m n : Nat), n ≤ m → at0 (grow f x m) n = at0 (grow f x n) n
  | 0, n, h => by have : n = 0 := by omega
                  rw [this]
  | m + 1, n, h => by
    by_cases e : n = m + 1
    · rw [e]
    · rw [grow, at0_app_left (by rw [grow_len]; omega), grow_at f x m n (by omega)]
theorem grow_at2 (f : List Int → Nat → Int) (x : Int) {m m' n : Nat} (h : n ≤ m) (h' : n ≤ m') : at0 (grow f x m) n = at0 (grow f x m') n := by
  rw [grow_at f x m n h, grow_at f x m' n h']
theorem grow_new (f : List Int → Nat → Int) (x : Int) {m n : Nat} (h : n + 1 ≤ m) : at0 (grow f x m) (n + 1) = f (grow f x n) (n + 1) := by
  rw [grow_at f x m (n + 1) h, grow]
  have := at0_app_last (grow f x n) (f (grow f x n) (n + 1))
  rw [grow_len] at this
  exact this
/-- the rows' next count -/
def nextRow (a : List Int) (rows : List Int) (n : Nat) : Int := sm n fun i => at0 a (1 + i) * at0 rows (n - (1 + i))
def rowsL (a : List Int) : Nat → List Int := grow (nextRow a) 1
theorem rowsL_len (a : List Int) (n : Nat) : (rowsL a n).length = n + 1 := grow_len _ _ n
/-- how great the counts can be -/
def Amt (b : Nat) (a : List Int) : Prop := 1 ≤ a.length ∧ a.length ≤ 41 ∧ at0 a 0 = 0 ∧ ∀ i, 0 ≤ at0 a i ∧ at0 a i < 2 ^ b
theorem rows_bound {b : Nat} {a : List Int} (ha : Amt b a) : ∀ (n : Nat), n ≤ 100 → ∀ i, i ≤ n → 0 ≤ at0 (rowsL a n) i ∧ at0 (rowsL a n) i ≤ 2 ^ ((b + 7) * i)
  | 0, _, i, hi => by
    have : i = 0 := by omega
    subst this
    exact ⟨by show (0 : Int) ≤ 1; decide, by rw [Nat.mul_zero]; show (1 : Int) ≤ 2 ^ 0; decide⟩
  | n + 1, hn, i, hi => by
    have ih := rows_bound ha n (by omega)
    by_cases e : i ≤ n
    · have : at0 (rowsL a (n + 1)) i = at0 (rowsL a n) i := grow_at2 _ _ (by omega) e
      rw [this]
      exact ih i e
    · have e1 : i = n + 1 := by omega
      subst e1
      have e2 : at0 (rowsL a (n + 1)) (n + 1) = nextRow a (rowsL a n) (n + 1) := grow_new _ _ (Nat.le_refl _)
      rw [e2]
      unfold nextRow
      refine ⟨sm_nonneg fun k hk => Int.mul_nonneg (ha.2.2.2 _).1 (ih _ (by omega)).1, ?_⟩
      have h1 : ∀ k, k < n + 1 → at0 a (1 + k) * at0 (rowsL a n) (n + 1 - (1 + k)) ≤ 2 ^ (b + (b + 7) * n) := fun k hk => by
        obtain ⟨p1, p2⟩ := ha.2.2.2 (1 + k)
        obtain ⟨q1, q2⟩ := ih (n + 1 - (1 + k)) (by omega)
        have q3 : (2 : Int) ^ ((b + 7) * (n + 1 - (1 + k))) ≤ 2 ^ ((b + 7) * n) := by
          have : (2 : Nat) ^ ((b + 7) * (n + 1 - (1 + k))) ≤ 2 ^ ((b + 7) * n) := Nat.pow_le_pow_right (by decide) (Nat.mul_le_mul_left _ (by omega))
          exact_mod_cast this
        rw [Int.pow_add]
        exact Int.mul_le_mul (Int.le_of_lt p2) (Int.le_trans q2 q3) q1 (Int.le_of_lt (Int.lt_of_le_of_lt p1 p2))
      refine Int.le_trans (sm_le h1) ?_
      have h2 : ((n + 1 : Nat) : Int) ≤ 2 ^ 7 := by have : ((2 : Int) ^ 7) = 128 := by decide
                                                    rw [this]; omega
      have h3 : (0 : Int) ≤ 2 ^ (b + (b + 7) * n) := by
        have : (0 : Int) ≤ ((2 ^ (b + (b + 7) * n) : Nat) : Int) := Int.natCast_nonneg _
        exact_mod_cast this
      refine Int.le_trans (Int.mul_le_mul_of_nonneg_right h2 h3) ?_
      rw [← Int.pow_add]
      have : 7 + (b + (b + 7) * n) = (b + 7) * (n + 1) := by rw [Nat.mul_add]; omega
      rw [this]
      exact Int.le_refl _
theorem abs_lt_of {x : Int} {m n : Nat} (h0 : 0 ≤ x) (h : x ≤ 2 ^ m) (hm : m < n) : x.natAbs < 2 ^ n := by
  have h1 : ((x.natAbs : Nat) : Int) = x := Int.natAbs_of_nonneg h0
  have h2 : ((x.natAbs : Nat) : Int) ≤ ((2 ^ m : Nat) : Int) := by rw [h1]; exact_mod_cast h
  have h3 : x.natAbs ≤ 2 ^ m := by exact_mod_cast h2
  exact Nat.lt_of_le_of_lt h3 (Nat.pow_lt_pow_right (by decide) hm)
end MM

set_option Elab.async false
set_option linter.all false
set_option maxRecDepth 100000
set_option maxHeartbeats 4000000
/-! mathematics: sums of sums; packing -/
namespace MM
theorem sm_zeros {n : Nat} {f : Nat → Int} (h : ∀ i, i < n → f i = 0) : sm n f = 0 := by
  rw [sm_congr (g := fun _ => 0) h]
  clear h
  induction n with
  | zero => rfl
  | succ n ih => rw [sm_succ, ih]; rfl
theorem sm_add (n : Nat) (f g : Nat → Int) : sm n (fun i => f i + g i) = sm n f + sm n g := by
  induction n with
  | zero => rfl
  | succ n ih => rw [sm_succ, sm_succ, sm_succ, ih]; omega
theorem sm_mul (n : Nat) (c : Int) (f : Nat → Int) : sm n (fun i => c * f i) = c * sm n f := by
  induction n with
  | zero => simp [sm_zero]
  | succ n ih => rw [sm_succ, sm_succ, ih, Int.mul_add]
theorem sm_mul_r (n : Nat) (c : Int) (f : Nat → Int) : sm n (fun i => f i * c) = sm n f * c := by
  rw [Int.mul_comm, ← sm_mul]
  exact sm_congr fun i _ => Int.mul_comm _ _
theorem sm_swap (m n : Nat) (F : Nat → Nat → Int) : sm m (fun i => sm n fun j => F i j) = sm n fun j => sm m fun i => F i j := by
  induction m with
  | zero => rw [sm_zero]; exact (sm_zeros fun i _ => rfl).symm
  | succ m ih =>
    rw [sm_succ, ih, ← sm_add]
    exact sm_congr fun j _ => (sm_succ m fun i => F i j).symm
/-- beyond m nothing counts -/
theorem sm_ext {m n : Nat} {f : Nat → Int} (h : m ≤ n) (z : ∀ i, m ≤ i → i < n → f i = 0) : sm n f = sm m f := by
  induction n with
  | zero => have : m = 0 := by omega
            rw [this]
  | succ n ih =>
    by_cases e : m = n + 1
    · rw [e]
    · rw [sm_succ, ih (by omega) fun i h1 h2 => z i h1 (by omega), z n (by omega) (by omega)]; omega
/-- shifted -/
theorem sm_shift (i M : Nat) (g : Nat → Int) (h : i ≤ M) : sm M (fun l => if i ≤ l then g (l - i) else 0) = sm (M - i) g := by
  induction M with
  | zero => have : i = 0 := by omega
            rw [this]; rfl
  | succ M ih =>
    by_cases e : i = M + 1
    · rw [e, Nat.sub_self, sm_zero]
      exact sm_zeros fun l hl => if_neg (by omega)
    · rw [sm_succ, ih (by omega), if_pos (by omega)]
      have : M + 1 - i = M - i + 1 := by omega
      rw [this, sm_succ]
/-- by diagonals -/
theorem sm_diag (M : Nat) (F : Nat → Nat → Int) (z : ∀ i j, M ≤ i + j → F i j = 0) : sm M (fun i => sm M fun j => F i j) = sm M fun l => sm (l + 1) fun i => F i (l - i) := by
  have h1 : ∀ i, i < M → sm M (fun j => F i j) = sm M fun l => if i ≤ l then F i (l - i) else 0 := fun i hi => by
    rw [sm_shift i M (fun j => F i j) (by omega)]
    exact sm_ext (by omega) fun j h1 _ => z i j (by omega)
  rw [sm_congr h1, sm_swap]
  refine sm_congr fun l hl => ?_
  rw [sm_ext (m := l + 1) (n := M) (by omega) fun i h1 _ => if_neg (by omega)]
  exact sm_congr fun i hi => if_pos (by omega)
/-! the ways: w 0 = 1, j w j = (m + (j - 1) t) w (j - 1) -/
/-- those of bags, of choices -/
structure Ways (t m : Int) (w : Nat → Int) : Prop where
  zero : w 0 = 1
  succ : ∀ j : Nat, ((j : Int) + 1) * w (j + 1) = (m + j * t) * w j
/-- the sign of the i-th power -/
def sgn (t : Int) (i : Nat) : Int := t ^ (i - 1)
/-- a sequence by all whole numbers, nothing below 0 -/
def Low (b : Int → Int) : Prop := ∀ z, z < 0 → b z = 0
/-- n b n is the sum of c k b (n - k), up to N -/
def Pours (M : Nat) (c : Nat → Int) (b : Int → Int) : Prop := ∀ z : Int, z < M → z * b z = sm M fun k => c k * b (z - k)
/-- m things of size s put in -/
def pack (M : Nat) (w : Nat → Int) (s : Nat) (b : Int → Int) : Int → Int := fun z => sm M fun j => w j * b (z - j * s)
/-- what one size brings -/
def brings (t m : Int) (s : Nat) (k : Nat) : Int := if s ∣ k ∧ 1 ≤ k then m * s * sgn t (k / s) else 0
/-! ways of bags and of choices -/
def mc : Nat → Nat → Nat
  | _, 0 => 1
  | 0, _ + 1 => 0
  | m + 1, j + 1 => mc m (j + 1) + mc (m + 1) j
def ch : Nat → Nat → Nat
  | _, 0 => 1
  | 0, _ + 1 => 0
  | n + 1, k + 1 => ch n k + ch n (k + 1)
/-- the ways with t = 1 or - 1 -/
def wof (t : Int) (m : Int) (j : Nat) : Int := if t = 1 then mc m.toNat j else ch m.toNat j
theorem pow2_mono {m n : Nat} (h : m ≤ n) : (2 : Int) ^ m ≤ 2 ^ n := by
  have : (2 : Nat) ^ m ≤ 2 ^ n := Nat.pow_le_pow_right (by decide) h
  exact_mod_cast this
theorem pow2_pos (m : Nat) : (0 : Int) < 2 ^ m := by
  have : (0 : Nat) < 2 ^ m := Nat.pow_pos (by decide)
  exact_mod_cast this
/-! lists as sequences -/
def hat (l : List Int) : Int → Int := fun z => if 0 ≤ z then at0 l z.toNat else 0
theorem at0_map {L n : Nat} (f : Nat → Int) (h : n < L) : at0 ((List.range L).map f) n = f n := by
  unfold at0
  rw [List.getD_eq_getElem?_getD, List.getElem?_map, List.getElem?_range h]; rfl
theorem Pours.congr {M : Nat} {c : Nat → Int} {b b' : Int → Int} (h : Pours M c b) (e : ∀ z : Int, z < M → b' z = b z) : Pours M c b' := fun z hz => by
  rw [e z hz, h z hz]
  exact sm_congr fun k _ => by rw [e (z - k) (by omega)]
/-- one size packed, as a list -/
def packL (w : Nat → Int) (s : Nat) (bs : List Int) : List Int := (List.range bs.length).map fun (n : Nat) => pack bs.length w s (hat bs) n
/-- the law's sum up to j packs -/
def part (w : Nat → Int) (s : Nat) (bs : List Int) (m n : Nat) : Int := sm (m + 1) fun j => if j * s ≤ n then w j * at0 bs (n - j * s) else 0
/-- all sizes from 1 to q packed -/
def packs (t : Int) (a : List Int) : Nat → List Int
  | 0 => 1 :: List.replicate (a.length - 1) 0
  | q + 1 => packL (wof t (at0 a (q + 1))) (q + 1) (packs t a q)
/-- what the sizes from 1 to q bring -/
def bringsL (t : Int) (a : List Int) (q k : Nat) : Int := sm q fun i => brings t (at0 a (i + 1)) (i + 1) k
/-- the program's own: n b n = the sum of c k b (n - k) -/
def pourL (c : List Int) : Nat → List Int := grow (fun cs n => (sm n fun i => at0 c (1 + i) * at0 cs (n - (1 + i))) / n) 1
/-- a sum over what a test lets through -/
theorem sum_filter (p : Nat → Bool) (f : Nat → Int) (n : Nat) : (((List.range n).filter p).map f).sum = sm n fun i => if p i = true then f i else 0 := by
  induction n with
  | zero => rfl
  | succ n ih =>
    rw [List.range_succ, List.filter_append, List.map_append, List.sum_append, ih, sm_succ]
    congr 1
    cases h : p n <;> simp [h]
end MM

set_option Elab.async false
set_option linter.all false
set_option maxRecDepth 100000
set_option maxHeartbeats 4000000
namespace L2
open PySem PySem.Spec PyProof.Rows
theorem atI_at0 {ns : List Int} {i : Int} (j : Nat) (h : i = j) (hj : j < ns.length) : atI (ns.map V.int) i = some (.int (MM.at0 ns j)) := by
  subst h
  apply atI_nat
  rw [List.getElem?_map, List.getElem?_eq_getElem hj]
  unfold MM.at0
  rw [List.getD_eq_getElem?_getD, List.getElem?_eq_getElem hj]
  rfl
section
variable {K : PySem.W.Frag} {te : TE} {l : Addr} {Q : VK} {fr : St} {H : Hp} {k0 : Option V}
theorem cl_rngT {lo : Int} {n : Nat} (f : Nat → V) (hl : H l = none) (hn : n ≤ 1000)
    (hs : ∀ i H2, i < n → Same H H2 → ∀ (Cy : V → Hp → Prop), (∀ H3, Same H2 H3 → Cy (f i) H3) → te (some (.int (lo + i)) :: fr) H2 Cy)
    (hd : ∀ H2, Same H H2 → H2 l = some (.lst ((List.range n).map f)) → Q (.ref l) H2) :
    tCL (Itr lo n) (gName 0) tTrue te l Q (k0 :: fr) (upd H l (.lst [])) := by
  refine cl_rng (fun _ => true) f hl hn (fun i H2 hi h2 Cy Cn hy hn => ?_) (fun H2 h2 hl2 => ?_)
  · exact (iteT (hs i H2 hi h2 Cy (hy rfl)) : if true = true then te (some (.int (lo + i)) :: fr) H2 Cy else Cn H2)
  · rw [List.filter_eq_self.mpr (fun _ _ => rfl)] at hl2
    exact hd H2 h2 hl2
/-- ints over a range -/
theorem cl_rngI {lo : Int} {n : Nat} (f : Nat → Int) (hl : H l = none) (hn : n ≤ 1000)
    (hs : ∀ i H2, i < n → Same H H2 → ∀ (Cy : V → Hp → Prop), (∀ H3, Same H2 H3 → Cy (.int (f i)) H3) → te (some (.int (lo + i)) :: fr) H2 Cy)
    (hd : ∀ H2, Same H H2 → H2 l = some (.lst (((List.range n).map f).map V.int)) → Q (.ref l) H2) :
    tCL (Itr lo n) (gName 0) tTrue te l Q (k0 :: fr) (upd H l (.lst [])) := by
  refine cl_rngT (fun i => .int (f i)) hl hn hs (fun H2 h2 hl2 => hd H2 h2 ?_)
  rw [hl2, List.map_map]; rfl
theorem cl_lstT {a : Addr} {xs : List V} (f : V → V) (hl : H l = none) (hx : SqL K H a xs) (hn : xs.length ≤ 1000)
    (hs : ∀ x H2, x ∈ xs → Same H H2 → ∀ (Cy : V → Hp → Prop), (∀ H3, Same H2 H3 → Cy (f x) H3) → te (some x :: fr) H2 Cy)
    (hd : ∀ H2, Same H H2 → H2 l = some (.lst (xs.map f)) → Q (.ref l) H2) :
    tCL (Itl K a) (gName 0) tTrue te l Q (k0 :: fr) (upd H l (.lst [])) := by
  refine cl_lst (fun _ => true) f hl hx hn (fun x H2 hi h2 Cy Cn hy hn => ?_) (fun H2 h2 hl2 => ?_)
  · exact (iteT (hs x H2 hi h2 Cy (hy rfl)) : if true = true then te (some x :: fr) H2 Cy else Cn H2)
  · rw [List.filter_eq_self.mpr (fun _ _ => rfl)] at hl2
    exact hd H2 h2 hl2
end
theorem can_ints (ns : List Int) : (PyData.list (ns.map PyData.int)).canLay0 = true := canLay_ints ns
theorem dep_ints (ns : List Int) : (PyData.list (ns.map PyData.int)).depth ≤ 190 := by
  have := depth_ints ns
  simp only [PyData.depth]
  omega
theorem iteP {c A B : Prop} [Decidable c] (hc : c) (h : A) : if c then A else B := by rw [if_pos hc]; exact h
theorem iteN {c A B : Prop} [Decidable c] (hc : ¬ c) (h : B) : if c then A else B := by rw [if_neg hc]; exact h
/-- the divisors of n -/
def dvL (n : Nat) : List Int := ((List.range n).filter fun (i : Nat) => decide ((n : Int) % (1 + (i : Int)) = 0)).map fun (i : Nat) => 1 + (i : Int)
theorem dvL_len (n : Nat) : (dvL n).length ≤ n := by
  unfold dvL
  rw [List.length_map]
  exact Nat.le_trans (List.length_filter_le ..) (by simp)
theorem dvL_mem {n : Nat} {d : Int} (h : d ∈ dvL n) : ∃ j : Nat, d = 1 + (j : Int) ∧ j < n ∧ (j + 1) ∣ n := by
  unfold dvL at h
  obtain ⟨i, hi, rfl⟩ := List.mem_map.mp h
  obtain ⟨h1, h2⟩ := List.mem_filter.mp hi
  refine ⟨i, rfl, List.mem_range.mp h1, ?_⟩
  have h3 := of_decide_eq_true h2
  have h4 : (((i + 1 : Nat) : Int)) ∣ (n : Int) := by
    have e : ((i + 1 : Nat) : Int) = 1 + (i : Int) := by omega
    rw [e]
    exact Int.dvd_of_emod_eq_zero h3
  exact_mod_cast h4
theorem dvL_sum (n : Nat) (f : Int → Int) : ((dvL n).map f).sum = MM.sm n fun i => if (i + 1) ∣ n then f (1 + (i : Int)) else 0 := by
  unfold dvL
  rw [List.map_map, MM.sum_filter]
  refine MM.sm_congr fun i _ => ?_
  have e : ((n : Int) % (1 + (i : Int)) = 0) ↔ (i + 1) ∣ n := by
    have e1 : 1 + (i : Int) = ((i + 1 : Nat) : Int) := by omega
    rw [e1]
    constructor
    · intro h
      exact_mod_cast Int.dvd_of_emod_eq_zero h
    · intro h
      apply Int.emod_eq_zero_of_dvd
      exact_mod_cast h
  by_cases h : (i + 1) ∣ n
  · rw [if_pos h, if_pos (decide_eq_true (e.mpr h))]; rfl
  · rw [if_neg h, if_neg (fun q => h (e.mp (of_decide_eq_true q)))]
end L2

set_option Elab.async false
set_option linter.all false
set_option maxRecDepth 100000
set_option maxHeartbeats 4000000
/-! zip and enumerate of lists, walked with a tuple of names -/
namespace L2
open PySem PySem.Spec PyProof.Rows
section
variable {X : Cx} {pins : List (Addr × Obj)} {σ : St} {H : Hp} {s : Shared}
end
/-- pairs of the items of two lists -/
def Itz (K : PySem.W.Frag) (a b : Addr) : It :=
  ⟨fun i H => ∃ xs ys x y, SqL K H a xs ∧ SqL K H b ys ∧ xs[i]? = some x ∧ ys[i]? = some y,
   fun i H v H' => ∃ T x y, v = .ref T ∧ H T = none ∧ H' = upd H T (.tup [x, y]) ∧ (∀ xs, SqL K H a xs → xs[i]? = some x) ∧ (∀ ys, SqL K H b ys → ys[i]? = some y),
   fun i H => ∃ xs ys, SqL K H a xs ∧ SqL K H b ys ∧ (xs.length ≤ i ∨ ys.length ≤ i)⟩
/-- the items of a list with their numbers -/
def Ite (K : PySem.W.Frag) (a : Addr) : It :=
  ⟨fun i H => ∃ xs x, SqL K H a xs ∧ xs[i]? = some x,
   fun i H v H' => ∃ T x, v = .ref T ∧ H T = none ∧ H' = upd H T (.tup [.int i, x]) ∧ (∀ xs, SqL K H a xs → xs[i]? = some x),
   fun i H => ∃ xs, SqL K H a xs ∧ xs.length ≤ i⟩
def uZip (K : PySem.W.Frag) : List V → Hp → (It → Hp → Prop) → Prop := fun vs H R => match vs with
  | [.ref a, .ref b] => (∃ xs ys, SqL K H a xs ∧ SqL K H b ys) ∧ R (Itz K a b) H
  | _ => False
def uEnum (K : PySem.W.Frag) : List V → Hp → (It → Hp → Prop) → Prop := fun vs H R => match vs with
  | [.ref a] => (∃ xs, SqL K H a xs) ∧ R (Ite K a) H
  | _ => False
def jArgs (u : List V → Hp → (It → Hp → Prop) → Prop) (ta : TA) : TI := fun σ H R => ta σ H fun vs H1 => u vs H1 R
section
variable {X : Cx} {elts : List Expr} {k0 : Nat} {a b : Expr} {p pos tp : Pos} {ta : TA}
end
section
variable {K : PySem.W.Frag} {ta : TA} {u : List V → Hp → (It → Hp → Prop) → Prop} {σ : St} {H : Hp} {R : It → Hp → Prop} {a b : Addr}
theorem r_jargs : (jArgs u ta σ H R) = (ta σ H fun vs H1 => u vs H1 R) := rfl
theorem r_zip : (uZip K [.ref a, .ref b] H R) = ((∃ xs ys, SqL K H a xs ∧ SqL K H b ys) ∧ R (Itz K a b) H) := rfl
theorem r_enum : (uEnum K [.ref a] H R) = ((∃ xs, SqL K H a xs) ∧ R (Ite K a) H) := rfl
end
theorem g2 {K : PySem.W.Frag} {T : Addr} {x y : V} {k0 k1 : Option V} {fr : St} {H : Hp} {Q : St → Hp → Prop} (h : SqT K H T [x, y]) (q : Q (some x :: some y :: fr) H) : gTup K 2 (gCons (gName 0) (gCons (gName 1) gNil)) (.ref T) (k0 :: k1 :: fr) H Q :=
  ⟨T, _, rfl, h, rfl, _, _, rfl, _, _, rfl, rfl, q⟩
section
variable {K : PySem.W.Frag} {te : TE} {l : Addr} {Q : VK} {fr : St} {H : Hp} {k0 k1 : Option V}
end
end L2

set_option Elab.async false
set_option linter.all false
set_option maxRecDepth 100000
set_option maxHeartbeats 4000000
/-! comprehensions whose targets are read by a comprehension within -/
namespace L2
open PySem PySem.Spec PyProof.Rows
theorem cellsFrom_app : ∀ (names : List (Str × NameKind)) (n : Nat) (acc cl : List (Str × Addr)), cellsFrom n names (acc ++ cl) = cellsFrom n names acc ++ cl
  | [], _, _, _ => rfl
  | (name, kind) :: r, n, acc, cl => by
    unfold cellsFrom
    split
    · exact cellsFrom_app r (n + 1) ((name, n) :: acc) cl
    · exact cellsFrom_app r n acc cl
theorem wpAny_newEnv_around {M : Model} {A : Around} {E : Value → Shared → Prop} {s : Shared} {scope : Scope} {globals : Addr} {cl : List (Str × Addr)} {qual : Str} {env : Env} {Q : Env → Shared → Prop}
    (hQ : ∀ h₁, h₁ = pushCells (s.heap.push { cls := .type "dict", data := .dict #[] }) scope.names →
      Q (newEnv scope s.heap.objs.size globals (cellsFrom (s.heap.objs.size + 1) scope.names cl) qual none .none (some env) builtinsNs) { s with heap := h₁ }) :
    wpAny M A (newFunctionEnv scope globals cl [] qual none .none (some env)) Q E s := by
  simp only [newFunctionEnv, Option.isSome_some, if_true]
  refine wpAny_bind (wpAny_alloc ?_)
  refine wpAny_bind (wpAny_layCells _ (fun name kind cells => by cases hkc : kind == NameKind.cell <;> simp [hkc]) _ _ _ _ ?_)
  rw [show ({ s with heap := s.heap.push { cls := .type "dict", data := .dict #[] } } : Shared).heap.objs.size = s.heap.objs.size + 1 from Heap.size_push ..]
  exact wpAny_bind (wpAny_pure (wpAny_pure (hQ _ rfl)))
/-- as CompScope, with cells of its own -/
structure CompScopeC (X : Cx) (scope : Scope) (cl : List (Str × Addr)) (nm : Str) (ts : List Str) (frs : List (Str × Nat)) : Prop where
  own : ∀ n c, (cellsFrom n scope.names cl).lookup nm = some c → n ≤ c
  clos : closureFor scope X.env = pure cl
  kind : scope.kind = .function
  names : ∀ y ∈ scope.names, y.2 = .local → scope.names.lookup y.1 = some .local
  sub : ∀ p ∈ cl, X.env.cells.lookup p.1 = some p.2
  has : ∀ n, ∀ p ∈ (relabel scope X.env).names, p.2 = .cell ∨ p.2 = .free → ((cellsFrom n scope.names cl).lookup p.1).isSome = true
  out : ∀ n, ∀ p ∈ frs, X.N[p.2]? = some p.1 ∧ (X.env.kindOf p.1 = some .cell ∨ X.env.kindOf p.1 = some .free) ∧ ((relabel scope X.env).names.lookup p.1 = some .cell ∨ (relabel scope X.env).names.lookup p.1 = some .free) ∧ (cl.lookup p.1).isSome = true ∧ (cellsFrom n scope.names cl).lookup p.1 = cl.lookup p.1
abbrev clC (scope : Scope) (cl : List (Str × Addr)) (s : Shared) : List (Str × Addr) := cellsFrom (s.heap.objs.size + 1) scope.names cl
def Cx.compC (X : Cx) (scope : Scope) (cl : List (Str × Addr)) (nm : Str) (N : List Str) (pins : List (Addr × Obj)) (s : Shared) (H : Hp) (fp : List Addr) : Cx := { X.comp scope (clC scope cl s) N pins s H fp with fn := fun x => x == nm }
section
variable {X : Cx} {scope : Scope} {cl : List (Str × Addr)} {nm : Str} {ts : List Str} {frs' : List (Str × Nat)} {pins : List (Addr × Obj)} {σ : St} {H : Hp} {s : Shared} {fp : List Addr}
theorem CompScopeC.subL (S : CompScopeC X scope cl nm ts frs') {x : Str} {c : Addr} (h : cl.lookup x = some c) : X.env.cells.lookup x = some c := S.sub (x, c) (PySem.mem_of_lookup h)
theorem CompScopeC.two (S : CompScopeC X scope cl nm ts frs') {x : Str} {c : Addr} (e : (clC scope cl s).lookup x = some c) : s.heap.objs.size + 1 ≤ c ∨ X.env.cells.lookup x = some c := by
  have hm := PySem.mem_of_lookup e
  have eapp : clC scope cl s = cellsFrom (s.heap.objs.size + 1) scope.names [] ++ cl := cellsFrom_app scope.names _ [] cl
  have ok := cellsFrom_ok scope.names (s.heap.push { cls := .type "dict", data := .dict #[] }) (s.heap.objs.size + 1) [] ⟨fun _ _ hm => (nomatch hm), List.Pairwise.nil⟩ (by rw [Heap.size_push]; exact Nat.le_refl _)
  rw [Heap.size_push] at ok
  rw [eapp] at hm
  rcases List.mem_append.mp hm with h | h
  · exact .inl (ok.empty x c h).2
  · exact .inr (S.sub _ h)
theorem CompScopeC.inv (S : CompScopeC X scope cl nm ts frs') (I : Inv X pins σ H s) (hf : ∀ b ∈ fp, FpOk X pins H b) (hlt : ∀ b ∈ fp, b < s.heap.objs.size) {h₁ : Heap} {tk : Nat} (hh : h₁ = pushCells (s.heap.push { cls := .type "dict", data := .dict #[] }) scope.names) :
    Inv (X.compC scope cl nm (ts ++ frs'.map (·.1)) pins s H fp) [] (compStart ts.length frs' σ) H { s with heap := h₁, toks := tk } := by
  have hns : h₁.Ns s.heap.objs.size (fun _ => none) := by
    rw [hh]
    exact (Heap.Ns.new s.heap (.type "dict")).keeps (pushCells_keeps _ _)
  have hk : ∀ b o, s.heap.get? b = some o → h₁.get? b = some o := fun b o e => by
    rw [hh]
    exact pushCells_keeps _ _ b o (Heap.get?_push_of_some _ e)
  have hC : ∀ b o, s.heap.get? b = some o → b ≠ s.heap.objs.size := fun b o e => Nat.ne_of_lt (Heap.lt_size e)
  have ok := cellsFrom_ok scope.names (s.heap.push { cls := .type "dict", data := .dict #[] }) (s.heap.objs.size + 1) [] ⟨fun _ _ hm => (nomatch hm), List.Pairwise.nil⟩ (by rw [Heap.size_push]; exact Nat.le_refl _)
  rw [Heap.size_push, ← hh] at ok
  have eapp : clC scope cl s = cellsFrom (s.heap.objs.size + 1) scope.names [] ++ cl := cellsFrom_app scope.names _ [] cl
  -- each cell: an old one or a new one
  have two : ∀ x c, (clC scope cl s).lookup x = some c → ((x, c) ∈ cellsFrom (s.heap.objs.size + 1) scope.names [] ∧ h₁.IsCell c none ∧ s.heap.objs.size + 1 ≤ c) ∨ (X.env.cells.lookup x = some c ∧ c < s.heap.objs.size) := fun x c e => by
    have hm := PySem.mem_of_lookup e
    rw [eapp] at hm
    rcases List.mem_append.mp hm with h | h
    · exact .inl ⟨h, ok.empty x c h⟩
    · have h' := S.sub _ h
      obtain ⟨v, q⟩ := I.cell x c h'
      exact .inr ⟨h', q.lt⟩
  have hcell : ∀ x c, (clC scope cl s).lookup x = some c → ∃ v, h₁.IsCell c v := fun x c e => by
    rcases two x c e with ⟨_, h, _⟩ | ⟨h, _⟩
    · exact ⟨_, h⟩
    · obtain ⟨v, o, ho, hd⟩ := I.cell x c h
      exact ⟨v, o, hk c o ho, hd⟩
  have hinj : ∀ x y c, (clC scope cl s).lookup x = some c → (clC scope cl s).lookup y = some c → x = y := fun x y c h1 h2 => by
    rcases two x c h1 with ⟨a1, _, a2⟩ | ⟨a1, a2⟩
    · rcases two y c h2 with ⟨b1, _, b2⟩ | ⟨b1, b2⟩
      · exact name_of_addr ok.apart a1 b1
      · exact absurd (Nat.lt_of_lt_of_le b2 (Nat.le_of_succ_le a2)) (Nat.lt_irrefl _)
    · rcases two y c h2 with ⟨b1, _, b2⟩ | ⟨b1, b2⟩
      · exact absurd (Nat.lt_of_lt_of_le a2 (Nat.le_of_succ_le b2)) (Nat.lt_irrefl _)
      · exact I.ok.inj x y c a1 b1
  have hcab : ∀ x c, (x == nm) = true → (clC scope cl s).lookup x = some c → s.heap.objs.size ≤ c := fun x c z e => by
    have ex : x = nm := eq_of_beq z
    subst ex
    exact Nat.le_of_succ_le (S.own _ c e)
  have hfree : ∀ x c, (clC scope cl s).lookup x = some c → H c = none := fun x c e => by
    rcases two x c e with ⟨_, _, h⟩ | ⟨h, _⟩
    · exact I.hok.fresh (Nat.le_of_succ_le h)
    · exact I.freeC x c h
  refine ⟨⟨I.ok.mod, ?_, I.ok.glob, I.ok.blt, Nat.le_refl _, hinj, fun x hx => ?_, fun x c z e => hcab x c z e, I.ok.hd, I.ok.frames, .inl rfl, fun b hb => ⟨Nat.ne_of_lt (hlt b hb), fun x c e => ?_⟩, I.bs, Nat.le_trans I.ok.bsz I.sz, fun b o e hb => ?_, fun b hb z => ?_, I.stack, I.stkFree⟩,
    rfl, I.bare, Un.kept hk, ⟨_, hns, fun i x v h1 h2 h3 => ?_⟩, hcell, I.hok.fresh (Nat.le_refl _), hfree, fun p hp => ?_, I.hok.kept hk, ?_⟩
  · exact S.kind
  · have hx' : (relabel scope X.env).names.lookup x = some .cell ∨ (relabel scope X.env).names.lookup x = some .free := hx
    have : ((clC scope cl s).lookup x).isSome = true := by
      rcases hx' with e | e
      · exact S.has _ (x, .cell) (PySem.mem_of_lookup e) (.inl rfl)
      · exact S.has _ (x, .free) (PySem.mem_of_lookup e) (.inr rfl)
    exact Option.isSome_iff_exists.mp this
  · rcases two x c e with ⟨_, _, h⟩ | ⟨h, _⟩
    · exact Nat.ne_of_gt (Nat.lt_of_lt_of_le (hlt b hb) (Nat.le_of_succ_le h))
    · exact (hf b hb).2.2.2.2.1 x c h
  · obtain ⟨_, _, _, h4, _⟩ := hf b hb
    rcases h4 with h4 | h4
    · exact I.ok.noex b o e h4
    · exact absurd (Nat.lt_of_lt_of_le (Heap.lt_size e) (Nat.le_trans I.ok.bsz h4)) (Nat.lt_irrefl _)
  · obtain ⟨_, h2, h3, _⟩ := hf b hb
    rcases List.mem_cons.mp (I.stkSub b z) with e | e
    · exact h2 e
    · exact h3 e
  · have hi : ts.length ≤ i := by
      by_cases hi : ts.length ≤ i
      · exact hi
      · have : (compStart ts.length frs' σ)[i]? = some none := by
          unfold compStart
          rw [List.getElem?_append_left (by simp; omega), List.getElem?_replicate, if_pos (by omega)]
        rw [this] at h2; cases h2
    obtain ⟨p, hp, e1, e2⟩ : ∃ p ∈ frs', p.1 = x ∧ (σ[p.2]?).join = some v := by
      have h1' : (ts ++ frs'.map (·.1))[i]? = some x := h1
      have h2' : (compStart ts.length frs' σ)[i]? = some (some v) := h2
      unfold compStart at h2'
      rw [List.getElem?_append_right hi, List.getElem?_map] at h1'
      rw [List.getElem?_append_right (by simpa using hi), List.getElem?_map, List.length_replicate] at h2'
      cases e : frs'[i - ts.length]? with
      | none => rw [e] at h1'; cases h1'
      | some p =>
        rw [e] at h1' h2'
        exact ⟨p, List.mem_of_getElem? e, Option.some.inj h1', Option.some.inj h2'⟩
    obtain ⟨o1, o2, o3, o4, o5⟩ := S.out (s.heap.objs.size + 1) p hp
    rw [e1] at o1 o2 o3 o4 o5
    have e3 : σ[p.2]? = some (some v) := by
      cases e : σ[p.2]? with
      | none => rw [e] at e2; cases e2
      | some q => rw [e] at e2; exact congrArg some e2
    obtain ⟨m', _, hl⟩ := I.loc
    have hv : Vis X.env.scope x := by
      rcases o2 with o2 | o2
      · exact .inr (.inl o2)
      · exact .inr (.inr o2)
    obtain ⟨u, r, l⟩ := hl p.2 x v o1 e3 hv
    refine ⟨u, r, .inr ⟨o3, ?_⟩⟩
    obtain ⟨c, hc⟩ := Option.isSome_iff_exists.mp o4
    rcases l with ⟨k, _⟩ | ⟨_, c', e, ob, ho, hd⟩
    · rcases o2 with o2 | o2 <;> (rw [o2] at k; cases k)
    · have : c' = c := by have := S.subL hc; rw [this] at e; exact (Option.some.inj e).symm
      subst this
      exact ⟨c', (show (clC scope cl s).lookup x = some c' from o5.trans hc), ob, hk c' ob ho, hd⟩
  · have hp' : p ∈ X.pn ++ pins := by
      have : p ∈ (X.pn ++ pins) ++ [] := hp
      rwa [List.append_nil] at this
    obtain ⟨e, n, ne, nf, d⟩ := I.pin p hp'
    refine ⟨hk _ _ e, n, hC _ _ e, fun z => ?_, d⟩
    rcases List.mem_cons.mp (I.stkSub _ z) with e' | e'
    · exact ne e'
    · exact nf e'
  · show (compStart ts.length frs' σ).length = (ts ++ frs'.map (·.1)).length
    unfold compStart
    simp
theorem CompScopeC.after (I : Inv X pins σ H s) (hf : ∀ b ∈ fp, FpOk X pins H b) {N : List Str} {σ' : St} {H' : Hp} {s' : Shared} (J : Inv (X.compC scope cl nm N pins s H fp) [] σ' H' s') {h' : Heap} (hs : Heap.SameBut s.heap.objs.size s'.heap h') :
    Inv X pins σ H' { s' with heap := h' } := by
  have hC : ∀ b o, s.heap.get? b = some o → b ≠ s.heap.objs.size := fun b o e => Nat.ne_of_lt (Heap.lt_size e)
  have fr : H' s.heap.objs.size = none := J.free
  refine I.call' (s' := { s' with heap := h' }) (ch := fp) J.os ?_ ?_ J.bare fun b hb => ?_
  · have u := J.base
    exact ⟨fun b o e n h1 h2 => (hs.2 b (hC b o e)).trans (u.keep b o e n h1 h2), fun b o e n h1 h2 => by
        obtain ⟨sl, q⟩ := u.slot b o e n h1 h2
        exact ⟨sl, (hs.2 b (hC b o e)).trans q⟩, u.free, fun b o e h2 => by
        obtain ⟨o', q⟩ := u.there b o e h2
        exact ⟨o', (hs.2 b (hC b o e)).trans q⟩, u.tups, u.frzs, u.tbls⟩
  · intro b ob e
    refine (J.hok b ob e).stay (fun c w' hc q => (hs.2 c ?_).trans q) (fun _ q => q) fun _ _ q => q
    rintro rfl
    rcases hc with hc | hc
    · rw [← hc, fr] at e; cases e
    · rw [fr] at hc; cases hc
  · obtain ⟨h1, h2, h3, h4, h5, h6⟩ := hf b hb
    exact ⟨h4, h2, h5, h6⟩
end
theorem comp_goC {X : Cx} {elt tg iter : Expr} {ifs : List Expr} {scope : Scope} {cl : List (Str × Addr)} {nm : Str} {ts : List Str} {frs' : List (Str × Nat)} {pos pos0 : Pos} {wi : TI} {g : TG} {tt : TT} {te : TE} (hc : X.calm = true) (S : CompScopeC X scope cl nm ts frs')
    (hi : PI X tg iter wi) (hg : ∀ pins s H fp, PG (X.compC scope cl nm (ts ++ frs'.map (·.1)) pins s H fp) tg g) (ht : ∀ pins s H fp, PIfs (X.compC scope cl nm (ts ++ frs'.map (·.1)) pins s H fp) ifs tt)
    (he : ∀ pins s H fp, PE (X.compC scope cl nm (ts ++ frs'.map (·.1)) pins s H fp) elt te) (hs : ∀ x, foldedSetIterable iter X.env x = pure x)
    {use : Option (Value → Sem Unit)} {Qv : Value → Shared → Prop} {pins : List (Addr × Obj)} {s : Shared} {σ : St} {H : Hp} {Q : VK} (I : Inv X pins σ H s) (h : tComp ts.length frs' wi g tt te σ H Q)
    (hfin : ∀ (C D : Addr) (H5 : Hp) (s6 : Shared) (m6 : Str → Option Value), Inv X pins σ H5 s6 → s6.heap.Ns C m6 → FpOk X pins H5 C → (∀ h', Heap.SameBut C s6.heap h' → Inv X pins σ H5 { s6 with heap := h' }) → Q (.ref D) H5 →
      compPost (model X.prog X.w) X.A X.xe use Qv (.ref D) C (.ok .next) s6) :
    wpAny (model X.prog X.w) X.A (comprehension (.ListComp elt [⟨tg, iter, ifs, 0⟩] scope pos) scope X.env pos0 (newList []) false (eval iter X.env) use) Qv X.xe s := by
  refine wpAny_comprehension_free (use := use) (cl := cl) rfl hs S.clos S.kind S.names (thn (hi pins s σ H _ I h) fun v s1 h1 => thn h1 fun itv s2 h2 => ?_)
  obtain ⟨it, fp, tn, J, H2, e, I2, T, st2, f2, q2⟩ := h2
  subst e
  have fr2 : H2 s2.heap.objs.size = none := I2.hok.fresh (Nat.le_refl _)
  obtain ⟨W, ⟨m0, w0⟩, turn⟩ := q2 _ fr2
  refine wpAny_newObj_type ?_
  have hlt2 : ∀ b ∈ fp, b < s2.heap.objs.size := fun b hb => by
    obtain ⟨o, e, _⟩ := T.obj _ _ st2 b hb
    exact Heap.lt_size e
  -- the list is laid
  have I3 : Inv X pins σ (upd H2 s2.heap.objs.size (.lst [])) { s2 with heap := s2.heap.push { cls := .type "list", data := .seq ([] : List Value).toArray } } :=
    I2.laid (t' := s2.toks) (fun b u e => Heap.get?_push_of_some _ e) (Nat.le_refl _) ⟨Nat.zero_le _, [], 0, .nil, Heap.get?_push_size _ rfl⟩
  have f3 : ∀ b ∈ fp, FpOk X pins (upd H2 s2.heap.objs.size (.lst [])) b := fun b hb => ⟨by rw [upd_ne (Nat.ne_of_lt (hlt2 b hb))]; exact (f2 b hb).1, (f2 b hb).2⟩
  have hk3 : ∀ b o, s2.heap.get? b = some o → (s2.heap.push { cls := .type "list", data := .seq ([] : List Value).toArray }).get? b = some o := fun b o e => Heap.get?_push_of_some _ e
  have hsz3 : (s2.heap.push { cls := .type "list", data := .seq ([] : List Value).toArray }).objs.size = s2.heap.objs.size + 1 := Heap.size_push ..
  generalize hs3 : ({ s2 with heap := s2.heap.push { cls := .type "list", data := .seq ([] : List Value).toArray } } : Shared) = s3 at I3 ⊢
  have es3 : s3.heap = s2.heap.push { cls := .type "list", data := .seq ([] : List Value).toArray } := by rw [← hs3]
  have hlt3 : ∀ b ∈ fp, b < s3.heap.objs.size := fun b hb => by
    rw [es3, hsz3]
    exact Nat.lt_succ_of_lt (hlt2 b hb)
  refine wpAny_newEnv_around fun h₁ hh₁ => ?_
  have hk4 : ∀ b o, s3.heap.get? b = some o → h₁.get? b = some o := fun b o e => by
    rw [hh₁]
    exact pushCells_keeps _ _ b o (Heap.get?_push_of_some _ e)
  have I4 := S.inv I3 f3 hlt3 (tk := s3.toks) hh₁
  have st4 : tn 0 h₁ := T.keep _ _ _ st2 fun b hb o e => hk4 b o (by rw [es3]; exact hk3 b o e)
  -- what stays true of the iterator's objects
  have stat : ∀ {H' : Hp}, (∀ b ∈ fp, H' b = none) → ∀ b ∈ fp, FpOk (X.compC scope cl nm (ts ++ frs'.map (·.1)) pins s3 (upd H2 s2.heap.objs.size (.lst [])) fp) [] H' b := fun hn b hb => by
    obtain ⟨h1, h2, h3, h4, h5, h6⟩ := f3 b hb
    refine ⟨hn b hb, Nat.ne_of_lt (hlt3 b hb), fun z => ?_, .inl hb, fun x c e => by
      rcases S.two e with h | h
      · exact Nat.ne_of_gt (Nat.lt_of_lt_of_le (hlt3 b hb) (Nat.le_of_succ_le h))
      · exact h5 x c h, fun p hp => h6 p (by
      have : p ∈ (X.pn ++ pins) ++ [] := hp
      rwa [List.append_nil] at this)⟩
    rcases List.mem_cons.mp (I3.stkSub _ z) with e' | e'
    · exact h2 e'
    · exact h3 e'
  have loop : codeAny (model X.prog X.w) X.A (.compLoop (.ListComp elt [⟨tg, iter, ifs, 0⟩] scope pos) 0 (.ref it) (.ref s2.heap.objs.size) (compEnvC scope (clC scope cl s3) s3.heap.objs.size X.env))
      (compPost (model X.prog X.w) X.A X.xe use Qv (.ref s2.heap.objs.size) s3.heap.objs.size) { s3 with heap := h₁, toks := s3.toks } := by
    refine compLoop_any (fun n s' => ∃ i τ H', Inv (X.compC scope cl nm (ts ++ frs'.map (·.1)) pins s3 (upd H2 s2.heap.objs.size (.lst [])) fp) [] τ H' s' ∧ tn i s'.heap ∧ (∀ b ∈ fp, H' b = none) ∧ W i n τ H') ?_ m0
      ⟨0, _, _, I4, st4, fun b hb => (f3 b hb).1, w0⟩
    rintro n s5 ⟨i, τ, H5, I5, st5, fr5, w5⟩
    rcases turn i n τ H5 w5 with ⟨stop, qn⟩ | ⟨go, step⟩
    · refine wpAny_mono (T.done (X.compC scope cl nm (ts ++ frs'.map (·.1)) pins s3 (upd H2 s2.heap.objs.size (.lst [])) fp) rfl rfl rfl hc i [] s5 τ H5 (fun _ _ => False) I5 (stat fr5) st5 stop) (fun r s6 ⟨hr, I6⟩ => ?_) fun _ _ z => z
      subst hr
      obtain ⟨m6, hn6, _⟩ := id I6.loc
      have hA : ∀ h', Heap.SameBut s3.heap.objs.size s6.heap h' → Inv X pins σ H5 { s6 with heap := h' } := fun h' hs' => CompScopeC.after I3 f3 I6 hs'
      have hC0 := I3.fpOk (b := s3.heap.objs.size) (Nat.le_refl _) (I3.hok.fresh (Nat.le_refl _))
      exact hfin _ _ H5 s6 m6 (hA s6.heap ⟨rfl, fun _ _ => rfl⟩) hn6 ⟨I6.free, hC0.2⟩ hA qn
    · refine wpAny_mono (T.item (X.compC scope cl nm (ts ++ frs'.map (·.1)) pins s3 (upd H2 s2.heap.objs.size (.lst [])) fp) rfl rfl rfl hc i [] s5 τ H5 (fun _ _ => False) I5 (stat fr5) st5 go) (fun r s6 ⟨u, hr, h6⟩ => ?_) fun _ _ z => z
      subst hr
      refine thn h6 fun _ s7 ⟨x, H7, I7, r7, y7, st7, fr7⟩ => ?_
      have I7' := I7.pinned (stat fr7) (T.obj _ _ st7)
      refine thn (hg _ _ _ _ _ s7 τ H7 x u _ I7' r7 (step x H7 y7)) fun _ s8 ⟨τ8, H8, I8, q8⟩ => ?_
      refine thn (ht _ _ _ _ _ s8 τ8 H8 _ I8 q8) fun ok s9 ⟨H9, I9, q9⟩ => ?_
      have again : ∀ {m' : Nat} {H' : Hp} {s' : Shared}, Inv (X.compC scope cl nm (ts ++ frs'.map (·.1)) pins s3 (upd H2 s2.heap.objs.size (.lst [])) fp) ([] ++ pinsAt fp s7.heap) τ8 H' s' → m' < n → W (i + 1) m' τ8 H' →
          ∃ m, m < n ∧ ∃ i τ H', Inv (X.compC scope cl nm (ts ++ frs'.map (·.1)) pins s3 (upd H2 s2.heap.objs.size (.lst [])) fp) [] τ H' s' ∧ tn i s'.heap ∧ (∀ b ∈ fp, H' b = none) ∧ W i m τ H' := fun {m' H' s'} I' hm w' => by
        refine ⟨m', hm, i + 1, τ8, H', I'.unpinned, T.keep _ _ _ st7 fun b hb o e => (I'.pin (b, o) (List.mem_append_right _ (List.mem_append_right _ (mem_pinsAt hb e)))).1, fun b hb => ?_, w'⟩
        obtain ⟨o, e, d⟩ := T.obj _ _ st7 b hb
        exact (I'.pin (b, o) (List.mem_append_right _ (List.mem_append_right _ (mem_pinsAt hb e)))).2.1
      cases ok with
      | false =>
        rw [if_neg Bool.false_ne_true]
        rw [if_neg Bool.false_ne_true] at q9
        obtain ⟨m', hm, w'⟩ := q9
        exact again I9 hm w'
      | true =>
        rw [if_pos rfl]
        rw [if_pos rfl] at q9
        refine thn (he _ _ _ _ _ s9 τ8 H9 _ I9 q9) fun yv s10 ⟨y, H10, I10, r10, ys, hl, hz, m', hm, w'⟩ => ?_
        refine thn (mt_append _ s10 τ8 H10 (.ref s2.heap.objs.size) [y] (.ref s2.heap.objs.size) [yv] (fun _ H' => W (i + 1) m' τ8 H') I10 rfl (.cons r10 .nil) ⟨_, ys, y, rfl, rfl, hl, hz, w'⟩) fun _ s11 ⟨_, H11, I11, _, w11⟩ => ?_
        exact again I11 hm w11
  exact codeAny_compStart_list loop (T.self _ 0 _ _ _ st4 loop)
theorem pe_compC {X : Cx} {elt tg iter : Expr} {ifs : List Expr} {scope : Scope} {cl : List (Str × Addr)} {nm : Str} {ts : List Str} {frs' : List (Str × Nat)} {pos : Pos} {wi : TI} {g : TG} {tt : TT} {te : TE} (hc : X.calm = true) (S : CompScopeC X scope cl nm ts frs')
    (hi : PI X tg iter wi) (hg : ∀ pins s H fp, PG (X.compC scope cl nm (ts ++ frs'.map (·.1)) pins s H fp) tg g) (ht : ∀ pins s H fp, PIfs (X.compC scope cl nm (ts ++ frs'.map (·.1)) pins s H fp) ifs tt)
    (he : ∀ pins s H fp, PE (X.compC scope cl nm (ts ++ frs'.map (·.1)) pins s H fp) elt te) (hs : ∀ x, foldedSetIterable iter X.env x = pure x := by intro _; rfl) :
    PE X (.ListComp elt [⟨tg, iter, ifs, 0⟩] scope pos) (tComp ts.length frs' wi g tt te) := by
  intro pins s σ H Q I h
  rw [eval_ListComp]
  exact comp_goC hc S hi hg ht he hs (use := none) (Qv := EP X pins σ Q) I h fun C D H5 s6 m6 I6 hn fpc hA q => ⟨m6, hn, fun h' hs' => ⟨.ref D, H5, hA h' hs', rfl, q⟩⟩
theorem free_hasC {scope : Scope} {env : Env} {names : List (Str × NameKind)} {cl : List (Str × Addr)} (h : (relabel scope env).names = names) (h2 : ∀ n, (names.all fun p => (p.2 != .cell && p.2 != .free) || ((cellsFrom n scope.names cl).lookup p.1).isSome) = true) :
    ∀ n, ∀ p ∈ (relabel scope env).names, p.2 = .cell ∨ p.2 = .free → ((cellsFrom n scope.names cl).lookup p.1).isSome = true := by
  intro n p hp hk
  rw [h] at hp
  have := List.all_eq_true.mp (h2 n) p hp
  rcases hk with e | e
  · rw [e] at this; simpa using this
  · rw [e] at this; simpa using this
end L2

set_option Elab.async false
set_option linter.all false
set_option maxRecDepth 100000
set_option maxHeartbeats 4000000
/-! min and max of a list of ints -/
namespace L2
open PySem PySem.Spec PyProof.Rows
theorem argBest_min (ns : List Int) : ∀ k i, i ≤ k → MM.at0 ns (argBest (fun i j => decide (MM.at0 ns i < MM.at0 ns j)) k) ≤ MM.at0 ns i
  | 0, i, h => by
    have : i = 0 := by omega
    subst this
    exact Int.le_refl _
  | k + 1, i, h => by
    rw [argBest]
    have ih := argBest_min ns k
    split
    · rename_i hb
      have hb := of_decide_eq_true hb
      by_cases e : i = k + 1
      · rw [e]; exact Int.le_refl _
      · have := ih i (by omega)
        omega
    · rename_i hb
      have hb : ¬ (MM.at0 ns (k + 1) < MM.at0 ns (argBest (fun i j => decide (MM.at0 ns i < MM.at0 ns j)) k)) := fun z => hb (decide_eq_true z)
      by_cases e : i = k + 1
      · rw [e]; omega
      · exact ih i (by omega)
theorem at0_mem {ns : List Int} {i : Nat} (h : i < ns.length) : MM.at0 ns i ∈ ns := by
  unfold MM.at0
  rw [List.getD_eq_getElem?_getD, List.getElem?_eq_getElem h]
  exact List.getElem_mem h
theorem mem_at0 {ns : List Int} {x : Int} (h : x ∈ ns) : ∃ i, i < ns.length ∧ MM.at0 ns i = x := by
  obtain ⟨i, hi, e⟩ := List.mem_iff_getElem.mp h
  refine ⟨i, hi, ?_⟩
  unfold MM.at0
  rw [List.getD_eq_getElem?_getD, List.getElem?_eq_getElem hi]
  exact e
/-- the items of a list of ints, by place -/
theorem vals_at0 {ns : List Int} {its : List Value} (rv : Vals (ns.map V.int) its) {i : Nat} {v : Value} (h : its.toArray[i]? = some v) : i < ns.length ∧ ∃ t, v = .int (MM.at0 ns i) t := by
  have hv' : its[i]? = some v := by simpa using h
  have hlen := rv.length
  have hi : i < ns.length := by
    have := (List.getElem?_eq_some_iff.mp hv').1
    rw [List.length_map] at hlen
    omega
  refine ⟨hi, ?_⟩
  have e : (ns.map V.int)[i]? = some (.int (MM.at0 ns i)) := by
    rw [List.getElem?_map, List.getElem?_eq_getElem hi]
    unfold MM.at0
    rw [List.getD_eq_getElem?_getD, List.getElem?_eq_getElem hi]
    rfl
  obtain ⟨u, hu, ru⟩ := rv.get e
  rw [hv'] at hu
  cases hu
  exact ru
section
variable {X : Cx}
def uMinA (K : PySem.W.Frag) : List V → Hp → VK → Prop := fun xs H Q => match xs with
  | [.int i, .int j] => Q (.int (min i j)) H
  | [.ref p] => ∃ ns : List Int, SqL K H p (ns.map V.int) ∧ 1 ≤ ns.length ∧ ∀ m, m ∈ ns → (∀ x ∈ ns, m ≤ x) → Q (.int m) H
  | _ => False
def uMaxA (K : PySem.W.Frag) : List V → Hp → VK → Prop := fun xs H Q => match xs with
  | [.int i, .int j] => Q (.int (max i j)) H
  | [.ref p] => ∃ ns : List Int, SqL K H p (ns.map V.int) ∧ 1 ≤ ns.length ∧ ∀ m, m ∈ ns → (∀ x ∈ ns, x ≤ m) → Q (.int m) H
  | _ => False
theorem c_minL (hc : X.calm = true) : CallR X (.builtin "min") (fun xs H Q => ∃ (p : Addr) (ns : List Int), xs = [.ref p] ∧ SqL X.K H p (ns.map V.int) ∧ 1 ≤ ns.length ∧ ∀ m, m ∈ ns → (∀ x ∈ ns, m ≤ x) → Q (.int m) H) := by
  intro pins s σ H xs us Q I r h
  obtain ⟨p, ns, rfl, hl, h1, q⟩ := h
  obtain ⟨u, rfl, ru⟩ := r.one
  cases ru
  obtain ⟨its, rv, pl, hz⟩ := I.list hl
  have hlen : its.toArray.size = ns.length := by have := rv.length; simp at this; simp; omega
  have hp : p < s.heap.objs.size := by obtain ⟨o, n, e, _⟩ := pl; exact Heap.lt_size e
  refine call_min_walk (wpAny_pyIter_list pl.isList ?_)
  refine ⟨s.heap.objs.size, _, _, _, _, _, fun i j => decide (MM.at0 ns i < MM.at0 ns j), rfl, Walks.list (show X.A.in1.handled = none from I.ok.hd hc) s.heap.objs.size p (Nat.ne_of_lt hp) its.toArray, ⟨⟨_, Heap.get?_push_size _ rfl, rfl, rfl⟩, pl.isList.at fun o e => Heap.get?_push_of_some _ e⟩, ?_, by rw [hlen]; exact h1, ?_, ?_⟩
  · intro b hb
    rw [Heap.size_push]
    rcases List.mem_cons.mp hb with rfl | hb
    · exact Nat.lt_succ_self _
    · have : b = p := by simpa using hb
      subst this
      exact Nat.lt_succ_of_lt hp
  · intro i j vi vj s' Q' E' hi hj hq
    obtain ⟨_, t, rfl⟩ := vals_at0 rv hi
    obtain ⟨_, t', rfl⟩ := vals_at0 rv hj
    exact HT.rcLt_int _ _ _ _ _ _ _ _ _ _ hq
  · intro v h' tk hv hk
    obtain ⟨hi, t, rfl⟩ := vals_at0 rv hv
    rw [hlen] at hi ⊢
    refine ⟨.int _, H, I.kept (t' := tk) fun b o e => hk b o (by simp; exact Nat.ne_of_lt (Heap.lt_size e)) (Heap.get?_push_of_some _ e), ⟨_, rfl⟩, q _ (at0_mem hi) fun x hx => ?_⟩
    obtain ⟨j, hj, rfl⟩ := mem_at0 hx
    exact argBest_min ns (ns.length - 1) j (by omega)
theorem c_minA (hc : X.calm = true) : CallR X (.builtin "min") (uMinA X.K) := ((c_min hc).or (c_minL hc)).imp fun xs H Q q => by
  unfold uMinA at q
  split at q
  · exact .inl q
  · obtain ⟨ns, h1, h2, h3⟩ := q
    exact .inr ⟨_, ns, rfl, h1, h2, h3⟩
  · exact q.elim
end
section
variable {K : PySem.W.Frag} {H : Hp} {Q : VK} {p : Addr} {i j : Int}
theorem r_minA2 : (uMinA K [.int i, .int j] H Q) = (Q (.int (min i j)) H) := rfl
theorem r_maxA2 : (uMaxA K [.int i, .int j] H Q) = (Q (.int (max i j)) H) := rfl
theorem r_minA1 : (uMinA K [.ref p] H Q) = (∃ ns : List Int, SqL K H p (ns.map V.int) ∧ 1 ≤ ns.length ∧ ∀ m, m ∈ ns → (∀ x ∈ ns, m ≤ x) → Q (.int m) H) := rfl
theorem r_maxA1 : (uMaxA K [.ref p] H Q) = (∃ ns : List Int, SqL K H p (ns.map V.int) ∧ 1 ≤ ns.length ∧ ∀ m, m ∈ ns → (∀ x ∈ ns, x ≤ m) → Q (.int m) H) := rfl
end
end L2

set_option Elab.async false
set_option linter.all false
set_option maxRecDepth 100000
set_option maxHeartbeats 4000000
/-! tuples: joined, cut, walked with their numbers -/
namespace L2
open PySem PySem.Spec PyProof.Rows
section
variable {prog : Program} {w : World} {A : Around} {E : Value → Shared → Prop} {s : Shared}
/-- t + u, t empty -/
theorem cat_tup0 {t b : Addr} {ws : List Value} {Q : Value → Shared → Prop} (ht : IsTup s.heap t #[]) (hb : IsTup s.heap b ws.toArray) (h : Q (.ref b) s) : wpAny (model prog w) A (binaryOp .Add (.ref t) (.ref b)) Q E s := by
  obtain ⟨⟨c1, d1, x1, l1⟩, g1, k1, n1, z1⟩ := id ht
  obtain ⟨⟨c2, d2, x2, l2⟩, g2, k2, n2, z2⟩ := id hb
  simp only at k1 z1 k2 z2
  subst k1 z1 k2 z2
  exact concat_meets ⟨_, g1, rfl⟩ ⟨_, g2, rfl⟩ PySem.noFill_tuple_add PySem.seq_tuple_add PySem.F.slot_tuple_add PySem.F.entry_tuple_add (PySem.F.args_tuple_add_2 _ _) (tuple_addW0 t b #[] ws.toArray n1 n2 d1 d2 l1 l2 rfl) ⟨g1, g2, h⟩
end
section
variable {X : Cx}
/-- t + u: some tuple of all items -/
def rCatU (K : PySem.W.Frag) : R2 := fun x y H Q => ∃ a b xs ys, x = .ref a ∧ y = .ref b ∧ SqT K H a xs ∧ SqT K H b ys ∧ xs.length + ys.length ≤ sizeLine ∧ ∀ p H', Same H H' → SqT K H' p (xs ++ ys) → Q (.ref p) H'
theorem op_catU : OpR X (binaryOp .Add) (rCatU X.K) := by
  intro pins s σ H x y v u Q I rx ry h
  obtain ⟨a, b, xs, ys, rfl, rfl, ha, hb, hz, q⟩ := h
  by_cases hx : xs = []
  · subst hx
    cases rx
    cases ry
    obtain ⟨its, r1, p1, _⟩ := I.tuple ha
    obtain ⟨its2, r2, p2, _⟩ := I.tuple hb
    cases r1
    exact cat_tup0 p1 p2 ⟨.ref b, H, I, rfl, q b H (Same.refl _) hb⟩
  · refine op_catT pins s σ H (.ref a) (.ref b) v u Q I rx ry ⟨a, b, xs, ys, rfl, rfl, ha, hb, hx, hz, fun e => ?_, fun _ p hp => ?_⟩
    · subst e
      exact q a H (Same.refl _) (by rw [List.append_nil]; exact ha)
    · exact q p _ (Same.upd_new hp) (SqT.of upd_same)
/-- t[lo:hi]: some tuple of the items -/
def rSlU (K : PySem.W.Frag) : V → Option Int → Option Int → Hp → VK → Prop := fun x lo hi H Q => ∃ a xs, x = .ref a ∧ SqT K H a xs ∧ ∀ p H', Same H H' → SqT K H' p (cutV xs lo hi) → Q (.ref p) H'
end
section
variable {prog : Program} {w : World} {A : Around} {E : Value → Shared → Prop} {s : Shared}
theorem cut_whole {t sl : Addr} {items : Array Value} {vl vu : Value} {lo hi : Option Int} {Q : Value → Shared → Prop} (ht : IsTup s.heap t items) (hs : s.heap.IsSliceOf sl vl vu .none) (pl : IsPart vl lo) (pu : IsPart vu hi)
    (h1 : HT.sIx items.size 0 lo = 0) (h2 : HT.sIx items.size items.size hi = items.size) (h : Q (.ref t) s) : wpAny (model prog w) A (getItem (.ref t) (.ref sl)) Q E s := by
  obtain ⟨ob, g1, g2, g3⟩ := id hs
  have hT : s.TypeIs (.ref sl) "slice" := ⟨ob, g1, g2⟩
  unfold getItem
  try with_reducible refine wpAny_holding ?_
  first | refine wpAny_bind (wpAny_pure ?_) | skip
  refine wpAny_bind (wpAny_sequenceKey ht.typeIs (by decide) ?_)
  have key : wpAny (model prog w) A.in1 (Builtin.«tuple.__getitem__» ⟨[.ref t, .ref sl], []⟩) (fun fin s' => ∃ v, fin = .done (.ret v) ∧ Q v s') E s := by
    show wpAny _ _ (Builtin.Tuple.tupleItemsOf (.ref t) >>= _) _ _ s
    refine wpAny_bind (PyProof.Rows.tupleItemsOf_ ht (wpAny_bind (wpAny_typeOf hT ?_)))
    rw [if_pos (by decide)]
    refine wpAny_bind (HT.sliceApplied_gen hs pl pu ?_)
    rw [h1, h2]
    show wpAny _ _ (if ((((0 : Nat) : Int) == 0 && (1 : Int) == 1 && (items.size - 0) == items.size)) = true then _ else _) _ _ s
    rw [if_pos (by simp)]
    refine wpAny_bind (wpAny_bind (wpAny_typeOf ht.typeIs (wpAny_pure ?_)))
    rw [if_pos (by decide)]
    exact wpAny_bind (wpAny_rule (wpAny_pure ⟨_, rfl, h⟩))
  exact wpAny_bind (wpAny_callSpecial?_slot (name := Str.ofString "__getitem__") ht.typeIs PyProof.Rows.slot_tuple_getitem (wpAny_call_entry PyProof.Rows.slot_tuple_getitem ht.typeIs PyProof.Rows.entry_tuple_getitem (wpAny_mono key (fun fin s' ⟨v, e, q⟩ => ⟨v, e, wpAny_pure q⟩) fun _ _ z => z) (PyProof.Rows.args_tuple_getitem _ _)))
end
section
variable {X : Cx}
theorem cutV_whole {xs : List V} {lo hi : Option Int} (h1 : HT.sIx xs.length 0 lo = 0) (h2 : HT.sIx xs.length xs.length hi = xs.length) : cutV xs lo hi = xs := by
  unfold cutV
  rw [h1, h2, List.drop_zero, Nat.sub_zero, List.take_length]
theorem sl_tupU : SlR X (rSlU X.K) := by
  intro pins s σ H x v vl vu lo hi sl Q I rx hs pl pu h
  obtain ⟨a, xs, rfl, hx, q⟩ := h
  by_cases hw : HT.sIx xs.length 0 lo = 0 ∧ HT.sIx xs.length xs.length hi = xs.length
  · cases rx
    obtain ⟨its, r, ht, hz⟩ := I.tuple hx
    have hlen : its.toArray.size = xs.length := by rw [List.size_toArray]; exact r.length.symm
    refine ⟨"tuple", _, PyProof.Rows.slot_tuple_getitem.lookup, ht.typeIs, cut_whole ht hs pl pu (by rw [hlen]; exact hw.1) (by rw [hlen]; exact hw.2) ⟨.ref a, H, I, rfl, q a H (Same.refl _) ?_⟩⟩
    rw [cutV_whole hw.1 hw.2]
    exact hx
  · exact sl_tup pins s σ H (.ref a) v vl vu lo hi sl Q I rx hs pl pu ⟨a, xs, rfl, hx, hw, fun p hp => q p _ (Same.upd_new hp) (SqT.of upd_same)⟩
def uAddW (K : PySem.W.Frag) : R2 := fun x y H Q => match x, y with
  | .int i, .int j => Q (.int (i + j)) H
  | .str i, .str j => i.length + j.length ≤ sizeLine ∧ Q (.str (i ++ j)) H
  | .ref a, .ref b => (∃ xs zs, SqL K H a xs ∧ SqL K H b zs ∧ xs.length + zs.length ≤ sizeLine ∧ ∀ p, H p = none → Q (.ref p) (upd H p (.lst (xs ++ zs)))) ∨
      (∃ xs zs, SqT K H a xs ∧ SqT K H b zs ∧ xs.length + zs.length ≤ sizeLine ∧ ∀ p H', Same H H' → SqT K H' p (xs ++ zs) → Q (.ref p) H')
  | _, _ => False
theorem o_addW : OpR X (binaryOp .Add) (uAddW X.K) := ((op_add.or op_add_str).or (op_catL.or op_catU)).imp fun x y H Q q => by
  unfold uAddW at q
  split at q
  · exact .inl (.inl ⟨_, _, rfl, rfl, q⟩)
  · exact .inl (.inr ⟨_, _, rfl, rfl, q.1, q.2⟩)
  · rcases q with ⟨xs, zs, h1, h2, h3, h4⟩ | ⟨xs, zs, h1, h2, h3, h4⟩
    · exact .inr (.inl ⟨_, _, xs, zs, rfl, rfl, h1, h2, h3, h4⟩)
    · exact .inr (.inr ⟨_, _, xs, zs, rfl, rfl, h1, h2, h3, h4⟩)
  · exact q.elim
theorem k_addW (K : PySem.W.Frag) (h : X.K = K) : OpR X (binaryOp .Add) (uAddW K) := h ▸ o_addW
def uSlW (K : PySem.W.Frag) : V → Option Int → Option Int → Hp → VK → Prop := fun x lo hi H Q => match x with
  | .str z => z.length ≤ sizeLine ∧ Q (.str (cutS z lo hi)) H
  | .ref a => (∃ xs, SqL K H a xs ∧ ∀ p, H p = none → Q (.ref p) (upd H p (.lst (cutV xs lo hi)))) ∨ (∃ xs, SqT K H a xs ∧ ∀ p H', Same H H' → SqT K H' p (cutV xs lo hi) → Q (.ref p) H')
  | _ => False
theorem o_slW : SlR X (uSlW X.K) := by
  intro pins s σ H x v vl vu lo hi sl Q I rx hs pl pu q
  unfold uSlW at q
  split at q
  · exact sl_str pins s σ H _ v vl vu lo hi sl Q I rx hs pl pu ⟨_, rfl, q.1, q.2⟩
  · rcases q with ⟨xs, h1, h2⟩ | ⟨xs, h1, h2⟩
    · exact sl_list pins s σ H _ v vl vu lo hi sl Q I rx hs pl pu ⟨_, xs, rfl, h1, h2⟩
    · exact sl_tupU pins s σ H _ v vl vu lo hi sl Q I rx hs pl pu ⟨_, xs, rfl, h1, h2⟩
  · exact q.elim
theorem k_slW (K : PySem.W.Frag) (h : X.K = K) : SlR X (uSlW K) := h ▸ o_slW
end
section
variable {K : PySem.W.Frag} {H : Hp} {Q : VK} {a b : Addr} {i j : Int} {x y : Str} {lo hi : Option Int}
end
/-! the items of a tuple with their numbers -/
section
open PySem.AutoSeq1 (wpAny_loadPart')
variable {prog : Program} {w : World} {A : Around} {E : Value → Shared → Prop} {s : Shared}
end
section
variable {prog : Program} {w : World} {A : Around} {E : Value → Shared → Prop} {s : Shared}
end
section
variable {prog : Program} {w : World} {A : Around} {E : Value → Shared → Prop} {s : Shared}
end
def Iteu (K : PySem.W.Frag) (a : Addr) : It :=
  ⟨fun i H => ∃ xs x, SqT K H a xs ∧ xs[i]? = some x,
   fun i H v H' => ∃ T x, v = .ref T ∧ H T = none ∧ H' = upd H T (.tup [.int i, x]) ∧ (∀ xs, SqT K H a xs → xs[i]? = some x),
   fun i H => ∃ xs, SqT K H a xs ∧ xs.length ≤ i⟩
def uEnumT (K : PySem.W.Frag) : List V → Hp → (It → Hp → Prop) → Prop := fun vs H R => match vs with
  | [.ref a] => (∃ xs, SqT K H a xs) ∧ R (Iteu K a) H
  | _ => False
end L2

set_option Elab.async false
set_option linter.all false
set_option maxRecDepth 100000
set_option maxHeartbeats 4000000
/-! lists from their ends: tuple(reversed(xs)), list(reversed(xs)), for x in reversed(xs) -/
namespace L2
open PySem PySem.Spec PyProof.Rows
section
variable {prog : Program} {w : World} {A : Around} {E : Value → Shared → Prop} {s : Shared}
end
section
open PySem.AutoSeq1 (wpAny_loadPart')
end
section
variable {prog : Program} {w : World} {A : Around} {E : Value → Shared → Prop} {s : Shared}
end
def tTupRev (K : PySem.W.Frag) (te : TE) : TE := fun σ H Q => te σ H fun x H1 => ∃ a xs, x = .ref a ∧ SqL K H1 a xs ∧ ∀ p, H1 p = none → Q (.ref p) (upd H1 p (.tup xs.reverse))
section
variable {X : Cx} {e : Expr} {te : TE} {p1 p2 pos1 pos2 : Pos}
end
end L2

set_option Elab.async false
set_option linter.all false
set_option maxRecDepth 100000
set_option maxHeartbeats 4000000
/-! writings -/
namespace L2
open PySem PySem.Spec PyProof.Rows
inductive Wr where
  | nothing
  | bead (c : Str)
  | side (b : Bool) (f : Wr)
  | pair (f g : Wr)
  | many (k : Nat) (ps : List Wr)
def mname : Nat → Str
  | 0 => "row"
  | 1 => "bag"
  | 2 => "choice"
  | _ => "ring"
def sname : Bool → Str
  | true => "right"
  | false => "left"
def Wr.name : Wr → Str
  | .nothing => "nothing"
  | .bead _ => "bead"
  | .side b _ => sname b
  | .pair _ _ => "pair"
  | .many k _ => mname k
def Wr.parts : Wr → List Wr
  | .nothing => []
  | .bead _ => []
  | .side _ f => [f]
  | .pair f g => [f, g]
  | .many _ ps => ps
mutual
/-- how many tuples that are writings -/
def Wr.tups : Wr → Nat
  | .nothing => 1
  | .bead _ => 1
  | .side _ f => 1 + f.tups
  | .pair f g => 1 + (f.tups + (g.tups + 0))
  | .many _ ps => 1 + tupsL ps
def tupsL : List Wr → Nat
  | [] => 0
  | w :: ws => w.tups + tupsL ws
end
mutual
/-- how many within one another -/
def Wr.dep : Wr → Nat
  | .nothing => 1
  | .bead _ => 1
  | .side _ f => 1 + f.dep
  | .pair f g => 1 + max f.dep g.dep
  | .many _ ps => 1 + depL ps
def depL : List Wr → Nat
  | [] => 0
  | w :: ws => max w.dep (depL ws)
end
mutual
/-- colours as they may be -/
def Wr.ok : Wr → Bool
  | .nothing => true
  | .bead c => PyData.strOk c
  | .side _ f => f.ok
  | .pair f g => f.ok && g.ok
  | .many _ ps => okL ps
def okL : List Wr → Bool
  | [] => true
  | w :: ws => w.ok && okL ws
end
mutual
/-- a writing at a value -/
inductive RepW (K : PySem.W.Frag) (H : Hp) : Wr → V → Prop
  | nothing {a : Addr} : SqT K H a [.str "nothing"] → RepW K H .nothing (.ref a)
  | bead {a : Addr} {c : Str} : SqT K H a [.str "bead", .str c] → RepW K H (.bead c) (.ref a)
  | side {a : Addr} {b : Bool} {f : Wr} {v : V} : SqT K H a [.str (sname b), v] → RepW K H f v → RepW K H (.side b f) (.ref a)
  | pair {a : Addr} {f g : Wr} {v u : V} : SqT K H a [.str "pair", v, u] → RepW K H f v → RepW K H g u → RepW K H (.pair f g) (.ref a)
  | many {a p : Addr} {k : Nat} {ps : List Wr} {vs : List V} : SqT K H a [.str (mname k), .ref p] → SqT K H p vs → RepsW K H ps vs → RepW K H (.many k ps) (.ref a)
inductive RepsW (K : PySem.W.Frag) (H : Hp) : List Wr → List V → Prop
  | nil : RepsW K H [] []
  | cons {w : Wr} {v : V} {ws : List Wr} {vs : List V} : RepW K H w v → RepsW K H ws vs → RepsW K H (w :: ws) (v :: vs)
end
/-- the tuples stay -/
def SameT (K : PySem.W.Frag) (H H' : Hp) : Prop := ∀ a xs, SqT K H a xs → SqT K H' a xs
theorem SameT.refl {K : PySem.W.Frag} (H : Hp) : SameT K H H := fun _ _ h => h
theorem SameT.trans {K : PySem.W.Frag} {H H1 H2 : Hp} (h : SameT K H H1) (k : SameT K H1 H2) : SameT K H H2 := fun a xs q => k a xs (h a xs q)
theorem Same.tups {K : PySem.W.Frag} {H H' : Hp} (e : Same H H') : SameT K H H' := fun _ _ h => e.sq h
theorem SameT.lst {K : PySem.W.Frag} {H : Hp} {l : Addr} {ys zs : List V} (h : H l = some (.lst ys)) : SameT K H (upd H l (.lst zs)) := fun a xs q => by
  rcases q with (q | ⟨o, q⟩) | q
  · refine .inl (.inl ?_)
    rw [upd_ne (ne_of q h (by intro z; cases z))]; exact q
  · refine .inl (.inr ⟨o, ?_⟩)
    rw [upd_ne (ne_of q h (by intro z; cases z))]; exact q
  · exact .inr q
section
variable {K : PySem.W.Frag} {H H' : Hp}
mutual
theorem RepW.same (e : SameT K H H') : ∀ {w : Wr} {v : V}, RepW K H w v → RepW K H' w v
  | _, _, .nothing h => .nothing (e _ _ h)
  | _, _, .bead h => .bead (e _ _ h)
  | _, _, .side h r => .side (e _ _ h) (RepW.same e r)
  | _, _, .pair h r r' => .pair (e _ _ h) (RepW.same e r) (RepW.same e r')
  | _, _, .many h h' r => .many (e _ _ h) (e _ _ h') (RepsW.same e r)
theorem RepsW.same (e : SameT K H H') : ∀ {ws : List Wr} {vs : List V}, RepsW K H ws vs → RepsW K H' ws vs
  | _, _, .nil => .nil
  | _, _, .cons h r => .cons (RepW.same e h) (RepsW.same e r)
end
theorem RepsW.length : ∀ {ws : List Wr} {vs : List V}, RepsW K H ws vs → ws.length = vs.length
  | _, _, .nil => rfl
  | _, _, .cons _ r => by rw [List.length_cons, List.length_cons, r.length]
theorem RepsW.app : ∀ {ws us : List Wr} {vs xs : List V}, RepsW K H ws vs → RepsW K H us xs → RepsW K H (ws ++ us) (vs ++ xs)
  | _, _, _, _, .nil, s => s
  | _, _, _, _, .cons h r, s => .cons h (RepsW.app r s)
theorem RepsW.one {w : Wr} {v : V} (h : RepW K H w v) : RepsW K H [w] [v] := .cons h .nil
theorem RepsW.get : ∀ {ws : List Wr} {vs : List V} {i : Nat} {v : V}, RepsW K H ws vs → vs[i]? = some v → ∃ w, ws[i]? = some w ∧ RepW K H w v
  | _, _, _, _, .nil, e => by simp at e
  | _, _, 0, _, .cons h _, e => by simp at e; subst e; exact ⟨_, rfl, h⟩
  | _, _, i + 1, _, .cons _ r, e => by simp at e; simpa using RepsW.get r e
theorem RepsW.dropLast {ws : List Wr} {vs : List V} (h : RepsW K H ws vs) : RepsW K H ws.dropLast vs.dropLast := by
  induction ws generalizing vs with
  | nil => cases h; exact .nil
  | cons w ws ih =>
    cases h with
    | cons h r =>
      cases r with
      | nil => exact .nil
      | cons h2 r2 => exact .cons h (ih (.cons h2 r2))
theorem RepsW.mem : ∀ {ws : List Wr} {vs : List V} {v : V}, RepsW K H ws vs → v ∈ vs → ∃ w, w ∈ ws ∧ RepW K H w v
  | _, _, _, .cons h r, m => by
    rcases List.mem_cons.mp m with rfl | m
    · exact ⟨_, List.mem_cons_self .., h⟩
    · obtain ⟨w, hw, rw⟩ := RepsW.mem r m
      exact ⟨w, List.mem_cons_of_mem _ hw, rw⟩
end
mutual
def Wr.toD : Wr → PyData
  | .nothing => .tuple [.str "nothing"]
  | .bead c => .tuple [.str "bead", .str c]
  | .side b f => .tuple [.str (sname b), f.toD]
  | .pair f g => .tuple [.str "pair", f.toD, g.toD]
  | .many k ps => .tuple [.str (mname k), .tuple (toDL ps)]
def toDL : List Wr → List PyData
  | [] => []
  | w :: ws => w.toD :: toDL ws
end
section
variable {K : PySem.W.Frag} {H : Hp}
mutual
theorem RepW.rep : ∀ {w : Wr} {v : V}, RepW K H w v → Rep K H w.toD v
  | _, _, .nothing h => .tup h (.cons (.str _) .nil)
  | _, _, .bead h => .tup h (.cons (.str _) (.cons (.str _) .nil))
  | _, _, .side h r => .tup h (.cons (.str _) (.cons (RepW.rep r) .nil))
  | _, _, .pair h r r' => .tup h (.cons (.str _) (.cons (RepW.rep r) (.cons (RepW.rep r') .nil)))
  | _, _, .many h h' r => .tup h (.cons (.str _) (.cons (.tup h' (RepsW.reps r)) .nil))
theorem RepsW.reps : ∀ {ws : List Wr} {vs : List V}, RepsW K H ws vs → Reps K H (toDL ws) vs
  | _, _, .nil => .nil
  | _, _, .cons h r => .cons (RepW.rep h) (RepsW.reps r)
end
end
theorem ok_sname (b : Bool) : PyData.strOk (sname b) = true := by cases b <;> decide +kernel
theorem ok_mname : ∀ k, PyData.strOk (mname k) = true
  | 0 => by decide +kernel
  | 1 => by decide +kernel
  | 2 => by decide +kernel
  | k + 3 => by show PyData.strOk "ring" = true; decide +kernel
mutual
theorem Wr.can : ∀ w : Wr, w.ok = true → w.toD.canLay0 = true
  | .nothing, _ => by simp only [Wr.toD, PyData.canLay0, PyData.canLayAll0]; decide +kernel
  | .bead c, h => by simp only [Wr.toD, PyData.canLay0, PyData.canLayAll0, Bool.and_true]; simp only [Wr.ok] at h; rw [h]; decide +kernel
  | .side b f, h => by
    simp only [Wr.ok] at h
    simp only [Wr.toD, PyData.canLay0, PyData.canLayAll0, Bool.and_true, ok_sname, f.can h]
  | .pair f g, h => by
    simp only [Wr.ok, Bool.and_eq_true] at h
    simp only [Wr.toD, PyData.canLay0, PyData.canLayAll0, Bool.and_true, f.can h.1, g.can h.2]
    decide +kernel
  | .many k ps, h => by
    simp only [Wr.ok] at h
    simp only [Wr.toD, PyData.canLay0, PyData.canLayAll0, Bool.and_true, ok_mname, canL ps h]
theorem canL : ∀ ws : List Wr, okL ws = true → PyData.canLayAll0 (toDL ws) = true
  | [], _ => by simp only [toDL, PyData.canLayAll0]
  | w :: ws, h => by
    simp only [okL, Bool.and_eq_true] at h
    simp only [toDL, PyData.canLayAll0, w.can h.1, canL ws h.2, Bool.and_true]
end
mutual
theorem Wr.deep : ∀ w : Wr, w.toD.depth ≤ 2 * w.dep
  | .nothing => by simp [Wr.toD, PyData.depth, PyData.depthAll, Wr.dep]
  | .bead c => by simp [Wr.toD, PyData.depth, PyData.depthAll, Wr.dep]
  | .side b f => by have := f.deep; simp only [Wr.toD, PyData.depth, PyData.depthAll, Wr.dep]; omega
  | .pair f g => by have := f.deep; have := g.deep; simp only [Wr.toD, PyData.depth, PyData.depthAll, Wr.dep]; omega
  | .many k ps => by have := deepL ps; simp only [Wr.toD, PyData.depth, PyData.depthAll, Wr.dep]; omega
theorem deepL : ∀ ws : List Wr, PyData.depthAll (toDL ws) ≤ 2 * depL ws
  | [] => by simp [toDL, PyData.depthAll, depL]
  | w :: ws => by have := w.deep; have := deepL ws; simp only [toDL, PyData.depthAll, depL]; omega
end
/-- all but what is at l stays -/
def SameX (l : Addr) (H H' : Hp) : Prop := ∀ b o, b ≠ l → H b = some o → H' b = some o
theorem SameX.refl (l : Addr) (H : Hp) : SameX l H H := fun _ _ _ h => h
theorem SameX.trans {l : Addr} {H H1 H2 : Hp} (h : SameX l H H1) (k : SameX l H1 H2) : SameX l H H2 := fun b o n q => k b o n (h b o n q)
theorem Same.x {l : Addr} {H H' : Hp} (h : Same H H') : SameX l H H' := fun b o _ q => h b o q
theorem SameX.upd {l : Addr} {H H' : Hp} {o : HO} (h : SameX l H H') : SameX l H (upd H' l o) := fun b u n q => by rw [upd_ne n]; exact h b u n q
theorem SameX.new {l p : Addr} {H H' : Hp} {o : HO} (h : SameX l H H') (hp : H' p = none) : SameX l H (L2.upd H' p o) := fun b u n q => by
  have := h b u n q
  rw [upd_ne (ne_of_none this hp)]; exact this
theorem SameX.tups {K : PySem.W.Frag} {l : Addr} {H H' : Hp} {ys : List V} (h : SameX l H H') (hl : H l = some (.lst ys)) : SameT K H H' := fun a xs q => by
  rcases q with (q | ⟨o, q⟩) | q
  · exact .inl (.inl (h _ _ (ne_of q hl (by intro z; cases z)) q))
  · exact .inl (.inr ⟨o, h _ _ (ne_of q hl (by intro z; cases z)) q⟩)
  · exact .inr q
/-- where l was not there ahead, all stays -/
theorem SameX.same {l : Addr} {H H' : Hp} (h : SameX l H H') (hl : H l = none) : Same H H' := fun b o q => h b o (ne_of_none q hl) q
/-! a loop over numbers and items, two names given -/
def tn (ps : List Wr) (i : Nat) : Int := ((ps.map Wr.tups).getD i 0 : Nat)
theorem nb_side (b : Bool) : ¬ (decide (sname b = Str.ofString "bead") = true) := by
  cases b
  · show ¬ (decide ((Str.ofString "left") = (Str.ofString "bead")) = true); decide +kernel
  · show ¬ (decide ((Str.ofString "right") = (Str.ofString "bead")) = true); decide +kernel
theorem nb_many : ∀ k, ¬ (decide (mname k = Str.ofString "bead") = true)
  | 0 => by show ¬ (decide ((Str.ofString "row") = (Str.ofString "bead")) = true); decide +kernel
  | 1 => by show ¬ (decide ((Str.ofString "bag") = (Str.ofString "bead")) = true); decide +kernel
  | 2 => by show ¬ (decide ((Str.ofString "choice") = (Str.ofString "bead")) = true); decide +kernel
  | k + 3 => by show ¬ (decide ((Str.ofString "ring") = (Str.ofString "bead")) = true); decide +kernel
theorem nb_pair : ¬ (decide (Str.ofString "pair" = Str.ofString "bead") = true) := by decide +kernel
theorem nb_nothing : ¬ (decide (Str.ofString "nothing" = Str.ofString "bead") = true) := by decide +kernel
theorem SameX.upd_in {a l : Addr} {H H' : Hp} {o : HO} (h : SameX a H H') (hl : H l = none) : SameX a H (L2.upd H' l o) := fun b u n q => by
  rw [upd_ne (ne_of_none q hl)]; exact h b u n q
/-! loops over a tuple, over a list of pairs -/
/-! the part at a path -/
def Wr.step (w : Wr) (j : Int) : Option Wr := if 0 ≤ j then w.parts[j.toNat]? else none
def atP : List Int → Wr → Option Wr
  | [], w => some w
  | j :: js, w => (w.step j).bind (atP js)
/-- pairs of a path and the part there -/
def ItsP (K : PySem.W.Frag) (H : Hp) (W : Wr) (xs : List V) : Prop :=
  ∀ x ∈ xs, ∃ (t p : Addr) (u : V) (ks : List Int) (w : Wr), x = .ref t ∧ SqT K H t [.ref p, u] ∧ SqT K H p (ks.map V.int) ∧ atP ks W = some w ∧ RepW K H w u
theorem ItsP.same {K : PySem.W.Frag} {H H' : Hp} {W : Wr} {xs : List V} (e : SameT K H H') (h : ItsP K H W xs) : ItsP K H' W xs := fun x m => by
  obtain ⟨t, p, u, ks, w, h1, h2, h3, h4, h5⟩ := h x m
  exact ⟨t, p, u, ks, w, h1, e _ _ h2, e _ _ h3, h4, h5.same e⟩
theorem ItsP.app {K : PySem.W.Frag} {H : Hp} {W : Wr} {xs ys : List V} (h : ItsP K H W xs) (k : ItsP K H W ys) : ItsP K H W (xs ++ ys) := fun x m => by
  rcases List.mem_append.mp m with m | m
  · exact h x m
  · exact k x m
end L2

set_option Elab.async false
set_option linter.all false
set_option maxRecDepth 100000
set_option maxHeartbeats 4000000
/-! what a fold without recursion wants: a function held in a name, xs.extend(tuple), a loop over reversed(xs), xs[i:] = ys -/
namespace L2
open PySem PySem.Spec PyProof.Rows
/-! a function held in a name -/
def tCallV (f : Addr) (sp : Sp) (dvs : List V) (E : XK) (tf : TE) (t : TA) : TE := fun σ H Q => tf σ H fun y H0 => y = .ref f ∧ t σ H0 fun vs H1 => sp (vs ++ dvs) H1 Q E
section
variable {X : Cx} {CX : CXT} {k : Nat} {f : Addr} {fd : FuncData} {ps : List Str} {sp : Sp} {x : Str} {ds : List Value} {dvs : List V} {E : XK} {e : Expr} {es : List Expr} {t : TA} {p pos : Pos} {tf : TE}
end
/-! xs.extend(t) -/
section
open PySem.AutoSeq1 (wpAny_loadPart')
theorem extend_tup (l : Addr) (items : Array Value) (n : Nat) (t : Addr) (more : Array Value) (m : Nat) (dd : Option Addr) (sl : Array (Option Value)) (h1 : ¬ (!items.isEmpty && Builtin.List.listTooLong (items.size + more.size)) = true) (h2 : items.size ≤ sizeLine) (h3 : (items ++ more).size ≤ sizeLine + 1) :
    Meets (Builtin.«list.extend» ⟨[.ref l, .ref t], []⟩) (fun _ R s => s.heap.get? l = some { cls := .type "list", data := .seq items n } ∧
      s.heap.get? t = some { cls := .type "tuple", dict := dd, data := .seq more m, slots := sl } ∧ R (.ok (.ret .none)) { s with heap := s.heap.update l (Obj.mapSeq fun x => x ++ more) }) :=
  .of_wp fun prog w A R s ⟨g1, g2, q⟩ => by
    obtain ⟨hp, ge, dr, tk, os⟩ := s
    have a1 := PySem.AutoSeq1.idx_int
    have a2 := PySem.AutoSeq1.sub_tuple_tuple
    have a3 := PySem.AutoSeq1.sub_list_list
    have a4 := PySem.AutoSeq1.sub_tuple_list
    have a5 := PySem.AutoSeq1.sub_list_tuple
    wp_walk using (wpAny_updateSeq g1 rfl (hz := h2) (_hz' := h3)), wpAny_loadPart' g1, wpAny_loadPart' g2
    exact ⟨_, rfl, q⟩
end
section
variable {X : Cx}
def rExtT (K : PySem.W.Frag) : V → List V → Hp → VK → Prop := fun x vs H Q => ∃ l b xs zs, x = .ref l ∧ vs = [.ref b] ∧ H l = some (.lst xs) ∧ SqT K H b zs ∧ xs.length + zs.length ≤ sizeLine ∧ Q .non (upd H l (.lst (xs ++ zs)))
theorem mt_extT : MtM X "list.extend" (rExtT X.K) := by
  intro pins s σ H x vs v us Q I rx rv h
  obtain ⟨l, b, xs, zs, rfl, rfl, hH, hB, hz, q⟩ := h
  cases rx
  obtain ⟨u, rfl, ru⟩ := rv.one
  cases ru
  obtain ⟨z, its, n, r, hl, e⟩ := I.lstM hH
  obtain ⟨its2, r2, ⟨⟨c, dd, dt, sl⟩, e2, k1, m, k2⟩, z2⟩ := I.tuple hB
  simp only at k1 k2
  subst k1 k2
  have hl2 := r2.length
  have hsz : its.toArray.size + its2.toArray.size ≤ sizeLine := by simp only [List.size_toArray]; omega
  refine call_meets F.slot_list_extend ⟨_, e, rfl⟩ F.entry_list_extend (F.args_list_extend_2 _ _) (extend_tup l its.toArray n b its2.toArray m dd sl (by rw [notLongL hsz, Bool.and_false]; decide) (by omega) (by rw [Array.size_append]; omega)) ⟨e, e2, ?_⟩
  refine ⟨.non, _, I.lset (its' := its ++ its2) (t' := s.toks) hH e (by simp) (r.append r2) ?_, rfl, q⟩
  simp only [List.length_append]
  omega
end
/-! for x in reversed(xs) -/
def Itv (K : PySem.W.Frag) (a : Addr) (n : Nat) : It :=
  ⟨fun i H => i < n ∧ ∃ xs x, SqL K H a xs ∧ xs[n - 1 - i]? = some x, fun i H x H' => H' = H ∧ ∀ xs, SqL K H a xs → xs[n - 1 - i]? = some x, fun i _ => i = n⟩
section
variable {X : Cx} {tg e : Expr} {te : TE} {p2 pos2 : Pos}
def jRev (K : PySem.W.Frag) (te : TE) : TI := fun σ H R => te σ H fun x H1 => ∃ a xs, x = .ref a ∧ SqL K H1 a xs ∧ R (Itv K a xs.length) H1
end
end L2
namespace L2
open PySem PySem.Spec PyProof.Rows
/-! xs[i:] = ys -/
section
variable {prog : Program} {w : World} {A : Around} {E : Value → Shared → Prop} {s : Shared}
end
end L2
namespace L2
open PySem PySem.Spec PyProof.Rows
def gTail (to : TE) (tl : TO) : TG := fun v σ H Q => to σ H fun x H1 => tl σ H1 fun l H2 => ∃ (a b : Addr) (xs ys : List V) (i : Int), x = .ref a ∧ v = .ref b ∧ l = some i ∧ H2 a = some (.lst xs) ∧ H2 b = some (.lst ys) ∧ a ≠ b ∧ 0 ≤ i ∧ i ≤ xs.length ∧ xs.length + ys.length ≤ sizeLine ∧
  Q σ (upd H2 a (.lst (xs.take i.toNat ++ ys)))
section
variable {X : Cx} {o : Expr} {lo : Option Expr} {to : TE} {tl : TO} {p2 pos : Pos}
end
end L2
namespace L2
open PySem PySem.Spec PyProof.Rows PySem.MeetsSeq
open PySem.AutoSeq1 (wpAny_loadPart')
section
variable {X : Cx}
def strB (z : Str) : Value → Bool
  | .str s _ => s.cps.toList == z.cps.toList
  | _ => false
/-- xs.index(z), texts in a list or a tuple: the first place -/
def rIdxS (T : V → List Str → Hp → Prop) : V → List V → Hp → VK → Prop := fun x vs H Q => ∃ (ss : List Str) (z : Str) (j : Nat), T x ss H ∧ vs = [.str z] ∧ ss[j]? = some z ∧ (∀ m, m < j → ss[m]? ≠ some z) ∧ Q (.int j) H
end
end L2

set_option Elab.async false
set_option linter.all false
set_option maxRecDepth 100000
set_option maxHeartbeats 4000000
/-! writings in the order of their parts, and a fold by a stack -/
namespace L2
open PySem PySem.Spec PyProof.Rows
mutual
def Wr.post : Wr → List Wr
  | .nothing => [.nothing]
  | .bead c => [.bead c]
  | .side b f => f.post ++ [.side b f]
  | .pair f g => f.post ++ (g.post ++ [.pair f g])
  | .many k ps => postL ps ++ [.many k ps]
def postL : List Wr → List Wr
  | [] => []
  | w :: ws => w.post ++ postL ws
end
/-- each takes its parts from the end, and is put there -/
def Run : List Wr → List Wr → List Wr → Prop
  | S, [], F => S = F
  | S, x :: l, F => ∃ S0, S = S0 ++ x.parts ∧ Run (S0 ++ [x]) l F
mutual
theorem Wr.run : ∀ (w : Wr) (S l F : List Wr), Run (S ++ [w]) l F → Run S (w.post ++ l) F
  | .nothing, S, l, F, h => ⟨S, by simp [Wr.parts], h⟩
  | .bead c, S, l, F, h => ⟨S, by simp [Wr.parts], h⟩
  | .side b f, S, l, F, h => by
    simp only [Wr.post, List.append_assoc]
    exact f.run S _ F ⟨S, by simp [Wr.parts], h⟩
  | .pair f g, S, l, F, h => by
    simp only [Wr.post, List.append_assoc]
    refine f.run S _ F (g.run (S ++ [f]) _ F ⟨S, by simp [Wr.parts], h⟩)
  | .many k ps, S, l, F, h => by
    simp only [Wr.post, List.append_assoc]
    exact runL ps S _ F ⟨S, by simp [Wr.parts], h⟩
theorem runL : ∀ (ws S l F : List Wr), Run (S ++ ws) l F → Run S (postL ws ++ l) F
  | [], S, l, F, h => by simpa [postL] using h
  | w :: ws, S, l, F, h => by
    simp only [postL, List.append_assoc]
    refine w.run S _ F (runL ws (S ++ [w]) l F ?_)
    simpa using h
end
/-! data of tuples, numbers and texts: they stay while lists change -/
mutual
inductive RepT (K : PySem.W.Frag) (H : Hp) : PyData → V → Prop
  | int (i : Int) : RepT K H (.int i) (.int i)
  | str (x : Str) : RepT K H (.str x) (.str x)
  | tup {a : Addr} {xs : List V} {ds : List PyData} : SqT K H a xs → RepsT K H ds xs → RepT K H (.tuple ds) (.ref a)
inductive RepsT (K : PySem.W.Frag) (H : Hp) : List PyData → List V → Prop
  | nil : RepsT K H [] []
  | cons {d : PyData} {v : V} {ds : List PyData} {vs : List V} : RepT K H d v → RepsT K H ds vs → RepsT K H (d :: ds) (v :: vs)
end
section
variable {K : PySem.W.Frag} {H H' : Hp}
mutual
theorem RepT.same (e : SameT K H H') : ∀ {d : PyData} {v : V}, RepT K H d v → RepT K H' d v
  | _, _, .int i => .int i
  | _, _, .str x => .str x
  | _, _, .tup h r => .tup (e _ _ h) (RepsT.same e r)
theorem RepsT.same (e : SameT K H H') : ∀ {ds : List PyData} {vs : List V}, RepsT K H ds vs → RepsT K H' ds vs
  | _, _, .nil => .nil
  | _, _, .cons h r => .cons (RepT.same e h) (RepsT.same e r)
end
mutual
theorem RepT.rep : ∀ {d : PyData} {v : V}, RepT K H d v → Rep K H d v
  | _, _, .int i => .int i
  | _, _, .str x => .str x
  | _, _, .tup h r => .tup h (RepsT.reps r)
theorem RepsT.reps : ∀ {ds : List PyData} {vs : List V}, RepsT K H ds vs → Reps K H ds vs
  | _, _, .nil => .nil
  | _, _, .cons h r => .cons (RepT.rep h) (RepsT.reps r)
end
theorem RepsT.length : ∀ {ds : List PyData} {vs : List V}, RepsT K H ds vs → ds.length = vs.length
  | _, _, .nil => rfl
  | _, _, .cons _ r => by rw [List.length_cons, List.length_cons, RepsT.length r]
theorem RepsT.app : ∀ {ds es : List PyData} {vs us : List V}, RepsT K H ds vs → RepsT K H es us → RepsT K H (ds ++ es) (vs ++ us)
  | _, _, _, _, .nil, s => s
  | _, _, _, _, .cons h r, s => .cons h (RepsT.app r s)
theorem RepsT.one {d : PyData} {v : V} (h : RepT K H d v) : RepsT K H [d] [v] := .cons h .nil
theorem RepsT.split : ∀ {ds es : List PyData} {vs : List V}, RepsT K H (ds ++ es) vs → ∃ us ws, vs = us ++ ws ∧ RepsT K H ds us ∧ RepsT K H es ws
  | [], es, vs, h => ⟨[], vs, rfl, .nil, h⟩
  | d :: ds, es, _, .cons h r => by
    obtain ⟨us, ws, rfl, h1, h2⟩ := RepsT.split r
    exact ⟨_ :: us, ws, rfl, .cons h h1, h2⟩
theorem RepsT.get : ∀ {ds : List PyData} {vs : List V} {i : Nat} {v : V}, RepsT K H ds vs → vs[i]? = some v → ∃ d, ds[i]? = some d ∧ RepT K H d v
  | _, _, _, _, .nil, e => by simp at e
  | _, _, 0, _, .cons h _, e => by simp at e; subst e; exact ⟨_, rfl, h⟩
  | _, _, i + 1, _, .cons _ r, e => by simp at e; simpa using RepsT.get r e
theorem RepsT.ints : ∀ {ns : List Int} {vs : List V}, RepsT K H (ns.map PyData.int) vs → vs = ns.map V.int
  | [], _, .nil => rfl
  | n :: ns, _, .cons h r => by
    cases h
    rw [List.map_cons, RepsT.ints r]
end
theorem cut_from {us ws : List V} : cutV (us ++ ws) (some (us.length : Int)) none = ws := by
  unfold cutV
  rw [HT.sIx_nat, HT.sIx_none, List.length_append, Nat.min_eq_left (by omega), List.drop_left, Nat.add_sub_cancel_left, List.take_length]
theorem Wr.nb (w : Wr) (h : ∀ c, w ≠ .bead c) : ¬ (decide (w.name = Str.ofString "bead") = true) := by
  cases w with
  | bead c => exact absurd rfl (h c)
  | nothing => exact nb_nothing
  | side b f => exact nb_side b
  | pair f g => exact nb_pair
  | many k ps => exact nb_many k
mutual
def Wr.size : Wr → Nat
  | .nothing => 0
  | .bead _ => 1
  | .side _ f => f.size
  | .pair f g => f.size + (g.size + 0)
  | .many _ ps => sizeL ps
def sizeL : List Wr → Nat
  | [] => 0
  | w :: ws => w.size + sizeL ws
end
def sizeD (w : Wr) : PyData := .int w.size
/-! keys -/
def Wr.kidx : Wr → Nat
  | .nothing => 0
  | .bead _ => 1
  | .side b _ => if b then 3 else 2
  | .pair _ _ => 4
  | .many k _ => match k with | 0 => 5 | 1 => 6 | 2 => 7 | _ => 8
def kindS : List Str := ["nothing", "bead", "left", "right", "pair", "row", "bag", "choice", "ring"]
mutual
def Wr.keyD : Wr → PyData
  | .nothing => .tuple [.int 0, .int 0]
  | .bead c => .tuple [.int 1, .int 1, .str c]
  | .side b f => .tuple [.int f.size, .int (Wr.side b f).kidx, f.keyD]
  | .pair f g => .tuple [.int (Wr.pair f g).size, .int 4, f.keyD, g.keyD]
  | .many k ps => .tuple (.int (sizeL ps) :: .int (Wr.many k ps).kidx :: keyDL ps)
def keyDL : List Wr → List PyData
  | [] => []
  | w :: ws => w.keyD :: keyDL ws
end
def szn (ps : List Wr) (i : Nat) : Int := ((ps.map Wr.size).getD i 0 : Nat)
theorem RepsT.of {K : PySem.W.Frag} {H : Hp} : ∀ {ds : List PyData} {vs : List V}, vs.length = ds.length → (∀ (i : Nat) y d, vs[i]? = some y → ds[i]? = some d → RepT K H d y) → RepsT K H ds vs
  | [], [], _, _ => .nil
  | d :: ds, v :: vs, h, hr => .cons (hr 0 v d rfl rfl) (RepsT.of (by simpa using h) fun i y e h1 h2 => hr (i + 1) y e (by simpa using h1) (by simpa using h2))
end L2

set_option Elab.async false
set_option linter.all false
set_option maxRecDepth 100000
set_option maxHeartbeats 4000000
/-! tuples taken as values: a heap without them, and readings over it -/
namespace L2
open PySem PySem.Spec PyProof.Rows
/-- a value: tuples by what is in them, all else by its address -/
inductive U where
  | non | bl (b : Bool) | int (i : Int) | str (x : Str) | ty (n : String) | tup (xs : List U) | rol (xs : List U) | ref (a : Addr)
/-- a list that is never written: known to the object, or of the module -/
def SqR (K : PySem.W.Frag) (H : Hp) (a : Addr) (xs : List V) : Prop := (∃ o, H a = some (.frz o (.lst xs))) ∨
    ∃ (o : Obj) (its : Array Value) (n : Nat), K.lookup a = some o ∧ o.cls = .type "list" ∧ o.dict = none ∧ o.data = .seq its n ∧ its.size ≤ sizeLine ∧ Vals xs its.toList
theorem SqR.sq {K : PySem.W.Frag} {H : Hp} {a : Addr} {xs : List V} (h : SqR K H a xs) : SqL K H a xs := by
  rcases h with h | h
  · exact .inl (.inr h)
  · exact .inr h
/-- tuples and such lists stay -/
structure Kp (K : PySem.W.Frag) (H H' : Hp) : Prop where
  t : SameT K H H'
  r : ∀ a xs, SqR K H a xs → SqR K H' a xs
theorem Kp.refl {K : PySem.W.Frag} (H : Hp) : Kp K H H := ⟨fun _ _ h => h, fun _ _ h => h⟩
theorem Kp.trans {K : PySem.W.Frag} {H H1 H2 : Hp} (h : Kp K H H1) (k : Kp K H1 H2) : Kp K H H2 := ⟨h.t.trans k.t, fun a xs q => k.r a xs (h.r a xs q)⟩
theorem Same.kp {K : PySem.W.Frag} {H H' : Hp} (e : Same H H') : Kp K H H' := ⟨e.tups, fun a xs q => by
  rcases q with ⟨o, q⟩ | q
  · exact .inl ⟨o, e _ _ q⟩
  · exact .inr q⟩
theorem Kp.lst {K : PySem.W.Frag} {H : Hp} {l : Addr} {ys zs : List V} (h : H l = some (.lst ys)) : Kp K H (upd H l (.lst zs)) := ⟨SameT.lst h, fun a xs q => by
  rcases q with ⟨o, q⟩ | q
  · exact .inl ⟨o, by rw [upd_ne (ne_of q h (by intro z; cases z))]; exact q⟩
  · exact .inr q⟩
theorem Kp.ins {K : PySem.W.Frag} {H : Hp} {l C dx : Addr} {fs : List (Str × V)} {o' : HO} (h : H l = some (.ins C dx fs)) : Kp K H (upd H l o') := ⟨fun a xs q => by
  rcases q with (q | ⟨o, q⟩) | q
  · exact .inl (.inl (by rw [upd_ne (ne_of q h (by intro z; cases z))]; exact q))
  · exact .inl (.inr ⟨o, by rw [upd_ne (ne_of q h (by intro z; cases z))]; exact q⟩)
  · exact .inr q, fun a xs q => by
  rcases q with ⟨o, q⟩ | q
  · exact .inl ⟨o, by rw [upd_ne (ne_of q h (by intro z; cases z))]; exact q⟩
  · exact .inr q⟩
mutual
inductive RU (K : PySem.W.Frag) (H : Hp) : U → V → Prop
  | non : RU K H .non .non
  | bl (b : Bool) : RU K H (.bl b) (.bl b)
  | int (i : Int) : RU K H (.int i) (.int i)
  | str (x : Str) : RU K H (.str x) (.str x)
  | ty (n : String) : RU K H (.ty n) (.ty n)
  | ref (a : Addr) : RU K H (.ref a) (.ref a)
  | tup {a : Addr} {vs : List V} {us : List U} : SqT K H a vs → RUs K H us vs → RU K H (.tup us) (.ref a)
  | rol {a : Addr} {vs : List V} {us : List U} : SqR K H a vs → RUs K H us vs → RU K H (.rol us) (.ref a)
inductive RUs (K : PySem.W.Frag) (H : Hp) : List U → List V → Prop
  | nil : RUs K H [] []
  | cons {u : U} {v : V} {us : List U} {vs : List V} : RU K H u v → RUs K H us vs → RUs K H (u :: us) (v :: vs)
end
section
variable {K : PySem.W.Frag} {H H' : Hp}
mutual
theorem RU.same (e : Kp K H H') : ∀ {u : U} {v : V}, RU K H u v → RU K H' u v
  | _, _, .non => .non
  | _, _, .bl b => .bl b
  | _, _, .int i => .int i
  | _, _, .str x => .str x
  | _, _, .ty n => .ty n
  | _, _, .ref a => .ref a
  | _, _, .tup h r => .tup (e.t _ _ h) (RUs.same e r)
  | _, _, .rol h r => .rol (e.r _ _ h) (RUs.same e r)
theorem RUs.same (e : Kp K H H') : ∀ {us : List U} {vs : List V}, RUs K H us vs → RUs K H' us vs
  | _, _, .nil => .nil
  | _, _, .cons h r => .cons (RU.same e h) (RUs.same e r)
end
theorem RUs.length : ∀ {us : List U} {vs : List V}, RUs K H us vs → us.length = vs.length
  | _, _, .nil => rfl
  | _, _, .cons _ r => by rw [List.length_cons, List.length_cons, r.length]
theorem RUs.app : ∀ {us ws : List U} {vs xs : List V}, RUs K H us vs → RUs K H ws xs → RUs K H (us ++ ws) (vs ++ xs)
  | _, _, _, _, .nil, s => s
  | _, _, _, _, .cons h r, s => .cons h (RUs.app r s)
theorem RUs.one {u : U} {v : V} (h : RU K H u v) : RUs K H [u] [v] := .cons h .nil
theorem RUs.get : ∀ {us : List U} {vs : List V} {i : Nat} {v : V}, RUs K H us vs → vs[i]? = some v → ∃ u, us[i]? = some u ∧ RU K H u v
  | _, _, _, _, .nil, e => by simp at e
  | _, _, 0, _, .cons h _, e => by simp at e; subst e; exact ⟨_, rfl, h⟩
  | _, _, i + 1, _, .cons _ r, e => by simp at e; simpa using RUs.get r e
theorem RUs.get' : ∀ {us : List U} {vs : List V} {i : Nat} {u : U}, RUs K H us vs → us[i]? = some u → ∃ v, vs[i]? = some v ∧ RU K H u v
  | _, _, _, _, .nil, e => by simp at e
  | _, _, 0, _, .cons h _, e => by simp at e; subst e; exact ⟨_, rfl, h⟩
  | _, _, i + 1, _, .cons _ r, e => by simp at e; simpa using RUs.get' r e
theorem RUs.take : ∀ {us : List U} {vs : List V} (n : Nat), RUs K H us vs → RUs K H (us.take n) (vs.take n)
  | _, _, 0, _ => .nil
  | _, _, _ + 1, .nil => .nil
  | _, _, n + 1, .cons r t => .cons r (RUs.take n t)
theorem RUs.drop : ∀ {us : List U} {vs : List V} (n : Nat), RUs K H us vs → RUs K H (us.drop n) (vs.drop n)
  | _, _, 0, r => r
  | _, _, _ + 1, .nil => .nil
  | _, _, n + 1, .cons _ t => RUs.drop n t
theorem RUs.dropLast {us : List U} {vs : List V} (h : RUs K H us vs) : RUs K H us.dropLast vs.dropLast := by
  rw [List.dropLast_eq_take, List.dropLast_eq_take, h.length]; exact h.take _
theorem RUs.set {u : U} {v : V} (h : RU K H u v) : ∀ {us : List U} {vs : List V} (i : Nat), RUs K H us vs → RUs K H (us.set i u) (vs.set i v)
  | _, _, _, .nil => .nil
  | _, _, 0, .cons _ t => .cons h t
  | _, _, i + 1, .cons q t => .cons q (RUs.set h i t)
theorem RUs.ints : ∀ {ns : List Int} {vs : List V}, RUs K H (ns.map U.int) vs → vs = ns.map V.int
  | [], _, .nil => rfl
  | n :: ns, _, .cons h r => by cases h; rw [List.map_cons, RUs.ints r]
theorem RUs.strs : ∀ {ns : List Str} {vs : List V}, RUs K H (ns.map U.str) vs → vs = ns.map V.str
  | [], _, .nil => rfl
  | n :: ns, _, .cons h r => by cases h; rw [List.map_cons, RUs.strs r]
theorem RUs.of_ints : ∀ {ns : List Int}, RUs K H (ns.map U.int) (ns.map V.int)
  | [] => .nil
  | n :: ns => .cons (.int n) RUs.of_ints
end
/-- what stands at an address, tuples taken as values -/
inductive AO where
  | lst (us : List U) | ins (C dx : Addr) (fs : List (Str × U)) | oth (φ : PySem.W.Frag → Hp → Addr → Prop)
abbrev AHp := Addr → Option AO
def updA (A : AHp) (a : Addr) (o : AO) : AHp := fun b => if b = a then some o else A b
theorem updA_same {A : AHp} {a : Addr} {o : AO} : updA A a o a = some o := by unfold updA; rw [if_pos rfl]
theorem updA_ne {A : AHp} {a b : Addr} {o : AO} (h : b ≠ a) : updA A a o b = A b := by unfold updA; rw [if_neg h]
theorem updA_updA {A : AHp} {a : Addr} {o u : AO} : updA (updA A a o) a u = updA A a u := by funext b; unfold updA; split <;> rfl
def RFs (K : PySem.W.Frag) (H : Hp) (fs : List (Str × U)) (gs : List (Str × V)) : Prop := fs.map (·.1) = gs.map (·.1) ∧ RUs K H (fs.map (·.2)) (gs.map (·.2))
def RO (K : PySem.W.Frag) (H : Hp) (a : Addr) : AO → Prop
  | .lst us => ∃ vs, H a = some (.lst vs) ∧ RUs K H us vs
  | .ins C dx fs => ∃ gs, H a = some (.ins C dx gs) ∧ RFs K H fs gs
  | .oth φ => (∃ o, H a = some o) ∧ φ K H a ∧ ∀ H1 H2, φ K H1 a → Kp K H1 H2 → H2 a = H1 a → φ K H2 a
def HR (K : PySem.W.Frag) (H : Hp) (A : AHp) : Prop := ∀ a o, A a = some o → RO K H a o
section
variable {K : PySem.W.Frag} {H H' : Hp} {A : AHp} {a : Addr}
theorem RO.keep {b : Addr} {o : AO} (t : Kp K H H') (e : H' b = H b) (h : RO K H b o) : RO K H' b o := by
  cases o with
  | lst us => obtain ⟨vs, h1, h2⟩ := h; exact ⟨vs, by rw [e]; exact h1, h2.same t⟩
  | ins C dx fs => obtain ⟨gs, h1, h2, h3⟩ := h; exact ⟨gs, by rw [e]; exact h1, h2, h3.same t⟩
  | oth φ => obtain ⟨h0, h1, h2⟩ := h; exact ⟨by rw [e]; exact h0, h2 _ _ h1 t e, h2⟩
theorem HR.grow (t : Same H H') (h : HR K H A) : HR K H' A := fun a o e => by
  have q := h a o e
  cases o with
  | lst us => obtain ⟨vs, h1, h2⟩ := q; exact ⟨vs, t _ _ h1, h2.same t.kp⟩
  | ins C dx fs => obtain ⟨gs, h1, h2, h3⟩ := q; exact ⟨gs, t _ _ h1, h2, h3.same t.kp⟩
  | oth φ => obtain ⟨⟨o, h0⟩, h1, h2⟩ := q; exact ⟨⟨o, t _ _ h0⟩, h2 _ _ h1 t.kp (by rw [h0]; exact t _ _ h0), h2⟩
theorem HR.none (h : HR K H A) (e : H a = none) : A a = none := by
  cases q : A a with
  | none => rfl
  | some o =>
    have := h a o q
    cases o with
    | lst us => obtain ⟨vs, h1, _⟩ := this; rw [e] at h1; cases h1
    | ins C dx fs => obtain ⟨vs, h1, _⟩ := this; rw [e] at h1; cases h1
    | oth φ => obtain ⟨⟨_, h1⟩, _⟩ := this; rw [e] at h1; cases h1
/-- a new list -/
theorem HR.newL {us : List U} {vs : List V} (h : HR K H A) (e : H a = Option.none) (r : RUs K H us vs) : HR K (upd H a (.lst vs)) (updA A a (.lst us)) := fun b o q => by
  have s := Same.upd_new (o := .lst vs) e
  by_cases hb : b = a
  · subst hb
    rw [updA_same] at q
    cases q
    exact ⟨vs, upd_same, r.same s.kp⟩
  · rw [updA_ne hb] at q
    exact (h b o q).keep s.kp (upd_ne hb)
/-- a list is written -/
theorem HR.setL {us : List U} {vs xs : List V} (h : HR K H A) (e : H a = some (.lst xs)) (r : RUs K H us vs) : HR K (upd H a (.lst vs)) (updA A a (.lst us)) := fun b o q => by
  have s : Kp K H (upd H a (.lst vs)) := Kp.lst e
  by_cases hb : b = a
  · subst hb
    rw [updA_same] at q
    cases q
    exact ⟨vs, upd_same, r.same s⟩
  · rw [updA_ne hb] at q
    exact (h b o q).keep s (upd_ne hb)
theorem HR.list {us : List U} (h : HR K H A) (e : A a = some (.lst us)) : ∃ vs, H a = some (.lst vs) ∧ RUs K H us vs := h a _ e
end
/-! names -/
abbrev ASt := List (Option U)
inductive RSt (K : PySem.W.Frag) (H : Hp) : ASt → St → Prop
  | nil : RSt K H [] []
  | skip {x : Option V} {ρ : ASt} {σ : St} : RSt K H ρ σ → RSt K H (none :: ρ) (x :: σ)
  | cons {u : U} {v : V} {ρ : ASt} {σ : St} : RU K H u v → RSt K H ρ σ → RSt K H (some u :: ρ) (some v :: σ)
section
variable {K : PySem.W.Frag} {H H' : Hp}
theorem RSt.same (e : Kp K H H') : ∀ {ρ : ASt} {σ : St}, RSt K H ρ σ → RSt K H' ρ σ
  | _, _, .nil => .nil
  | _, _, .skip r => .skip (RSt.same e r)
  | _, _, .cons h r => .cons (h.same e) (RSt.same e r)
def aGetN : Nat → ASt → (U → Prop) → Prop
  | 0, ρ, k => match ρ with
    | some u :: _ => k u
    | _ => False
  | i + 1, ρ, k => match ρ with
    | _ :: ρ => aGetN i ρ k
    | [] => False
def aGet (ρ : ASt) (i : Nat) (k : U → Prop) : Prop := aGetN i ρ k
theorem RSt.get : ∀ {ρ : ASt} {σ : St} {i : Nat} {k : U → Prop}, RSt K H ρ σ → aGet ρ i k → ∃ u v, σ[i]? = some (some v) ∧ RU K H u v ∧ k u
  | _, _, 0, _, .nil, h => h.elim
  | _, _, _ + 1, _, .nil, h => h.elim
  | _, _, 0, _, .skip _, h => h.elim
  | _, _, i + 1, _, .skip r, h => by simpa using RSt.get r h
  | _, _, 0, _, .cons q _, h => ⟨_, _, rfl, q, h⟩
  | _, _, i + 1, _, .cons _ r, h => by simpa using RSt.get r h
theorem RSt.set {u : U} {v : V} (q : RU K H u v) : ∀ {ρ : ASt} {σ : St} (i : Nat), RSt K H ρ σ → RSt K H (ρ.set i (some u)) (σ.set i (some v))
  | _, _, _, .nil => .nil
  | _, _, 0, .skip r => .cons q r
  | _, _, i + 1, .skip r => .skip (RSt.set q i r)
  | _, _, 0, .cons _ r => .cons q r
  | _, _, i + 1, .cons h r => .cons h (RSt.set q i r)
end
/-! readings -/
abbrev AVK := U → AHp → Prop
abbrev AE := ASt → AHp → AVK → Prop
abbrev AT := ASt → AHp → (Bool → AHp → Prop) → Prop
abbrev AA := ASt → AHp → (List U → AHp → Prop) → Prop
abbrev AP1 := ASt → AHp → (Option Int → AHp → Prop) → Prop
structure AEnds where
  nx : ASt → AHp → Prop
  rt : AVK
  bk : ASt → AHp → Prop := fun _ _ => False
  ct : ASt → AHp → Prop := fun _ _ => False
abbrev AS := AEnds → ASt → AHp → Prop
/-- behind a step: what is told of the value and the heap -/
abbrev Aft (K : PySem.W.Frag) (H : Hp) (Q' : AVK) (Q : VK) : Prop := ∀ u A' v H', Kp K H H' → HR K H' A' → RU K H' u v → Q' u A' → Q v H'
def AbE (K : PySem.W.Frag) (te : TE) (ae : AE) : Prop := ∀ ρ A σ H Q' Q, RSt K H ρ σ → HR K H A → ae ρ A Q' → Aft K H Q' Q → te σ H Q
def AbT (K : PySem.W.Frag) (te : TT) (ae : AT) : Prop := ∀ ρ A σ H (Q' : Bool → AHp → Prop) (Q : Bool → Hp → Prop), RSt K H ρ σ → HR K H A → ae ρ A Q' → (∀ b A' H', Kp K H H' → HR K H' A' → Q' b A' → Q b H') → te σ H Q
def AbA (K : PySem.W.Frag) (te : TA) (ae : AA) : Prop := ∀ ρ A σ H (Q' : List U → AHp → Prop) (Q : List V → Hp → Prop), RSt K H ρ σ → HR K H A → ae ρ A Q' → (∀ us A' vs H', Kp K H H' → HR K H' A' → RUs K H' us vs → Q' us A' → Q vs H') → te σ H Q
def AbP (K : PySem.W.Frag) (te : TO) (ae : AP1) : Prop := ∀ ρ A σ H (Q' : Option Int → AHp → Prop) (Q : Option Int → Hp → Prop), RSt K H ρ σ → HR K H A → ae ρ A Q' → (∀ b A' H', Kp K H H' → HR K H' A' → Q' b A' → Q b H') → te σ H Q
structure AftS (K : PySem.W.Frag) (H : Hp) (D' : AEnds) (D : Ends) : Prop where
  nx : ∀ ρ A σ H', Kp K H H' → HR K H' A → RSt K H' ρ σ → D'.nx ρ A → D.nx σ H'
  rt : Aft K H D'.rt D.rt
  bk : ∀ ρ A σ H', Kp K H H' → HR K H' A → RSt K H' ρ σ → D'.bk ρ A → D.bk σ H'
  ct : ∀ ρ A σ H', Kp K H H' → HR K H' A → RSt K H' ρ σ → D'.ct ρ A → D.ct σ H'
theorem AftS.same {K : PySem.W.Frag} {H H1 : Hp} {D' : AEnds} {D : Ends} (h : AftS K H D' D) (k : Kp K H H1) : AftS K H1 D' D :=
  ⟨fun ρ A σ H' q => h.nx ρ A σ H' (k.trans q), fun u A v H' q => h.rt u A v H' (k.trans q), fun ρ A σ H' q => h.bk ρ A σ H' (k.trans q), fun ρ A σ H' q => h.ct ρ A σ H' (k.trans q)⟩
def AbS (K : PySem.W.Frag) (ts : TS) (as : AS) : Prop := ∀ ρ A σ H D' D, RSt K H ρ σ → HR K H A → as D' ρ A → AftS K H D' D → ts D σ H
end L2

set_option Elab.async false
set_option linter.all false
set_option maxRecDepth 100000
set_option maxHeartbeats 4000000
/-! readings over values: names, operations, statements -/
namespace L2
open PySem PySem.Spec PyProof.Rows
section
variable {K : PySem.W.Frag}
def aVar (i : Nat) : AE := fun ρ A Q => aGet ρ i fun u => Q u A
theorem ab_var {i : Nat} : AbE K (tVar i) (aVar i) := fun ρ A σ H Q' Q hr hh h k => by
  obtain ⟨u, v, e, r, q⟩ := hr.get h
  exact ⟨v, e, k u A v H (.refl H) hh r q⟩
def aC (u : U) : AE := fun _ A Q => Q u A
theorem ab_c {u : U} {v : V} (h : ∀ H, RU K H u v) : AbE K (tC v) (aC u) := fun ρ A σ H Q' Q hr hh q k => k u A v H (.refl H) hh (h H) q
theorem ab_int {i : Int} : AbE K (tC (.int i)) (aC (.int i)) := ab_c fun _ => .int i
theorem ab_bl {i : Bool} : AbE K (tC (.bl i)) (aC (.bl i)) := ab_c fun _ => .bl i
/-! two-place operations -/
abbrev AR2 := U → U → AHp → AVK → Prop
def AbR (K : PySem.W.Frag) (r : R2) (ar : AR2) : Prop := ∀ x y u w A H Q' Q, RU K H u x → RU K H w y → HR K H A → ar u w A Q' → Aft K H Q' Q → r x y H Q
def aOp (ar : AR2) (a b : AE) : AE := fun ρ A Q => a ρ A fun x A1 => b ρ A1 fun y A2 => ar x y A2 Q
theorem ab_op {r : R2} {ar : AR2} {ta tb : TE} {aa ab : AE} (hr : AbR K r ar) (ha : AbE K ta aa) (hb : AbE K tb ab) : AbE K (tOp r ta tb) (aOp ar aa ab) := fun ρ A σ H Q' Q hs hh h k =>
  ha ρ A σ H _ _ hs hh h fun x A1 v H1 k1 h1 r1 q1 => hb ρ A1 σ H1 _ _ (hs.same k1) h1 q1 fun y A2 v2 H2 k2 h2 r2 q2 => hr _ _ _ _ _ _ _ _ (r1.same k2) r2 h2 q2 fun z A3 v3 H3 k3 h3 r3 q3 => k _ _ _ _ (k1.trans (k2.trans k3)) h3 r3 q3
def AbU (K : PySem.W.Frag) (r : V → Hp → VK → Prop) (ar : U → AHp → AVK → Prop) : Prop := ∀ x u A H Q' Q, RU K H u x → HR K H A → ar u A Q' → Aft K H Q' Q → r x H Q
def aUn (ar : U → AHp → AVK → Prop) (a : AE) : AE := fun ρ A Q => a ρ A fun x A1 => ar x A1 Q
/-! tests -/
def aB (a : AE) : AT := fun ρ A Q => a ρ A fun x A1 => ∃ c, x = .bl c ∧ Q c A1
theorem ab_tb {ta : TE} {aa : AE} (ha : AbE K ta aa) : AbT K (tB ta) (aB aa) := fun ρ A σ H Q' Q hs hh h k =>
  ha ρ A σ H _ _ hs hh h fun x A1 v H1 k1 h1 r1 ⟨c, e, q1⟩ => by subst e; cases r1; exact ⟨c, rfl, k c A1 H1 k1 h1 q1⟩
theorem ab_test {ta : TE} {aa : AE} (ha : AbE K ta aa) : AbT K (tTest ta) (aB aa) := ab_tb ha
def aAnd (t u : AT) : AT := fun ρ A Q => t ρ A fun c A1 => if c = true then u ρ A1 Q else Q false A1
def aOr (t u : AT) : AT := fun ρ A Q => t ρ A fun c A1 => if c = true then Q true A1 else u ρ A1 Q
def aNot (t : AT) : AT := fun ρ A Q => t ρ A fun c A1 => Q (!c) A1
def aAndV (a b : AE) : AE := fun ρ A Q => a ρ A fun x A1 => ∃ c, x = .bl c ∧ if c = true then b ρ A1 Q else Q (.bl false) A1
def aOrV (a b : AE) : AE := fun ρ A Q => a ρ A fun x A1 => ∃ c, x = .bl c ∧ if c = true then Q (.bl true) A1 else b ρ A1 Q
def aNotV (a : AE) : AE := fun ρ A Q => a ρ A fun x A1 => ∃ c, x = .bl c ∧ Q (.bl (!c)) A1
theorem ab_andv {t u : TE} {a b : AE} (ha : AbE K t a) (hb : AbE K u b) : AbE K (tAndV t u) (aAndV a b) := fun ρ A σ H Q' Q hs hh h k =>
  ha ρ A σ H _ _ hs hh h fun x A1 v H1 k1 h1 r1 ⟨c, e, q1⟩ => by
    subst e; cases r1
    refine ⟨c, rfl, ?_⟩
    cases c
    · exact iteN (by decide) (k _ _ _ _ k1 h1 (.bl _) (by simpa using q1))
    · exact iteP rfl (hb ρ A1 σ H1 _ _ (hs.same k1) h1 (by simpa using q1) fun z A2 v2 H2 k2 h2 r2 q2 => k _ _ _ _ (k1.trans k2) h2 r2 q2)
def aIf (t : AT) (a b : AE) : AE := fun ρ A Q => t ρ A fun c A1 => if c = true then a ρ A1 Q else b ρ A1 Q
def aChain (r r' : AR2) (a b c : AE) : AE := fun ρ A Q => a ρ A fun x A1 => b ρ A1 fun y A2 => r x y A2 fun z A3 => ∃ k, z = .bl k ∧ (if k = true then c ρ A3 fun w A4 => r' y w A4 Q else Q (.bl false) A3)
def aTrue : AT := fun _ A Q => Q true A
theorem ab_true : AbT K tTrue aTrue := fun ρ A σ H Q' Q hs hh h k => k _ _ _ (.refl H) hh h
/-! argument lists, displays -/
def aNil : AA := fun _ A Q => Q [] A
theorem ab_nil : AbA K tNil aNil := fun ρ A σ H Q' Q hs hh h k => k _ _ _ _ (.refl H) hh .nil h
def aCons (a : AE) (l : AA) : AA := fun ρ A Q => a ρ A fun x A1 => l ρ A1 fun xs A2 => Q (x :: xs) A2
theorem ab_cons {ta : TE} {tl : TA} {a : AE} {l : AA} (ha : AbE K ta a) (hl : AbA K tl l) : AbA K (tCons ta tl) (aCons a l) := fun ρ A σ H Q' Q hs hh h k =>
  ha ρ A σ H _ _ hs hh h fun x A1 v H1 k1 g1 r1 q1 => hl ρ A1 σ H1 _ _ (hs.same k1) g1 q1 fun xs A2 vs H2 k2 g2 r2 q2 => k _ _ _ _ (k1.trans k2) g2 (.cons (r1.same k2) r2) q2
def aConst (us : List U) : AA := fun _ A L => L us A
def aTup (l : AA) : AE := fun ρ A Q => l ρ A fun xs A1 => xs.length ≤ sizeLine ∧ Q (.tup xs) A1
theorem ab_tup {tl : TA} {l : AA} (hl : AbA K tl l) : AbE K (tTup tl) (aTup l) := fun ρ A σ H Q' Q hs hh h k =>
  hl ρ A σ H _ _ hs hh h fun xs A1 vs H1 k1 g1 r1 ⟨hz, q1⟩ => ⟨by rw [← r1.length]; exact hz, fun p hp => by
    have s := Same.upd_new (o := .tup vs) hp
    exact k _ _ _ _ (k1.trans s.kp) (g1.grow s) (.tup (SqT.of upd_same) (r1.same s.kp)) q1⟩
def aLst (l : AA) : AE := fun ρ A Q => l ρ A fun xs A1 => xs.length ≤ sizeLine ∧ ∀ p, A1 p = none → Q (.ref p) (updA A1 p (.lst xs))
theorem ab_lst {tl : TA} {l : AA} (hl : AbA K tl l) : AbE K (tLst tl) (aLst l) := fun ρ A σ H Q' Q hs hh h k =>
  hl ρ A σ H _ _ hs hh h fun xs A1 vs H1 k1 g1 r1 ⟨hz, q1⟩ => ⟨by rw [← r1.length]; exact hz, fun p hp => k _ _ _ _ (k1.trans (Same.upd_new hp).kp) (g1.newL hp r1) (.ref p) (q1 p (g1.none hp))⟩
/-! calls of what is known -/
def AbL (K : PySem.W.Frag) (r : List V → Hp → VK → Prop) (ar : List U → AHp → AVK → Prop) : Prop := ∀ xs us A H Q' Q, RUs K H us xs → HR K H A → ar us A Q' → Aft K H Q' Q → r xs H Q
def aCB (ar : List U → AHp → AVK → Prop) (l : AA) : AE := fun ρ A Q => l ρ A fun us A1 => ar us A1 Q
theorem ab_cb {r : List V → Hp → VK → Prop} {ar : List U → AHp → AVK → Prop} {tl : TA} {l : AA} (hr : AbL K r ar) (hl : AbA K tl l) : AbE K (tCB r tl) (aCB ar l) := fun ρ A σ H Q' Q hs hh h k =>
  hl ρ A σ H _ _ hs hh h fun xs A1 vs H1 k1 g1 r1 q1 => hr _ _ _ _ _ _ r1 g1 q1 fun z A3 v3 H3 k3 h3 r3 q3 => k _ _ _ _ (k1.trans k3) h3 r3 q3
/-- a def's promise over values -/
abbrev ASp := List U → AHp → AVK → Prop
def spOf (K : PySem.W.Frag) (asp : ASp) : Sp := fun vs H Q _ => ∃ us A Q', RUs K H us vs ∧ HR K H A ∧ asp us A Q' ∧ Aft K H Q' Q
def aCall (asp : ASp) (l : AA) : AE := fun ρ A Q => l ρ A fun us A1 => asp us A1 Q
theorem ab_call {asp : ASp} {E : XK} {tl : TA} {l : AA} (hl : AbA K tl l) : AbE K (tCall (spOf K asp) [] E tl) (aCall asp l) := fun ρ A σ H Q' Q hs hh h k =>
  hl ρ A σ H _ _ hs hh h fun us A1 vs H1 k1 g1 r1 q1 => ⟨us, A1, Q', by rw [List.append_nil]; exact r1, g1, q1, fun z A3 v3 H3 k3 h3 r3 q3 => k _ _ _ _ (k1.trans k3) h3 r3 q3⟩
def aCallV (f : Addr) (asp : ASp) (a : AE) (l : AA) : AE := fun ρ A Q => a ρ A fun y A0 => y = .ref f ∧ l ρ A0 fun us A1 => asp us A1 Q
/-! slices -/
def aNoPart : AP1 := fun _ A Q => Q none A
theorem ab_nopart : AbP K tNoPart aNoPart := fun ρ A σ H Q' Q hs hh h k => k _ _ _ (.refl H) hh h
def aPart (a : AE) : AP1 := fun ρ A Q => a ρ A fun x A1 => ∃ i, x = .int i ∧ Q (some i) A1
theorem ab_part {t : TE} {a : AE} (ha : AbE K t a) : AbP K (tPart t) (aPart a) := fun ρ A σ H Q' Q hs hh h k =>
  ha ρ A σ H _ _ hs hh h fun x A1 v H1 k1 h1 r1 ⟨i, e, q1⟩ => by subst e; cases r1; exact ⟨i, rfl, k _ _ _ k1 h1 q1⟩
def AbSl (K : PySem.W.Frag) (r : V → Option Int → Option Int → Hp → VK → Prop) (ar : U → Option Int → Option Int → AHp → AVK → Prop) : Prop := ∀ x u lo hi A H Q' Q, RU K H u x → HR K H A → ar u lo hi A Q' → Aft K H Q' Q → r x lo hi H Q
def aSl (ar : U → Option Int → Option Int → AHp → AVK → Prop) (a : AE) (l h : AP1) : AE := fun ρ A Q => a ρ A fun x A1 => l ρ A1 fun i A2 => h ρ A2 fun j A3 => ar x i j A3 Q
theorem ab_sl {r : V → Option Int → Option Int → Hp → VK → Prop} {ar : U → Option Int → Option Int → AHp → AVK → Prop} {t : TE} {tl th : TO} {a : AE} {l h : AP1} (hr : AbSl K r ar) (ha : AbE K t a) (hl : AbP K tl l) (hh : AbP K th h) : AbE K (tSl r t tl th) (aSl ar a l h) := fun ρ A σ H Q' Q hs g w k =>
  ha ρ A σ H _ _ hs g w fun x A1 v H1 k1 g1 r1 q1 => hl ρ A1 σ H1 _ _ (hs.same k1) g1 q1 fun i A2 H2 k2 g2 q2 => hh ρ A2 σ H2 _ _ (hs.same (k1.trans k2)) g2 q2 fun j A3 H3 k3 g3 q3 =>
    hr _ _ _ _ _ _ _ _ (r1.same (k2.trans k3)) g3 q3 fun z A4 v4 H4 k4 g4 r4 q4 => k _ _ _ _ (k1.trans (k2.trans (k3.trans k4))) g4 r4 q4
/-! methods of lists and texts -/
def AbM (K : PySem.W.Frag) (T : String) (r : V → List V → Hp → VK → Prop) (ar : U → List U → AHp → AVK → Prop) : Prop := ∀ x u xs us A H Q' Q, RU K H u x → RUs K H us xs → HR K H A → ar u us A Q' → Aft K H Q' Q → tyV K T x H ∧ r x xs H Q
/-- the type is known ahead of the arguments -/
def AbY (K : PySem.W.Frag) (T : String) (y : U → AHp → Prop) : Prop := ∀ x u A H, RU K H u x → HR K H A → y u A → tyV K T x H
def aBM0 (y : U → AHp → Prop) (ar : U → List U → AHp → AVK → Prop) (a : AE) : AE := fun ρ A Q => a ρ A fun x A1 => y x A1 ∧ ar x [] A1 Q
def aBM (y : U → AHp → Prop) (ar : U → List U → AHp → AVK → Prop) (a : AE) (l : AA) : AE := fun ρ A Q => a ρ A fun x A1 => y x A1 ∧ l ρ A1 fun us A2 => ar x us A2 Q
def AbMt (K : PySem.W.Frag) (r : V → List V → Hp → VK → Prop) (ar : U → List U → AHp → AVK → Prop) : Prop := ∀ x u xs us A H Q' Q, RU K H u x → RUs K H us xs → HR K H A → ar u us A Q' → Aft K H Q' Q → r x xs H Q
theorem ab_bm {T : String} {r : V → List V → Hp → VK → Prop} {y : U → AHp → Prop} {ar : U → List U → AHp → AVK → Prop} {t : TE} {a : AE} {tl : TA} {l : AA} (hy : AbY K T y) (hr : AbMt K r ar) (ha : AbE K t a) (hl : AbA K tl l) : AbE K (tBM K T r t tl) (aBM y ar a l) := fun ρ A σ H Q' Q hs g w k =>
  ha ρ A σ H _ _ hs g w fun x A1 v H1 k1 g1 r1 ⟨q0, q1⟩ => ⟨hy _ _ _ _ r1 g1 q0, hl ρ A1 σ H1 _ _ (hs.same k1) g1 q1 fun us A2 vs H2 k2 g2 r2 q2 => hr _ _ _ _ _ _ _ _ (r1.same k2) r2 g2 q2 fun z A4 v4 H4 k4 g4 r4 q4 => k _ _ _ _ (k1.trans (k2.trans k4)) g4 r4 q4⟩
/-! statements -/
def aNext : AS := fun D ρ A => D.nx ρ A
theorem ab_next : AbS K tNext aNext := fun ρ A σ H D' D hs g w k => k.nx _ _ _ _ (.refl H) g hs w
def aSeq (t u : AS) : AS := fun D ρ A => t { D with nx := u D } ρ A
theorem ab_seq {t u : TS} {a b : AS} (ha : AbS K t a) (hb : AbS K u b) : AbS K (tSeq t u) (aSeq a b) := fun ρ A σ H D' D hs g w k =>
  ha ρ A σ H _ _ hs g w ⟨fun ρ1 A1 σ1 H1 k1 g1 r1 q1 => hb ρ1 A1 σ1 H1 _ _ r1 g1 q1 (k.same k1), k.rt, k.bk, k.ct⟩
def aBreak : AS := fun D ρ A => D.bk ρ A
def aCont : AS := fun D ρ A => D.ct ρ A
def aDrop (a : AE) : AS := fun D ρ A => a ρ A fun _ A1 => D.nx ρ A1
theorem ab_drop {t : TE} {a : AE} (ha : AbE K t a) : AbS K (tDrop t) (aDrop a) := fun ρ A σ H D' D hs g w k => ha ρ A σ H _ _ hs g w fun x A1 v H1 k1 g1 r1 q1 => k.nx _ _ _ _ k1 g1 (hs.same k1) q1
def aRet (a : AE) : AS := fun D ρ A => a ρ A D.rt
theorem ab_ret {t : TE} {a : AE} (ha : AbE K t a) : AbS K (tRet t) (aRet a) := fun ρ A σ H D' D hs g w k => ha ρ A σ H _ _ hs g w k.rt
def aRetN : AS := fun D _ A => D.rt .non A
def aIfS (c : AT) (t u : AS) : AS := fun D ρ A => c ρ A fun b A1 => if b = true then t D ρ A1 else u D ρ A1
theorem ab_ifs {c : TT} {t u : TS} {ac : AT} {a b : AS} (hc : AbT K c ac) (ha : AbS K t a) (hb : AbS K u b) : AbS K (tIfS c t u) (aIfS ac a b) := fun ρ A σ H D' D hs g w k =>
  hc ρ A σ H _ _ hs g w fun c A1 H1 k1 g1 q1 => by
    cases c
    · exact iteN (by decide) (hb ρ A1 σ H1 _ _ (hs.same k1) g1 (by simpa using q1) (k.same k1))
    · exact iteP rfl (ha ρ A1 σ H1 _ _ (hs.same k1) g1 (by simpa using q1) (k.same k1))
/-! targets -/
abbrev AG := U → ASt → AHp → (ASt → AHp → Prop) → Prop
abbrev AGs := List U → ASt → AHp → (ASt → AHp → Prop) → Prop
abbrev AftG (K : PySem.W.Frag) (H : Hp) (Q' : ASt → AHp → Prop) (Q : St → Hp → Prop) : Prop := ∀ ρ A σ H', Kp K H H' → HR K H' A → RSt K H' ρ σ → Q' ρ A → Q σ H'
def AbG (K : PySem.W.Frag) (t : TG) (a : AG) : Prop := ∀ u v ρ A σ H Q' Q, RU K H u v → RSt K H ρ σ → HR K H A → a u ρ A Q' → AftG K H Q' Q → t v σ H Q
def AbGs (K : PySem.W.Frag) (t : TGs) (a : AGs) : Prop := ∀ u v ρ A σ H Q' Q, RUs K H u v → RSt K H ρ σ → HR K H A → a u ρ A Q' → AftG K H Q' Q → t v σ H Q
def bName (i : Nat) : AG := fun u ρ A Q => Q (ρ.set i (some u)) A
theorem ab_name {i : Nat} : AbG K (gName i) (bName i) := fun u v ρ A σ H Q' Q r hs g w k => k _ _ _ _ (.refl H) g (hs.set r i) w
def bNil : AGs := fun us ρ A Q => us = [] ∧ Q ρ A
def bCons (t : AG) (u : AGs) : AGs := fun us ρ A Q => ∃ v r, us = v :: r ∧ t v ρ A fun ρ' A' => u r ρ' A' Q
def bTup (n : Nat) (t : AGs) : AG := fun u ρ A Q => ∃ us, u = .tup us ∧ us.length = n ∧ t us ρ A Q
def aAsg (a : AE) (b : AG) : AS := fun D ρ A => a ρ A fun x A1 => b x ρ A1 D.nx
theorem ab_asg {t : TE} {a : AE} {tg : TG} {b : AG} (ha : AbE K t a) (hb : AbG K tg b) : AbS K (tAsg t tg) (aAsg a b) := fun ρ A σ H D' D hs g w k =>
  ha ρ A σ H _ _ hs g w fun x A1 v H1 k1 g1 r1 q1 => hb _ _ _ _ _ _ _ _ r1 (hs.same k1) g1 q1 fun ρ2 A2 σ2 H2 k2 g2 s2 q2 => k.nx _ _ _ _ (k1.trans k2) g2 s2 q2
def aPar (i j : Nat) (l : AA) : AS := fun D ρ A => l ρ A fun us A1 => ∃ v w, us = [v, w] ∧ D.nx ((ρ.set i (some v)).set j (some w)) A1
/-- x op= e -/
def aAug (i : Nat) (a : AE) (ar : AR2) : AS := fun D ρ A => aGet ρ i fun x => a ρ A fun y A1 => ar x y A1 fun z A2 => D.nx (ρ.set i (some z)) A2
/-! while -/
def aWhile (c : AT) (b : AS) : AS := fun D ρ A => ∃ W : Nat → ASt → AHp → Prop, (∃ m, W m ρ A) ∧ ∀ m ρ A, W m ρ A →
  c ρ A fun k A1 => if k = true then ∃ N : ASt → AHp → Prop, (∀ ρ' A', N ρ' A' → ∃ m', m' < m ∧ W m' ρ' A') ∧ b { D with nx := N, ct := N, bk := D.nx } ρ A1 else D.nx ρ A1
end
end L2

set_option Elab.async false
set_option linter.all false
set_option maxRecDepth 100000
set_option maxHeartbeats 4000000
/-! readings over values: loops, comprehensions -/
namespace L2
open PySem PySem.Spec PyProof.Rows
/-- at turn i: an item, or the end -/
abbrev AIt := Nat → AHp → Option U → Prop
def AbJ (K : PySem.W.Frag) (H0 : Hp) (J : It) (aj : AIt) : Prop := ∀ i A H r, Kp K H0 H → HR K H A → aj i A r → match r with
  | none => J.stop i H
  | some u => J.go i H ∧ ∀ x H', J.yld i H x H' → Kp K H H' ∧ HR K H' A ∧ RU K H' u x
abbrev AI := ASt → AHp → (AIt → AHp → Prop) → Prop
def AbI (K : PySem.W.Frag) (wi : TI) (ai : AI) : Prop := ∀ ρ A σ H R' R, RSt K H ρ σ → HR K H A → ai ρ A R' → (∀ aj A' J H', Kp K H H' → HR K H' A' → AbJ K H' J aj → R' aj A' → R J H') → wi σ H R
/-- a loop over J -/
def aLoop (J : AIt) (g : AG) (b : AS) (D : AEnds) (ρ : ASt) (A : AHp) : Prop := ∃ W : Nat → Nat → ASt → AHp → Prop, (∃ m, W 0 m ρ A) ∧ ∀ i m ρ A, W i m ρ A →
  (J i A none ∧ D.nx ρ A) ∨ ∃ u, J i A (some u) ∧ ∃ N : ASt → AHp → Prop, (∀ ρ' A', N ρ' A' → ∃ m', m' < m ∧ W (i + 1) m' ρ' A') ∧ g u ρ A fun ρ2 A2 => b { D with nx := N, ct := N, bk := D.nx } ρ2 A2
def aFor (wi : AI) (g : AG) (b : AS) : AS := fun D ρ A => wi ρ A fun J A1 => aLoop J g b D ρ A1
section
variable {K : PySem.W.Frag}
theorem ab_for {wi : TI} {g : TG} {t : TS} {ai : AI} {ag : AG} {a : AS} (hi : AbI K wi ai) (hg : AbG K g ag) (ha : AbS K t a) : AbS K (tFor wi g t) (aFor ai ag a) := fun ρ A σ H D' D hs g0 w k => by
  refine hi ρ A σ H _ _ hs g0 w fun aj A1 J H1 k1 g1 hj q => ?_
  obtain ⟨W, ⟨m0, w0⟩, turn⟩ := q
  refine ⟨fun i m σ2 H2 => ∃ ρ2 A2, Kp K H1 H2 ∧ HR K H2 A2 ∧ RSt K H2 ρ2 σ2 ∧ W i m ρ2 A2, ⟨m0, ρ, A1, .refl H1, g1, hs.same k1, w0⟩, ?_⟩
  rintro i m σ2 H2 ⟨ρ2, A2, k2, g2, s2, w2⟩
  have k12 := k1.trans k2
  rcases turn i m ρ2 A2 w2 with ⟨hstop, q⟩ | ⟨u, hgo, N, hN, q⟩
  · exact .inl ⟨hj i A2 H2 _ k2 g2 hstop, k.nx _ _ _ _ k12 g2 s2 q⟩
  · obtain ⟨j1, j2⟩ := hj i A2 H2 _ k2 g2 hgo
    refine .inr ⟨j1, fun σ' H' => ∃ ρ' A', Kp K H1 H' ∧ HR K H' A' ∧ RSt K H' ρ' σ' ∧ N ρ' A', ?_, fun x H3 hy => ?_⟩
    · rintro σ' H' ⟨ρ', A', k', g', s', n'⟩
      obtain ⟨m', hm, w'⟩ := hN ρ' A' n'
      exact ⟨m', hm, ρ', A', k', g', s', w'⟩
    · obtain ⟨k3, g3, r3⟩ := j2 x H3 hy
      refine hg _ _ _ _ _ _ _ _ r3 (s2.same k3) g3 q fun ρ4 A4 σ4 H4 k4 g4 s4 q4 => ?_
      have k24 := k2.trans (k3.trans k4)
      exact ha ρ4 A4 σ4 H4 _ _ s4 g4 q4 ⟨fun ρ5 A5 σ5 H5 k5 g5 s5 n5 => ⟨ρ5, A5, k24.trans k5, g5, s5, n5⟩, (k.same (k1.trans k24)).rt, fun ρ5 A5 σ5 H5 k5 g5 s5 n5 => k.nx _ _ _ _ ((k1.trans k24).trans k5) g5 s5 n5, fun ρ5 A5 σ5 H5 k5 g5 s5 n5 => ⟨ρ5, A5, k24.trans k5, g5, s5, n5⟩⟩
/-! what is walked -/
/-- items that stay -/
def jFix (us : List U) : AIt := fun i _ r => r = us[i]?
/-- the list at a -/
def jLst (a : Addr) : AIt := fun i A r => ∃ us, A a = some (.lst us) ∧ r = us[i]?
def aJof (y : U → AHp → (AIt → AHp → Prop) → Prop) (a : AE) : AI := fun ρ A R => a ρ A fun x A1 => y x A1 R
def AbY1 (K : PySem.W.Frag) (u : V → Hp → (It → Hp → Prop) → Prop) (y : U → AHp → (AIt → AHp → Prop) → Prop) : Prop := ∀ x v A H R' R, RU K H x v → HR K H A → y x A R' → (∀ aj A' J H', Kp K H H' → HR K H' A' → AbJ K H' J aj → R' aj A' → R J H') → u v H R
theorem ab_jof {u : V → Hp → (It → Hp → Prop) → Prop} {y : U → AHp → (AIt → AHp → Prop) → Prop} {t : TE} {a : AE} (hy : AbY1 K u y) (ha : AbE K t a) : AbI K (jOf u t) (aJof y a) := fun ρ A σ H R' R hs g w k =>
  ha ρ A σ H _ _ hs g w fun x A1 v H1 k1 g1 r1 q1 => hy _ _ _ _ _ _ r1 g1 q1 fun aj A2 J H2 k2 g2 hj q2 => k _ _ _ _ (k1.trans k2) g2 hj q2
theorem itl_fix {H : Hp} {a : Addr} {us : List U} {vs : List V} (h : SqR K H a vs) (r : RUs K H us vs) : AbJ K H (Itl K a) (jFix us) := fun i A H1 x k g e => by
  have e : x = us[i]? := e
  have h1 := (k.r _ _ h).sq
  have r1 := r.same k
  subst e
  cases hu : us[i]? with
  | none => exact ⟨vs, h1, by rw [← r1.length]; exact List.getElem?_eq_none_iff.mp hu⟩
  | some u =>
    obtain ⟨v, hv, rv⟩ := r1.get' hu
    refine ⟨⟨vs, v, h1, hv⟩, ?_⟩
    rintro x H' ⟨rfl, hx⟩
    have := hx vs h1
    rw [hv] at this; cases this
    exact ⟨.refl _, g, rv⟩
theorem itl_lst {H : Hp} {a : Addr} : AbJ K H (Itl K a) (jLst a) := fun i A H1 x k g ⟨us, hA, e⟩ => by
  subst e
  obtain ⟨vs, h1, r1⟩ := g.list hA
  have h1 : SqL K H1 a vs := SqL.of h1
  cases hu : us[i]? with
  | none => exact ⟨vs, h1, by rw [← r1.length]; exact List.getElem?_eq_none_iff.mp hu⟩
  | some u =>
    obtain ⟨v, hv, rv⟩ := r1.get' hu
    refine ⟨⟨vs, v, h1, hv⟩, ?_⟩
    rintro x H' ⟨rfl, hx⟩
    have := hx vs h1
    rw [hv] at this; cases this
    exact ⟨.refl _, g, rv⟩
theorem itt_fix {H : Hp} {a : Addr} {us : List U} {vs : List V} (h : SqT K H a vs) (r : RUs K H us vs) : AbJ K H (Itt K a) (jFix us) := fun i A H1 x k g e => by
  have e : x = us[i]? := e
  have h1 := k.t _ _ h
  have r1 := r.same k
  subst e
  cases hu : us[i]? with
  | none => exact ⟨vs, h1, by rw [← r1.length]; exact List.getElem?_eq_none_iff.mp hu⟩
  | some u =>
    obtain ⟨v, hv, rv⟩ := r1.get' hu
    refine ⟨⟨vs, v, h1, hv⟩, ?_⟩
    rintro x H' ⟨rfl, hx⟩
    have := hx vs h1
    rw [hv] at this; cases this
    exact ⟨.refl _, g, rv⟩
def yList : U → AHp → (AIt → AHp → Prop) → Prop := fun u A R => match u with
  | .ref a => (∃ us, A a = some (.lst us)) ∧ R (jLst a) A
  | .rol us => R (jFix us) A
  | _ => False
theorem ab_ylist : AbY1 K (uList K) yList := fun x v A H R' R r g w k => by
  cases r with
  | ref a =>
    obtain ⟨⟨us, hA⟩, w⟩ := w
    obtain ⟨vs, h1, r1⟩ := g.list hA
    exact ⟨⟨vs, SqL.of h1⟩, k _ _ _ _ (.refl H) g itl_lst w⟩
  | rol h1 r1 => exact ⟨⟨_, h1.sq⟩, k _ _ _ _ (.refl H) g (itl_fix h1 r1) w⟩
  | _ => exact w.elim
def yTup : U → AHp → (AIt → AHp → Prop) → Prop := fun u A R => match u with
  | .tup us => R (jFix us) A
  | _ => False
theorem ab_ytup : AbY1 K (uTupI K) yTup := fun x v A H R' R r g w k => by
  cases r with
  | tup h1 r1 => exact ⟨⟨_, h1⟩, k _ _ _ _ (.refl H) g (itt_fix h1 r1) w⟩
  | _ => exact w.elim
def yStr : U → AHp → (AIt → AHp → Prop) → Prop := fun u A R => match u with
  | .str z => R (jFix (z.cps.toList.map fun c => .str ⟨#[c]⟩)) A
  | _ => False
def rngU (lo : Int) (n : Nat) : List U := (List.range n).map fun (i : Nat) => .int (lo + (i : Int))
theorem rngU_get (lo : Int) (n i : Nat) : (rngU lo n)[i]? = if i < n then some (.int (lo + (i : Int))) else none := by
  unfold rngU
  rw [List.getElem?_map]
  by_cases h : i < n
  · rw [if_pos h, List.getElem?_range h]; rfl
  · rw [if_neg h, List.getElem?_eq_none (by rw [List.length_range]; omega)]; rfl
theorem rngU_len (lo : Int) (n : Nat) : (rngU lo n).length = n := by simp [rngU]
theorem itr_fix {H : Hp} {lo : Int} {n : Nat} : AbJ K H (Itr lo n) (jFix (rngU lo n)) := fun i A H1 x k g e => by
  have e : x = (rngU lo n)[i]? := e
  rw [rngU_get] at e
  subst e
  by_cases h : i < n
  · rw [if_pos h]
    refine ⟨h, ?_⟩
    rintro x H' ⟨rfl, rfl⟩
    exact ⟨.refl _, g, .int _⟩
  · rw [if_neg h]
    exact Nat.le_of_not_lt h
def yRng1 : List U → AHp → (AIt → AHp → Prop) → Prop := fun us A R => match us with
  | [.int j] => -(2 ^ 62) ≤ j ∧ j < 2 ^ 62 ∧ R (jFix (rngU 0 j.toNat)) A
  | _ => False
def yRng2 : List U → AHp → (AIt → AHp → Prop) → Prop := fun us A R => match us with
  | [.int i, .int j] => (-(2 ^ 62) ≤ i ∧ i < 2 ^ 62 ∧ -(2 ^ 62) ≤ j ∧ j < 2 ^ 62) ∧ R (jFix (rngU i (j - i).toNat)) A
  | _ => False
def AbYs (K : PySem.W.Frag) (u : List V → Hp → (It → Hp → Prop) → Prop) (y : List U → AHp → (AIt → AHp → Prop) → Prop) : Prop := ∀ x v A H R' R, RUs K H x v → HR K H A → y x A R' → (∀ aj A' J H', Kp K H H' → HR K H' A' → AbJ K H' J aj → R' aj A' → R J H') → u v H R
def aJargs (y : List U → AHp → (AIt → AHp → Prop) → Prop) (l : AA) : AI := fun ρ A R => l ρ A fun us A1 => y us A1 R
theorem ab_jargs {u : List V → Hp → (It → Hp → Prop) → Prop} {y : List U → AHp → (AIt → AHp → Prop) → Prop} {t : TA} {l : AA} (hy : AbYs K u y) (hl : AbA K t l) : AbI K (jArgs u t) (aJargs y l) := fun ρ A σ H R' R hs g w k =>
  hl ρ A σ H _ _ hs g w fun x A1 v H1 k1 g1 r1 q1 => hy _ _ _ _ _ _ r1 g1 q1 fun aj A2 J H2 k2 g2 hj q2 => k _ _ _ _ (k1.trans k2) g2 hj q2
theorem ab_yrng1 : AbYs K uRng1 yRng1 := fun x v A H R' R r g w k => by
  unfold yRng1 at w
  split at w
  · cases r with
    | cons r rr =>
      cases rr; cases r
      exact ⟨w.1, w.2.1, k _ _ _ _ (.refl H) g itr_fix w.2.2⟩
  · exact w.elim
theorem ab_yrng2 : AbYs K uRng2 yRng2 := fun x v A H R' R r g w k => by
  unfold yRng2 at w
  split at w
  · cases r with
    | cons r rr =>
      cases rr with
      | cons r2 rr =>
        cases rr; cases r; cases r2
        exact ⟨w.1, k _ _ _ _ (.refl H) g itr_fix w.2⟩
  · exact w.elim
theorem ab_jrng1 {t : TA} {l : AA} (hl : AbA K t l) : AbI K (jRng1 t) (aJargs yRng1 l) := ab_jargs (u := uRng1) ab_yrng1 hl
theorem ab_jrng2 {t : TA} {l : AA} (hl : AbA K t l) : AbI K (jRng2 t) (aJargs yRng2 l) := ab_jargs (u := uRng2) ab_yrng2 hl
/-! enumerate, zip, reversed -/
def enU (us : List U) : List U := us.zipIdx.map fun p => .tup [.int (p.2 : Nat), p.1]
def jEnum (a : Addr) : AIt := fun i A r => ∃ us, A a = some (.lst us) ∧ r = (enU us)[i]?
def yEnum : List U → AHp → (AIt → AHp → Prop) → Prop := fun us A R => match us with
  | [.ref a] => (∃ us, A a = some (.lst us)) ∧ R (jEnum a) A
  | [.rol us] => R (jFix (enU us)) A
  | _ => False
def yEnumT : List U → AHp → (AIt → AHp → Prop) → Prop := fun us A R => match us with
  | [.tup us] => R (jFix (enU us)) A
  | _ => False
def zpU : List U → List U → List U
  | x :: xs, y :: ys => .tup [x, y] :: zpU xs ys
  | _, _ => []
def jZip (a b : Addr) : AIt := fun i A r => ∃ us ws, A a = some (.lst us) ∧ A b = some (.lst ws) ∧ r = (zpU us ws)[i]?
def yZip : List U → AHp → (AIt → AHp → Prop) → Prop := fun us A R => match us with
  | [.ref a, .ref b] => (∃ us ws, A a = some (.lst us) ∧ A b = some (.lst ws)) ∧ R (jZip a b) A
  | _ => False
/-- reversed(xs) -/
def jRevA (a : Addr) (n : Nat) : AIt := fun i A r => (i = n ∧ r = none) ∨ (i < n ∧ ∃ us u, A a = some (.lst us) ∧ us[n - 1 - i]? = some u ∧ r = some u)
def aJrev (a : AE) : AI := fun ρ A R => a ρ A fun x A1 => ∃ p us, x = .ref p ∧ A1 p = some (.lst us) ∧ R (jRevA p us.length) A1
/-! comprehensions -/
def aCompStart (nt : Nat) (frs : List (Str × Nat)) (ρ : ASt) : ASt := List.replicate nt none ++ frs.map fun p => (ρ[p.2]?).join
theorem RSt.join {H : Hp} : ∀ {ρ : ASt} {σ : St} (i : Nat) {ρ2 : ASt} {σ2 : St}, RSt K H ρ σ → RSt K H ρ2 σ2 → RSt K H ((ρ[i]?).join :: ρ2) ((σ[i]?).join :: σ2)
  | _, _, _, _, _, .nil, q => by simpa using .skip q
  | _, _, 0, _, _, .skip _, q => by simpa using .skip q
  | _, _, i + 1, _, _, .skip r, q => by simpa using RSt.join i r q
  | _, _, 0, _, _, .cons h _, q => by simpa using .cons h q
  | _, _, i + 1, _, _, .cons _ r, q => by simpa using RSt.join i r q
theorem RSt.comp {H : Hp} {ρ : ASt} {σ : St} (h : RSt K H ρ σ) (nt : Nat) (frs : List (Str × Nat)) : RSt K H (aCompStart nt frs ρ) (compStart nt frs σ) := by
  unfold aCompStart compStart
  induction nt with
  | zero =>
    simp only [List.replicate_zero, List.nil_append]
    induction frs with
    | nil => exact .nil
    | cons p frs ih => simp only [List.map_cons]; exact h.join p.2 ih
  | succ n ih => simp only [List.replicate_succ, List.cons_append]; exact .skip ih
/-- the turns of a comprehension; the list is at l -/
def aCL (J : AIt) (g : AG) (tt : AT) (te : AE) (l : Addr) (Q : AVK) (τ : ASt) (A : AHp) : Prop := ∃ W : Nat → Nat → ASt → AHp → Prop, (∃ m, W 0 m τ A) ∧
  ∀ i m τ A, W i m τ A → (J i A none ∧ Q (.ref l) A) ∨ ∃ u, J i A (some u) ∧ g u τ A fun τ2 A2 => tt τ2 A2 fun ok A3 =>
    if ok = true then te τ2 A3 fun y A4 => ∃ ys, A4 l = some (.lst ys) ∧ ys.length < sizeLine ∧ ∃ m', m' < m ∧ W (i + 1) m' τ2 (updA A4 l (.lst (ys ++ [y]))) else ∃ m', m' < m ∧ W (i + 1) m' τ2 A3
def aComp (nt : Nat) (frs : List (Str × Nat)) (wi : AI) (g : AG) (tt : AT) (te : AE) : AE := fun ρ A Q => wi ρ A fun J A1 => ∀ l, A1 l = none → aCL J g tt te l Q (aCompStart nt frs ρ) (updA A1 l (.lst []))
theorem ab_comp {nt : Nat} {frs : List (Str × Nat)} {wi : TI} {g : TG} {tt : TT} {te : TE} {ai : AI} {ag : AG} {at' : AT} {ae : AE} (hi : AbI K wi ai) (hg : AbG K g ag) (ht : AbT K tt at') (he : AbE K te ae) : AbE K (tComp nt frs wi g tt te) (aComp nt frs ai ag at' ae) := fun ρ A σ H Q' Q hs g0 w k => by
  refine hi ρ A σ H _ _ hs g0 w fun aj A1 J H1 k1 g1 hj q => ?_
  intro l hl
  obtain ⟨W, ⟨m0, w0⟩, turn⟩ := q l (g1.none hl)
  have kl : Kp K H1 (upd H1 l (.lst [])) := (Same.upd_new hl).kp
  refine ⟨fun i m τ H2 => ∃ τ' A2, Kp K H1 H2 ∧ HR K H2 A2 ∧ RSt K H2 τ' τ ∧ W i m τ' A2, ⟨m0, _, _, kl, g1.newL hl .nil, (hs.same (k1.trans kl)).comp nt frs, w0⟩, ?_⟩
  rintro i m τ H2 ⟨τ', A2, k2, g2, s2, w2⟩
  have k12 := k1.trans k2
  rcases turn i m τ' A2 w2 with ⟨hstop, q⟩ | ⟨u, hgo, q⟩
  · exact .inl ⟨hj i A2 H2 _ k2 g2 hstop, k _ _ _ _ k12 g2 (.ref l) q⟩
  · obtain ⟨j1, j2⟩ := hj i A2 H2 _ k2 g2 hgo
    refine .inr ⟨j1, fun x H3 hy => ?_⟩
    obtain ⟨k3, g3, r3⟩ := j2 x H3 hy
    refine hg _ _ _ _ _ _ _ _ r3 (s2.same k3) g3 q fun ρ4 A4 σ4 H4 k4 g4 s4 q4 => ht ρ4 A4 σ4 H4 _ _ s4 g4 q4 fun b A5 H5 k5 g5 q5 => ?_
    have k25 := k2.trans (k3.trans (k4.trans k5))
    cases b
    · refine iteN (by decide) ?_
      obtain ⟨m', hm, w'⟩ := (by simpa using q5 : ∃ m', m' < m ∧ W (i + 1) m' ρ4 A5)
      exact ⟨m', hm, _, _, k25, g5, s4.same k5, w'⟩
    · refine iteP rfl (he ρ4 A5 σ4 H5 _ _ (s4.same k5) g5 (by simpa using q5) fun y A6 v6 H6 k6 g6 r6 q6 => ?_)
      obtain ⟨ys, hA, hz, m', hm, w'⟩ := q6
      obtain ⟨vs, h6, r7⟩ := g6.list hA
      exact ⟨vs, h6, by rw [← r7.length]; exact hz, m', hm, _, _, k25.trans (k6.trans (Kp.lst h6)), g6.setL h6 (r7.app (.one r6)), (s4.same (k5.trans (k6.trans (Kp.lst h6)))), w'⟩
end
end L2

set_option Elab.async false
set_option linter.all false
set_option maxRecDepth 100000
set_option maxHeartbeats 4000000
/-! readings over values: the operations -/
namespace L2
open PySem PySem.Spec PyProof.Rows
section
variable {K : PySem.W.Frag}
def xAdd : AR2 := fun u w A Q => match u, w with
  | .int i, .int j => Q (.int (i + j)) A
  | .str i, .str j => i.length + j.length ≤ sizeLine ∧ Q (.str (i ++ j)) A
  | .tup xs, .tup ys => xs.length + ys.length ≤ sizeLine ∧ Q (.tup (xs ++ ys)) A
  | .ref a, .ref b => ∃ xs ys, A a = some (.lst xs) ∧ A b = some (.lst ys) ∧ xs.length + ys.length ≤ sizeLine ∧ ∀ p, A p = none → Q (.ref p) (updA A p (.lst (xs ++ ys)))
  | _, _ => False
theorem ab_add : AbR K (uAddW K) xAdd := fun x y u w A H Q' Q hu hw g h k => by
  unfold xAdd at h
  split at h
  · cases hu; cases hw; exact k _ _ _ _ (.refl H) g (.int _) h
  · cases hu; cases hw; exact ⟨h.1, k _ _ _ _ (.refl H) g (.str _) h.2⟩
  · cases hu with
    | tup h1 r1 =>
      cases hw with
      | tup h2 r2 =>
        refine .inr ⟨_, _, h1, h2, by rw [← r1.length, ← r2.length]; exact h.1, fun p H' s hp => k _ _ _ _ s.kp (g.grow s) (.tup hp ((r1.app r2).same s.kp)) h.2⟩
  · cases hu; cases hw
    obtain ⟨xs, ys, e1, e2, hz, q⟩ := h
    obtain ⟨vs, h1, r1⟩ := g.list e1
    obtain ⟨zs, h2, r2⟩ := g.list e2
    exact .inl ⟨vs, zs, SqL.of h1, SqL.of h2, by rw [← r1.length, ← r2.length]; exact hz, fun p hp => k _ _ _ _ (Same.upd_new hp).kp (g.newL hp (r1.app r2)) (.ref p) (q p (g.none hp))⟩
  · exact h.elim
def xI2 (C : Int → Int → Prop) (f : Int → Int → U) : AR2 := fun u w A Q => match u, w with
  | .int i, .int j => C i j ∧ Q (f i j) A
  | _, _ => False
def xI (f : Int → Int → U) : AR2 := fun u w A Q => match u, w with
  | .int i, .int j => Q (f i j) A
  | _, _ => False
theorem ab_sub : AbR K uSub (xI fun i j => .int (i - j)) := fun x y u w A H Q' Q hu hw g h k => by
  unfold xI at h
  split at h
  · cases hu; cases hw; exact k _ _ _ _ (.refl H) g (.int _) h
  · exact h.elim
def xMul : AR2 := fun u w A Q => match u, w with
  | .int i, .int j => IntMulOk i j ∧ Q (.int (i * j)) A
  | .ref a, .int m => ∃ xs, A a = some (.lst xs) ∧ -(2 ^ 63) ≤ m ∧ m < 2 ^ 63 ∧ xs.length * m.toNat ≤ sizeLine ∧ ∀ p, A p = none → Q (.ref p) (updA A p (.lst (List.replicate m.toNat xs).flatten))
  | _, _ => False
theorem RUs.flat {H : Hp} {us : List U} {vs : List V} (r : RUs K H us vs) : ∀ n, RUs K H (List.replicate n us).flatten (List.replicate n vs).flatten
  | 0 => .nil
  | n + 1 => by rw [List.replicate_succ, List.replicate_succ, List.flatten_cons, List.flatten_cons]; exact r.app (r.flat n)
theorem ab_mod : AbR K uMod (xI2 (fun _ j => 0 < j) fun i j => .int (i % j)) := fun x y u w A H Q' Q hu hw g h k => by
  unfold xI2 at h
  split at h
  · cases hu; cases hw; exact ⟨h.1, k _ _ _ _ (.refl H) g (.int _) h.2⟩
  · exact h.elim
def xLt : AR2 := fun u w A Q => match u, w with
  | .int i, .int j => Q (.bl (decide (i < j))) A
  | .str i, .str j => Q (.bl (decide (i.cps.toList < j.cps.toList))) A
  | _, _ => False
theorem ab_lt : AbR K uLt xLt := fun x y u w A H Q' Q hu hw g h k => by
  unfold xLt at h
  split at h
  · cases hu; cases hw; exact k _ _ _ _ (.refl H) g (.bl _) h
  · cases hu; cases hw; exact k _ _ _ _ (.refl H) g (.bl _) h
  · exact h.elim
/-! deep == -/
mutual
inductive DU (A : AHp) : U → PyData → Prop
  | non : DU A .non .none
  | bl (b : Bool) : DU A (.bl b) (.bool b)
  | int (i : Int) : DU A (.int i) (.int i)
  | str (x : Str) : DU A (.str x) (.str x)
  | tup {us : List U} {ds : List PyData} : DUs A us ds → DU A (.tup us) (.tuple ds)
  | rol {us : List U} {ds : List PyData} : DUs A us ds → DU A (.rol us) (.list ds)
  | lst {a : Addr} {us : List U} {ds : List PyData} : A a = some (.lst us) → DUs A us ds → DU A (.ref a) (.list ds)
inductive DUs (A : AHp) : List U → List PyData → Prop
  | nil : DUs A [] []
  | cons {u : U} {d : PyData} {us : List U} {ds : List PyData} : DU A u d → DUs A us ds → DUs A (u :: us) (d :: ds)
end
mutual
theorem DU.rep {A : AHp} {H : Hp} (g : HR K H A) : ∀ {u : U} {v : V} {d : PyData}, DU A u d → RU K H u v → Rep K H d v
  | _, _, _, .non, .non => .non
  | _, _, _, .bl b, .bl _ => .bl b
  | _, _, _, .int b, .int _ => .int b
  | _, _, _, .str b, .str _ => .str b
  | _, _, _, .tup q, .tup h r => .tup h (DUs.reps g q r)
  | _, _, _, .rol q, .rol h r => .lst h.sq (DUs.reps g q r)
  | _, _, _, .lst e q, .ref _ => by
    obtain ⟨vs, h, r⟩ := g.list e
    exact .lst (SqL.of h) (DUs.reps g q r)
theorem DUs.reps {A : AHp} {H : Hp} (g : HR K H A) : ∀ {us : List U} {vs : List V} {ds : List PyData}, DUs A us ds → RUs K H us vs → Reps K H ds vs
  | _, _, _, .nil, .nil => .nil
  | _, _, _, .cons h r, .cons q s => .cons (DU.rep g h q) (DUs.reps g r s)
end
def xDeep (ne : Bool) (u w : U) (A : AHp) (Q : AVK) : Prop := ∃ d e, DU A u d ∧ DU A w e ∧ d.canLay0 = true ∧ e.canLay0 = true ∧ d.depth ≤ 190 ∧ Q (.bl (if ne then !PyData.eqv d e else PyData.eqv d e)) A
def xEq : AR2 := fun u w A Q => match u, w with
  | .int i, .int j => Q (.bl (decide (i = j))) A
  | .str i, .str j => Q (.bl (decide (i = j))) A
  | .bl i, .bl j => Q (.bl (decide (i = j))) A
  | .tup us, .tup ws => xDeep false (.tup us) (.tup ws) A Q
  | .ref a, .ref b => xDeep false (.ref a) (.ref b) A Q
  | .rol a, .ref b => xDeep false (.rol a) (.ref b) A Q
  | .tup us, .non => xDeep false (.tup us) .non A Q
  | .non, .tup us => xDeep false .non (.tup us) A Q
  | .non, .non => Q (.bl true) A
  | .non, .str _ => Q (.bl false) A
  | .str _, .non => Q (.bl false) A
  | _, _ => False
theorem deep_eq {x y : V} {u w : U} {A : AHp} {H : Hp} {Q' : AVK} {Q : VK} {ne : Bool} (hu : RU K H u x) (hw : RU K H w y) (g : HR K H A) (h : xDeep ne u w A Q') (k : Aft K H Q' Q) : rEqD K ne x y H Q := by
  obtain ⟨d, e, h1, h2, c1, c2, dp, q⟩ := h
  exact ⟨d, e, h1.rep g hu, h2.rep g hw, c1, c2, dp, k _ _ _ _ (.refl H) g (.bl _) q⟩
theorem ab_eq : AbR K (uEqD K) xEq := fun x y u w A H Q' Q hu hw g h k => by
  unfold xEq at h
  split at h
  · cases hu; cases hw; exact k _ _ _ _ (.refl H) g (.bl _) h
  · cases hu; cases hw; exact k _ _ _ _ (.refl H) g (.bl _) h
  · cases hu; cases hw; exact k _ _ _ _ (.refl H) g (.bl _) h
  · have := deep_eq hu hw g h k; cases hu; exact this
  · have := deep_eq hu hw g h k; cases hu; exact this
  · have := deep_eq hu hw g h k; cases hu; exact this
  · have := deep_eq hu hw g h k; cases hu; exact this
  · have := deep_eq hu hw g h k; cases hu; cases hw; exact this
  · cases hu; cases hw; exact k _ _ _ _ (.refl H) g (.bl _) h
  · cases hu; cases hw; exact k _ _ _ _ (.refl H) g (.bl _) h
  · cases hu; cases hw; exact k _ _ _ _ (.refl H) g (.bl _) h
  · exact h.elim
def xNe : AR2 := fun u w A Q => match u, w with
  | .int i, .int j => Q (.bl (!decide (i = j))) A
  | .str i, .str j => Q (.bl (!decide (i = j))) A
  | .bl i, .bl j => Q (.bl (!decide (i = j))) A
  | .tup us, .tup ws => xDeep true (.tup us) (.tup ws) A Q
  | .ref a, .ref b => xDeep true (.ref a) (.ref b) A Q
  | .rol a, .ref b => xDeep true (.rol a) (.ref b) A Q
  | .tup us, .non => xDeep true (.tup us) .non A Q
  | .non, .tup us => xDeep true .non (.tup us) A Q
  | .non, .non => Q (.bl false) A
  | .non, .str _ => Q (.bl true) A
  | .str _, .non => Q (.bl true) A
  | _, _ => False
def U.isNon : U → Bool
  | .non => true
  | _ => false
def xIsN : AR2 := fun u w A Q => w = .non ∧ Q (.bl u.isNon) A
def xNotN : AR2 := fun u w A Q => w = .non ∧ Q (.bl (!u.isNon)) A
/-! in -/
def U.flat : U → Bool
  | .non => true
  | .bl _ => true
  | .int _ => true
  | .str _ => true
  | _ => false
def U.toV : U → V
  | .bl b => .bl b
  | .int i => .int i
  | .str x => .str x
  | _ => .non
theorem RU.flat {H : Hp} {u : U} {v : V} (h : RU K H u v) (f : u.flat = true) : v = u.toV ∧ flatV v = true := by
  cases h <;> first | exact ⟨rfl, rfl⟩ | cases f
def inU (u : U) (us : List U) : Bool := inV u.toV (us.map U.toV)
def xInB (neg : Bool) : AR2 := fun u w A Q => match w with
  | .str j => ∃ i, u = .str i ∧ Q (.bl (if neg then !occ j i else occ j i)) A
  | .tup us => u.flat = true ∧ us.all U.flat = true ∧ Q (.bl (if neg then !inU u us else inU u us)) A
  | .rol us => u.flat = true ∧ us.all U.flat = true ∧ Q (.bl (if neg then !inU u us else inU u us)) A
  | .ref a => ∃ us, A a = some (.lst us) ∧ u.flat = true ∧ us.all U.flat = true ∧ Q (.bl (if neg then !inU u us else inU u us)) A
  | _ => False
abbrev xIn := xInB false
abbrev xNin := xInB true
/-! index, slice, len -/
theorem RUs.at {H : Hp} {us : List U} {vs : List V} {i : Int} {u : U} (r : RUs K H us vs) (h : atI us i = some u) : ∃ v, atI vs i = some v ∧ RU K H u v := by
  unfold atI at h ⊢
  rw [← r.length]
  cases e : ixN us.length i with
  | none => rw [e] at h; cases h
  | some j => rw [e] at h; exact r.get' h
def xIx : AR2 := fun u w A Q => match u, w with
  | .str z, .int i => z.length ≤ sizeLine ∧ ∃ c, atI z.cps.toList i = some c ∧ Q (.str ⟨#[c]⟩) A
  | .tup us, .int i => ∃ x, atI us i = some x ∧ Q x A
  | .rol us, .int i => ∃ x, atI us i = some x ∧ Q x A
  | .ref a, .int i => ∃ us x, A a = some (.lst us) ∧ atI us i = some x ∧ Q x A
  | _, _ => False
theorem ab_ix : AbR K (uIx K) xIx := fun x y u w A H Q' Q hu hw g h k => by
  unfold xIx at h
  split at h
  · cases hu; cases hw
    obtain ⟨hz, c, e, h⟩ := h
    exact ⟨hz, c, e, k _ _ _ _ (.refl H) g (.str _) h⟩
  · cases hw
    obtain ⟨x, e, h⟩ := h
    cases hu with
    | tup h1 r1 =>
      obtain ⟨v, e2, rv⟩ := r1.at e
      exact ⟨_, v, .inr h1, e2, k _ _ _ _ (.refl H) g rv h⟩
  · cases hw
    obtain ⟨x, e, h⟩ := h
    cases hu with
    | rol h1 r1 =>
      obtain ⟨v, e2, rv⟩ := r1.at e
      exact ⟨_, v, .inl h1.sq, e2, k _ _ _ _ (.refl H) g rv h⟩
  · cases hw; cases hu
    obtain ⟨us, x, e0, e, h⟩ := h
    obtain ⟨vs, h1, r1⟩ := g.list e0
    obtain ⟨v, e2, rv⟩ := r1.at e
    exact ⟨_, v, .inl (SqL.of h1), e2, k _ _ _ _ (.refl H) g rv h⟩
  · exact h.elim
def cutU (xs : List U) (lo hi : Option Int) : List U := (xs.drop (HT.sIx xs.length 0 lo)).take (HT.sIx xs.length xs.length hi - HT.sIx xs.length 0 lo)
theorem RUs.cut {H : Hp} {us : List U} {vs : List V} (r : RUs K H us vs) (lo hi : Option Int) : RUs K H (cutU us lo hi) (cutV vs lo hi) := by
  unfold cutU cutV
  rw [r.length]
  exact (r.drop _).take _
def xSl : U → Option Int → Option Int → AHp → AVK → Prop := fun u lo hi A Q => match u with
  | .str z => z.length ≤ sizeLine ∧ Q (.str (cutS z lo hi)) A
  | .tup us => Q (.tup (cutU us lo hi)) A
  | .rol us => ∀ p, A p = none → Q (.ref p) (updA A p (.lst (cutU us lo hi)))
  | .ref a => ∃ us, A a = some (.lst us) ∧ ∀ p, A p = none → Q (.ref p) (updA A p (.lst (cutU us lo hi)))
  | _ => False
theorem ab_xsl : AbSl K (uSlW K) xSl := fun x u lo hi A H Q' Q hu g h k => by
  unfold xSl at h
  split at h
  · cases hu; exact ⟨h.1, k _ _ _ _ (.refl H) g (.str _) h.2⟩
  · cases hu with
    | tup h1 r1 => exact .inr ⟨_, h1, fun p H' s hp => k _ _ _ _ s.kp (g.grow s) (.tup hp ((r1.cut lo hi).same s.kp)) h⟩
  · cases hu with
    | rol h1 r1 => exact .inl ⟨_, h1.sq, fun p hp => k _ _ _ _ (Same.upd_new hp).kp (g.newL hp (r1.cut lo hi)) (.ref p) (h p (g.none hp))⟩
  · cases hu
    obtain ⟨us, e, h⟩ := h
    obtain ⟨vs, h1, r1⟩ := g.list e
    exact .inl ⟨_, SqL.of h1, fun p hp => k _ _ _ _ (Same.upd_new hp).kp (g.newL hp (r1.cut lo hi)) (.ref p) (h p (g.none hp))⟩
  · exact h.elim
def xLen : List U → AHp → AVK → Prop := fun us A Q => match us with
  | [.str z] => z.length ≤ sizeLine ∧ Q (.int z.length) A
  | [.tup us] => Q (.int us.length) A
  | [.rol us] => Q (.int us.length) A
  | [.ref a] => ∃ us, A a = some (.lst us) ∧ Q (.int us.length) A
  | _ => False
theorem RUs.inv1 {H : Hp} {u : U} {vs : List V} (h : RUs K H [u] vs) : ∃ v, vs = [v] ∧ RU K H u v := by
  cases h with
  | cons h r => cases r; exact ⟨_, rfl, h⟩
theorem RUs.inv2 {H : Hp} {u w : U} {vs : List V} (h : RUs K H [u, w] vs) : ∃ v x, vs = [v, x] ∧ RU K H u v ∧ RU K H w x := by
  cases h with
  | cons h r => obtain ⟨x, rfl, r'⟩ := r.inv1; exact ⟨_, x, rfl, h, r'⟩
theorem ab_len : AbL K (uLen K) xLen := fun xs us A H Q' Q r g h k => by
  unfold xLen at h
  split at h
  · obtain ⟨v, rfl, r'⟩ := r.inv1; cases r'; exact ⟨h.1, k _ _ _ _ (.refl H) g (.int _) h.2⟩
  · obtain ⟨v, rfl, r'⟩ := r.inv1
    cases r' with
    | tup h1 r1 => exact ⟨_, .inr h1, k _ _ _ _ (.refl H) g (.int _) (by rw [← r1.length]; exact h)⟩
  · obtain ⟨v, rfl, r'⟩ := r.inv1
    cases r' with
    | rol h1 r1 => exact ⟨_, .inl h1.sq, k _ _ _ _ (.refl H) g (.int _) (by rw [← r1.length]; exact h)⟩
  · obtain ⟨v, rfl, r'⟩ := r.inv1
    cases r'
    obtain ⟨us, e, h⟩ := h
    obtain ⟨vs, h1, r1⟩ := g.list e
    exact ⟨_, .inl (SqL.of h1), k _ _ _ _ (.refl H) g (.int _) (by rw [← r1.length]; exact h)⟩
  · exact h.elim
def xMin : List U → AHp → AVK → Prop := fun us A Q => match us with
  | [.int i, .int j] => Q (.int (min i j)) A
  | [.ref a] => ∃ ns : List Int, A a = some (.lst (ns.map U.int)) ∧ 1 ≤ ns.length ∧ ∀ m, m ∈ ns → (∀ x ∈ ns, m ≤ x) → Q (.int m) A
  | _ => False
def xMax : List U → AHp → AVK → Prop := fun us A Q => match us with
  | [.int i, .int j] => Q (.int (max i j)) A
  | [.ref a] => ∃ ns : List Int, A a = some (.lst (ns.map U.int)) ∧ 1 ≤ ns.length ∧ ∀ m, m ∈ ns → (∀ x ∈ ns, x ≤ m) → Q (.int m) A
  | _ => False
theorem ab_min : AbL K (uMinA K) xMin := fun xs us A H Q' Q r g h k => by
  unfold xMin at h
  split at h
  · obtain ⟨v, x, rfl, r1, r2⟩ := r.inv2; cases r1; cases r2; exact k _ _ _ _ (.refl H) g (.int _) h
  · obtain ⟨v, rfl, r'⟩ := r.inv1; cases r'
    obtain ⟨ns, e, hn, h⟩ := h
    obtain ⟨vs, h1, r1⟩ := g.list e
    exact ⟨ns, SqL.of (by rw [h1, r1.ints]), hn, fun m hm hx => k _ _ _ _ (.refl H) g (.int _) (h m hm hx)⟩
  · exact h.elim
def xSum : List U → AHp → AVK → Prop := fun us A Q => match us with
  | [.ref a] => ∃ ns : List Int, A a = some (.lst (ns.map U.int)) ∧ Q (.int ns.sum) A
  | _ => False
def xAll : List U → AHp → AVK → Prop := fun us A Q => match us with
  | [.ref a] => ∃ bs : List Bool, A a = some (.lst (bs.map U.bl)) ∧ Q (.bl (bs.all id)) A
  | _ => False
def xListOf : List U → AHp → AVK → Prop := fun us A Q => match us with
  | [.tup us] => ∀ p, A p = none → Q (.ref p) (updA A p (.lst us))
  | [.rol us] => ∀ p, A p = none → Q (.ref p) (updA A p (.lst us))
  | [.ref a] => ∃ us, A a = some (.lst us) ∧ ∀ p, A p = none → Q (.ref p) (updA A p (.lst us))
  | _ => False
theorem ab_listof : AbL K (uListOf K) xListOf := fun xs us A H Q' Q r g h k => by
  unfold xListOf at h
  split at h
  · obtain ⟨v, rfl, r'⟩ := r.inv1
    cases r' with
    | tup h1 r1 => exact ⟨_, .inr h1, fun p hp => k _ _ _ _ (Same.upd_new hp).kp (g.newL hp r1) (.ref p) (h p (g.none hp))⟩
  · obtain ⟨v, rfl, r'⟩ := r.inv1
    cases r' with
    | rol h1 r1 => exact ⟨_, .inl h1.sq, fun p hp => k _ _ _ _ (Same.upd_new hp).kp (g.newL hp r1) (.ref p) (h p (g.none hp))⟩
  · obtain ⟨v, rfl, r'⟩ := r.inv1
    cases r'
    obtain ⟨us, e, h⟩ := h
    obtain ⟨vs, h1, r1⟩ := g.list e
    exact ⟨_, .inl (SqL.of h1), fun p hp => k _ _ _ _ (Same.upd_new hp).kp (g.newL hp r1) (.ref p) (h p (g.none hp))⟩
  · exact h.elim
def xTupOf : List U → AHp → AVK → Prop := fun us A Q => match us with
  | [.tup us] => Q (.tup us) A
  | [.rol us] => Q (.tup us) A
  | [.ref a] => ∃ us, A a = some (.lst us) ∧ Q (.tup us) A
  | _ => False
def xInt : List U → AHp → AVK → Prop := fun us A Q => match us with
  | [.int i] => Q (.int i) A
  | [.bl k] => Q (.int (if k then 1 else 0)) A
  | _ => False
/-! methods of lists -/
def isLst : U → AHp → Prop := fun u A => match u with
  | .ref a => ∃ us, A a = some (.lst us)
  | _ => False
theorem ab_isLst : AbY K "list" isLst := fun x u A H r g h => by
  unfold isLst at h
  split at h
  · cases r
    obtain ⟨us, e⟩ := h
    obtain ⟨vs, h1, r1⟩ := g.list e
    exact .inl ⟨rfl, vs, SqL.of h1⟩
  · exact h.elim
def isTupU : U → AHp → Prop := fun u _ => match u with
  | .tup _ => True
  | _ => False
def mApp : U → List U → AHp → AVK → Prop := fun u us A Q => match u, us with
  | .ref a, [w] => ∃ xs, A a = some (.lst xs) ∧ xs.length < sizeLine ∧ Q .non (updA A a (.lst (xs ++ [w])))
  | _, _ => False
theorem ab_mapp : AbMt K rAppend mApp := fun x u xs us A H Q' Q r rs g h k => by
  unfold mApp at h
  split at h
  · cases r
    obtain ⟨v, rfl, rv⟩ := rs.inv1
    obtain ⟨zs, e, hz, h⟩ := h
    obtain ⟨vs, h1, r1⟩ := g.list e
    exact ⟨_, vs, _, rfl, rfl, h1, by rw [← r1.length]; exact hz, k _ _ _ _ (Kp.lst h1) (g.setL h1 (r1.app (.one rv))) .non h⟩
  · exact h.elim
def mPop : U → List U → AHp → AVK → Prop := fun u us A Q => match u, us with
  | .ref a, [] => ∃ xs y, A a = some (.lst (xs ++ [y])) ∧ Q y (updA A a (.lst xs))
  | _, _ => False
def mExtT : U → List U → AHp → AVK → Prop := fun u us A Q => match u, us with
  | .ref a, [.tup ws] => ∃ xs, A a = some (.lst xs) ∧ xs.length + ws.length ≤ sizeLine ∧ Q .non (updA A a (.lst (xs ++ ws)))
  | _, _ => False
theorem ab_mextT : AbMt K (rExtT K) mExtT := fun x u xs us A H Q' Q r rs g h k => by
  unfold mExtT at h
  split at h
  · cases r
    obtain ⟨v, rfl, rv⟩ := rs.inv1
    obtain ⟨zs, e, hz, h⟩ := h
    obtain ⟨vs, h1, r1⟩ := g.list e
    cases rv with
    | tup h2 r2 => exact ⟨_, _, vs, _, rfl, rfl, h1, h2, by rw [← r1.length, ← r2.length]; exact hz, k _ _ _ _ (Kp.lst h1) (g.setL h1 (r1.app r2)) .non h⟩
  · exact h.elim
def mExt : U → List U → AHp → AVK → Prop := fun u us A Q => match u, us with
  | .ref a, [.ref b] => ∃ xs ws, A a = some (.lst xs) ∧ A b = some (.lst ws) ∧ xs.length + ws.length ≤ sizeLine ∧ Q .non (updA A a (.lst (xs ++ ws)))
  | _, _ => False
theorem ab_mext : AbMt K rExtend mExt := fun x u xs us A H Q' Q r rs g h k => by
  unfold mExt at h
  split at h
  · cases r
    obtain ⟨v, rfl, rv⟩ := rs.inv1
    cases rv
    obtain ⟨zs, ws, e, e2, hz, h⟩ := h
    obtain ⟨vs, h1, r1⟩ := g.list e
    obtain ⟨ys, h2, r2⟩ := g.list e2
    exact ⟨_, _, vs, _, rfl, rfl, h1, h2, by rw [← r1.length, ← r2.length]; exact hz, k _ _ _ _ (Kp.lst h1) (g.setL h1 (r1.app r2)) .non h⟩
  · exact h.elim
/-! xs[i] = v, xs[i:] = ys -/
def bSetL (o i : AE) : AG := fun u ρ A Q => o ρ A fun x A1 => i ρ A1 fun y A2 => ∃ a us m j, x = .ref a ∧ y = .int m ∧ A2 a = some (.lst us) ∧ ixN us.length m = some j ∧ Q ρ (updA A2 a (.lst (us.set j u)))
def bTail (o : AE) (l : AP1) : AG := fun u ρ A Q => o ρ A fun x A1 => l ρ A1 fun y A2 => ∃ a b us ws i, x = .ref a ∧ u = .ref b ∧ y = some i ∧ A2 a = some (.lst us) ∧ A2 b = some (.lst ws) ∧ a ≠ b ∧ 0 ≤ i ∧ i ≤ us.length ∧ us.length + ws.length ≤ sizeLine ∧ Q ρ (updA A2 a (.lst (us.take i.toNat ++ ws)))
/-! tuple(reversed(xs)) -/
def aTupRev (a : AE) : AE := fun ρ A Q => a ρ A fun x A1 => ∃ p us, x = .ref p ∧ A1 p = some (.lst us) ∧ Q (.tup us.reverse) A1
end
end L2

set_option Elab.async false
set_option linter.all false
set_option maxRecDepth 100000
set_option maxHeartbeats 4000000
/-! the readings opened -/
namespace L2
open PySem PySem.Spec PyProof.Rows
theorem cutU_tail (x : U) (xs : List U) : cutU (x :: xs) (some 1) none = xs := by
  unfold cutU
  have : HT.sIx (x :: xs).length 0 (some 1) = 1 := by
    have := HT.sIx_nat (x :: xs).length 0 1
    rw [show ((1 : Nat) : Int) = 1 from rfl] at this
    rw [this, List.length_cons]; omega
  rw [this, HT.sIx_none, List.drop_succ_cons, List.drop_zero, List.length_cons, Nat.add_sub_cancel, List.take_length]
section
variable {u : U} {ρ : ASt} {A : AHp} {Q : AVK} {a b : AE} {c d : AT} {B : Bool → AHp → Prop} {l : AA} {L : List U → AHp → Prop} {D : AEnds}
theorem q_var0  : (aVar 0 (some u :: ρ) A Q) = (Q u A) := rfl
theorem q_nm0 {a0 : Option U} {g : ASt → AHp → Prop}  : (bName 0 u (a0 :: ρ) A g) = (g (some u :: ρ) A) := rfl
theorem q_get0 {k : U → Prop}  : (aGet (some u :: ρ) 0 k) = (k u) := rfl
theorem q_var1 {a0 : Option U}  : (aVar 1 (a0 :: some u :: ρ) A Q) = (Q u A) := rfl
theorem q_nm1 {a0 a1 : Option U} {g : ASt → AHp → Prop}  : (bName 1 u (a0 :: a1 :: ρ) A g) = (g (a0 :: some u :: ρ) A) := rfl
theorem q_get1 {a0 : Option U} {k : U → Prop}  : (aGet (a0 :: some u :: ρ) 1 k) = (k u) := rfl
theorem q_var2 {a0 a1 : Option U}  : (aVar 2 (a0 :: a1 :: some u :: ρ) A Q) = (Q u A) := rfl
theorem q_nm2 {a0 a1 a2 : Option U} {g : ASt → AHp → Prop}  : (bName 2 u (a0 :: a1 :: a2 :: ρ) A g) = (g (a0 :: a1 :: some u :: ρ) A) := rfl
theorem q_get2 {a0 a1 : Option U} {k : U → Prop}  : (aGet (a0 :: a1 :: some u :: ρ) 2 k) = (k u) := rfl
theorem q_var3 {a0 a1 a2 : Option U}  : (aVar 3 (a0 :: a1 :: a2 :: some u :: ρ) A Q) = (Q u A) := rfl
theorem q_nm3 {a0 a1 a2 a3 : Option U} {g : ASt → AHp → Prop}  : (bName 3 u (a0 :: a1 :: a2 :: a3 :: ρ) A g) = (g (a0 :: a1 :: a2 :: some u :: ρ) A) := rfl
theorem q_get3 {a0 a1 a2 : Option U} {k : U → Prop}  : (aGet (a0 :: a1 :: a2 :: some u :: ρ) 3 k) = (k u) := rfl
theorem q_var4 {a0 a1 a2 a3 : Option U}  : (aVar 4 (a0 :: a1 :: a2 :: a3 :: some u :: ρ) A Q) = (Q u A) := rfl
theorem q_nm4 {a0 a1 a2 a3 a4 : Option U} {g : ASt → AHp → Prop}  : (bName 4 u (a0 :: a1 :: a2 :: a3 :: a4 :: ρ) A g) = (g (a0 :: a1 :: a2 :: a3 :: some u :: ρ) A) := rfl
theorem q_get4 {a0 a1 a2 a3 : Option U} {k : U → Prop}  : (aGet (a0 :: a1 :: a2 :: a3 :: some u :: ρ) 4 k) = (k u) := rfl
theorem q_var5 {a0 a1 a2 a3 a4 : Option U}  : (aVar 5 (a0 :: a1 :: a2 :: a3 :: a4 :: some u :: ρ) A Q) = (Q u A) := rfl
theorem q_nm5 {a0 a1 a2 a3 a4 a5 : Option U} {g : ASt → AHp → Prop}  : (bName 5 u (a0 :: a1 :: a2 :: a3 :: a4 :: a5 :: ρ) A g) = (g (a0 :: a1 :: a2 :: a3 :: a4 :: some u :: ρ) A) := rfl
theorem q_get5 {a0 a1 a2 a3 a4 : Option U} {k : U → Prop}  : (aGet (a0 :: a1 :: a2 :: a3 :: a4 :: some u :: ρ) 5 k) = (k u) := rfl
theorem q_var6 {a0 a1 a2 a3 a4 a5 : Option U}  : (aVar 6 (a0 :: a1 :: a2 :: a3 :: a4 :: a5 :: some u :: ρ) A Q) = (Q u A) := rfl
theorem q_nm6 {a0 a1 a2 a3 a4 a5 a6 : Option U} {g : ASt → AHp → Prop}  : (bName 6 u (a0 :: a1 :: a2 :: a3 :: a4 :: a5 :: a6 :: ρ) A g) = (g (a0 :: a1 :: a2 :: a3 :: a4 :: a5 :: some u :: ρ) A) := rfl
theorem q_get6 {a0 a1 a2 a3 a4 a5 : Option U} {k : U → Prop}  : (aGet (a0 :: a1 :: a2 :: a3 :: a4 :: a5 :: some u :: ρ) 6 k) = (k u) := rfl
theorem q_var7 {a0 a1 a2 a3 a4 a5 a6 : Option U}  : (aVar 7 (a0 :: a1 :: a2 :: a3 :: a4 :: a5 :: a6 :: some u :: ρ) A Q) = (Q u A) := rfl
theorem q_nm7 {a0 a1 a2 a3 a4 a5 a6 a7 : Option U} {g : ASt → AHp → Prop}  : (bName 7 u (a0 :: a1 :: a2 :: a3 :: a4 :: a5 :: a6 :: a7 :: ρ) A g) = (g (a0 :: a1 :: a2 :: a3 :: a4 :: a5 :: a6 :: some u :: ρ) A) := rfl
theorem q_get7 {a0 a1 a2 a3 a4 a5 a6 : Option U} {k : U → Prop}  : (aGet (a0 :: a1 :: a2 :: a3 :: a4 :: a5 :: a6 :: some u :: ρ) 7 k) = (k u) := rfl
theorem q_var8 {a0 a1 a2 a3 a4 a5 a6 a7 : Option U}  : (aVar 8 (a0 :: a1 :: a2 :: a3 :: a4 :: a5 :: a6 :: a7 :: some u :: ρ) A Q) = (Q u A) := rfl
theorem q_nm8 {a0 a1 a2 a3 a4 a5 a6 a7 a8 : Option U} {g : ASt → AHp → Prop}  : (bName 8 u (a0 :: a1 :: a2 :: a3 :: a4 :: a5 :: a6 :: a7 :: a8 :: ρ) A g) = (g (a0 :: a1 :: a2 :: a3 :: a4 :: a5 :: a6 :: a7 :: some u :: ρ) A) := rfl
theorem q_get8 {a0 a1 a2 a3 a4 a5 a6 a7 : Option U} {k : U → Prop}  : (aGet (a0 :: a1 :: a2 :: a3 :: a4 :: a5 :: a6 :: a7 :: some u :: ρ) 8 k) = (k u) := rfl
theorem q_var9 {a0 a1 a2 a3 a4 a5 a6 a7 a8 : Option U}  : (aVar 9 (a0 :: a1 :: a2 :: a3 :: a4 :: a5 :: a6 :: a7 :: a8 :: some u :: ρ) A Q) = (Q u A) := rfl
theorem q_nm9 {a0 a1 a2 a3 a4 a5 a6 a7 a8 a9 : Option U} {g : ASt → AHp → Prop}  : (bName 9 u (a0 :: a1 :: a2 :: a3 :: a4 :: a5 :: a6 :: a7 :: a8 :: a9 :: ρ) A g) = (g (a0 :: a1 :: a2 :: a3 :: a4 :: a5 :: a6 :: a7 :: a8 :: some u :: ρ) A) := rfl
theorem q_get9 {a0 a1 a2 a3 a4 a5 a6 a7 a8 : Option U} {k : U → Prop}  : (aGet (a0 :: a1 :: a2 :: a3 :: a4 :: a5 :: a6 :: a7 :: a8 :: some u :: ρ) 9 k) = (k u) := rfl
theorem q_var10 {a0 a1 a2 a3 a4 a5 a6 a7 a8 a9 : Option U}  : (aVar 10 (a0 :: a1 :: a2 :: a3 :: a4 :: a5 :: a6 :: a7 :: a8 :: a9 :: some u :: ρ) A Q) = (Q u A) := rfl
theorem q_nm10 {a0 a1 a2 a3 a4 a5 a6 a7 a8 a9 a10 : Option U} {g : ASt → AHp → Prop}  : (bName 10 u (a0 :: a1 :: a2 :: a3 :: a4 :: a5 :: a6 :: a7 :: a8 :: a9 :: a10 :: ρ) A g) = (g (a0 :: a1 :: a2 :: a3 :: a4 :: a5 :: a6 :: a7 :: a8 :: a9 :: some u :: ρ) A) := rfl
theorem q_get10 {a0 a1 a2 a3 a4 a5 a6 a7 a8 a9 : Option U} {k : U → Prop}  : (aGet (a0 :: a1 :: a2 :: a3 :: a4 :: a5 :: a6 :: a7 :: a8 :: a9 :: some u :: ρ) 10 k) = (k u) := rfl
theorem q_var11 {a0 a1 a2 a3 a4 a5 a6 a7 a8 a9 a10 : Option U}  : (aVar 11 (a0 :: a1 :: a2 :: a3 :: a4 :: a5 :: a6 :: a7 :: a8 :: a9 :: a10 :: some u :: ρ) A Q) = (Q u A) := rfl
theorem q_nm11 {a0 a1 a2 a3 a4 a5 a6 a7 a8 a9 a10 a11 : Option U} {g : ASt → AHp → Prop}  : (bName 11 u (a0 :: a1 :: a2 :: a3 :: a4 :: a5 :: a6 :: a7 :: a8 :: a9 :: a10 :: a11 :: ρ) A g) = (g (a0 :: a1 :: a2 :: a3 :: a4 :: a5 :: a6 :: a7 :: a8 :: a9 :: a10 :: some u :: ρ) A) := rfl
theorem q_get11 {a0 a1 a2 a3 a4 a5 a6 a7 a8 a9 a10 : Option U} {k : U → Prop}  : (aGet (a0 :: a1 :: a2 :: a3 :: a4 :: a5 :: a6 :: a7 :: a8 :: a9 :: a10 :: some u :: ρ) 11 k) = (k u) := rfl
theorem q_var12 {a0 a1 a2 a3 a4 a5 a6 a7 a8 a9 a10 a11 : Option U}  : (aVar 12 (a0 :: a1 :: a2 :: a3 :: a4 :: a5 :: a6 :: a7 :: a8 :: a9 :: a10 :: a11 :: some u :: ρ) A Q) = (Q u A) := rfl
theorem q_nm12 {a0 a1 a2 a3 a4 a5 a6 a7 a8 a9 a10 a11 a12 : Option U} {g : ASt → AHp → Prop}  : (bName 12 u (a0 :: a1 :: a2 :: a3 :: a4 :: a5 :: a6 :: a7 :: a8 :: a9 :: a10 :: a11 :: a12 :: ρ) A g) = (g (a0 :: a1 :: a2 :: a3 :: a4 :: a5 :: a6 :: a7 :: a8 :: a9 :: a10 :: a11 :: some u :: ρ) A) := rfl
theorem q_get12 {a0 a1 a2 a3 a4 a5 a6 a7 a8 a9 a10 a11 : Option U} {k : U → Prop}  : (aGet (a0 :: a1 :: a2 :: a3 :: a4 :: a5 :: a6 :: a7 :: a8 :: a9 :: a10 :: a11 :: some u :: ρ) 12 k) = (k u) := rfl
theorem q_var13 {a0 a1 a2 a3 a4 a5 a6 a7 a8 a9 a10 a11 a12 : Option U}  : (aVar 13 (a0 :: a1 :: a2 :: a3 :: a4 :: a5 :: a6 :: a7 :: a8 :: a9 :: a10 :: a11 :: a12 :: some u :: ρ) A Q) = (Q u A) := rfl
theorem q_nm13 {a0 a1 a2 a3 a4 a5 a6 a7 a8 a9 a10 a11 a12 a13 : Option U} {g : ASt → AHp → Prop}  : (bName 13 u (a0 :: a1 :: a2 :: a3 :: a4 :: a5 :: a6 :: a7 :: a8 :: a9 :: a10 :: a11 :: a12 :: a13 :: ρ) A g) = (g (a0 :: a1 :: a2 :: a3 :: a4 :: a5 :: a6 :: a7 :: a8 :: a9 :: a10 :: a11 :: a12 :: some u :: ρ) A) := rfl
theorem q_get13 {a0 a1 a2 a3 a4 a5 a6 a7 a8 a9 a10 a11 a12 : Option U} {k : U → Prop}  : (aGet (a0 :: a1 :: a2 :: a3 :: a4 :: a5 :: a6 :: a7 :: a8 :: a9 :: a10 :: a11 :: a12 :: some u :: ρ) 13 k) = (k u) := rfl
theorem q_var14 {a0 a1 a2 a3 a4 a5 a6 a7 a8 a9 a10 a11 a12 a13 : Option U}  : (aVar 14 (a0 :: a1 :: a2 :: a3 :: a4 :: a5 :: a6 :: a7 :: a8 :: a9 :: a10 :: a11 :: a12 :: a13 :: some u :: ρ) A Q) = (Q u A) := rfl
theorem q_nm14 {a0 a1 a2 a3 a4 a5 a6 a7 a8 a9 a10 a11 a12 a13 a14 : Option U} {g : ASt → AHp → Prop}  : (bName 14 u (a0 :: a1 :: a2 :: a3 :: a4 :: a5 :: a6 :: a7 :: a8 :: a9 :: a10 :: a11 :: a12 :: a13 :: a14 :: ρ) A g) = (g (a0 :: a1 :: a2 :: a3 :: a4 :: a5 :: a6 :: a7 :: a8 :: a9 :: a10 :: a11 :: a12 :: a13 :: some u :: ρ) A) := rfl
theorem q_get14 {a0 a1 a2 a3 a4 a5 a6 a7 a8 a9 a10 a11 a12 a13 : Option U} {k : U → Prop}  : (aGet (a0 :: a1 :: a2 :: a3 :: a4 :: a5 :: a6 :: a7 :: a8 :: a9 :: a10 :: a11 :: a12 :: a13 :: some u :: ρ) 14 k) = (k u) := rfl
theorem q_var15 {a0 a1 a2 a3 a4 a5 a6 a7 a8 a9 a10 a11 a12 a13 a14 : Option U}  : (aVar 15 (a0 :: a1 :: a2 :: a3 :: a4 :: a5 :: a6 :: a7 :: a8 :: a9 :: a10 :: a11 :: a12 :: a13 :: a14 :: some u :: ρ) A Q) = (Q u A) := rfl
theorem q_nm15 {a0 a1 a2 a3 a4 a5 a6 a7 a8 a9 a10 a11 a12 a13 a14 a15 : Option U} {g : ASt → AHp → Prop}  : (bName 15 u (a0 :: a1 :: a2 :: a3 :: a4 :: a5 :: a6 :: a7 :: a8 :: a9 :: a10 :: a11 :: a12 :: a13 :: a14 :: a15 :: ρ) A g) = (g (a0 :: a1 :: a2 :: a3 :: a4 :: a5 :: a6 :: a7 :: a8 :: a9 :: a10 :: a11 :: a12 :: a13 :: a14 :: some u :: ρ) A) := rfl
theorem q_get15 {a0 a1 a2 a3 a4 a5 a6 a7 a8 a9 a10 a11 a12 a13 a14 : Option U} {k : U → Prop}  : (aGet (a0 :: a1 :: a2 :: a3 :: a4 :: a5 :: a6 :: a7 :: a8 :: a9 :: a10 :: a11 :: a12 :: a13 :: a14 :: some u :: ρ) 15 k) = (k u) := rfl
theorem q_var16 {a0 a1 a2 a3 a4 a5 a6 a7 a8 a9 a10 a11 a12 a13 a14 a15 : Option U}  : (aVar 16 (a0 :: a1 :: a2 :: a3 :: a4 :: a5 :: a6 :: a7 :: a8 :: a9 :: a10 :: a11 :: a12 :: a13 :: a14 :: a15 :: some u :: ρ) A Q) = (Q u A) := rfl
theorem q_nm16 {a0 a1 a2 a3 a4 a5 a6 a7 a8 a9 a10 a11 a12 a13 a14 a15 a16 : Option U} {g : ASt → AHp → Prop}  : (bName 16 u (a0 :: a1 :: a2 :: a3 :: a4 :: a5 :: a6 :: a7 :: a8 :: a9 :: a10 :: a11 :: a12 :: a13 :: a14 :: a15 :: a16 :: ρ) A g) = (g (a0 :: a1 :: a2 :: a3 :: a4 :: a5 :: a6 :: a7 :: a8 :: a9 :: a10 :: a11 :: a12 :: a13 :: a14 :: a15 :: some u :: ρ) A) := rfl
theorem q_get16 {a0 a1 a2 a3 a4 a5 a6 a7 a8 a9 a10 a11 a12 a13 a14 a15 : Option U} {k : U → Prop}  : (aGet (a0 :: a1 :: a2 :: a3 :: a4 :: a5 :: a6 :: a7 :: a8 :: a9 :: a10 :: a11 :: a12 :: a13 :: a14 :: a15 :: some u :: ρ) 16 k) = (k u) := rfl
theorem q_var17 {a0 a1 a2 a3 a4 a5 a6 a7 a8 a9 a10 a11 a12 a13 a14 a15 a16 : Option U}  : (aVar 17 (a0 :: a1 :: a2 :: a3 :: a4 :: a5 :: a6 :: a7 :: a8 :: a9 :: a10 :: a11 :: a12 :: a13 :: a14 :: a15 :: a16 :: some u :: ρ) A Q) = (Q u A) := rfl
theorem q_nm17 {a0 a1 a2 a3 a4 a5 a6 a7 a8 a9 a10 a11 a12 a13 a14 a15 a16 a17 : Option U} {g : ASt → AHp → Prop}  : (bName 17 u (a0 :: a1 :: a2 :: a3 :: a4 :: a5 :: a6 :: a7 :: a8 :: a9 :: a10 :: a11 :: a12 :: a13 :: a14 :: a15 :: a16 :: a17 :: ρ) A g) = (g (a0 :: a1 :: a2 :: a3 :: a4 :: a5 :: a6 :: a7 :: a8 :: a9 :: a10 :: a11 :: a12 :: a13 :: a14 :: a15 :: a16 :: some u :: ρ) A) := rfl
theorem q_get17 {a0 a1 a2 a3 a4 a5 a6 a7 a8 a9 a10 a11 a12 a13 a14 a15 a16 : Option U} {k : U → Prop}  : (aGet (a0 :: a1 :: a2 :: a3 :: a4 :: a5 :: a6 :: a7 :: a8 :: a9 :: a10 :: a11 :: a12 :: a13 :: a14 :: a15 :: a16 :: some u :: ρ) 17 k) = (k u) := rfl
theorem q_var18 {a0 a1 a2 a3 a4 a5 a6 a7 a8 a9 a10 a11 a12 a13 a14 a15 a16 a17 : Option U}  : (aVar 18 (a0 :: a1 :: a2 :: a3 :: a4 :: a5 :: a6 :: a7 :: a8 :: a9 :: a10 :: a11 :: a12 :: a13 :: a14 :: a15 :: a16 :: a17 :: some u :: ρ) A Q) = (Q u A) := rfl
theorem q_nm18 {a0 a1 a2 a3 a4 a5 a6 a7 a8 a9 a10 a11 a12 a13 a14 a15 a16 a17 a18 : Option U} {g : ASt → AHp → Prop}  : (bName 18 u (a0 :: a1 :: a2 :: a3 :: a4 :: a5 :: a6 :: a7 :: a8 :: a9 :: a10 :: a11 :: a12 :: a13 :: a14 :: a15 :: a16 :: a17 :: a18 :: ρ) A g) = (g (a0 :: a1 :: a2 :: a3 :: a4 :: a5 :: a6 :: a7 :: a8 :: a9 :: a10 :: a11 :: a12 :: a13 :: a14 :: a15 :: a16 :: a17 :: some u :: ρ) A) := rfl
theorem q_get18 {a0 a1 a2 a3 a4 a5 a6 a7 a8 a9 a10 a11 a12 a13 a14 a15 a16 a17 : Option U} {k : U → Prop}  : (aGet (a0 :: a1 :: a2 :: a3 :: a4 :: a5 :: a6 :: a7 :: a8 :: a9 :: a10 :: a11 :: a12 :: a13 :: a14 :: a15 :: a16 :: a17 :: some u :: ρ) 18 k) = (k u) := rfl
theorem q_var19 {a0 a1 a2 a3 a4 a5 a6 a7 a8 a9 a10 a11 a12 a13 a14 a15 a16 a17 a18 : Option U}  : (aVar 19 (a0 :: a1 :: a2 :: a3 :: a4 :: a5 :: a6 :: a7 :: a8 :: a9 :: a10 :: a11 :: a12 :: a13 :: a14 :: a15 :: a16 :: a17 :: a18 :: some u :: ρ) A Q) = (Q u A) := rfl
theorem q_nm19 {a0 a1 a2 a3 a4 a5 a6 a7 a8 a9 a10 a11 a12 a13 a14 a15 a16 a17 a18 a19 : Option U} {g : ASt → AHp → Prop}  : (bName 19 u (a0 :: a1 :: a2 :: a3 :: a4 :: a5 :: a6 :: a7 :: a8 :: a9 :: a10 :: a11 :: a12 :: a13 :: a14 :: a15 :: a16 :: a17 :: a18 :: a19 :: ρ) A g) = (g (a0 :: a1 :: a2 :: a3 :: a4 :: a5 :: a6 :: a7 :: a8 :: a9 :: a10 :: a11 :: a12 :: a13 :: a14 :: a15 :: a16 :: a17 :: a18 :: some u :: ρ) A) := rfl
theorem q_get19 {a0 a1 a2 a3 a4 a5 a6 a7 a8 a9 a10 a11 a12 a13 a14 a15 a16 a17 a18 : Option U} {k : U → Prop}  : (aGet (a0 :: a1 :: a2 :: a3 :: a4 :: a5 :: a6 :: a7 :: a8 :: a9 :: a10 :: a11 :: a12 :: a13 :: a14 :: a15 :: a16 :: a17 :: a18 :: some u :: ρ) 19 k) = (k u) := rfl
theorem q_var20 {a0 a1 a2 a3 a4 a5 a6 a7 a8 a9 a10 a11 a12 a13 a14 a15 a16 a17 a18 a19 : Option U}  : (aVar 20 (a0 :: a1 :: a2 :: a3 :: a4 :: a5 :: a6 :: a7 :: a8 :: a9 :: a10 :: a11 :: a12 :: a13 :: a14 :: a15 :: a16 :: a17 :: a18 :: a19 :: some u :: ρ) A Q) = (Q u A) := rfl
theorem q_nm20 {a0 a1 a2 a3 a4 a5 a6 a7 a8 a9 a10 a11 a12 a13 a14 a15 a16 a17 a18 a19 a20 : Option U} {g : ASt → AHp → Prop}  : (bName 20 u (a0 :: a1 :: a2 :: a3 :: a4 :: a5 :: a6 :: a7 :: a8 :: a9 :: a10 :: a11 :: a12 :: a13 :: a14 :: a15 :: a16 :: a17 :: a18 :: a19 :: a20 :: ρ) A g) = (g (a0 :: a1 :: a2 :: a3 :: a4 :: a5 :: a6 :: a7 :: a8 :: a9 :: a10 :: a11 :: a12 :: a13 :: a14 :: a15 :: a16 :: a17 :: a18 :: a19 :: some u :: ρ) A) := rfl
theorem q_get20 {a0 a1 a2 a3 a4 a5 a6 a7 a8 a9 a10 a11 a12 a13 a14 a15 a16 a17 a18 a19 : Option U} {k : U → Prop}  : (aGet (a0 :: a1 :: a2 :: a3 :: a4 :: a5 :: a6 :: a7 :: a8 :: a9 :: a10 :: a11 :: a12 :: a13 :: a14 :: a15 :: a16 :: a17 :: a18 :: a19 :: some u :: ρ) 20 k) = (k u) := rfl
theorem q_var21 {a0 a1 a2 a3 a4 a5 a6 a7 a8 a9 a10 a11 a12 a13 a14 a15 a16 a17 a18 a19 a20 : Option U}  : (aVar 21 (a0 :: a1 :: a2 :: a3 :: a4 :: a5 :: a6 :: a7 :: a8 :: a9 :: a10 :: a11 :: a12 :: a13 :: a14 :: a15 :: a16 :: a17 :: a18 :: a19 :: a20 :: some u :: ρ) A Q) = (Q u A) := rfl
theorem q_nm21 {a0 a1 a2 a3 a4 a5 a6 a7 a8 a9 a10 a11 a12 a13 a14 a15 a16 a17 a18 a19 a20 a21 : Option U} {g : ASt → AHp → Prop}  : (bName 21 u (a0 :: a1 :: a2 :: a3 :: a4 :: a5 :: a6 :: a7 :: a8 :: a9 :: a10 :: a11 :: a12 :: a13 :: a14 :: a15 :: a16 :: a17 :: a18 :: a19 :: a20 :: a21 :: ρ) A g) = (g (a0 :: a1 :: a2 :: a3 :: a4 :: a5 :: a6 :: a7 :: a8 :: a9 :: a10 :: a11 :: a12 :: a13 :: a14 :: a15 :: a16 :: a17 :: a18 :: a19 :: a20 :: some u :: ρ) A) := rfl
theorem q_get21 {a0 a1 a2 a3 a4 a5 a6 a7 a8 a9 a10 a11 a12 a13 a14 a15 a16 a17 a18 a19 a20 : Option U} {k : U → Prop}  : (aGet (a0 :: a1 :: a2 :: a3 :: a4 :: a5 :: a6 :: a7 :: a8 :: a9 :: a10 :: a11 :: a12 :: a13 :: a14 :: a15 :: a16 :: a17 :: a18 :: a19 :: a20 :: some u :: ρ) 21 k) = (k u) := rfl
theorem q_var22 {a0 a1 a2 a3 a4 a5 a6 a7 a8 a9 a10 a11 a12 a13 a14 a15 a16 a17 a18 a19 a20 a21 : Option U}  : (aVar 22 (a0 :: a1 :: a2 :: a3 :: a4 :: a5 :: a6 :: a7 :: a8 :: a9 :: a10 :: a11 :: a12 :: a13 :: a14 :: a15 :: a16 :: a17 :: a18 :: a19 :: a20 :: a21 :: some u :: ρ) A Q) = (Q u A) := rfl
theorem q_nm22 {a0 a1 a2 a3 a4 a5 a6 a7 a8 a9 a10 a11 a12 a13 a14 a15 a16 a17 a18 a19 a20 a21 a22 : Option U} {g : ASt → AHp → Prop}  : (bName 22 u (a0 :: a1 :: a2 :: a3 :: a4 :: a5 :: a6 :: a7 :: a8 :: a9 :: a10 :: a11 :: a12 :: a13 :: a14 :: a15 :: a16 :: a17 :: a18 :: a19 :: a20 :: a21 :: a22 :: ρ) A g) = (g (a0 :: a1 :: a2 :: a3 :: a4 :: a5 :: a6 :: a7 :: a8 :: a9 :: a10 :: a11 :: a12 :: a13 :: a14 :: a15 :: a16 :: a17 :: a18 :: a19 :: a20 :: a21 :: some u :: ρ) A) := rfl
theorem q_get22 {a0 a1 a2 a3 a4 a5 a6 a7 a8 a9 a10 a11 a12 a13 a14 a15 a16 a17 a18 a19 a20 a21 : Option U} {k : U → Prop}  : (aGet (a0 :: a1 :: a2 :: a3 :: a4 :: a5 :: a6 :: a7 :: a8 :: a9 :: a10 :: a11 :: a12 :: a13 :: a14 :: a15 :: a16 :: a17 :: a18 :: a19 :: a20 :: a21 :: some u :: ρ) 22 k) = (k u) := rfl
theorem q_var23 {a0 a1 a2 a3 a4 a5 a6 a7 a8 a9 a10 a11 a12 a13 a14 a15 a16 a17 a18 a19 a20 a21 a22 : Option U}  : (aVar 23 (a0 :: a1 :: a2 :: a3 :: a4 :: a5 :: a6 :: a7 :: a8 :: a9 :: a10 :: a11 :: a12 :: a13 :: a14 :: a15 :: a16 :: a17 :: a18 :: a19 :: a20 :: a21 :: a22 :: some u :: ρ) A Q) = (Q u A) := rfl
theorem q_nm23 {a0 a1 a2 a3 a4 a5 a6 a7 a8 a9 a10 a11 a12 a13 a14 a15 a16 a17 a18 a19 a20 a21 a22 a23 : Option U} {g : ASt → AHp → Prop}  : (bName 23 u (a0 :: a1 :: a2 :: a3 :: a4 :: a5 :: a6 :: a7 :: a8 :: a9 :: a10 :: a11 :: a12 :: a13 :: a14 :: a15 :: a16 :: a17 :: a18 :: a19 :: a20 :: a21 :: a22 :: a23 :: ρ) A g) = (g (a0 :: a1 :: a2 :: a3 :: a4 :: a5 :: a6 :: a7 :: a8 :: a9 :: a10 :: a11 :: a12 :: a13 :: a14 :: a15 :: a16 :: a17 :: a18 :: a19 :: a20 :: a21 :: a22 :: some u :: ρ) A) := rfl
theorem q_get23 {a0 a1 a2 a3 a4 a5 a6 a7 a8 a9 a10 a11 a12 a13 a14 a15 a16 a17 a18 a19 a20 a21 a22 : Option U} {k : U → Prop}  : (aGet (a0 :: a1 :: a2 :: a3 :: a4 :: a5 :: a6 :: a7 :: a8 :: a9 :: a10 :: a11 :: a12 :: a13 :: a14 :: a15 :: a16 :: a17 :: a18 :: a19 :: a20 :: a21 :: a22 :: some u :: ρ) 23 k) = (k u) := rfl
theorem q_var24 {a0 a1 a2 a3 a4 a5 a6 a7 a8 a9 a10 a11 a12 a13 a14 a15 a16 a17 a18 a19 a20 a21 a22 a23 : Option U}  : (aVar 24 (a0 :: a1 :: a2 :: a3 :: a4 :: a5 :: a6 :: a7 :: a8 :: a9 :: a10 :: a11 :: a12 :: a13 :: a14 :: a15 :: a16 :: a17 :: a18 :: a19 :: a20 :: a21 :: a22 :: a23 :: some u :: ρ) A Q) = (Q u A) := rfl
theorem q_nm24 {a0 a1 a2 a3 a4 a5 a6 a7 a8 a9 a10 a11 a12 a13 a14 a15 a16 a17 a18 a19 a20 a21 a22 a23 a24 : Option U} {g : ASt → AHp → Prop}  : (bName 24 u (a0 :: a1 :: a2 :: a3 :: a4 :: a5 :: a6 :: a7 :: a8 :: a9 :: a10 :: a11 :: a12 :: a13 :: a14 :: a15 :: a16 :: a17 :: a18 :: a19 :: a20 :: a21 :: a22 :: a23 :: a24 :: ρ) A g) = (g (a0 :: a1 :: a2 :: a3 :: a4 :: a5 :: a6 :: a7 :: a8 :: a9 :: a10 :: a11 :: a12 :: a13 :: a14 :: a15 :: a16 :: a17 :: a18 :: a19 :: a20 :: a21 :: a22 :: a23 :: some u :: ρ) A) := rfl
theorem q_get24 {a0 a1 a2 a3 a4 a5 a6 a7 a8 a9 a10 a11 a12 a13 a14 a15 a16 a17 a18 a19 a20 a21 a22 a23 : Option U} {k : U → Prop}  : (aGet (a0 :: a1 :: a2 :: a3 :: a4 :: a5 :: a6 :: a7 :: a8 :: a9 :: a10 :: a11 :: a12 :: a13 :: a14 :: a15 :: a16 :: a17 :: a18 :: a19 :: a20 :: a21 :: a22 :: a23 :: some u :: ρ) 24 k) = (k u) := rfl
theorem q_var25 {a0 a1 a2 a3 a4 a5 a6 a7 a8 a9 a10 a11 a12 a13 a14 a15 a16 a17 a18 a19 a20 a21 a22 a23 a24 : Option U}  : (aVar 25 (a0 :: a1 :: a2 :: a3 :: a4 :: a5 :: a6 :: a7 :: a8 :: a9 :: a10 :: a11 :: a12 :: a13 :: a14 :: a15 :: a16 :: a17 :: a18 :: a19 :: a20 :: a21 :: a22 :: a23 :: a24 :: some u :: ρ) A Q) = (Q u A) := rfl
theorem q_nm25 {a0 a1 a2 a3 a4 a5 a6 a7 a8 a9 a10 a11 a12 a13 a14 a15 a16 a17 a18 a19 a20 a21 a22 a23 a24 a25 : Option U} {g : ASt → AHp → Prop}  : (bName 25 u (a0 :: a1 :: a2 :: a3 :: a4 :: a5 :: a6 :: a7 :: a8 :: a9 :: a10 :: a11 :: a12 :: a13 :: a14 :: a15 :: a16 :: a17 :: a18 :: a19 :: a20 :: a21 :: a22 :: a23 :: a24 :: a25 :: ρ) A g) = (g (a0 :: a1 :: a2 :: a3 :: a4 :: a5 :: a6 :: a7 :: a8 :: a9 :: a10 :: a11 :: a12 :: a13 :: a14 :: a15 :: a16 :: a17 :: a18 :: a19 :: a20 :: a21 :: a22 :: a23 :: a24 :: some u :: ρ) A) := rfl
theorem q_get25 {a0 a1 a2 a3 a4 a5 a6 a7 a8 a9 a10 a11 a12 a13 a14 a15 a16 a17 a18 a19 a20 a21 a22 a23 a24 : Option U} {k : U → Prop}  : (aGet (a0 :: a1 :: a2 :: a3 :: a4 :: a5 :: a6 :: a7 :: a8 :: a9 :: a10 :: a11 :: a12 :: a13 :: a14 :: a15 :: a16 :: a17 :: a18 :: a19 :: a20 :: a21 :: a22 :: a23 :: a24 :: some u :: ρ) 25 k) = (k u) := rfl
theorem q_c  : (aC u ρ A Q) = (Q u A) := rfl
theorem q_op {r : AR2} : (aOp r a b ρ A Q) = (a ρ A fun x A1 => b ρ A1 fun y A2 => r x y A2 Q) := rfl
theorem q_un {r : U → AHp → AVK → Prop} : (aUn r a ρ A Q) = (a ρ A fun x A1 => r x A1 Q) := rfl
theorem q_tb  : (aB a ρ A B) = (a ρ A fun x A1 => ∃ c, x = .bl c ∧ B c A1) := rfl
theorem q_bl {k : Bool} {F : Bool → Prop} : (∃ c, U.bl k = .bl c ∧ F c) = (F k) := by simp
theorem q_int {i : Int} {F : Int → Prop} : (∃ c, U.int i = .int c ∧ F c) = (F i) := by simp
theorem q_and  : (aAnd c d ρ A B) = (c ρ A fun k A1 => if k = true then d ρ A1 B else B false A1) := rfl
theorem q_or  : (aOr c d ρ A B) = (c ρ A fun k A1 => if k = true then B true A1 else d ρ A1 B) := rfl
theorem q_not  : (aNot c ρ A B) = (c ρ A fun k A1 => B (!k) A1) := rfl
theorem q_andv  : (aAndV a b ρ A Q) = (a ρ A fun x A1 => ∃ k, x = .bl k ∧ if k = true then b ρ A1 Q else Q (.bl false) A1) := rfl
theorem q_orv  : (aOrV a b ρ A Q) = (a ρ A fun x A1 => ∃ k, x = .bl k ∧ if k = true then Q (.bl true) A1 else b ρ A1 Q) := rfl
theorem q_notv  : (aNotV a ρ A Q) = (a ρ A fun x A1 => ∃ k, x = .bl k ∧ Q (.bl (!k)) A1) := rfl
theorem q_if  : (aIf c a b ρ A Q) = (c ρ A fun k A1 => if k = true then a ρ A1 Q else b ρ A1 Q) := rfl
theorem q_chain {r r2 : AR2} {e : AE} : (aChain r r2 a b e ρ A Q) = (a ρ A fun x A1 => b ρ A1 fun y A2 => r x y A2 fun z A3 => ∃ k, z = .bl k ∧ (if k = true then e ρ A3 fun w A4 => r2 y w A4 Q else Q (.bl false) A3)) := rfl
theorem q_true  : (aTrue ρ A B) = (B true A) := rfl
theorem q_nil  : (aNil ρ A L) = (L [] A) := rfl
theorem q_cons  : (aCons a l ρ A L) = (a ρ A fun x A1 => l ρ A1 fun xs A2 => L (x :: xs) A2) := rfl
theorem q_const {us : List U} : (aConst us ρ A L) = (L us A) := rfl
theorem q_tup  : (aTup l ρ A Q) = (l ρ A fun xs A1 => xs.length ≤ sizeLine ∧ Q (.tup xs) A1) := rfl
theorem q_lst  : (aLst l ρ A Q) = (l ρ A fun xs A1 => xs.length ≤ sizeLine ∧ ∀ p, A1 p = none → Q (.ref p) (updA A1 p (.lst xs))) := rfl
theorem q_cb {r : List U → AHp → AVK → Prop} : (aCB r l ρ A Q) = (l ρ A fun us A1 => r us A1 Q) := rfl
theorem q_call {sp : ASp} : (aCall sp l ρ A Q) = (l ρ A fun us A1 => sp us A1 Q) := rfl
theorem q_callV {sp : ASp} {f : Addr} : (aCallV f sp a l ρ A Q) = (a ρ A fun y A0 => y = .ref f ∧ l ρ A0 fun us A1 => sp us A1 Q) := rfl
theorem q_nopart {O : Option Int → AHp → Prop} : (aNoPart ρ A O) = (O none A) := rfl
theorem q_part {O : Option Int → AHp → Prop} : (aPart a ρ A O) = (a ρ A fun x A1 => ∃ i, x = .int i ∧ O (some i) A1) := rfl
theorem q_sl {r : U → Option Int → Option Int → AHp → AVK → Prop} {lo hi : AP1} : (aSl r a lo hi ρ A Q) = (a ρ A fun x A1 => lo ρ A1 fun i A2 => hi ρ A2 fun j A3 => r x i j A3 Q) := rfl
theorem q_bm0 {y : U → AHp → Prop} {r : U → List U → AHp → AVK → Prop} : (aBM0 y r a ρ A Q) = (a ρ A fun x A1 => y x A1 ∧ r x [] A1 Q) := rfl
theorem q_bm {y : U → AHp → Prop} {r : U → List U → AHp → AVK → Prop} : (aBM y r a l ρ A Q) = (a ρ A fun x A1 => y x A1 ∧ l ρ A1 fun us A2 => r x us A2 Q) := rfl
theorem q_next  : (aNext D ρ A) = (D.nx ρ A) := rfl
theorem q_seq {t t2 : AS} : (aSeq t t2 D ρ A) = (t { D with nx := t2 D } ρ A) := rfl
theorem q_break  : (aBreak D ρ A) = (D.bk ρ A) := rfl
theorem q_cont  : (aCont D ρ A) = (D.ct ρ A) := rfl
theorem q_drop  : (aDrop a D ρ A) = (a ρ A fun _ A1 => D.nx ρ A1) := rfl
theorem q_ret  : (aRet a D ρ A) = (a ρ A D.rt) := rfl
theorem q_retn  : (aRetN D ρ A) = (D.rt .non A) := rfl
theorem q_ifs {t t2 : AS} : (aIfS c t t2 D ρ A) = (c ρ A fun k A1 => if k = true then t D ρ A1 else t2 D ρ A1) := rfl
theorem q_asg {g : AG} : (aAsg a g D ρ A) = (a ρ A fun x A1 => g x ρ A1 D.nx) := rfl
theorem q_par {i j : Nat} : (aPar i j l D ρ A) = (l ρ A fun us A1 => ∃ v w, us = [v, w] ∧ D.nx ((ρ.set i (some v)).set j (some w)) A1) := rfl
theorem q_two {v w : U} {F : U → U → Prop} : (∃ a b, [v, w] = [a, b] ∧ F a b) = (F v w) := propext ⟨fun ⟨a, b, e, h⟩ => by injection e with e1 e2; injection e2 with e2 _; subst e1 e2; exact h, fun h => ⟨_, _, rfl, h⟩⟩
theorem q_aug {i : Nat} {r : AR2} : (aAug i a r D ρ A) = (aGet ρ i fun x => a ρ A fun y A1 => r x y A1 fun z A2 => D.nx (ρ.set i (some z)) A2) := rfl
theorem q_for {wi : AI} {g : AG} {t : AS} : (aFor wi g t D ρ A) = (wi ρ A fun J A1 => aLoop J g t D ρ A1) := rfl
theorem q_jof {y : U → AHp → (AIt → AHp → Prop) → Prop} {R : AIt → AHp → Prop} : (aJof y a ρ A R) = (a ρ A fun x A1 => y x A1 R) := rfl
theorem q_jargs {y : List U → AHp → (AIt → AHp → Prop) → Prop} {R : AIt → AHp → Prop} : (aJargs y l ρ A R) = (l ρ A fun us A1 => y us A1 R) := rfl
theorem q_ylr {R : AIt → AHp → Prop} {p : Addr} : (yList (.ref p) A R) = ((∃ us, A p = some (.lst us)) ∧ R (jLst p) A) := rfl
theorem q_ylo {R : AIt → AHp → Prop} {us : List U} : (yList (.rol us) A R) = (R (jFix us) A) := rfl
theorem q_yt {R : AIt → AHp → Prop} {us : List U} : (yTup (.tup us) A R) = (R (jFix us) A) := rfl
theorem q_ys {R : AIt → AHp → Prop} {z : Str} : (yStr (.str z) A R) = (R (jFix (z.cps.toList.map fun c => .str ⟨#[c]⟩)) A) := rfl
theorem q_yr1 {R : AIt → AHp → Prop} {j : Int} : (yRng1 [.int j] A R) = (-(2 ^ 62) ≤ j ∧ j < 2 ^ 62 ∧ R (jFix (rngU 0 j.toNat)) A) := rfl
theorem q_yr2 {R : AIt → AHp → Prop} {i j : Int} : (yRng2 [.int i, .int j] A R) = ((-(2 ^ 62) ≤ i ∧ i < 2 ^ 62 ∧ -(2 ^ 62) ≤ j ∧ j < 2 ^ 62) ∧ R (jFix (rngU i (j - i).toNat)) A) := rfl
theorem q_yer {R : AIt → AHp → Prop} {p : Addr} : (yEnum [.ref p] A R) = ((∃ us, A p = some (.lst us)) ∧ R (jEnum p) A) := rfl
theorem q_yeo {R : AIt → AHp → Prop} {us : List U} : (yEnum [.rol us] A R) = (R (jFix (enU us)) A) := rfl
theorem q_yet {R : AIt → AHp → Prop} {us : List U} : (yEnumT [.tup us] A R) = (R (jFix (enU us)) A) := rfl
theorem q_yz {R : AIt → AHp → Prop} {p q : Addr} : (yZip [.ref p, .ref q] A R) = ((∃ us ws, A p = some (.lst us) ∧ A q = some (.lst ws)) ∧ R (jZip p q) A) := rfl
theorem q_jrev {R : AIt → AHp → Prop} : (aJrev a ρ A R) = (a ρ A fun x A1 => ∃ p us, x = .ref p ∧ A1 p = some (.lst us) ∧ R (jRevA p us.length) A1) := rfl
theorem q_comp {nt : Nat} {frs : List (Str × Nat)} {wi : AI} {g : AG} {tt : AT} {te : AE} : (aComp nt frs wi g tt te ρ A Q) = (wi ρ A fun J A1 => ∀ l, A1 l = none → aCL J g tt te l Q (aCompStart nt frs ρ) (updA A1 l (.lst []))) := rfl
theorem q_gtup {n : Nat} {t : AGs} {N : ASt → AHp → Prop} {us : List U} : (bTup n t (.tup us) ρ A N) = (us.length = n ∧ t us ρ A N) := propext ⟨fun ⟨vs, e, h⟩ => by cases e; exact h, fun h => ⟨_, rfl, h⟩⟩
theorem q_gcons {t : AG} {ts : AGs} {N : ASt → AHp → Prop} {us : List U} : (bCons t ts (u :: us) ρ A N) = (t u ρ A fun ρ2 A2 => ts us ρ2 A2 N) := propext ⟨fun ⟨v, r, e, h⟩ => by cases e; exact h, fun h => ⟨_, _, rfl, h⟩⟩
theorem q_gnil {N : ASt → AHp → Prop} : (bNil [] ρ A N) = (N ρ A) := propext ⟨fun h => h.2, fun h => ⟨rfl, h⟩⟩
theorem q_addi {i j : Int} : (xAdd (.int i) (.int j) A Q) = (Q (.int (i + j)) A) := rfl
theorem q_adds {x y : Str} : (xAdd (.str x) (.str y) A Q) = (x.length + y.length ≤ sizeLine ∧ Q (.str (x ++ y)) A) := rfl
theorem q_addt {us ws : List U} : (xAdd (.tup us) (.tup ws) A Q) = (us.length + ws.length ≤ sizeLine ∧ Q (.tup (us ++ ws)) A) := rfl
theorem q_addr {p q : Addr} : (xAdd (.ref p) (.ref q) A Q) = (∃ xs ys, A p = some (.lst xs) ∧ A q = some (.lst ys) ∧ xs.length + ys.length ≤ sizeLine ∧ ∀ p, A p = none → Q (.ref p) (updA A p (.lst (xs ++ ys)))) := rfl
theorem q_xi {i j : Int} {f : Int → Int → U} : (xI f (.int i) (.int j) A Q) = (Q (f i j) A) := rfl
theorem q_xi2 {i j : Int} {f : Int → Int → U} {C : Int → Int → Prop} : (xI2 C f (.int i) (.int j) A Q) = (C i j ∧ Q (f i j) A) := rfl
theorem q_mul {i j : Int} : (xMul (.int i) (.int j) A Q) = (IntMulOk i j ∧ Q (.int (i * j)) A) := rfl
theorem q_rep {p : Addr} {m : Int} : (xMul (.ref p) (.int m) A Q) = (∃ xs, A p = some (.lst xs) ∧ -(2 ^ 63) ≤ m ∧ m < 2 ^ 63 ∧ xs.length * m.toNat ≤ sizeLine ∧ ∀ p, A p = none → Q (.ref p) (updA A p (.lst (List.replicate m.toNat xs).flatten))) := rfl
theorem q_lti {i j : Int} : (xLt (.int i) (.int j) A Q) = (Q (.bl (decide (i < j))) A) := rfl
theorem q_lts {x y : Str} : (xLt (.str x) (.str y) A Q) = (Q (.bl (decide (x.cps.toList < y.cps.toList))) A) := rfl
theorem q_eqi {i j : Int} : (xEq (.int i) (.int j) A Q) = (Q (.bl (decide (i = j))) A) := rfl
theorem q_eqs {x y : Str} : (xEq (.str x) (.str y) A Q) = (Q (.bl (decide (x = y))) A) := rfl
theorem q_eqb {k m : Bool} : (xEq (.bl k) (.bl m) A Q) = (Q (.bl (decide (k = m))) A) := rfl
theorem q_eqt {us ws : List U} : (xEq (.tup us) (.tup ws) A Q) = (xDeep false (.tup us) (.tup ws) A Q) := rfl
theorem q_eqr {p q : Addr} : (xEq (.ref p) (.ref q) A Q) = (xDeep false (.ref p) (.ref q) A Q) := rfl
theorem q_eqtn {us : List U} : (xEq (.tup us) .non A Q) = (xDeep false (.tup us) .non A Q) := rfl
theorem q_eqnt {us : List U} : (xEq .non (.tup us) A Q) = (xDeep false .non (.tup us) A Q) := rfl
theorem q_eqnn  : (xEq .non .non A Q) = (Q (.bl true) A) := rfl
theorem q_eqns {x : Str} : (xEq .non (.str x) A Q) = (Q (.bl false) A) := rfl
theorem q_eqsn {x : Str} : (xEq (.str x) .non A Q) = (Q (.bl false) A) := rfl
theorem q_nei {i j : Int} : (xNe (.int i) (.int j) A Q) = (Q (.bl (!decide (i = j))) A) := rfl
theorem q_nes {x y : Str} : (xNe (.str x) (.str y) A Q) = (Q (.bl (!decide (x = y))) A) := rfl
theorem q_neb {k m : Bool} : (xNe (.bl k) (.bl m) A Q) = (Q (.bl (!decide (k = m))) A) := rfl
theorem q_net {us ws : List U} : (xNe (.tup us) (.tup ws) A Q) = (xDeep true (.tup us) (.tup ws) A Q) := rfl
theorem q_ner {p q : Addr} : (xNe (.ref p) (.ref q) A Q) = (xDeep true (.ref p) (.ref q) A Q) := rfl
theorem q_netn {us : List U} : (xNe (.tup us) .non A Q) = (xDeep true (.tup us) .non A Q) := rfl
theorem q_nent {us : List U} : (xNe .non (.tup us) A Q) = (xDeep true .non (.tup us) A Q) := rfl
theorem q_nenn  : (xNe .non .non A Q) = (Q (.bl false) A) := rfl
theorem q_nens {x : Str} : (xNe .non (.str x) A Q) = (Q (.bl true) A) := rfl
theorem q_nesn {x : Str} : (xNe (.str x) .non A Q) = (Q (.bl true) A) := rfl
theorem q_isn  : (xIsN u .non A Q) = (Q (.bl u.isNon) A) := propext ⟨fun h => h.2, fun h => ⟨rfl, h⟩⟩
theorem q_notn  : (xNotN u .non A Q) = (Q (.bl (!u.isNon)) A) := propext ⟨fun h => h.2, fun h => ⟨rfl, h⟩⟩
theorem q_int_ {us : List U} : (xInB false u (.tup us) A Q) = (u.flat = true ∧ us.all U.flat = true ∧ Q (.bl (inU u us)) A) := rfl
theorem q_nint_ {us : List U} : (xInB true u (.tup us) A Q) = (u.flat = true ∧ us.all U.flat = true ∧ Q (.bl (!inU u us)) A) := rfl
theorem q_inr_ {p : Addr} : (xInB false u (.ref p) A Q) = (∃ us, A p = some (.lst us) ∧ u.flat = true ∧ us.all U.flat = true ∧ Q (.bl (inU u us)) A) := rfl
theorem q_ninr_ {p : Addr} : (xInB true u (.ref p) A Q) = (∃ us, A p = some (.lst us) ∧ u.flat = true ∧ us.all U.flat = true ∧ Q (.bl (!inU u us)) A) := rfl
theorem q_ins_ {x y : Str} : (xInB false (.str x) (.str y) A Q) = (Q (.bl (occ y x)) A) := propext ⟨fun ⟨i, e, h⟩ => by cases e; exact h, fun h => ⟨_, rfl, h⟩⟩
theorem q_nins_ {x y : Str} : (xInB true (.str x) (.str y) A Q) = (Q (.bl (!occ y x)) A) := propext ⟨fun ⟨i, e, h⟩ => by cases e; exact h, fun h => ⟨_, rfl, h⟩⟩
theorem q_ixs {z : Str} {i : Int} : (xIx (.str z) (.int i) A Q) = (z.length ≤ sizeLine ∧ ∃ c, atI z.cps.toList i = some c ∧ Q (.str ⟨#[c]⟩) A) := rfl
theorem q_ix0 {us : List U} : (xIx (.tup (u :: us)) (.int 0) A Q) = (Q u A) := propext ⟨fun ⟨x, e, h⟩ => by rw [show atI (u :: us) 0 = some u from atI_nat (j := 0) rfl] at e; cases e; exact h, fun h => ⟨_, atI_nat (j := 0) rfl, h⟩⟩
theorem q_ix1 {w : U} {us : List U} : (xIx (.tup (u :: w :: us)) (.int 1) A Q) = (Q w A) := propext ⟨fun ⟨x, e, h⟩ => by rw [show atI (u :: w :: us) 1 = some w from atI_nat (j := 1) rfl] at e; cases e; exact h, fun h => ⟨_, atI_nat (j := 1) rfl, h⟩⟩
theorem q_ix2 {w x : U} {us : List U} : (xIx (.tup (u :: w :: x :: us)) (.int 2) A Q) = (Q x A) := propext ⟨fun ⟨z, e, h⟩ => by rw [show atI (u :: w :: x :: us) 2 = some x from atI_nat (j := 2) rfl] at e; cases e; exact h, fun h => ⟨_, atI_nat (j := 2) rfl, h⟩⟩
theorem q_ixt {us : List U} {i : Int} : (xIx (.tup us) (.int i) A Q) = (∃ x, atI us i = some x ∧ Q x A) := rfl
theorem q_ixo {us : List U} {i : Int} : (xIx (.rol us) (.int i) A Q) = (∃ x, atI us i = some x ∧ Q x A) := rfl
theorem q_ixr {p : Addr} {i : Int} : (xIx (.ref p) (.int i) A Q) = (∃ us x, A p = some (.lst us) ∧ atI us i = some x ∧ Q x A) := rfl
theorem q_sls {lo hi : Option Int} {z : Str} : (xSl (.str z) lo hi A Q) = (z.length ≤ sizeLine ∧ Q (.str (cutS z lo hi)) A) := rfl
theorem q_slt1 {us : List U} : (xSl (.tup (u :: us)) (some 1) none A Q) = (Q (.tup us) A) := by show Q (.tup (cutU (u :: us) (some 1) none)) A = _; rw [cutU_tail]
theorem q_slt {lo hi : Option Int} {us : List U} : (xSl (.tup us) lo hi A Q) = (Q (.tup (cutU us lo hi)) A) := rfl
theorem q_slo {lo hi : Option Int} {us : List U} : (xSl (.rol us) lo hi A Q) = (∀ p, A p = none → Q (.ref p) (updA A p (.lst (cutU us lo hi)))) := rfl
theorem q_slr {lo hi : Option Int} {p : Addr} : (xSl (.ref p) lo hi A Q) = (∃ us, A p = some (.lst us) ∧ ∀ p, A p = none → Q (.ref p) (updA A p (.lst (cutU us lo hi)))) := rfl
theorem q_lens {z : Str} : (xLen [.str z] A Q) = (z.length ≤ sizeLine ∧ Q (.int z.length) A) := rfl
theorem q_lent {us : List U} : (xLen [.tup us] A Q) = (Q (.int us.length) A) := rfl
theorem q_leno {us : List U} : (xLen [.rol us] A Q) = (Q (.int us.length) A) := rfl
theorem q_lenr {p : Addr} : (xLen [.ref p] A Q) = (∃ us, A p = some (.lst us) ∧ Q (.int us.length) A) := rfl
theorem q_min2 {i j : Int} : (xMin [.int i, .int j] A Q) = (Q (.int (min i j)) A) := rfl
theorem q_max2 {i j : Int} : (xMax [.int i, .int j] A Q) = (Q (.int (max i j)) A) := rfl
theorem q_minl {p : Addr} : (xMin [.ref p] A Q) = (∃ ns : List Int, A p = some (.lst (ns.map U.int)) ∧ 1 ≤ ns.length ∧ ∀ m, m ∈ ns → (∀ x ∈ ns, m ≤ x) → Q (.int m) A) := rfl
theorem q_maxl {p : Addr} : (xMax [.ref p] A Q) = (∃ ns : List Int, A p = some (.lst (ns.map U.int)) ∧ 1 ≤ ns.length ∧ ∀ m, m ∈ ns → (∀ x ∈ ns, x ≤ m) → Q (.int m) A) := rfl
theorem q_sum {p : Addr} : (xSum [.ref p] A Q) = (∃ ns : List Int, A p = some (.lst (ns.map U.int)) ∧ Q (.int ns.sum) A) := rfl
theorem q_all {p : Addr} : (xAll [.ref p] A Q) = (∃ bs : List Bool, A p = some (.lst (bs.map U.bl)) ∧ Q (.bl (bs.all id)) A) := rfl
theorem q_lot {us : List U} : (xListOf [.tup us] A Q) = (∀ p, A p = none → Q (.ref p) (updA A p (.lst us))) := rfl
theorem q_loo {us : List U} : (xListOf [.rol us] A Q) = (∀ p, A p = none → Q (.ref p) (updA A p (.lst us))) := rfl
theorem q_lor {p : Addr} : (xListOf [.ref p] A Q) = (∃ us, A p = some (.lst us) ∧ ∀ p, A p = none → Q (.ref p) (updA A p (.lst us))) := rfl
theorem q_tot {us : List U} : (xTupOf [.tup us] A Q) = (Q (.tup us) A) := rfl
theorem q_tor {p : Addr} : (xTupOf [.ref p] A Q) = (∃ us, A p = some (.lst us) ∧ Q (.tup us) A) := rfl
theorem q_xint {i : Int} : (xInt [.int i] A Q) = (Q (.int i) A) := rfl
theorem q_isl {p : Addr} : (isLst (.ref p) A) = (∃ us, A p = some (.lst us)) := rfl
theorem q_ist {us : List U} : (isTupU (.tup us) A) = (True) := rfl
theorem q_app {p : Addr} : (mApp (.ref p) [u] A Q) = (∃ xs, A p = some (.lst xs) ∧ xs.length < sizeLine ∧ Q .non (updA A p (.lst (xs ++ [u])))) := rfl
theorem q_pop {p : Addr} : (mPop (.ref p) [] A Q) = (∃ xs y, A p = some (.lst (xs ++ [y])) ∧ Q y (updA A p (.lst xs))) := rfl
theorem q_extT {p : Addr} {us : List U} : (mExtT (.ref p) [.tup us] A Q) = (∃ xs, A p = some (.lst xs) ∧ xs.length + us.length ≤ sizeLine ∧ Q .non (updA A p (.lst (xs ++ us)))) := rfl
theorem q_ext {p q : Addr} : (mExt (.ref p) [.ref q] A Q) = (∃ xs ws, A p = some (.lst xs) ∧ A q = some (.lst ws) ∧ xs.length + ws.length ≤ sizeLine ∧ Q .non (updA A p (.lst (xs ++ ws)))) := rfl
theorem q_setl {N : ASt → AHp → Prop} {o i : AE} : (bSetL o i u ρ A N) = (o ρ A fun x A1 => i ρ A1 fun y A2 => ∃ a us m j, x = .ref a ∧ y = .int m ∧ A2 a = some (.lst us) ∧ ixN us.length m = some j ∧ N ρ (updA A2 a (.lst (us.set j u)))) := rfl
theorem q_tail {N : ASt → AHp → Prop} {o : AE} {lo : AP1} : (bTail o lo u ρ A N) = (o ρ A fun x A1 => lo ρ A1 fun y A2 => ∃ a b us ws i, x = .ref a ∧ u = .ref b ∧ y = some i ∧ A2 a = some (.lst us) ∧ A2 b = some (.lst ws) ∧ a ≠ b ∧ 0 ≤ i ∧ i ≤ us.length ∧ us.length + ws.length ≤ sizeLine ∧ N ρ (updA A2 a (.lst (us.take i.toNat ++ ws)))) := rfl
theorem q_tuprev  : (aTupRev a ρ A Q) = (a ρ A fun x A1 => ∃ p us, x = .ref p ∧ A1 p = some (.lst us) ∧ Q (.tup us.reverse) A1) := rfl
theorem q_neg {i : Int} : ((fun (u : U) (A : AHp) (Q : AVK) => ∃ i, u = .int i ∧ Q (.int (-i)) A) (.int i) A Q) = (Q (.int (-i)) A) := by simp
end
end L2

set_option Elab.async false
set_option linter.all false
set_option maxRecDepth 100000
set_option maxHeartbeats 4000000
/-! readings over values: a def, loops by their words, comprehensions, isinstance, index -/
namespace L2
open PySem PySem.Spec PyProof.Rows
def Ext (A A' : AHp) : Prop := ∀ a o, A a = some o → A' a = some o
theorem Ext.refl (A : AHp) : Ext A A := fun _ _ h => h
theorem Ext.trans {A B C : AHp} (h : Ext A B) (k : Ext B C) : Ext A C := fun a o e => k a o (h a o e)
theorem Ext.new {A : AHp} {l : Addr} {o : AO} (h : A l = none) : Ext A (updA A l o) := fun b u e => by
  rw [updA_ne (fun z => by rw [z, h] at e; cases e)]; exact e
theorem HR.ext {K : PySem.W.Frag} {H : Hp} {A A' : AHp} (e : Ext A A') (h : HR K H A') : HR K H A := fun a o q => h a o (e a o q)
/-- behind a def: what is not asked for is forgotten -/
def Fg (Q : AVK) : AVK := fun u A => ∃ A', Ext A' A ∧ Q u A'
def aStart (N : List Str) (us : List U) : ASt := us.map some ++ List.replicate (N.length - us.length) none
section
variable {P : Program} {w : World} {K : PySem.W.Frag} {mg : Str → Option Value} {base : Heap}
theorem RSt.nones {H : Hp} : ∀ n, RSt K H (List.replicate n none) (List.replicate n none)
  | 0 => .nil
  | n + 1 => .skip (RSt.nones n)
theorem RSt.start {H : Hp} (N : List Str) {us : List U} {vs : List V} (r : RUs K H us vs) : RSt K H (aStart N us) (L2.start N vs) := by
  unfold aStart L2.start
  rw [r.length]
  generalize N.length - vs.length = n
  induction us generalizing vs with
  | nil => cases r; exact RSt.nones n
  | cons u us ih =>
    cases r with
    | cons h r => exact .cons h (ih r)
/-- the rule for a def, over values -/
theorem Fun.okA {x qual : Str} {st : Stmt} {f : Addr} {fd : FuncData} {N ps : List Str} {k : Nat} {asp : ASp} {sc : Scope} {body : List Stmt} {as : AS} (F : Fun K x qual st f fd) (hs : defScope st = sc) (hb : defBody st = body) (S : FnScope N ps (defScope st))
    (hbody : FnScope N ps sc → ∀ (cdv : Value) (A : Around) (outer : List Env) (s : Shared) (H : Hp) (E : XK), Room k (A.deeper (envOfC qual sc s.heap.objs.size f cdv)) →
      ∃ t, PSs (cxOf CX0 P w K mg base N qual sc f cdv A outer s H E).nox body t ∧ AbS K t as)
    (hsp : ∀ us A Q, asp us A Q → us.length = ps.length ∧ as { nx := fun _ A' => Fg Q .non A', rt := Fg Q } (aStart N us) A) : FnOk P w K mg base CX0 (k + 1) f fd ps (spOf K asp) := by
  refine F.ok2 hs hb S (fun vs H Q E ⟨us, A, Q', r, g, h, _⟩ => ?_) fun S cdv A outer s H vs Q E hr ⟨us, A', Q', r, g, h, k⟩ => ?_
  · rw [← r.length]; exact (hsp us A Q' h).1
  · obtain ⟨t, ht, ha⟩ := hbody S cdv A outer s H E hr
    exact ⟨t, ht, ha _ _ _ _ _ _ (RSt.start N r) g (hsp us A' Q' h).2 ⟨fun ρ A σ H' k' g' s' ⟨A3, e, q'⟩ => k _ _ _ _ k' (g'.ext e) .non q', fun u A v H' k' g' r' ⟨A3, e, q'⟩ => k _ _ _ _ k' (g'.ext e) r' q', fun _ _ _ _ _ _ _ q => q.elim, fun _ _ _ _ _ _ _ q => q.elim⟩⟩
/-- the law's own promise -/
def aspLaw : ASp := fun us A Q => ∃ ns : List Int, us = [.rol (ns.map U.int)] ∧ ns.length ≤ 63 ∧ ∀ A', Q (.bl true) A'
theorem law_in {H : Hp} {a : Addr} {ns : List Int} {E : XK} (hl : ns.length ≤ 63) (hO : Only H) (hS : SqL K H a (ns.map V.int)) : spOf K aspLaw [.ref a] H (fun v _ => v = .bl true) E := by
  have hR : SqR K H a (ns.map V.int) := by
    rcases hS with (h | h) | h
    · rcases hO a with e | ⟨o, xs, e⟩ <;> rw [e] at h <;> cases h
    · exact .inl h
    · exact .inr h
  exact ⟨[.rol (ns.map U.int)], fun _ => none, fun u _ => u = .bl true, .one (.rol hR RUs.of_ints), (fun a o e => by cases e), ⟨ns, rfl, hl, fun _ => rfl⟩, fun u A v H' _ _ r e => by subst e; cases r; rfl⟩
end
/-! truth -/
def truU : U → AHp → (Bool → AHp → Prop) → Prop := fun x A1 Q => match x with
  | .ref p => ∃ us, A1 p = some (.lst us) ∧ Q (!us.isEmpty) A1
  | .tup us => Q (!us.isEmpty) A1
  | .bl b => Q b A1
  | .int i => Q (i != 0) A1
  | .non => Q false A1
  | _ => False
def aTru (a : AE) : AT := fun ρ A Q => a ρ A fun x A1 => truU x A1 Q
theorem RUs.empty {K : PySem.W.Frag} {H : Hp} {us : List U} {vs : List V} (r : RUs K H us vs) : vs.isEmpty = us.isEmpty := by cases r <;> rfl
theorem q_tru {a : AE} {ρ : ASt} {A : AHp} {B : Bool → AHp → Prop} : (aTru a ρ A B) = (a ρ A fun x A1 => truU x A1 B) := rfl
theorem q_trul {A : AHp} {B : Bool → AHp → Prop} {p : Addr} : (truU (.ref p) A B) = (∃ us, A p = some (.lst us) ∧ B (!us.isEmpty) A) := rfl
theorem q_trut {A : AHp} {B : Bool → AHp → Prop} {us : List U} : (truU (.tup us) A B) = (B (!us.isEmpty) A) := rfl
theorem q_trub {A : AHp} {B : Bool → AHp → Prop} {k : Bool} : (truU (.bl k) A B) = (B k A) := rfl
/-! loops -/
section
variable {J : AIt} {g : AG} {b : AS} {D : AEnds} {ρ : ASt} {A : AHp}
theorem for_J (items : List U) (Pv : Nat → ASt → AHp → Prop) (h0 : Pv 0 ρ A) (hJ : ∀ k ρ A, k ≤ items.length → Pv k ρ A → J k A items[k]?)
    (hs : ∀ k u ρ A, items[k]? = some u → Pv k ρ A → g u ρ A fun ρ2 A2 => b { D with nx := Pv (k + 1), ct := Pv (k + 1), bk := D.nx } ρ2 A2) (hd : ∀ ρ A, Pv items.length ρ A → D.nx ρ A) : aLoop J g b D ρ A := by
  refine ⟨fun k m ρ A => m = items.length - k ∧ k ≤ items.length ∧ Pv k ρ A, ⟨_, rfl, Nat.zero_le _, h0⟩, ?_⟩
  rintro k m ρ A ⟨rfl, hk, p⟩
  have j := hJ k ρ A hk p
  by_cases hlt : k < items.length
  · rw [List.getElem?_eq_getElem hlt] at j
    exact .inr ⟨_, j, Pv (k + 1), fun ρ' A' p' => ⟨items.length - (k + 1), by omega, rfl, hlt, p'⟩, hs k _ ρ A (List.getElem?_eq_getElem hlt) p⟩
  · have e : k = items.length := by omega
    subst e
    rw [List.getElem?_eq_none (Nat.le_refl _)] at j
    exact .inl ⟨j, hd ρ A p⟩
theorem for_lst {a : Addr} (us : List U) (Pv : Nat → ASt → AHp → Prop) (h0 : Pv 0 ρ A) (hl : ∀ k ρ A, k ≤ us.length → Pv k ρ A → A a = some (.lst us))
    (hs : ∀ k u ρ A, us[k]? = some u → Pv k ρ A → g u ρ A fun ρ2 A2 => b { D with nx := Pv (k + 1), ct := Pv (k + 1), bk := D.nx } ρ2 A2) (hd : ∀ ρ A, Pv us.length ρ A → D.nx ρ A) : aLoop (jLst a) g b D ρ A :=
  for_J us Pv h0 (fun k ρ A hk p => ⟨us, hl k ρ A hk p, rfl⟩) hs hd
theorem for_rng {lo : Int} {n : Nat} (Pv : Nat → ASt → AHp → Prop) (h0 : Pv 0 ρ A)
    (hs : ∀ (k : Nat) ρ A, k < n → Pv k ρ A → g (.int (lo + k)) ρ A fun ρ2 A2 => b { D with nx := Pv (k + 1), ct := Pv (k + 1), bk := D.nx } ρ2 A2) (hd : ∀ ρ A, Pv n ρ A → D.nx ρ A) : aLoop (jFix (rngU lo n)) g b D ρ A :=
  for_J (rngU lo n) Pv h0 (fun k ρ A hk p => rfl) (fun k u ρ A hu p => by
    rw [rngU_get] at hu
    by_cases h : k < n
    · rw [if_pos h] at hu; cases hu; exact hs k ρ A h p
    · rw [if_neg h] at hu; cases hu) (by rw [rngU_len]; exact hd)
/-- while, by a word and a measure -/
def whA (Pv : ASt → AHp → Prop) (μ : ASt → AHp → Nat) (b : AS) (D : AEnds) (k : Nat) (ρ : ASt) (A1 : AHp) : Prop := ∃ N : ASt → AHp → Prop, (∀ ρ' A', N ρ' A' → ∃ m', m' < k ∧ (m' = μ ρ' A' ∧ Pv ρ' A')) ∧ b { D with nx := N, ct := N, bk := D.nx } ρ A1
end
/-! comprehensions -/
theorem neA {A : AHp} {a b : Addr} {o : AO} (h : A a = some o) (h' : A b = none) : a ≠ b := fun e => by rw [e, h'] at h; cases h
section
variable {J : AIt} {g : AG} {tt : AT} {te : AE} {l : Addr} {Q : AVK} {τ : ASt} {A : AHp}
/-- a filter and a map, by places; T: the frame between turns -/
theorem cl_gen (items : List U) (p : Nat → Bool) (f : Nat → U) (T : ASt → Prop) (h0 : T τ) (hl : A l = none) (hn : items.length ≤ 100000) (hJ : ∀ k A2, k ≤ items.length → Ext A A2 → J k A2 items[k]?)
    (hs : ∀ k u τ A2, items[k]? = some u → T τ → Ext A A2 → ∀ (Cy : ASt → U → AHp → Prop) (Cn : ASt → AHp → Prop), (p k = true → ∀ τ2, T τ2 → Cy τ2 (f k) A2) → (p k = false → ∀ τ2, T τ2 → Cn τ2 A2) →
      g u τ A2 fun τ2 A3 => tt τ2 A3 fun ok A4 => if ok = true then te τ2 A4 (Cy τ2) else Cn τ2 A4)
    (hd : Q (.ref l) (updA A l (.lst (((List.range items.length).filter p).map f)))) : aCL J g tt te l Q τ (updA A l (.lst [])) := by
  refine ⟨fun i m τ A2 => m = items.length - i ∧ i ≤ items.length ∧ T τ ∧ A2 = updA A l (.lst (((List.range i).filter p).map f)), ⟨_, rfl, Nat.zero_le _, h0, rfl⟩, ?_⟩
  rintro i m τ A2 ⟨rfl, hi, ht, rfl⟩
  have j := hJ i _ hi (Ext.new (o := .lst (((List.range i).filter p).map f)) hl)
  by_cases hlt : i < items.length
  · have hu : items[i]? = some items[i] := List.getElem?_eq_getElem hlt
    rw [hu] at j
    refine .inr ⟨_, j, hs i _ τ _ hu ht (Ext.new hl) _ _ (fun hp τ2 ht2 => ⟨_, updA_same, ?_, _, ?_, rfl, hlt, ht2, ?_⟩) (fun hp τ2 ht2 => ⟨_, ?_, rfl, hlt, ht2, ?_⟩)⟩
    · have : (((List.range i).filter p).map f).length ≤ i := by rw [List.length_map]; exact Nat.le_trans (List.length_filter_le ..) (by simp)
      have : (100000 : Nat) < sizeLine := by decide
      omega
    · omega
    · rw [updA_updA, List.range_succ, List.filter_append, List.map_append]; simp [hp]
    · omega
    · rw [List.range_succ, List.filter_append, List.map_append]; simp [hp]
  · have e : i = items.length := by omega
    subst e
    rw [List.getElem?_eq_none (Nat.le_refl _)] at j
    exact .inl ⟨j, hd⟩
/-- one name, no test: the list ys -/
theorem cl_map {x0 : Option U} {fr : ASt} (items ys : List U) (hlen : ys.length = items.length) (hl : A l = none) (hn : items.length ≤ 100000) (hJ : ∀ k A2, k ≤ items.length → Ext A A2 → J k A2 items[k]?)
    (hs : ∀ (k : Nat) u y A2, items[k]? = some u → ys[k]? = some y → Ext A A2 → ∀ Cy : U → AHp → Prop, Cy y A2 → te (some u :: fr) A2 Cy)
    (hd : Q (.ref l) (updA A l (.lst ys))) : aCL J (bName 0) aTrue te l Q (x0 :: fr) (updA A l (.lst [])) := by
  refine cl_gen items (fun _ => true) (fun k => (ys[k]?).getD .non) (fun τ => ∃ x, τ = x :: fr) ⟨_, rfl⟩ hl hn hJ ?_ ?_
  · rintro k u τ A2 hu ⟨x, rfl⟩ he Cy Cn hy hno
    show if true = true then te (some u :: fr) A2 (Cy (some u :: fr)) else Cn (some u :: fr) A2
    rw [if_pos rfl]
    have hk : k < ys.length := by rw [hlen]; exact (List.getElem?_eq_some_iff.mp hu).1
    have hyk : ys[k]? = some ys[k] := List.getElem?_eq_getElem hk
    refine hs k u _ A2 hu hyk he _ ?_
    have := hy rfl (some u :: fr) ⟨_, rfl⟩
    rw [hyk] at this
    exact this
  · have e : ((List.range items.length).filter fun _ => true).map (fun k => (ys[k]?).getD .non) = ys := by
      rw [List.filter_eq_self.mpr (fun _ _ => rfl), ← hlen]
      apply List.ext_getElem
      · simp
      · intro i h1 h2; simp [List.getElem?_eq_getElem h2]
    rw [e]; exact hd
end
/-! isinstance -/
section
variable {X : Cx}
/-- the kind of a value that is no address -/
def U.tyName : U → Option String
  | .non => some "NoneType"
  | .bl _ => some "bool"
  | .int _ => some "int"
  | .str _ => some "str"
  | .tup _ => some "tuple"
  | _ => none
inductive TyW (K : PySem.W.Frag) (H : Hp) : V → Value → Prop
  | of {x : V} {t : Value} : TyOf K H x t → TyW K H x t
  | tup {a : Addr} {xs : List V} : SqT K H a xs → TyW K H (.ref a) (.type "tuple")
def uIsW (K : PySem.W.Frag) : List V → Hp → VK → Prop := fun xs H Q => match xs with
  | [x, .ty n] => ∃ t b, TyW K H x t ∧ PySem.W.kitOne K t (.type n) = some b ∧ Q (.bl b) H
  | [x, .ref c] => ∃ t b, TyW K H x t ∧ PySem.W.kitOne K t (.ref c) = some b ∧ Q (.bl b) H
  | _ => False
end
section
variable {K : PySem.W.Frag}
/-- isinstance of data, one of the built-in classes -/
def isTy (u : U) (n : String) : Bool := match u with
  | .non => n == "NoneType"
  | .bl _ => n == "bool" || n == "int"
  | .int _ => n == "int"
  | .str _ => n == "str"
  | .tup _ => n == "tuple"
  | _ => false
def xIsi : List U → AHp → AVK → Prop := fun us A Q => match us with
  | [u, .ty n] => (n = "int" ∨ n = "bool" ∨ n = "str" ∨ n = "tuple") ∧ (match u with | .rol _ => False | .ref _ => False | .ty _ => False | _ => True) ∧ Q (.bl (isTy u n)) A
  | _ => False
theorem q_isi {A : AHp} {Q : AVK} {u : U} {n : String} : (xIsi [u, .ty n] A Q) = ((n = "int" ∨ n = "bool" ∨ n = "str" ∨ n = "tuple") ∧ (match u with | .rol _ => False | .ref _ => False | .ty _ => False | _ => True) ∧ Q (.bl (isTy u n)) A) := rfl
/-! index -/
def mIdx : U → List U → AHp → AVK → Prop := fun u us A Q => match us with
  | [.str z] => ∃ (ss : List Str) (j : Nat), (u = .tup (ss.map U.str) ∨ ∃ a, u = .ref a ∧ A a = some (.lst (ss.map U.str))) ∧ ss[j]? = some z ∧ (∀ m, m < j → ss[m]? ≠ some z) ∧ Q (.int j) A
  | _ => False
end
end L2

set_option Elab.async false
set_option linter.all false
set_option maxRecDepth 100000
set_option maxHeartbeats 4000000
/-! writings as values -/
namespace L2
open PySem PySem.Spec PyProof.Rows
mutual
def Wr.toU : Wr → U
  | .nothing => .tup [.str "nothing"]
  | .bead c => .tup [.str "bead", .str c]
  | .side b f => .tup [.str (sname b), f.toU]
  | .pair f g => .tup [.str "pair", f.toU, g.toU]
  | .many k ps => .tup [.str (mname k), .tup (toUL ps)]
def toUL : List Wr → List U
  | [] => []
  | w :: ws => w.toU :: toUL ws
end
/-- neither a bead nor of many parts -/
def Wr.few (w : Wr) : Prop := (∀ c, w ≠ .bead c) ∧ ∀ k ps, w ≠ .many k ps
theorem Wr.kinds (w : Wr) : (∃ c, w = .bead c) ∨ (∃ k ps, w = .many k ps) ∨ w.few := by
  cases w with
  | bead c => exact .inl ⟨c, rfl⟩
  | many k ps => exact .inr (.inl ⟨k, ps, rfl⟩)
  | _ => exact .inr (.inr ⟨fun c => by simp, fun k ps => by simp⟩)
def manyU : List U := [.str "row", .str "bag", .str "choice", .str "ring"]
theorem tup1 {x : U} : [x].length ≤ sizeLine := by show 1 ≤ sizeLine; decide
theorem tup2 {x y : U} : [x, y].length ≤ sizeLine := by show 2 ≤ sizeLine; decide
theorem tup3 {x y z : U} : [x, y, z].length ≤ sizeLine := by show 3 ≤ sizeLine; decide
theorem line1000 {n : Nat} (h : n ≤ 100000) : n ≤ sizeLine := Nat.le_trans h (by decide)
theorem line1000' {n : Nat} (h : n ≤ 100000) : n < sizeLine := Nat.lt_of_le_of_lt h (by decide)
theorem fg {Q : AVK} {u : U} {A : AHp} (h : Q u A) : Fg Q u A := ⟨A, Ext.refl A, h⟩
theorem fgx {Q : AVK} {u : U} {A A' : AHp} (e : Ext A A') (h : Q u A) : Fg Q u A' := ⟨A, e, h⟩
theorem iteB {b : Bool} {X Y : Prop} (h1 : b = true → X) (h2 : b = false → Y) : if b = true then X else Y := by
  cases b
  · exact iteN (by decide) (h2 rfl)
  · exact iteP rfl (h1 rfl)
/-- KINDS.index(..) of a tuple of texts of the module -/
def aIdxC (ss : List Str) (l : AA) : AE := fun ρ A Q => l ρ A fun us A1 => ∃ (z : Str) (j : Nat), us = [.str z] ∧ ss[j]? = some z ∧ (∀ m, m < j → ss[m]? ≠ some z) ∧ Q (.int j) A1
theorem q_idxC {ss : List Str} {l : AA} {ρ : ASt} {A : AHp} {Q : AVK} : (aIdxC ss l ρ A Q) = (l ρ A fun us A1 => ∃ (z : Str) (j : Nat), us = [.str z] ∧ ss[j]? = some z ∧ (∀ m, m < j → ss[m]? ≠ some z) ∧ Q (.int j) A1) := rfl
theorem q_idxL {A : AHp} {Q : AVK} {p : Addr} {z : Str} : ((fun (u : U) (us : List U) (A : AHp) (Q : AVK) => (∃ a, u = .ref a) ∧ mIdx u us A Q) (.ref p) [.str z] A Q) = (∃ (ss : List Str) (j : Nat), A p = some (.lst (ss.map U.str)) ∧ ss[j]? = some z ∧ (∀ m, m < j → ss[m]? ≠ some z) ∧ Q (.int j) A) := by
  refine propext ⟨fun ⟨_, ss, j, h, h1, h2, h3⟩ => ?_, fun ⟨ss, j, h, h1, h2, h3⟩ => ⟨⟨p, rfl⟩, ss, j, .inr ⟨p, rfl, h⟩, h1, h2, h3⟩⟩
  rcases h with h | ⟨a, e, h⟩
  · cases h
  · cases e; exact ⟨ss, j, h, h1, h2, h3⟩
theorem Ext.put {A A2 : AHp} {a : Addr} {o : AO} (e : Ext A A2) : Ext (updA A a o) (updA A2 a o) := fun b u h => by
  by_cases hb : b = a
  · subst hb; rw [updA_same] at h ⊢; exact h
  · rw [updA_ne hb] at h ⊢; exact e b u h
theorem Ext.none {A A2 : AHp} {l : Addr} (e : Ext A A2) (h : A2 l = Option.none) : A l = Option.none := by
  cases q : A l with
  | none => rfl
  | some v => rw [e l v q] at h; cases h
/-- what is written at a place that A does not know -/
theorem Ext.in {A A2 : AHp} {l : Addr} {o : AO} (e : Ext A A2) (h : A l = Option.none) : Ext A (updA A2 l o) := fun b u q => by
  rw [updA_ne (neA q h)]; exact e b u q
/-- an int of a list of ints -/
theorem atI_intsU {ns : List Int} {i : Int} (h0 : 0 ≤ i) (h : i < ns.length) : ∃ z, atI (ns.map U.int) i = some (.int z) ∧ ns[i.toNat]? = some z := by
  obtain ⟨v, h1, h2⟩ := atI_lt (xs := ns.map U.int) (i := i) h0 (by rw [List.length_map]; exact h)
  rw [List.getElem?_map] at h2
  obtain ⟨z, hz, rfl⟩ := Option.map_eq_some_iff.mp h2
  exact ⟨z, h1, hz⟩
theorem map_get {α β : Type} {f : α → β} {xs : List α} {k : Nat} {u : β} (h : (xs.map f)[k]? = some u) : ∃ x, xs[k]? = some x ∧ u = f x := by
  rw [List.getElem?_map] at h
  obtain ⟨x, hx, rfl⟩ := Option.map_eq_some_iff.mp h
  exact ⟨x, hx, rfl⟩
end L2

set_option Elab.async false
set_option linter.all false
set_option maxRecDepth 100000
set_option maxHeartbeats 4000000
/-! zip of lists and tuples in any mix -/
namespace L2
open PySem PySem.Spec PyProof.Rows
/-- an iterator over a tuple (true) or a list (false), at place k -/
def SIt (h : Heap) (t : Bool) (it l : Addr) (k : Nat) (xs : Array Value) : Prop := match t with
  | false => h.IsListIter it l k ∧ h.IsList l xs
  | true => h.IsTupleIter it l k ∧ h.IsTuple l xs
section
variable {prog : Program} {w : World} {A : Around} {E : Value → Shared → Prop} {s : Shared} {it l : Addr} {k : Nat} {xs : Array Value} {t t1 t2 : Bool}
theorem SIt.at {h h' : Heap} (q : SIt h t it l k xs) (a : ∀ o, h.get? it = some o → h'.get? it = some o) (b : ∀ o, h.get? l = some o → h'.get? l = some o) : SIt h' t it l k xs := by
  cases t with
  | false => exact ⟨Heap.IsListIter.at q.1 a, Heap.IsList.at q.2 b⟩
  | true => exact ⟨Heap.IsTupleIter.at q.1 a, Heap.IsTuple.at q.2 b⟩
theorem SIt.but {h h' : Heap} {b : Addr} (q : SIt h t it l k xs) (e : Heap.ExtBut b h h') (h1 : it ≠ b) (h2 : l ≠ b) : SIt h' t it l k xs := q.at (fun o z => e _ o h1 z) fun o z => e _ o h2 z
variable {z TI TO i1 i2 l1 l2 : Addr} {k1 k2 : Nat} {ps qs : Array Value} {a b : Value}
end
/-- a tuple (true) or a list (false) before it is walked -/
def SqH (h : Heap) (l : Addr) (xs : Array Value) (t : Bool) : Prop := match t with
  | false => h.IsList l xs
  | true => h.IsTuple l xs
def tyB : Bool → String
  | true => "tuple_iterator"
  | false => "list_iterator"
theorem SqH.push {h : Heap} {l : Addr} {xs : Array Value} {t : Bool} {o : Obj} (q : SqH h l xs t) : SqH (h.push o) l xs t := by
  cases t with
  | false => exact Heap.IsList.push q _
  | true => exact Heap.IsTuple.at q fun u e => Heap.get?_push_of_some _ e
theorem SqH.lt {h : Heap} {l : Addr} {xs : Array Value} {t : Bool} (q : SqH h l xs t) : l < h.objs.size := by
  cases t with
  | false => obtain ⟨o, e, _⟩ := q; exact Heap.lt_size e
  | true => obtain ⟨o, e, _⟩ := q; exact Heap.lt_size e
def itO (t : Bool) (l : Addr) : Obj := { cls := .type (tyB t), data := .fields #[.ref l, .int 0 0] }
theorem SqH.iter {prog : Program} {w : World} {A : Around} {E : Value → Shared → Prop} {s : Shared} {l : Addr} {xs : Array Value} {t : Bool} {Q : Value → Shared → Prop} (q : SqH s.heap l xs t) (h : Q (.ref s.heap.objs.size) { s with heap := s.heap.push (itO t l) }) :
    wpAny (model prog w) A (pyIter (.ref l)) Q E s := by
  cases t with
  | false => exact wpAny_pyIter_list q h
  | true => exact wpAny_pyIter_tuple q h
def zg1 (h : Heap) (t1 : Bool) (l1 : Addr) : Heap := h.push (itO t1 l1)
def zg2 (h : Heap) (t1 : Bool) (l1 : Addr) (t2 : Bool) (l2 : Addr) : Heap := (zg1 h t1 l1).push (itO t2 l2)
def zg3 (h : Heap) (t1 : Bool) (l1 : Addr) (t2 : Bool) (l2 : Addr) : Heap := (zg2 h t1 l1 t2 l2).push { cls := .type "tuple", data := .seq #[.ref h.objs.size, .ref (zg1 h t1 l1).objs.size] }
def zg4 (h : Heap) (t1 : Bool) (l1 : Addr) (t2 : Bool) (l2 : Addr) : Heap := (zg3 h t1 l1 t2 l2).push { cls := .type "tuple", data := .seq #[.none, .none] }
def zg5 (h : Heap) (t1 : Bool) (l1 : Addr) (t2 : Bool) (l2 : Addr) : Heap := (zg4 h t1 l1 t2 l2).push { cls := .type "zip", data := .fields #[.none, .bool false, .bool false, .ref (zg2 h t1 l1 t2 l2).objs.size, .ref (zg3 h t1 l1 t2 l2).objs.size] }
section
variable {prog : Program} {w : World} {A : Around} {E : Value → Shared → Prop} {s : Shared}
end
/-! as a walk -/
/-- a tuple (true) or a list (false) that is read; its iterator -/
def sqB (K : PySem.W.Frag) (H : Hp) (t : Bool) (a : Addr) (xs : List V) : Prop := match t with
  | true => SqT K H a xs
  | false => SqL K H a xs
def itB (h : Heap) (t : Bool) (it l : Addr) (k : Nat) : Prop := match t with
  | true => h.IsTupleIter it l k
  | false => h.IsListIter it l k
section
variable {X : Cx} {pins : List (Addr × Obj)} {σ : St} {H : Hp} {s : Shared} {a : Addr} {xs ys : List V} {t : Bool}
end
theorem itB.at {h h' : Heap} {t : Bool} {it l : Addr} {k : Nat} (q : itB h t it l k) (e : ∀ o, h.get? it = some o → h'.get? it = some o) : itB h' t it l k := by
  cases t with
  | false => exact Heap.IsListIter.at q e
  | true => exact Heap.IsTupleIter.at q e
theorem itB.obj {h : Heap} {t : Bool} {it l : Addr} {k : Nat} (q : itB h t it l k) : ∃ o, h.get? it = some o ∧ ∀ v, o.data ≠ .cell v := by
  cases t with
  | false => obtain ⟨o, e, c, d⟩ := q; exact ⟨o, e, fun v z => by rw [d] at z; cases z⟩
  | true => obtain ⟨o, e, c, d⟩ := q; exact ⟨o, e, fun v z => by rw [d] at z; cases z⟩
theorem SIt.it {h : Heap} {t : Bool} {it l : Addr} {k : Nat} {xs : Array Value} (q : SIt h t it l k xs) : itB h t it l k := by
  cases t with
  | false => exact q.1
  | true => exact q.1
def ItG (K : PySem.W.Frag) (t1 t2 : Bool) (a b : Addr) : It :=
  ⟨fun i H => ∃ xs ys x y, sqB K H t1 a xs ∧ sqB K H t2 b ys ∧ xs[i]? = some x ∧ ys[i]? = some y,
   fun i H v H' => ∃ T x y, v = .ref T ∧ H T = none ∧ H' = upd H T (.tup [x, y]) ∧ (∀ xs, sqB K H t1 a xs → xs[i]? = some x) ∧ (∀ ys, sqB K H t2 b ys → ys[i]? = some y),
   fun i H => ∃ xs ys, sqB K H t1 a xs ∧ sqB K H t2 b ys ∧ (xs.length ≤ i ∨ ys.length ≤ i)⟩
def uZipG (K : PySem.W.Frag) : List V → Hp → (It → Hp → Prop) → Prop := fun vs H R => match vs with
  | [.ref a, .ref b] => ∃ t1 t2 xs ys, sqB K H t1 a xs ∧ sqB K H t2 b ys ∧ R (ItG K t1 t2 a b) H
  | _ => False
/-! over values -/
def seqU (A : AHp) : U → List U → Prop := fun u us => match u with
  | .tup xs => xs = us
  | .rol xs => xs = us
  | .ref a => A a = some (.lst us)
  | _ => False
def jZipG (x y : U) : AIt := fun i A r => ∃ us ws, seqU A x us ∧ seqU A y ws ∧ r = (zpU us ws)[i]?
def yZipG : List U → AHp → (AIt → AHp → Prop) → Prop := fun us A R => match us with
  | [x, y] => (∃ us ws, seqU A x us ∧ seqU A y ws) ∧ R (jZipG x y) A
  | _ => False
theorem q_yzg {x y : U} {A : AHp} {R : AIt → AHp → Prop} : (yZipG [x, y] A R) = ((∃ us ws, seqU A x us ∧ seqU A y ws) ∧ R (jZipG x y) A) := rfl
end L2

set_option Elab.async false
set_option linter.all false
set_option maxRecDepth 100000
set_option maxHeartbeats 4000000
/-! sizes and keys as values -/
namespace L2
open PySem PySem.Spec PyProof.Rows
mutual
def Wr.keyU : Wr → U
  | .nothing => .tup [.int 0, .int 0]
  | .bead c => .tup [.int 1, .int 1, .str c]
  | .side b f => .tup [.int f.size, .int (Wr.side b f).kidx, f.keyU]
  | .pair f g => .tup [.int (Wr.pair f g).size, .int 4, f.keyU, g.keyU]
  | .many k ps => .tup (.int (sizeL ps) :: .int (Wr.many k ps).kidx :: keyUL ps)
def keyUL : List Wr → List U
  | [] => []
  | w :: ws => w.keyU :: keyUL ws
end
/-! data of whole numbers, texts and tuples -/
mutual
def U.pl : U → Bool
  | .int _ => true
  | .str _ => true
  | .tup us => decide (us.length ≤ 1000) && plL us
  | _ => false
def plL : List U → Bool
  | [] => true
  | u :: us => u.pl && plL us
end
mutual
def U.dp : U → Nat
  | .tup us => 1 + dpL us
  | _ => 0
def dpL : List U → Nat
  | [] => 0
  | u :: us => max u.dp (dpL us)
end
/-! data for == -/
section
variable {A : AHp}
end
/-! alike by kinds, colours and parts -/
mutual
def Wr.like : Wr → Wr → Bool
  | .nothing, .nothing => true
  | .bead c, .bead d => c == d
  | .side b f, .side b' f' => b == b' && f.like f'
  | .pair f g, .pair f' g' => f.like f' && g.like g'
  | .many k ps, .many k' ps' => (mname k == mname k') && likeL ps ps'
  | _, _ => false
def likeL : List Wr → List Wr → Bool
  | [], [] => true
  | w :: ws, v :: vs => w.like v && likeL ws vs
  | _, _ => false
end
def mcode : Nat → Nat
  | 0 => 5
  | 1 => 6
  | 2 => 7
  | _ => 8
end L2

set_option Elab.async false
set_option linter.all false
set_option maxRecDepth 100000
set_option maxHeartbeats 4000000
/-! walks over a list or a tuple, whichever it is -/
namespace L2
open PySem PySem.Spec PyProof.Rows
def uSeqI (K : PySem.W.Frag) : V → Hp → (It → Hp → Prop) → Prop := fun x H R => uList K x H R ∨ uTupI K x H R
section
variable {X : Cx} {tg a : Expr} {te : TE} {ta : TA} {p pos tp : Pos} {elts : List Expr} {k0 : Nat}
/-- a value that has come: its iterator -/
theorem pj_seq (hl : PE X a te) : PI X tg a (jOf (uSeqI X.K) te) := by
  intro pins s σ H R I h
  refine thn (hl pins s σ H _ I h) fun v s1 ⟨x, H1, I1, r1, q1⟩ => ?_
  have fp : ∀ b ∈ [s1.heap.objs.size], FpOk X pins H1 b := fun b hb => by
    obtain rfl : b = s1.heap.objs.size := by simpa using hb
    exact I1.fpOk (Nat.le_refl _) (I1.hok.fresh (Nat.le_refl _))
  have J1 : ∀ o, Inv X pins σ H1 { s1 with heap := s1.heap.push o } := fun o => I1.kept (t' := s1.toks) fun b u e => Heap.get?_push_of_some _ e
  cases x with
  | ref l =>
    cases r1
    rcases q1 with ⟨⟨xs, hq⟩, q⟩ | ⟨⟨xs, hq⟩, q⟩
    · obtain ⟨its, rv, pl, hz⟩ := I1.list hq
      exact wpAny_pyIter_list pl.isList ⟨s1.heap.objs.size, [s1.heap.objs.size], _, _, H1, rfl, J1 _, turn_list l _, ⟨_, Heap.get?_push_size _ rfl, rfl, rfl⟩, fp, q⟩
    · obtain ⟨its, rv, pl, hz⟩ := I1.tuple hq
      exact wpAny_pyIter_tuple (show s1.heap.IsTuple l its.toArray from pl) ⟨s1.heap.objs.size, [s1.heap.objs.size], _, _, H1, rfl, J1 _, turn_tuple l _, ⟨_, Heap.get?_push_size _ rfl, rfl, rfl⟩, fp, q⟩
  | _ => rcases q1 with q | q <;> exact q.elim
def uEnumS (K : PySem.W.Frag) : List V → Hp → (It → Hp → Prop) → Prop := fun vs H R => uEnum K vs H R ∨ uEnumT K vs H R
end
section
variable {K : PySem.W.Frag}
def ySeq : U → AHp → (AIt → AHp → Prop) → Prop := fun u A R => match u with
  | .ref a => (∃ us, A a = some (.lst us)) ∧ R (jLst a) A
  | .rol us => R (jFix us) A
  | .tup us => R (jFix us) A
  | _ => False
theorem ab_yseq : AbY1 K (uSeqI K) ySeq := fun x v A H R' R r g w k => by
  cases r with
  | ref a => exact .inl (ab_ylist (.ref a) _ A H R' R (.ref a) g w k)
  | rol h1 r1 => exact .inl (ab_ylist _ _ A H R' R (.rol h1 r1) g w k)
  | tup h1 r1 => exact .inr (ab_ytup _ _ A H R' R (.tup h1 r1) g w k)
  | _ => exact w.elim
def yEnumS : List U → AHp → (AIt → AHp → Prop) → Prop := fun us A R => match us with
  | [.ref a] => (∃ us, A a = some (.lst us)) ∧ R (jEnum a) A
  | [.rol us] => R (jFix (enU us)) A
  | [.tup us] => R (jFix (enU us)) A
  | _ => False
variable {A : AHp} {R : AIt → AHp → Prop} {p : Addr} {us : List U}
theorem q_ysr : (ySeq (.ref p) A R) = ((∃ us, A p = some (.lst us)) ∧ R (jLst p) A) := rfl
theorem q_yso : (ySeq (.rol us) A R) = (R (jFix us) A) := rfl
theorem q_yst : (ySeq (.tup us) A R) = (R (jFix us) A) := rfl
theorem q_yesr : (yEnumS [.ref p] A R) = ((∃ us, A p = some (.lst us)) ∧ R (jEnum p) A) := rfl
theorem q_yeso : (yEnumS [.rol us] A R) = (R (jFix (enU us)) A) := rfl
theorem q_yest : (yEnumS [.tup us] A R) = (R (jFix (enU us)) A) := rfl
end
/-! xs.extend(list or tuple) -/
section
variable {X : Cx}
def rExtS (K : PySem.W.Frag) : V → List V → Hp → VK → Prop := fun x vs H Q => rExtend x vs H Q ∨ rExtT K x vs H Q
theorem mt_extS : MtM X "list.extend" (rExtS X.K) := fun pins s σ H x vs v us Q I rx rv h => by
  rcases h with h | h
  · exact mt_extend pins s σ H x vs v us Q I rx rv h
  · exact mt_extT pins s σ H x vs v us Q I rx rv h
variable {K : PySem.W.Frag}
def mExtS : U → List U → AHp → AVK → Prop := fun u us A Q => match u, us with
  | .ref a, [.tup ws] => ∃ xs, A a = some (.lst xs) ∧ xs.length + ws.length ≤ sizeLine ∧ Q .non (updA A a (.lst (xs ++ ws)))
  | .ref a, [.ref b] => ∃ xs ws, A a = some (.lst xs) ∧ A b = some (.lst ws) ∧ xs.length + ws.length ≤ sizeLine ∧ Q .non (updA A a (.lst (xs ++ ws)))
  | _, _ => False
theorem ab_mextS : AbMt K (rExtS K) mExtS := fun x u xs us A H Q' Q r rs g h k => by
  unfold mExtS at h
  split at h
  · exact .inr (ab_mextT _ _ _ _ A H Q' Q r rs g h k)
  · exact .inl (ab_mext _ _ _ _ A H Q' Q r rs g h k)
  · exact h.elim
theorem q_exSt {A : AHp} {Q : AVK} {p : Addr} {us : List U} : (mExtS (.ref p) [.tup us] A Q) = (∃ xs, A p = some (.lst xs) ∧ xs.length + us.length ≤ sizeLine ∧ Q .non (updA A p (.lst (xs ++ us)))) := rfl
theorem q_exSr {A : AHp} {Q : AVK} {p q : Addr} : (mExtS (.ref p) [.ref q] A Q) = (∃ xs ws, A p = some (.lst xs) ∧ A q = some (.lst ws) ∧ xs.length + ws.length ≤ sizeLine ∧ Q .non (updA A p (.lst (xs ++ ws)))) := rfl
end
/-! slices of lists by a map -/
def cutL {α : Type} (xs : List α) (lo hi : Option Int) : List α := (xs.drop (HT.sIx xs.length 0 lo)).take (HT.sIx xs.length xs.length hi - HT.sIx xs.length 0 lo)
end L2

set_option Elab.async false
set_option linter.all false
set_option maxRecDepth 100000
set_option maxHeartbeats 4000000
/-! mathematics: series, and rings -/
namespace MM
/-- a series -/
structure Ser where
  c : Nat → Int
theorem Ser.ext {f g : Ser} (h : ∀ n, f.c n = g.c n) : f = g := by
  cases f; cases g
  simp only [Ser.mk.injEq]
  funext n
  exact h n
def Ser.add (f g : Ser) : Ser := ⟨fun n => f.c n + g.c n⟩
def Ser.mul (f g : Ser) : Ser := ⟨fun n => sm (n + 1) fun i => f.c i * g.c (n - i)⟩
def Ser.neg (f : Ser) : Ser := ⟨fun n => - f.c n⟩
def Ser.num (k : Int) : Ser := ⟨fun n => if n = 0 then k else 0⟩
instance : Add Ser := ⟨Ser.add⟩
instance : Mul Ser := ⟨Ser.mul⟩
instance : Neg Ser := ⟨Ser.neg⟩
instance : Sub Ser := ⟨fun f g => Ser.add f (Ser.neg g)⟩
instance : NatCast Ser := ⟨fun n => Ser.num n⟩
instance : IntCast Ser := ⟨fun n => Ser.num n⟩
instance (n : Nat) : OfNat Ser n := ⟨Ser.num n⟩
theorem add_c (f g : Ser) (n : Nat) : (f + g).c n = f.c n + g.c n := rfl
theorem mul_c (f g : Ser) (n : Nat) : (f * g).c n = sm (n + 1) fun i => f.c i * g.c (n - i) := rfl
theorem neg_c (f : Ser) (n : Nat) : (-f).c n = - f.c n := rfl
theorem num_c (k : Int) (n : Nat) : (Ser.num k).c n = if n = 0 then k else 0 := rfl
theorem zero_c (n : Nat) : (0 : Ser).c n = 0 := by show (if n = 0 then ((0 : Nat) : Int) else 0) = 0; split <;> rfl
/-- a sum from its other end -/
theorem sm_rev (n : Nat) (f : Nat → Int) : sm (n + 1) f = sm (n + 1) fun i => f (n - i) := by
  have h : ∀ k, k ≤ n + 1 → sm k (fun i => f (n - i)) = sm (n + 1) f - sm (n + 1 - k) f := by
    intro k
    induction k with
    | zero => intro _; rw [sm_zero, Nat.sub_zero]; omega
    | succ k ih =>
      intro hk
      rw [sm_succ, ih (by omega)]
      have : n + 1 - k = n - k + 1 := by omega
      have h2 := sm_succ (n - k) f
      rw [this, h2, show n + 1 - (k + 1) = n - k by omega]; omega
  have := h (n + 1) (Nat.le_refl _)
  rw [Nat.sub_self, sm_zero] at this
  omega
theorem ser_mul_comm (f g : Ser) : f * g = g * f := Ser.ext fun n => by
  rw [mul_c, mul_c, sm_rev]
  refine sm_congr fun i hi => ?_
  rw [show n - (n - i) = i by omega, Int.mul_comm]
theorem ser_mul_assoc (f g h : Ser) : f * g * h = f * (g * h) := Ser.ext fun n => by
  rw [mul_c, mul_c]
  have e1 : sm (n + 1) (fun i => (f * g).c i * h.c (n - i)) = sm (n + 1) fun l => sm (l + 1) fun i => f.c i * g.c (l - i) * h.c (n - l) := by
    refine sm_congr fun l _ => ?_
    rw [mul_c, ← sm_mul_r]
  have e2 := sm_diag (n + 1) (fun i j => if i + j ≤ n then f.c i * g.c j * h.c (n - (i + j)) else 0) (fun i j hij => if_neg (by omega))
  rw [e1]
  have e3 : sm (n + 1) (fun l => sm (l + 1) fun i => f.c i * g.c (l - i) * h.c (n - l)) = sm (n + 1) fun l => sm (l + 1) fun i => if i + (l - i) ≤ n then f.c i * g.c (l - i) * h.c (n - (i + (l - i))) else 0 := by
    refine sm_congr fun l hl => sm_congr fun i hi => ?_
    rw [if_pos (by omega), show i + (l - i) = l by omega]
  rw [e3, ← e2]
  refine sm_congr fun i hi => ?_
  rw [mul_c, ← sm_mul, sm_ext (m := n - i + 1) (n := n + 1) (by omega) fun j h1 _ => if_neg (by omega)]
  refine sm_congr fun j hj => ?_
  rw [if_pos (by omega), show n - (i + j) = n - i - j by omega, Int.mul_assoc]
theorem ser_num_mul (k : Int) (f : Ser) (n : Nat) : (Ser.num k * f).c n = k * f.c n := by
  rw [mul_c, sm_ext (m := 1) (by omega) fun i h1 _ => by rw [num_c, if_neg (by omega), Int.zero_mul], sm_succ, sm_zero, num_c, if_pos rfl, Nat.sub_zero]
  omega
theorem ser_mul_one (f : Ser) : f * 1 = f := Ser.ext fun n => by
  rw [ser_mul_comm]
  have := ser_num_mul 1 f n
  rw [Int.one_mul] at this
  exact this
theorem ser_add_comm (f g : Ser) : f + g = g + f := Ser.ext fun n => Int.add_comm _ _
theorem ser_left_distrib (f g h : Ser) : f * (g + h) = f * g + f * h := Ser.ext fun n => by
  rw [add_c, mul_c, mul_c, mul_c, ← sm_add]
  exact sm_congr fun i _ => Int.mul_add _ _ _
theorem ser_zero_mul (f : Ser) : 0 * f = 0 := Ser.ext fun n => by
  have := ser_num_mul 0 f n
  rw [Int.zero_mul] at this
  rw [zero_c]
  exact this
def Ser.pow (f : Ser) : Nat → Ser
  | 0 => 1
  | n + 1 => Ser.pow f n * f
instance : HPow Ser Nat Ser := ⟨Ser.pow⟩
instance : SMul Nat Ser := ⟨fun n f => Ser.num n * f⟩
instance : SMul Int Ser := ⟨fun n f => Ser.num n * f⟩
instance : Lean.Grind.CommRing Ser where
  add_zero f := Ser.ext fun n => by rw [add_c, zero_c]; omega
  add_comm := ser_add_comm
  add_assoc f g h := Ser.ext fun n => Int.add_assoc _ _ _
  mul_assoc := ser_mul_assoc
  mul_one := ser_mul_one
  one_mul f := by rw [ser_mul_comm]; exact ser_mul_one f
  left_distrib := ser_left_distrib
  right_distrib f g h := by rw [ser_mul_comm, ser_left_distrib, ser_mul_comm h f, ser_mul_comm h g]
  zero_mul := ser_zero_mul
  mul_zero f := by rw [ser_mul_comm]; exact ser_zero_mul f
  pow_zero f := rfl
  pow_succ f n := rfl
  ofNat_succ k := Ser.ext fun n => by
    show (if n = 0 then (((k + 1 : Nat)) : Int) else 0) = (if n = 0 then ((k : Nat) : Int) else 0) + (if n = 0 then ((1 : Nat) : Int) else 0)
    split <;> simp
  neg_add_cancel f := Ser.ext fun n => by rw [add_c, neg_c, zero_c]; omega
  sub_eq_add_neg f g := rfl
  neg_zsmul i f := Ser.ext fun n => by
    show (Ser.num (-i) * f).c n = -((Ser.num i * f).c n)
    rw [ser_num_mul, ser_num_mul, Int.neg_mul]
  intCast_neg i := Ser.ext fun n => by
    show (if n = 0 then -i else 0) = -(if n = 0 then i else 0)
    split <;> simp
  mul_comm := ser_mul_comm
/-- n times the n-th -/
def th (f : Ser) : Ser := ⟨fun n => n * f.c n⟩
/-- the s-th power of x -/
def xp (s : Nat) : Ser := ⟨fun n => if n = s then 1 else 0⟩
/-- 1 + x ^ s + x ^ 2s .. -/
def geo (s : Nat) : Ser := ⟨fun n => if s ∣ n then 1 else 0⟩
/-- the marked rows: th B times the rows of B -/
def mk (B R : Ser) : Ser := th B * R
/-- rows, told -/
def Rows (B R : Ser) : Prop := (1 - B) * R = 1
/-- over the divisors of n -/
def dsum (n : Nat) (f : Nat → Int) : Int := sm n fun i => if (i + 1) ∣ n then f (i + 1) else 0
/-- the series of a list's rows -/
def serA (a : List Int) : Ser := ⟨fun n => at0 a n⟩
def serR (a : List Int) : Ser := ⟨fun n => at0 (rowsL a n) n⟩
/-- the marked rows of a list -/
def bgn (a : List Int) (n : Nat) : Int := sm n fun i => (1 + (i : Int)) * at0 a (1 + i) * at0 (rowsL a n) (n - (1 + i))
/-- how many of 1 to k share no divisor with k -/
def phi (k : Nat) : Nat := ((List.range k).filter fun (i : Nat) => decide (((Nat.gcd (1 + i) k : Nat) : Int) = 1)).length
end MM

set_option Elab.async false
set_option linter.all false
set_option maxRecDepth 100000
set_option maxHeartbeats 4000000
/-! x < y of deep data -/
namespace L2
open PySem PySem.Spec PyProof.Rows
def LtAt (A : Around) (s : Shared) (y x : Value) (b : Bool) : Prop := ∀ (prog : Program) (w : World) (E : Value → Shared → Prop) (Q : Value → Shared → Prop), Q (.bool b) s → wpAny (model prog w) A (richCompare .Lt y x) Q E s
/-- by the first pair that differs, from place i on, k pairs -/
def lexN (e l : Nat → Bool) (d : Bool) : Nat → Nat → Bool
  | _, 0 => d
  | i, k + 1 => if e i = true then lexN e l d (i + 1) k else l i
section
open PySem.SeqAt
open PySem.AutoSeq1 (wpAny_loadPart')
open PySem.MeetsSeq PySem.MeetsSeq2 PySem.MeetsSeq3
theorem tuple_ltAt (l b : Addr) (items items2 : Array Value) (n n2 : Nat) (dd dd2 : Option Addr) (sl sl2 : Array (Option Value)) (e lt : Nat → Bool) :
    Meets (Builtin.«tuple.__lt__» ⟨[.ref l, .ref b], []⟩)
      (fun A R s => s.heap.get? l = some { cls := .type "tuple", dict := dd, data := .seq items n, slots := sl } ∧ s.heap.get? b = some { cls := .type "tuple", dict := dd2, data := .seq items2 n2, slots := sl2 } ∧
        (∀ j (h1 : j < items.size) (h2 : j < items2.size), EqAt A.in1 s items[j] items2[j] (e j)) ∧ (∀ j (h1 : j < items.size) (h2 : j < items2.size), (∀ i, i < j → e i = true) → e j = false → LtAt A.in1 s items[j] items2[j] (lt j)) ∧
        R (.ok (.ret (.bool (lexN e lt (decide (items.size < items2.size)) 0 (min items.size items2.size))))) s) :=
  .of_wp fun prog w A R s h => by
    obtain ⟨hp, g, d, tk, os⟩ := s; obtain ⟨hl, hb, he, hlt, h⟩ := h
    have f2 := AutoSeq1.sub_tuple_tuple
    have hZ : (items.toList.zip items2.toList).length = min items.size items2.size := by simp
    wp_walk using wpAny_loadPart' hl, wpAny_loadPart' hb, wpAny_forIn_list _ (fun rest b s' => b.1 = none ∧ s' = ⟨hp, g, d, tk, os⟩ ∧ ∃ i k, rest = (items.toList.zip items2.toList).drop i ∧ i + k = min items.size items2.size ∧ (∀ j, j < i → e j = true) ∧
      R (.ok (.ret (.bool (lexN e lt (decide (items.size < items2.size)) i k)))) ⟨hp, g, d, tk, os⟩) _
    case turn =>
      rintro ⟨y, x⟩ rest b s' ⟨hb', rfl, i, k, hr, hk, hall, hR⟩
      have hi : i < (items.toList.zip items2.toList).length := by
        rcases Nat.lt_or_ge i (items.toList.zip items2.toList).length with q | q
        · exact q
        · rw [List.drop_eq_nil_of_le q] at hr; cases hr
      have hi2 : i < min items.size items2.size := hZ ▸ hi
      rw [List.drop_eq_getElem_cons hi] at hr
      injection hr with h1 h2
      have hyx : y = items[i]'(by omega) ∧ x = items2[i]'(by omega) := by
        have : (items.toList.zip items2.toList)[i] = (items[i]'(by omega), items2[i]'(by omega)) := by simp
        rw [this] at h1
        injection h1 with a1 a2
        exact ⟨a1, a2⟩
      obtain ⟨rfl, rfl⟩ := hyx
      obtain ⟨k, rfl⟩ : ∃ k', k = k' + 1 := ⟨k - 1, by omega⟩
      simp only [lexN] at hR
      refine wpAny_bind (he i (by omega) (by omega) prog w _ _ ?_)
      cases q : e i with
      | true =>
        rw [q, if_pos rfl] at hR
        wp_walk
        exact ⟨rfl, rfl, i + 1, k, h2, by omega, fun j hj => by
          by_cases hji : j = i
          · rw [hji]; exact q
          · exact hall j (by omega), hR⟩
      | false =>
        rw [q, if_neg (by decide)] at hR
        have hri := hlt i (by omega) (by omega) hall q prog w
        wp_walk using hri
        exact ⟨_, rfl, by simpa using hR⟩
    case fin =>
      rintro ⟨b1, b2⟩ s' ⟨hb', rfl, i, k, hr, hk, hall, hR⟩
      simp only at hb'
      subst hb'
      have hi : (items.toList.zip items2.toList).length ≤ i := List.drop_eq_nil_iff.mp hr.symm
      obtain rfl : k = 0 := by omega
      wp_walk
      exact ⟨_, rfl, by simpa [Builtin.Tuple.tupleCompareSizes, lexN] using hR⟩
    case h =>
      exact ⟨rfl, rfl, 0, _, rfl, by omega, fun j hj => absurd hj (Nat.not_lt_zero _), h⟩
theorem lt_loopAt (l b : Addr) (items items2 : Array Value) (n n2 : Nat) (dd dd2 : Option Addr) (sl sl2 : Array (Option Value)) (e lt : Nat → Bool) (k : Nat) :
    ∀ i : Nat, i + k = min items.size items2.size → (∀ j, j < i → e j = true) → Meets (Builtin.«list.__eq__.loop» ⟨[.ref l, .ref b, rawInt i, rawInt 0], []⟩)
      (fun A R s => s.heap.get? l = some { cls := .type "list", dict := dd, data := .seq items n, slots := sl } ∧ s.heap.get? b = some { cls := .type "list", dict := dd2, data := .seq items2 n2, slots := sl2 } ∧
        (∀ j (h1 : j < items.size) (h2 : j < items2.size), EqAt A.in1 s items[j] items2[j] (e j)) ∧ (∀ j (h1 : j < items.size) (h2 : j < items2.size), (∀ i, i < j → e i = true) → e j = false → LtAt A.in1 s items[j] items2[j] (lt j)) ∧
        R (.ok (.ret (.bool (lexN e lt (decide (items.size < items2.size)) i k)))) s) := by
  induction k with
  | zero =>
    intro i hk hall prog w A R s h
    obtain ⟨hp, g, d, tk, os⟩ := s; obtain ⟨hl, hb, he, hlt, h⟩ := h
    wp_walk using wpAny_loadPart' hl, wpAny_loadPart' hb
    by_cases q : i < items.size
    · have z1 : items[((i : Nat) : Int).toNat]? = some (items[i]) := by simp [q]
      have z2 : items2[((i : Nat) : Int).toNat]? = none := by simp; omega
      rw [z1, z2]
      wp_walk using wpAny_loadPart' hl, wpAny_loadPart' hb
      exact h
    · have z1 : items[((i : Nat) : Int).toNat]? = none := by simp; omega
      rw [z1]
      wp_walk using wpAny_loadPart' hl, wpAny_loadPart' hb
      exact h
  | succ k ih =>
    intro i hk hall prog w A R s h
    obtain ⟨hp, g, d, tk, os⟩ := s; obtain ⟨hl, hb, he, hlt, h⟩ := h
    wp_walk using wpAny_loadPart' hl, wpAny_loadPart' hb
    have b1 : i < items.size := by omega
    have b2 : i < items2.size := by omega
    have z1 : items[((i : Nat) : Int).toNat]? = some items[i] := by simp [b1]
    have z2 : items2[((i : Nat) : Int).toNat]? = some items2[i] := by simp [b2]
    have hc : ((i : Int) + 1) = ((i + 1 : Nat) : Int) := by push_cast; rfl
    simp only [lexN] at h
    rw [z1, z2]
    refine wpAny_bind (he i b1 b2 prog w _ _ ?_)
    cases q : e i with
    | true =>
      rw [q, if_pos rfl] at h
      wp_walk
      rw [hc]
      exact ⟨plainId_quiet plain_eq_loop _, codeAny_builtin entry_eq_loop (by
        rw [Around.under_plainId plain_eq_loop _]
        exact ih (i + 1) (by omega) (fun j hj => by
          by_cases hji : j = i
          · rw [hji]; exact q
          · exact hall j (by omega)) prog w A R _ ⟨hl, hb, he, hlt, h⟩)⟩
    | false =>
      rw [q, if_neg (by decide)] at h
      have hri := hlt i b1 b2 hall q prog w
      wp_walk using wpAny_loadPart' hl, wpAny_loadPart' hb
      rw [z1, z2]
      wp_walk using hri
      exact h
theorem list_ltAt (l b : Addr) (items items2 : Array Value) (n n2 : Nat) (dd dd2 : Option Addr) (sl sl2 : Array (Option Value)) (e lt : Nat → Bool) :
    Meets (Builtin.«list.__lt__» ⟨[.ref l, .ref b], []⟩)
      (fun A R s => s.heap.get? l = some { cls := .type "list", dict := dd, data := .seq items n, slots := sl } ∧ s.heap.get? b = some { cls := .type "list", dict := dd2, data := .seq items2 n2, slots := sl2 } ∧
        (∀ j (h1 : j < items.size) (h2 : j < items2.size), EqAt A.in1 s items[j] items2[j] (e j)) ∧ (∀ j (h1 : j < items.size) (h2 : j < items2.size), (∀ i, i < j → e i = true) → e j = false → LtAt A.in1 s items[j] items2[j] (lt j)) ∧
        R (.ok (.ret (.bool (lexN e lt (decide (items.size < items2.size)) 0 (min items.size items2.size))))) s) := by
  intro prog w A R s h
  obtain ⟨hp, g, d, tk, os⟩ := s; obtain ⟨hl, hb, he, hlt, h⟩ := h
  have f3 := AutoSeq1.sub_list_list
  wp_walk using wpAny_loadPart' hl, wpAny_loadPart' hb
  exact ⟨plainId_quiet plain_eq_loop _, codeAny_builtin entry_eq_loop (by
    rw [Around.under_plainId plain_eq_loop _]
    exact lt_loopAt l b items items2 n n2 dd dd2 sl sl2 e lt _ 0 (by omega) (fun j hj => absurd hj (Nat.not_lt_zero _)) prog w A R _ ⟨hl, hb, he, hlt, h⟩)⟩
end
section
open PySem.SeqAt
variable {A : Around} {s : Shared} {l b : Addr} {items items2 : Array Value} {e lt : Nat → Bool}
theorem LtAt.tuples (hl : s.heap.IsTuple l items) (hb : s.heap.IsTuple b items2) (hu : A.units < cLine) (he : ∀ j (h1 : j < items.size) (h2 : j < items2.size), EqAt A.in1 s items[j] items2[j] (e j))
    (hlt : ∀ j (h1 : j < items.size) (h2 : j < items2.size), (∀ i, i < j → e i = true) → e j = false → LtAt A.in1 s items[j] items2[j] (lt j)) : LtAt A s (.ref l) (.ref b) (lexN e lt (decide (items.size < items2.size)) 0 (min items.size items2.size)) := fun prog w E Q h => by
  obtain ⟨⟨cls, dd, data, sl⟩, ho, hc, n, hd⟩ := id hl
  obtain ⟨⟨cls2, dd2, data2, sl2⟩, ho2, hc2, n2, hd2⟩ := id hb
  simp only at hc hd hc2 hd2
  subst hc hd hc2 hd2
  refine richCompare_meets_room (op := .Lt) ⟨_, ho, rfl⟩ ⟨_, ho2, rfl⟩ PySem.F.slot_tuple_lt PySem.F.entry_tuple_lt (PySem.F.args_tuple_lt_2 _ _) (tuple_ltAt l b items items2 n n2 dd dd2 sl sl2 e lt) ⟨ho, ho2, he, hlt, ?_⟩ hu
  exact ⟨(fun x => nomatch x), h⟩
theorem LtAt.lists (hl : s.heap.IsList l items) (hb : s.heap.IsList b items2) (hu : A.units < cLine) (he : ∀ j (h1 : j < items.size) (h2 : j < items2.size), EqAt A.in1 s items[j] items2[j] (e j))
    (hlt : ∀ j (h1 : j < items.size) (h2 : j < items2.size), (∀ i, i < j → e i = true) → e j = false → LtAt A.in1 s items[j] items2[j] (lt j)) : LtAt A s (.ref l) (.ref b) (lexN e lt (decide (items.size < items2.size)) 0 (min items.size items2.size)) := fun prog w E Q h => by
  obtain ⟨⟨cls, dd, data, sl⟩, ho, hc, n, hd⟩ := id hl
  obtain ⟨⟨cls2, dd2, data2, sl2⟩, ho2, hc2, n2, hd2⟩ := id hb
  simp only at hc hd hc2 hd2
  subst hc hd hc2 hd2
  refine richCompare_meets_room (op := .Lt) ⟨_, ho, rfl⟩ ⟨_, ho2, rfl⟩ PySem.F.slot_list_lt PySem.F.entry_list_lt (PySem.F.args_list_lt_2 _ _) (list_ltAt l b items items2 n n2 dd dd2 sl sl2 e lt) ⟨ho, ho2, he, hlt, ?_⟩ hu
  exact ⟨(fun x => nomatch x), h⟩
end
/-! data -/
mutual
def ltv : PyData → PyData → Bool
  | .int i, .int j => decide (i < j)
  | .str x, .str y => decide (x.cps.toList < y.cps.toList)
  | .tuple xs, .tuple ys => ltvA xs ys
  | .list xs, .list ys => ltvA xs ys
  | _, _ => false
def ltvA : List PyData → List PyData → Bool
  | [], [] => false
  | [], _ :: _ => true
  | _ :: _, [] => false
  | x :: xs, y :: ys => if PyData.eqv x y = true then ltvA xs ys else ltv x y
end
mutual
/-- what can be held against each other by < -/
def okLt : PyData → PyData → Bool
  | .int _, .int _ => true
  | .str _, .str _ => true
  | .tuple xs, .tuple ys => okLtA xs ys
  | .list xs, .list ys => okLtA xs ys
  | _, _ => false
def okLtA : List PyData → List PyData → Bool
  | [], _ => true
  | _ :: _, [] => true
  | x :: xs, y :: ys => if PyData.eqv x y = true then okLtA xs ys else okLt x y
end
def pairLt (xs ys : List PyData) (j : Nat) : Bool := match xs[j]?, ys[j]? with
  | some x, some y => ltv x y
  | _, _ => false
def pairQ (xs ys : List PyData) (j : Nat) : Bool := match xs[j]?, ys[j]? with
  | some x, some y => PyData.eqv x y
  | _, _ => false
theorem lexN_shift (e l e' l' : Nat → Bool) (d : Bool) (c : Nat) (he : ∀ j, e (j + c) = e' j) (hl : ∀ j, l (j + c) = l' j) : ∀ k i, lexN e l d (i + c) k = lexN e' l' d i k
  | 0, i => rfl
  | k + 1, i => by
    simp only [lexN, he, hl]
    rw [show i + c + 1 = (i + 1) + c from by omega, lexN_shift e l e' l' d c he hl k (i + 1)]
theorem lex_data : ∀ (xs ys : List PyData), lexN (pairQ xs ys) (pairLt xs ys) (decide (xs.length < ys.length)) 0 (min xs.length ys.length) = ltvA xs ys
  | [], [] => by simp [lexN, ltvA]
  | [], y :: ys => by simp [lexN, ltvA]
  | x :: xs, [] => by simp [lexN, ltvA]
  | x :: xs, y :: ys => by
    have ih := lex_data xs ys
    simp only [List.length_cons, Nat.add_min_add_right, lexN, ltvA]
    have e0 : pairQ (x :: xs) (y :: ys) 0 = PyData.eqv x y := rfl
    have l0 : pairLt (x :: xs) (y :: ys) 0 = ltv x y := rfl
    rw [e0, l0]
    split
    · rw [← ih]
      have := lexN_shift (pairQ (x :: xs) (y :: ys)) (pairLt (x :: xs) (y :: ys)) (pairQ xs ys) (pairLt xs ys) (decide (xs.length < ys.length)) 1 (fun j => by simp [pairQ]) (fun j => by simp [pairLt]) (min xs.length ys.length) 0
      rw [← this]
      have e : decide (xs.length + 1 < ys.length + 1) = decide (xs.length < ys.length) := by simp
      rw [e]
    · rfl
theorem readsAll_at {h : Heap} : ∀ {vs : List Value} {xs : List PyData} {as : List Addr}, ReadsAll h vs xs as → ∀ (j : Nat) (h1 : j < vs.length), ∃ x bs, xs[j]? = some x ∧ Reads h vs[j] x bs
  | _, _, _, .nil, j, h1 => absurd h1 (Nat.not_lt_zero _)
  | _, _, _, .cons r rs, 0, _ => ⟨_, _, rfl, r⟩
  | _, _, _, .cons r rs, j + 1, h1 => readsAll_at rs j (Nat.lt_of_succ_lt_succ h1)
theorem readsAll_len {h : Heap} : ∀ {vs : List Value} {xs : List PyData} {as : List Addr}, ReadsAll h vs xs as → vs.length = xs.length
  | _, _, _, .nil => rfl
  | _, _, _, .cons _ rs => by rw [List.length_cons, List.length_cons, readsAll_len rs]
theorem canAll_at : ∀ {xs : List PyData} {j : Nat} {x : PyData}, PyData.canLayAll0 xs = true → xs[j]? = some x → x.canLay0 = true
  | y :: ys, 0, x, h, e => by
    simp only [PyData.canLayAll0, Bool.and_eq_true] at h
    simp at e; subst e; exact h.1
  | y :: ys, j + 1, x, h, e => by
    simp only [PyData.canLayAll0, Bool.and_eq_true] at h
    exact canAll_at h.2 (by simpa using e)
theorem depthAll_at : ∀ {xs : List PyData} {j : Nat} {x : PyData}, xs[j]? = some x → x.depth ≤ PyData.depthAll xs
  | y :: ys, 0, x, e => by simp at e; subst e; simp only [PyData.depthAll]; omega
  | y :: ys, j + 1, x, e => by
    have := depthAll_at (xs := ys) (j := j) (x := x) (by simpa using e)
    simp only [PyData.depthAll]; omega
theorem okLtA_at : ∀ {xs ys : List PyData} {j : Nat} {x y : PyData}, okLtA xs ys = true → xs[j]? = some x → ys[j]? = some y → (∀ i, i < j → pairQ xs ys i = true) → PyData.eqv x y = false → okLt x y = true
  | a :: xs, b :: ys, 0, x, y, h, e1, e2, _, q => by
    simp at e1 e2; subst e1 e2
    simp only [okLtA] at h
    rw [q, if_neg (by decide)] at h
    exact h
  | a :: xs, b :: ys, j + 1, x, y, h, e1, e2, hp, q => by
    simp only [okLtA] at h
    have : PyData.eqv a b = true := hp 0 (by omega)
    rw [this, if_pos rfl] at h
    exact okLtA_at h (by simpa using e1) (by simpa using e2) (fun i hi => by have := hp (i + 1) (by omega); simpa [pairQ] using this) q
/-- size of data, for the induction -/
theorem ltAt_reads : ∀ (m : Nat) (da db : PyData) (A : Around) (s : Shared) (a b : Value) (as bs : List Addr), da.depth ≤ m → Reads s.heap a da as → Reads s.heap b db bs → da.canLay0 = true → db.canLay0 = true → okLt da db = true →
    A.units + max da.depth db.depth < cLine → LtAt A s a b (ltv da db) := by
  intro m
  induction m with
  | zero =>
    intro da db A s a b as bs hm ra rb ca cb ok hu
    cases ra with
    | int x t =>
      cases rb with
      | int y u => intro prog w E Q h; exact (PyProof.Rows.lt_int (by simpa [ltv] using h) : wpAny (model prog w) A (compareOp .Lt (.int x t) (.int y u)) Q E s)
      | _ => simp [okLt] at ok
    | str x t =>
      cases rb with
      | str y u => intro prog w E Q h; exact (PyProof.Rows.lt_str (by simpa [ltv] using h) : wpAny (model prog w) A (compareOp .Lt (.str x t) (.str y u)) Q E s)
      | _ => simp [okLt] at ok
    | list _ _ _ _ => simp [PyData.depth] at hm
    | tuple _ _ _ _ => simp [PyData.depth] at hm
    | none => simp [okLt] at ok
    | bool _ => simp [okLt] at ok
    | dict => cases ca
  | succ m ih =>
    intro da db A s a b as bs hm ra rb ca cb ok hu
    have seq : ∀ (vs ws : Array Value) (xs ys : List PyData) (as bs : List Addr), ReadsAll s.heap vs.toList xs as → ReadsAll s.heap ws.toList ys bs → PyData.canLayAll0 xs = true → PyData.canLayAll0 ys = true → okLtA xs ys = true → PyData.depthAll xs ≤ m → A.units + (max (PyData.depthAll xs) (PyData.depthAll ys) + 1) < cLine →
        (∀ j (h1 : j < vs.size) (h2 : j < ws.size), SeqAt.EqAt A.in1 s vs[j] ws[j] (pairQ xs ys j)) ∧ (∀ j (h1 : j < vs.size) (h2 : j < ws.size), (∀ i, i < j → pairQ xs ys i = true) → pairQ xs ys j = false → LtAt A.in1 s vs[j] ws[j] (pairLt xs ys j)) ∧ vs.size = xs.length ∧ ws.size = ys.length := by
      intro vs ws xs ys as bs r1 r2 c1 c2 ok hd hu
      have l1 := readsAll_len r1
      have l2 := readsAll_len r2
      refine ⟨fun j h1 h2 => ?_, fun j h1 h2 hp q => ?_, by simpa using l1, by simpa using l2⟩
      · obtain ⟨x, as1, ex, rx⟩ := readsAll_at r1 j (by simpa using h1)
        obtain ⟨y, bs1, ey, ry⟩ := readsAll_at r2 j (by simpa using h2)
        have d1 := depthAll_at ex
        have := SeqAt.eqAt_reads x y A.in1 s _ _ _ _ rx ry (canAll_at c1 ex) (canAll_at c2 ey) (by rw [show A.in1.units = A.units + 1 from rfl]; omega)
        have e : pairQ xs ys j = PyData.eqv x y := by simp [pairQ, ex, ey]
        rw [e]
        simpa using this
      · obtain ⟨x, as1, ex, rx⟩ := readsAll_at r1 j (by simpa using h1)
        obtain ⟨y, bs1, ey, ry⟩ := readsAll_at r2 j (by simpa using h2)
        have e : pairQ xs ys j = PyData.eqv x y := by simp [pairQ, ex, ey]
        have e2 : pairLt xs ys j = ltv x y := by simp [pairLt, ex, ey]
        rw [e] at q
        rw [e2]
        have d1 := depthAll_at ex
        have d2 := depthAll_at ey
        have := ih x y A.in1 s _ _ _ _ (by omega) rx ry (canAll_at c1 ex) (canAll_at c2 ey) (okLtA_at ok ex ey hp q) (by rw [show A.in1.units = A.units + 1 from rfl]; omega)
        simpa using this
    cases ra with
    | int x t =>
      cases rb with
      | int y u => intro prog w E Q h; exact (PyProof.Rows.lt_int (by simpa [ltv] using h) : wpAny (model prog w) A (compareOp .Lt (.int x t) (.int y u)) Q E s)
      | _ => simp [okLt] at ok
    | str x t =>
      cases rb with
      | str y u => intro prog w E Q h; exact (PyProof.Rows.lt_str (by simpa [ltv] using h) : wpAny (model prog w) A (compareOp .Lt (.str x t) (.str y u)) Q E s)
      | _ => simp [okLt] at ok
    | list k1 k2 k3 k4 =>
      cases rb with
      | list j1 j2 j3 j4 =>
        simp only [PyData.depth] at hm hu
        simp only [PyData.canLay0] at ca cb
        simp only [okLt] at ok
        obtain ⟨h1, h2, h3, h4⟩ := seq _ _ _ _ _ _ k4 j4 ca cb ok (by omega) (by omega)
        have := LtAt.lists ⟨_, k1, k2, _, k3⟩ ⟨_, j1, j2, _, j3⟩ (by omega) h1 h2
        rw [h3, h4, lex_data] at this
        simpa [ltv] using this
      | _ => simp [okLt] at ok
    | tuple k1 k2 k3 k4 =>
      cases rb with
      | tuple j1 j2 j3 j4 =>
        simp only [PyData.depth] at hm hu
        simp only [PyData.canLay0] at ca cb
        simp only [okLt] at ok
        obtain ⟨h1, h2, h3, h4⟩ := seq _ _ _ _ _ _ k4 j4 ca cb ok (by omega) (by omega)
        have := LtAt.tuples ⟨_, k1, k2, _, k3⟩ ⟨_, j1, j2, _, j3⟩ (by omega) h1 h2
        rw [h3, h4, lex_data] at this
        simpa [ltv] using this
      | _ => simp [okLt] at ok
    | none => simp [okLt] at ok
    | bool _ => simp [okLt] at ok
    | dict => cases ca
/-! over the layer, over values -/
def rLtD (K : PySem.W.Frag) : R2 := fun x y H Q => ∃ d e, Rep K H d x ∧ Rep K H e y ∧ d.canLay0 = true ∧ e.canLay0 = true ∧ okLt d e = true ∧ d.depth ≤ 190 ∧ e.depth ≤ 190 ∧ Q (.bl (ltv d e)) H
def uLtD (K : PySem.W.Frag) : R2 := fun x y H Q => match x, y with
  | .ref a, y => rLtD K (.ref a) y H Q
  | x, y => uLt x y H Q
section
variable {X : Cx}
end
def xLtD : AR2 := fun u w A Q => match u, w with
  | .int i, .int j => Q (.bl (decide (i < j))) A
  | .str i, .str j => Q (.bl (decide (i.cps.toList < j.cps.toList))) A
  | .tup us, .tup ws => ∃ d e, DU A (.tup us) d ∧ DU A (.tup ws) e ∧ d.canLay0 = true ∧ e.canLay0 = true ∧ okLt d e = true ∧ d.depth ≤ 190 ∧ e.depth ≤ 190 ∧ Q (.bl (ltv d e)) A
  | .ref a, .ref b => ∃ d e, DU A (.ref a) d ∧ DU A (.ref b) e ∧ d.canLay0 = true ∧ e.canLay0 = true ∧ okLt d e = true ∧ d.depth ≤ 190 ∧ e.depth ≤ 190 ∧ Q (.bl (ltv d e)) A
  | _, _ => False
section
variable {A : AHp} {Q : AVK} {i j : Int} {x y : Str} {us ws : List U} {p q : Addr}
end
end L2

set_option Elab.async false
set_option linter.all false
set_option maxRecDepth 100000
set_option maxHeartbeats 4000000
/-! dicts whose keys are tuples of tuples -/
namespace N2
open PySem PyProof.Rows
section
variable {prog : Program} {w : World} {K : Type} [DecidableEq K] (kk : KeyKind prog w K)
/-- the items are tuples of keys -/
inductive Its (h : Heap) : List (List K) → List Value → Prop
  | nil : Its h [] []
  | cons {k : List K} {a : Addr} {ks : List (List K)} {vs : List Value} (one : IsTupleKey kk h k a) (more : Its h ks vs) : Its h (k :: ks) (.ref a :: vs)
def IsT2 (h : Heap) (ks : List (List K)) (a : Addr) : Prop := ∃ ob its n, (h.get? a = some ob ∧ ob.cls = .type "tuple") ∧ ob.data = .seq its n ∧ Its kk h ks its.toList
variable {kk}
theorem Its.inj {h : Heap} {x y : List (List K)} {vs : List Value} (p : Its kk h x vs) (q : Its kk h y vs) : x = y := by
  induction p generalizing y with
  | nil => cases q; rfl
  | cons one _ ih =>
    cases q with
    | cons two more => rw [one.inj two, ih more]
theorem IsT2.ty {s : Shared} {ks : List (List K)} {a : Addr} (x : IsT2 kk s.heap ks a) : s.TypeIs (.ref a) "tuple" := by
  obtain ⟨ob, _, _, ⟨e, c⟩, _⟩ := x
  exact ⟨ob, e, c⟩
theorem IsT2.one {h : Heap} {a : Addr} {x y : List (List K)} (p : IsT2 kk h x a) (q : IsT2 kk h y a) : x = y := by
  obtain ⟨ob, its, n, ⟨e, _⟩, d, i⟩ := p
  obtain ⟨ob', its', n', ⟨e', _⟩, d', i'⟩ := q
  rw [e] at e'
  cases e'
  rw [d] at d'
  cases d'
  exact i.inj i'
theorem IsT2.stay {h h' : Heap} {ks : List (List K)} {a d : Addr} {o : Obj} {es ep} (x : IsT2 kk h ks a) (ho : h.get? d = some o) (hd : o.data = .dict es ep) (hs : Heap.SameBut d h h') : IsT2 kk h' ks a := by
  obtain ⟨ob, its, n, ⟨e, c⟩, q, i⟩ := x
  have ne : a ≠ d := by
    intro z
    rw [z, ho] at e
    cases e
    rw [hd] at q
    cases q
  refine ⟨ob, its, n, ⟨(hs.2 a ne).trans e, c⟩, q, ?_⟩
  generalize its.toList = l at i
  induction i with
  | nil => exact .nil
  | cons one _ ih => exact .cons (one.keeps ho hd hs) ih
def drawsT (k : List K) : Nat := k.length + 1
def drawsAll : List (List K) → Nat
  | [] => 0
  | k :: ks => drawsT k + drawsAll ks
theorem drawsAll_snoc (xs : List (List K)) (k : List K) : drawsAll (xs ++ [k]) = drawsAll xs + drawsT k := by
  induction xs with
  | nil => simp [drawsAll]
  | cons x xs ih => simp only [List.cons_append, drawsAll, ih]; omega
def hash2 (kk : KeyKind prog w K) (ks : List (List K)) : Int := reduceHash (Builtin.Tuple.tupleHashOf (ks.map (tupleKeyHash kk)))
variable {A : Around} {E : Value → Shared → Prop} {s : Shared}
theorem hashed {ks : List (List K)} {a : Addr} {Q : Int → Shared → Prop} (hu : A.units + 1 < cLine) (hk : IsT2 kk s.heap ks a) (h : Q (hash2 kk ks) { s with toks := s.toks + (drawsAll ks + 1) }) :
    wpAny (model prog w) A (pyHash (.ref a)) Q E s := by
  have ty := hk.ty
  obtain ⟨ob, its, n, ⟨e, _⟩, dd, hi⟩ := hk
  unfold pyHash
  first | unfold pyHashByItsType | skip
  first | refine wpAny_bind (wpAny_cRoomFor_or (.inr (show A.units < cLine by omega)) ?_) | skip
  refine wpAny_bind (wpAny_specialOf ty F.slot_tuple_hash.lookup ?_)
  show wpAny _ _ (if (some (Value.builtin "tuple.__hash__") == some Value.none) = true then _ else _) Q E s
  rw [if_neg (show ¬ _ from by rw [beq_builtin_none]; exact Bool.false_ne_true)]
  refine wpAny_bind (wpAny_specialOf ty F.slot_tuple_hash.lookup ?_)
  show wpAny _ _ (callSpecialIfBoundUnlessNone? (.ref a) "__hash__" _ >>= _) Q E s
  refine wpAny_bind (wpAny_callSpecialIfBoundUnlessNone?_slot ty F.slot_tuple_hash (wpAny_call_entry F.slot_tuple_hash ty F.entry_tuple_hash ?_ (F.args_tuple_hash_1 _)))
  show wpAny _ _ (Builtin.Tuple.tupleItemsOf (.ref a) >>= _) _ _ s
  refine wpAny_bind (wpAny_tupleItemsOf e dd ?_)
  refine wpAny_bind ?_
  rw [← Array.forIn_toList]
  refine wpAny_forIn_list _
    (fun rest (b : Array Int) s' => ∃ past to, ks = past ++ to ∧ Its kk s.heap to rest ∧ b.toList = past.map (tupleKeyHash kk) ∧ s' = { s with toks := s.toks + drawsAll past })
    _ ?_ ?_ _ _ ⟨[], ks, rfl, hi, rfl, rfl⟩
  · intro x rest b s' hx
    obtain ⟨past, to, e1, hl, hb, e2⟩ := hx
    subst e1 e2
    cases hl with
    | @cons k b' ks' _ one hl' =>
      refine wpAny_bind (wpAny_pyHash_tuple (show A.in1.units < cLine from hu) one ?_)
      have fin : ∃ p t, past ++ k :: ks' = p ++ t ∧ Its kk s.heap t rest ∧ (b.push (tupleKeyHash kk k)).toList = p.map (tupleKeyHash kk) ∧ ({ s with toks := s.toks + drawsAll past + (k.length + 1) } : Shared) = { s with toks := s.toks + drawsAll p } :=
        ⟨past ++ [k], ks', by simp, hl', by simp [hb], by rw [drawsAll_snoc]; unfold drawsT; simp only [Nat.add_assoc]⟩
      first
        | exact wpAny_pure fin
        | exact wpAny_bind (wpAny_pure (wpAny_pure fin))
  · intro b s' hx
    obtain ⟨past, to, e1, hl, hb, e2⟩ := hx
    subst e1 e2
    cases hl
    rw [List.append_nil] at h
    show wpAny _ _ (retInt (Builtin.Tuple.tupleHashOf b.toList)) _ _ _
    rw [hb]
    refine wpAny_ret_mkInt ?_
    unfold hash2 reduceHash at h
    generalize Builtin.Tuple.tupleHashOf (past.map (tupleKeyHash kk)) = z at h
    show wpAny _ _ (if (decide (-(2 : Int) ^ 63 ≤ z) && decide (z < 2 ^ 63)) = true then _ else _) Q E _
    by_cases c : (decide (-(2 : Int) ^ 63 ≤ z) && decide (z < 2 ^ 63)) = true
    · rw [if_pos c]; rw [if_pos c] at h
      exact wpAny_pure (by simpa [Nat.add_assoc] using h)
    · rw [if_neg c]; rw [if_neg c] at h
      exact wpAny_bind (wpAny_rule (wpAny_pure (by simpa [Nat.add_assoc] using h)))
theorem alike {x y : List (List K)} {a b : Addr} {P : Fin → Shared → Prop} (hu : A.units < cLine) (hx : IsT2 kk s.heap x a) (hy : IsT2 kk s.heap y b) (h : P (.done (.ret (.bool (decide (x = y))))) s) :
    wpAny (model prog w) A (Builtin.«tuple.__eq__» ⟨[.ref a, .ref b], []⟩) P E s := by
  have tb := hy.ty
  obtain ⟨oa, xs, na, ⟨ea, _⟩, da, ia⟩ := hx
  obtain ⟨ob, ys, nb, ⟨eb, _⟩, db, ib⟩ := hy
  show wpAny _ _ (isInstance (.ref b) (.type "tuple") >>= _) _ _ s
  refine wpAny_bind (wpAny_isInstance tb isSubtype_tuple_tuple ?_)
  simp only [Bool.not_true, Bool.false_eq_true, if_false]
  refine wpAny_bind (wpAny_tupleItemsOf ea da ?_)
  refine wpAny_bind (wpAny_tupleItemsOf eb db ?_)
  refine wpAny_bind ?_
  refine wpAny_forIn_list _
    (fun rest r s' => r.1 = none ∧ s' = s ∧ ∃ x1 y1 xs1 ys1, rest = List.zip xs1 ys1 ∧ Its kk s.heap x1 xs1 ∧ Its kk s.heap y1 ys1 ∧ decide (x1 = y1) = decide (x = y) ∧ (xs1.length == ys1.length) = (xs.size == ys.size))
    _ ?_ ?_ _ _ ⟨rfl, rfl, x, y, xs.toList, ys.toList, rfl, ia, ib, rfl, by simp⟩
  · intro uv rest r s' hh
    obtain ⟨u, v⟩ := uv
    obtain ⟨hr, e0, x1, y1, xs1, ys1, hz, p, q, hdec, hlen⟩ := hh
    subst e0
    cases p with
    | nil => simp at hz
    | @cons k1 a1 x2 xs2 one p2 =>
      cases q with
      | nil => simp at hz
      | @cons k2 a2 y2 ys2 two q2 =>
        simp only [List.zip_cons_cons, List.cons.injEq, Prod.mk.injEq] at hz
        obtain ⟨⟨z1, z2⟩, z3⟩ := hz
        subst z1 z2 z3
        refine wpAny_bind (wpAny_eqBool_tuple hu one two ?_)
        by_cases c : k1 = k2
        · subst c
          rw [decide_eq_true rfl]
          simp only [Bool.not_true, Bool.false_eq_true, if_false]
          refine wpAny_pure ⟨rfl, rfl, x2, y2, xs2, ys2, rfl, p2, q2, ?_, by simpa using hlen⟩
          rw [← hdec]
          by_cases d : x2 = y2
          · simp [d]
          · simp [d]
        · rw [decide_eq_false c]
          simp only [Bool.not_false, if_true]
          have no : decide (x = y) = false := by rw [← hdec]; simp [c]
          rw [no] at h
          exact wpAny_bind (wpAny_pure (wpAny_pure (wpAny_pure h)))
  · intro rr s' hh
    obtain ⟨r1, r2⟩ := rr
    obtain ⟨hr, e0, x1, y1, xs1, ys1, hz, p, q, hdec, hlen⟩ := hh
    subst e0
    simp only at hr
    subst hr
    refine wpAny_pure ?_
    have fin : (xs.size == ys.size) = decide (x = y) := by
      rw [← hdec, ← hlen]
      cases p with
      | nil =>
        cases q with
        | nil => simp
        | cons _ _ => simp
      | cons _ _ =>
        cases q with
        | nil => simp
        | cons _ _ => simp at hz
    show P (.done (.ret (.bool (xs.size == ys.size)))) s'
    rw [fin]; exact h
theorem alikeB {x y : List (List K)} {a b : Addr} {Q : Bool → Shared → Prop} (hu : A.units + 1 < cLine) (hx : IsT2 kk s.heap x a) (hy : IsT2 kk s.heap y b) (h : Q (decide (x = y)) s) :
    wpAny (model prog w) A (eqBool (.ref a) (.ref b)) Q E s := by
  unfold eqBool
  try with_reducible refine wpAny_holding ?_
  show wpAny _ _ (if (Value.ref a == Value.ref b) = true then _ else _) Q E s
  by_cases c : (Value.ref a == Value.ref b) = true
  · rw [if_pos c]
    have z : a = b := by have := eq_of_beq c; injection this
    subst z
    obtain rfl := hx.one hy
    exact wpAny_bind (wpAny_rule (wpAny_pure (by simpa using h)))
  · rw [if_neg c]
    exact wpAny_bind (wpAny_richCompare_same_room (op := .Eq) hx.ty hy.ty F.slot_tuple_eq
      (wpAny_call_entry F.slot_tuple_eq hx.ty F.entry_tuple_eq (alike (show A.in1.units < cLine from hu) hx hy ⟨_, rfl, (fun z => nomatch z), wpAny_truthy_bool h⟩) (F.args_tuple_eq_2 _ _)) (by omega))
/-- a flat tuple is quiet, at any depth -/
theorem still (n : Nat) {ks : List K} {a : Addr} {Q : Bool → Shared → Prop} (hk : IsTupleKey kk s.heap ks a) (h : Q true s) : wpAny (model prog w) A (eqIsQuiet (n + 1) (.ref a)) Q E s := by
  have ty := hk.typeIs
  obtain ⟨ob, its, m, e, _, dd, hi⟩ := hk
  unfold eqIsQuiet
  refine wpAny_bind (wpAny_specialOf ty F.slot_tuple_eq.lookup ?_)
  show wpAny _ _ (isInstance (.ref a) (.type "tuple") >>= _) _ _ s
  refine wpAny_bind (wpAny_isInstance ty isSubtype_tuple_tuple ?_)
  simp only [Bool.not_true, Bool.false_eq_true, if_false]
  refine wpAny_bind (wpAny_seqItems e dd ?_)
  refine wpAny_bind ?_
  show wpAny _ _ (forIn its _ _) _ _ s
  rw [← Array.forIn_toList]
  refine wpAny_forIn_list _ (fun rest r s' => r.1 = none ∧ s' = s ∧ ∀ v ∈ rest, carriedByValue v = true) _ ?_ ?_ _ _ ⟨rfl, rfl, hi.byValue⟩
  · intro v rest r s' hh
    obtain ⟨hr, e0, all⟩ := hh
    subst e0
    rw [eqIsQuiet_byValue _ (all v List.mem_cons_self)]
    refine wpAny_bind (wpAny_pure ?_)
    simp only [Bool.not_true, Bool.false_eq_true, if_false]
    exact wpAny_pure ⟨rfl, rfl, fun u z => all u (List.mem_cons_of_mem _ z)⟩
  · intro rr s' hh
    obtain ⟨r1, r2⟩ := rr
    obtain ⟨hr, e0, _⟩ := hh
    subst e0
    simp only at hr
    subst hr
    exact wpAny_pure h
theorem still2 {ks : List (List K)} {a : Addr} {Q : Bool → Shared → Prop} (hk : IsT2 kk s.heap ks a) (h : Q true s) : wpAny (model prog w) A (eqIsQuiet 8 (.ref a)) Q E s := by
  have ty := hk.ty
  obtain ⟨ob, its, m, ⟨e, _⟩, dd, hi⟩ := hk
  unfold eqIsQuiet
  refine wpAny_bind (wpAny_specialOf ty F.slot_tuple_eq.lookup ?_)
  show wpAny _ _ (isInstance (.ref a) (.type "tuple") >>= _) _ _ s
  refine wpAny_bind (wpAny_isInstance ty isSubtype_tuple_tuple ?_)
  simp only [Bool.not_true, Bool.false_eq_true, if_false]
  refine wpAny_bind (wpAny_seqItems e dd ?_)
  refine wpAny_bind ?_
  show wpAny _ _ (forIn its _ _) _ _ s
  rw [← Array.forIn_toList]
  refine wpAny_forIn_list _ (fun rest r s' => r.1 = none ∧ s' = s ∧ ∃ ks1, Its kk s.heap ks1 rest) _ ?_ ?_ _ _ ⟨rfl, rfl, ks, hi⟩
  · intro v rest r s' hh
    obtain ⟨hr, e0, ks1, all⟩ := hh
    subst e0
    cases all with
    | cons one more =>
      refine wpAny_bind (still 6 one ?_)
      simp only [Bool.not_true, Bool.false_eq_true, if_false]
      exact wpAny_pure ⟨rfl, rfl, _, more⟩
  · intro rr s' hh
    obtain ⟨r1, r2⟩ := rr
    obtain ⟨hr, e0, _⟩ := hh
    subst e0
    simp only at hr
    subst hr
    exact wpAny_pure h
end
def kind2 {prog : Program} {w : World} {K : Type} [DecidableEq K] (kk : KeyKind prog w K) : HeapKind prog w (List (List K)) where
  is := IsT2 kk
  hash := hash2 kk
  draws := fun ks => drawsAll ks + 1
  room := fun A => A.units + 1 < cLine
  inj := fun p q => p.one q
  keeps := fun x ho hd hs => x.stay ho hd hs
  pyHash := fun hu hk h => hashed hu hk h
  eqBool := fun hu p q h => alikeB hu p q h
  quiet := fun hk h => still2 hk h
end N2

set_option Elab.async false
set_option linter.all false
set_option maxRecDepth 100000
set_option maxHeartbeats 4000000
/-! min of a list whose items are compared by what the heap holds -/
namespace N2
open PySem PyProof.Rows PySem.F
section
variable {prog : Program} {w : World} {A : Around} {R : Result → Shared → Prop} {I : Addr} {fp wr : List Addr} {n : Nat} {P : Nat → Value → Prop} {St : Nat → Heap → Prop}
/-- compared in any heap of G -/
def CmpG (prog : Program) (w : World) (A : Around) (G : Heap → Prop) (P : Nat → Value → Prop) (lt : Nat → Nat → Bool) : Prop :=
  ∀ i j a b (s : Shared) (Q E : Value → Shared → Prop), G s.heap → P i a → P j b → Q (.bool (lt i j)) s → wpAny (model prog w) A (richCompare .Lt a b) Q E s
theorem min_go {G : Heap → Prop} (W : Walks prog w A.in1 I fp wr n P St) (lt : Nat → Nat → Bool) (S : Addr) (hc : CmpG prog w A.in1 G P lt) (hS0 : S ∉ fp) (gk : ∀ h h', G h → (∀ b o, b ∉ wr → b ≠ S → h.get? b = some o → h'.get? b = some o) → G h') :
    ∀ (k j : Nat) (s : Shared) (best : Value) (c : Nat), n - (j + 1) = k → j + 1 ≤ n → G s.heap → St (j + 1) s.heap → P (argBest lt j) best →
    s.heap.get? S = some { cls := .type "list", dict := none, data := .seq #[best, best] c, slots := #[] } →
    (∀ v h' tk, P (argBest lt (n - 1)) v → (∀ b o, b ∉ wr → b ≠ S → s.heap.get? b = some o → h'.get? b = some o) → R (.ok (.ret v)) { s with heap := h', toks := tk }) →
    codeAny (model prog w) A (.builtin "min.loop" ⟨[.ref I, .none, .ref S], []⟩) R s := by
  have off : S ∉ wr := fun z => hS0 (W.sub _ z)
  have nm : (toString "min" ++ toString ".loop" : String) = "min.loop" := by decide
  intro k
  induction k with
  | zero =>
    intro j s best c hk hj hg hst hb hS hR
    have last : j + 1 = n := by omega
    refine codeAny_builtin entry_min_loop ?_
    rw [Around.under_plainId plain_min_loop _]
    show wpAny _ A.in1 (seqItems? (Value.ref S) >>= _) _ _ s
    refine wpAny_bind (wpAny_seqItems hS rfl (show _ from ?_))
    show wpAny _ A.in1 (tryCatch (pyNext (Value.ref I)) _ >>= _) _ _ s
    refine wpAny_bind (wpAny_tryCatch (W.done s _ _ (last ▸ hst) fun h1 tk keep => ?_))
    have here := keep S _ off hS
    show wpAny _ A.in1 (updateSeq S (fun (_ : Array Value) => #[]) >>= _) _ _ _
    refine wpAny_bind ?_
    refine wpAny_updateSeq here rfl (wpAny_bind (wpAny_letGo (wpAny_pure ?_)))
    exact hR best _ tk (last ▸ hb) fun b o nw nS e => (Heap.get?_update_other _ _ (Ne.symm nS)).trans (keep b o nw e)
  | succ k ih =>
    intro j s best c hk hj hg hst hb hS hR
    have more : j + 1 < n := by omega
    refine codeAny_builtin entry_min_loop ?_
    rw [Around.under_plainId plain_min_loop _]
    show wpAny _ A.in1 (seqItems? (Value.ref S) >>= _) _ _ s
    refine wpAny_bind (wpAny_seqItems hS rfl (show _ from ?_))
    show wpAny _ A.in1 (tryCatch (pyNext (Value.ref I)) _ >>= _) _ _ s
    refine wpAny_bind (wpAny_tryCatch (W.item (j + 1) s _ _ more hst fun v h1 tk hv st1 keep => ?_))
    have here := keep S _ off hS
    have g1 : G h1 := gk _ _ hg fun b o nw _ e => keep b o nw e
    show wpAny _ A.in1 (tryCatch (holding [v, v] (richCompare .Lt v best >>= _)) _ >>= _) _ _ _
    refine wpAny_bind (wpAny_tryCatch (wpAny_holding (wpAny_bind (hc (j + 1) (argBest lt j) v best _ _ _ g1 hv hb ?_))))
    refine wpAny_bind (wpAny_holding (wpAny_truthy_bool (show _ from ?_)))
    refine wpAny_bind (wpAny_letGo (wpAny_pure (show _ from ?_)))
    cases e1 : lt (j + 1) (argBest lt j) with
    | true =>
      simp only [if_true]
      refine wpAny_bind ?_
      refine wpAny_updateSeq here rfl (wpAny_bind (wpAny_letGo (show _ from ?_)))
      rw [nm]
      have k2 : ∀ b o, b ∉ wr → b ≠ S → s.heap.get? b = some o → (h1.update S (Obj.mapSeq fun _ => #[v, v])).get? b = some o := fun b o nw nS e => (Heap.get?_update_other _ _ (Ne.symm nS)).trans (keep b o nw e)
      refine wpAny_pure ⟨plainId_quiet plain_min_loop _, ih (j + 1) _ v _ (by omega) more (gk _ _ hg k2) (W.frame _ _ _ st1 fun b hbf o e => ?_) (by simp only [argBest, e1, if_true]; exact hv) (Heap.get?_update_self _ here rfl) fun v2 h2 tk2 p2 kp2 => ?_⟩
      · exact (Heap.get?_update_other _ _ (fun z : S = b => hS0 (z ▸ hbf))).trans e
      · exact hR v2 h2 tk2 p2 fun b o nw nS e => kp2 b o nw nS (k2 b o nw nS e)
    | false =>
      simp only [Bool.false_eq_true, if_false]
      refine wpAny_bind (wpAny_letGo (show _ from ?_))
      rw [nm]
      refine wpAny_pure ⟨plainId_quiet plain_min_loop _, ih (j + 1) _ best c (by omega) more g1 st1 (by simp only [argBest, e1, Bool.false_eq_true, if_false]; exact hb) here fun v2 h2 tk2 p2 kp2 => ?_⟩
      exact hR v2 h2 tk2 p2 fun b o nw nS e => kp2 b o nw nS (keep b o nw e)
theorem min_from {G : Heap → Prop} (W : Walks prog w A.in1 I fp wr n P St) (lt : Nat → Nat → Bool) (S : Addr) (hc : CmpG prog w A.in1 G P lt) (hS0 : S ∉ fp) (gk : ∀ h h', G h → (∀ b o, b ∉ wr → b ≠ S → h.get? b = some o → h'.get? b = some o) → G h') (hn : 0 < n) {s : Shared} {c : Nat} (hg : G s.heap) (hst : St 0 s.heap)
    (hS : s.heap.get? S = some { cls := .type "list", dict := none, data := .seq #[] c, slots := #[] })
    (hR : ∀ v h' tk, P (argBest lt (n - 1)) v → (∀ b o, b ∉ wr → b ≠ S → s.heap.get? b = some o → h'.get? b = some o) → R (.ok (.ret v)) { s with heap := h', toks := tk }) :
    codeAny (model prog w) A (.builtin "min.loop" ⟨[.ref I, .none, .ref S], []⟩) R s := by
  have off : S ∉ wr := fun z => hS0 (W.sub _ z)
  have nm : (toString "min" ++ toString ".loop" : String) = "min.loop" := by decide
  refine codeAny_builtin entry_min_loop ?_
  rw [Around.under_plainId plain_min_loop _]
  show wpAny _ A.in1 (seqItems? (Value.ref S) >>= _) _ _ s
  refine wpAny_bind (wpAny_seqItems hS rfl (show _ from ?_))
  show wpAny _ A.in1 (tryCatch (pyNext (Value.ref I)) _ >>= _) _ _ s
  refine wpAny_bind (wpAny_tryCatch (W.item 0 s _ _ hn hst fun v h1 tk hv st1 keep => ?_))
  have here := keep S _ off hS
  show wpAny _ A.in1 (updateSeq S (fun (_ : Array Value) => #[v, v]) >>= _) _ _ _
  refine wpAny_bind ?_
  refine wpAny_updateSeq here rfl (show _ from ?_)
  rw [nm]
  have k2 : ∀ b o, b ∉ wr → b ≠ S → s.heap.get? b = some o → (h1.update S (Obj.mapSeq fun _ => #[v, v])).get? b = some o := fun b o nw nS e => (Heap.get?_update_other _ _ (Ne.symm nS)).trans (keep b o nw e)
  refine wpAny_pure ⟨plainId_quiet plain_min_loop _, min_go W lt S hc hS0 gk _ 0 _ v _ rfl hn (gk _ _ hg k2) (W.frame _ _ _ st1 fun b hbf o e => ?_) hv (Heap.get?_update_self _ here rfl) fun v2 h2 tk2 p2 kp2 => ?_⟩
  · exact (Heap.get?_update_other _ _ (fun z : S = b => hS0 (z ▸ hbf))).trans e
  · exact hR v2 h2 tk2 p2 fun b o nw nS e => kp2 b o nw nS (k2 b o nw nS e)
end
section
variable {prog : Program} {w : World} {A : Around} {E : Value → Shared → Prop} {s : Shared}
/-- min(xs): the heap that was there stays -/
theorem min_list {p : Addr} {items : Array Value} {lt : Nat → Nat → Bool} {Q : Value → Shared → Prop} (hh : A.in1.handled = none) (pl : s.heap.IsList p items) (hn : 0 < items.size)
    (hc : CmpG prog w A.in1 (fun h => ∀ b o, s.heap.get? b = some o → h.get? b = some o) (fun i v => items[i]? = some v) lt)
    (hQ : ∀ v h' tk, items[argBest lt (items.size - 1)]? = some v → (∀ b o, s.heap.get? b = some o → h'.get? b = some o) → Q v { s with heap := h', toks := tk }) :
    wpAny (model prog w) A (call (.builtin "min") [.ref p]) Q E s := by
  have nm : (toString "min" ++ toString ".loop" : String) = "min.loop" := by decide
  have hp : p < s.heap.objs.size := by obtain ⟨o, e, _⟩ := pl; exact Heap.lt_size e
  refine call_function_tree kind_min plain_min entry_min (args_min1 _) ?_
  show wpAny _ A.in1 (Builtin.Builtins.bindParams "min" ["key", "default"] 0 ⟨[], []⟩ >>= _) _ E s
  refine wpAny_bind (wpAny_of_eq (show Builtin.Builtins.bindParams "min" ["key", "default"] 0 ⟨[], []⟩ = pure [none, none] from rfl) (show _ from ?_))
  refine wpAny_bind (wpAny_pure ?_)
  refine wpAny_bind (wpAny_pyIter_list pl ?_)
  refine wpAny_bind (wpAny_newObj_type ?_)
  rw [nm]
  have W : Walks prog w A.in1 s.heap.objs.size [s.heap.objs.size, p] [s.heap.objs.size] items.size (fun i v => items[i]? = some v) (fun i h => h.IsListIter s.heap.objs.size p i ∧ h.IsList p items) :=
    Walks.list hh _ _ (Nat.ne_of_lt hp) items
  refine wpAny_pure ⟨plainId_quiet plain_min_loop _, min_from W lt _ hc ?_ (fun h h' g kp b o e => ?_) hn (fun b o e => Heap.get?_push_of_some _ (Heap.get?_push_of_some _ e)) ⟨⟨_, Heap.get?_push_of_some _ (Heap.get?_push_size _ rfl), rfl, rfl⟩, pl.at fun o e => Heap.get?_push_of_some _ (Heap.get?_push_of_some _ e)⟩ (Heap.get?_push_size _ rfl) fun v h' tk hv kp => ?_⟩
  · intro z
    rw [Heap.size_push] at z
    rcases List.mem_cons.mp z with z | z
    · exact absurd z (Nat.succ_ne_self _)
    · have e : s.heap.objs.size + 1 = p := List.mem_singleton.mp z
      rw [← e] at hp
      exact absurd hp (Nat.not_lt.mpr (Nat.le_succ _))
  · have hb := Heap.lt_size e
    exact kp b o (fun z => Nat.ne_of_lt hb (List.mem_singleton.mp z)) (by rw [Heap.size_push]; exact Nat.ne_of_lt (Nat.lt_succ_of_lt hb)) (g b o e)
  · refine hQ v h' tk hv fun b o e => ?_
    have hb := Heap.lt_size e
    exact kp b o (fun z => Nat.ne_of_lt hb (List.mem_singleton.mp z)) (by rw [Heap.size_push]; exact Nat.ne_of_lt (Nat.lt_succ_of_lt hb)) (Heap.get?_push_of_some _ (Heap.get?_push_of_some _ e))
end
end N2

set_option Elab.async false
set_option linter.all false
set_option maxRecDepth 100000
set_option maxHeartbeats 4000000
/-! the dict of tuples of tuples, and min by data: over the layer, over values -/
namespace L2
open PySem PySem.Spec PyProof.Rows N2
theorem valsAt : ∀ {xs : List V} {us : List Value} {i : Nat} {u : Value}, Vals xs us → us[i]? = some u → ∃ x, xs[i]? = some x ∧ RelV x u
  | _, _, _, _, .nil, e => by simp at e
  | _, _, 0, _, .cons h _, e => by simp at e; subst e; exact ⟨_, rfl, h⟩
  | _, _, i + 1, _, .cons _ r, e => by simp at e; simpa using valsAt r e
theorem Reps.at {K : PySem.W.Frag} {H : Hp} : ∀ {ds : List PyData} {vs : List V} {i : Nat} {v : V}, Reps K H ds vs → vs[i]? = some v → ∃ d, ds[i]? = some d ∧ Rep K H d v
  | _, _, _, _, .nil, e => by simp at e
  | _, _, 0, _, .cons h _, e => by simp at e; subst e; exact ⟨_, rfl, h⟩
  | _, _, i + 1, _, .cons _ r, e => by simp at e; simpa using Reps.at r e
theorem Reps.len {K : PySem.W.Frag} {H : Hp} : ∀ {ds : List PyData} {vs : List V}, Reps K H ds vs → ds.length = vs.length
  | _, _, .nil => rfl
  | _, _, .cons _ r => by rw [List.length_cons, List.length_cons, r.len]
def ltD (ds : List PyData) (i j : Nat) : Bool := ltv (ds.getD i .none) (ds.getD j .none)
def OkD (ds : List PyData) : Prop := (∀ d ∈ ds, d.canLay0 = true ∧ d.depth ≤ 190) ∧ ∀ d ∈ ds, ∀ e ∈ ds, okLt d e = true
def uMinD (K : PySem.W.Frag) : List V → Hp → VK → Prop := fun xs H Q => ∃ p vs ds, xs = [.ref p] ∧ SqL K H p vs ∧ Reps K H ds vs ∧ OkD ds ∧ 0 < ds.length ∧ ∀ v, vs[argBest (ltD ds) (ds.length - 1)]? = some v → Q v H
section
variable {X : Cx}
theorem c_minD {k : Nat} (hr : Room k X.A) (hc : X.calm = true) : CallR X (.builtin "min") (uMinD X.K) := by
  intro pins s σ H xs us Q I r h
  obtain ⟨p, vs, ds, rfl, hl, hd, ⟨o1, o2⟩, h1, q⟩ := h
  obtain ⟨u, rfl, ru⟩ := r.one
  cases ru
  obtain ⟨its, rv, pl, hz⟩ := I.list hl
  have hlen : its.toArray.size = ds.length := by rw [List.size_toArray, ← rv.length, hd.len]
  have hun := hr.un
  refine min_list (lt := ltD ds) (show X.A.in1.handled = none from I.ok.hd hc) pl.isList (by rw [hlen]; exact h1) ?_ ?_
  · intro i j a b s' Q' E' hg ha hb hq
    have one : ∀ {i : Nat} {a : Value}, its.toArray[i]? = some a → ∃ d as, ds[i]? = some d ∧ Reads s'.heap a d as := by
      intro i a ha
      rw [List.getElem?_toArray] at ha
      obtain ⟨v, hv, rel⟩ := valsAt rv ha
      obtain ⟨d, hd1, hd2⟩ := hd.at hv
      obtain ⟨as, ra⟩ := Rep.reads I hd2 rel
      exact ⟨d, as, hd1, Reads.keeps hg ra⟩
    obtain ⟨d, as, d1, ra⟩ := one ha
    obtain ⟨e, bs, e1, rb⟩ := one hb
    have m1 := List.mem_of_getElem? d1
    have m2 := List.mem_of_getElem? e1
    have hq' : Q' (.bool (ltv d e)) s' := by
      have : ltD ds i j = ltv d e := by unfold ltD; rw [List.getD_eq_getElem?_getD, List.getD_eq_getElem?_getD, d1, e1]; rfl
      rw [← this]; exact hq
    have hu1 := (o1 d m1).2
    have hu2 := (o1 e m2).2
    exact ltAt_reads _ d e X.A.in1 s' a b as bs (Nat.le_refl _) ra rb (o1 d m1).1 (o1 e m2).1 (o2 d m1 e m2) (by have : X.A.in1.units = X.A.units + 1 := rfl; omega) X.prog X.w E' Q' hq'
  · intro v h' tk hv hk
    rw [hlen, List.getElem?_toArray] at hv
    obtain ⟨x, hx, rel⟩ := valsAt rv hv
    exact ⟨x, H, I.kept (t' := tk) fun b o e => hk b o e, rel, q x hx⟩
end
def xMinD : List U → AHp → AVK → Prop := fun us A Q => ∃ p ws ds, us = [.ref p] ∧ A p = some (.lst ws) ∧ DUs A ws ds ∧ OkD ds ∧ 0 < ds.length ∧ ∀ u, ws[argBest (ltD ds) (ds.length - 1)]? = some u → Q u A
theorem ab_minD {K : PySem.W.Frag} : AbL K (uMinD K) xMinD := fun xs us A H Q' Q r g h k => by
  obtain ⟨p, ws, ds, rfl, e, hd, ok, h1, q⟩ := h
  obtain ⟨v, rfl, r'⟩ := r.inv1
  cases r'
  obtain ⟨vs, h2, r2⟩ := g.list e
  refine ⟨p, vs, ds, rfl, SqL.of h2, DUs.reps g hd r2, ok, h1, fun v hv => ?_⟩
  obtain ⟨u, hu, ru⟩ := r2.get hv
  exact k _ _ _ _ (.refl H) g ru (q u hu)
/-! the dict -/
abbrev Ky := List (List Int)
def kU (k : Ky) : U := .tup (k.map fun r => .tup (r.map U.int))
section
variable {X : Cx} {pins : List (Addr × Obj)} {σ : St} {H : Hp} {s : Shared}
theorem key1 (I : Inv X pins σ H s) {r : List Int} {v : V} {u : Value} (h : RU X.K H (.tup (r.map U.int)) v) (rel : RelV v u) : ∃ a, u = .ref a ∧ IsTupleKey (intKind X.prog X.w) s.heap r a := by
  cases h with
  | @tup a vs _ h1 h2 =>
    cases rel
    obtain ⟨its, rv, ⟨o, e1, e2, n, e3⟩, _⟩ := I.tuple h1
    refine ⟨a, rfl, o, _, n, e1, e2, e3, ?_⟩
    rw [h2.ints] at rv
    simp only
    clear h2 h1 e3
    induction r generalizing its with
    | nil => cases rv; exact .nil
    | cons i r ih =>
      cases rv with
      | cons q t => obtain ⟨tk, rfl⟩ := q; exact .cons (by simp [intKind, Value.isInt]) (ih _ t)
theorem key2s (I : Inv X pins σ H s) : ∀ {k : Ky} {vs : List V} {its : List Value}, RUs X.K H (k.map fun r => .tup (r.map U.int)) vs → Vals vs its → N2.Its (intKind X.prog X.w) s.heap k its
  | [], _, _, .nil, .nil => .nil
  | _ :: _, _, _, .cons q t, .cons q2 t2 => by
    obtain ⟨a, rfl, hk⟩ := key1 I q q2
    exact .cons hk (key2s I t t2)
theorem key2 (I : Inv X pins σ H s) {k : Ky} {b : Addr} (h : RU X.K H (kU k) (.ref b)) : IsT2 (intKind X.prog X.w) s.heap k b := by
  unfold kU at h
  cases h with
  | tup h1 h2 =>
    obtain ⟨its, rv, ⟨o, e1, e2, n, e3⟩, _⟩ := I.tuple h1
    exact ⟨o, _, n, ⟨e1, e2⟩, e3, key2s I h2 rv⟩
end
abbrev Xs := List (Ky × Addr × Value)
/-- what the object at d is -/
def DNp (P : Program) (w : World) (d : Addr) (xs : Xs) (h : Heap) : Prop := ((d == sysModules) = false ∧ xs.length ≤ sizeLine ∧ (xs.map (·.1)).Nodup) ∧
  ∃ o es ep, h.get? d = some o ∧ o.ExactDict ∧ o.data = .dict es ep ∧ es.toList = xs.map (entryOfKey (kind2 (intKind P w)))
def DN (P : Program) (w : World) (d : Addr) (xs : Xs) : HO := .ext (DNp P w d xs)
theorem DNp.ok {P : Program} {w : World} {d : Addr} {xs : Xs} {H : Hp} {h : Heap} (e : DNp P w d xs h) : ObjOk P w H h d (DN P w d xs) := by
  obtain ⟨h0, o, es, ep, h1, h2⟩ := e
  refine ⟨⟨h0, o, es, ep, h1, h2⟩, ⟨o, h1⟩, fun g1 g2 q kp => ?_⟩
  obtain ⟨h0, o, es, ep, h1, h2⟩ := q
  exact ⟨h0, o, es, ep, kp o h1, h2⟩
theorem Kp.ext {K : PySem.W.Frag} {H : Hp} {l : Addr} {φ : Heap → Prop} {o' : HO} (h : H l = some (.ext φ)) : Kp K H (upd H l o') := ⟨fun a xs q => by
  rcases q with (q | ⟨o, q⟩) | q
  · exact .inl (.inl (by rw [upd_ne (ne_of q h (by intro z; cases z))]; exact q))
  · exact .inl (.inr ⟨o, by rw [upd_ne (ne_of q h (by intro z; cases z))]; exact q⟩)
  · exact .inr q, fun a xs q => by
  rcases q with ⟨o, q⟩ | q
  · exact .inl ⟨o, by rw [upd_ne (ne_of q h (by intro z; cases z))]; exact q⟩
  · exact .inr q⟩
theorem HR.putO {K : PySem.W.Frag} {H : Hp} {A : AHp} {a : Addr} {ob : HO} {o : AO} (h : HR K H A) (kp : Kp K H (upd H a ob)) (new : RO K (upd H a ob) a o) : HR K (upd H a ob) (updA A a o) := fun b u q => by
  by_cases hb : b = a
  · subst hb
    rw [updA_same] at q
    cases q
    exact new
  · rw [updA_ne hb] at q
    exact (h b u q).keep kp (upd_ne hb)
/-- over values: the keys, in the order of their coming -/
def dN (P : Program) (w : World) (ks : List Ky) : AO := .oth fun K H a => ∃ xs, H a = some (DN P w a xs) ∧ xs.map (·.1) = ks ∧ ∀ x ∈ xs, RU K H (kU x.1) (.ref x.2.1)
theorem dN_ro {P : Program} {w : World} {K : PySem.W.Frag} {H : Hp} {a : Addr} {xs : Xs} (h1 : H a = some (DN P w a xs)) (h2 : ∀ x ∈ xs, RU K H (kU x.1) (.ref x.2.1)) : RO K H a (dN P w (xs.map (·.1))) :=
  ⟨⟨_, h1⟩, ⟨xs, h1, rfl, h2⟩, fun H1 H2 ⟨ys, q1, q2, q3⟩ kp e => ⟨ys, by rw [e]; exact q1, q2, fun x hx => (q3 x hx).same kp⟩⟩
theorem dN_of {P : Program} {w : World} {K : PySem.W.Frag} {H : Hp} {A : AHp} {a : Addr} {ks : List Ky} (g : HR K H A) (e : A a = some (dN P w ks)) : ∃ xs, H a = some (DN P w a xs) ∧ xs.map (·.1) = ks ∧ ∀ x ∈ xs, RU K H (kU x.1) (.ref x.2.1) :=
  (g a _ e).2.1
theorem big {X : Cx} {pins : List (Addr × Obj)} {σ : St} {H : Hp} {s : Shared} (I : Inv X pins σ H s) : sysModules < s.heap.objs.size :=
  Nat.lt_trans (by decide) (show mainGlobals < s.heap.objs.size from (I.mod.glob.keeps I.bk).lt)
def tDNewN (P : Program) (w : World) : TE := fun _ H Q => ∀ p, H p = none → Q (.ref p) (upd H p (DN P w p []))
def aDNewN (P : Program) (w : World) : AE := fun _ A Q => ∀ p, A p = none → Q (.ref p) (updA A p (dN P w []))
theorem ab_dnewN {P : Program} {w : World} {K : PySem.W.Frag} : AbE K (tDNewN P w) (aDNewN P w) := fun ρ A σ H Q' Q hs g h k p hp =>
  k _ _ _ _ (Same.upd_new hp).kp (g.putO (Same.upd_new hp).kp (dN_ro (xs := []) upd_same fun x hx => nomatch hx)) (.ref p) (h p (g.none hp))
def addK (ks : List Ky) (k : Ky) : List Ky := if k ∈ ks then ks else ks ++ [k]
theorem atKey_iff {xs : Xs} {k : Ky} : (atKey xs k).isSome = true ↔ k ∈ xs.map (·.1) := by
  unfold atKey
  rw [Option.isSome_map, List.find?_isSome]
  constructor
  · intro ⟨x, hx, e⟩
    exact List.mem_map.mpr ⟨x, hx, of_decide_eq_true e⟩
  · intro h
    obtain ⟨x, hx, e⟩ := List.mem_map.mp h
    exact ⟨x, hx, decide_eq_true e⟩
theorem stored_keys {xs : Xs} {k : Ky} {b : Addr} {v : Value} : (storedH xs k b v).map (·.1) = addK (xs.map (·.1)) k := by
  unfold storedH addK
  by_cases c : (atKey xs k).isSome = true
  · rw [if_pos c, if_pos (atKey_iff.mp c), keys_map_putAt]
  · rw [if_neg c, if_neg (fun z => c (atKey_iff.mpr z))]; simp
theorem stored_all {xs : Xs} {k : Ky} {b : Addr} {v : Value} {R : Ky → Addr → Prop} (h : ∀ x ∈ xs, R x.1 x.2.1) (hb : R k b) : ∀ x ∈ storedH xs k b v, R x.1 x.2.1 := by
  unfold storedH
  split
  · intro x hx
    obtain ⟨y, hy, rfl⟩ := List.mem_map.mp hx
    unfold putAt
    split
    · exact h y hy
    · exact h y hy
  · intro x hx
    rcases List.mem_append.mp hx with hx | hx
    · exact h x hx
    · obtain rfl := List.mem_singleton.mp hx; exact hb
def rSetN (P : Program) (w : World) (K : PySem.W.Frag) : V → V → V → Hp → (Hp → Prop) → Prop := fun o i v H Q => ∃ d b xs k, o = .ref d ∧ i = .ref b ∧ v = .bl true ∧ H d = some (DN P w d xs) ∧ RU K H (kU k) (.ref b) ∧ (∀ x ∈ xs, RU K H (kU x.1) (.ref x.2.1)) ∧ xs.length < sizeLine ∧
  Q (upd H d (DN P w d (storedH xs k b (.bool true))))
section
variable {X : Cx}
theorem DN_of {pins : List (Addr × Obj)} {σ : St} {H : Hp} {s : Shared} {d : Addr} {xs : Xs} (I : Inv X pins σ H s) (h : H d = some (DN X.prog X.w d xs)) (hk : ∀ x ∈ xs, RU X.K H (kU x.1) (.ref x.2.1)) :
    (d == sysModules) = false ∧ xs.length ≤ sizeLine ∧ s.heap.DictOfH (kind2 (intKind X.prog X.w)) d xs := by
  obtain ⟨⟨⟨h0, hz, hn⟩, o, es, ep, h1, h2, h3, h4⟩, _⟩ := I.hok d _ h
  exact ⟨h0, hz, o, es, ep, h1, h2, h3, h4, fun x hx => key2 I (hk x hx), hn⟩
theorem stored_len {xs : Xs} {k : Ky} {b : Addr} {v : Value} : (storedH xs k b v).length ≤ xs.length + 1 := by
  unfold storedH
  split
  · rw [List.length_map]; omega
  · rw [List.length_append]; simp
theorem set_dn {k : Nat} (hr : Room k X.A) : PSet X (rSetN X.prog X.w X.K) := by
  intro pins s σ H o i v ov iv u Q I ro ri rv h
  obtain ⟨d, b, xs, k', rfl, rfl, rfl, h1, h2, h3, hz, q⟩ := h
  cases ro; cases ri; cases rv
  obtain ⟨d0, _, dd⟩ := DN_of I h1 h3
  have hun := hr.units
  refine wpAny_setItem_heap (hsz := Nat.le_of_lt hz) (show X.A.in1.units + 1 < cLine by have : X.A.in1.units = X.A.units + 1 := rfl; omega) (show (kind2 (intKind X.prog X.w)).is s.heap k' b from key2 I h2) dd fun h' dd' hs => ?_
  obtain ⟨o, es, ep, e1, e2, e3, e4, e5, e6⟩ := dd'
  refine ⟨_, I.write (x := d) (e := d) (by rw [h1]; trivial) (.inl rfl) (fun c u hc z => (hs.2 c hc).trans z) ⟨o, e1⟩ (DNp.ok ⟨⟨d0, by have := @stored_len xs k' b (.bool true); omega, e6⟩, o, es, ep, e1, e2, e3, e4⟩), q⟩
theorem pe_dnewN {pos : Pos} : PE X (.Dict [] [] pos) (tDNewN X.prog X.w) := fun pins s σ H Q I h =>
  wpAny_Dict_empty ⟨.ref s.heap.objs.size, _, I.laid (a := s.heap.objs.size) (t' := s.toks) (fun _ _ q => Heap.get?_push_of_some _ q) (Nat.le_refl _) (DNp.ok (xs := []) ⟨⟨beq_eq_false_iff_ne.mpr (Ne.symm (Nat.ne_of_lt (big I))), Nat.zero_le _, List.nodup_nil⟩, _, #[], 0, Heap.get?_push_size _ rfl, ⟨rfl, rfl, rfl⟩, rfl, rfl⟩), rfl, h _ (I.hok.fresh (Nat.le_refl _))⟩
def uLenN (P : Program) (w : World) (K : PySem.W.Frag) : List V → Hp → VK → Prop := fun vs H Q => ∃ d xs, vs = [.ref d] ∧ H d = some (DN P w d xs) ∧ (∀ x ∈ xs, RU K H (kU x.1) (.ref x.2.1)) ∧ Q (.int xs.length) H
theorem len_dn (d : Addr) (hd : (d == sysModules) = false) : Meets (Builtin.«dict.__len__» ⟨[.ref d], []⟩) (fun _ R s => ∃ o es ep, s.heap.get? d = some o ∧ o.data = .dict es ep ∧ R (.ok (.ret (.int (es.size : Nat) s.toks))) { s with toks := s.toks + 1 }) :=
  .of_wp fun prog w A R s hh => by
    obtain ⟨o, es, ep, e1, e2, h⟩ := hh
    show wpAny _ _ (dictSize d >>= _) _ _ s
    unfold dictSize
    refine wpAny_bind (wpAny_bind (wpAny_dictEntries e1 e2 (wpAny_pure (show _ from ?_))))
    show wpAny _ _ (Builtin.Dict.pendingCount d >>= _) _ _ s
    refine wpAny_bind (wpAny_pendingCount_other hd (show _ from ?_))
    refine wpAny_ret_mkInt ?_
    rw [Nat.add_zero]; exact h
theorem c_lenN : CallR X (.builtin "len") (uLenN X.prog X.w X.K) := by
  intro pins s σ H vs us Q I r h
  obtain ⟨d, xs, rfl, h1, h3, q⟩ := h
  obtain ⟨u, rfl, ru⟩ := r.one
  cases ru
  obtain ⟨d0, hz, o, es, ep, e1, e2, e3, e4, _⟩ := DN_of I h1 h3
  have he : es.size = xs.length := by have := congrArg List.length e4; simpa using this
  have ty : s.TypeIs (.ref d) "dict" := ⟨o, e1, e2.1⟩
  have hb := line63
  refine Calls.call_function_entry kind_len plain_len entry_len (args_len1 _) ?_
  unfold Builtin.«len»
  refine wpAny_bind (m := oneArg "len" _) (wpAny_pure (show _ from ?_))
  refine wpAny_bind (m := callSpecial? (.ref d) (Str.ofString "__len__")) (wpAny_callSpecial?_slot (name := Str.ofString "__len__") ty F.slot_dict_len (call_meets F.slot_dict_len ty F.entry_dict_len (F.args_dict_len_1 _) (len_dn d d0) ⟨o, es, ep, e1, e3, ?_⟩))
  show wpAny _ _ _ _ _ { s with toks := s.toks + 1 }
  refine wpAny_bind (wpAny_holding (wpAny_pure (show _ from ?_)))
  refine wpAny_bind (wpAny_letGo (show _ from ?_))
  show wpAny _ _ (if ((es.size : Nat) : Int) < 0 then _ else _) _ _ _
  rw [if_neg (by omega)]
  show wpAny _ _ (if ((es.size : Nat) : Int) ≥ 2 ^ 63 then _ else _) _ _ _
  rw [if_neg (by omega)]
  refine wpAny_bind (wpAny_mkInt (wpAny_pure ⟨_, rfl, .int _, H, I.tok _, ⟨_, rfl⟩, ?_⟩))
  rw [he]; exact q
end
def bSetN (P : Program) (w : World) (o i : AE) : AG := fun u ρ A Q => o ρ A fun x A1 => i ρ A1 fun y A2 => ∃ a k ks, x = .ref a ∧ y = kU k ∧ u = .bl true ∧ A2 a = some (dN P w ks) ∧ ks.length < sizeLine ∧ Q ρ (updA A2 a (dN P w (addK ks k)))
theorem ab_setn {P : Program} {w : World} {K : PySem.W.Frag} {to ti : TE} {ao ai : AE} (ho : AbE K to ao) (hi : AbE K ti ai) : AbG K (gSub to ti (rSetN P w K)) (bSetN P w ao ai) := fun u v ρ A σ H Q' Q r hs g wh k =>
  ho ρ A σ H _ _ hs g wh fun x A1 v1 H1 k1 g1 r1 q1 => hi ρ A1 σ H1 _ _ (hs.same k1) g1 q1 fun y A2 v2 H2 k2 g2 r2 ⟨a, ky, ks, e1, e2, e3, eA, hz, q⟩ => by
    subst e1 e2 e3
    cases r1; cases r
    obtain ⟨xs, h1, h2, h3⟩ := dN_of g2 eA
    subst h2
    have hr2 : ∃ b, v2 = .ref b := by unfold kU at r2; cases r2; exact ⟨_, rfl⟩
    obtain ⟨b, rfl⟩ := hr2
    have kp : Kp K H2 (upd H2 a (DN P w a (storedH xs ky b (.bool true)))) := Kp.ext h1
    refine ⟨a, b, xs, ky, rfl, rfl, rfl, h1, r2, h3, by simpa using hz, k _ _ _ _ (k1.trans (k2.trans kp)) (g2.putO kp ?_) (hs.same (k1.trans (k2.trans kp))) q⟩
    rw [← stored_keys (b := b) (v := .bool true)]
    exact dN_ro upd_same (stored_all (R := fun k b => RU K _ (kU k) (.ref b)) (fun x hx => (h3 x hx).same kp) (r2.same kp))
def xLenN (P : Program) (w : World) : List U → AHp → AVK → Prop := fun us A Q => ∃ p ks, us = [.ref p] ∧ A p = some (dN P w ks) ∧ Q (.int ks.length) A
theorem ab_lenN {P : Program} {w : World} {K : PySem.W.Frag} : AbL K (uLenN P w K) (xLenN P w) := fun vs us A H Q' Q r g h k => by
  obtain ⟨p, ks, rfl, e, q⟩ := h
  obtain ⟨v, rfl, r'⟩ := r.inv1
  cases r'
  obtain ⟨xs, h1, h2, h3⟩ := dN_of g e
  exact ⟨p, xs, rfl, h1, h3, k _ _ _ _ (.refl H) g (.int _) (by rw [← h2, List.length_map] at q; exact q)⟩
section
variable {P : Program} {w : World} {A : AHp} {ρ : ASt} {Q : AVK} {N : ASt → AHp → Prop} {o i : AE} {u : U} {p : Addr}
theorem q_dnewN : (aDNewN P w ρ A Q) = (∀ p, A p = none → Q (.ref p) (updA A p (dN P w []))) := rfl
theorem q_setn : (bSetN P w o i u ρ A N) = (o ρ A fun x A1 => i ρ A1 fun y A2 => ∃ a k ks, x = .ref a ∧ y = kU k ∧ u = .bl true ∧ A2 a = some (dN P w ks) ∧ ks.length < sizeLine ∧ N ρ (updA A2 a (dN P w (addK ks k)))) := rfl
theorem q_minD : (xMinD [.ref p] A Q) = (∃ ws ds, A p = some (.lst ws) ∧ DUs A ws ds ∧ OkD ds ∧ 0 < ds.length ∧ ∀ u, ws[argBest (ltD ds) (ds.length - 1)]? = some u → Q u A) := by
  apply propext
  constructor
  · rintro ⟨p, ws, ds, e, h⟩; cases e; exact ⟨ws, ds, h⟩
  · rintro ⟨ws, ds, h⟩; exact ⟨p, ws, ds, rfl, h⟩
theorem q_lenN : (xLenN P w [.ref p] A Q) = (∃ ks, A p = some (dN P w ks) ∧ Q (.int ks.length) A) := by
  apply propext
  constructor
  · rintro ⟨p, ks, e, h⟩; cases e; exact ⟨ks, h⟩
  · rintro ⟨ks, h⟩; exact ⟨p, ks, rfl, h⟩
end
/-! from the elder promises -/
theorem HR.growL {K : PySem.W.Frag} {H H' : Hp} {A : AHp} {l : Addr} {us : List U} {vs : List V} (g : HR K H A) (s : Same H H') (e : H' l = some (.lst vs)) (r : RUs K H' us vs) : HR K H' (updA A l (.lst us)) := fun b o q => by
  by_cases hb : b = l
  · subst hb
    rw [updA_same] at q
    cases q
    exact ⟨vs, e, r⟩
  · rw [updA_ne hb] at q
    exact g.grow s b o q
end L2

set_option Elab.async false
set_option linter.all false
set_option maxRecDepth 100000
set_option maxHeartbeats 4000000
namespace My
open PySem L2
local macro_rules | `(tactic| walk_at "qd") => `(tactic| try simp only [↓q_var0, ↓q_nm0, ↓q_get0, ↓q_var1, ↓q_nm1, ↓q_get1, ↓q_var2, ↓q_nm2, ↓q_get2, ↓q_var3, ↓q_nm3, ↓q_get3, ↓q_var4, ↓q_nm4, ↓q_get4, ↓q_var5, ↓q_nm5, ↓q_get5, ↓q_var6, ↓q_nm6, ↓q_get6, ↓q_var7, ↓q_nm7, ↓q_get7, ↓q_var8, ↓q_nm8, ↓q_get8, ↓q_var9, ↓q_nm9, ↓q_get9, ↓q_var10, ↓q_nm10, ↓q_get10, ↓q_var11, ↓q_nm11, ↓q_get11, ↓q_var12, ↓q_nm12, ↓q_get12, ↓q_var13, ↓q_nm13, ↓q_get13, ↓q_var14, ↓q_nm14, ↓q_get14, ↓q_var15, ↓q_nm15, ↓q_get15, ↓q_var16, ↓q_nm16, ↓q_get16, ↓q_var17, ↓q_nm17, ↓q_get17, ↓q_var18, ↓q_nm18, ↓q_get18, ↓q_var19, ↓q_nm19, ↓q_get19, ↓q_var20, ↓q_nm20, ↓q_get20, ↓q_var21, ↓q_nm21, ↓q_get21, ↓q_var22, ↓q_nm22, ↓q_get22, ↓q_var23, ↓q_nm23, ↓q_get23, ↓q_var24, ↓q_nm24, ↓q_get24, ↓q_var25, ↓q_nm25, ↓q_get25, ↓q_c, ↓q_op, ↓q_un, ↓q_tb, ↓q_bl, ↓q_int, ↓q_and, ↓q_or, ↓q_not, ↓q_andv, ↓q_orv, ↓q_notv, ↓q_if, ↓q_chain, ↓q_true, ↓q_nil, ↓q_cons, ↓q_const, ↓q_tup, ↓q_lst, ↓q_cb, ↓q_call, ↓q_callV, ↓q_nopart, ↓q_part, ↓q_sl, ↓q_bm0, ↓q_bm, ↓q_next, ↓q_seq, ↓q_break, ↓q_cont, ↓q_drop, ↓q_ret, ↓q_retn, ↓q_ifs, ↓q_asg, ↓q_par, ↓q_two, ↓q_aug, ↓q_for, ↓q_jof, ↓q_jargs, ↓q_ylr, ↓q_ylo, ↓q_yt, ↓q_ys, ↓q_yr1, ↓q_yr2, ↓q_yer, ↓q_yeo, ↓q_yet, ↓q_yz, ↓q_jrev, ↓q_comp, ↓q_gtup, ↓q_gcons, ↓q_gnil, ↓q_addi, ↓q_adds, ↓q_addt, ↓q_addr, ↓q_xi, ↓q_xi2, ↓q_mul, ↓q_rep, ↓q_lti, ↓q_lts, ↓q_eqi, ↓q_eqs, ↓q_eqb, ↓q_eqt, ↓q_eqr, ↓q_eqtn, ↓q_eqnt, ↓q_eqnn, ↓q_eqns, ↓q_eqsn, ↓q_nei, ↓q_nes, ↓q_neb, ↓q_net, ↓q_ner, ↓q_netn, ↓q_nent, ↓q_nenn, ↓q_nens, ↓q_nesn, ↓q_isn, ↓q_notn, ↓q_int_, ↓q_nint_, ↓q_inr_, ↓q_ninr_, ↓q_ins_, ↓q_nins_, ↓q_ixs, ↓q_ix0, ↓q_ix1, ↓q_ix2, ↓q_ixo, ↓q_ixr, ↓q_sls, ↓q_slt1, ↓q_slo, ↓q_slr, ↓q_lens, ↓q_lent, ↓q_leno, ↓q_lenr, ↓q_min2, ↓q_max2, ↓q_minl, ↓q_maxl, ↓q_sum, ↓q_all, ↓q_lot, ↓q_loo, ↓q_lor, ↓q_tot, ↓q_tor, ↓q_xint, ↓q_isl, ↓q_ist, ↓q_app, ↓q_pop, ↓q_extT, ↓q_ext, ↓q_setl, ↓q_tail, ↓q_tuprev, ↓q_neg, ↓q_tru, ↓q_trul, ↓q_trut, ↓q_trub, ↓q_isi, ↓q_idxC, ↓q_idxL, ↓q_yzg, ↓q_ysr, ↓q_yso, ↓q_yst, ↓q_yesr, ↓q_yeso, ↓q_yest, ↓q_exSt, ↓q_exSr, List.set_cons_zero, List.set_cons_succ, List.cons_append, List.nil_append, ↓q_dnewN, ↓q_setn, ↓q_minD, ↓q_lenN])
local macro_rules | `(tactic| walk_at "qg") => `(tactic| try simp only [↓q_var0, ↓q_nm0, ↓q_get0, ↓q_var1, ↓q_nm1, ↓q_get1, ↓q_var2, ↓q_nm2, ↓q_get2, ↓q_var3, ↓q_nm3, ↓q_get3, ↓q_var4, ↓q_nm4, ↓q_get4, ↓q_var5, ↓q_nm5, ↓q_get5, ↓q_var6, ↓q_nm6, ↓q_get6, ↓q_var7, ↓q_nm7, ↓q_get7, ↓q_var8, ↓q_nm8, ↓q_get8, ↓q_var9, ↓q_nm9, ↓q_get9, ↓q_var10, ↓q_nm10, ↓q_get10, ↓q_var11, ↓q_nm11, ↓q_get11, ↓q_var12, ↓q_nm12, ↓q_get12, ↓q_var13, ↓q_nm13, ↓q_get13, ↓q_var14, ↓q_nm14, ↓q_get14, ↓q_var15, ↓q_nm15, ↓q_get15, ↓q_var16, ↓q_nm16, ↓q_get16, ↓q_var17, ↓q_nm17, ↓q_get17, ↓q_var18, ↓q_nm18, ↓q_get18, ↓q_var19, ↓q_nm19, ↓q_get19, ↓q_var20, ↓q_nm20, ↓q_get20, ↓q_var21, ↓q_nm21, ↓q_get21, ↓q_var22, ↓q_nm22, ↓q_get22, ↓q_var23, ↓q_nm23, ↓q_get23, ↓q_var24, ↓q_nm24, ↓q_get24, ↓q_var25, ↓q_nm25, ↓q_get25, ↓q_c, ↓q_op, ↓q_un, ↓q_tb, ↓q_bl, ↓q_int, ↓q_and, ↓q_or, ↓q_not, ↓q_andv, ↓q_orv, ↓q_notv, ↓q_if, ↓q_chain, ↓q_true, ↓q_nil, ↓q_cons, ↓q_const, ↓q_tup, ↓q_lst, ↓q_cb, ↓q_call, ↓q_callV, ↓q_nopart, ↓q_part, ↓q_sl, ↓q_bm0, ↓q_bm, ↓q_next, ↓q_seq, ↓q_break, ↓q_cont, ↓q_drop, ↓q_ret, ↓q_retn, ↓q_ifs, ↓q_asg, ↓q_par, ↓q_two, ↓q_aug, ↓q_for, ↓q_jof, ↓q_jargs, ↓q_ylr, ↓q_ylo, ↓q_yt, ↓q_ys, ↓q_yr1, ↓q_yr2, ↓q_yer, ↓q_yeo, ↓q_yet, ↓q_yz, ↓q_jrev, ↓q_comp, ↓q_gtup, ↓q_gcons, ↓q_gnil, ↓q_addi, ↓q_adds, ↓q_addt, ↓q_addr, ↓q_xi, ↓q_xi2, ↓q_mul, ↓q_rep, ↓q_lti, ↓q_lts, ↓q_eqi, ↓q_eqs, ↓q_eqb, ↓q_eqt, ↓q_eqr, ↓q_eqtn, ↓q_eqnt, ↓q_eqnn, ↓q_eqns, ↓q_eqsn, ↓q_nei, ↓q_nes, ↓q_neb, ↓q_net, ↓q_ner, ↓q_netn, ↓q_nent, ↓q_nenn, ↓q_nens, ↓q_nesn, ↓q_isn, ↓q_notn, ↓q_int_, ↓q_nint_, ↓q_inr_, ↓q_ninr_, ↓q_ins_, ↓q_nins_, ↓q_ixs, ↓q_ix0, ↓q_ix1, ↓q_ix2, ↓q_ixo, ↓q_ixr, ↓q_sls, ↓q_slt1, ↓q_slo, ↓q_slr, ↓q_lens, ↓q_lent, ↓q_leno, ↓q_lenr, ↓q_min2, ↓q_max2, ↓q_minl, ↓q_maxl, ↓q_sum, ↓q_all, ↓q_lot, ↓q_loo, ↓q_lor, ↓q_tot, ↓q_tor, ↓q_xint, ↓q_isl, ↓q_ist, ↓q_app, ↓q_pop, ↓q_extT, ↓q_ext, ↓q_setl, ↓q_tail, ↓q_tuprev, ↓q_neg, ↓q_tru, ↓q_trul, ↓q_trut, ↓q_trub, ↓q_isi, ↓q_idxC, ↓q_idxL, ↓q_yzg, ↓q_ysr, ↓q_yso, ↓q_yst, ↓q_yesr, ↓q_yeso, ↓q_yest, ↓q_exSt, ↓q_exSr, List.set_cons_zero, List.set_cons_succ, List.cons_append, List.nil_append, ↓q_dnewN, ↓q_setn, ↓q_minD, ↓q_lenN, ↓q_ixt, ↓q_slt])
local macro_rules | `(tactic| walk_at "qs") => `(tactic| simp only [L2.aStart, List.map_cons, List.map_nil, List.length_cons, List.length_nil, List.replicate, List.cons_append, List.nil_append, Nat.reduceAdd, Nat.reduceSub])
local macro_rules | `(tactic| walk_at "qc") => `(tactic| try simp only [L2.aCompStart, List.replicate, List.map_cons, List.map_nil, List.getElem?_cons_zero, List.getElem?_cons_succ, Option.join_some, List.cons_append, List.nil_append])
def top (i : Nat) : Stmt := PySem.Challenge.pw_figurebook_k22_rings_gone_through.main.body.getD i (.Pass ⟨0, 0, 0, 0⟩)
abbrev s_row_counts : Stmt := top 1
abbrev s_ring_counts : Stmt := top 2
abbrev s_begun_counts : Stmt := top 3
abbrev s_divisors : Stmt := top 4
abbrev s_sharing_none : Stmt := top 5
abbrev s_shared : Stmt := top 6
abbrev s_w_whole : Stmt := top 8
abbrev s_w_is_row : Stmt := top 9
abbrev s_w_cell : Stmt := top 10
abbrev s_w_rows_of : Stmt := top 11
abbrev s_w_rings_of : Stmt := top 12
abbrev s_law : Stmt := top 13
theorem sc_row_counts : FnScope ["a", "rows", "size"] ["a"] (defScope s_row_counts) := ⟨rfl, rfl, rfl, by decide +kernel, rfl, by decide +kernel, by decide +kernel⟩
theorem sc_ring_counts : FnScope ["a", "begun", "rings", "size", "turned"] ["a"] (defScope s_ring_counts) := ⟨rfl, rfl, rfl, by decide +kernel, rfl, by decide +kernel, by decide +kernel⟩
theorem sc_begun_counts : FnScope ["a", "rows"] ["a"] (defScope s_begun_counts) := ⟨rfl, rfl, rfl, by decide +kernel, rfl, by decide +kernel, by decide +kernel⟩
theorem sc_divisors : FnScope ["n"] ["n"] (defScope s_divisors) := ⟨rfl, rfl, rfl, by decide +kernel, rfl, by decide +kernel, by decide +kernel⟩
theorem sc_sharing_none : FnScope ["k"] ["k"] (defScope s_sharing_none) := ⟨rfl, rfl, rfl, by decide +kernel, rfl, by decide +kernel, by decide +kernel⟩
theorem sc_shared : FnScope ["one", "other"] ["one", "other"] (defScope s_shared) := ⟨rfl, rfl, rfl, by decide +kernel, rfl, by decide +kernel, by decide +kernel⟩
theorem sc_w_whole : FnScope ["_law_found"] ["_law_found"] (defScope s_w_whole) := ⟨rfl, rfl, rfl, by decide +kernel, rfl, by decide +kernel, by decide +kernel⟩
theorem sc_w_is_row : FnScope ["_law_found", "_law_due", "_law_k"] ["_law_found", "_law_due"] (defScope s_w_is_row) := ⟨rfl, rfl, rfl, by decide +kernel, rfl, by decide +kernel, by decide +kernel⟩
theorem sc_w_cell : FnScope ["_law_script", "_law_k"] ["_law_script", "_law_k"] (defScope s_w_cell) := ⟨rfl, rfl, rfl, by decide +kernel, rfl, by decide +kernel, by decide +kernel⟩
theorem sc_w_rows_of : FnScope ["_law_a", "_law_size", "_law_rows", "_law_n", "_law_fresh", "_law_k", "_law_mark"] ["_law_a", "_law_size"] (defScope s_w_rows_of) := ⟨rfl, rfl, rfl, by decide +kernel, rfl, by decide +kernel, by decide +kernel⟩
theorem sc_w_rings_of : FnScope ["_law_a", "_law_size", "_law_seen", "_law_row"] ["_law_a", "_law_size"] (defScope s_w_rings_of) := ⟨rfl, rfl, rfl, by decide +kernel, rfl, by decide +kernel, by decide +kernel⟩
theorem sc_law : FnScope ["_law_script", "_law_a", "_law_k", "_law_top", "_law_handed", "_law_due"] ["_law_script"] (defScope s_law) := ⟨rfl, rfl, rfl, by decide +kernel, rfl, by decide +kernel, by decide +kernel⟩
/-- what the top has written: each def of the text, its names; what is not the text's own -/
structure TX (K : PySem.W.Frag) (mg : Str → Option Value) (f_row_counts f_ring_counts f_begun_counts f_divisors f_sharing_none f_shared f_w_whole f_w_is_row f_w_cell f_w_rows_of f_w_rings_of f_law : Addr) (d_row_counts d_ring_counts d_begun_counts d_divisors d_sharing_none d_shared d_w_whole d_w_is_row d_w_cell d_w_rows_of d_w_rings_of d_law : FuncData) : Prop where
  F_row_counts : Fun K "row_counts" "row_counts" s_row_counts f_row_counts d_row_counts
  B_row_counts : Binds K d_row_counts ["a"] []
  M_row_counts : mg "row_counts" = some (.ref f_row_counts)
  F_ring_counts : Fun K "ring_counts" "ring_counts" s_ring_counts f_ring_counts d_ring_counts
  B_ring_counts : Binds K d_ring_counts ["a"] []
  M_ring_counts : mg "ring_counts" = some (.ref f_ring_counts)
  F_begun_counts : Fun K "begun_counts" "begun_counts" s_begun_counts f_begun_counts d_begun_counts
  B_begun_counts : Binds K d_begun_counts ["a"] []
  M_begun_counts : mg "begun_counts" = some (.ref f_begun_counts)
  F_divisors : Fun K "divisors" "divisors" s_divisors f_divisors d_divisors
  B_divisors : Binds K d_divisors ["n"] []
  M_divisors : mg "divisors" = some (.ref f_divisors)
  F_sharing_none : Fun K "sharing_none" "sharing_none" s_sharing_none f_sharing_none d_sharing_none
  B_sharing_none : Binds K d_sharing_none ["k"] []
  M_sharing_none : mg "sharing_none" = some (.ref f_sharing_none)
  F_shared : Fun K "shared" "shared" s_shared f_shared d_shared
  B_shared : Binds K d_shared ["one", "other"] []
  M_shared : mg "shared" = some (.ref f_shared)
  F_w_whole : Fun K "_law_whole" "_law_whole" s_w_whole f_w_whole d_w_whole
  B_w_whole : Binds K d_w_whole ["_law_found"] []
  M_w_whole : mg "_law_whole" = some (.ref f_w_whole)
  F_w_is_row : Fun K "_law_is_row" "_law_is_row" s_w_is_row f_w_is_row d_w_is_row
  B_w_is_row : Binds K d_w_is_row ["_law_found", "_law_due"] []
  M_w_is_row : mg "_law_is_row" = some (.ref f_w_is_row)
  F_w_cell : Fun K "_law_cell" "_law_cell" s_w_cell f_w_cell d_w_cell
  B_w_cell : Binds K d_w_cell ["_law_script", "_law_k"] []
  M_w_cell : mg "_law_cell" = some (.ref f_w_cell)
  F_w_rows_of : Fun K "_law_rows_of" "_law_rows_of" s_w_rows_of f_w_rows_of d_w_rows_of
  B_w_rows_of : Binds K d_w_rows_of ["_law_a", "_law_size"] []
  M_w_rows_of : mg "_law_rows_of" = some (.ref f_w_rows_of)
  F_w_rings_of : Fun K "_law_rings_of" "_law_rings_of" s_w_rings_of f_w_rings_of d_w_rings_of
  B_w_rings_of : Binds K d_w_rings_of ["_law_a", "_law_size"] []
  M_w_rings_of : mg "_law_rings_of" = some (.ref f_w_rings_of)
  F_law : Fun K "law" "law" s_law f_law d_law
  B_law : Binds K d_law ["_law_script"] []
  M_law : mg "law" = some (.ref f_law)
  n_all : mg "all" = none
  n_any : mg "any" = none
  n_bool : mg "bool" = none
  n_enumerate : mg "enumerate" = none
  n_int : mg "int" = none
  n_isinstance : mg "isinstance" = none
  n_len : mg "len" = none
  n_list : mg "list" = none
  n_max : mg "max" = none
  n_min : mg "min" = none
  n_range : mg "range" = none
  n_reversed : mg "reversed" = none
  n_sorted : mg "sorted" = none
  n_str : mg "str" = none
  n_sum : mg "sum" = none
  n_tuple : mg "tuple" = none
  n_zip : mg "zip" = none
def sp_whole : Sp := fun vs H Q _ => ∃ i : Int, vs = [.int i] ∧ Q (.bl true) H
def sp_row (K : PySem.W.Frag) : Sp := fun vs H Q _ => ∃ (a b : Addr) (ns : List Int), vs = [.ref a, .ref b] ∧ H a = some (.lst (ns.map V.int)) ∧ SqL K H b (ns.map V.int) ∧ ns.length ≤ 1000 ∧ Q (.bl true) H
section
variable {P : Program} {w : World} {K : PySem.W.Frag} {mg : Str → Option Value} {base : Heap} {f_row_counts f_ring_counts f_begun_counts f_divisors f_sharing_none f_shared f_w_whole f_w_is_row f_w_cell f_w_rows_of f_w_rings_of f_law : Addr} {d_row_counts d_ring_counts d_begun_counts d_divisors d_sharing_none d_shared d_w_whole d_w_is_row d_w_cell d_w_rows_of d_w_rings_of d_law : FuncData}
theorem ok_whole (T : TX K mg f_row_counts f_ring_counts f_begun_counts f_divisors f_sharing_none f_shared f_w_whole f_w_is_row f_w_cell f_w_rows_of f_w_rings_of f_law d_row_counts d_ring_counts d_begun_counts d_divisors d_sharing_none d_shared d_w_whole d_w_is_row d_w_cell d_w_rows_of d_w_rings_of d_law) : FnOk P w K mg base CX0 1 f_w_whole d_w_whole ["_law_found"] sp_whole := by
  refine T.F_w_whole.ok2 (sc := ?sc) (body := ?bd) ?hs ?hb sc_w_whole (fun vs H Q E h => ?_) (fun S cdv A outer s H vs Q E hr h => ?_)
  case hs => conv => lhs; whnf
  case hb => conv => lhs; whnf
  · obtain ⟨m, rfl, _⟩ := h
    rfl
  · obtain ⟨i, rfl, q⟩ := h
    refine ⟨_, (pss_one (ps_ret (pe_and (pe_callB c_isi (by rfl) T.n_isinstance (by decide +kernel) (pa_cons (pv 0) (pa_cons (pe_ty (T := "int") (by rfl) T.n_int (by decide +kernel)) pa_nil))) (pe_one (pe_not (pe_callB c_isi (by rfl) T.n_isinstance (by decide +kernel) (pa_cons (pv 0) (pa_cons (pe_ty (T := "bool") (by rfl) T.n_bool (by decide +kernel)) pa_nil)))))))), ?_⟩
    simp only [L2.start, List.map_cons, List.map_nil, List.length_cons, List.length_nil, List.replicate, List.cons_append, List.nil_append, Nat.reduceAdd, Nat.reduceSub]
    try simp only [↓r_seq, ↓r_next, ↓r_var0, ↓r_gn0, ↓r_var1, ↓r_gn1, ↓r_var2, ↓r_gn2, ↓r_var3, ↓r_gn3, ↓r_var4, ↓r_gn4, ↓r_var5, ↓r_gn5, ↓r_var6, ↓r_gn6, ↓r_var7, ↓r_gn7, ↓r_var8, ↓r_gn8, ↓r_var9, ↓r_gn9, ↓r_var10, ↓r_gn10, ↓r_var11, ↓r_gn11, ↓r_var12, ↓r_gn12, ↓r_var13, ↓r_gn13, ↓r_var14, ↓r_gn14, ↓r_var15, ↓r_gn15, ↓r_var16, ↓r_gn16, ↓r_var17, ↓r_gn17, ↓r_var18, ↓r_gn18, ↓r_var19, ↓r_gn19, ↓r_c, ↓r_op, ↓r_un, ↓r_test, ↓r_tb, ↓r_bl, ↓r_ifs, ↓r_ret, ↓r_retn, ↓r_asg, ↓r_and, ↓r_or, ↓r_not, ↓r_andv, ↓r_orv, ↓r_notv, ↓r_drop, ↓r_cons, ↓r_nil, ↓r_cb, ↓r_lst, ↓r_tup, ↓r_call, ↓r_sl, ↓r_nopart, ↓r_part, ↓r_int, ↓r_bm, ↓r_bm0, ↓r_if, ↓r_chain, ↓r_true, ↓r_add, ↓r_adds, ↓r_addr, ↓r_sub, ↓r_mul, ↓r_div, ↓r_mod, ↓r_pow, ↓r_lt, ↓r_le, ↓r_gt, ↓r_ge, ↓r_eqint, ↓r_neint, ↓r_eqstr, ↓r_nestr, ↓r_eqbl, ↓r_nebl, ↓r_ins, ↓r_nins, ↓r_inint, ↓r_ninint, ↓r_instr, ↓r_ninstr, ↓r_ixs, ↓r_ixr, ↓r_sls, ↓r_slr, ↓r_lens, ↓r_lenr, ↓r_max, ↓r_min, ↓r_inti, ↓r_intb, ↓r_isi, ↓r_isic, ↓r_fld, ↓r_cxK, ↓r_nilapp, ↓r_for, ↓r_jof, ↓r_jrng1, ↓r_jrng2, ↓r_urng1, ↓r_urng2, ↓r_ulist, ↓r_utup, ↓r_ustr, ↓r_comp, ↓r_const, ↓r_eqDrr, ↓r_neDrr, ↓r_eqDii, ↓r_neDii, ↓r_eqDss, ↓r_neDss, ↓r_eqDbb, ↓r_neDbb, ↓r_sum, ↓r_mulB, ↓r_par, ↓r_two, ↓r_addLi, ↓r_addLs, ↓r_addLr, ↓r_neg, ↓r_listof, ↓r_tupof, ↓r_gsub, ↓r_setl, ↓r_jargs, ↓r_zip, ↓r_enum, ↓r_minA1, ↓r_minA2, ↓r_maxA1, ↓r_maxA2]
    refine ⟨_, true, .int i, (by first | rfl | decide +kernel), iteT ?_⟩
    refine ⟨_, false, .int i, (by first | rfl | decide +kernel), q⟩
theorem ok_row (T : TX K mg f_row_counts f_ring_counts f_begun_counts f_divisors f_sharing_none f_shared f_w_whole f_w_is_row f_w_cell f_w_rows_of f_w_rings_of f_law d_row_counts d_ring_counts d_begun_counts d_divisors d_sharing_none d_shared d_w_whole d_w_is_row d_w_cell d_w_rows_of d_w_rings_of d_law) : FnOk P w K mg base CX0 2 f_w_is_row d_w_is_row ["_law_found", "_law_due"] (sp_row K) := by
  have G_w_whole := ok_whole (P := P) (w := w) (base := base) T
  refine T.F_w_is_row.ok2 (sc := ?sc) (body := ?bd) ?hs ?hb sc_w_is_row (fun vs H Q E h => ?_) (fun S cdv A outer s H vs Q E hr h => ?_)
  case hs => conv => lhs; whnf
  case hb => conv => lhs; whnf
  · obtain ⟨_, _, _, rfl, _⟩ := h
    rfl
  · obtain ⟨a, b, ns, rfl, ha, hb, hn, q⟩ := h
    refine ⟨_, (pss_cons (ps_if ((pw_or (pt_not (pt_val (pe_callB c_isi (by rfl) T.n_isinstance (by decide +kernel) (pa_cons (pv 0) (pa_cons (pe_ty (T := "list") (by rfl) T.n_list (by decide +kernel)) pa_nil))))) (pw_or1 (pt_cmpR (o_neD hr) (pe_callB c_len (by rfl) T.n_len (by decide +kernel) (pa_cons (pv 0) pa_nil)) (pe_callB c_len (by rfl) T.n_len (by decide +kernel) (pa_cons (pv 1) pa_nil)) (nomark _))))).pt (pss_one (ps_ret pe_bl)) pss_nil)
      (pss_cons (ps_for PassesOwn.never rfl (pj_range1 rfl T.n_range (pa_cons (pe_callB c_len (by rfl) T.n_len (by decide +kernel) (pa_cons (pv 1) pa_nil)) pa_nil)) (pg_name (i := 2) S.nd rfl (Or.inl rfl))
      (pss_one (ps_if ((pw_or (pt_not (pt_val (pe_call (G_w_whole.mono (by first | decide | omega)) hr (by rfl) T.M_w_whole T.F_w_whole.kp T.B_w_whole .nil pass0 (pa_cons (pe_ix o_ix (pv 0) (pv 2) (fun _ _ => rfl)) pa_nil)))) (pw_or1 (pt_cmpR (o_neD hr) (pe_ix o_ix (pv 0) (pv 2) (fun _ _ => rfl)) (pe_ix o_ix (pv 1) (pv 2) (fun _ _ => rfl)) (nomark _))))).pt (pss_one (ps_ret pe_bl)) pss_nil)))
      (pss_one (ps_ret pe_bl)))), ?_⟩
    simp only [L2.start, List.map_cons, List.map_nil, List.length_cons, List.length_nil, List.replicate, List.cons_append, List.nil_append, Nat.reduceAdd, Nat.reduceSub]
    try simp only [↓r_seq, ↓r_next, ↓r_var0, ↓r_gn0, ↓r_var1, ↓r_gn1, ↓r_var2, ↓r_gn2, ↓r_var3, ↓r_gn3, ↓r_var4, ↓r_gn4, ↓r_var5, ↓r_gn5, ↓r_var6, ↓r_gn6, ↓r_var7, ↓r_gn7, ↓r_var8, ↓r_gn8, ↓r_var9, ↓r_gn9, ↓r_var10, ↓r_gn10, ↓r_var11, ↓r_gn11, ↓r_var12, ↓r_gn12, ↓r_var13, ↓r_gn13, ↓r_var14, ↓r_gn14, ↓r_var15, ↓r_gn15, ↓r_var16, ↓r_gn16, ↓r_var17, ↓r_gn17, ↓r_var18, ↓r_gn18, ↓r_var19, ↓r_gn19, ↓r_c, ↓r_op, ↓r_un, ↓r_test, ↓r_tb, ↓r_bl, ↓r_ifs, ↓r_ret, ↓r_retn, ↓r_asg, ↓r_and, ↓r_or, ↓r_not, ↓r_andv, ↓r_orv, ↓r_notv, ↓r_drop, ↓r_cons, ↓r_nil, ↓r_cb, ↓r_lst, ↓r_tup, ↓r_call, ↓r_sl, ↓r_nopart, ↓r_part, ↓r_int, ↓r_bm, ↓r_bm0, ↓r_if, ↓r_chain, ↓r_true, ↓r_add, ↓r_adds, ↓r_addr, ↓r_sub, ↓r_mul, ↓r_div, ↓r_mod, ↓r_pow, ↓r_lt, ↓r_le, ↓r_gt, ↓r_ge, ↓r_eqint, ↓r_neint, ↓r_eqstr, ↓r_nestr, ↓r_eqbl, ↓r_nebl, ↓r_ins, ↓r_nins, ↓r_inint, ↓r_ninint, ↓r_instr, ↓r_ninstr, ↓r_ixs, ↓r_ixr, ↓r_sls, ↓r_slr, ↓r_lens, ↓r_lenr, ↓r_max, ↓r_min, ↓r_inti, ↓r_intb, ↓r_isi, ↓r_isic, ↓r_fld, ↓r_cxK, ↓r_nilapp, ↓r_for, ↓r_jof, ↓r_jrng1, ↓r_jrng2, ↓r_urng1, ↓r_urng2, ↓r_ulist, ↓r_utup, ↓r_ustr, ↓r_comp, ↓r_const, ↓r_eqDrr, ↓r_neDrr, ↓r_eqDii, ↓r_neDii, ↓r_eqDss, ↓r_neDss, ↓r_eqDbb, ↓r_neDbb, ↓r_sum, ↓r_mulB, ↓r_par, ↓r_two, ↓r_addLi, ↓r_addLs, ↓r_addLr, ↓r_neg, ↓r_listof, ↓r_tupof, ↓r_gsub, ↓r_setl, ↓r_jargs, ↓r_zip, ↓r_enum, ↓r_minA1, ↓r_minA2, ↓r_maxA1, ↓r_maxA2]
    refine ⟨_, true, .lst ha, (by first | rfl | decide +kernel), ?_⟩
    rw [if_neg (by decide)]
    refine ⟨_, .inl (SqL.of ha), _, .inl hb, ?_⟩
    rw [if_neg (by simp)]
    refine ⟨_, .inl hb, ?_⟩
    rw [List.length_map]
    refine ⟨by omega, by omega, for_range (fun i σ H2 => ∃ k : Option V, σ = [some (.ref a), some (.ref b), k] ∧ H2 = H) ⟨_, rfl, rfl⟩ ?_ ?_⟩
    · rintro i σ H2 hi ⟨k, rfl, rfl⟩
      obtain ⟨z, hz, _⟩ := atI_ints (ns := ns) (i := 0 + (i : Int)) (by omega) (by omega)
      try simp only [↓r_seq, ↓r_next, ↓r_var0, ↓r_gn0, ↓r_var1, ↓r_gn1, ↓r_var2, ↓r_gn2, ↓r_var3, ↓r_gn3, ↓r_var4, ↓r_gn4, ↓r_var5, ↓r_gn5, ↓r_var6, ↓r_gn6, ↓r_var7, ↓r_gn7, ↓r_var8, ↓r_gn8, ↓r_var9, ↓r_gn9, ↓r_var10, ↓r_gn10, ↓r_var11, ↓r_gn11, ↓r_var12, ↓r_gn12, ↓r_var13, ↓r_gn13, ↓r_var14, ↓r_gn14, ↓r_var15, ↓r_gn15, ↓r_var16, ↓r_gn16, ↓r_var17, ↓r_gn17, ↓r_var18, ↓r_gn18, ↓r_var19, ↓r_gn19, ↓r_c, ↓r_op, ↓r_un, ↓r_test, ↓r_tb, ↓r_bl, ↓r_ifs, ↓r_ret, ↓r_retn, ↓r_asg, ↓r_and, ↓r_or, ↓r_not, ↓r_andv, ↓r_orv, ↓r_notv, ↓r_drop, ↓r_cons, ↓r_nil, ↓r_cb, ↓r_lst, ↓r_tup, ↓r_call, ↓r_sl, ↓r_nopart, ↓r_part, ↓r_int, ↓r_bm, ↓r_bm0, ↓r_if, ↓r_chain, ↓r_true, ↓r_add, ↓r_adds, ↓r_addr, ↓r_sub, ↓r_mul, ↓r_div, ↓r_mod, ↓r_pow, ↓r_lt, ↓r_le, ↓r_gt, ↓r_ge, ↓r_eqint, ↓r_neint, ↓r_eqstr, ↓r_nestr, ↓r_eqbl, ↓r_nebl, ↓r_ins, ↓r_nins, ↓r_inint, ↓r_ninint, ↓r_instr, ↓r_ninstr, ↓r_ixs, ↓r_ixr, ↓r_sls, ↓r_slr, ↓r_lens, ↓r_lenr, ↓r_max, ↓r_min, ↓r_inti, ↓r_intb, ↓r_isi, ↓r_isic, ↓r_fld, ↓r_cxK, ↓r_nilapp, ↓r_for, ↓r_jof, ↓r_jrng1, ↓r_jrng2, ↓r_urng1, ↓r_urng2, ↓r_ulist, ↓r_utup, ↓r_ustr, ↓r_comp, ↓r_const, ↓r_eqDrr, ↓r_neDrr, ↓r_eqDii, ↓r_neDii, ↓r_eqDss, ↓r_neDss, ↓r_eqDbb, ↓r_neDbb, ↓r_sum, ↓r_mulB, ↓r_par, ↓r_two, ↓r_addLi, ↓r_addLs, ↓r_addLr, ↓r_neg, ↓r_listof, ↓r_tupof, ↓r_gsub, ↓r_setl, ↓r_jargs, ↓r_zip, ↓r_enum, ↓r_minA1, ↓r_minA2, ↓r_maxA1, ↓r_maxA2]
      refine ⟨_, _, .inl (SqL.of ha), hz, z, rfl, ?_⟩
      try simp only [↓r_seq, ↓r_next, ↓r_var0, ↓r_gn0, ↓r_var1, ↓r_gn1, ↓r_var2, ↓r_gn2, ↓r_var3, ↓r_gn3, ↓r_var4, ↓r_gn4, ↓r_var5, ↓r_gn5, ↓r_var6, ↓r_gn6, ↓r_var7, ↓r_gn7, ↓r_var8, ↓r_gn8, ↓r_var9, ↓r_gn9, ↓r_var10, ↓r_gn10, ↓r_var11, ↓r_gn11, ↓r_var12, ↓r_gn12, ↓r_var13, ↓r_gn13, ↓r_var14, ↓r_gn14, ↓r_var15, ↓r_gn15, ↓r_var16, ↓r_gn16, ↓r_var17, ↓r_gn17, ↓r_var18, ↓r_gn18, ↓r_var19, ↓r_gn19, ↓r_c, ↓r_op, ↓r_un, ↓r_test, ↓r_tb, ↓r_bl, ↓r_ifs, ↓r_ret, ↓r_retn, ↓r_asg, ↓r_and, ↓r_or, ↓r_not, ↓r_andv, ↓r_orv, ↓r_notv, ↓r_drop, ↓r_cons, ↓r_nil, ↓r_cb, ↓r_lst, ↓r_tup, ↓r_call, ↓r_sl, ↓r_nopart, ↓r_part, ↓r_int, ↓r_bm, ↓r_bm0, ↓r_if, ↓r_chain, ↓r_true, ↓r_add, ↓r_adds, ↓r_addr, ↓r_sub, ↓r_mul, ↓r_div, ↓r_mod, ↓r_pow, ↓r_lt, ↓r_le, ↓r_gt, ↓r_ge, ↓r_eqint, ↓r_neint, ↓r_eqstr, ↓r_nestr, ↓r_eqbl, ↓r_nebl, ↓r_ins, ↓r_nins, ↓r_inint, ↓r_ninint, ↓r_instr, ↓r_ninstr, ↓r_ixs, ↓r_ixr, ↓r_sls, ↓r_slr, ↓r_lens, ↓r_lenr, ↓r_max, ↓r_min, ↓r_inti, ↓r_intb, ↓r_isi, ↓r_isic, ↓r_fld, ↓r_cxK, ↓r_nilapp, ↓r_for, ↓r_jof, ↓r_jrng1, ↓r_jrng2, ↓r_urng1, ↓r_urng2, ↓r_ulist, ↓r_utup, ↓r_ustr, ↓r_comp, ↓r_const, ↓r_eqDrr, ↓r_neDrr, ↓r_eqDii, ↓r_neDii, ↓r_eqDss, ↓r_neDss, ↓r_eqDbb, ↓r_neDbb, ↓r_sum, ↓r_mulB, ↓r_par, ↓r_two, ↓r_addLi, ↓r_addLs, ↓r_addLr, ↓r_neg, ↓r_listof, ↓r_tupof, ↓r_gsub, ↓r_setl, ↓r_jargs, ↓r_zip, ↓r_enum, ↓r_minA1, ↓r_minA2, ↓r_maxA1, ↓r_maxA2]
      rw [if_neg (by decide)]
      refine ⟨_, _, .inl (SqL.of ha), hz, _, _, .inl hb, hz, ?_⟩
      try simp only [↓r_seq, ↓r_next, ↓r_var0, ↓r_gn0, ↓r_var1, ↓r_gn1, ↓r_var2, ↓r_gn2, ↓r_var3, ↓r_gn3, ↓r_var4, ↓r_gn4, ↓r_var5, ↓r_gn5, ↓r_var6, ↓r_gn6, ↓r_var7, ↓r_gn7, ↓r_var8, ↓r_gn8, ↓r_var9, ↓r_gn9, ↓r_var10, ↓r_gn10, ↓r_var11, ↓r_gn11, ↓r_var12, ↓r_gn12, ↓r_var13, ↓r_gn13, ↓r_var14, ↓r_gn14, ↓r_var15, ↓r_gn15, ↓r_var16, ↓r_gn16, ↓r_var17, ↓r_gn17, ↓r_var18, ↓r_gn18, ↓r_var19, ↓r_gn19, ↓r_c, ↓r_op, ↓r_un, ↓r_test, ↓r_tb, ↓r_bl, ↓r_ifs, ↓r_ret, ↓r_retn, ↓r_asg, ↓r_and, ↓r_or, ↓r_not, ↓r_andv, ↓r_orv, ↓r_notv, ↓r_drop, ↓r_cons, ↓r_nil, ↓r_cb, ↓r_lst, ↓r_tup, ↓r_call, ↓r_sl, ↓r_nopart, ↓r_part, ↓r_int, ↓r_bm, ↓r_bm0, ↓r_if, ↓r_chain, ↓r_true, ↓r_add, ↓r_adds, ↓r_addr, ↓r_sub, ↓r_mul, ↓r_div, ↓r_mod, ↓r_pow, ↓r_lt, ↓r_le, ↓r_gt, ↓r_ge, ↓r_eqint, ↓r_neint, ↓r_eqstr, ↓r_nestr, ↓r_eqbl, ↓r_nebl, ↓r_ins, ↓r_nins, ↓r_inint, ↓r_ninint, ↓r_instr, ↓r_ninstr, ↓r_ixs, ↓r_ixr, ↓r_sls, ↓r_slr, ↓r_lens, ↓r_lenr, ↓r_max, ↓r_min, ↓r_inti, ↓r_intb, ↓r_isi, ↓r_isic, ↓r_fld, ↓r_cxK, ↓r_nilapp, ↓r_for, ↓r_jof, ↓r_jrng1, ↓r_jrng2, ↓r_urng1, ↓r_urng2, ↓r_ulist, ↓r_utup, ↓r_ustr, ↓r_comp, ↓r_const, ↓r_eqDrr, ↓r_neDrr, ↓r_eqDii, ↓r_neDii, ↓r_eqDss, ↓r_neDss, ↓r_eqDbb, ↓r_neDbb, ↓r_sum, ↓r_mulB, ↓r_par, ↓r_two, ↓r_addLi, ↓r_addLs, ↓r_addLr, ↓r_neg, ↓r_listof, ↓r_tupof, ↓r_gsub, ↓r_setl, ↓r_jargs, ↓r_zip, ↓r_enum, ↓r_minA1, ↓r_minA2, ↓r_maxA1, ↓r_maxA2]
      rw [if_neg (by simp)]
      exact ⟨_, rfl, trivial⟩
    · rintro σ H2 ⟨k, rfl, rfl⟩
      try simp only [↓r_seq, ↓r_next, ↓r_var0, ↓r_gn0, ↓r_var1, ↓r_gn1, ↓r_var2, ↓r_gn2, ↓r_var3, ↓r_gn3, ↓r_var4, ↓r_gn4, ↓r_var5, ↓r_gn5, ↓r_var6, ↓r_gn6, ↓r_var7, ↓r_gn7, ↓r_var8, ↓r_gn8, ↓r_var9, ↓r_gn9, ↓r_var10, ↓r_gn10, ↓r_var11, ↓r_gn11, ↓r_var12, ↓r_gn12, ↓r_var13, ↓r_gn13, ↓r_var14, ↓r_gn14, ↓r_var15, ↓r_gn15, ↓r_var16, ↓r_gn16, ↓r_var17, ↓r_gn17, ↓r_var18, ↓r_gn18, ↓r_var19, ↓r_gn19, ↓r_c, ↓r_op, ↓r_un, ↓r_test, ↓r_tb, ↓r_bl, ↓r_ifs, ↓r_ret, ↓r_retn, ↓r_asg, ↓r_and, ↓r_or, ↓r_not, ↓r_andv, ↓r_orv, ↓r_notv, ↓r_drop, ↓r_cons, ↓r_nil, ↓r_cb, ↓r_lst, ↓r_tup, ↓r_call, ↓r_sl, ↓r_nopart, ↓r_part, ↓r_int, ↓r_bm, ↓r_bm0, ↓r_if, ↓r_chain, ↓r_true, ↓r_add, ↓r_adds, ↓r_addr, ↓r_sub, ↓r_mul, ↓r_div, ↓r_mod, ↓r_pow, ↓r_lt, ↓r_le, ↓r_gt, ↓r_ge, ↓r_eqint, ↓r_neint, ↓r_eqstr, ↓r_nestr, ↓r_eqbl, ↓r_nebl, ↓r_ins, ↓r_nins, ↓r_inint, ↓r_ninint, ↓r_instr, ↓r_ninstr, ↓r_ixs, ↓r_ixr, ↓r_sls, ↓r_slr, ↓r_lens, ↓r_lenr, ↓r_max, ↓r_min, ↓r_inti, ↓r_intb, ↓r_isi, ↓r_isic, ↓r_fld, ↓r_cxK, ↓r_nilapp, ↓r_for, ↓r_jof, ↓r_jrng1, ↓r_jrng2, ↓r_urng1, ↓r_urng2, ↓r_ulist, ↓r_utup, ↓r_ustr, ↓r_comp, ↓r_const, ↓r_eqDrr, ↓r_neDrr, ↓r_eqDii, ↓r_neDii, ↓r_eqDss, ↓r_neDss, ↓r_eqDbb, ↓r_neDbb, ↓r_sum, ↓r_mulB, ↓r_par, ↓r_two, ↓r_addLi, ↓r_addLs, ↓r_addLr, ↓r_neg, ↓r_listof, ↓r_tupof, ↓r_gsub, ↓r_setl, ↓r_jargs, ↓r_zip, ↓r_enum, ↓r_minA1, ↓r_minA2, ↓r_maxA1, ↓r_maxA2]
      exact q
end
def sp_rows (K : PySem.W.Frag) (b : Nat) : Sp := fun vs H Q _ => ∃ (ad : Addr) (as : List Int), vs = [.ref ad] ∧ SqL K H ad (as.map V.int) ∧ MM.Amt b as ∧
  ∀ l H', H l = none → Same H H' → H' l = some (.lst ((MM.rowsL as (as.length - 1)).map V.int)) → Q (.ref l) H'
section
variable {P : Program} {w : World} {K : PySem.W.Frag} {mg : Str → Option Value} {base : Heap} {f_row_counts f_ring_counts f_begun_counts f_divisors f_sharing_none f_shared f_w_whole f_w_is_row f_w_cell f_w_rows_of f_w_rings_of f_law : Addr} {d_row_counts d_ring_counts d_begun_counts d_divisors d_sharing_none d_shared d_w_whole d_w_is_row d_w_cell d_w_rows_of d_w_rings_of d_law : FuncData}
theorem ok_rows (T : TX K mg f_row_counts f_ring_counts f_begun_counts f_divisors f_sharing_none f_shared f_w_whole f_w_is_row f_w_cell f_w_rows_of f_w_rings_of f_law d_row_counts d_ring_counts d_begun_counts d_divisors d_sharing_none d_shared d_w_whole d_w_is_row d_w_cell d_w_rows_of d_w_rings_of d_law) (b : Nat) (hb : b ≤ 200) : FnOk P w K mg base CX0 1 f_row_counts d_row_counts ["a"] (sp_rows K b) := by
  refine T.F_row_counts.ok2 (sc := ?sc) (body := ?bd) ?hs ?hb sc_row_counts (fun vs H Q E h => ?_) (fun S cdv A outer s H vs Q E hr h => ?_)
  case hs => conv => lhs; whnf
  case hb => conv => lhs; whnf
  · obtain ⟨_, _, rfl, _⟩ := h
    rfl
  · obtain ⟨ad, as, rfl, hS, hA, q⟩ := h
    obtain ⟨hA1, hA2, hA3, hA4⟩ := id hA
    refine ⟨_, (pss_cons (ps_set (i := 1) S.nd rfl (Or.inr rfl) (pe_lst (pa_cons pe_int pa_nil)))
      (pss_cons (ps_for PassesOwn.never rfl (pj_range2 rfl T.n_range (pa_cons pe_int (pa_cons (pe_callB c_len (by rfl) T.n_len (by decide +kernel) (pa_cons (pv 0) pa_nil)) pa_nil))) (pg_name (i := 2) S.nd rfl (Or.inr rfl))
      (pss_one (ps_expr (pe_bm PySem.F.plainAttrs_list PySem.F.slot_list_append PySem.F.type_list_append mt_append (pv 1) (pa_cons (pe_callB (c_sum rfl) (by rfl) T.n_sum (by decide +kernel) (pa_cons (pe_comp (ts := ["k"]) (frs' := [("a", 0), ("rows", 1), ("size", 2)]) (cl := _) rfl ⟨(by rfl), rfl, (by decide +kernel), (by decide +kernel), (allm_cons (by rfl) (allm_cons (by rfl) (allm_cons (by rfl) allm_nil))), (free_has (by rfl) (by rfl)), (allm_cons ⟨(by rfl), (by first | exact .inl rfl | exact .inr rfl), (by first | exact .inl rfl | exact .inr rfl), (by rfl)⟩ (allm_cons ⟨(by rfl), (by first | exact .inl rfl | exact .inr rfl), (by first | exact .inl rfl | exact .inr rfl), (by rfl)⟩ (allm_cons ⟨(by rfl), (by first | exact .inl rfl | exact .inr rfl), (by first | exact .inl rfl | exact .inr rfl), (by rfl)⟩ allm_nil)))⟩ (pj_range2 rfl T.n_range (pa_cons pe_int (pa_cons (pe_op o_addL (pv 2) pe_int) pa_nil))) (fun _ _ _ _ => pg_name (i := 0) (show List.Nodup (["k", "a", "rows", "size"] : List Str) from by decide +kernel) rfl (Or.inl rfl) (.inr rfl)) (fun _ _ _ _ => pifs_nil) (fun _ _ _ _ => by exact (pe_op o_mulB (pe_ix (k_ix K rfl) (pv 1) (pv 0) (fun _ _ => rfl)) (pe_ix (k_ix K rfl) (pv 2) (pe_op o_sub (pv 3) (pv 0)) (fun _ _ => rfl))))) pa_nil)) pa_nil)))))
      (pss_one (ps_ret (pv 1))))), ?_⟩
    simp only [L2.start, List.map_cons, List.map_nil, List.length_cons, List.length_nil, List.replicate, List.cons_append, List.nil_append, Nat.reduceAdd, Nat.reduceSub]
    try simp only [↓r_seq, ↓r_next, ↓r_var0, ↓r_gn0, ↓r_var1, ↓r_gn1, ↓r_var2, ↓r_gn2, ↓r_var3, ↓r_gn3, ↓r_var4, ↓r_gn4, ↓r_var5, ↓r_gn5, ↓r_var6, ↓r_gn6, ↓r_var7, ↓r_gn7, ↓r_var8, ↓r_gn8, ↓r_var9, ↓r_gn9, ↓r_var10, ↓r_gn10, ↓r_var11, ↓r_gn11, ↓r_var12, ↓r_gn12, ↓r_var13, ↓r_gn13, ↓r_var14, ↓r_gn14, ↓r_var15, ↓r_gn15, ↓r_var16, ↓r_gn16, ↓r_var17, ↓r_gn17, ↓r_var18, ↓r_gn18, ↓r_var19, ↓r_gn19, ↓r_c, ↓r_op, ↓r_un, ↓r_test, ↓r_tb, ↓r_bl, ↓r_ifs, ↓r_ret, ↓r_retn, ↓r_asg, ↓r_and, ↓r_or, ↓r_not, ↓r_andv, ↓r_orv, ↓r_notv, ↓r_drop, ↓r_cons, ↓r_nil, ↓r_cb, ↓r_lst, ↓r_tup, ↓r_call, ↓r_sl, ↓r_nopart, ↓r_part, ↓r_int, ↓r_bm, ↓r_bm0, ↓r_if, ↓r_chain, ↓r_true, ↓r_add, ↓r_adds, ↓r_addr, ↓r_sub, ↓r_mul, ↓r_div, ↓r_mod, ↓r_pow, ↓r_lt, ↓r_le, ↓r_gt, ↓r_ge, ↓r_eqint, ↓r_neint, ↓r_eqstr, ↓r_nestr, ↓r_eqbl, ↓r_nebl, ↓r_ins, ↓r_nins, ↓r_inint, ↓r_ninint, ↓r_instr, ↓r_ninstr, ↓r_ixs, ↓r_ixr, ↓r_sls, ↓r_slr, ↓r_lens, ↓r_lenr, ↓r_max, ↓r_min, ↓r_inti, ↓r_intb, ↓r_isi, ↓r_isic, ↓r_fld, ↓r_cxK, ↓r_nilapp, ↓r_for, ↓r_jof, ↓r_jrng1, ↓r_jrng2, ↓r_urng1, ↓r_urng2, ↓r_ulist, ↓r_utup, ↓r_ustr, ↓r_comp, ↓r_const, ↓r_eqDrr, ↓r_neDrr, ↓r_eqDii, ↓r_neDii, ↓r_eqDss, ↓r_neDss, ↓r_eqDbb, ↓r_neDbb, ↓r_sum, ↓r_mulB, ↓r_par, ↓r_two, ↓r_addLi, ↓r_addLs, ↓r_addLr, ↓r_neg, ↓r_listof, ↓r_tupof, ↓r_gsub, ↓r_setl, ↓r_jargs, ↓r_zip, ↓r_enum, ↓r_minA1, ↓r_minA2, ↓r_maxA1, ↓r_maxA2]
    refine ⟨by decide, fun r hr0 => ?_⟩
    try simp only [↓r_seq, ↓r_next, ↓r_var0, ↓r_gn0, ↓r_var1, ↓r_gn1, ↓r_var2, ↓r_gn2, ↓r_var3, ↓r_gn3, ↓r_var4, ↓r_gn4, ↓r_var5, ↓r_gn5, ↓r_var6, ↓r_gn6, ↓r_var7, ↓r_gn7, ↓r_var8, ↓r_gn8, ↓r_var9, ↓r_gn9, ↓r_var10, ↓r_gn10, ↓r_var11, ↓r_gn11, ↓r_var12, ↓r_gn12, ↓r_var13, ↓r_gn13, ↓r_var14, ↓r_gn14, ↓r_var15, ↓r_gn15, ↓r_var16, ↓r_gn16, ↓r_var17, ↓r_gn17, ↓r_var18, ↓r_gn18, ↓r_var19, ↓r_gn19, ↓r_c, ↓r_op, ↓r_un, ↓r_test, ↓r_tb, ↓r_bl, ↓r_ifs, ↓r_ret, ↓r_retn, ↓r_asg, ↓r_and, ↓r_or, ↓r_not, ↓r_andv, ↓r_orv, ↓r_notv, ↓r_drop, ↓r_cons, ↓r_nil, ↓r_cb, ↓r_lst, ↓r_tup, ↓r_call, ↓r_sl, ↓r_nopart, ↓r_part, ↓r_int, ↓r_bm, ↓r_bm0, ↓r_if, ↓r_chain, ↓r_true, ↓r_add, ↓r_adds, ↓r_addr, ↓r_sub, ↓r_mul, ↓r_div, ↓r_mod, ↓r_pow, ↓r_lt, ↓r_le, ↓r_gt, ↓r_ge, ↓r_eqint, ↓r_neint, ↓r_eqstr, ↓r_nestr, ↓r_eqbl, ↓r_nebl, ↓r_ins, ↓r_nins, ↓r_inint, ↓r_ninint, ↓r_instr, ↓r_ninstr, ↓r_ixs, ↓r_ixr, ↓r_sls, ↓r_slr, ↓r_lens, ↓r_lenr, ↓r_max, ↓r_min, ↓r_inti, ↓r_intb, ↓r_isi, ↓r_isic, ↓r_fld, ↓r_cxK, ↓r_nilapp, ↓r_for, ↓r_jof, ↓r_jrng1, ↓r_jrng2, ↓r_urng1, ↓r_urng2, ↓r_ulist, ↓r_utup, ↓r_ustr, ↓r_comp, ↓r_const, ↓r_eqDrr, ↓r_neDrr, ↓r_eqDii, ↓r_neDii, ↓r_eqDss, ↓r_neDss, ↓r_eqDbb, ↓r_neDbb, ↓r_sum, ↓r_mulB, ↓r_par, ↓r_two, ↓r_addLi, ↓r_addLs, ↓r_addLr, ↓r_neg, ↓r_listof, ↓r_tupof, ↓r_gsub, ↓r_setl, ↓r_jargs, ↓r_zip, ↓r_enum, ↓r_minA1, ↓r_minA2, ↓r_maxA1, ↓r_maxA2]
    have hS0 := (Same.upd_new (o := .lst [V.int 1]) hr0).seq hS
    refine ⟨_, .inl hS0, ⟨by decide, by decide, by rw [List.length_map]; omega, by rw [List.length_map]; omega⟩, ?_⟩
    have en : (((as.map V.int).length : Int) - 1).toNat = as.length - 1 := by rw [List.length_map]; omega
    rw [en]
    refine for_range (fun i σ H2 => ∃ k : Option V, σ = [some (.ref ad), some (.ref r), k] ∧ Same H H2 ∧ H2 r = some (.lst ((MM.rowsL as i).map V.int))) ⟨_, rfl, Same.upd_new hr0, upd_same⟩ ?_ ?_
    · rintro i σ H2 hi ⟨k, rfl, hs, hr2⟩
      try simp only [↓r_seq, ↓r_next, ↓r_var0, ↓r_gn0, ↓r_var1, ↓r_gn1, ↓r_var2, ↓r_gn2, ↓r_var3, ↓r_gn3, ↓r_var4, ↓r_gn4, ↓r_var5, ↓r_gn5, ↓r_var6, ↓r_gn6, ↓r_var7, ↓r_gn7, ↓r_var8, ↓r_gn8, ↓r_var9, ↓r_gn9, ↓r_var10, ↓r_gn10, ↓r_var11, ↓r_gn11, ↓r_var12, ↓r_gn12, ↓r_var13, ↓r_gn13, ↓r_var14, ↓r_gn14, ↓r_var15, ↓r_gn15, ↓r_var16, ↓r_gn16, ↓r_var17, ↓r_gn17, ↓r_var18, ↓r_gn18, ↓r_var19, ↓r_gn19, ↓r_c, ↓r_op, ↓r_un, ↓r_test, ↓r_tb, ↓r_bl, ↓r_ifs, ↓r_ret, ↓r_retn, ↓r_asg, ↓r_and, ↓r_or, ↓r_not, ↓r_andv, ↓r_orv, ↓r_notv, ↓r_drop, ↓r_cons, ↓r_nil, ↓r_cb, ↓r_lst, ↓r_tup, ↓r_call, ↓r_sl, ↓r_nopart, ↓r_part, ↓r_int, ↓r_bm, ↓r_bm0, ↓r_if, ↓r_chain, ↓r_true, ↓r_add, ↓r_adds, ↓r_addr, ↓r_sub, ↓r_mul, ↓r_div, ↓r_mod, ↓r_pow, ↓r_lt, ↓r_le, ↓r_gt, ↓r_ge, ↓r_eqint, ↓r_neint, ↓r_eqstr, ↓r_nestr, ↓r_eqbl, ↓r_nebl, ↓r_ins, ↓r_nins, ↓r_inint, ↓r_ninint, ↓r_instr, ↓r_ninstr, ↓r_ixs, ↓r_ixr, ↓r_sls, ↓r_slr, ↓r_lens, ↓r_lenr, ↓r_max, ↓r_min, ↓r_inti, ↓r_intb, ↓r_isi, ↓r_isic, ↓r_fld, ↓r_cxK, ↓r_nilapp, ↓r_for, ↓r_jof, ↓r_jrng1, ↓r_jrng2, ↓r_urng1, ↓r_urng2, ↓r_ulist, ↓r_utup, ↓r_ustr, ↓r_comp, ↓r_const, ↓r_eqDrr, ↓r_neDrr, ↓r_eqDii, ↓r_neDii, ↓r_eqDss, ↓r_neDss, ↓r_eqDbb, ↓r_neDbb, ↓r_sum, ↓r_mulB, ↓r_par, ↓r_two, ↓r_addLi, ↓r_addLs, ↓r_addLr, ↓r_neg, ↓r_listof, ↓r_tupof, ↓r_gsub, ↓r_setl, ↓r_jargs, ↓r_zip, ↓r_enum, ↓r_minA1, ↓r_minA2, ↓r_maxA1, ↓r_maxA2]
      refine ⟨.inl ⟨rfl, _, SqL.of hr2⟩, ⟨by decide, by decide, by omega, by omega⟩, fun l hl => ?_⟩
      have e1 : (1 + (i : Int) + 1 - 1).toNat = i + 1 := by omega
      rw [e1]
      try simp only [L2.compStart, List.replicate, List.map_cons, List.map_nil, List.getElem?_cons_zero, List.getElem?_cons_succ, Option.join_some, List.cons_append, List.nil_append]
      refine cl_rngI (fun j => MM.at0 as (1 + j) * MM.at0 (MM.rowsL as i) (i + 1 - (1 + j))) hl (by omega) (fun j H3 hj hs3 Cy hy => ?_) (fun H3 hs3 hl3 => ?_)
      · try simp only [↓r_seq, ↓r_next, ↓r_var0, ↓r_gn0, ↓r_var1, ↓r_gn1, ↓r_var2, ↓r_gn2, ↓r_var3, ↓r_gn3, ↓r_var4, ↓r_gn4, ↓r_var5, ↓r_gn5, ↓r_var6, ↓r_gn6, ↓r_var7, ↓r_gn7, ↓r_var8, ↓r_gn8, ↓r_var9, ↓r_gn9, ↓r_var10, ↓r_gn10, ↓r_var11, ↓r_gn11, ↓r_var12, ↓r_gn12, ↓r_var13, ↓r_gn13, ↓r_var14, ↓r_gn14, ↓r_var15, ↓r_gn15, ↓r_var16, ↓r_gn16, ↓r_var17, ↓r_gn17, ↓r_var18, ↓r_gn18, ↓r_var19, ↓r_gn19, ↓r_c, ↓r_op, ↓r_un, ↓r_test, ↓r_tb, ↓r_bl, ↓r_ifs, ↓r_ret, ↓r_retn, ↓r_asg, ↓r_and, ↓r_or, ↓r_not, ↓r_andv, ↓r_orv, ↓r_notv, ↓r_drop, ↓r_cons, ↓r_nil, ↓r_cb, ↓r_lst, ↓r_tup, ↓r_call, ↓r_sl, ↓r_nopart, ↓r_part, ↓r_int, ↓r_bm, ↓r_bm0, ↓r_if, ↓r_chain, ↓r_true, ↓r_add, ↓r_adds, ↓r_addr, ↓r_sub, ↓r_mul, ↓r_div, ↓r_mod, ↓r_pow, ↓r_lt, ↓r_le, ↓r_gt, ↓r_ge, ↓r_eqint, ↓r_neint, ↓r_eqstr, ↓r_nestr, ↓r_eqbl, ↓r_nebl, ↓r_ins, ↓r_nins, ↓r_inint, ↓r_ninint, ↓r_instr, ↓r_ninstr, ↓r_ixs, ↓r_ixr, ↓r_sls, ↓r_slr, ↓r_lens, ↓r_lenr, ↓r_max, ↓r_min, ↓r_inti, ↓r_intb, ↓r_isi, ↓r_isic, ↓r_fld, ↓r_cxK, ↓r_nilapp, ↓r_for, ↓r_jof, ↓r_jrng1, ↓r_jrng2, ↓r_urng1, ↓r_urng2, ↓r_ulist, ↓r_utup, ↓r_ustr, ↓r_comp, ↓r_const, ↓r_eqDrr, ↓r_neDrr, ↓r_eqDii, ↓r_neDii, ↓r_eqDss, ↓r_neDss, ↓r_eqDbb, ↓r_neDbb, ↓r_sum, ↓r_mulB, ↓r_par, ↓r_two, ↓r_addLi, ↓r_addLs, ↓r_addLr, ↓r_neg, ↓r_listof, ↓r_tupof, ↓r_gsub, ↓r_setl, ↓r_jargs, ↓r_zip, ↓r_enum, ↓r_minA1, ↓r_minA2, ↓r_maxA1, ↓r_maxA2]
        refine ⟨_, _, .inl ((hs.trans hs3).seq hS), atI_at0 (1 + j) (by omega) (by omega), _, _, .inl (SqL.of (hs3 _ _ hr2)), atI_at0 (i + 1 - (1 + j)) (by omega) (by rw [MM.rowsL_len]; omega), ?_⟩
        try simp only [↓r_seq, ↓r_next, ↓r_var0, ↓r_gn0, ↓r_var1, ↓r_gn1, ↓r_var2, ↓r_gn2, ↓r_var3, ↓r_gn3, ↓r_var4, ↓r_gn4, ↓r_var5, ↓r_gn5, ↓r_var6, ↓r_gn6, ↓r_var7, ↓r_gn7, ↓r_var8, ↓r_gn8, ↓r_var9, ↓r_gn9, ↓r_var10, ↓r_gn10, ↓r_var11, ↓r_gn11, ↓r_var12, ↓r_gn12, ↓r_var13, ↓r_gn13, ↓r_var14, ↓r_gn14, ↓r_var15, ↓r_gn15, ↓r_var16, ↓r_gn16, ↓r_var17, ↓r_gn17, ↓r_var18, ↓r_gn18, ↓r_var19, ↓r_gn19, ↓r_c, ↓r_op, ↓r_un, ↓r_test, ↓r_tb, ↓r_bl, ↓r_ifs, ↓r_ret, ↓r_retn, ↓r_asg, ↓r_and, ↓r_or, ↓r_not, ↓r_andv, ↓r_orv, ↓r_notv, ↓r_drop, ↓r_cons, ↓r_nil, ↓r_cb, ↓r_lst, ↓r_tup, ↓r_call, ↓r_sl, ↓r_nopart, ↓r_part, ↓r_int, ↓r_bm, ↓r_bm0, ↓r_if, ↓r_chain, ↓r_true, ↓r_add, ↓r_adds, ↓r_addr, ↓r_sub, ↓r_mul, ↓r_div, ↓r_mod, ↓r_pow, ↓r_lt, ↓r_le, ↓r_gt, ↓r_ge, ↓r_eqint, ↓r_neint, ↓r_eqstr, ↓r_nestr, ↓r_eqbl, ↓r_nebl, ↓r_ins, ↓r_nins, ↓r_inint, ↓r_ninint, ↓r_instr, ↓r_ninstr, ↓r_ixs, ↓r_ixr, ↓r_sls, ↓r_slr, ↓r_lens, ↓r_lenr, ↓r_max, ↓r_min, ↓r_inti, ↓r_intb, ↓r_isi, ↓r_isic, ↓r_fld, ↓r_cxK, ↓r_nilapp, ↓r_for, ↓r_jof, ↓r_jrng1, ↓r_jrng2, ↓r_urng1, ↓r_urng2, ↓r_ulist, ↓r_utup, ↓r_ustr, ↓r_comp, ↓r_const, ↓r_eqDrr, ↓r_neDrr, ↓r_eqDii, ↓r_neDii, ↓r_eqDss, ↓r_neDss, ↓r_eqDbb, ↓r_neDbb, ↓r_sum, ↓r_mulB, ↓r_par, ↓r_two, ↓r_addLi, ↓r_addLs, ↓r_addLr, ↓r_neg, ↓r_listof, ↓r_tupof, ↓r_gsub, ↓r_setl, ↓r_jargs, ↓r_zip, ↓r_enum, ↓r_minA1, ↓r_minA2, ↓r_maxA1, ↓r_maxA2]
        obtain ⟨b1, b2⟩ := MM.rows_bound hA i (by omega) (i + 1 - (1 + j)) (by omega)
        obtain ⟨c1, c2⟩ := hA4 (1 + j)
        have hbig : (b + 7) * (i + 1 - (1 + j)) < 20000 := by
          have h1 : (b + 7) * (i + 1 - (1 + j)) ≤ 207 * 41 := Nat.mul_le_mul (by omega) (by omega)
          omega
        exact ⟨mul_ok (MM.abs_lt_of c1 (Int.le_of_lt c2) (Nat.lt_succ_self b)) (MM.abs_lt_of b1 b2 hbig) (by omega), hy _ (Same.refl _)⟩
      · try simp only [↓r_seq, ↓r_next, ↓r_var0, ↓r_gn0, ↓r_var1, ↓r_gn1, ↓r_var2, ↓r_gn2, ↓r_var3, ↓r_gn3, ↓r_var4, ↓r_gn4, ↓r_var5, ↓r_gn5, ↓r_var6, ↓r_gn6, ↓r_var7, ↓r_gn7, ↓r_var8, ↓r_gn8, ↓r_var9, ↓r_gn9, ↓r_var10, ↓r_gn10, ↓r_var11, ↓r_gn11, ↓r_var12, ↓r_gn12, ↓r_var13, ↓r_gn13, ↓r_var14, ↓r_gn14, ↓r_var15, ↓r_gn15, ↓r_var16, ↓r_gn16, ↓r_var17, ↓r_gn17, ↓r_var18, ↓r_gn18, ↓r_var19, ↓r_gn19, ↓r_c, ↓r_op, ↓r_un, ↓r_test, ↓r_tb, ↓r_bl, ↓r_ifs, ↓r_ret, ↓r_retn, ↓r_asg, ↓r_and, ↓r_or, ↓r_not, ↓r_andv, ↓r_orv, ↓r_notv, ↓r_drop, ↓r_cons, ↓r_nil, ↓r_cb, ↓r_lst, ↓r_tup, ↓r_call, ↓r_sl, ↓r_nopart, ↓r_part, ↓r_int, ↓r_bm, ↓r_bm0, ↓r_if, ↓r_chain, ↓r_true, ↓r_add, ↓r_adds, ↓r_addr, ↓r_sub, ↓r_mul, ↓r_div, ↓r_mod, ↓r_pow, ↓r_lt, ↓r_le, ↓r_gt, ↓r_ge, ↓r_eqint, ↓r_neint, ↓r_eqstr, ↓r_nestr, ↓r_eqbl, ↓r_nebl, ↓r_ins, ↓r_nins, ↓r_inint, ↓r_ninint, ↓r_instr, ↓r_ninstr, ↓r_ixs, ↓r_ixr, ↓r_sls, ↓r_slr, ↓r_lens, ↓r_lenr, ↓r_max, ↓r_min, ↓r_inti, ↓r_intb, ↓r_isi, ↓r_isic, ↓r_fld, ↓r_cxK, ↓r_nilapp, ↓r_for, ↓r_jof, ↓r_jrng1, ↓r_jrng2, ↓r_urng1, ↓r_urng2, ↓r_ulist, ↓r_utup, ↓r_ustr, ↓r_comp, ↓r_const, ↓r_eqDrr, ↓r_neDrr, ↓r_eqDii, ↓r_neDii, ↓r_eqDss, ↓r_neDss, ↓r_eqDbb, ↓r_neDbb, ↓r_sum, ↓r_mulB, ↓r_par, ↓r_two, ↓r_addLi, ↓r_addLs, ↓r_addLr, ↓r_neg, ↓r_listof, ↓r_tupof, ↓r_gsub, ↓r_setl, ↓r_jargs, ↓r_zip, ↓r_enum, ↓r_minA1, ↓r_minA2, ↓r_maxA1, ↓r_maxA2]
        refine ⟨_, SqL.of hl3, r, _, _, rfl, rfl, hs3 _ _ hr2, by rw [List.length_map, MM.rowsL_len]; exact small1000 (by omega), _, rfl, (hs.trans hs3).upd_in hr0, ?_⟩
        rw [upd_same]
        show _ = some (HO.lst ((MM.rowsL as i ++ [MM.nextRow as (MM.rowsL as i) (i + 1)]).map V.int))
        rw [List.map_append]
        rfl
    · rintro σ H2 ⟨k, rfl, hs, hr2⟩
      try simp only [↓r_seq, ↓r_next, ↓r_var0, ↓r_gn0, ↓r_var1, ↓r_gn1, ↓r_var2, ↓r_gn2, ↓r_var3, ↓r_gn3, ↓r_var4, ↓r_gn4, ↓r_var5, ↓r_gn5, ↓r_var6, ↓r_gn6, ↓r_var7, ↓r_gn7, ↓r_var8, ↓r_gn8, ↓r_var9, ↓r_gn9, ↓r_var10, ↓r_gn10, ↓r_var11, ↓r_gn11, ↓r_var12, ↓r_gn12, ↓r_var13, ↓r_gn13, ↓r_var14, ↓r_gn14, ↓r_var15, ↓r_gn15, ↓r_var16, ↓r_gn16, ↓r_var17, ↓r_gn17, ↓r_var18, ↓r_gn18, ↓r_var19, ↓r_gn19, ↓r_c, ↓r_op, ↓r_un, ↓r_test, ↓r_tb, ↓r_bl, ↓r_ifs, ↓r_ret, ↓r_retn, ↓r_asg, ↓r_and, ↓r_or, ↓r_not, ↓r_andv, ↓r_orv, ↓r_notv, ↓r_drop, ↓r_cons, ↓r_nil, ↓r_cb, ↓r_lst, ↓r_tup, ↓r_call, ↓r_sl, ↓r_nopart, ↓r_part, ↓r_int, ↓r_bm, ↓r_bm0, ↓r_if, ↓r_chain, ↓r_true, ↓r_add, ↓r_adds, ↓r_addr, ↓r_sub, ↓r_mul, ↓r_div, ↓r_mod, ↓r_pow, ↓r_lt, ↓r_le, ↓r_gt, ↓r_ge, ↓r_eqint, ↓r_neint, ↓r_eqstr, ↓r_nestr, ↓r_eqbl, ↓r_nebl, ↓r_ins, ↓r_nins, ↓r_inint, ↓r_ninint, ↓r_instr, ↓r_ninstr, ↓r_ixs, ↓r_ixr, ↓r_sls, ↓r_slr, ↓r_lens, ↓r_lenr, ↓r_max, ↓r_min, ↓r_inti, ↓r_intb, ↓r_isi, ↓r_isic, ↓r_fld, ↓r_cxK, ↓r_nilapp, ↓r_for, ↓r_jof, ↓r_jrng1, ↓r_jrng2, ↓r_urng1, ↓r_urng2, ↓r_ulist, ↓r_utup, ↓r_ustr, ↓r_comp, ↓r_const, ↓r_eqDrr, ↓r_neDrr, ↓r_eqDii, ↓r_neDii, ↓r_eqDss, ↓r_neDss, ↓r_eqDbb, ↓r_neDbb, ↓r_sum, ↓r_mulB, ↓r_par, ↓r_two, ↓r_addLi, ↓r_addLs, ↓r_addLr, ↓r_neg, ↓r_listof, ↓r_tupof, ↓r_gsub, ↓r_setl, ↓r_jargs, ↓r_zip, ↓r_enum, ↓r_minA1, ↓r_minA2, ↓r_maxA1, ↓r_maxA2]
      exact q r H2 hr0 hs hr2
end
def sp_gcd : Sp := fun vs H Q _ => ∃ a b : Nat, vs = [.int a, .int b] ∧ Q (.int (Nat.gcd a b : Nat)) H
section
variable {P : Program} {w : World} {K : PySem.W.Frag} {mg : Str → Option Value} {base : Heap} {f_row_counts f_ring_counts f_begun_counts f_divisors f_sharing_none f_shared f_w_whole f_w_is_row f_w_cell f_w_rows_of f_w_rings_of f_law : Addr} {d_row_counts d_ring_counts d_begun_counts d_divisors d_sharing_none d_shared d_w_whole d_w_is_row d_w_cell d_w_rows_of d_w_rings_of d_law : FuncData}
theorem ok_gcd (T : TX K mg f_row_counts f_ring_counts f_begun_counts f_divisors f_sharing_none f_shared f_w_whole f_w_is_row f_w_cell f_w_rows_of f_w_rings_of f_law d_row_counts d_ring_counts d_begun_counts d_divisors d_sharing_none d_shared d_w_whole d_w_is_row d_w_cell d_w_rows_of d_w_rings_of d_law) : FnOk P w K mg base CX0 1 f_shared d_shared ["one", "other"] sp_gcd := by
  refine T.F_shared.ok2 (sc := ?sc) (body := ?bd) ?hs ?hb sc_shared (fun vs H Q E h => ?_) (fun S cdv A outer s H vs Q E hr h => ?_)
  case hs => conv => lhs; whnf
  case hb => conv => lhs; whnf
  · obtain ⟨a, b, rfl, _⟩ := h
    rfl
  · obtain ⟨a, b, rfl, q⟩ := h
    refine ⟨_, (pss_cons (ps_while PassesOwn.never (pt_cmpR o_gt (pv 1) pe_int (nomark _)) (pss_one (ps_par (i := 0) (j := 1) rfl S.nd rfl rfl (by decide) rfl rfl (pa_cons (pv 1) (pa_cons (pe_op o_mod (pv 0) (pv 1)) pa_nil)) (by rfl))))
      (pss_one (ps_ret (pv 0)))), ?_⟩
    simp only [L2.start, List.map_cons, List.map_nil, List.length_cons, List.length_nil, List.replicate, List.cons_append, List.nil_append, Nat.reduceAdd, Nat.reduceSub]
    try simp only [↓r_seq, ↓r_next, ↓r_var0, ↓r_gn0, ↓r_var1, ↓r_gn1, ↓r_var2, ↓r_gn2, ↓r_var3, ↓r_gn3, ↓r_var4, ↓r_gn4, ↓r_var5, ↓r_gn5, ↓r_var6, ↓r_gn6, ↓r_var7, ↓r_gn7, ↓r_var8, ↓r_gn8, ↓r_var9, ↓r_gn9, ↓r_var10, ↓r_gn10, ↓r_var11, ↓r_gn11, ↓r_var12, ↓r_gn12, ↓r_var13, ↓r_gn13, ↓r_var14, ↓r_gn14, ↓r_var15, ↓r_gn15, ↓r_var16, ↓r_gn16, ↓r_var17, ↓r_gn17, ↓r_var18, ↓r_gn18, ↓r_var19, ↓r_gn19, ↓r_c, ↓r_op, ↓r_un, ↓r_test, ↓r_tb, ↓r_bl, ↓r_ifs, ↓r_ret, ↓r_retn, ↓r_asg, ↓r_and, ↓r_or, ↓r_not, ↓r_andv, ↓r_orv, ↓r_notv, ↓r_drop, ↓r_cons, ↓r_nil, ↓r_cb, ↓r_lst, ↓r_tup, ↓r_call, ↓r_sl, ↓r_nopart, ↓r_part, ↓r_int, ↓r_bm, ↓r_bm0, ↓r_if, ↓r_chain, ↓r_true, ↓r_add, ↓r_adds, ↓r_addr, ↓r_sub, ↓r_mul, ↓r_div, ↓r_mod, ↓r_pow, ↓r_lt, ↓r_le, ↓r_gt, ↓r_ge, ↓r_eqint, ↓r_neint, ↓r_eqstr, ↓r_nestr, ↓r_eqbl, ↓r_nebl, ↓r_ins, ↓r_nins, ↓r_inint, ↓r_ninint, ↓r_instr, ↓r_ninstr, ↓r_ixs, ↓r_ixr, ↓r_sls, ↓r_slr, ↓r_lens, ↓r_lenr, ↓r_max, ↓r_min, ↓r_inti, ↓r_intb, ↓r_isi, ↓r_isic, ↓r_fld, ↓r_cxK, ↓r_nilapp, ↓r_for, ↓r_jof, ↓r_jrng1, ↓r_jrng2, ↓r_urng1, ↓r_urng2, ↓r_ulist, ↓r_utup, ↓r_ustr, ↓r_comp, ↓r_const, ↓r_eqDrr, ↓r_neDrr, ↓r_eqDii, ↓r_neDii, ↓r_eqDss, ↓r_neDss, ↓r_eqDbb, ↓r_neDbb, ↓r_sum, ↓r_mulB, ↓r_par, ↓r_two, ↓r_addLi, ↓r_addLs, ↓r_addLr, ↓r_neg, ↓r_listof, ↓r_tupof, ↓r_gsub, ↓r_setl, ↓r_jargs, ↓r_zip, ↓r_enum, ↓r_minA1, ↓r_minA2, ↓r_maxA1, ↓r_maxA2]
    refine while_of (fun σ H2 => ∃ c d : Nat, σ = [some (.int c), some (.int d)] ∧ Nat.gcd c d = Nat.gcd a b ∧ H2 = H) (fun σ _ => match σ with | [_, some (.int d)] => d.toNat | _ => 0) ⟨a, b, rfl, rfl, rfl⟩ ?_
    rintro σ H2 ⟨c, d, rfl, hg, rfl⟩
    try simp only [↓r_seq, ↓r_next, ↓r_var0, ↓r_gn0, ↓r_var1, ↓r_gn1, ↓r_var2, ↓r_gn2, ↓r_var3, ↓r_gn3, ↓r_var4, ↓r_gn4, ↓r_var5, ↓r_gn5, ↓r_var6, ↓r_gn6, ↓r_var7, ↓r_gn7, ↓r_var8, ↓r_gn8, ↓r_var9, ↓r_gn9, ↓r_var10, ↓r_gn10, ↓r_var11, ↓r_gn11, ↓r_var12, ↓r_gn12, ↓r_var13, ↓r_gn13, ↓r_var14, ↓r_gn14, ↓r_var15, ↓r_gn15, ↓r_var16, ↓r_gn16, ↓r_var17, ↓r_gn17, ↓r_var18, ↓r_gn18, ↓r_var19, ↓r_gn19, ↓r_c, ↓r_op, ↓r_un, ↓r_test, ↓r_tb, ↓r_bl, ↓r_ifs, ↓r_ret, ↓r_retn, ↓r_asg, ↓r_and, ↓r_or, ↓r_not, ↓r_andv, ↓r_orv, ↓r_notv, ↓r_drop, ↓r_cons, ↓r_nil, ↓r_cb, ↓r_lst, ↓r_tup, ↓r_call, ↓r_sl, ↓r_nopart, ↓r_part, ↓r_int, ↓r_bm, ↓r_bm0, ↓r_if, ↓r_chain, ↓r_true, ↓r_add, ↓r_adds, ↓r_addr, ↓r_sub, ↓r_mul, ↓r_div, ↓r_mod, ↓r_pow, ↓r_lt, ↓r_le, ↓r_gt, ↓r_ge, ↓r_eqint, ↓r_neint, ↓r_eqstr, ↓r_nestr, ↓r_eqbl, ↓r_nebl, ↓r_ins, ↓r_nins, ↓r_inint, ↓r_ninint, ↓r_instr, ↓r_ninstr, ↓r_ixs, ↓r_ixr, ↓r_sls, ↓r_slr, ↓r_lens, ↓r_lenr, ↓r_max, ↓r_min, ↓r_inti, ↓r_intb, ↓r_isi, ↓r_isic, ↓r_fld, ↓r_cxK, ↓r_nilapp, ↓r_for, ↓r_jof, ↓r_jrng1, ↓r_jrng2, ↓r_urng1, ↓r_urng2, ↓r_ulist, ↓r_utup, ↓r_ustr, ↓r_comp, ↓r_const, ↓r_eqDrr, ↓r_neDrr, ↓r_eqDii, ↓r_neDii, ↓r_eqDss, ↓r_neDss, ↓r_eqDbb, ↓r_neDbb, ↓r_sum, ↓r_mulB, ↓r_par, ↓r_two, ↓r_addLi, ↓r_addLs, ↓r_addLr, ↓r_neg, ↓r_listof, ↓r_tupof, ↓r_gsub, ↓r_setl, ↓r_jargs, ↓r_zip, ↓r_enum, ↓r_minA1, ↓r_minA2, ↓r_maxA1, ↓r_maxA2]
    refine ite2 (fun h => wh_go ?_) (fun h => ?_)
    · have hd : 0 < d := by have := of_decide_eq_true h; omega
      try simp only [↓r_seq, ↓r_next, ↓r_var0, ↓r_gn0, ↓r_var1, ↓r_gn1, ↓r_var2, ↓r_gn2, ↓r_var3, ↓r_gn3, ↓r_var4, ↓r_gn4, ↓r_var5, ↓r_gn5, ↓r_var6, ↓r_gn6, ↓r_var7, ↓r_gn7, ↓r_var8, ↓r_gn8, ↓r_var9, ↓r_gn9, ↓r_var10, ↓r_gn10, ↓r_var11, ↓r_gn11, ↓r_var12, ↓r_gn12, ↓r_var13, ↓r_gn13, ↓r_var14, ↓r_gn14, ↓r_var15, ↓r_gn15, ↓r_var16, ↓r_gn16, ↓r_var17, ↓r_gn17, ↓r_var18, ↓r_gn18, ↓r_var19, ↓r_gn19, ↓r_c, ↓r_op, ↓r_un, ↓r_test, ↓r_tb, ↓r_bl, ↓r_ifs, ↓r_ret, ↓r_retn, ↓r_asg, ↓r_and, ↓r_or, ↓r_not, ↓r_andv, ↓r_orv, ↓r_notv, ↓r_drop, ↓r_cons, ↓r_nil, ↓r_cb, ↓r_lst, ↓r_tup, ↓r_call, ↓r_sl, ↓r_nopart, ↓r_part, ↓r_int, ↓r_bm, ↓r_bm0, ↓r_if, ↓r_chain, ↓r_true, ↓r_add, ↓r_adds, ↓r_addr, ↓r_sub, ↓r_mul, ↓r_div, ↓r_mod, ↓r_pow, ↓r_lt, ↓r_le, ↓r_gt, ↓r_ge, ↓r_eqint, ↓r_neint, ↓r_eqstr, ↓r_nestr, ↓r_eqbl, ↓r_nebl, ↓r_ins, ↓r_nins, ↓r_inint, ↓r_ninint, ↓r_instr, ↓r_ninstr, ↓r_ixs, ↓r_ixr, ↓r_sls, ↓r_slr, ↓r_lens, ↓r_lenr, ↓r_max, ↓r_min, ↓r_inti, ↓r_intb, ↓r_isi, ↓r_isic, ↓r_fld, ↓r_cxK, ↓r_nilapp, ↓r_for, ↓r_jof, ↓r_jrng1, ↓r_jrng2, ↓r_urng1, ↓r_urng2, ↓r_ulist, ↓r_utup, ↓r_ustr, ↓r_comp, ↓r_const, ↓r_eqDrr, ↓r_neDrr, ↓r_eqDii, ↓r_neDii, ↓r_eqDss, ↓r_neDss, ↓r_eqDbb, ↓r_neDbb, ↓r_sum, ↓r_mulB, ↓r_par, ↓r_two, ↓r_addLi, ↓r_addLs, ↓r_addLr, ↓r_neg, ↓r_listof, ↓r_tupof, ↓r_gsub, ↓r_setl, ↓r_jargs, ↓r_zip, ↓r_enum, ↓r_minA1, ↓r_minA2, ↓r_maxA1, ↓r_maxA2]
      refine ⟨by omega, ?_⟩
      simp only [List.set_cons_zero, List.set_cons_succ]
      refine ⟨⟨d, c % d, by simp, ?_, trivial⟩, ?_⟩
      · rw [← hg, Nat.gcd_comm d, ← Nat.gcd_rec, Nat.gcd_comm]
      · have := Nat.mod_lt c hd
        show (((c : Int) % (d : Int)).toNat) < ((d : Int)).toNat
        have e : ((c : Int) % (d : Int)) = ((c % d : Nat) : Int) := by simp
        rw [e]; omega
    · have hd : d = 0 := by
        by_cases h0 : d = 0
        · exact h0
        · exact absurd (decide_eq_true (show (0 : Int) < (d : Int) by omega)) h
      subst hd
      rw [Nat.gcd_zero_right] at hg
      rw [hg]
      exact q
end
def sp_phi : Sp := fun vs H Q _ => ∃ k : Nat, vs = [.int (k : Int)] ∧ k ≤ 100 ∧ ∀ H', Same H H' → Q (.int (MM.phi k)) H'
section
variable {P : Program} {w : World} {K : PySem.W.Frag} {mg : Str → Option Value} {base : Heap} {f_row_counts f_ring_counts f_begun_counts f_divisors f_sharing_none f_shared f_w_whole f_w_is_row f_w_cell f_w_rows_of f_w_rings_of f_law : Addr} {d_row_counts d_ring_counts d_begun_counts d_divisors d_sharing_none d_shared d_w_whole d_w_is_row d_w_cell d_w_rows_of d_w_rings_of d_law : FuncData}
theorem ok_phi (T : TX K mg f_row_counts f_ring_counts f_begun_counts f_divisors f_sharing_none f_shared f_w_whole f_w_is_row f_w_cell f_w_rows_of f_w_rings_of f_law d_row_counts d_ring_counts d_begun_counts d_divisors d_sharing_none d_shared d_w_whole d_w_is_row d_w_cell d_w_rows_of d_w_rings_of d_law) : FnOk P w K mg base CX0 2 f_sharing_none d_sharing_none ["k"] sp_phi := by
  have G_shared := ok_gcd (P := P) (w := w) (base := base) T
  refine T.F_sharing_none.ok2 (sc := ?sc) (body := ?bd) ?hs ?hb sc_sharing_none (fun vs H Q E h => ?_) (fun S cdv A outer s H vs Q E hr h => ?_)
  case hs => conv => lhs; whnf
  case hb => conv => lhs; whnf
  · obtain ⟨m, rfl, _⟩ := h
    rfl
  · obtain ⟨j, rfl, hj, q⟩ := h
    refine ⟨_, (pss_one (ps_ret (pe_callB c_len (by rfl) T.n_len (by decide +kernel) (pa_cons (pe_comp (ts := ["one"]) (frs' := [("k", 0)]) (cl := _) rfl ⟨(by rfl), rfl, (by decide +kernel), (by decide +kernel), (allm_cons (by rfl) allm_nil), (free_has (by rfl) (by rfl)), (allm_cons ⟨(by rfl), (by first | exact .inl rfl | exact .inr rfl), (by first | exact .inl rfl | exact .inr rfl), (by rfl)⟩ allm_nil)⟩ (pj_range2 rfl T.n_range (pa_cons pe_int (pa_cons (pe_op o_addL (pv 0) pe_int) pa_nil))) (fun _ _ _ _ => pg_name (i := 0) (show List.Nodup (["one", "k"] : List Str) from by decide +kernel) rfl (Or.inl rfl) (.inr rfl)) (fun _ _ _ _ => (pifs_one (pt_cmpR (k_eqD K rfl hr) (pe_call (G_shared.mono (by first | decide | omega)) hr (by rfl) T.M_shared T.F_shared.kp T.B_shared .nil pass0 (pa_cons (pv 0) (pa_cons (pv 1) pa_nil))) pe_int (nomark _)))) (fun _ _ _ _ => by exact (pv 0))) pa_nil)))), ?_⟩
    simp only [L2.start, List.map_cons, List.map_nil, List.length_cons, List.length_nil, List.replicate, List.cons_append, List.nil_append, Nat.reduceAdd, Nat.reduceSub]
    try simp only [↓r_seq, ↓r_next, ↓r_var0, ↓r_gn0, ↓r_var1, ↓r_gn1, ↓r_var2, ↓r_gn2, ↓r_var3, ↓r_gn3, ↓r_var4, ↓r_gn4, ↓r_var5, ↓r_gn5, ↓r_var6, ↓r_gn6, ↓r_var7, ↓r_gn7, ↓r_var8, ↓r_gn8, ↓r_var9, ↓r_gn9, ↓r_var10, ↓r_gn10, ↓r_var11, ↓r_gn11, ↓r_var12, ↓r_gn12, ↓r_var13, ↓r_gn13, ↓r_var14, ↓r_gn14, ↓r_var15, ↓r_gn15, ↓r_var16, ↓r_gn16, ↓r_var17, ↓r_gn17, ↓r_var18, ↓r_gn18, ↓r_var19, ↓r_gn19, ↓r_c, ↓r_op, ↓r_un, ↓r_test, ↓r_tb, ↓r_bl, ↓r_ifs, ↓r_ret, ↓r_retn, ↓r_asg, ↓r_and, ↓r_or, ↓r_not, ↓r_andv, ↓r_orv, ↓r_notv, ↓r_drop, ↓r_cons, ↓r_nil, ↓r_cb, ↓r_lst, ↓r_tup, ↓r_call, ↓r_sl, ↓r_nopart, ↓r_part, ↓r_int, ↓r_bm, ↓r_bm0, ↓r_if, ↓r_chain, ↓r_true, ↓r_add, ↓r_adds, ↓r_addr, ↓r_sub, ↓r_mul, ↓r_div, ↓r_mod, ↓r_pow, ↓r_lt, ↓r_le, ↓r_gt, ↓r_ge, ↓r_eqint, ↓r_neint, ↓r_eqstr, ↓r_nestr, ↓r_eqbl, ↓r_nebl, ↓r_ins, ↓r_nins, ↓r_inint, ↓r_ninint, ↓r_instr, ↓r_ninstr, ↓r_ixs, ↓r_ixr, ↓r_sls, ↓r_slr, ↓r_lens, ↓r_lenr, ↓r_max, ↓r_min, ↓r_inti, ↓r_intb, ↓r_isi, ↓r_isic, ↓r_fld, ↓r_cxK, ↓r_nilapp, ↓r_for, ↓r_jof, ↓r_jrng1, ↓r_jrng2, ↓r_urng1, ↓r_urng2, ↓r_ulist, ↓r_utup, ↓r_ustr, ↓r_comp, ↓r_const, ↓r_eqDrr, ↓r_neDrr, ↓r_eqDii, ↓r_neDii, ↓r_eqDss, ↓r_neDss, ↓r_eqDbb, ↓r_neDbb, ↓r_sum, ↓r_mulB, ↓r_par, ↓r_two, ↓r_addLi, ↓r_addLs, ↓r_addLr, ↓r_neg, ↓r_listof, ↓r_tupof, ↓r_gsub, ↓r_setl, ↓r_jargs, ↓r_zip, ↓r_enum, ↓r_minA1, ↓r_minA2, ↓r_maxA1, ↓r_maxA2]
    refine ⟨⟨by decide, by decide, by omega, by omega⟩, fun l hl => ?_⟩
    have e : ((j : Int) + 1 - 1).toNat = j := by omega
    rw [e]
    try simp only [L2.compStart, List.replicate, List.map_cons, List.map_nil, List.getElem?_cons_zero, List.getElem?_cons_succ, Option.join_some, List.cons_append, List.nil_append]
    refine cl_rng (fun i => decide (((Nat.gcd (1 + i) j : Nat) : Int) = 1)) (fun i => .int (1 + (i : Int))) hl (by omega) (fun i H2 hi hs Cy Cn hy hn => ?_) (fun H2 hs hl2 => ?_)
    · try simp only [↓r_seq, ↓r_next, ↓r_var0, ↓r_gn0, ↓r_var1, ↓r_gn1, ↓r_var2, ↓r_gn2, ↓r_var3, ↓r_gn3, ↓r_var4, ↓r_gn4, ↓r_var5, ↓r_gn5, ↓r_var6, ↓r_gn6, ↓r_var7, ↓r_gn7, ↓r_var8, ↓r_gn8, ↓r_var9, ↓r_gn9, ↓r_var10, ↓r_gn10, ↓r_var11, ↓r_gn11, ↓r_var12, ↓r_gn12, ↓r_var13, ↓r_gn13, ↓r_var14, ↓r_gn14, ↓r_var15, ↓r_gn15, ↓r_var16, ↓r_gn16, ↓r_var17, ↓r_gn17, ↓r_var18, ↓r_gn18, ↓r_var19, ↓r_gn19, ↓r_c, ↓r_op, ↓r_un, ↓r_test, ↓r_tb, ↓r_bl, ↓r_ifs, ↓r_ret, ↓r_retn, ↓r_asg, ↓r_and, ↓r_or, ↓r_not, ↓r_andv, ↓r_orv, ↓r_notv, ↓r_drop, ↓r_cons, ↓r_nil, ↓r_cb, ↓r_lst, ↓r_tup, ↓r_call, ↓r_sl, ↓r_nopart, ↓r_part, ↓r_int, ↓r_bm, ↓r_bm0, ↓r_if, ↓r_chain, ↓r_true, ↓r_add, ↓r_adds, ↓r_addr, ↓r_sub, ↓r_mul, ↓r_div, ↓r_mod, ↓r_pow, ↓r_lt, ↓r_le, ↓r_gt, ↓r_ge, ↓r_eqint, ↓r_neint, ↓r_eqstr, ↓r_nestr, ↓r_eqbl, ↓r_nebl, ↓r_ins, ↓r_nins, ↓r_inint, ↓r_ninint, ↓r_instr, ↓r_ninstr, ↓r_ixs, ↓r_ixr, ↓r_sls, ↓r_slr, ↓r_lens, ↓r_lenr, ↓r_max, ↓r_min, ↓r_inti, ↓r_intb, ↓r_isi, ↓r_isic, ↓r_fld, ↓r_cxK, ↓r_nilapp, ↓r_for, ↓r_jof, ↓r_jrng1, ↓r_jrng2, ↓r_urng1, ↓r_urng2, ↓r_ulist, ↓r_utup, ↓r_ustr, ↓r_comp, ↓r_const, ↓r_eqDrr, ↓r_neDrr, ↓r_eqDii, ↓r_neDii, ↓r_eqDss, ↓r_neDss, ↓r_eqDbb, ↓r_neDbb, ↓r_sum, ↓r_mulB, ↓r_par, ↓r_two, ↓r_addLi, ↓r_addLs, ↓r_addLr, ↓r_neg, ↓r_listof, ↓r_tupof, ↓r_gsub, ↓r_setl, ↓r_jargs, ↓r_zip, ↓r_enum, ↓r_minA1, ↓r_minA2, ↓r_maxA1, ↓r_maxA2]
      refine ⟨1 + i, j, by simp, ?_⟩
      try simp only [↓r_seq, ↓r_next, ↓r_var0, ↓r_gn0, ↓r_var1, ↓r_gn1, ↓r_var2, ↓r_gn2, ↓r_var3, ↓r_gn3, ↓r_var4, ↓r_gn4, ↓r_var5, ↓r_gn5, ↓r_var6, ↓r_gn6, ↓r_var7, ↓r_gn7, ↓r_var8, ↓r_gn8, ↓r_var9, ↓r_gn9, ↓r_var10, ↓r_gn10, ↓r_var11, ↓r_gn11, ↓r_var12, ↓r_gn12, ↓r_var13, ↓r_gn13, ↓r_var14, ↓r_gn14, ↓r_var15, ↓r_gn15, ↓r_var16, ↓r_gn16, ↓r_var17, ↓r_gn17, ↓r_var18, ↓r_gn18, ↓r_var19, ↓r_gn19, ↓r_c, ↓r_op, ↓r_un, ↓r_test, ↓r_tb, ↓r_bl, ↓r_ifs, ↓r_ret, ↓r_retn, ↓r_asg, ↓r_and, ↓r_or, ↓r_not, ↓r_andv, ↓r_orv, ↓r_notv, ↓r_drop, ↓r_cons, ↓r_nil, ↓r_cb, ↓r_lst, ↓r_tup, ↓r_call, ↓r_sl, ↓r_nopart, ↓r_part, ↓r_int, ↓r_bm, ↓r_bm0, ↓r_if, ↓r_chain, ↓r_true, ↓r_add, ↓r_adds, ↓r_addr, ↓r_sub, ↓r_mul, ↓r_div, ↓r_mod, ↓r_pow, ↓r_lt, ↓r_le, ↓r_gt, ↓r_ge, ↓r_eqint, ↓r_neint, ↓r_eqstr, ↓r_nestr, ↓r_eqbl, ↓r_nebl, ↓r_ins, ↓r_nins, ↓r_inint, ↓r_ninint, ↓r_instr, ↓r_ninstr, ↓r_ixs, ↓r_ixr, ↓r_sls, ↓r_slr, ↓r_lens, ↓r_lenr, ↓r_max, ↓r_min, ↓r_inti, ↓r_intb, ↓r_isi, ↓r_isic, ↓r_fld, ↓r_cxK, ↓r_nilapp, ↓r_for, ↓r_jof, ↓r_jrng1, ↓r_jrng2, ↓r_urng1, ↓r_urng2, ↓r_ulist, ↓r_utup, ↓r_ustr, ↓r_comp, ↓r_const, ↓r_eqDrr, ↓r_neDrr, ↓r_eqDii, ↓r_neDii, ↓r_eqDss, ↓r_neDss, ↓r_eqDbb, ↓r_neDbb, ↓r_sum, ↓r_mulB, ↓r_par, ↓r_two, ↓r_addLi, ↓r_addLs, ↓r_addLr, ↓r_neg, ↓r_listof, ↓r_tupof, ↓r_gsub, ↓r_setl, ↓r_jargs, ↓r_zip, ↓r_enum, ↓r_minA1, ↓r_minA2, ↓r_maxA1, ↓r_maxA2]
      refine ite2 (fun h => ?_) (fun h => ?_)
      · exact hy h _ (Same.refl _)
      · exact hn (by simpa using h) _ (Same.refl _)
    · refine ⟨_, .inl (SqL.of hl2), ?_⟩
      rw [List.length_map]
      exact q H2 hs
end
/-- the marked rows -/
def bgL (as : List Int) : List Int := (List.range as.length).map (MM.bgn as)
theorem rowsL_last {as : List Int} {n m : Nat} (h : m ≤ n) (hn : n < as.length) : MM.at0 (MM.rowsL as (as.length - 1)) m = MM.at0 (MM.rowsL as n) m := MM.grow_at2 _ _ (by omega) h
theorem bgn_bound {b : Nat} {as : List Int} (hA : MM.Amt b as) {n : Nat} (hn : n < as.length) : 0 ≤ MM.bgn as n ∧ MM.bgn as n ≤ 2 ^ (12 + b + (b + 7) * 41) := by
  unfold MM.bgn
  have hL := hA.2.1
  have term : ∀ i, i < n → 0 ≤ (1 + (i : Int)) * MM.at0 as (1 + i) * MM.at0 (MM.rowsL as n) (n - (1 + i)) ∧ (1 + (i : Int)) * MM.at0 as (1 + i) * MM.at0 (MM.rowsL as n) (n - (1 + i)) ≤ 2 ^ (6 + b + (b + 7) * 41) := fun i hi => by
    obtain ⟨p1, p2⟩ := hA.2.2.2 (1 + i)
    obtain ⟨q1, q2⟩ := MM.rows_bound hA n (by omega) (n - (1 + i)) (by omega)
    have r1 : (0 : Int) ≤ 1 + (i : Int) := by omega
    have r2 : (1 + (i : Int)) ≤ 2 ^ 6 := by have : ((2 : Int) ^ 6) = 64 := by decide
                                            rw [this]; omega
    have s1 := Int.mul_nonneg r1 p1
    have s2 : (1 + (i : Int)) * MM.at0 as (1 + i) ≤ 2 ^ (6 + b) := by
      rw [Int.pow_add]
      exact Int.mul_le_mul r2 (Int.le_of_lt p2) p1 (Int.le_of_lt (MM.pow2_pos _))
    refine ⟨Int.mul_nonneg s1 q1, ?_⟩
    rw [Int.pow_add]
    refine Int.mul_le_mul s2 (Int.le_trans q2 (MM.pow2_mono (Nat.mul_le_mul_left _ (by omega)))) q1 (Int.le_of_lt (MM.pow2_pos _))
  refine ⟨MM.sm_nonneg fun i hi => (term i hi).1, Int.le_trans (MM.sm_le fun i hi => (term i hi).2) ?_⟩
  have h64 : ((n : Nat) : Int) ≤ 2 ^ 6 := by have : ((2 : Int) ^ 6) = 64 := by decide
                                             rw [this]; omega
  refine Int.le_trans (Int.mul_le_mul_of_nonneg_right h64 (Int.le_of_lt (MM.pow2_pos _))) ?_
  rw [← Int.pow_add]
  exact MM.pow2_mono (by omega)
def sp_begun (K : PySem.W.Frag) (b : Nat) : Sp := fun vs H Q _ => ∃ (ad : Addr) (as : List Int), vs = [.ref ad] ∧ SqL K H ad (as.map V.int) ∧ MM.Amt b as ∧
  ∀ l H', H l = none → Same H H' → H' l = some (.lst ((bgL as).map V.int)) → Q (.ref l) H'
section
variable {P : Program} {w : World} {K : PySem.W.Frag} {mg : Str → Option Value} {base : Heap} {f_row_counts f_ring_counts f_begun_counts f_divisors f_sharing_none f_shared f_w_whole f_w_is_row f_w_cell f_w_rows_of f_w_rings_of f_law : Addr} {d_row_counts d_ring_counts d_begun_counts d_divisors d_sharing_none d_shared d_w_whole d_w_is_row d_w_cell d_w_rows_of d_w_rings_of d_law : FuncData}
theorem ok_begun (T : TX K mg f_row_counts f_ring_counts f_begun_counts f_divisors f_sharing_none f_shared f_w_whole f_w_is_row f_w_cell f_w_rows_of f_w_rings_of f_law d_row_counts d_ring_counts d_begun_counts d_divisors d_sharing_none d_shared d_w_whole d_w_is_row d_w_cell d_w_rows_of d_w_rings_of d_law) (b : Nat) (hb : b ≤ 200) : FnOk P w K mg base CX0 2 f_begun_counts d_begun_counts ["a"] (sp_begun K b) := by
  have G_row_counts := ok_rows (P := P) (w := w) (base := base) T b hb
  refine T.F_begun_counts.ok2 (sc := ?sc) (body := ?bd) ?hs ?hb sc_begun_counts (fun vs H Q E h => ?_) (fun S cdv A outer s H vs Q E hr h => ?_)
  case hs => conv => lhs; whnf
  case hb => conv => lhs; whnf
  · obtain ⟨_, _, rfl, _⟩ := h
    rfl
  · obtain ⟨ad, as, rfl, hS, hA, q⟩ := h
    obtain ⟨hA1, hA2, hA3, hA4⟩ := id hA
    refine ⟨_, (pss_cons (ps_set (i := 1) S.nd rfl (Or.inr rfl) (pe_call (G_row_counts.mono (by first | decide | omega)) hr (by rfl) T.M_row_counts T.F_row_counts.kp T.B_row_counts .nil pass0 (pa_cons (pv 0) pa_nil)))
      (pss_one (ps_ret (pe_compC (ts := ["size"]) (frs' := [("rows", 1), ("a", 0)]) (cl := _) (nm := "size") rfl ⟨(fun n c h => by cases h; exact Nat.le_refl _), (by rfl), rfl, (by decide +kernel), (allm_cons (by rfl) (allm_cons (by rfl) allm_nil)), (free_hasC (by rfl) (fun _ => by rfl)), (fun n => (allm_cons ⟨(by rfl), (by first | exact .inl rfl | exact .inr rfl), (by first | exact .inl rfl | exact .inr rfl), (by rfl), (by rfl)⟩ (allm_cons ⟨(by rfl), (by first | exact .inl rfl | exact .inr rfl), (by first | exact .inl rfl | exact .inr rfl), (by rfl), (by rfl)⟩ allm_nil)))⟩ (pj_range1 rfl T.n_range (pa_cons (pe_callB c_len (by rfl) T.n_len (by decide +kernel) (pa_cons (pv 0) pa_nil)) pa_nil)) (fun _ _ _ _ => pg_name (i := 0) (show List.Nodup (["size", "rows", "a"] : List Str) from by decide +kernel) rfl (Or.inr rfl) (.inl rfl)) (fun _ _ _ _ => pifs_nil) (fun _ _ _ _ => by exact (pe_callB (k_sum K rfl rfl) (by rfl) T.n_sum (by decide +kernel) (pa_cons (pe_comp (ts := ["i"]) (frs' := [("rows", 1), ("a", 2), ("size", 0)]) (cl := _) rfl ⟨(by rfl), rfl, (by decide +kernel), (by decide +kernel), (allm_cons (by rfl) (allm_cons (by rfl) (allm_cons (by rfl) allm_nil))), (free_has (by rfl) (by rfl)), (allm_cons ⟨(by rfl), (by first | exact .inl rfl | exact .inr rfl), (by first | exact .inl rfl | exact .inr rfl), (by rfl)⟩ (allm_cons ⟨(by rfl), (by first | exact .inl rfl | exact .inr rfl), (by first | exact .inl rfl | exact .inr rfl), (by rfl)⟩ (allm_cons ⟨(by rfl), (by first | exact .inl rfl | exact .inr rfl), (by first | exact .inl rfl | exact .inr rfl), (by rfl)⟩ allm_nil)))⟩ (pj_range2 rfl T.n_range (pa_cons pe_int (pa_cons (pe_op (k_addL K rfl) (pv 0) pe_int) pa_nil))) (fun _ _ _ _ => pg_name (i := 0) (show List.Nodup (["i", "rows", "a", "size"] : List Str) from by decide +kernel) rfl (Or.inl rfl) (.inr rfl)) (fun _ _ _ _ => pifs_nil) (fun _ _ _ _ => by exact (pe_op o_mulB (pe_op o_mulB (pv 0) (pe_ix (k_ix K rfl) (pv 2) (pv 0) (fun _ _ => rfl))) (pe_ix (k_ix K rfl) (pv 1) (pe_op o_sub (pv 3) (pv 0)) (fun _ _ => rfl))))) pa_nil))))))), ?_⟩
    simp only [L2.start, List.map_cons, List.map_nil, List.length_cons, List.length_nil, List.replicate, List.cons_append, List.nil_append, Nat.reduceAdd, Nat.reduceSub]
    try simp only [↓r_seq, ↓r_next, ↓r_var0, ↓r_gn0, ↓r_var1, ↓r_gn1, ↓r_var2, ↓r_gn2, ↓r_var3, ↓r_gn3, ↓r_var4, ↓r_gn4, ↓r_var5, ↓r_gn5, ↓r_var6, ↓r_gn6, ↓r_var7, ↓r_gn7, ↓r_var8, ↓r_gn8, ↓r_var9, ↓r_gn9, ↓r_var10, ↓r_gn10, ↓r_var11, ↓r_gn11, ↓r_var12, ↓r_gn12, ↓r_var13, ↓r_gn13, ↓r_var14, ↓r_gn14, ↓r_var15, ↓r_gn15, ↓r_var16, ↓r_gn16, ↓r_var17, ↓r_gn17, ↓r_var18, ↓r_gn18, ↓r_var19, ↓r_gn19, ↓r_c, ↓r_op, ↓r_un, ↓r_test, ↓r_tb, ↓r_bl, ↓r_ifs, ↓r_ret, ↓r_retn, ↓r_asg, ↓r_and, ↓r_or, ↓r_not, ↓r_andv, ↓r_orv, ↓r_notv, ↓r_drop, ↓r_cons, ↓r_nil, ↓r_cb, ↓r_lst, ↓r_tup, ↓r_call, ↓r_sl, ↓r_nopart, ↓r_part, ↓r_int, ↓r_bm, ↓r_bm0, ↓r_if, ↓r_chain, ↓r_true, ↓r_add, ↓r_adds, ↓r_addr, ↓r_sub, ↓r_mul, ↓r_div, ↓r_mod, ↓r_pow, ↓r_lt, ↓r_le, ↓r_gt, ↓r_ge, ↓r_eqint, ↓r_neint, ↓r_eqstr, ↓r_nestr, ↓r_eqbl, ↓r_nebl, ↓r_ins, ↓r_nins, ↓r_inint, ↓r_ninint, ↓r_instr, ↓r_ninstr, ↓r_ixs, ↓r_ixr, ↓r_sls, ↓r_slr, ↓r_lens, ↓r_lenr, ↓r_max, ↓r_min, ↓r_inti, ↓r_intb, ↓r_isi, ↓r_isic, ↓r_fld, ↓r_cxK, ↓r_nilapp, ↓r_for, ↓r_jof, ↓r_jrng1, ↓r_jrng2, ↓r_urng1, ↓r_urng2, ↓r_ulist, ↓r_utup, ↓r_ustr, ↓r_comp, ↓r_const, ↓r_eqDrr, ↓r_neDrr, ↓r_eqDii, ↓r_neDii, ↓r_eqDss, ↓r_neDss, ↓r_eqDbb, ↓r_neDbb, ↓r_sum, ↓r_mulB, ↓r_par, ↓r_two, ↓r_addLi, ↓r_addLs, ↓r_addLr, ↓r_neg, ↓r_listof, ↓r_tupof, ↓r_gsub, ↓r_setl, ↓r_jargs, ↓r_zip, ↓r_enum, ↓r_minA1, ↓r_minA2, ↓r_maxA1, ↓r_maxA2]
    refine ⟨ad, as, rfl, hS, hA, fun r H1 hr0 hs1 hr1 => ?_⟩
    try simp only [↓r_seq, ↓r_next, ↓r_var0, ↓r_gn0, ↓r_var1, ↓r_gn1, ↓r_var2, ↓r_gn2, ↓r_var3, ↓r_gn3, ↓r_var4, ↓r_gn4, ↓r_var5, ↓r_gn5, ↓r_var6, ↓r_gn6, ↓r_var7, ↓r_gn7, ↓r_var8, ↓r_gn8, ↓r_var9, ↓r_gn9, ↓r_var10, ↓r_gn10, ↓r_var11, ↓r_gn11, ↓r_var12, ↓r_gn12, ↓r_var13, ↓r_gn13, ↓r_var14, ↓r_gn14, ↓r_var15, ↓r_gn15, ↓r_var16, ↓r_gn16, ↓r_var17, ↓r_gn17, ↓r_var18, ↓r_gn18, ↓r_var19, ↓r_gn19, ↓r_c, ↓r_op, ↓r_un, ↓r_test, ↓r_tb, ↓r_bl, ↓r_ifs, ↓r_ret, ↓r_retn, ↓r_asg, ↓r_and, ↓r_or, ↓r_not, ↓r_andv, ↓r_orv, ↓r_notv, ↓r_drop, ↓r_cons, ↓r_nil, ↓r_cb, ↓r_lst, ↓r_tup, ↓r_call, ↓r_sl, ↓r_nopart, ↓r_part, ↓r_int, ↓r_bm, ↓r_bm0, ↓r_if, ↓r_chain, ↓r_true, ↓r_add, ↓r_adds, ↓r_addr, ↓r_sub, ↓r_mul, ↓r_div, ↓r_mod, ↓r_pow, ↓r_lt, ↓r_le, ↓r_gt, ↓r_ge, ↓r_eqint, ↓r_neint, ↓r_eqstr, ↓r_nestr, ↓r_eqbl, ↓r_nebl, ↓r_ins, ↓r_nins, ↓r_inint, ↓r_ninint, ↓r_instr, ↓r_ninstr, ↓r_ixs, ↓r_ixr, ↓r_sls, ↓r_slr, ↓r_lens, ↓r_lenr, ↓r_max, ↓r_min, ↓r_inti, ↓r_intb, ↓r_isi, ↓r_isic, ↓r_fld, ↓r_cxK, ↓r_nilapp, ↓r_for, ↓r_jof, ↓r_jrng1, ↓r_jrng2, ↓r_urng1, ↓r_urng2, ↓r_ulist, ↓r_utup, ↓r_ustr, ↓r_comp, ↓r_const, ↓r_eqDrr, ↓r_neDrr, ↓r_eqDii, ↓r_neDii, ↓r_eqDss, ↓r_neDss, ↓r_eqDbb, ↓r_neDbb, ↓r_sum, ↓r_mulB, ↓r_par, ↓r_two, ↓r_addLi, ↓r_addLs, ↓r_addLr, ↓r_neg, ↓r_listof, ↓r_tupof, ↓r_gsub, ↓r_setl, ↓r_jargs, ↓r_zip, ↓r_enum, ↓r_minA1, ↓r_minA2, ↓r_maxA1, ↓r_maxA2]
    refine ⟨_, .inl (hs1.seq hS), ?_⟩
    rw [List.length_map]
    refine ⟨by omega, by omega, fun l hl => ?_⟩
    rw [Int.toNat_natCast]
    try simp only [L2.compStart, List.replicate, List.map_cons, List.map_nil, List.getElem?_cons_zero, List.getElem?_cons_succ, Option.join_some, List.cons_append, List.nil_append]
    refine cl_rngI (MM.bgn as) hl (by omega) (fun n H3 hn hs3 Cy hy => ?_) (fun H3 hs3 hl3 => ?_)
    · try simp only [↓r_seq, ↓r_next, ↓r_var0, ↓r_gn0, ↓r_var1, ↓r_gn1, ↓r_var2, ↓r_gn2, ↓r_var3, ↓r_gn3, ↓r_var4, ↓r_gn4, ↓r_var5, ↓r_gn5, ↓r_var6, ↓r_gn6, ↓r_var7, ↓r_gn7, ↓r_var8, ↓r_gn8, ↓r_var9, ↓r_gn9, ↓r_var10, ↓r_gn10, ↓r_var11, ↓r_gn11, ↓r_var12, ↓r_gn12, ↓r_var13, ↓r_gn13, ↓r_var14, ↓r_gn14, ↓r_var15, ↓r_gn15, ↓r_var16, ↓r_gn16, ↓r_var17, ↓r_gn17, ↓r_var18, ↓r_gn18, ↓r_var19, ↓r_gn19, ↓r_c, ↓r_op, ↓r_un, ↓r_test, ↓r_tb, ↓r_bl, ↓r_ifs, ↓r_ret, ↓r_retn, ↓r_asg, ↓r_and, ↓r_or, ↓r_not, ↓r_andv, ↓r_orv, ↓r_notv, ↓r_drop, ↓r_cons, ↓r_nil, ↓r_cb, ↓r_lst, ↓r_tup, ↓r_call, ↓r_sl, ↓r_nopart, ↓r_part, ↓r_int, ↓r_bm, ↓r_bm0, ↓r_if, ↓r_chain, ↓r_true, ↓r_add, ↓r_adds, ↓r_addr, ↓r_sub, ↓r_mul, ↓r_div, ↓r_mod, ↓r_pow, ↓r_lt, ↓r_le, ↓r_gt, ↓r_ge, ↓r_eqint, ↓r_neint, ↓r_eqstr, ↓r_nestr, ↓r_eqbl, ↓r_nebl, ↓r_ins, ↓r_nins, ↓r_inint, ↓r_ninint, ↓r_instr, ↓r_ninstr, ↓r_ixs, ↓r_ixr, ↓r_sls, ↓r_slr, ↓r_lens, ↓r_lenr, ↓r_max, ↓r_min, ↓r_inti, ↓r_intb, ↓r_isi, ↓r_isic, ↓r_fld, ↓r_cxK, ↓r_nilapp, ↓r_for, ↓r_jof, ↓r_jrng1, ↓r_jrng2, ↓r_urng1, ↓r_urng2, ↓r_ulist, ↓r_utup, ↓r_ustr, ↓r_comp, ↓r_const, ↓r_eqDrr, ↓r_neDrr, ↓r_eqDii, ↓r_neDii, ↓r_eqDss, ↓r_neDss, ↓r_eqDbb, ↓r_neDbb, ↓r_sum, ↓r_mulB, ↓r_par, ↓r_two, ↓r_addLi, ↓r_addLs, ↓r_addLr, ↓r_neg, ↓r_listof, ↓r_tupof, ↓r_gsub, ↓r_setl, ↓r_jargs, ↓r_zip, ↓r_enum, ↓r_minA1, ↓r_minA2, ↓r_maxA1, ↓r_maxA2]
      refine ⟨⟨by decide, by decide, by omega, by omega⟩, fun l4 hl4 => ?_⟩
      have e1 : (0 + (n : Int) + 1 - 1).toNat = n := by omega
      rw [e1]
      try simp only [L2.compStart, List.replicate, List.map_cons, List.map_nil, List.getElem?_cons_zero, List.getElem?_cons_succ, Option.join_some, List.cons_append, List.nil_append]
      refine cl_rngI (fun i => (1 + (i : Int)) * MM.at0 as (1 + i) * MM.at0 (MM.rowsL as n) (n - (1 + i))) hl4 (by omega) (fun i H4 hi hs4 Cy2 hy2 => ?_) (fun H4 hs4 hl4' => ?_)
      · have hrow : (MM.rowsL as (as.length - 1)).length = as.length := by rw [MM.rowsL_len]; omega
        try simp only [↓r_seq, ↓r_next, ↓r_var0, ↓r_gn0, ↓r_var1, ↓r_gn1, ↓r_var2, ↓r_gn2, ↓r_var3, ↓r_gn3, ↓r_var4, ↓r_gn4, ↓r_var5, ↓r_gn5, ↓r_var6, ↓r_gn6, ↓r_var7, ↓r_gn7, ↓r_var8, ↓r_gn8, ↓r_var9, ↓r_gn9, ↓r_var10, ↓r_gn10, ↓r_var11, ↓r_gn11, ↓r_var12, ↓r_gn12, ↓r_var13, ↓r_gn13, ↓r_var14, ↓r_gn14, ↓r_var15, ↓r_gn15, ↓r_var16, ↓r_gn16, ↓r_var17, ↓r_gn17, ↓r_var18, ↓r_gn18, ↓r_var19, ↓r_gn19, ↓r_c, ↓r_op, ↓r_un, ↓r_test, ↓r_tb, ↓r_bl, ↓r_ifs, ↓r_ret, ↓r_retn, ↓r_asg, ↓r_and, ↓r_or, ↓r_not, ↓r_andv, ↓r_orv, ↓r_notv, ↓r_drop, ↓r_cons, ↓r_nil, ↓r_cb, ↓r_lst, ↓r_tup, ↓r_call, ↓r_sl, ↓r_nopart, ↓r_part, ↓r_int, ↓r_bm, ↓r_bm0, ↓r_if, ↓r_chain, ↓r_true, ↓r_add, ↓r_adds, ↓r_addr, ↓r_sub, ↓r_mul, ↓r_div, ↓r_mod, ↓r_pow, ↓r_lt, ↓r_le, ↓r_gt, ↓r_ge, ↓r_eqint, ↓r_neint, ↓r_eqstr, ↓r_nestr, ↓r_eqbl, ↓r_nebl, ↓r_ins, ↓r_nins, ↓r_inint, ↓r_ninint, ↓r_instr, ↓r_ninstr, ↓r_ixs, ↓r_ixr, ↓r_sls, ↓r_slr, ↓r_lens, ↓r_lenr, ↓r_max, ↓r_min, ↓r_inti, ↓r_intb, ↓r_isi, ↓r_isic, ↓r_fld, ↓r_cxK, ↓r_nilapp, ↓r_for, ↓r_jof, ↓r_jrng1, ↓r_jrng2, ↓r_urng1, ↓r_urng2, ↓r_ulist, ↓r_utup, ↓r_ustr, ↓r_comp, ↓r_const, ↓r_eqDrr, ↓r_neDrr, ↓r_eqDii, ↓r_neDii, ↓r_eqDss, ↓r_neDss, ↓r_eqDbb, ↓r_neDbb, ↓r_sum, ↓r_mulB, ↓r_par, ↓r_two, ↓r_addLi, ↓r_addLs, ↓r_addLr, ↓r_neg, ↓r_listof, ↓r_tupof, ↓r_gsub, ↓r_setl, ↓r_jargs, ↓r_zip, ↓r_enum, ↓r_minA1, ↓r_minA2, ↓r_maxA1, ↓r_maxA2]
        refine ⟨_, _, .inl ((hs1.trans (hs3.trans hs4)).seq hS), atI_at0 (1 + i) (by omega) (by omega), ?_⟩
        try simp only [↓r_seq, ↓r_next, ↓r_var0, ↓r_gn0, ↓r_var1, ↓r_gn1, ↓r_var2, ↓r_gn2, ↓r_var3, ↓r_gn3, ↓r_var4, ↓r_gn4, ↓r_var5, ↓r_gn5, ↓r_var6, ↓r_gn6, ↓r_var7, ↓r_gn7, ↓r_var8, ↓r_gn8, ↓r_var9, ↓r_gn9, ↓r_var10, ↓r_gn10, ↓r_var11, ↓r_gn11, ↓r_var12, ↓r_gn12, ↓r_var13, ↓r_gn13, ↓r_var14, ↓r_gn14, ↓r_var15, ↓r_gn15, ↓r_var16, ↓r_gn16, ↓r_var17, ↓r_gn17, ↓r_var18, ↓r_gn18, ↓r_var19, ↓r_gn19, ↓r_c, ↓r_op, ↓r_un, ↓r_test, ↓r_tb, ↓r_bl, ↓r_ifs, ↓r_ret, ↓r_retn, ↓r_asg, ↓r_and, ↓r_or, ↓r_not, ↓r_andv, ↓r_orv, ↓r_notv, ↓r_drop, ↓r_cons, ↓r_nil, ↓r_cb, ↓r_lst, ↓r_tup, ↓r_call, ↓r_sl, ↓r_nopart, ↓r_part, ↓r_int, ↓r_bm, ↓r_bm0, ↓r_if, ↓r_chain, ↓r_true, ↓r_add, ↓r_adds, ↓r_addr, ↓r_sub, ↓r_mul, ↓r_div, ↓r_mod, ↓r_pow, ↓r_lt, ↓r_le, ↓r_gt, ↓r_ge, ↓r_eqint, ↓r_neint, ↓r_eqstr, ↓r_nestr, ↓r_eqbl, ↓r_nebl, ↓r_ins, ↓r_nins, ↓r_inint, ↓r_ninint, ↓r_instr, ↓r_ninstr, ↓r_ixs, ↓r_ixr, ↓r_sls, ↓r_slr, ↓r_lens, ↓r_lenr, ↓r_max, ↓r_min, ↓r_inti, ↓r_intb, ↓r_isi, ↓r_isic, ↓r_fld, ↓r_cxK, ↓r_nilapp, ↓r_for, ↓r_jof, ↓r_jrng1, ↓r_jrng2, ↓r_urng1, ↓r_urng2, ↓r_ulist, ↓r_utup, ↓r_ustr, ↓r_comp, ↓r_const, ↓r_eqDrr, ↓r_neDrr, ↓r_eqDii, ↓r_neDii, ↓r_eqDss, ↓r_neDss, ↓r_eqDbb, ↓r_neDbb, ↓r_sum, ↓r_mulB, ↓r_par, ↓r_two, ↓r_addLi, ↓r_addLs, ↓r_addLr, ↓r_neg, ↓r_listof, ↓r_tupof, ↓r_gsub, ↓r_setl, ↓r_jargs, ↓r_zip, ↓r_enum, ↓r_minA1, ↓r_minA2, ↓r_maxA1, ↓r_maxA2]
        refine ⟨mul_small (.inl ⟨by omega, by omega⟩), _, _, .inl (SqL.of ((hs3.trans hs4) _ _ hr1)), atI_at0 (n - (1 + i)) (by omega) (by omega), ?_⟩
        try simp only [↓r_seq, ↓r_next, ↓r_var0, ↓r_gn0, ↓r_var1, ↓r_gn1, ↓r_var2, ↓r_gn2, ↓r_var3, ↓r_gn3, ↓r_var4, ↓r_gn4, ↓r_var5, ↓r_gn5, ↓r_var6, ↓r_gn6, ↓r_var7, ↓r_gn7, ↓r_var8, ↓r_gn8, ↓r_var9, ↓r_gn9, ↓r_var10, ↓r_gn10, ↓r_var11, ↓r_gn11, ↓r_var12, ↓r_gn12, ↓r_var13, ↓r_gn13, ↓r_var14, ↓r_gn14, ↓r_var15, ↓r_gn15, ↓r_var16, ↓r_gn16, ↓r_var17, ↓r_gn17, ↓r_var18, ↓r_gn18, ↓r_var19, ↓r_gn19, ↓r_c, ↓r_op, ↓r_un, ↓r_test, ↓r_tb, ↓r_bl, ↓r_ifs, ↓r_ret, ↓r_retn, ↓r_asg, ↓r_and, ↓r_or, ↓r_not, ↓r_andv, ↓r_orv, ↓r_notv, ↓r_drop, ↓r_cons, ↓r_nil, ↓r_cb, ↓r_lst, ↓r_tup, ↓r_call, ↓r_sl, ↓r_nopart, ↓r_part, ↓r_int, ↓r_bm, ↓r_bm0, ↓r_if, ↓r_chain, ↓r_true, ↓r_add, ↓r_adds, ↓r_addr, ↓r_sub, ↓r_mul, ↓r_div, ↓r_mod, ↓r_pow, ↓r_lt, ↓r_le, ↓r_gt, ↓r_ge, ↓r_eqint, ↓r_neint, ↓r_eqstr, ↓r_nestr, ↓r_eqbl, ↓r_nebl, ↓r_ins, ↓r_nins, ↓r_inint, ↓r_ninint, ↓r_instr, ↓r_ninstr, ↓r_ixs, ↓r_ixr, ↓r_sls, ↓r_slr, ↓r_lens, ↓r_lenr, ↓r_max, ↓r_min, ↓r_inti, ↓r_intb, ↓r_isi, ↓r_isic, ↓r_fld, ↓r_cxK, ↓r_nilapp, ↓r_for, ↓r_jof, ↓r_jrng1, ↓r_jrng2, ↓r_urng1, ↓r_urng2, ↓r_ulist, ↓r_utup, ↓r_ustr, ↓r_comp, ↓r_const, ↓r_eqDrr, ↓r_neDrr, ↓r_eqDii, ↓r_neDii, ↓r_eqDss, ↓r_neDss, ↓r_eqDbb, ↓r_neDbb, ↓r_sum, ↓r_mulB, ↓r_par, ↓r_two, ↓r_addLi, ↓r_addLs, ↓r_addLr, ↓r_neg, ↓r_listof, ↓r_tupof, ↓r_gsub, ↓r_setl, ↓r_jargs, ↓r_zip, ↓r_enum, ↓r_minA1, ↓r_minA2, ↓r_maxA1, ↓r_maxA2]
        rw [rowsL_last (show n - (1 + i) ≤ n by omega) hn]
        obtain ⟨c1, c2⟩ := hA4 (1 + i)
        obtain ⟨b1, b2⟩ := MM.rows_bound hA n (by omega) (n - (1 + i)) (by omega)
        have hbig : (b + 7) * (n - (1 + i)) < 20000 := by
          have h1 : (b + 7) * (n - (1 + i)) ≤ 207 * 41 := Nat.mul_le_mul (by omega) (by omega)
          omega
        have hf : ((1 + (i : Int)) * MM.at0 as (1 + i)).natAbs < 2 ^ (b + 8) := by
          rw [Int.natAbs_mul]
          have h3 : (MM.at0 as (1 + i)).natAbs < 2 ^ b := by
            have : ((2 ^ b : Nat) : Int) = (2 : Int) ^ b := by push_cast; rfl
            omega
          have h4 : (1 + (i : Int)).natAbs ≤ 256 := by omega
          rw [Nat.pow_add, Nat.mul_comm]
          exact Nat.lt_of_le_of_lt (Nat.mul_le_mul_left _ h4) (Nat.mul_lt_mul_of_pos_right h3 (by decide))
        exact ⟨mul_ok hf (MM.abs_lt_of b1 b2 hbig) (by omega), hy2 _ (Same.refl _)⟩
      · try simp only [↓r_seq, ↓r_next, ↓r_var0, ↓r_gn0, ↓r_var1, ↓r_gn1, ↓r_var2, ↓r_gn2, ↓r_var3, ↓r_gn3, ↓r_var4, ↓r_gn4, ↓r_var5, ↓r_gn5, ↓r_var6, ↓r_gn6, ↓r_var7, ↓r_gn7, ↓r_var8, ↓r_gn8, ↓r_var9, ↓r_gn9, ↓r_var10, ↓r_gn10, ↓r_var11, ↓r_gn11, ↓r_var12, ↓r_gn12, ↓r_var13, ↓r_gn13, ↓r_var14, ↓r_gn14, ↓r_var15, ↓r_gn15, ↓r_var16, ↓r_gn16, ↓r_var17, ↓r_gn17, ↓r_var18, ↓r_gn18, ↓r_var19, ↓r_gn19, ↓r_c, ↓r_op, ↓r_un, ↓r_test, ↓r_tb, ↓r_bl, ↓r_ifs, ↓r_ret, ↓r_retn, ↓r_asg, ↓r_and, ↓r_or, ↓r_not, ↓r_andv, ↓r_orv, ↓r_notv, ↓r_drop, ↓r_cons, ↓r_nil, ↓r_cb, ↓r_lst, ↓r_tup, ↓r_call, ↓r_sl, ↓r_nopart, ↓r_part, ↓r_int, ↓r_bm, ↓r_bm0, ↓r_if, ↓r_chain, ↓r_true, ↓r_add, ↓r_adds, ↓r_addr, ↓r_sub, ↓r_mul, ↓r_div, ↓r_mod, ↓r_pow, ↓r_lt, ↓r_le, ↓r_gt, ↓r_ge, ↓r_eqint, ↓r_neint, ↓r_eqstr, ↓r_nestr, ↓r_eqbl, ↓r_nebl, ↓r_ins, ↓r_nins, ↓r_inint, ↓r_ninint, ↓r_instr, ↓r_ninstr, ↓r_ixs, ↓r_ixr, ↓r_sls, ↓r_slr, ↓r_lens, ↓r_lenr, ↓r_max, ↓r_min, ↓r_inti, ↓r_intb, ↓r_isi, ↓r_isic, ↓r_fld, ↓r_cxK, ↓r_nilapp, ↓r_for, ↓r_jof, ↓r_jrng1, ↓r_jrng2, ↓r_urng1, ↓r_urng2, ↓r_ulist, ↓r_utup, ↓r_ustr, ↓r_comp, ↓r_const, ↓r_eqDrr, ↓r_neDrr, ↓r_eqDii, ↓r_neDii, ↓r_eqDss, ↓r_neDss, ↓r_eqDbb, ↓r_neDbb, ↓r_sum, ↓r_mulB, ↓r_par, ↓r_two, ↓r_addLi, ↓r_addLs, ↓r_addLr, ↓r_neg, ↓r_listof, ↓r_tupof, ↓r_gsub, ↓r_setl, ↓r_jargs, ↓r_zip, ↓r_enum, ↓r_minA1, ↓r_minA2, ↓r_maxA1, ↓r_maxA2]
        exact ⟨_, SqL.of hl4', hy _ hs4⟩
    · exact q l H3 (hs1.free hl) (hs1.trans hs3) hl3
end
def sp_div : Sp := fun vs H Q _ => ∃ n : Nat, vs = [.int (n : Int)] ∧ n ≤ 100 ∧ ∀ l H', H l = none → Same H H' → H' l = some (.lst ((dvL n).map V.int)) → Q (.ref l) H'
section
variable {P : Program} {w : World} {K : PySem.W.Frag} {mg : Str → Option Value} {base : Heap} {f_row_counts f_ring_counts f_begun_counts f_divisors f_sharing_none f_shared f_w_whole f_w_is_row f_w_cell f_w_rows_of f_w_rings_of f_law : Addr} {d_row_counts d_ring_counts d_begun_counts d_divisors d_sharing_none d_shared d_w_whole d_w_is_row d_w_cell d_w_rows_of d_w_rings_of d_law : FuncData}
theorem ok_div (T : TX K mg f_row_counts f_ring_counts f_begun_counts f_divisors f_sharing_none f_shared f_w_whole f_w_is_row f_w_cell f_w_rows_of f_w_rings_of f_law d_row_counts d_ring_counts d_begun_counts d_divisors d_sharing_none d_shared d_w_whole d_w_is_row d_w_cell d_w_rows_of d_w_rings_of d_law) : FnOk P w K mg base CX0 1 f_divisors d_divisors ["n"] sp_div := by
  refine T.F_divisors.ok2 (sc := ?sc) (body := ?bd) ?hs ?hb sc_divisors (fun vs H Q E h => ?_) (fun S cdv A outer s H vs Q E hr h => ?_)
  case hs => conv => lhs; whnf
  case hb => conv => lhs; whnf
  · obtain ⟨m, rfl, _⟩ := h
    rfl
  · obtain ⟨n, rfl, hn, q⟩ := h
    refine ⟨_, (pss_one (ps_ret (pe_comp (ts := ["d"]) (frs' := [("n", 0)]) (cl := _) rfl ⟨(by rfl), rfl, (by decide +kernel), (by decide +kernel), (allm_cons (by rfl) allm_nil), (free_has (by rfl) (by rfl)), (allm_cons ⟨(by rfl), (by first | exact .inl rfl | exact .inr rfl), (by first | exact .inl rfl | exact .inr rfl), (by rfl)⟩ allm_nil)⟩ (pj_range2 rfl T.n_range (pa_cons pe_int (pa_cons (pe_op o_addL (pv 0) pe_int) pa_nil))) (fun _ _ _ _ => pg_name (i := 0) (show List.Nodup (["d", "n"] : List Str) from by decide +kernel) rfl (Or.inl rfl) (.inr rfl)) (fun _ _ _ _ => (pifs_one (pt_cmpR (k_eqD K rfl hr) (pe_op o_mod (pv 1) (pv 0)) pe_int (nomark _)))) (fun _ _ _ _ => by exact (pv 0))))), ?_⟩
    simp only [L2.start, List.map_cons, List.map_nil, List.length_cons, List.length_nil, List.replicate, List.cons_append, List.nil_append, Nat.reduceAdd, Nat.reduceSub]
    try simp only [↓r_seq, ↓r_next, ↓r_var0, ↓r_gn0, ↓r_var1, ↓r_gn1, ↓r_var2, ↓r_gn2, ↓r_var3, ↓r_gn3, ↓r_var4, ↓r_gn4, ↓r_var5, ↓r_gn5, ↓r_var6, ↓r_gn6, ↓r_var7, ↓r_gn7, ↓r_var8, ↓r_gn8, ↓r_var9, ↓r_gn9, ↓r_var10, ↓r_gn10, ↓r_var11, ↓r_gn11, ↓r_var12, ↓r_gn12, ↓r_var13, ↓r_gn13, ↓r_var14, ↓r_gn14, ↓r_var15, ↓r_gn15, ↓r_var16, ↓r_gn16, ↓r_var17, ↓r_gn17, ↓r_var18, ↓r_gn18, ↓r_var19, ↓r_gn19, ↓r_c, ↓r_op, ↓r_un, ↓r_test, ↓r_tb, ↓r_bl, ↓r_ifs, ↓r_ret, ↓r_retn, ↓r_asg, ↓r_and, ↓r_or, ↓r_not, ↓r_andv, ↓r_orv, ↓r_notv, ↓r_drop, ↓r_cons, ↓r_nil, ↓r_cb, ↓r_lst, ↓r_tup, ↓r_call, ↓r_sl, ↓r_nopart, ↓r_part, ↓r_int, ↓r_bm, ↓r_bm0, ↓r_if, ↓r_chain, ↓r_true, ↓r_add, ↓r_adds, ↓r_addr, ↓r_sub, ↓r_mul, ↓r_div, ↓r_mod, ↓r_pow, ↓r_lt, ↓r_le, ↓r_gt, ↓r_ge, ↓r_eqint, ↓r_neint, ↓r_eqstr, ↓r_nestr, ↓r_eqbl, ↓r_nebl, ↓r_ins, ↓r_nins, ↓r_inint, ↓r_ninint, ↓r_instr, ↓r_ninstr, ↓r_ixs, ↓r_ixr, ↓r_sls, ↓r_slr, ↓r_lens, ↓r_lenr, ↓r_max, ↓r_min, ↓r_inti, ↓r_intb, ↓r_isi, ↓r_isic, ↓r_fld, ↓r_cxK, ↓r_nilapp, ↓r_for, ↓r_jof, ↓r_jrng1, ↓r_jrng2, ↓r_urng1, ↓r_urng2, ↓r_ulist, ↓r_utup, ↓r_ustr, ↓r_comp, ↓r_const, ↓r_eqDrr, ↓r_neDrr, ↓r_eqDii, ↓r_neDii, ↓r_eqDss, ↓r_neDss, ↓r_eqDbb, ↓r_neDbb, ↓r_sum, ↓r_mulB, ↓r_par, ↓r_two, ↓r_addLi, ↓r_addLs, ↓r_addLr, ↓r_neg, ↓r_listof, ↓r_tupof, ↓r_gsub, ↓r_setl, ↓r_jargs, ↓r_zip, ↓r_enum, ↓r_minA1, ↓r_minA2, ↓r_maxA1, ↓r_maxA2]
    refine ⟨⟨by decide, by decide, by omega, by omega⟩, fun l hl => ?_⟩
    have e : ((n : Int) + 1 - 1).toNat = n := by omega
    rw [e]
    try simp only [L2.compStart, List.replicate, List.map_cons, List.map_nil, List.getElem?_cons_zero, List.getElem?_cons_succ, Option.join_some, List.cons_append, List.nil_append]
    refine cl_rng (fun i => decide ((n : Int) % (1 + (i : Int)) = 0)) (fun i => .int (1 + (i : Int))) hl (by omega) (fun i H2 hi hs Cy Cn hy hn => ?_) (fun H2 hs hl2 => ?_)
    · try simp only [↓r_seq, ↓r_next, ↓r_var0, ↓r_gn0, ↓r_var1, ↓r_gn1, ↓r_var2, ↓r_gn2, ↓r_var3, ↓r_gn3, ↓r_var4, ↓r_gn4, ↓r_var5, ↓r_gn5, ↓r_var6, ↓r_gn6, ↓r_var7, ↓r_gn7, ↓r_var8, ↓r_gn8, ↓r_var9, ↓r_gn9, ↓r_var10, ↓r_gn10, ↓r_var11, ↓r_gn11, ↓r_var12, ↓r_gn12, ↓r_var13, ↓r_gn13, ↓r_var14, ↓r_gn14, ↓r_var15, ↓r_gn15, ↓r_var16, ↓r_gn16, ↓r_var17, ↓r_gn17, ↓r_var18, ↓r_gn18, ↓r_var19, ↓r_gn19, ↓r_c, ↓r_op, ↓r_un, ↓r_test, ↓r_tb, ↓r_bl, ↓r_ifs, ↓r_ret, ↓r_retn, ↓r_asg, ↓r_and, ↓r_or, ↓r_not, ↓r_andv, ↓r_orv, ↓r_notv, ↓r_drop, ↓r_cons, ↓r_nil, ↓r_cb, ↓r_lst, ↓r_tup, ↓r_call, ↓r_sl, ↓r_nopart, ↓r_part, ↓r_int, ↓r_bm, ↓r_bm0, ↓r_if, ↓r_chain, ↓r_true, ↓r_add, ↓r_adds, ↓r_addr, ↓r_sub, ↓r_mul, ↓r_div, ↓r_mod, ↓r_pow, ↓r_lt, ↓r_le, ↓r_gt, ↓r_ge, ↓r_eqint, ↓r_neint, ↓r_eqstr, ↓r_nestr, ↓r_eqbl, ↓r_nebl, ↓r_ins, ↓r_nins, ↓r_inint, ↓r_ninint, ↓r_instr, ↓r_ninstr, ↓r_ixs, ↓r_ixr, ↓r_sls, ↓r_slr, ↓r_lens, ↓r_lenr, ↓r_max, ↓r_min, ↓r_inti, ↓r_intb, ↓r_isi, ↓r_isic, ↓r_fld, ↓r_cxK, ↓r_nilapp, ↓r_for, ↓r_jof, ↓r_jrng1, ↓r_jrng2, ↓r_urng1, ↓r_urng2, ↓r_ulist, ↓r_utup, ↓r_ustr, ↓r_comp, ↓r_const, ↓r_eqDrr, ↓r_neDrr, ↓r_eqDii, ↓r_neDii, ↓r_eqDss, ↓r_neDss, ↓r_eqDbb, ↓r_neDbb, ↓r_sum, ↓r_mulB, ↓r_par, ↓r_two, ↓r_addLi, ↓r_addLs, ↓r_addLr, ↓r_neg, ↓r_listof, ↓r_tupof, ↓r_gsub, ↓r_setl, ↓r_jargs, ↓r_zip, ↓r_enum, ↓r_minA1, ↓r_minA2, ↓r_maxA1, ↓r_maxA2]
      refine ⟨by omega, ite2 (fun h => ?_) (fun h => ?_)⟩
      · exact hy h _ (Same.refl _)
      · exact hn (by simpa using h) _ (Same.refl _)
    · refine q l H2 hl hs ?_
      rw [hl2, dvL, List.map_map]
      rfl
end
/-- the turned rows of size n -/
def trn (as : List Int) (n : Nat) : Int := MM.dsum n fun k => (MM.phi k : Int) * MM.bgn as (n / k)
def rg (as : List Int) (n : Nat) : Int := trn as n / (n : Int)
def rgL (as : List Int) (m : Nat) : List Int := (List.range m).map (rg as)
def tm (as : List Int) (n : Nat) : V → V
  | .int d => .int ((MM.phi d.toNat : Int) * MM.at0 (bgL as) ((n : Int) / d).toNat)
  | v => v
theorem tm_sum {as : List Int} {n : Nat} (hn : n < as.length) : ((dvL n).map fun d => (MM.phi d.toNat : Int) * MM.at0 (bgL as) ((n : Int) / d).toNat).sum = trn as n := by
  rw [dvL_sum]
  unfold trn MM.dsum
  refine MM.sm_congr fun i hi => ?_
  by_cases h : (i + 1) ∣ n
  · rw [if_pos h, if_pos h]
    have e1 : (1 + (i : Int)).toNat = i + 1 := by omega
    have e2 : ((n : Int) / (1 + (i : Int))).toNat = n / (i + 1) := by
      rw [show (1 + (i : Int)) = ((i + 1 : Nat) : Int) by omega, ← Int.natCast_ediv, Int.toNat_natCast]
    rw [e1, e2]
    congr 1
    unfold bgL
    exact MM.at0_map _ (Nat.lt_of_le_of_lt (Nat.div_le_self _ _) hn)
  · rw [if_neg h, if_neg h]
def sp_ring (K : PySem.W.Frag) (b : Nat) : Sp := fun vs H Q _ => ∃ (ad : Addr) (as : List Int), vs = [.ref ad] ∧ SqL K H ad (as.map V.int) ∧ MM.Amt b as ∧
  ∀ l H', H l = none → Same H H' → H' l = some (.lst ((rgL as as.length).map V.int)) → Q (.ref l) H'
section
variable {P : Program} {w : World} {K : PySem.W.Frag} {mg : Str → Option Value} {base : Heap} {f_row_counts f_ring_counts f_begun_counts f_divisors f_sharing_none f_shared f_w_whole f_w_is_row f_w_cell f_w_rows_of f_w_rings_of f_law : Addr} {d_row_counts d_ring_counts d_begun_counts d_divisors d_sharing_none d_shared d_w_whole d_w_is_row d_w_cell d_w_rows_of d_w_rings_of d_law : FuncData}
theorem ok_ring (T : TX K mg f_row_counts f_ring_counts f_begun_counts f_divisors f_sharing_none f_shared f_w_whole f_w_is_row f_w_cell f_w_rows_of f_w_rings_of f_law d_row_counts d_ring_counts d_begun_counts d_divisors d_sharing_none d_shared d_w_whole d_w_is_row d_w_cell d_w_rows_of d_w_rings_of d_law) (b : Nat) (hb : b ≤ 200) : FnOk P w K mg base CX0 3 f_ring_counts d_ring_counts ["a"] (sp_ring K b) := by
  have G_begun_counts := ok_begun (P := P) (w := w) (base := base) T b hb
  have G_sharing_none := ok_phi (P := P) (w := w) (base := base) T
  have G_divisors := ok_div (P := P) (w := w) (base := base) T
  refine T.F_ring_counts.ok2 (sc := ?sc) (body := ?bd) ?hs ?hb sc_ring_counts (fun vs H Q E h => ?_) (fun S cdv A outer s H vs Q E hr h => ?_)
  case hs => conv => lhs; whnf
  case hb => conv => lhs; whnf
  · obtain ⟨_, _, rfl, _⟩ := h
    rfl
  · obtain ⟨ad, as, rfl, hS, hA, q⟩ := h
    obtain ⟨hA1, hA2, hA3, hA4⟩ := id hA
    refine ⟨_, (pss_cons (ps_set (i := 1) S.nd rfl (Or.inr rfl) (pe_call (G_begun_counts.mono (by first | decide | omega)) hr (by rfl) T.M_begun_counts T.F_begun_counts.kp T.B_begun_counts .nil pass0 (pa_cons (pv 0) pa_nil)))
      (pss_cons (ps_set (i := 2) S.nd rfl (Or.inl rfl) (pe_lst (pa_cons pe_int pa_nil)))
      (pss_cons (ps_for PassesOwn.never rfl (pj_range2 rfl T.n_range (pa_cons pe_int (pa_cons (pe_callB c_len (by rfl) T.n_len (by decide +kernel) (pa_cons (pv 0) pa_nil)) pa_nil))) (pg_name (i := 3) S.nd rfl (Or.inr rfl))
      (pss_cons (ps_set (i := 4) S.nd rfl (Or.inl rfl) (pe_callB (c_sum rfl) (by rfl) T.n_sum (by decide +kernel) (pa_cons (pe_comp (ts := ["k"]) (frs' := [("begun", 1), ("size", 3)]) (cl := _) rfl ⟨(by rfl), rfl, (by decide +kernel), (by decide +kernel), (allm_cons (by rfl) (allm_cons (by rfl) allm_nil)), (free_has (by rfl) (by rfl)), (allm_cons ⟨(by rfl), (by first | exact .inl rfl | exact .inr rfl), (by first | exact .inl rfl | exact .inr rfl), (by rfl)⟩ (allm_cons ⟨(by rfl), (by first | exact .inl rfl | exact .inr rfl), (by first | exact .inl rfl | exact .inr rfl), (by rfl)⟩ allm_nil))⟩ (pj_list (pe_call (G_divisors.mono (by first | decide | omega)) hr (by rfl) T.M_divisors T.F_divisors.kp T.B_divisors .nil pass0 (pa_cons (pv 3) pa_nil))) (fun _ _ _ _ => pg_name (i := 0) (show List.Nodup (["k", "begun", "size"] : List Str) from by decide +kernel) rfl (Or.inl rfl) (.inr rfl)) (fun _ _ _ _ => pifs_nil) (fun _ _ _ _ => by exact (pe_op o_mulB (pe_call (G_sharing_none.mono (by first | decide | omega)) hr (by rfl) T.M_sharing_none T.F_sharing_none.kp T.B_sharing_none .nil pass0 (pa_cons (pv 0) pa_nil)) (pe_ix (k_ix K rfl) (pv 1) (pe_op o_fdiv (pv 2) (pv 0)) (fun _ _ => rfl))))) pa_nil)))
      (pss_one (ps_expr (pe_bm PySem.F.plainAttrs_list PySem.F.slot_list_append PySem.F.type_list_append mt_append (pv 2) (pa_cons (pe_op o_fdiv (pv 4) (pv 3)) pa_nil))))))
      (pss_one (ps_ret (pv 2)))))), ?_⟩
    simp only [L2.start, List.map_cons, List.map_nil, List.length_cons, List.length_nil, List.replicate, List.cons_append, List.nil_append, Nat.reduceAdd, Nat.reduceSub]
    try simp only [↓r_seq, ↓r_next, ↓r_var0, ↓r_gn0, ↓r_var1, ↓r_gn1, ↓r_var2, ↓r_gn2, ↓r_var3, ↓r_gn3, ↓r_var4, ↓r_gn4, ↓r_var5, ↓r_gn5, ↓r_var6, ↓r_gn6, ↓r_var7, ↓r_gn7, ↓r_var8, ↓r_gn8, ↓r_var9, ↓r_gn9, ↓r_var10, ↓r_gn10, ↓r_var11, ↓r_gn11, ↓r_var12, ↓r_gn12, ↓r_var13, ↓r_gn13, ↓r_var14, ↓r_gn14, ↓r_var15, ↓r_gn15, ↓r_var16, ↓r_gn16, ↓r_var17, ↓r_gn17, ↓r_var18, ↓r_gn18, ↓r_var19, ↓r_gn19, ↓r_c, ↓r_op, ↓r_un, ↓r_test, ↓r_tb, ↓r_bl, ↓r_ifs, ↓r_ret, ↓r_retn, ↓r_asg, ↓r_and, ↓r_or, ↓r_not, ↓r_andv, ↓r_orv, ↓r_notv, ↓r_drop, ↓r_cons, ↓r_nil, ↓r_cb, ↓r_lst, ↓r_tup, ↓r_call, ↓r_sl, ↓r_nopart, ↓r_part, ↓r_int, ↓r_bm, ↓r_bm0, ↓r_if, ↓r_chain, ↓r_true, ↓r_add, ↓r_adds, ↓r_addr, ↓r_sub, ↓r_mul, ↓r_div, ↓r_mod, ↓r_pow, ↓r_lt, ↓r_le, ↓r_gt, ↓r_ge, ↓r_eqint, ↓r_neint, ↓r_eqstr, ↓r_nestr, ↓r_eqbl, ↓r_nebl, ↓r_ins, ↓r_nins, ↓r_inint, ↓r_ninint, ↓r_instr, ↓r_ninstr, ↓r_ixs, ↓r_ixr, ↓r_sls, ↓r_slr, ↓r_lens, ↓r_lenr, ↓r_max, ↓r_min, ↓r_inti, ↓r_intb, ↓r_isi, ↓r_isic, ↓r_fld, ↓r_cxK, ↓r_nilapp, ↓r_for, ↓r_jof, ↓r_jrng1, ↓r_jrng2, ↓r_urng1, ↓r_urng2, ↓r_ulist, ↓r_utup, ↓r_ustr, ↓r_comp, ↓r_const, ↓r_eqDrr, ↓r_neDrr, ↓r_eqDii, ↓r_neDii, ↓r_eqDss, ↓r_neDss, ↓r_eqDbb, ↓r_neDbb, ↓r_sum, ↓r_mulB, ↓r_par, ↓r_two, ↓r_addLi, ↓r_addLs, ↓r_addLr, ↓r_neg, ↓r_listof, ↓r_tupof, ↓r_gsub, ↓r_setl, ↓r_jargs, ↓r_zip, ↓r_enum, ↓r_minA1, ↓r_minA2, ↓r_maxA1, ↓r_maxA2]
    refine ⟨ad, as, rfl, hS, hA, fun g H1 hg0 hs1 hg1 => ?_⟩
    try simp only [↓r_seq, ↓r_next, ↓r_var0, ↓r_gn0, ↓r_var1, ↓r_gn1, ↓r_var2, ↓r_gn2, ↓r_var3, ↓r_gn3, ↓r_var4, ↓r_gn4, ↓r_var5, ↓r_gn5, ↓r_var6, ↓r_gn6, ↓r_var7, ↓r_gn7, ↓r_var8, ↓r_gn8, ↓r_var9, ↓r_gn9, ↓r_var10, ↓r_gn10, ↓r_var11, ↓r_gn11, ↓r_var12, ↓r_gn12, ↓r_var13, ↓r_gn13, ↓r_var14, ↓r_gn14, ↓r_var15, ↓r_gn15, ↓r_var16, ↓r_gn16, ↓r_var17, ↓r_gn17, ↓r_var18, ↓r_gn18, ↓r_var19, ↓r_gn19, ↓r_c, ↓r_op, ↓r_un, ↓r_test, ↓r_tb, ↓r_bl, ↓r_ifs, ↓r_ret, ↓r_retn, ↓r_asg, ↓r_and, ↓r_or, ↓r_not, ↓r_andv, ↓r_orv, ↓r_notv, ↓r_drop, ↓r_cons, ↓r_nil, ↓r_cb, ↓r_lst, ↓r_tup, ↓r_call, ↓r_sl, ↓r_nopart, ↓r_part, ↓r_int, ↓r_bm, ↓r_bm0, ↓r_if, ↓r_chain, ↓r_true, ↓r_add, ↓r_adds, ↓r_addr, ↓r_sub, ↓r_mul, ↓r_div, ↓r_mod, ↓r_pow, ↓r_lt, ↓r_le, ↓r_gt, ↓r_ge, ↓r_eqint, ↓r_neint, ↓r_eqstr, ↓r_nestr, ↓r_eqbl, ↓r_nebl, ↓r_ins, ↓r_nins, ↓r_inint, ↓r_ninint, ↓r_instr, ↓r_ninstr, ↓r_ixs, ↓r_ixr, ↓r_sls, ↓r_slr, ↓r_lens, ↓r_lenr, ↓r_max, ↓r_min, ↓r_inti, ↓r_intb, ↓r_isi, ↓r_isic, ↓r_fld, ↓r_cxK, ↓r_nilapp, ↓r_for, ↓r_jof, ↓r_jrng1, ↓r_jrng2, ↓r_urng1, ↓r_urng2, ↓r_ulist, ↓r_utup, ↓r_ustr, ↓r_comp, ↓r_const, ↓r_eqDrr, ↓r_neDrr, ↓r_eqDii, ↓r_neDii, ↓r_eqDss, ↓r_neDss, ↓r_eqDbb, ↓r_neDbb, ↓r_sum, ↓r_mulB, ↓r_par, ↓r_two, ↓r_addLi, ↓r_addLs, ↓r_addLr, ↓r_neg, ↓r_listof, ↓r_tupof, ↓r_gsub, ↓r_setl, ↓r_jargs, ↓r_zip, ↓r_enum, ↓r_minA1, ↓r_minA2, ↓r_maxA1, ↓r_maxA2]
    refine ⟨by decide, fun r hr0 => ?_⟩
    try simp only [↓r_seq, ↓r_next, ↓r_var0, ↓r_gn0, ↓r_var1, ↓r_gn1, ↓r_var2, ↓r_gn2, ↓r_var3, ↓r_gn3, ↓r_var4, ↓r_gn4, ↓r_var5, ↓r_gn5, ↓r_var6, ↓r_gn6, ↓r_var7, ↓r_gn7, ↓r_var8, ↓r_gn8, ↓r_var9, ↓r_gn9, ↓r_var10, ↓r_gn10, ↓r_var11, ↓r_gn11, ↓r_var12, ↓r_gn12, ↓r_var13, ↓r_gn13, ↓r_var14, ↓r_gn14, ↓r_var15, ↓r_gn15, ↓r_var16, ↓r_gn16, ↓r_var17, ↓r_gn17, ↓r_var18, ↓r_gn18, ↓r_var19, ↓r_gn19, ↓r_c, ↓r_op, ↓r_un, ↓r_test, ↓r_tb, ↓r_bl, ↓r_ifs, ↓r_ret, ↓r_retn, ↓r_asg, ↓r_and, ↓r_or, ↓r_not, ↓r_andv, ↓r_orv, ↓r_notv, ↓r_drop, ↓r_cons, ↓r_nil, ↓r_cb, ↓r_lst, ↓r_tup, ↓r_call, ↓r_sl, ↓r_nopart, ↓r_part, ↓r_int, ↓r_bm, ↓r_bm0, ↓r_if, ↓r_chain, ↓r_true, ↓r_add, ↓r_adds, ↓r_addr, ↓r_sub, ↓r_mul, ↓r_div, ↓r_mod, ↓r_pow, ↓r_lt, ↓r_le, ↓r_gt, ↓r_ge, ↓r_eqint, ↓r_neint, ↓r_eqstr, ↓r_nestr, ↓r_eqbl, ↓r_nebl, ↓r_ins, ↓r_nins, ↓r_inint, ↓r_ninint, ↓r_instr, ↓r_ninstr, ↓r_ixs, ↓r_ixr, ↓r_sls, ↓r_slr, ↓r_lens, ↓r_lenr, ↓r_max, ↓r_min, ↓r_inti, ↓r_intb, ↓r_isi, ↓r_isic, ↓r_fld, ↓r_cxK, ↓r_nilapp, ↓r_for, ↓r_jof, ↓r_jrng1, ↓r_jrng2, ↓r_urng1, ↓r_urng2, ↓r_ulist, ↓r_utup, ↓r_ustr, ↓r_comp, ↓r_const, ↓r_eqDrr, ↓r_neDrr, ↓r_eqDii, ↓r_neDii, ↓r_eqDss, ↓r_neDss, ↓r_eqDbb, ↓r_neDbb, ↓r_sum, ↓r_mulB, ↓r_par, ↓r_two, ↓r_addLi, ↓r_addLs, ↓r_addLr, ↓r_neg, ↓r_listof, ↓r_tupof, ↓r_gsub, ↓r_setl, ↓r_jargs, ↓r_zip, ↓r_enum, ↓r_minA1, ↓r_minA2, ↓r_maxA1, ↓r_maxA2]
    have hsr := Same.upd_new (o := .lst [V.int 0]) hr0
    have hrH : H r = none := hs1.free hr0
    refine ⟨_, .inl ((hs1.trans hsr).seq hS), ⟨by decide, by decide, by rw [List.length_map]; omega, by rw [List.length_map]; omega⟩, ?_⟩
    have en : (((as.map V.int).length : Int) - 1).toNat = as.length - 1 := by rw [List.length_map]; omega
    rw [en]
    refine for_range (fun i σ H2 => ∃ k1 k2 : Option V, σ = [some (.ref ad), some (.ref g), some (.ref r), k1, k2] ∧ Same H1 H2 ∧ H2 r = some (.lst ((rgL as (i + 1)).map V.int))) ⟨_, _, rfl, hsr, ?_⟩ ?_ ?_
    · rw [upd_same]; rfl
    · rintro i σ H2 hi ⟨k1, k2, rfl, hs, hr2⟩
      try simp only [↓r_seq, ↓r_next, ↓r_var0, ↓r_gn0, ↓r_var1, ↓r_gn1, ↓r_var2, ↓r_gn2, ↓r_var3, ↓r_gn3, ↓r_var4, ↓r_gn4, ↓r_var5, ↓r_gn5, ↓r_var6, ↓r_gn6, ↓r_var7, ↓r_gn7, ↓r_var8, ↓r_gn8, ↓r_var9, ↓r_gn9, ↓r_var10, ↓r_gn10, ↓r_var11, ↓r_gn11, ↓r_var12, ↓r_gn12, ↓r_var13, ↓r_gn13, ↓r_var14, ↓r_gn14, ↓r_var15, ↓r_gn15, ↓r_var16, ↓r_gn16, ↓r_var17, ↓r_gn17, ↓r_var18, ↓r_gn18, ↓r_var19, ↓r_gn19, ↓r_c, ↓r_op, ↓r_un, ↓r_test, ↓r_tb, ↓r_bl, ↓r_ifs, ↓r_ret, ↓r_retn, ↓r_asg, ↓r_and, ↓r_or, ↓r_not, ↓r_andv, ↓r_orv, ↓r_notv, ↓r_drop, ↓r_cons, ↓r_nil, ↓r_cb, ↓r_lst, ↓r_tup, ↓r_call, ↓r_sl, ↓r_nopart, ↓r_part, ↓r_int, ↓r_bm, ↓r_bm0, ↓r_if, ↓r_chain, ↓r_true, ↓r_add, ↓r_adds, ↓r_addr, ↓r_sub, ↓r_mul, ↓r_div, ↓r_mod, ↓r_pow, ↓r_lt, ↓r_le, ↓r_gt, ↓r_ge, ↓r_eqint, ↓r_neint, ↓r_eqstr, ↓r_nestr, ↓r_eqbl, ↓r_nebl, ↓r_ins, ↓r_nins, ↓r_inint, ↓r_ninint, ↓r_instr, ↓r_ninstr, ↓r_ixs, ↓r_ixr, ↓r_sls, ↓r_slr, ↓r_lens, ↓r_lenr, ↓r_max, ↓r_min, ↓r_inti, ↓r_intb, ↓r_isi, ↓r_isic, ↓r_fld, ↓r_cxK, ↓r_nilapp, ↓r_for, ↓r_jof, ↓r_jrng1, ↓r_jrng2, ↓r_urng1, ↓r_urng2, ↓r_ulist, ↓r_utup, ↓r_ustr, ↓r_comp, ↓r_const, ↓r_eqDrr, ↓r_neDrr, ↓r_eqDii, ↓r_neDii, ↓r_eqDss, ↓r_neDss, ↓r_eqDbb, ↓r_neDbb, ↓r_sum, ↓r_mulB, ↓r_par, ↓r_two, ↓r_addLi, ↓r_addLs, ↓r_addLr, ↓r_neg, ↓r_listof, ↓r_tupof, ↓r_gsub, ↓r_setl, ↓r_jargs, ↓r_zip, ↓r_enum, ↓r_minA1, ↓r_minA2, ↓r_maxA1, ↓r_maxA2]
      refine ⟨1 + i, by simp, by omega, fun d H3 hd0 hs3 hd3 => ?_⟩
      try simp only [↓r_seq, ↓r_next, ↓r_var0, ↓r_gn0, ↓r_var1, ↓r_gn1, ↓r_var2, ↓r_gn2, ↓r_var3, ↓r_gn3, ↓r_var4, ↓r_gn4, ↓r_var5, ↓r_gn5, ↓r_var6, ↓r_gn6, ↓r_var7, ↓r_gn7, ↓r_var8, ↓r_gn8, ↓r_var9, ↓r_gn9, ↓r_var10, ↓r_gn10, ↓r_var11, ↓r_gn11, ↓r_var12, ↓r_gn12, ↓r_var13, ↓r_gn13, ↓r_var14, ↓r_gn14, ↓r_var15, ↓r_gn15, ↓r_var16, ↓r_gn16, ↓r_var17, ↓r_gn17, ↓r_var18, ↓r_gn18, ↓r_var19, ↓r_gn19, ↓r_c, ↓r_op, ↓r_un, ↓r_test, ↓r_tb, ↓r_bl, ↓r_ifs, ↓r_ret, ↓r_retn, ↓r_asg, ↓r_and, ↓r_or, ↓r_not, ↓r_andv, ↓r_orv, ↓r_notv, ↓r_drop, ↓r_cons, ↓r_nil, ↓r_cb, ↓r_lst, ↓r_tup, ↓r_call, ↓r_sl, ↓r_nopart, ↓r_part, ↓r_int, ↓r_bm, ↓r_bm0, ↓r_if, ↓r_chain, ↓r_true, ↓r_add, ↓r_adds, ↓r_addr, ↓r_sub, ↓r_mul, ↓r_div, ↓r_mod, ↓r_pow, ↓r_lt, ↓r_le, ↓r_gt, ↓r_ge, ↓r_eqint, ↓r_neint, ↓r_eqstr, ↓r_nestr, ↓r_eqbl, ↓r_nebl, ↓r_ins, ↓r_nins, ↓r_inint, ↓r_ninint, ↓r_instr, ↓r_ninstr, ↓r_ixs, ↓r_ixr, ↓r_sls, ↓r_slr, ↓r_lens, ↓r_lenr, ↓r_max, ↓r_min, ↓r_inti, ↓r_intb, ↓r_isi, ↓r_isic, ↓r_fld, ↓r_cxK, ↓r_nilapp, ↓r_for, ↓r_jof, ↓r_jrng1, ↓r_jrng2, ↓r_urng1, ↓r_urng2, ↓r_ulist, ↓r_utup, ↓r_ustr, ↓r_comp, ↓r_const, ↓r_eqDrr, ↓r_neDrr, ↓r_eqDii, ↓r_neDii, ↓r_eqDss, ↓r_neDss, ↓r_eqDbb, ↓r_neDbb, ↓r_sum, ↓r_mulB, ↓r_par, ↓r_two, ↓r_addLi, ↓r_addLs, ↓r_addLr, ↓r_neg, ↓r_listof, ↓r_tupof, ↓r_gsub, ↓r_setl, ↓r_jargs, ↓r_zip, ↓r_enum, ↓r_minA1, ↓r_minA2, ↓r_maxA1, ↓r_maxA2]
      refine ⟨⟨_, SqL.of hd3⟩, fun l hl => ?_⟩
      try simp only [L2.compStart, List.replicate, List.map_cons, List.map_nil, List.getElem?_cons_zero, List.getElem?_cons_succ, Option.join_some, List.cons_append, List.nil_append]
      have hdl := dvL_len (1 + i)
      refine cl_lstT (xs := (dvL (1 + i)).map V.int) (tm as (1 + i)) hl (SqL.of hd3) (by rw [List.length_map]; omega) (fun v H4 hv hs4 Cy hy => ?_) (fun H4 hs4 hl4 => ?_)
      · obtain ⟨dd, hdd, rfl⟩ := List.mem_map.mp hv
        obtain ⟨j, rfl, hj, hjd⟩ := dvL_mem hdd
        try simp only [↓r_seq, ↓r_next, ↓r_var0, ↓r_gn0, ↓r_var1, ↓r_gn1, ↓r_var2, ↓r_gn2, ↓r_var3, ↓r_gn3, ↓r_var4, ↓r_gn4, ↓r_var5, ↓r_gn5, ↓r_var6, ↓r_gn6, ↓r_var7, ↓r_gn7, ↓r_var8, ↓r_gn8, ↓r_var9, ↓r_gn9, ↓r_var10, ↓r_gn10, ↓r_var11, ↓r_gn11, ↓r_var12, ↓r_gn12, ↓r_var13, ↓r_gn13, ↓r_var14, ↓r_gn14, ↓r_var15, ↓r_gn15, ↓r_var16, ↓r_gn16, ↓r_var17, ↓r_gn17, ↓r_var18, ↓r_gn18, ↓r_var19, ↓r_gn19, ↓r_c, ↓r_op, ↓r_un, ↓r_test, ↓r_tb, ↓r_bl, ↓r_ifs, ↓r_ret, ↓r_retn, ↓r_asg, ↓r_and, ↓r_or, ↓r_not, ↓r_andv, ↓r_orv, ↓r_notv, ↓r_drop, ↓r_cons, ↓r_nil, ↓r_cb, ↓r_lst, ↓r_tup, ↓r_call, ↓r_sl, ↓r_nopart, ↓r_part, ↓r_int, ↓r_bm, ↓r_bm0, ↓r_if, ↓r_chain, ↓r_true, ↓r_add, ↓r_adds, ↓r_addr, ↓r_sub, ↓r_mul, ↓r_div, ↓r_mod, ↓r_pow, ↓r_lt, ↓r_le, ↓r_gt, ↓r_ge, ↓r_eqint, ↓r_neint, ↓r_eqstr, ↓r_nestr, ↓r_eqbl, ↓r_nebl, ↓r_ins, ↓r_nins, ↓r_inint, ↓r_ninint, ↓r_instr, ↓r_ninstr, ↓r_ixs, ↓r_ixr, ↓r_sls, ↓r_slr, ↓r_lens, ↓r_lenr, ↓r_max, ↓r_min, ↓r_inti, ↓r_intb, ↓r_isi, ↓r_isic, ↓r_fld, ↓r_cxK, ↓r_nilapp, ↓r_for, ↓r_jof, ↓r_jrng1, ↓r_jrng2, ↓r_urng1, ↓r_urng2, ↓r_ulist, ↓r_utup, ↓r_ustr, ↓r_comp, ↓r_const, ↓r_eqDrr, ↓r_neDrr, ↓r_eqDii, ↓r_neDii, ↓r_eqDss, ↓r_neDss, ↓r_eqDbb, ↓r_neDbb, ↓r_sum, ↓r_mulB, ↓r_par, ↓r_two, ↓r_addLi, ↓r_addLs, ↓r_addLr, ↓r_neg, ↓r_listof, ↓r_tupof, ↓r_gsub, ↓r_setl, ↓r_jargs, ↓r_zip, ↓r_enum, ↓r_minA1, ↓r_minA2, ↓r_maxA1, ↓r_maxA2]
        refine ⟨1 + j, by simp, by omega, fun H5 hs5 => ?_⟩
        have e1 : (1 + (j : Int)).toNat = 1 + j := by omega
        have e2 : ((1 + (i : Int)) / (1 + (j : Int))) = (((1 + i) / (1 + j) : Nat) : Int) := by
          rw [show (1 + (i : Int)) = ((1 + i : Nat) : Int) by omega, show (1 + (j : Int)) = ((1 + j : Nat) : Int) by omega, Int.natCast_ediv]
        have hq : (1 + i) / (1 + j) < as.length := Nat.lt_of_le_of_lt (Nat.div_le_self _ _) (by omega)
        try simp only [↓r_seq, ↓r_next, ↓r_var0, ↓r_gn0, ↓r_var1, ↓r_gn1, ↓r_var2, ↓r_gn2, ↓r_var3, ↓r_gn3, ↓r_var4, ↓r_gn4, ↓r_var5, ↓r_gn5, ↓r_var6, ↓r_gn6, ↓r_var7, ↓r_gn7, ↓r_var8, ↓r_gn8, ↓r_var9, ↓r_gn9, ↓r_var10, ↓r_gn10, ↓r_var11, ↓r_gn11, ↓r_var12, ↓r_gn12, ↓r_var13, ↓r_gn13, ↓r_var14, ↓r_gn14, ↓r_var15, ↓r_gn15, ↓r_var16, ↓r_gn16, ↓r_var17, ↓r_gn17, ↓r_var18, ↓r_gn18, ↓r_var19, ↓r_gn19, ↓r_c, ↓r_op, ↓r_un, ↓r_test, ↓r_tb, ↓r_bl, ↓r_ifs, ↓r_ret, ↓r_retn, ↓r_asg, ↓r_and, ↓r_or, ↓r_not, ↓r_andv, ↓r_orv, ↓r_notv, ↓r_drop, ↓r_cons, ↓r_nil, ↓r_cb, ↓r_lst, ↓r_tup, ↓r_call, ↓r_sl, ↓r_nopart, ↓r_part, ↓r_int, ↓r_bm, ↓r_bm0, ↓r_if, ↓r_chain, ↓r_true, ↓r_add, ↓r_adds, ↓r_addr, ↓r_sub, ↓r_mul, ↓r_div, ↓r_mod, ↓r_pow, ↓r_lt, ↓r_le, ↓r_gt, ↓r_ge, ↓r_eqint, ↓r_neint, ↓r_eqstr, ↓r_nestr, ↓r_eqbl, ↓r_nebl, ↓r_ins, ↓r_nins, ↓r_inint, ↓r_ninint, ↓r_instr, ↓r_ninstr, ↓r_ixs, ↓r_ixr, ↓r_sls, ↓r_slr, ↓r_lens, ↓r_lenr, ↓r_max, ↓r_min, ↓r_inti, ↓r_intb, ↓r_isi, ↓r_isic, ↓r_fld, ↓r_cxK, ↓r_nilapp, ↓r_for, ↓r_jof, ↓r_jrng1, ↓r_jrng2, ↓r_urng1, ↓r_urng2, ↓r_ulist, ↓r_utup, ↓r_ustr, ↓r_comp, ↓r_const, ↓r_eqDrr, ↓r_neDrr, ↓r_eqDii, ↓r_neDii, ↓r_eqDss, ↓r_neDss, ↓r_eqDbb, ↓r_neDbb, ↓r_sum, ↓r_mulB, ↓r_par, ↓r_two, ↓r_addLi, ↓r_addLs, ↓r_addLr, ↓r_neg, ↓r_listof, ↓r_tupof, ↓r_gsub, ↓r_setl, ↓r_jargs, ↓r_zip, ↓r_enum, ↓r_minA1, ↓r_minA2, ↓r_maxA1, ↓r_maxA2]
        rw [e2]
        refine ⟨⟨by omega, by omega⟩, _, _, .inl (SqL.of ((hs.trans (hs3.trans (hs4.trans hs5))) _ _ hg1)), atI_at0 ((1 + i) / (1 + j)) rfl (by unfold bgL; simpa using hq), ?_⟩
        try simp only [↓r_seq, ↓r_next, ↓r_var0, ↓r_gn0, ↓r_var1, ↓r_gn1, ↓r_var2, ↓r_gn2, ↓r_var3, ↓r_gn3, ↓r_var4, ↓r_gn4, ↓r_var5, ↓r_gn5, ↓r_var6, ↓r_gn6, ↓r_var7, ↓r_gn7, ↓r_var8, ↓r_gn8, ↓r_var9, ↓r_gn9, ↓r_var10, ↓r_gn10, ↓r_var11, ↓r_gn11, ↓r_var12, ↓r_gn12, ↓r_var13, ↓r_gn13, ↓r_var14, ↓r_gn14, ↓r_var15, ↓r_gn15, ↓r_var16, ↓r_gn16, ↓r_var17, ↓r_gn17, ↓r_var18, ↓r_gn18, ↓r_var19, ↓r_gn19, ↓r_c, ↓r_op, ↓r_un, ↓r_test, ↓r_tb, ↓r_bl, ↓r_ifs, ↓r_ret, ↓r_retn, ↓r_asg, ↓r_and, ↓r_or, ↓r_not, ↓r_andv, ↓r_orv, ↓r_notv, ↓r_drop, ↓r_cons, ↓r_nil, ↓r_cb, ↓r_lst, ↓r_tup, ↓r_call, ↓r_sl, ↓r_nopart, ↓r_part, ↓r_int, ↓r_bm, ↓r_bm0, ↓r_if, ↓r_chain, ↓r_true, ↓r_add, ↓r_adds, ↓r_addr, ↓r_sub, ↓r_mul, ↓r_div, ↓r_mod, ↓r_pow, ↓r_lt, ↓r_le, ↓r_gt, ↓r_ge, ↓r_eqint, ↓r_neint, ↓r_eqstr, ↓r_nestr, ↓r_eqbl, ↓r_nebl, ↓r_ins, ↓r_nins, ↓r_inint, ↓r_ninint, ↓r_instr, ↓r_ninstr, ↓r_ixs, ↓r_ixr, ↓r_sls, ↓r_slr, ↓r_lens, ↓r_lenr, ↓r_max, ↓r_min, ↓r_inti, ↓r_intb, ↓r_isi, ↓r_isic, ↓r_fld, ↓r_cxK, ↓r_nilapp, ↓r_for, ↓r_jof, ↓r_jrng1, ↓r_jrng2, ↓r_urng1, ↓r_urng2, ↓r_ulist, ↓r_utup, ↓r_ustr, ↓r_comp, ↓r_const, ↓r_eqDrr, ↓r_neDrr, ↓r_eqDii, ↓r_neDii, ↓r_eqDss, ↓r_neDss, ↓r_eqDbb, ↓r_neDbb, ↓r_sum, ↓r_mulB, ↓r_par, ↓r_two, ↓r_addLi, ↓r_addLs, ↓r_addLr, ↓r_neg, ↓r_listof, ↓r_tupof, ↓r_gsub, ↓r_setl, ↓r_jargs, ↓r_zip, ↓r_enum, ↓r_minA1, ↓r_minA2, ↓r_maxA1, ↓r_maxA2]
        have hphi : MM.phi (1 + j) ≤ 100 := by
          unfold MM.phi
          exact Nat.le_trans (List.length_filter_le ..) (by simp; omega)
        refine ⟨mul_small (.inl ⟨by omega, by omega⟩), ?_⟩
        have := hy _ hs5
        have e3 : ((((1 + i : Nat) : Int)) / (1 + (j : Int))).toNat = (1 + i) / (1 + j) := by
          rw [show (((1 + i : Nat) : Int)) = 1 + (i : Int) by omega, e2, Int.toNat_natCast]
        simp only [tm, e1, e3] at this
        exact this
      · try simp only [↓r_seq, ↓r_next, ↓r_var0, ↓r_gn0, ↓r_var1, ↓r_gn1, ↓r_var2, ↓r_gn2, ↓r_var3, ↓r_gn3, ↓r_var4, ↓r_gn4, ↓r_var5, ↓r_gn5, ↓r_var6, ↓r_gn6, ↓r_var7, ↓r_gn7, ↓r_var8, ↓r_gn8, ↓r_var9, ↓r_gn9, ↓r_var10, ↓r_gn10, ↓r_var11, ↓r_gn11, ↓r_var12, ↓r_gn12, ↓r_var13, ↓r_gn13, ↓r_var14, ↓r_gn14, ↓r_var15, ↓r_gn15, ↓r_var16, ↓r_gn16, ↓r_var17, ↓r_gn17, ↓r_var18, ↓r_gn18, ↓r_var19, ↓r_gn19, ↓r_c, ↓r_op, ↓r_un, ↓r_test, ↓r_tb, ↓r_bl, ↓r_ifs, ↓r_ret, ↓r_retn, ↓r_asg, ↓r_and, ↓r_or, ↓r_not, ↓r_andv, ↓r_orv, ↓r_notv, ↓r_drop, ↓r_cons, ↓r_nil, ↓r_cb, ↓r_lst, ↓r_tup, ↓r_call, ↓r_sl, ↓r_nopart, ↓r_part, ↓r_int, ↓r_bm, ↓r_bm0, ↓r_if, ↓r_chain, ↓r_true, ↓r_add, ↓r_adds, ↓r_addr, ↓r_sub, ↓r_mul, ↓r_div, ↓r_mod, ↓r_pow, ↓r_lt, ↓r_le, ↓r_gt, ↓r_ge, ↓r_eqint, ↓r_neint, ↓r_eqstr, ↓r_nestr, ↓r_eqbl, ↓r_nebl, ↓r_ins, ↓r_nins, ↓r_inint, ↓r_ninint, ↓r_instr, ↓r_ninstr, ↓r_ixs, ↓r_ixr, ↓r_sls, ↓r_slr, ↓r_lens, ↓r_lenr, ↓r_max, ↓r_min, ↓r_inti, ↓r_intb, ↓r_isi, ↓r_isic, ↓r_fld, ↓r_cxK, ↓r_nilapp, ↓r_for, ↓r_jof, ↓r_jrng1, ↓r_jrng2, ↓r_urng1, ↓r_urng2, ↓r_ulist, ↓r_utup, ↓r_ustr, ↓r_comp, ↓r_const, ↓r_eqDrr, ↓r_neDrr, ↓r_eqDii, ↓r_neDii, ↓r_eqDss, ↓r_neDss, ↓r_eqDbb, ↓r_neDbb, ↓r_sum, ↓r_mulB, ↓r_par, ↓r_two, ↓r_addLi, ↓r_addLs, ↓r_addLr, ↓r_neg, ↓r_listof, ↓r_tupof, ↓r_gsub, ↓r_setl, ↓r_jargs, ↓r_zip, ↓r_enum, ↓r_minA1, ↓r_minA2, ↓r_maxA1, ↓r_maxA2]
        have e0 : ((dvL (1 + i)).map V.int).map (tm as (1 + i)) = ((dvL (1 + i)).map fun d => (MM.phi d.toNat : Int) * MM.at0 (bgL as) (((1 + i : Nat) : Int) / d).toNat).map V.int := by
          rw [List.map_map, List.map_map]; rfl
        rw [e0] at hl4
        refine ⟨_, SqL.of hl4, ?_⟩
        rw [tm_sum (show 1 + i < as.length by omega)]
        have hr4 := (hs3.trans hs4) _ _ hr2
        try simp only [↓r_seq, ↓r_next, ↓r_var0, ↓r_gn0, ↓r_var1, ↓r_gn1, ↓r_var2, ↓r_gn2, ↓r_var3, ↓r_gn3, ↓r_var4, ↓r_gn4, ↓r_var5, ↓r_gn5, ↓r_var6, ↓r_gn6, ↓r_var7, ↓r_gn7, ↓r_var8, ↓r_gn8, ↓r_var9, ↓r_gn9, ↓r_var10, ↓r_gn10, ↓r_var11, ↓r_gn11, ↓r_var12, ↓r_gn12, ↓r_var13, ↓r_gn13, ↓r_var14, ↓r_gn14, ↓r_var15, ↓r_gn15, ↓r_var16, ↓r_gn16, ↓r_var17, ↓r_gn17, ↓r_var18, ↓r_gn18, ↓r_var19, ↓r_gn19, ↓r_c, ↓r_op, ↓r_un, ↓r_test, ↓r_tb, ↓r_bl, ↓r_ifs, ↓r_ret, ↓r_retn, ↓r_asg, ↓r_and, ↓r_or, ↓r_not, ↓r_andv, ↓r_orv, ↓r_notv, ↓r_drop, ↓r_cons, ↓r_nil, ↓r_cb, ↓r_lst, ↓r_tup, ↓r_call, ↓r_sl, ↓r_nopart, ↓r_part, ↓r_int, ↓r_bm, ↓r_bm0, ↓r_if, ↓r_chain, ↓r_true, ↓r_add, ↓r_adds, ↓r_addr, ↓r_sub, ↓r_mul, ↓r_div, ↓r_mod, ↓r_pow, ↓r_lt, ↓r_le, ↓r_gt, ↓r_ge, ↓r_eqint, ↓r_neint, ↓r_eqstr, ↓r_nestr, ↓r_eqbl, ↓r_nebl, ↓r_ins, ↓r_nins, ↓r_inint, ↓r_ninint, ↓r_instr, ↓r_ninstr, ↓r_ixs, ↓r_ixr, ↓r_sls, ↓r_slr, ↓r_lens, ↓r_lenr, ↓r_max, ↓r_min, ↓r_inti, ↓r_intb, ↓r_isi, ↓r_isic, ↓r_fld, ↓r_cxK, ↓r_nilapp, ↓r_for, ↓r_jof, ↓r_jrng1, ↓r_jrng2, ↓r_urng1, ↓r_urng2, ↓r_ulist, ↓r_utup, ↓r_ustr, ↓r_comp, ↓r_const, ↓r_eqDrr, ↓r_neDrr, ↓r_eqDii, ↓r_neDii, ↓r_eqDss, ↓r_neDss, ↓r_eqDbb, ↓r_neDbb, ↓r_sum, ↓r_mulB, ↓r_par, ↓r_two, ↓r_addLi, ↓r_addLs, ↓r_addLr, ↓r_neg, ↓r_listof, ↓r_tupof, ↓r_gsub, ↓r_setl, ↓r_jargs, ↓r_zip, ↓r_enum, ↓r_minA1, ↓r_minA2, ↓r_maxA1, ↓r_maxA2]
        refine ⟨.inl ⟨rfl, _, SqL.of hr4⟩, ⟨by omega, by omega⟩, r, _, _, rfl, rfl, hr4, by simp [rgL]; exact small1000 (by omega), _, _, rfl, (hs.trans (hs3.trans hs4)).upd_in hr0, ?_⟩
        rw [upd_same]
        unfold rgL
        rw [List.range_succ (n := i + 1), List.map_append, List.map_append]
        have e9 : rg as (i + 1) = trn as (1 + i) / (1 + (i : Int)) := by
          unfold rg
          rw [Nat.add_comm i 1]
          congr 1
        simp only [List.map_cons, List.map_nil, e9]
    · rintro σ H2 ⟨k1, k2, rfl, hs, hr2⟩
      try simp only [↓r_seq, ↓r_next, ↓r_var0, ↓r_gn0, ↓r_var1, ↓r_gn1, ↓r_var2, ↓r_gn2, ↓r_var3, ↓r_gn3, ↓r_var4, ↓r_gn4, ↓r_var5, ↓r_gn5, ↓r_var6, ↓r_gn6, ↓r_var7, ↓r_gn7, ↓r_var8, ↓r_gn8, ↓r_var9, ↓r_gn9, ↓r_var10, ↓r_gn10, ↓r_var11, ↓r_gn11, ↓r_var12, ↓r_gn12, ↓r_var13, ↓r_gn13, ↓r_var14, ↓r_gn14, ↓r_var15, ↓r_gn15, ↓r_var16, ↓r_gn16, ↓r_var17, ↓r_gn17, ↓r_var18, ↓r_gn18, ↓r_var19, ↓r_gn19, ↓r_c, ↓r_op, ↓r_un, ↓r_test, ↓r_tb, ↓r_bl, ↓r_ifs, ↓r_ret, ↓r_retn, ↓r_asg, ↓r_and, ↓r_or, ↓r_not, ↓r_andv, ↓r_orv, ↓r_notv, ↓r_drop, ↓r_cons, ↓r_nil, ↓r_cb, ↓r_lst, ↓r_tup, ↓r_call, ↓r_sl, ↓r_nopart, ↓r_part, ↓r_int, ↓r_bm, ↓r_bm0, ↓r_if, ↓r_chain, ↓r_true, ↓r_add, ↓r_adds, ↓r_addr, ↓r_sub, ↓r_mul, ↓r_div, ↓r_mod, ↓r_pow, ↓r_lt, ↓r_le, ↓r_gt, ↓r_ge, ↓r_eqint, ↓r_neint, ↓r_eqstr, ↓r_nestr, ↓r_eqbl, ↓r_nebl, ↓r_ins, ↓r_nins, ↓r_inint, ↓r_ninint, ↓r_instr, ↓r_ninstr, ↓r_ixs, ↓r_ixr, ↓r_sls, ↓r_slr, ↓r_lens, ↓r_lenr, ↓r_max, ↓r_min, ↓r_inti, ↓r_intb, ↓r_isi, ↓r_isic, ↓r_fld, ↓r_cxK, ↓r_nilapp, ↓r_for, ↓r_jof, ↓r_jrng1, ↓r_jrng2, ↓r_urng1, ↓r_urng2, ↓r_ulist, ↓r_utup, ↓r_ustr, ↓r_comp, ↓r_const, ↓r_eqDrr, ↓r_neDrr, ↓r_eqDii, ↓r_neDii, ↓r_eqDss, ↓r_neDss, ↓r_eqDbb, ↓r_neDbb, ↓r_sum, ↓r_mulB, ↓r_par, ↓r_two, ↓r_addLi, ↓r_addLs, ↓r_addLr, ↓r_neg, ↓r_listof, ↓r_tupof, ↓r_gsub, ↓r_setl, ↓r_jargs, ↓r_zip, ↓r_enum, ↓r_minA1, ↓r_minA2, ↓r_maxA1, ↓r_maxA2]
      refine q r H2 hrH (hs1.trans hs) ?_
      rw [hr2, Nat.sub_add_cancel hA1]
end
def lexI : List Int → List Int → Bool
  | [], [] => false
  | [], _ :: _ => true
  | _ :: _, [] => false
  | x :: xs, y :: ys => if x = y then lexI xs ys else decide (x < y)
def lexK : Ky → Ky → Bool
  | [], [] => false
  | [], _ :: _ => true
  | _ :: _, [] => false
  | x :: xs, y :: ys => if x = y then lexK xs ys else lexI x y
def minK (ks : List Ky) : Ky := ks.getD (argBest (fun i j => lexK (ks.getD i []) (ks.getD j [])) (ks.length - 1)) []
def rots (r : Ky) : List Ky := (List.range r.length).map fun k => r.drop k ++ r.take k
def freshK (rows : List (List Ky)) (n k0 m : Nat) : List Ky := (rows.getD (n - (1 + k0)) []).map (· ++ [[1 + (k0 : Int), (m : Int)]])
def freshM (rows : List (List Ky)) (n k0 m : Nat) : List Ky := (List.range m).flatMap fun i => freshK rows n k0 i
def freshJ (a : List Int) (rows : List (List Ky)) (n j : Nat) : List Ky := (List.range j).flatMap fun k0 => freshM rows n k0 (MM.at0 a (1 + k0)).toNat
def rowsN (a : List Int) : Nat → List (List Ky)
  | 0 => [[[]]]
  | n + 1 => rowsN a n ++ [freshJ a (rowsN a n) (n + 1) (min (n + 1) (a.length - 1))]
def ringsN (a : List Int) (n : Nat) : List Ky := ((rowsN a n).getD n []).foldl (fun ks r => addK ks (minK (rots r))) []
theorem rowsN_len (a : List Int) : ∀ n, (rowsN a n).length = n + 1
  | 0 => rfl
  | n + 1 => by rw [rowsN, List.length_append, rowsN_len a n]; rfl
theorem freshM_succ (rows : List (List Ky)) (n k0 m : Nat) : freshM rows n k0 (m + 1) = freshM rows n k0 m ++ freshK rows n k0 m := by
  unfold freshM; rw [List.range_succ, List.flatMap_append]; simp
theorem freshJ_succ (a : List Int) (rows : List (List Ky)) (n j : Nat) : freshJ a rows n (j + 1) = freshJ a rows n j ++ freshM rows n j (MM.at0 a (1 + j)).toNat := by
  unfold freshJ; rw [List.range_succ, List.flatMap_append]; simp
/-- all that is walked is small -/
structure Sml (a : List Int) (n : Nat) : Prop where
  l1 : 1 ≤ a.length
  l8 : a.length ≤ 8
  n6 : n ≤ 6
  ge : ∀ i, 0 ≤ MM.at0 a i ∧ MM.at0 a i ≤ 2
  few : ∀ m, m ≤ n → ∀ r ∈ rowsN a m, r.length ≤ 1000
  lng : ∀ m, m ≤ n → ∀ r ∈ rowsN a m, ∀ k ∈ r, k.length ≤ 1000
  has : ∀ k ∈ (rowsN a n).getD n [], 1 ≤ k.length
theorem freshK_le {rows : List (List Ky)} (h : ∀ r ∈ rows, r.length ≤ 1000) (n k0 m : Nat) : (freshK rows n k0 m).length ≤ 1000 := by
  unfold freshK
  rw [List.length_map, List.getD_eq_getElem?_getD]
  cases e : rows[n - (1 + k0)]? with
  | none => simp
  | some r => exact h r (List.mem_of_getElem? e)
theorem flat_le {α : Type} (f : Nat → List α) (B : Nat) (h : ∀ i, (f i).length ≤ B) : ∀ n, ((List.range n).flatMap f).length ≤ n * B
  | 0 => by simp
  | n + 1 => by
    rw [List.range_succ, List.flatMap_append, List.length_append]
    have e1 := flat_le f B h n
    have e2 := h n
    simp only [List.flatMap_cons, List.flatMap_nil, List.append_nil]
    rw [Nat.add_mul]
    omega
theorem freshM_le {rows : List (List Ky)} (h : ∀ r ∈ rows, r.length ≤ 1000) (n k0 m : Nat) : (freshM rows n k0 m).length ≤ m * 1000 := flat_le _ _ (fun i => freshK_le h n k0 i) m
theorem freshJ_le {a : List Int} {rows : List (List Ky)} (ha : ∀ i, 0 ≤ MM.at0 a i ∧ MM.at0 a i ≤ 2) (h : ∀ r ∈ rows, r.length ≤ 1000) (n j : Nat) : (freshJ a rows n j).length ≤ j * 2000 := flat_le _ _ (fun k0 => by
  have e1 := freshM_le h n k0 (MM.at0 a (1 + k0)).toNat
  have e2 := ha (1 + k0)
  have e3 : (MM.at0 a (1 + k0)).toNat ≤ 2 := by omega
  have e4 : (MM.at0 a (1 + k0)).toNat * 1000 ≤ 2 * 1000 := Nat.mul_le_mul_right _ e3
  omega) j
theorem kU_app (r : Ky) (x y : Int) : kU (r ++ [[x, y]]) = .tup ((r.map fun r => .tup (r.map U.int)) ++ [.tup [.int x, .int y]]) := by
  unfold kU; rw [List.map_append]; rfl
theorem _root_.L2.Ext.putAt {A A2 : AHp} {l : Addr} {o : AO} (e : Ext A A2) (h : A2 l = some o) : Ext (updA A l o) A2 := fun b u q => by
  by_cases hb : b = l
  · subst hb; rw [updA_same] at q; cases q; exact h
  · rw [updA_ne hb] at q; exact e _ _ q
/-- the lists that the rows stand in -/
def Held (A : AHp) (l : Addr) (adrs : List Addr) (rows : List (List Ky)) : Prop := A l = some (.lst (adrs.map U.ref)) ∧ adrs.length = rows.length ∧ ∀ (j : Nat) (r : List Ky), rows[j]? = some r → ∃ q, adrs[j]? = some q ∧ q ≠ l ∧ A q = some (.lst (List.map kU r))
theorem Held.ext {A A' : AHp} {l : Addr} {adrs : List Addr} {rows : List (List Ky)} (h : Held A l adrs rows) (e : Ext A A') : Held A' l adrs rows :=
  ⟨e _ _ h.1, h.2.1, fun j r q => let ⟨b, b1, b2, b3⟩ := h.2.2 j r q; ⟨b, b1, b2, e _ _ b3⟩⟩
def asp_rows_of : ASp := fun us A Q => ∃ (p : Addr) (a : List Int) (n : Nat), us = [.ref p, .int n] ∧ A p = some (.lst (a.map U.int)) ∧ Sml a n ∧ ∀ l, A l = none → Q (.ref l) (updA A l (.lst (((rowsN a n).getD n []).map kU)))
section
variable {P : Program} {w : World} {K : PySem.W.Frag} {mg : Str → Option Value} {base : Heap} {f_row_counts f_ring_counts f_begun_counts f_divisors f_sharing_none f_shared f_w_whole f_w_is_row f_w_cell f_w_rows_of f_w_rings_of f_law : Addr} {d_row_counts d_ring_counts d_begun_counts d_divisors d_sharing_none d_shared d_w_whole d_w_is_row d_w_cell d_w_rows_of d_w_rings_of d_law : FuncData}
theorem ok_rows_of (T : TX K mg f_row_counts f_ring_counts f_begun_counts f_divisors f_sharing_none f_shared f_w_whole f_w_is_row f_w_cell f_w_rows_of f_w_rings_of f_law d_row_counts d_ring_counts d_begun_counts d_divisors d_sharing_none d_shared d_w_whole d_w_is_row d_w_cell d_w_rows_of d_w_rings_of d_law) : FnOk P w K mg base CX0 1 f_w_rows_of d_w_rows_of ["_law_a", "_law_size"] (spOf K asp_rows_of) := by
  refine' Fun.okA T.F_w_rows_of (sc := ?sc) (body := ?bd) ?hs ?hb sc_w_rows_of ?hB ?hS
  case hs => conv => lhs; whnf
  case hb => conv => lhs; whnf
  case hB => exact fun S cdv A outer s H E hr => ⟨_, (pss_cons (ps_set (i := 2) S.nd rfl (Or.inl rfl) (pe_lst (pa_cons (pe_lst (pa_cons (pe_tup pa_nil) pa_nil)) pa_nil)))
      (pss_cons (ps_for PassesOwn.never rfl (pj_range2 rfl T.n_range (pa_cons pe_int (pa_cons (pe_op o_addW (pv 1) pe_int) pa_nil))) (pg_name (i := 3) S.nd rfl (Or.inl rfl))
      (pss_cons (ps_set (i := 4) S.nd rfl (Or.inl rfl) (pe_lst pa_nil))
      (pss_cons (ps_for PassesOwn.never rfl (pj_range2 rfl T.n_range (pa_cons pe_int (pa_cons (pe_op o_addW (pe_callB (c_minA rfl) (by rfl) T.n_min (by decide +kernel) (pa_cons (pv 3) (pa_cons (pe_op o_sub (pe_callB c_len (by rfl) T.n_len (by decide +kernel) (pa_cons (pv 0) pa_nil)) pe_int) pa_nil))) pe_int) pa_nil))) (pg_name (i := 5) S.nd rfl (Or.inr rfl))
      (pss_one (ps_for PassesOwn.never rfl (pj_range1 rfl T.n_range (pa_cons (pe_ix o_ix (pv 0) (pv 5) (fun _ _ => rfl)) pa_nil)) (pg_name (i := 6) S.nd rfl (Or.inr rfl))
      (pss_one (ps_expr (pe_bm PySem.F.plainAttrs_list PySem.F.slot_list_extend PySem.F.type_list_extend mt_extS (pv 4) (pa_cons (pe_comp (ts := ["_law_row"]) (frs' := [("_law_k", 5), ("_law_mark", 6)]) (cl := _) rfl ⟨(by rfl), rfl, (by decide +kernel), (by decide +kernel), (allm_cons (by rfl) (allm_cons (by rfl) allm_nil)), (free_has (by rfl) (by rfl)), (allm_cons ⟨(by rfl), (by first | exact .inl rfl | exact .inr rfl), (by first | exact .inl rfl | exact .inr rfl), (by rfl)⟩ (allm_cons ⟨(by rfl), (by first | exact .inl rfl | exact .inr rfl), (by first | exact .inl rfl | exact .inr rfl), (by rfl)⟩ allm_nil))⟩ (pj_seq (pe_ix o_ix (pv 2) (pe_op o_sub (pv 3) (pv 5)) (fun _ _ => rfl))) (fun _ _ _ _ => pg_name (i := 0) (show List.Nodup (["_law_row", "_law_k", "_law_mark"] : List Str) from by decide +kernel) rfl (Or.inl rfl) (.inr rfl)) (fun _ _ _ _ => pifs_nil) (fun _ _ _ _ => by exact (pe_op (k_addW K rfl) (pv 0) (pe_tup (pa_cons (pe_tup (pa_cons (pv 1) (pa_cons (pv 2) pa_nil))) pa_nil))))) pa_nil)))))))
      (pss_one (ps_expr (pe_bm PySem.F.plainAttrs_list PySem.F.slot_list_append PySem.F.type_list_append mt_append (pv 2) (pa_cons (pv 4) pa_nil)))))))
      (pss_one (ps_ret (pe_ix o_ix (pv 2) (pv 1) (fun _ _ => rfl)))))), (ab_seq (ab_asg (ab_lst (ab_cons (ab_lst (ab_cons (ab_tup ab_nil) ab_nil)) ab_nil)) ab_name)
      (ab_seq (ab_for (ab_jrng2 (ab_cons ab_int (ab_cons (ab_op ab_add ab_var ab_int) ab_nil))) ab_name
      (ab_seq (ab_asg (ab_lst ab_nil) ab_name)
      (ab_seq (ab_for (ab_jrng2 (ab_cons ab_int (ab_cons (ab_op ab_add (ab_cb ab_min (ab_cons ab_var (ab_cons (ab_op ab_sub (ab_cb ab_len (ab_cons ab_var ab_nil)) ab_int) ab_nil))) ab_int) ab_nil))) ab_name
      (ab_for (ab_jrng1 (ab_cons (ab_op ab_ix ab_var ab_var) ab_nil)) ab_name
      (ab_drop (ab_bm ab_isLst ab_mextS ab_var (ab_cons (ab_comp (ab_jof ab_yseq (ab_op ab_ix ab_var (ab_op ab_sub ab_var ab_var))) ab_name ab_true (ab_op ab_add ab_var (ab_tup (ab_cons (ab_tup (ab_cons ab_var (ab_cons ab_var ab_nil))) ab_nil)))) ab_nil)))))
      (ab_drop (ab_bm ab_isLst ab_mapp ab_var (ab_cons ab_var ab_nil))))))
      (ab_ret (ab_op ab_ix ab_var ab_var))))⟩
  rintro us A Q ⟨p, a, n, rfl, hp, sm, q⟩
  refine ⟨rfl, ?_⟩
  walk_at "qs"
  walk_at "qd"
  have h1 := sm.l1
  have h8 := sm.l8
  have h6 := sm.n6
  refine ⟨by decide, tup1, fun r hr => ⟨tup1, fun l hl => ⟨⟨by decide, by decide, by omega, by omega⟩, ?_⟩⟩⟩
  have en : ((n : Int) + 1 - 1).toNat = n := by omega
  rw [en]
  have nrl : r ≠ l := neA updA_same hl
  have hlA : A l = none := by rw [updA_ne (Ne.symm nrl)] at hl; exact hl
  refine for_rng (fun i ρ A2 => ∃ (adrs : List Addr) (x3 x4 x5 x6 : Option U), ρ = [some (.ref p), some (.int n), some (.ref l), x3, x4, x5, x6] ∧ Ext A A2 ∧ (∀ b ∈ adrs, A b = none) ∧ Held A2 l adrs (rowsN a i)) ⟨[r], _, _, _, _, rfl, (Ext.new hr).trans (Ext.new hl), (fun b hb => by rw [List.mem_singleton.mp hb]; exact hr), updA_same, rfl, ?_⟩ ?_ ?_
  · rintro j rw' hj
    cases j with
    | succ j => simp [rowsN] at hj
    | zero =>
      simp [rowsN] at hj
      subst hj
      exact ⟨r, rfl, nrl, by rw [updA_ne nrl, updA_same]; rfl⟩
  · rintro i ρ A2 hi ⟨adrs, x3, x4, x5, x6, rfl, hE, hN, hH⟩
    walk_at "qd"
    have few := sm.few i (by omega)
    have ge := sm.ge
    refine ⟨by decide, fun f hf => ⟨_, by rw [updA_ne (neA (hE _ _ hp) hf)]; exact hE _ _ hp, ⟨by decide, by decide, by rw [List.length_map]; omega, by rw [List.length_map]; omega⟩, ?_⟩⟩
    rw [List.length_map]
    have em : (min (1 + (i : Int)) ((a.length : Int) - 1) + 1 - 1).toNat = min (i + 1) (a.length - 1) := by omega
    rw [em]
    have nfl : f ≠ l := fun e => by rw [e, hH.1] at hf; cases hf
    have fA : A f = none := by
      cases e : A f with
      | none => rfl
      | some o => rw [hE _ _ e] at hf; cases hf
    refine for_rng (fun j ρ A4 => ∃ x5 x6 : Option U, ρ = [some (.ref p), some (.int n), some (.ref l), some (.int (1 + i)), some (.ref f), x5, x6] ∧ Ext A2 A4 ∧ A4 f = some (.lst ((freshJ a (rowsN a i) (i + 1) j).map kU))) ⟨_, _, rfl, Ext.new hf, updA_same⟩ ?_ ?_
    · rintro j ρ A4 hj ⟨x5, x6, rfl, hE4, hf4⟩
      walk_at "qd"
      obtain ⟨z, hz1, hz2⟩ := atI_intsU (ns := a) (i := 1 + (j : Int)) (by omega) (by omega)
      have hz : z = MM.at0 a (1 + j) := by
        have e : (1 + (j : Int)).toNat = 1 + j := by omega
        rw [e] at hz2
        unfold MM.at0
        rw [List.getD_eq_getElem?_getD, hz2]; rfl
      have ge1 := ge (1 + j)
      refine ⟨_, _, hE4 _ _ (hE _ _ hp), hz1, ?_⟩
      walk_at "qd"
      refine ⟨by omega, by omega, ?_⟩
      rw [hz]
      refine for_rng (fun m ρ A5 => ∃ x6 : Option U, ρ = [some (.ref p), some (.int n), some (.ref l), some (.int (1 + i)), some (.ref f), some (.int (1 + j)), x6] ∧ Ext A2 A5 ∧ A5 f = some (.lst ((freshJ a (rowsN a i) (i + 1) j ++ freshM (rowsN a i) (i + 1) j m).map kU))) ⟨_, rfl, hE4, by rw [hf4]; simp [freshM]⟩ ?_ ?_
      · rintro m ρ A5 hm ⟨x6, rfl, hE5, hf5⟩
        walk_at "qd"
        obtain ⟨hl5, hlen5, hall5⟩ := hH.ext hE5
        have hix : (1 + (i : Int)) - (1 + (j : Int)) = ((i + 1 - (1 + j) : Nat) : Int) := by omega
        have hin : i + 1 - (1 + j) < (rowsN a i).length := by rw [rowsN_len]; omega
        have hg : (rowsN a i)[i + 1 - (1 + j)]? = some ((rowsN a i).getD (i + 1 - (1 + j)) []) := by
          rw [List.getD_eq_getElem?_getD, List.getElem?_eq_getElem hin]; rfl
        obtain ⟨b, hb, hbl, hb5⟩ := hall5 _ _ hg
        have hbf : b ≠ f := fun e => by
          obtain ⟨b', hb', _, hb2⟩ := hH.2.2 _ _ hg
          rw [hb] at hb'; cases hb'
          rw [e, hf] at hb2; cases hb2
        rw [hix]
        refine ⟨⟨_, hf5⟩, _, _, hl5, atI_nat (by rw [List.getElem?_map, hb]; rfl), ?_⟩
        walk_at "qd"
        have hfk := freshK_le few (i + 1) j m
        have hfm := freshM_le few (i + 1) j m
        have hfj := freshJ_le ge few (i + 1) j
        have hfb := few _ (List.mem_of_getElem? hg)
        refine ⟨⟨_, hb5⟩, fun c hc => ?_⟩
        walk_at "qc"
        have ey : ((freshK (rowsN a i) (i + 1) j m).map kU).length = (((rowsN a i).getD (i + 1 - (1 + j)) []).map kU).length := by unfold freshK; simp
        refine cl_map (((rowsN a i).getD (i + 1 - (1 + j)) []).map kU) ((freshK (rowsN a i) (i + 1) j m).map kU) ey hc (by rw [List.length_map]; omega) (fun k A6 _ he => ⟨_, he _ _ hb5, rfl⟩) (fun k u y A6 hu hy he Cy hCy => ?_) ?_
        · obtain ⟨rr, hrr, rfl⟩ := map_get hu
          have hy2 : y = kU (rr ++ [[1 + (j : Int), (m : Int)]]) := by
            rw [List.getElem?_map, show (freshK (rowsN a i) (i + 1) j m)[k]? = some (rr ++ [[1 + (j : Int), (m : Int)]]) by unfold freshK; rw [List.getElem?_map, hrr]; rfl] at hy
            cases hy; rfl
          subst hy2
          have hrl := sm.lng i (by omega) _ (List.mem_of_getElem? hg) rr (List.mem_of_getElem? hrr)
          rw [kU_app] at hCy
          unfold kU
          walk_at "qd"
          rw [show (0 : Int) + (m : Int) = m by omega]
          exact ⟨tup2, tup1, line1000 (by simp only [List.length_map, List.length_cons, List.length_nil]; omega), hCy⟩
        · walk_at "qd"
          have ncf : f ≠ c := fun e => by rw [← e, hf5] at hc; cases hc
          refine ⟨_, _, by rw [updA_ne ncf]; exact hf5, updA_same, line1000 ?_, _, rfl, (hE5.trans (Ext.new hc)).in hf, ?_⟩
          · simp only [List.length_map, List.length_append]
            have : m * 1000 ≤ 2 * 1000 := Nat.mul_le_mul_right _ (by omega)
            have : j * 2000 ≤ 8 * 2000 := Nat.mul_le_mul_right _ (by omega)
            omega
          · rw [updA_same, freshM_succ, ← List.append_assoc]
            simp only [List.map_append]
      · rintro ρ A5 ⟨x6, rfl, hE5, hf5⟩
        exact ⟨_, _, rfl, hE5, by rw [freshJ_succ]; exact hf5⟩
    · rintro ρ A4 ⟨x5, x6, rfl, hE4, hf4⟩
      walk_at "qd"
      obtain ⟨hl4, hlen4, hall4⟩ := hH.ext hE4
      have hrl := rowsN_len a i
      refine ⟨⟨_, hl4⟩, _, hl4, line1000' (by rw [List.length_map]; omega), adrs ++ [f], _, _, _, _, rfl, (hE.trans hE4).in hlA, ?_, ?_, ?_, ?_⟩
      · intro b hb
        rcases List.mem_append.mp hb with hb | hb
        · exact hN b hb
        · rw [List.mem_singleton.mp hb]; exact fA
      · rw [updA_same, List.map_append]; rfl
      · rw [rowsN, List.length_append, List.length_append, hlen4]; rfl
      · intro j0 r0 hr0
        rw [rowsN] at hr0
        by_cases hj0 : j0 < (rowsN a i).length
        · rw [List.getElem?_append_left hj0] at hr0
          obtain ⟨b, b1, b2, b3⟩ := hall4 _ _ hr0
          exact ⟨b, by rw [List.getElem?_append_left (by omega)]; exact b1, b2, by rw [updA_ne b2]; exact b3⟩
        · rw [List.getElem?_append_right (by omega)] at hr0
          have e0 : j0 - (rowsN a i).length = 0 := by
            have := (List.getElem?_eq_some_iff.mp hr0).1
            simp at this
            omega
          rw [e0] at hr0
          simp at hr0
          subst hr0
          refine ⟨f, by rw [List.getElem?_append_right (by omega), show j0 - adrs.length = 0 by omega]; rfl, nfl, by rw [updA_ne nfl]; exact hf4⟩
  · rintro ρ A2 ⟨adrs, x3, x4, x5, x6, rfl, hE, hN, hH⟩
    walk_at "qd"
    obtain ⟨hl2, hlen, hall⟩ := hH
    have hg : (rowsN a n)[n]? = some ((rowsN a n).getD n []) := by
      rw [List.getD_eq_getElem?_getD, List.getElem?_eq_getElem (by rw [rowsN_len]; omega)]; rfl
    obtain ⟨b, hb, hbl, hb2⟩ := hall n _ hg
    refine ⟨_, _, hl2, atI_nat (by rw [List.getElem?_map, hb]; rfl), fgx ?_ (q b (hN b (List.mem_of_getElem? hb)))⟩
    exact hE.putAt hb2
end
def dK (k : Ky) : PyData := .tuple (k.map fun r => .tuple (r.map PyData.int))
theorem du_ints {A : AHp} : ∀ r : List Int, DUs A (r.map U.int) (r.map PyData.int)
  | [] => .nil
  | i :: r => .cons (.int i) (du_ints r)
theorem du_keyL {A : AHp} : ∀ k : Ky, DUs A (k.map fun r => .tup (r.map U.int)) (k.map fun r => .tuple (r.map PyData.int))
  | [] => .nil
  | r :: k => .cons (.tup (du_ints r)) (du_keyL k)
theorem du_keys {A : AHp} : ∀ ks : List Ky, DUs A (ks.map kU) (ks.map dK)
  | [] => .nil
  | k :: ks => .cons (.tup (du_keyL k)) (du_keys ks)
theorem eqv_ints : ∀ x y : List Int, PyData.eqvAll (x.map PyData.int) (y.map PyData.int) = decide (x = y)
  | [], [] => rfl
  | [], _ :: _ => rfl
  | _ :: _, [] => rfl
  | a :: x, b :: y => by
    show (PyData.eqv (.int a) (.int b) && PyData.eqvAll (x.map PyData.int) (y.map PyData.int)) = _
    rw [eqv_ints x y]
    show (decide (a = b) && _) = _
    by_cases h : a = b <;> by_cases h' : x = y <;> simp [h, h']
theorem lt_ints : ∀ x y : List Int, ltvA (x.map PyData.int) (y.map PyData.int) = lexI x y
  | [], [] => rfl
  | [], _ :: _ => rfl
  | _ :: _, [] => rfl
  | a :: x, b :: y => by
    show (if PyData.eqv (.int a) (.int b) = true then ltvA (x.map PyData.int) (y.map PyData.int) else ltv (.int a) (.int b)) = if a = b then lexI x y else decide (a < b)
    rw [lt_ints x y]
    show (if decide (a = b) = true then _ else decide (a < b)) = _
    by_cases h : a = b <;> simp [h]
theorem ok_ints : ∀ x y : List Int, okLtA (x.map PyData.int) (y.map PyData.int) = true
  | [], _ => rfl
  | _ :: _, [] => rfl
  | a :: x, b :: y => by
    show (if PyData.eqv (.int a) (.int b) = true then okLtA (x.map PyData.int) (y.map PyData.int) else true) = true
    rw [ok_ints x y]; split <;> rfl
theorem lt_keys : ∀ x y : Ky, ltvA (x.map fun r => .tuple (r.map PyData.int)) (y.map fun r => .tuple (r.map PyData.int)) = lexK x y
  | [], [] => rfl
  | [], _ :: _ => rfl
  | _ :: _, [] => rfl
  | a :: x, b :: y => by
    show (if PyData.eqvAll (a.map PyData.int) (b.map PyData.int) = true then ltvA (x.map fun r => .tuple (r.map PyData.int)) (y.map fun r => .tuple (r.map PyData.int)) else ltvA (a.map PyData.int) (b.map PyData.int)) = if a = b then lexK x y else lexI a b
    rw [lt_keys x y, eqv_ints, lt_ints]
    by_cases h : a = b <;> simp [h]
theorem ok_keys : ∀ x y : Ky, okLtA (x.map fun r => .tuple (r.map PyData.int)) (y.map fun r => .tuple (r.map PyData.int)) = true
  | [], _ => rfl
  | _ :: _, [] => rfl
  | a :: x, b :: y => by
    show (if PyData.eqvAll (a.map PyData.int) (b.map PyData.int) = true then okLtA (x.map fun r => .tuple (r.map PyData.int)) (y.map fun r => .tuple (r.map PyData.int)) else okLtA (a.map PyData.int) (b.map PyData.int)) = true
    rw [ok_keys x y, ok_ints]; split <;> rfl
theorem can_ints : ∀ x : List Int, PyData.canLayAll0 (x.map PyData.int) = true
  | [] => rfl
  | a :: x => by show (true && PyData.canLayAll0 (x.map PyData.int)) = true; rw [can_ints x]; rfl
theorem can_keys : ∀ x : Ky, PyData.canLayAll0 (x.map fun r => .tuple (r.map PyData.int)) = true
  | [] => rfl
  | a :: x => by show (PyData.canLayAll0 (a.map PyData.int) && PyData.canLayAll0 (x.map fun r => .tuple (r.map PyData.int))) = true; rw [can_keys x, can_ints]; rfl
theorem dep_ints : ∀ x : List Int, PyData.depthAll (x.map PyData.int) ≤ 1
  | [] => by decide
  | a :: x => by have := dep_ints x; simp only [List.map_cons, PyData.depthAll, PyData.depth]; omega
theorem dep_keys : ∀ x : Ky, PyData.depthAll (x.map fun r => .tuple (r.map PyData.int)) ≤ 3
  | [] => by decide
  | a :: x => by have := dep_keys x; have := dep_ints a; simp only [List.map_cons, PyData.depthAll, PyData.depth]; omega
theorem okD_keys (ks : List Ky) : OkD (ks.map dK) := by
  constructor
  · intro d hd
    obtain ⟨k, _, rfl⟩ := List.mem_map.mp hd
    refine ⟨can_keys k, ?_⟩
    have := dep_keys k
    unfold dK
    simp only [PyData.depth]
    omega
  · intro d hd e he
    obtain ⟨k, _, rfl⟩ := List.mem_map.mp hd
    obtain ⟨k', _, rfl⟩ := List.mem_map.mp he
    exact ok_keys k k'
theorem best_le (f : Nat → Nat → Bool) : ∀ m, argBest f m ≤ m
  | 0 => Nat.le_refl _
  | m + 1 => by
    show (if f (m + 1) (argBest f m) = true then m + 1 else argBest f m) ≤ m + 1
    have := best_le f m
    split <;> omega
theorem best_eq {f g : Nat → Nat → Bool} : ∀ m, (∀ i j, i ≤ m → j ≤ m → f i j = g i j) → argBest f m = argBest g m
  | 0, _ => rfl
  | m + 1, h => by
    show (if f (m + 1) (argBest f m) = true then m + 1 else argBest f m) = if g (m + 1) (argBest g m) = true then m + 1 else argBest g m
    rw [best_eq m fun i j hi hj => h i j (by omega) (by omega), h (m + 1) _ (Nat.le_refl _) (Nat.le_trans (best_le g m) (by omega))]
theorem min_at {ks : List Ky} (h : 0 < ks.length) : ks[argBest (ltD (ks.map dK)) ((ks.map dK).length - 1)]? = some (minK ks) := by
  have e : argBest (ltD (ks.map dK)) ((ks.map dK).length - 1) = argBest (fun i j => lexK (ks.getD i []) (ks.getD j [])) (ks.length - 1) := by
    rw [List.length_map]
    refine best_eq _ fun i j hi hj => ?_
    have one : ∀ i, i ≤ ks.length - 1 → (ks.map dK).getD i .none = dK (ks.getD i []) := by
      intro i hi
      rw [List.getD_eq_getElem?_getD, List.getD_eq_getElem?_getD, List.getElem?_map, List.getElem?_eq_getElem (by omega)]; rfl
    unfold ltD
    rw [one i hi, one j hj]
    exact lt_keys _ _
  rw [e]
  unfold minK
  have := best_le (fun i j => lexK (ks.getD i []) (ks.getD j [])) (ks.length - 1)
  rw [List.getD_eq_getElem?_getD, List.getElem?_eq_getElem (by omega)]; rfl
theorem rots_len (r : Ky) : (rots r).length = r.length := by unfold rots; simp
theorem cut_from {xs : List U} {k : Nat} (h : k ≤ xs.length) : cutU xs (some (k : Int)) none = xs.drop k := by
  unfold cutU
  rw [HT.sIx_nat, HT.sIx_none, Nat.min_eq_left h, List.take_of_length_le (by rw [List.length_drop]; omega)]
theorem cut_to {xs : List U} {k : Nat} (h : k ≤ xs.length) : cutU xs none (some (k : Int)) = xs.take k := by
  unfold cutU
  rw [HT.sIx_nat, HT.sIx_none, Nat.min_eq_left h, List.drop_zero, Nat.sub_zero]
theorem kU_rot (r : Ky) (k : Nat) : kU (r.drop k ++ r.take k) = .tup ((r.map fun r => .tup (r.map U.int)).drop k ++ (r.map fun r => .tup (r.map U.int)).take k) := by
  unfold kU; rw [List.map_append, List.map_drop, List.map_take]
def step (ks : List Ky) (r : Ky) : List Ky := addK ks (minK (rots r))
theorem addK_le (ks : List Ky) (k : Ky) : (addK ks k).length ≤ ks.length + 1 := by unfold addK; split <;> simp
theorem fold_le : ∀ (rs : List Ky) (ks : List Ky), (rs.foldl step ks).length ≤ ks.length + rs.length
  | [], ks => Nat.le_refl _
  | r :: rs, ks => by
    have e1 := fold_le rs (step ks r)
    have e2 := addK_le ks (minK (rots r))
    have e3 : (step ks r).length ≤ ks.length + 1 := e2
    simp only [List.foldl_cons, List.length_cons]
    omega
theorem fold_take {rs : List Ky} {k : Nat} {r : Ky} (h : rs[k]? = some r) : (rs.take (k + 1)).foldl step [] = step ((rs.take k).foldl step []) r := by
  rw [List.take_add_one, h, List.foldl_append]; rfl
def asp_rings_of : ASp := fun us A Q => ∃ (p : Addr) (a : List Int) (n : Nat), us = [.ref p, .int n] ∧ A p = some (.lst (a.map U.int)) ∧ Sml a n ∧ Q (.int (ringsN a n).length) A
section
variable {P : Program} {w : World} {K : PySem.W.Frag} {mg : Str → Option Value} {base : Heap} {f_row_counts f_ring_counts f_begun_counts f_divisors f_sharing_none f_shared f_w_whole f_w_is_row f_w_cell f_w_rows_of f_w_rings_of f_law : Addr} {d_row_counts d_ring_counts d_begun_counts d_divisors d_sharing_none d_shared d_w_whole d_w_is_row d_w_cell d_w_rows_of d_w_rings_of d_law : FuncData}
theorem ok_rings_of (T : TX K mg f_row_counts f_ring_counts f_begun_counts f_divisors f_sharing_none f_shared f_w_whole f_w_is_row f_w_cell f_w_rows_of f_w_rings_of f_law d_row_counts d_ring_counts d_begun_counts d_divisors d_sharing_none d_shared d_w_whole d_w_is_row d_w_cell d_w_rows_of d_w_rings_of d_law) : FnOk P w K mg base CX0 2 f_w_rings_of d_w_rings_of ["_law_a", "_law_size"] (spOf K asp_rings_of) := by
  have G_w_rows_of := ok_rows_of (P := P) (w := w) (base := base) T
  refine' Fun.okA T.F_w_rings_of (sc := ?sc2) (body := ?bd2) ?hs2 ?hb2 sc_w_rings_of ?hB2 ?hS2
  case hs2 => conv => lhs; whnf
  case hb2 => conv => lhs; whnf
  case hB2 => exact fun S cdv A outer s H E hr => ⟨_, (pss_cons (ps_set (i := 2) S.nd rfl (Or.inl rfl) pe_dnewN)
      (pss_cons (ps_for PassesOwn.never rfl (pj_seq (pe_call (G_w_rows_of.mono (by first | decide | omega)) hr (by rfl) T.M_w_rows_of T.F_w_rows_of.kp T.B_w_rows_of .nil pass0 (pa_cons (pv 0) (pa_cons (pv 1) pa_nil)))) (pg_name (i := 3) S.nd rfl (Or.inr rfl))
      (pss_one (ps_asg pe_bl (pg_sub (pv 2) (pe_callB (c_minD hr rfl) (by rfl) T.n_min (by decide +kernel) (pa_cons (pe_comp (ts := ["_law_k"]) (frs' := [("_law_row", 3)]) (cl := _) rfl ⟨(by rfl), rfl, (by decide +kernel), (by decide +kernel), (allm_cons (by rfl) allm_nil), (free_has (by rfl) (by rfl)), (allm_cons ⟨(by rfl), (by first | exact .inl rfl | exact .inr rfl), (by first | exact .inl rfl | exact .inr rfl), (by rfl)⟩ allm_nil)⟩ (pj_range1 rfl T.n_range (pa_cons (pe_callB c_len (by rfl) T.n_len (by decide +kernel) (pa_cons (pv 3) pa_nil)) pa_nil)) (fun _ _ _ _ => pg_name (i := 0) (show List.Nodup (["_law_k", "_law_row"] : List Str) from by decide +kernel) rfl (Or.inl rfl) (.inr rfl)) (fun _ _ _ _ => pifs_nil) (fun _ _ _ _ => by exact (pe_op (k_addW K rfl) (pe_slice (k_slW K rfl) (pv 1) (po_some (pv 0)) po_none) (pe_slice (k_slW K rfl) (pv 1) po_none (po_some (pv 0)))))) pa_nil)) (set_dn hr)))))
      (pss_one (ps_ret (pe_callB c_lenN (by rfl) T.n_len (by decide +kernel) (pa_cons (pv 2) pa_nil)))))), (ab_seq (ab_asg ab_dnewN ab_name)
      (ab_seq (ab_for (ab_jof ab_yseq (ab_call (ab_cons ab_var (ab_cons ab_var ab_nil)))) ab_name
      (ab_asg ab_bl (ab_setn ab_var (ab_cb ab_minD (ab_cons (ab_comp (ab_jrng1 (ab_cons (ab_cb ab_len (ab_cons ab_var ab_nil)) ab_nil)) ab_name ab_true (ab_op ab_add (ab_sl ab_xsl ab_var (ab_part ab_var) ab_nopart) (ab_sl ab_xsl ab_var ab_nopart (ab_part ab_var)))) ab_nil)))))
      (ab_ret (ab_cb ab_lenN (ab_cons ab_var ab_nil)))))⟩
  rintro us A Q ⟨p, a, n, rfl, hp, sm, q⟩
  refine ⟨rfl, ?_⟩
  walk_at "qs"
  walk_at "qd"
  refine fun d hd => ⟨p, a, n, rfl, by rw [updA_ne (neA hp hd)]; exact hp, sm, fun l hl => ?_⟩
  walk_at "qd"
  have nld : l ≠ d := Ne.symm (neA updA_same hl)
  have hlA : A l = none := by rw [updA_ne nld] at hl; exact hl
  have few := sm.few n (Nat.le_refl _)
  have hrows : (rowsN a n)[n]? = some ((rowsN a n).getD n []) := by
    rw [List.getD_eq_getElem?_getD, List.getElem?_eq_getElem (by rw [rowsN_len]; omega)]; rfl
  have hmem := List.mem_of_getElem? hrows
  have lng := sm.lng n (Nat.le_refl _) _ hmem
  have hlen := few _ hmem
  have has := sm.has
  have hring : ringsN a n = ((rowsN a n).getD n []).foldl step [] := rfl
  rw [hring] at q
  generalize (rowsN a n).getD n [] = rs at lng hlen has q
  refine ⟨⟨_, updA_same⟩, for_lst (rs.map kU) (fun k ρ A2 => ∃ x : Option U, ρ = [some (.ref p), some (.int n), some (.ref d), x] ∧ Ext A A2 ∧ A2 l = some (.lst (rs.map kU)) ∧ A2 d = some (dN P w ((rs.take k).foldl step []))) ⟨_, rfl, (Ext.new hd).trans (Ext.new hl), updA_same, by rw [updA_ne (Ne.symm nld), updA_same]; rfl⟩ ?_ ?_ ?_⟩
  · rintro k ρ A2 hk ⟨x, rfl, hE, h1, h2⟩
    exact h1
  · rintro k u ρ A2 hu ⟨x, rfl, hE, h1, h2⟩
    obtain ⟨r, hr0, rfl⟩ := map_get hu
    have hrl := lng r (List.mem_of_getElem? hr0)
    have hr1 := has r (List.mem_of_getElem? hr0)
    have hkl := (List.getElem?_eq_some_iff.mp hr0).1
    walk_at "qd"
    unfold kU
    walk_at "qd"
    rw [List.length_map]
    refine ⟨by omega, by omega, fun c hc => ?_⟩
    walk_at "qc"
    refine cl_map (rngU 0 (r.length : Int).toNat) ((rots r).map kU) (by rw [List.length_map, rots_len, rngU_len]; omega) hc (by rw [rngU_len]; omega) (fun k A6 _ he => rfl) (fun k0 u y A6 hu hy he Cy hCy => ?_) ?_
    · rw [rngU_get] at hu
      by_cases h : k0 < (r.length : Int).toNat
      · rw [if_pos h] at hu
        cases hu
        have hk0 : k0 < r.length := by omega
        have hy2 : y = kU (r.drop k0 ++ r.take k0) := by
          rw [List.getElem?_map, show (rots r)[k0]? = some (r.drop k0 ++ r.take k0) by unfold rots; rw [List.getElem?_map, List.getElem?_range hk0]; rfl] at hy
          cases hy; rfl
        subst hy2
        rw [kU_rot] at hCy
        rw [show (0 : Int) + (k0 : Int) = k0 by omega]
        walk_at "qg"
        rw [cut_from (by rw [List.length_map]; omega), cut_to (by rw [List.length_map]; omega)]
        exact ⟨line1000 (by simp only [List.length_drop, List.length_take, List.length_map]; omega), hCy⟩
      · rw [if_neg h] at hu; cases hu
    · walk_at "qd"
      have ncd : d ≠ c := neA h2 hc
      have ncl : l ≠ c := neA h1 hc
      refine ⟨_, _, updA_same, du_keys _, okD_keys _, by rw [List.length_map, rots_len]; omega, fun u hu => ?_⟩
      rw [List.getElem?_map, min_at (by rw [rots_len]; omega)] at hu
      cases hu
      refine ⟨d, minK (rots r), _, rfl, rfl, by first | rfl | trivial, by rw [updA_ne ncd]; exact h2, line1000' ?_, _, rfl, ?_, ?_, ?_⟩
      · have := fold_le (rs.take k) []
        simp only [List.length_take, List.length_nil] at this
        omega
      · exact (hE.trans (Ext.new hc)).in hd
      · rw [updA_ne nld, updA_ne ncl]; exact h1
      · rw [updA_same, fold_take hr0]; rfl
  · rintro ρ A2 ⟨x, rfl, hE, h1, h2⟩
    walk_at "qd"
    rw [List.length_map, List.take_length] at h2
    exact ⟨_, h2, fgx hE q⟩
end
def asp_ring22 : ASp := fun us A Q => ∃ (p : Addr) (as : List Int), us = [.ref p] ∧ A p = some (.lst (as.map U.int)) ∧ MM.Amt 2 as ∧ ∀ l, A l = none → Q (.ref l) (updA A l (.lst ((rgL as as.length).map U.int)))
def asp_isrow : ASp := fun us A Q => ∃ (a b : Addr) (ns : List Int), us = [.ref a, .ref b] ∧ A a = some (.lst (ns.map U.int)) ∧ A b = some (.lst (ns.map U.int)) ∧ ns.length ≤ 1000 ∧ Q (.bl true) A
def asp_cellR : ASp := fun us A Q => ∃ (ns : List Int) (k : Int), us = [.rol (ns.map U.int), .int k] ∧ 0 ≤ k ∧ ∀ z, Q (.int z) A
theorem ring_sp {K : PySem.W.Frag} {vs : List V} {H : Hp} {Q : VK} {E : XK} (h : spOf K asp_ring22 vs H Q E) : sp_ring K 2 vs H Q E := by
  obtain ⟨us, A, Q', r, g, ⟨p, as, rfl, hp, amt, q⟩, k⟩ := h
  obtain ⟨v, rfl, r'⟩ := r.inv1
  cases r'
  obtain ⟨vs, h1, r1⟩ := g.list hp
  rw [r1.ints] at h1
  exact ⟨p, as, rfl, SqL.of h1, amt, fun l H' hl hs he => k _ _ _ _ hs.kp (g.growL hs he RUs.of_ints) (.ref l) (q l (g.none hl))⟩
theorem row_sp {K : PySem.W.Frag} {vs : List V} {H : Hp} {Q : VK} {E : XK} (h : spOf K asp_isrow vs H Q E) : sp_row K vs H Q E := by
  obtain ⟨us, A, Q', r, g, ⟨a, b, ns, rfl, ha, hb, hn, q⟩, k⟩ := h
  obtain ⟨v, x, rfl, r1, r2⟩ := r.inv2
  cases r1; cases r2
  obtain ⟨vs, h1, s1⟩ := g.list ha
  obtain ⟨ws, h2, s2⟩ := g.list hb
  rw [s1.ints] at h1
  rw [s2.ints] at h2
  exact ⟨a, b, ns, rfl, h1, SqL.of h2, hn, k _ _ _ _ (.refl H) g (.bl _) q⟩
def aOf (x1 x2 x3 x4 t : Nat) : List Int := ([0, (x1 : Int), x2, x3, x4, 0, 0, 0]).take (t + 2)
def rowOk (a : List Int) (m : Nat) : Bool := (rowsN a m).all fun r => decide (r.length ≤ 1000) && r.all fun k => decide (k.length ≤ 1000)
def fct (a : List Int) (t : Nat) : Bool := decide (rgL a a.length = 0 :: (List.range (t + 1)).map fun n0 => ((ringsN a (1 + n0)).length : Int))
def fct2 (a : List Int) (t : Nat) : Bool := (List.range (t + 2)).all fun m => rowOk a m && (decide (m = 0) || ((rowsN a m).getD m []).all fun k => decide (1 ≤ k.length))
def fct3 (a : List Int) (t : Nat) : Bool := decide (a.length = t + 2) && a.all fun z => decide (0 ≤ z ∧ z ≤ 2)
theorem fct3_all : ∀ x1 < 3, ∀ x2 < 3, ∀ x3 < 2, ∀ x4 < 2, ∀ t < 6, fct3 (aOf x1 x2 x3 x4 t) t = true := by decide +kernel
section
variable {P : Program} {w : World} {K : PySem.W.Frag} {mg : Str → Option Value} {base : Heap} {f_row_counts f_ring_counts f_begun_counts f_divisors f_sharing_none f_shared f_w_whole f_w_is_row f_w_cell f_w_rows_of f_w_rings_of f_law : Addr} {d_row_counts d_ring_counts d_begun_counts d_divisors d_sharing_none d_shared d_w_whole d_w_is_row d_w_cell d_w_rows_of d_w_rings_of d_law : FuncData}
theorem ok_cellR (T : TX K mg f_row_counts f_ring_counts f_begun_counts f_divisors f_sharing_none f_shared f_w_whole f_w_is_row f_w_cell f_w_rows_of f_w_rings_of f_law d_row_counts d_ring_counts d_begun_counts d_divisors d_sharing_none d_shared d_w_whole d_w_is_row d_w_cell d_w_rows_of d_w_rings_of d_law) : FnOk P w K mg base CX0 1 f_w_cell d_w_cell ["_law_script", "_law_k"] (spOf K asp_cellR) := by
  refine' Fun.okA T.F_w_cell (sc := ?sc3) (body := ?bd3) ?hs3 ?hb3 sc_w_cell ?hB3 ?hS3
  case hs3 => conv => lhs; whnf
  case hb3 => conv => lhs; whnf
  case hB3 => exact fun S cdv A outer s H E hr => ⟨_, (pss_cons (ps_if (pt_cmpR o_lt (pv 1) (pe_callB c_len (by rfl) T.n_len (by decide +kernel) (pa_cons (pv 0) pa_nil)) (nomark _)) (pss_one (ps_ret (pe_ix o_ix (pv 0) (pv 1) (fun _ _ => rfl)))) pss_nil)
      (pss_one (ps_ret pe_int))), (ab_seq (ab_ifs (ab_test (ab_op ab_lt ab_var (ab_cb ab_len (ab_cons ab_var ab_nil)))) (ab_ret (ab_op ab_ix ab_var ab_var)) ab_next)
      (ab_ret ab_int))⟩
  rintro us A Q ⟨ns, k, rfl, hk, q⟩
  refine ⟨rfl, ?_⟩
  walk_at "qs"
  walk_at "qd"
  rw [List.length_map]
  refine iteB (fun h => ?_) fun _ => fg (q 0)
  have h' : k < ns.length := by simpa using h
  obtain ⟨z, h1, _⟩ := atI_intsU hk h'
  refine ⟨_, h1, fg (q z)⟩
end
theorem fct2_all : ∀ x1 < 3, ∀ x2 < 3, ∀ x3 < 2, ∀ x4 < 2, ∀ t < 6, fct2 (aOf x1 x2 x3 x4 t) t = true := by decide +kernel
theorem fct_all : ∀ x1 < 3, ∀ x2 < 3, ∀ x3 < 2, ∀ x4 < 2, ∀ t < 6, fct (aOf x1 x2 x3 x4 t) t = true := by decide +kernel
theorem at0_in {a : List Int} (h : a.all (fun z => decide (0 ≤ z ∧ z ≤ 2)) = true) (i : Nat) : 0 ≤ MM.at0 a i ∧ MM.at0 a i ≤ 2 := by
  unfold MM.at0
  rw [List.getD_eq_getElem?_getD]
  cases e : a[i]? with
  | none => exact ⟨by decide, by decide⟩
  | some z => exact of_decide_eq_true (List.all_eq_true.mp h z (List.mem_of_getElem? e))
theorem sml_of {x1 x2 x3 x4 t : Nat} (h1 : x1 < 3) (h2 : x2 < 3) (h3 : x3 < 2) (h4 : x4 < 2) (ht : t < 6) {n : Nat} (hn1 : 1 ≤ n) (hn : n ≤ t + 1) : Sml (aOf x1 x2 x3 x4 t) n := by
  have f2 := fct2_all x1 h1 x2 h2 x3 h3 x4 h4 t ht
  have f3 := fct3_all x1 h1 x2 h2 x3 h3 x4 h4 t ht
  generalize aOf x1 x2 x3 x4 t = a at f2 f3
  unfold fct3 at f3
  rw [Bool.and_eq_true] at f3
  have hl : a.length = t + 2 := of_decide_eq_true f3.1
  have row : ∀ m, m ≤ n → rowOk a m = true ∧ (m = 0 ∨ (((rowsN a m).getD m []).all fun k => decide (1 ≤ k.length)) = true) := by
    intro m hm
    have := List.all_eq_true.mp f2 m (List.mem_range.mpr (by omega))
    rw [Bool.and_eq_true, Bool.or_eq_true] at this
    exact ⟨this.1, this.2.imp (fun z => of_decide_eq_true z) id⟩
  have r1 : ∀ m, m ≤ n → ∀ r ∈ rowsN a m, r.length ≤ 1000 ∧ ∀ k ∈ r, k.length ≤ 1000 := by
    intro m hm r hr
    have := List.all_eq_true.mp (row m hm).1 r hr
    rw [Bool.and_eq_true] at this
    exact ⟨of_decide_eq_true this.1, fun k hk => of_decide_eq_true (List.all_eq_true.mp this.2 k hk)⟩
  refine ⟨by omega, by omega, by omega, at0_in f3.2, fun m hm r hr => (r1 m hm r hr).1, fun m hm r hr => (r1 m hm r hr).2, fun k hk => ?_⟩
  rcases (row n (Nat.le_refl _)).2 with z | z
  · omega
  · exact of_decide_eq_true (List.all_eq_true.mp z k hk)
theorem amt_of {x1 x2 x3 x4 t : Nat} (h1 : x1 < 3) (h2 : x2 < 3) (h3 : x3 < 2) (h4 : x4 < 2) (ht : t < 6) : MM.Amt 2 (aOf x1 x2 x3 x4 t) := by
  have f3 := fct3_all x1 h1 x2 h2 x3 h3 x4 h4 t ht
  unfold fct3 at f3
  rw [Bool.and_eq_true] at f3
  have hl : (aOf x1 x2 x3 x4 t).length = t + 2 := of_decide_eq_true f3.1
  refine ⟨by omega, by omega, by unfold aOf; rfl, fun i => ?_⟩
  have := at0_in f3.2 i
  omega
theorem cut_aOf {x1 x2 x3 x4 t : Nat} : cutU (List.map U.int [(0 : Int), x1, x2, x3, x4] ++ [U.int 0, U.int 0, U.int 0]) none (some (1 + (t : Int) + 1)) = (aOf x1 x2 x3 x4 t).map U.int := by
  have e : (1 + (t : Int) + 1) = ((t + 2 : Nat) : Int) := by omega
  rw [e]
  unfold cutU aOf
  rw [HT.sIx_nat, HT.sIx_none, List.drop_zero, Nat.sub_zero, List.map_take]
  show List.take (min (t + 2) 8) [U.int 0, U.int x1, U.int x2, U.int x3, U.int x4, U.int 0, U.int 0, U.int 0] = List.take (t + 2) [U.int 0, U.int x1, U.int x2, U.int x3, U.int x4, U.int 0, U.int 0, U.int 0]
  rcases Nat.le_total (t + 2) 8 with h | h
  · rw [Nat.min_eq_left h]
  · rw [Nat.min_eq_right h, List.take_of_length_le (by simp), List.take_of_length_le (by simpa using h)]
def mods (k : Nat) : Int := ([3, 3, 2, 2] : List Int).getD k 0
theorem mods_at : ∀ k : Nat, k < 4 → atI [U.int 3, U.int 3, U.int 2, U.int 2] (0 + (k : Int)) = some (.int (mods k)) ∧ 0 < mods k
  | 0, _ => ⟨rfl, by decide⟩
  | 1, _ => ⟨rfl, by decide⟩
  | 2, _ => ⟨rfl, by decide⟩
  | 3, _ => ⟨rfl, by decide⟩
section
variable {P : Program} {w : World} {K : PySem.W.Frag} {mg : Str → Option Value} {base : Heap} {f_row_counts f_ring_counts f_begun_counts f_divisors f_sharing_none f_shared f_w_whole f_w_is_row f_w_cell f_w_rows_of f_w_rings_of f_law : Addr} {d_row_counts d_ring_counts d_begun_counts d_divisors d_sharing_none d_shared d_w_whole d_w_is_row d_w_cell d_w_rows_of d_w_rings_of d_law : FuncData}
theorem ok_law (T : TX K mg f_row_counts f_ring_counts f_begun_counts f_divisors f_sharing_none f_shared f_w_whole f_w_is_row f_w_cell f_w_rows_of f_w_rings_of f_law d_row_counts d_ring_counts d_begun_counts d_divisors d_sharing_none d_shared d_w_whole d_w_is_row d_w_cell d_w_rows_of d_w_rings_of d_law) : FnOk P w K mg base CX0 4 f_law d_law ["_law_script"] (spOf K aspLaw) := by
  have G_w_cell := ok_cellR (P := P) (w := w) (base := base) T
  have G_w_rings_of := ok_rings_of (P := P) (w := w) (base := base) T
  have G_ring_counts := (ok_ring (P := P) (w := w) (base := base) T 2 (by decide)).imp (sp' := spOf K asp_ring22) fun _ _ _ _ h => ring_sp h
  have G_w_is_row := (ok_row (P := P) (w := w) (base := base) T).imp (sp' := spOf K asp_isrow) fun _ _ _ _ h => row_sp h
  refine' Fun.okA T.F_law (sc := ?sc4) (body := ?bd4) ?hs4 ?hb4 sc_law ?hB4 ?hS4
  case hs4 => conv => lhs; whnf
  case hb4 => conv => lhs; whnf
  case hB4 => exact fun S cdv A outer s H E hr => ⟨_, (pss_cons (ps_set (i := 1) S.nd rfl (Or.inr rfl) (pe_lst (pa_cons pe_int pa_nil)))
      (pss_cons (ps_for PassesOwn.never rfl (pj_range1 rfl T.n_range (pa_cons pe_int pa_nil)) (pg_name (i := 2) S.nd rfl (Or.inl rfl))
      (pss_one (ps_expr (pe_bm PySem.F.plainAttrs_list PySem.F.slot_list_append PySem.F.type_list_append mt_append (pv 1) (pa_cons (pe_op o_mod (pe_call (G_w_cell.mono (by first | decide | omega)) hr (by rfl) T.M_w_cell T.F_w_cell.kp T.B_w_cell .nil pass0 (pa_cons (pv 0) (pa_cons (pv 2) pa_nil))) (pe_ix o_ix (pe_lst (pa_cons pe_int (pa_cons pe_int (pa_cons pe_int (pa_cons pe_int pa_nil))))) (pv 2) (fun _ _ => rfl))) pa_nil)))))
      (pss_cons (ps_set (i := 3) S.nd rfl (Or.inl rfl) (pe_op o_addW pe_int (pe_op o_mod (pe_call (G_w_cell.mono (by first | decide | omega)) hr (by rfl) T.M_w_cell T.F_w_cell.kp T.B_w_cell .nil pass0 (pa_cons (pv 0) (pa_cons pe_int pa_nil))) pe_int)))
      (pss_cons (ps_set (i := 1) S.nd rfl (Or.inr rfl) (pe_slice o_slW (pe_op o_addW (pv 1) (pe_lst (pa_cons pe_int (pa_cons pe_int (pa_cons pe_int pa_nil))))) po_none (po_some (pe_op o_addW (pv 3) pe_int))))
      (pss_cons (ps_set (i := 4) S.nd rfl (Or.inl rfl) (pe_callTy c_list (by rfl) T.n_list (by decide +kernel) (pa_cons (pv 1) pa_nil)))
      (pss_cons (ps_set (i := 5) S.nd rfl (Or.inl rfl) (pe_op o_addW (pe_lst (pa_cons pe_int pa_nil)) (pe_comp (ts := ["_law_n"]) (frs' := [("_law_a", 1)]) (cl := _) rfl ⟨(by rfl), rfl, (by decide +kernel), (by decide +kernel), (allm_cons (by rfl) allm_nil), (free_has (by rfl) (by rfl)), (allm_cons ⟨(by rfl), (by first | exact .inl rfl | exact .inr rfl), (by first | exact .inl rfl | exact .inr rfl), (by rfl)⟩ allm_nil)⟩ (pj_range2 rfl T.n_range (pa_cons pe_int (pa_cons (pe_op o_addW (pv 3) pe_int) pa_nil))) (fun _ _ _ _ => pg_name (i := 0) (show List.Nodup (["_law_n", "_law_a"] : List Str) from by decide +kernel) rfl (Or.inl rfl) (.inr rfl)) (fun _ _ _ _ => pifs_nil) (fun _ _ _ _ => by exact (pe_call (G_w_rings_of.mono (by first | decide | omega)) hr (by rfl) T.M_w_rings_of T.F_w_rings_of.kp T.B_w_rings_of .nil pass0 (pa_cons (pv 1) (pa_cons (pv 0) pa_nil)))))))
      (pss_one (ps_ret (pe_and (pe_call (G_w_is_row.mono (by first | decide | omega)) hr (by rfl) T.M_w_is_row T.F_w_is_row.kp T.B_w_is_row .nil pass0 (pa_cons (pe_call (G_ring_counts.mono (by first | decide | omega)) hr (by rfl) T.M_ring_counts T.F_ring_counts.kp T.B_ring_counts .nil pass0 (pa_cons (pv 4) pa_nil)) (pa_cons (pv 5) pa_nil))) (pe_one (pe_cmpR (o_eqD hr) (pv 4) (pv 1) (nomark _)))))))))))), (ab_seq (ab_asg (ab_lst (ab_cons ab_int ab_nil)) ab_name)
      (ab_seq (ab_for (ab_jrng1 (ab_cons ab_int ab_nil)) ab_name
      (ab_drop (ab_bm ab_isLst ab_mapp ab_var (ab_cons (ab_op ab_mod (ab_call (ab_cons ab_var (ab_cons ab_var ab_nil))) (ab_op ab_ix (ab_lst (ab_cons ab_int (ab_cons ab_int (ab_cons ab_int (ab_cons ab_int ab_nil))))) ab_var)) ab_nil))))
      (ab_seq (ab_asg (ab_op ab_add ab_int (ab_op ab_mod (ab_call (ab_cons ab_var (ab_cons ab_int ab_nil))) ab_int)) ab_name)
      (ab_seq (ab_asg (ab_sl ab_xsl (ab_op ab_add ab_var (ab_lst (ab_cons ab_int (ab_cons ab_int (ab_cons ab_int ab_nil))))) ab_nopart (ab_part (ab_op ab_add ab_var ab_int))) ab_name)
      (ab_seq (ab_asg (ab_cb ab_listof (ab_cons ab_var ab_nil)) ab_name)
      (ab_seq (ab_asg (ab_op ab_add (ab_lst (ab_cons ab_int ab_nil)) (ab_comp (ab_jrng2 (ab_cons ab_int (ab_cons (ab_op ab_add ab_var ab_int) ab_nil))) ab_name ab_true (ab_call (ab_cons ab_var (ab_cons ab_var ab_nil))))) ab_name)
      (ab_ret (ab_andv (ab_call (ab_cons (ab_call (ab_cons ab_var ab_nil)) (ab_cons ab_var ab_nil))) (ab_op ab_eq ab_var ab_var)))))))))⟩
  rintro us A Q ⟨ns, rfl, hl, q⟩
  refine ⟨rfl, ?_⟩
  walk_at "qs"
  walk_at "qd"
  refine ⟨tup1, fun p0 hp0 => ⟨by decide, by decide, ?_⟩⟩
  refine for_rng (fun k ρ A2 => ∃ (xs : List Int) (x2 x3 x4 x5 : Option U), ρ = [some (.rol (ns.map U.int)), some (.ref p0), x2, x3, x4, x5] ∧ Ext A A2 ∧ A2 p0 = some (.lst ((0 :: xs).map U.int)) ∧ xs.length = k ∧ ∀ i z, xs[i]? = some z → 0 ≤ z ∧ z < mods i) ⟨[], _, _, _, _, rfl, Ext.new hp0, updA_same, rfl, fun i z h => by simp at h⟩ ?_ ?_
  · rintro k ρ A2 hk ⟨xs, x2, x3, x4, x5, rfl, hE, ha, hlen, hb⟩
    walk_at "qd"
    have hk4 : k < 4 := hk
    obtain ⟨hm1, hm2⟩ := mods_at k hk4
    refine ⟨⟨_, ha⟩, ns, _, rfl, by omega, fun z => ⟨by decide, fun p hp => ⟨_, _, updA_same, hm1, ?_⟩⟩⟩
    walk_at "qd"
    have npp : p0 ≠ p := neA ha hp
    refine ⟨hm2, _, by rw [updA_ne npp]; exact ha, line1000' (by simp only [List.length_map, List.length_cons]; omega), xs ++ [z % mods k], _, _, _, _, rfl, (hE.trans (Ext.new hp)).in hp0, ?_, by rw [List.length_append, hlen]; rfl, ?_⟩
    · rw [updA_same, ← List.cons_append, List.map_append]; rfl
    · intro i y hy
      by_cases hi : i < xs.length
      · rw [List.getElem?_append_left hi] at hy; exact hb i y hy
      · rw [List.getElem?_append_right (by omega)] at hy
        have e0 : i - xs.length = 0 := by
          have := (List.getElem?_eq_some_iff.mp hy).1
          simp at this
          omega
        rw [e0] at hy
        simp at hy
        subst hy
        have : i = k := by omega
        subst this
        exact ⟨Int.emod_nonneg _ (by omega), Int.emod_lt_of_pos _ hm2⟩
  · rintro ρ A2 ⟨xs, x2, x3, x4, x5, rfl, hE, ha, hlen, hb⟩
    obtain ⟨y1, y2, y3, y4, rfl⟩ : ∃ y1 y2 y3 y4, xs = [y1, y2, y3, y4] := by
      match xs, hlen with
      | [y1, y2, y3, y4], _ => exact ⟨_, _, _, _, rfl⟩
    have b1 := hb 0 y1 rfl
    have b2 := hb 1 y2 rfl
    have b3 := hb 2 y3 rfl
    have b4 := hb 3 y4 rfl
    simp only [mods, List.getD_eq_getElem?_getD, List.getElem?_cons_zero, List.getElem?_cons_succ, Option.getD_some] at b1 b2 b3 b4
    obtain ⟨x1, rfl⟩ := Int.eq_ofNat_of_zero_le b1.1
    obtain ⟨x2', rfl⟩ := Int.eq_ofNat_of_zero_le b2.1
    obtain ⟨x3', rfl⟩ := Int.eq_ofNat_of_zero_le b3.1
    obtain ⟨x4', rfl⟩ := Int.eq_ofNat_of_zero_le b4.1
    walk_at "qd"
    refine ⟨ns, 4, rfl, by decide, fun z => ?_⟩
    obtain ⟨t, ht⟩ := Int.eq_ofNat_of_zero_le (Int.emod_nonneg z (show (6 : Int) ≠ 0 by decide))
    have ht6 : t < 6 := by have := Int.emod_lt_of_pos z (show (0 : Int) < 6 by decide); omega
    walk_at "qd"
    rw [ht]
    refine ⟨by decide, tup3, fun p hp => ⟨_, _, by rw [updA_ne (neA ha hp)]; exact ha, updA_same, line1000 (by simp), fun p1 hp1 => ?_⟩⟩
    walk_at "qd"
    refine ⟨_, updA_same, fun pa hpa => ⟨_, updA_same, fun ph hph => ⟨tup1, fun pz hpz => ?_⟩⟩⟩
    rw [cut_aOf] at hph hpz ⊢
    have nah : pa ≠ ph := neA updA_same hph
    have f0 := fct_all x1 (by omega) x2' (by omega) x3' (by omega) x4' (by omega) t ht6
    have f3 := fct3_all x1 (by omega) x2' (by omega) x3' (by omega) x4' (by omega) t ht6
    have amt : MM.Amt 2 (aOf x1 x2' x3' x4' t) := amt_of (by omega) (by omega) (by omega) (by omega) ht6
    have sml : ∀ n, 1 ≤ n → n ≤ t + 1 → Sml (aOf x1 x2' x3' x4' t) n := fun n h1 h2 => sml_of (by omega) (by omega) (by omega) (by omega) ht6 h1 h2
    unfold fct3 at f3
    rw [Bool.and_eq_true] at f3
    have hal : (aOf x1 x2' x3' x4' t).length = t + 2 := of_decide_eq_true f3.1
    have f0 := of_decide_eq_true f0
    generalize aOf x1 x2' x3' x4' t = a at *
    obtain ⟨A3, hA3⟩ : ∃ A3, A3 = updA (updA (updA (updA A2 p (.lst [.int 0, .int 0, .int 0])) p1 (.lst ([(0 : Int), x1, x2', x3', x4'].map U.int ++ [.int 0, .int 0, .int 0]))) pa (.lst (a.map U.int))) ph (.lst (a.map U.int)) := ⟨_, rfl⟩
    rw [← hA3] at hpz ⊢
    have a1 : A3 pa = some (.lst (a.map U.int)) := by rw [hA3, updA_ne nah, updA_same]
    have a2 : A3 ph = some (.lst (a.map U.int)) := by rw [hA3, updA_same]
    clear hA3
    walk_at "qd"
    refine ⟨⟨by decide, by decide, by omega, by omega⟩, fun c hc => ?_⟩
    walk_at "qc"
    have et : (1 + (t : Int) + 1 - 1).toNat = t + 1 := by omega
    rw [et]
    have nzc : pz ≠ c := neA updA_same hc
    have nza : pa ≠ pz := neA a1 hpz
    have nzh : ph ≠ pz := neA a2 hpz
    have e3 : Ext A3 (updA A3 pz (.lst [.int 0])) := Ext.new hpz
    refine cl_map (rngU 1 (t + 1)) (((List.range (t + 1)).map fun n0 => ((ringsN a (1 + n0)).length : Int)).map U.int) (by rw [rngU_len]; simp) hc (by rw [rngU_len]; omega) (fun k A6 _ he => rfl) (fun k0 u y A6 hu hy he Cy hCy => ?_) ?_
    · rw [rngU_get] at hu
      by_cases h : k0 < t + 1
      · rw [if_pos h] at hu
        cases hu
        rw [List.getElem?_map, List.getElem?_map, List.getElem?_range h] at hy
        cases hy
        walk_at "qd"
        exact ⟨pa, a, 1 + k0, by simp, he _ _ (e3 _ _ a1), sml _ (by omega) (by omega), hCy⟩
      · rw [if_neg h] at hu; cases hu
    · walk_at "qd"
      refine ⟨_, _, by rw [updA_ne nzc, updA_same], updA_same, line1000 (by simp; omega), fun r hr => ?_⟩
      have n1 : ph ≠ c := fun e => by rw [← e, updA_ne nzh, a2] at hc; cases hc
      have n2 : ph ≠ r := fun e => by rw [← e, updA_ne n1, updA_ne nzh, a2] at hr; cases hr
      have n3 : pa ≠ c := fun e => by rw [← e, updA_ne nza, a1] at hc; cases hc
      have n4 : pa ≠ r := fun e => by rw [← e, updA_ne n3, updA_ne nza, a1] at hr; cases hr
      refine ⟨ph, a, rfl, by rw [updA_ne n2, updA_ne n1, updA_ne nzh]; exact a2, amt, fun o ho => ?_⟩
      have n5 : r ≠ o := neA updA_same ho
      have n6 : ph ≠ o := fun e => by rw [← e, updA_ne n2, updA_ne n1, updA_ne nzh, a2] at ho; cases ho
      have n7 : pa ≠ o := fun e => by rw [← e, updA_ne n4, updA_ne n3, updA_ne nza, a1] at ho; cases ho
      refine ⟨o, r, rgL a a.length, rfl, updA_same, ?_, ?_, ?_⟩
      · rw [updA_ne n5, updA_same, f0, List.map_cons]; rfl
      · unfold rgL; simp; omega
      · refine ⟨true, rfl, ?_⟩
        rw [if_pos rfl]
        walk_at "qd"
        refine ⟨.list (a.map PyData.int), .list (a.map PyData.int), .lst (by rw [updA_ne n6, updA_ne n2, updA_ne n1, updA_ne nzh]; exact a2) (du_ints a), .lst (by rw [updA_ne n7, updA_ne n4, updA_ne n3, updA_ne nza]; exact a1) (du_ints a), can_ints a, can_ints a, ?_, fg ?_⟩
        · have := dep_ints a
          simp only [PyData.depth]
          omega
        · have : PyData.eqv (.list (a.map PyData.int)) (.list (a.map PyData.int)) = true := by
            show PyData.eqvAll (a.map PyData.int) (a.map PyData.int) = true
            rw [eqv_ints]; simp
          rw [this]; exact q _
end
theorem all_mk {l : PySem.W.OpenLaw} {w : World} {K : PySem.W.Frag} {h : Heap} {mg : Str → Option Value} {fa : Addr} {f_row_counts f_ring_counts f_begun_counts f_divisors f_sharing_none f_shared f_w_whole f_w_is_row f_w_cell f_w_rows_of f_w_rings_of f_law : Addr} {od_row_counts an_row_counts od_ring_counts an_ring_counts od_begun_counts an_begun_counts od_divisors an_divisors od_sharing_none an_sharing_none od_shared an_shared od_w_whole an_w_whole od_w_is_row an_w_is_row od_w_cell an_w_cell od_w_rows_of an_w_rows_of od_w_rings_of an_w_rings_of od_law an_law : Option Addr} {sl_row_counts sl_ring_counts sl_begun_counts sl_divisors sl_sharing_none sl_shared sl_w_whole sl_w_is_row sl_w_cell sl_w_rows_of sl_w_rings_of sl_law : Array (Option Value)} {oc_row_counts kV_row_counts dc_row_counts pm_row_counts cd_row_counts ct_row_counts oc_ring_counts kV_ring_counts dc_ring_counts pm_ring_counts cd_ring_counts ct_ring_counts oc_begun_counts kV_begun_counts dc_begun_counts pm_begun_counts cd_begun_counts ct_begun_counts oc_divisors kV_divisors dc_divisors pm_divisors cd_divisors ct_divisors oc_sharing_none kV_sharing_none dc_sharing_none pm_sharing_none cd_sharing_none ct_sharing_none oc_shared kV_shared dc_shared pm_shared cd_shared ct_shared oc_w_whole kV_w_whole dc_w_whole pm_w_whole cd_w_whole ct_w_whole oc_w_is_row kV_w_is_row dc_w_is_row pm_w_is_row cd_w_is_row ct_w_is_row oc_w_cell kV_w_cell dc_w_cell pm_w_cell cd_w_cell ct_w_cell oc_w_rows_of kV_w_rows_of dc_w_rows_of pm_w_rows_of cd_w_rows_of ct_w_rows_of oc_w_rings_of kV_w_rings_of dc_w_rings_of pm_w_rings_of cd_w_rings_of ct_w_rings_of oc_law kV_law dc_law pm_law cd_law ct_law : Value} (X : K.In h) (G : h.Ns mainGlobals mg) (hfa : mg "law" = some (.ref fa))
    (a_row_counts : PySem.W.nsIn K mainGlobals "row_counts" = some (some (.ref f_row_counts))) (l_row_counts : K.lookup f_row_counts = some ⟨oc_row_counts, od_row_counts, .func (PySem.W.fnOf "row_counts" "row_counts" (defArgs s_row_counts) (defBody s_row_counts) (defScope s_row_counts) .none kV_row_counts dc_row_counts pm_row_counts an_row_counts cd_row_counts ct_row_counts), sl_row_counts⟩) (x_row_counts : PySem.W.codeIn K cd_row_counts "row_counts" = true) (k_row_counts : PySem.W.keepIn K (.ref f_row_counts) = true)
    (a_ring_counts : PySem.W.nsIn K mainGlobals "ring_counts" = some (some (.ref f_ring_counts))) (l_ring_counts : K.lookup f_ring_counts = some ⟨oc_ring_counts, od_ring_counts, .func (PySem.W.fnOf "ring_counts" "ring_counts" (defArgs s_ring_counts) (defBody s_ring_counts) (defScope s_ring_counts) .none kV_ring_counts dc_ring_counts pm_ring_counts an_ring_counts cd_ring_counts ct_ring_counts), sl_ring_counts⟩) (x_ring_counts : PySem.W.codeIn K cd_ring_counts "ring_counts" = true) (k_ring_counts : PySem.W.keepIn K (.ref f_ring_counts) = true)
    (a_begun_counts : PySem.W.nsIn K mainGlobals "begun_counts" = some (some (.ref f_begun_counts))) (l_begun_counts : K.lookup f_begun_counts = some ⟨oc_begun_counts, od_begun_counts, .func (PySem.W.fnOf "begun_counts" "begun_counts" (defArgs s_begun_counts) (defBody s_begun_counts) (defScope s_begun_counts) .none kV_begun_counts dc_begun_counts pm_begun_counts an_begun_counts cd_begun_counts ct_begun_counts), sl_begun_counts⟩) (x_begun_counts : PySem.W.codeIn K cd_begun_counts "begun_counts" = true) (k_begun_counts : PySem.W.keepIn K (.ref f_begun_counts) = true)
    (a_divisors : PySem.W.nsIn K mainGlobals "divisors" = some (some (.ref f_divisors))) (l_divisors : K.lookup f_divisors = some ⟨oc_divisors, od_divisors, .func (PySem.W.fnOf "divisors" "divisors" (defArgs s_divisors) (defBody s_divisors) (defScope s_divisors) .none kV_divisors dc_divisors pm_divisors an_divisors cd_divisors ct_divisors), sl_divisors⟩) (x_divisors : PySem.W.codeIn K cd_divisors "divisors" = true) (k_divisors : PySem.W.keepIn K (.ref f_divisors) = true)
    (a_sharing_none : PySem.W.nsIn K mainGlobals "sharing_none" = some (some (.ref f_sharing_none))) (l_sharing_none : K.lookup f_sharing_none = some ⟨oc_sharing_none, od_sharing_none, .func (PySem.W.fnOf "sharing_none" "sharing_none" (defArgs s_sharing_none) (defBody s_sharing_none) (defScope s_sharing_none) .none kV_sharing_none dc_sharing_none pm_sharing_none an_sharing_none cd_sharing_none ct_sharing_none), sl_sharing_none⟩) (x_sharing_none : PySem.W.codeIn K cd_sharing_none "sharing_none" = true) (k_sharing_none : PySem.W.keepIn K (.ref f_sharing_none) = true)
    (a_shared : PySem.W.nsIn K mainGlobals "shared" = some (some (.ref f_shared))) (l_shared : K.lookup f_shared = some ⟨oc_shared, od_shared, .func (PySem.W.fnOf "shared" "shared" (defArgs s_shared) (defBody s_shared) (defScope s_shared) .none kV_shared dc_shared pm_shared an_shared cd_shared ct_shared), sl_shared⟩) (x_shared : PySem.W.codeIn K cd_shared "shared" = true) (k_shared : PySem.W.keepIn K (.ref f_shared) = true)
    (a_w_whole : PySem.W.nsIn K mainGlobals "_law_whole" = some (some (.ref f_w_whole))) (l_w_whole : K.lookup f_w_whole = some ⟨oc_w_whole, od_w_whole, .func (PySem.W.fnOf "_law_whole" "_law_whole" (defArgs s_w_whole) (defBody s_w_whole) (defScope s_w_whole) .none kV_w_whole dc_w_whole pm_w_whole an_w_whole cd_w_whole ct_w_whole), sl_w_whole⟩) (x_w_whole : PySem.W.codeIn K cd_w_whole "_law_whole" = true) (k_w_whole : PySem.W.keepIn K (.ref f_w_whole) = true)
    (a_w_is_row : PySem.W.nsIn K mainGlobals "_law_is_row" = some (some (.ref f_w_is_row))) (l_w_is_row : K.lookup f_w_is_row = some ⟨oc_w_is_row, od_w_is_row, .func (PySem.W.fnOf "_law_is_row" "_law_is_row" (defArgs s_w_is_row) (defBody s_w_is_row) (defScope s_w_is_row) .none kV_w_is_row dc_w_is_row pm_w_is_row an_w_is_row cd_w_is_row ct_w_is_row), sl_w_is_row⟩) (x_w_is_row : PySem.W.codeIn K cd_w_is_row "_law_is_row" = true) (k_w_is_row : PySem.W.keepIn K (.ref f_w_is_row) = true)
    (a_w_cell : PySem.W.nsIn K mainGlobals "_law_cell" = some (some (.ref f_w_cell))) (l_w_cell : K.lookup f_w_cell = some ⟨oc_w_cell, od_w_cell, .func (PySem.W.fnOf "_law_cell" "_law_cell" (defArgs s_w_cell) (defBody s_w_cell) (defScope s_w_cell) .none kV_w_cell dc_w_cell pm_w_cell an_w_cell cd_w_cell ct_w_cell), sl_w_cell⟩) (x_w_cell : PySem.W.codeIn K cd_w_cell "_law_cell" = true) (k_w_cell : PySem.W.keepIn K (.ref f_w_cell) = true)
    (a_w_rows_of : PySem.W.nsIn K mainGlobals "_law_rows_of" = some (some (.ref f_w_rows_of))) (l_w_rows_of : K.lookup f_w_rows_of = some ⟨oc_w_rows_of, od_w_rows_of, .func (PySem.W.fnOf "_law_rows_of" "_law_rows_of" (defArgs s_w_rows_of) (defBody s_w_rows_of) (defScope s_w_rows_of) .none kV_w_rows_of dc_w_rows_of pm_w_rows_of an_w_rows_of cd_w_rows_of ct_w_rows_of), sl_w_rows_of⟩) (x_w_rows_of : PySem.W.codeIn K cd_w_rows_of "_law_rows_of" = true) (k_w_rows_of : PySem.W.keepIn K (.ref f_w_rows_of) = true)
    (a_w_rings_of : PySem.W.nsIn K mainGlobals "_law_rings_of" = some (some (.ref f_w_rings_of))) (l_w_rings_of : K.lookup f_w_rings_of = some ⟨oc_w_rings_of, od_w_rings_of, .func (PySem.W.fnOf "_law_rings_of" "_law_rings_of" (defArgs s_w_rings_of) (defBody s_w_rings_of) (defScope s_w_rings_of) .none kV_w_rings_of dc_w_rings_of pm_w_rings_of an_w_rings_of cd_w_rings_of ct_w_rings_of), sl_w_rings_of⟩) (x_w_rings_of : PySem.W.codeIn K cd_w_rings_of "_law_rings_of" = true) (k_w_rings_of : PySem.W.keepIn K (.ref f_w_rings_of) = true)
    (a_law : PySem.W.nsIn K mainGlobals "law" = some (some (.ref f_law))) (l_law : K.lookup f_law = some ⟨oc_law, od_law, .func (PySem.W.fnOf "law" "law" (defArgs s_law) (defBody s_law) (defScope s_law) .none kV_law dc_law pm_law an_law cd_law ct_law), sl_law⟩) (x_law : PySem.W.codeIn K cd_law "law" = true) (k_law : PySem.W.keepIn K (.ref f_law) = true)
    (n_all : PySem.W.nsIn K mainGlobals "all" = some none)
    (n_any : PySem.W.nsIn K mainGlobals "any" = some none)
    (n_bool : PySem.W.nsIn K mainGlobals "bool" = some none)
    (n_enumerate : PySem.W.nsIn K mainGlobals "enumerate" = some none)
    (n_int : PySem.W.nsIn K mainGlobals "int" = some none)
    (n_isinstance : PySem.W.nsIn K mainGlobals "isinstance" = some none)
    (n_len : PySem.W.nsIn K mainGlobals "len" = some none)
    (n_list : PySem.W.nsIn K mainGlobals "list" = some none)
    (n_max : PySem.W.nsIn K mainGlobals "max" = some none)
    (n_min : PySem.W.nsIn K mainGlobals "min" = some none)
    (n_range : PySem.W.nsIn K mainGlobals "range" = some none)
    (n_reversed : PySem.W.nsIn K mainGlobals "reversed" = some none)
    (n_sorted : PySem.W.nsIn K mainGlobals "sorted" = some none)
    (n_str : PySem.W.nsIn K mainGlobals "str" = some none)
    (n_sum : PySem.W.nsIn K mainGlobals "sum" = some none)
    (n_tuple : PySem.W.nsIn K mainGlobals "tuple" = some none)
    (n_zip : PySem.W.nsIn K mainGlobals "zip" = some none) :
    ∃ fd : FuncData, (∀ (s : Shared) (v : Value), BindsTo s fd ⟨[v], []⟩ [("_law_script", v)]) ∧ ∀ base : Heap, K.In base → base.Ns mainGlobals mg → FnOk l.prog w K mg base CX0 4 fa fd ["_law_script"] (spOf K aspLaw) := by
  have e := hfa.symm.trans (PySem.W.mg_of X G a_law)
  cases e
  have F_row_counts := fun_mk (st := s_row_counts) l_row_counts x_row_counts k_row_counts
  have B_row_counts := F_row_counts.binds (ps := ["a"]) fun _ _ _ _ _ _ us hl => match us, hl with | [_], _ => rfl
  have F_ring_counts := fun_mk (st := s_ring_counts) l_ring_counts x_ring_counts k_ring_counts
  have B_ring_counts := F_ring_counts.binds (ps := ["a"]) fun _ _ _ _ _ _ us hl => match us, hl with | [_], _ => rfl
  have F_begun_counts := fun_mk (st := s_begun_counts) l_begun_counts x_begun_counts k_begun_counts
  have B_begun_counts := F_begun_counts.binds (ps := ["a"]) fun _ _ _ _ _ _ us hl => match us, hl with | [_], _ => rfl
  have F_divisors := fun_mk (st := s_divisors) l_divisors x_divisors k_divisors
  have B_divisors := F_divisors.binds (ps := ["n"]) fun _ _ _ _ _ _ us hl => match us, hl with | [_], _ => rfl
  have F_sharing_none := fun_mk (st := s_sharing_none) l_sharing_none x_sharing_none k_sharing_none
  have B_sharing_none := F_sharing_none.binds (ps := ["k"]) fun _ _ _ _ _ _ us hl => match us, hl with | [_], _ => rfl
  have F_shared := fun_mk (st := s_shared) l_shared x_shared k_shared
  have B_shared := F_shared.binds (ps := ["one", "other"]) fun _ _ _ _ _ _ us hl => match us, hl with | [_, _], _ => rfl
  have F_w_whole := fun_mk (st := s_w_whole) l_w_whole x_w_whole k_w_whole
  have B_w_whole := F_w_whole.binds (ps := ["_law_found"]) fun _ _ _ _ _ _ us hl => match us, hl with | [_], _ => rfl
  have F_w_is_row := fun_mk (st := s_w_is_row) l_w_is_row x_w_is_row k_w_is_row
  have B_w_is_row := F_w_is_row.binds (ps := ["_law_found", "_law_due"]) fun _ _ _ _ _ _ us hl => match us, hl with | [_, _], _ => rfl
  have F_w_cell := fun_mk (st := s_w_cell) l_w_cell x_w_cell k_w_cell
  have B_w_cell := F_w_cell.binds (ps := ["_law_script", "_law_k"]) fun _ _ _ _ _ _ us hl => match us, hl with | [_, _], _ => rfl
  have F_w_rows_of := fun_mk (st := s_w_rows_of) l_w_rows_of x_w_rows_of k_w_rows_of
  have B_w_rows_of := F_w_rows_of.binds (ps := ["_law_a", "_law_size"]) fun _ _ _ _ _ _ us hl => match us, hl with | [_, _], _ => rfl
  have F_w_rings_of := fun_mk (st := s_w_rings_of) l_w_rings_of x_w_rings_of k_w_rings_of
  have B_w_rings_of := F_w_rings_of.binds (ps := ["_law_a", "_law_size"]) fun _ _ _ _ _ _ us hl => match us, hl with | [_, _], _ => rfl
  have F_law := fun_mk (st := s_law) l_law x_law k_law
  have B_law := F_law.binds (ps := ["_law_script"]) fun _ _ _ _ _ _ us hl => match us, hl with | [_], _ => rfl
  have T : TX K mg _ _ _ _ _ _ _ _ _ _ _ _ _ _ _ _ _ _ _ _ _ _ _ _ := ⟨F_row_counts, B_row_counts, PySem.W.mg_of X G a_row_counts, F_ring_counts, B_ring_counts, PySem.W.mg_of X G a_ring_counts, F_begun_counts, B_begun_counts, PySem.W.mg_of X G a_begun_counts, F_divisors, B_divisors, PySem.W.mg_of X G a_divisors, F_sharing_none, B_sharing_none, PySem.W.mg_of X G a_sharing_none, F_shared, B_shared, PySem.W.mg_of X G a_shared, F_w_whole, B_w_whole, PySem.W.mg_of X G a_w_whole, F_w_is_row, B_w_is_row, PySem.W.mg_of X G a_w_is_row, F_w_cell, B_w_cell, PySem.W.mg_of X G a_w_cell, F_w_rows_of, B_w_rows_of, PySem.W.mg_of X G a_w_rows_of, F_w_rings_of, B_w_rings_of, PySem.W.mg_of X G a_w_rings_of, F_law, B_law, PySem.W.mg_of X G a_law, PySem.W.mg_none_of X G n_all, PySem.W.mg_none_of X G n_any, PySem.W.mg_none_of X G n_bool, PySem.W.mg_none_of X G n_enumerate, PySem.W.mg_none_of X G n_int, PySem.W.mg_none_of X G n_isinstance, PySem.W.mg_none_of X G n_len, PySem.W.mg_none_of X G n_list, PySem.W.mg_none_of X G n_max, PySem.W.mg_none_of X G n_min, PySem.W.mg_none_of X G n_range, PySem.W.mg_none_of X G n_reversed, PySem.W.mg_none_of X G n_sorted, PySem.W.mg_none_of X G n_str, PySem.W.mg_none_of X G n_sum, PySem.W.mg_none_of X G n_tuple, PySem.W.mg_none_of X G n_zip⟩
  exact ⟨_, fun s v => .of_eq rfl, fun base _ _ => ok_law T⟩
theorem walk {l : PySem.W.OpenLaw} {q : Program} {loose : List Str} {XP : (Str → Option Value) → Heap → Prop} {YP : World → Heap → Prop} {d : DefRec} {K : Params → PySem.W.Frag} (hn : l.most = some 63) (hdf : d.params.defaults = [])
    (hY : ∀ (w : World) (h : Heap), YP w h → (K w.params).In h)
    (F : ∀ (w : World) (mg : Str → Option Value) (fa : Addr) (h : Heap), (K w.params).In h → h.Ns mainGlobals mg → mg d.name = some (.ref fa) →
      ∃ fd : FuncData, (∀ (s : Shared) (u : Value), BindsTo s fd ⟨[u], []⟩ [("_law_script", u)]) ∧ ∀ base : Heap, (K w.params).In base → base.Ns mainGlobals mg → FnOk l.prog w (K w.params) mg base CX0 4 fa fd ["_law_script"] (spOf (K w.params) aspLaw)) :
    PySem.W.WalkO q loose XP YP l.row.toRowW d [] (fun f vs => PySem.call f vs) :=
  L2.walk_of (n := 63) (k := 4) (x := "_law_script") (CX := fun _ => CX0) (sp := fun w => spOf (K w.params) aspLaw) hn (by decide) hdf ⟨rfl, by decide, by decide⟩ hY F (fun _ _ a ns hl hO hS => law_in hl hO hS) fun _ _ _ _ _ z => z
end My
open PySem PySem.W PyProof.Rows
set_option maxRecDepth 100000 in
set_option maxHeartbeats 0 in
theorem PySem.Challenge.cw_figurebook_k22_rings_gone_through_holds : PySem.Challenge.rw_figurebook_k22_rings_gone_through.Holds := by
  w_on; o_law; k_head; (case hw => w_witness2)
  k_fill
  refine My.walk (l := PySem.Challenge.rw_figurebook_k22_rings_gone_through) rfl rfl (fun w h Y => PySem.W.kIn_of Y) ?F
  case F =>
    intro w mg fa h KX G hmg
    refine' My.all_mk KX G hmg ?a_row_counts ?l_row_counts ?x_row_counts ?k_row_counts ?a_ring_counts ?l_ring_counts ?x_ring_counts ?k_ring_counts ?a_begun_counts ?l_begun_counts ?x_begun_counts ?k_begun_counts ?a_divisors ?l_divisors ?x_divisors ?k_divisors ?a_sharing_none ?l_sharing_none ?x_sharing_none ?k_sharing_none ?a_shared ?l_shared ?x_shared ?k_shared ?a_w_whole ?l_w_whole ?x_w_whole ?k_w_whole ?a_w_is_row ?l_w_is_row ?x_w_is_row ?k_w_is_row ?a_w_cell ?l_w_cell ?x_w_cell ?k_w_cell ?a_w_rows_of ?l_w_rows_of ?x_w_rows_of ?k_w_rows_of ?a_w_rings_of ?l_w_rings_of ?x_w_rings_of ?k_w_rings_of ?a_law ?l_law ?x_law ?k_law ?n_all ?n_any ?n_bool ?n_enumerate ?n_int ?n_isinstance ?n_len ?n_list ?n_max ?n_min ?n_range ?n_reversed ?n_sorted ?n_str ?n_sum ?n_tuple ?n_zip
    (case a_row_counts => k_is)
    (case l_row_counts => k_is)
    (case x_row_counts => k_is)
    (case k_row_counts => k_is)
    (case a_ring_counts => k_is)
    (case l_ring_counts => k_is)
    (case x_ring_counts => k_is)
    (case k_ring_counts => k_is)
    (case a_begun_counts => k_is)
    (case l_begun_counts => k_is)
    (case x_begun_counts => k_is)
    (case k_begun_counts => k_is)
    (case a_divisors => k_is)
    (case l_divisors => k_is)
    (case x_divisors => k_is)
    (case k_divisors => k_is)
    (case a_sharing_none => k_is)
    (case l_sharing_none => k_is)
    (case x_sharing_none => k_is)
    (case k_sharing_none => k_is)
    (case a_shared => k_is)
    (case l_shared => k_is)
    (case x_shared => k_is)
    (case k_shared => k_is)
    (case a_w_whole => k_is)
    (case l_w_whole => k_is)
    (case x_w_whole => k_is)
    (case k_w_whole => k_is)
    (case a_w_is_row => k_is)
    (case l_w_is_row => k_is)
    (case x_w_is_row => k_is)
    (case k_w_is_row => k_is)
    (case a_w_cell => k_is)
    (case l_w_cell => k_is)
    (case x_w_cell => k_is)
    (case k_w_cell => k_is)
    (case a_w_rows_of => k_is)
    (case l_w_rows_of => k_is)
    (case x_w_rows_of => k_is)
    (case k_w_rows_of => k_is)
    (case a_w_rings_of => k_is)
    (case l_w_rings_of => k_is)
    (case x_w_rings_of => k_is)
    (case k_w_rings_of => k_is)
    (case a_law => k_is)
    (case l_law => k_is)
    (case x_law => k_is)
    (case k_law => k_is)
    (case n_all => k_is)
    (case n_any => k_is)
    (case n_bool => k_is)
    (case n_enumerate => k_is)
    (case n_int => k_is)
    (case n_isinstance => k_is)
    (case n_len => k_is)
    (case n_list => k_is)
    (case n_max => k_is)
    (case n_min => k_is)
    (case n_range => k_is)
    (case n_reversed => k_is)
    (case n_sorted => k_is)
    (case n_str => k_is)
    (case n_sum => k_is)
    (case n_tuple => k_is)
    (case n_zip => k_is)

