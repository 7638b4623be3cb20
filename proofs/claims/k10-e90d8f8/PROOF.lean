import PyProof.Rows.All
import Wide.All
import OpenK.AllK
import Wide.FinOn
import Lean
import PyProof.EqAt
import PyProof.EqKinds
import PyProof.TupleCall
import PySem.Challenge.RW_figurebook_k10_sizes_and_keys
set_option Elab.async false
set_option linter.all false
set_option maxRecDepth 100000
/-! THE HAND LAYER, for ints, bools, texts, own classes, LISTS and tuples (index, slices, in, append, pop ..), calls, loops. Paste it whole ahead of your own text; what your proof does not reach may be deleted. -/
namespace L2
open PySem PySem.Spec PyProof.Rows

/-- a key: an int or a str -/
abbrev Key := Sum Int Str
def keyIs : Key → Value → Bool
  | .inl k, v => Value.isInt k v
  | .inr x, v => Value.isStrOf x v
def keyH (w : World) : Key → Int
  | .inl k => hashInt k
  | .inr x => hashStr w x
theorem keyIs_shape : ∀ {k : Key} {v : Value}, keyIs k v = true → (∃ i t, k = Sum.inl i ∧ v = Value.int i t) ∨ (∃ x t, k = Sum.inr x ∧ v = Value.str x t)
  | .inl i, v, h => by
    obtain ⟨t, e⟩ := Value.isInt_shape (k := i) (v := v) h
    exact .inl ⟨i, t, rfl, e⟩
  | .inr x, v, h => by
    obtain ⟨t, e⟩ := Value.isStrOf_shape (x := x) (v := v) h
    exact .inr ⟨x, t, rfl, e⟩
theorem key_ll (a b : Int) : decide ((Sum.inl a : Key) = Sum.inl b) = (a == b) := by
  by_cases e : a = b
  · subst e; simp
  · have h : ¬ (Sum.inl a : Key) = Sum.inl b := fun q => e (Sum.inl.inj q)
    rw [decide_eq_false h]
    exact (beq_eq_false_iff_ne.mpr e).symm
theorem key_rr (a b : Str) : decide ((Sum.inr a : Key) = Sum.inr b) = decide (a = b) := by
  by_cases e : a = b
  · subst e; simp
  · have h : ¬ (Sum.inr a : Key) = Sum.inr b := fun q => e (Sum.inr.inj q)
    rw [decide_eq_false h, decide_eq_false e]
theorem key_lr (a : Int) (b : Str) : decide ((Sum.inl a : Key) = Sum.inr b) = false := decide_eq_false (fun q => nomatch q)
theorem key_rl (a : Str) (b : Int) : decide ((Sum.inr a : Key) = Sum.inl b) = false := decide_eq_false (fun q => nomatch q)

def mixKind (prog : Program) (w : World) : PySem.KeyKind prog w Key where
  is := keyIs
  hash := keyH w
  inj := fun v a b ha hb => by
    rcases keyIs_shape ha with ⟨i, t, rfl, rfl⟩ | ⟨x, t, rfl, rfl⟩
    · rcases keyIs_shape hb with ⟨j, u, rfl, e⟩ | ⟨y, u, rfl, e⟩
      · injection e with e1 _; rw [e1]
      · exact nomatch e
    · rcases keyIs_shape hb with ⟨j, u, rfl, e⟩ | ⟨y, u, rfl, e⟩
      · exact nomatch e
      · injection e with e1 _; rw [e1]
  byValue := fun k v h => by
    rcases keyIs_shape h with ⟨i, t, rfl, rfl⟩ | ⟨x, t, rfl, rfl⟩ <;> rfl
  pyHash := fun hv h => by
    rcases keyIs_shape hv with ⟨i, t, rfl, rfl⟩ | ⟨x, t, rfl, rfl⟩
    · exact wpAny_pyHash_int h
    · exact wpAny_pyHash_str h
  eqBool := fun hu hv h => by
    rcases keyIs_shape hu with ⟨i, t, rfl, rfl⟩ | ⟨x, t, rfl, rfl⟩
    · rcases keyIs_shape hv with ⟨j, u, rfl, rfl⟩ | ⟨y, u, rfl, rfl⟩
      · rw [key_ll] at h; exact wpAny_eqBool_int h
      · rw [key_lr] at h; exact SeqAt.EqAt.int_str i t y u _ _ _ _ h
    · rcases keyIs_shape hv with ⟨j, u, rfl, rfl⟩ | ⟨y, u, rfl, rfl⟩
      · rw [key_rl] at h; exact SeqAt.EqAt.str_int x t j u _ _ _ _ h
      · rw [key_rr] at h; exact wpAny_eqBool_str h
  «strs» := fun k x t v h => by
    rcases keyIs_shape h with ⟨i, u, rfl, e⟩ | ⟨y, u, rfl, e⟩
    · exact nomatch e
    · injection e with e1 _
      subst e1
      cases v <;> rfl

end L2

namespace L2
open PySem PySem.Spec PyProof.Rows

/-- a value, without the heap -/
inductive V where
  | non | bl (b : Bool) | int (i : Int) | str (x : Str) | byt (b : Array UInt8) | flt (b : UInt64) | ref (a : Addr) | ty (n : String)
  deriving DecidableEq

def RelV : V → Value → Prop
  | .non, u => u = Value.none
  | .bl b, u => u = Value.bool b
  | .int i, u => ∃ t, u = Value.int i t
  | .str x, u => ∃ t, u = Value.str x t
  | .byt b, u => ∃ t, u = Value.bytes b t
  | .flt b, u => ∃ t, u = Value.float b t
  | .ref a, u => u = Value.ref a
  | .ty n, u => u = Value.type n

abbrev Vals : List V → List Value → Prop := Paired RelV
theorem Vals.length {xs : List V} {us : List Value} (r : Vals xs us) : xs.length = us.length := Paired.length r
theorem Vals.get : ∀ {xs : List V} {us : List Value} {i : Nat} {x : V}, Vals xs us → xs[i]? = some x → ∃ u, us[i]? = some u ∧ RelV x u
  | _, _, _, _, .nil, e => by simp at e
  | _, _, 0, _, .cons r _, e => by simp at e; subst e; exact ⟨_, rfl, r⟩
  | _, _, i + 1, x, .cons _ t, e => by
    obtain ⟨u, h1, h2⟩ := Vals.get (i := i) (x := x) t (by simpa using e)
    exact ⟨u, by simpa using h1, h2⟩
theorem Vals.set {x : V} {u : Value} (r : RelV x u) : ∀ {xs : List V} {us : List Value} (i : Nat), Vals xs us → Vals (xs.set i x) (us.set i u)
  | _, _, _, .nil => .nil
  | _, _, 0, .cons _ t => .cons r t
  | _, _, i + 1, .cons q t => .cons q (Vals.set r i t)
theorem Vals.append : ∀ {xs ys : List V} {us ws : List Value}, Vals xs us → Vals ys ws → Vals (xs ++ ys) (us ++ ws)
  | _, _, _, _, .nil, s => s
  | _, _, _, _, .cons r t, s => .cons r (Vals.append t s)
theorem Vals.take : ∀ {xs : List V} {us : List Value} (n : Nat), Vals xs us → Vals (xs.take n) (us.take n)
  | _, _, 0, _ => .nil
  | _, _, _ + 1, .nil => .nil
  | _, _, n + 1, .cons r t => .cons r (Vals.take n t)
theorem Vals.drop : ∀ {xs : List V} {us : List Value} (n : Nat), Vals xs us → Vals (xs.drop n) (us.drop n)
  | _, _, 0, r => r
  | _, _, _ + 1, .nil => .nil
  | _, _, n + 1, .cons _ t => Vals.drop n t
theorem Vals.none_of : ∀ {xs : List V} {us : List Value} {i : Nat}, Vals xs us → xs[i]? = none → us[i]? = none := fun {xs us i} r e => by
  have h1 := r.length
  have h2 : xs.length ≤ i := List.getElem?_eq_none_iff.mp e
  exact List.getElem?_eq_none_iff.mpr (by omega)

def RelO : Option V → Option Value → Prop
  | some v, some u => RelV v u
  | none, none => True
  | _, _ => False
def KV {κ : Type} : List (κ × V) → List (κ × Value) → Prop := Paired fun (p : κ × V) (q : κ × Value) => p.1 = q.1 ∧ RelV p.2 q.2

/-- a key of a dict (00_mix): an int or a text -/
def kV : Key → V
  | .inl i => .int i
  | .inr x => .str x

/-- what stands at a tracked address -/
inductive HO where
  /-- a list -/
  | lst (xs : List V)
  /-- a tuple (never changes) -/
  | tup (xs : List V)
  /-- a dict whose keys are ints and texts; one whose keys are tuples of ints and texts (the empty one is both) -/
  | dK (kvs : List (Key × V)) | dT (kvs : List (List Key × V))
  /-- a set of ints: its members, its size -/
  | set (S : Int → Bool) (n : Nat)
  /-- an instance of the class at C, its dict at dx, its attributes -/
  | ins (C dx : Addr) (fs : List (Str × V))
  /-- the dict of the instance at x -/
  | own (x : Addr)
  /-- the dict of an exception -/
  | xd (fs : List (Str × V))
  /-- a bound method, f of x -/
  | met (f x : Addr)
  /-- a range object lo, lo + 1, .. below hi -/
  | rng (lo hi : Int)
  /-- a thing that is known to the object (the script; a dict while a loop walks it): read, never written while it is so -/
  | frz (o : Obj) (u : HO)
  /-- a code object's table -/
  | tbl (ps : Array Value)
  /-- any other thing, by what is true of its one object (a def of one's own: SetO a S n := HO.ext fun h => ..) -/
  | ext (φ : Heap → Prop)

abbrev Hp := Addr → Option HO
def upd (H : Hp) (a : Addr) (o : HO) : Hp := fun b => if b = a then some o else H b
theorem upd_same {H : Hp} {a : Addr} {o : HO} : upd H a o a = some o := by unfold upd; rw [if_pos rfl]
theorem upd_ne {H : Hp} {a b : Addr} {o : HO} (h : b ≠ a) : upd H a o b = H b := by unfold upd; rw [if_neg h]
/-- two objects of different content stand apart -/
theorem ne_of {H : Hp} {a b : Addr} {o u : HO} (h : H a = some o) (h' : H b = some u) (d : o ≠ u) : a ≠ b := by
  intro e; subst e; rw [h] at h'; exact d (Option.some.inj h')
theorem ne_of_none {H : Hp} {a b : Addr} {o : HO} (h : H a = some o) (h' : H b = none) : a ≠ b := by
  intro e; subst e; rw [h] at h'; cases h'

section
variable (P : Program) (w : World)
def ObjOk (H : Hp) (h : Heap) (a : Addr) : HO → Prop
  | .lst xs => xs.length ≤ sizeLine ∧ ∃ (its : List Value) (n : Nat), Vals xs its ∧ h.get? a = some { cls := .type "list", data := .seq its.toArray n }
  | .tup xs => xs.length ≤ sizeLine ∧ ∃ its : List Value, Vals xs its ∧ IsTup h a its.toArray
  | .dK kvs => kvs.length ≤ sizeLine ∧ (a == sysModules) = false ∧ ∃ vs, KV kvs vs ∧ h.DictOf (mixKind P w) a vs
  | .dT kvs => kvs.length ≤ sizeLine ∧ (a == sysModules) = false ∧ ∃ xs : List (List Key × Addr × Value),
      Paired (fun (p : List Key × V) (q : List Key × Addr × Value) => p.1 = q.1 ∧ H q.2.1 = some (.tup (p.1.map kV)) ∧ RelV p.2 q.2.2) kvs xs ∧
      ∃ o es ep, h.get? a = some o ∧ o.ExactDict ∧ o.data = .dict es ep ∧ es.toList = xs.map (entryOfKey (tupleKind (mixKind P w))) ∧ (xs.map (·.1)).Nodup
  | .set S n => h.SetOf (intKind P w) a S n
  | .ins C dx fs => H dx = some (.own a) ∧ fs.length ≤ 1000 ∧ dx ≠ a ∧ h.get? a = some (PySem.W.instObj C dx) ∧
      ∃ mA, h.Ns1 dx mA ∧ (∀ f, RelO (fs.lookup f) (mA f)) ∧ PySem.Within mA (fs.map (·.1))
  | .own _ => ∃ o, h.get? a = some o
  | .xd fs => ∃ mA, h.Ns1 a mA ∧ ∀ f, RelO (fs.lookup f) (mA f)
  | .rng lo hi => ∃ t u v, h.get? a = some { cls := .type "range", data := .fields #[.int lo t, .int hi u, .int 1 v] }
  | .frz o u => h.get? a = some o ∧ ObjOk H h a u
  | .tbl ps => h.get? a = some { cls := .none, data := .fields ps }
  | .met f x => h.get? a = some (PySem.W.methodObj (.ref f) (.ref x))
  | .ext φ => φ h ∧ (∃ o, h.get? a = some o) ∧ ∀ h1 h2 : Heap, φ h1 → (∀ o, h1.get? a = some o → h2.get? a = some o) → φ h2
/-- the abstract heap is held -/
def HOk (H : Hp) (h : Heap) : Prop := ∀ a o, H a = some o → ObjOk P w H h a o
end

section
variable {P : Program} {w : World} {H H' : Hp} {h h' : Heap} {a : Addr} {o : HO}
theorem ObjOk.lt (x : ObjOk P w H h a o) : a < h.objs.size := by
  cases o with
  | lst xs => obtain ⟨_, _, _, _, e⟩ := x; exact Heap.lt_size e
  | tup xs => obtain ⟨_, _, _, p⟩ := x; exact p.lt
  | dK kvs => obtain ⟨_, _, _, _, o, _, _, e, _⟩ := x; exact Heap.lt_size e
  | dT kvs => obtain ⟨_, _, _, _, o, _, _, e, _⟩ := x; exact Heap.lt_size e
  | set S n => obtain ⟨o, _, _, _, e, _⟩ := x; exact Heap.lt_size e
  | ins C dx fs => obtain ⟨_, _, _, e, _⟩ := x; exact Heap.lt_size e
  | own y => obtain ⟨_, e⟩ := x; exact Heap.lt_size e
  | xd fs => obtain ⟨_, ⟨_, _, _, e, _⟩, _⟩ := x; exact Heap.lt_size e
  | rng lo hi => obtain ⟨_, _, _, e⟩ := x; exact Heap.lt_size e
  | frz ob u => obtain ⟨e, _⟩ := x; exact Heap.lt_size e
  | tbl ps => exact Heap.lt_size (show h.get? a = some _ from x)
  | met f y => exact Heap.lt_size (show h.get? a = some _ from x)
  | ext φ => obtain ⟨_, ⟨_, e⟩, _⟩ := x; exact Heap.lt_size e
theorem Paired.mapP {α β : Type} {F G : α → β → Prop} : ∀ {l₁ : List α} {l₂ : List β}, Paired F l₁ l₂ → (∀ a b, F a b → G a b) → Paired G l₁ l₂
  | _, _, .nil, _ => .nil
  | _, _, .cons r t, f => .cons (f _ _ r) (Paired.mapP t f)
/-- what an object's description leans on: its own object, its own dict, the tuples -/
theorem ObjOk.stay (x : ObjOk P w H h a o) (k : ∀ b u, (b = a ∨ H b = some (.own a)) → h.get? b = some u → h'.get? b = some u)
    (ho : ∀ b, H b = some (.own a) → H' b = some (.own a)) (ht : ∀ b xs, H b = some (.tup xs) → H' b = some (.tup xs)) : ObjOk P w H' h' a o := by
  induction o with
  | lst xs => obtain ⟨z, its, n, r, e⟩ := x; exact ⟨z, its, n, r, k _ _ (.inl rfl) e⟩
  | tup xs => obtain ⟨z, its, r, ob, e, c⟩ := x; exact ⟨z, its, r, ob, k _ _ (.inl rfl) e, c⟩
  | dK kvs => obtain ⟨z, y, vs, r, ob, es, ep, e, c⟩ := x; exact ⟨z, y, vs, r, ob, es, ep, k _ _ (.inl rfl) e, c⟩
  | dT kvs =>
    obtain ⟨z, y, xs, r, ob, es, ep, e, c⟩ := x
    exact ⟨z, y, xs, Paired.mapP r fun p q z => ⟨z.1, ht _ _ z.2.1, z.2.2⟩, ob, es, ep, k _ _ (.inl rfl) e, c⟩
  | set S n => obtain ⟨ob, es, ep, t, e, c⟩ := x; exact ⟨ob, es, ep, t, k _ _ (.inl rfl) e, c⟩
  | ins C dx fs =>
    obtain ⟨d, z, ne, e, mA, ⟨od, es, ep, e2, c⟩, r⟩ := x
    exact ⟨ho _ d, z, ne, k _ _ (.inl rfl) e, mA, ⟨od, es, ep, k _ _ (.inr d) e2, c⟩, r⟩
  | own y => obtain ⟨ob, e⟩ := x; exact ⟨ob, k _ _ (.inl rfl) e⟩
  | xd fs => obtain ⟨mA, ⟨od, es, ep, e, c⟩, r⟩ := x; exact ⟨mA, ⟨od, es, ep, k _ _ (.inl rfl) e, c⟩, r⟩
  | rng lo hi => obtain ⟨t, u, v, e⟩ := x; exact ⟨t, u, v, k _ _ (.inl rfl) e⟩
  | frz ob u ih => obtain ⟨e, q⟩ := x; exact ⟨k _ _ (.inl rfl) e, ih q⟩
  | tbl ps =>
    have e : h.get? a = some { cls := .none, data := .fields ps } := x
    show h'.get? a = some { cls := .none, data := .fields ps }
    exact k a _ (.inl rfl) e
  | met f y =>
    have e : h.get? a = some (PySem.W.methodObj (.ref f) (.ref y)) := x
    show h'.get? a = some (PySem.W.methodObj (.ref f) (.ref y))
    exact k a _ (.inl rfl) e
  | ext φ => obtain ⟨p, ⟨o, e⟩, st⟩ := x; exact ⟨st _ _ p fun o q => k _ _ (.inl rfl) q, ⟨o, k _ _ (.inl rfl) e⟩, st⟩
theorem HOk.lt (x : HOk P w H h) (e : H a = some o) : a < h.objs.size := (x a o e).lt
theorem HOk.fresh (x : HOk P w H h) (e : h.objs.size ≤ a) : H a = none := by
  cases q : H a with
  | none => rfl
  | some u => exact absurd (Nat.lt_of_lt_of_le (x.lt q) e) (Nat.lt_irrefl _)
/-- every object of the heap is kept -/
theorem HOk.kept (x : HOk P w H h) (k : ∀ b u, h.get? b = some u → h'.get? b = some u) : HOk P w H h' := fun a o e =>
  (x a o e).stay (fun b u _ q => k b u q) (fun _ q => q) fun _ _ q => q
/-- a new object is laid and tracked -/
theorem HOk.laid (x : HOk P w H h) (k : ∀ b u, h.get? b = some u → h'.get? b = some u) (hp : h.objs.size ≤ a) (new : ObjOk P w (upd H a o) h' a o) : HOk P w (upd H a o) h' := fun b u e => by
  have hn := x.fresh hp
  by_cases hb : b = a
  · subst hb; rw [upd_same] at e; cases e; exact new
  · rw [upd_ne hb] at e
    exact (x b u e).stay (fun c v _ q => k c v q) (fun c q => by rw [upd_ne (ne_of_none q hn)]; exact q) fun c xs q => by rw [upd_ne (ne_of_none q hn)]; exact q
end

/-- what may be read as u: it is u, or a known u -/
def Rd (H : Hp) (a : Addr) (u : HO) : Prop := H a = some u ∨ ∃ o, H a = some (.frz o u)
theorem Rd.of {H : Hp} {a : Addr} {u : HO} (h : H a = some u) : Rd H a u := .inl h
theorem Rd.ok {P : Program} {w : World} {H : Hp} {h : Heap} {a : Addr} {u : HO} (r : Rd H a u) (x : HOk P w H h) : ObjOk P w H h a u := by
  rcases r with r | ⟨o, r⟩
  · exact x a u r
  · obtain ⟨_, q⟩ := x a _ r
    exact q
/-- what may be written -/
def Mut : Option HO → Prop
  | some (.lst _) => True
  | some (.dK _) => True
  | some (.dT _) => True
  | some (.set _ _) => True
  | some (.ins _ _ _) => True
  | some (.ext _) => True
  | _ => False
section
variable {P : Program} {w : World} {H : Hp} {h h' : Heap} {x e : Addr} {o' : HO}
/-- the object at e is changed: x itself, or the dict of the instance x -/
theorem HOk.write (ok : HOk P w H h) (mu : Mut (H x)) (he : e = x ∨ H e = some (.own x)) (k : ∀ b u, b ≠ e → h.get? b = some u → h'.get? b = some u) (heo : ∃ u, h'.get? e = some u)
    (new : ObjOk P w (upd H x o') h' x o') : HOk P w (upd H x o') h' := fun b u q => by
  have nown : ∀ c y, H c = some (.own y) → c ≠ x := fun c y r z => by subst z; rw [r] at mu; exact mu
  have ntup : ∀ c xs, H c = some (.tup xs) → c ≠ x := fun c xs r z => by subst z; rw [r] at mu; exact mu
  by_cases hb : b = x
  · subst hb; rw [upd_same] at q; cases q; exact new
  · rw [upd_ne hb] at q
    by_cases hbe : b = e
    · have q' : H b = some (.own x) := by
        rcases he with z | z
        · exact absurd (hbe.trans z) hb
        · rw [hbe]; exact z
      rw [q] at q'; cases q'
      obtain ⟨v, hv⟩ := heo
      exact ⟨v, by rw [hbe]; exact hv⟩
    · refine (ok b u q).stay (fun c v hc r => k c v ?_ r) (fun c r => by rw [upd_ne (nown c b r)]; exact r) fun c xs r => by rw [upd_ne (ntup c xs r)]; exact r
      rcases hc with rfl | hc
      · exact hbe
      · rintro rfl
        rcases he with z | z
        · exact nown c b hc z
        · rw [hc] at z; cases z; exact hb rfl
end

/-! ### kept unless tracked; of the frames at fs (the callers') the slots may change (an exception that passes writes there); of the records at ex (iterators) nothing is said -/
structure Un (fs ex : List Addr) (H H' : Hp) (h h' : Heap) : Prop where
  keep : ∀ b o, h.get? b = some o → H b = none → b ∉ fs → b ∉ ex → h'.get? b = some o
  slot : ∀ b o, h.get? b = some o → H b = none → b ∈ fs → b ∉ ex → ∃ sl, h'.get? b = some { o with slots := sl }
  free : ∀ b o, h.get? b = some o → H b = none → b ∉ ex → H' b = none
  there : ∀ b o, h.get? b = some o → b ∉ ex → ∃ o', h'.get? b = some o'
  tups : ∀ b xs, H b = some (.tup xs) → H' b = some (.tup xs)
  frzs : ∀ b o u, H b = some (.frz o u) → H' b = some (.frz o u)
  tbls : ∀ b ps, H b = some (.tbl ps) → ∃ more, H' b = some (.tbl (ps ++ more))
section
variable {fs fs' ex ex' : List Addr} {H H1 H2 : Hp} {h h1 h2 h' : Heap} {a x e : Addr} {o : HO}
theorem Un.any (u : Un fs ex H H1 h h1) {b : Addr} {ob : Obj} (q : h.get? b = some ob) (n : H b = none) (hx : b ∉ ex) : ∃ sl, h1.get? b = some { ob with slots := sl } := by
  by_cases hb : b ∈ fs
  · exact u.slot b ob q n hb hx
  · exact ⟨ob.slots, u.keep b ob q n hb hx⟩
theorem Un.trans (a : Un fs ex H H1 h h1) (b : Un fs ex H1 H2 h1 h2) : Un fs ex H H2 h h2 where
  keep := fun c ob q n hc hx => b.keep c ob (a.keep c ob q n hc hx) (a.free c ob q n hx) hc hx
  slot := fun c ob q n hc hx => by
    obtain ⟨sl, e1⟩ := a.slot c ob q n hc hx
    obtain ⟨sl', e2⟩ := b.slot c _ e1 (a.free c ob q n hx) hc hx
    exact ⟨sl', e2⟩
  free := fun c ob q n hx => by
    obtain ⟨o', e1⟩ := a.there c ob q hx
    exact b.free c o' e1 (a.free c ob q n hx) hx
  there := fun c ob q hx => by
    obtain ⟨o', e1⟩ := a.there c ob q hx
    exact b.there c o' e1 hx
  tups := fun c xs q => b.tups c xs (a.tups c xs q)
  frzs := fun c ob xs q => b.frzs c ob xs (a.frzs c ob xs q)
  tbls := fun c ps q => by
    obtain ⟨m1, e1⟩ := a.tbls c ps q
    obtain ⟨m2, e2⟩ := b.tbls c _ e1
    exact ⟨m1 ++ m2, by rw [e2, Array.append_assoc]⟩
theorem Un.kept (k : ∀ b u, h.get? b = some u → h'.get? b = some u) : Un fs ex H H h h' :=
  ⟨fun b ob q _ _ _ => k b ob q, fun b ob q _ _ _ => ⟨ob.slots, k b ob q⟩, fun _ _ _ n _ => n, fun b ob q _ => ⟨ob, k b ob q⟩, fun _ _ q => q, fun _ _ _ q => q, fun _ ps q => ⟨#[], by rw [q]; simp⟩⟩
theorem Un.refl : Un fs ex H H h h := Un.kept fun _ _ q => q
theorem Un.laid (k : ∀ b u, h.get? b = some u → h'.get? b = some u) (hp : h.objs.size ≤ a) (hn : H a = none) : Un fs ex H (upd H a o) h h' where
  keep := fun b u q _ _ _ => k b u q
  slot := fun b u q _ _ _ => ⟨u.slots, k b u q⟩
  free := fun b u q n _ => by rw [upd_ne (Nat.ne_of_lt (Nat.lt_of_lt_of_le (Heap.lt_size q) hp))]; exact n
  there := fun b u q _ => ⟨u, k b u q⟩
  tups := fun b xs q => by rw [upd_ne (ne_of_none q hn)]; exact q
  frzs := fun b u xs q => by rw [upd_ne (ne_of_none q hn)]; exact q
  tbls := fun b ps q => ⟨#[], by rw [upd_ne (ne_of_none q hn), q]; simp⟩
theorem Un.write (mu : Mut (H x)) (he : e = x ∨ H e = some (.own x)) (k : ∀ b u, b ≠ e → h.get? b = some u → h'.get? b = some u) (heo : ∃ u, h'.get? e = some u) : Un fs ex H (upd H x o) h h' := by
  have hx : ∀ b, H b = none → b ≠ x := fun b n z => by subst z; rw [n] at mu; exact mu
  have hb : ∀ b, H b = none → b ≠ e := fun b n z => by
    subst z
    rcases he with r | r
    · exact hx b n r
    · rw [n] at r; cases r
  have hm : ∀ b u, H b = some u → ¬ Mut (some u) → b ≠ x := fun b u q nm z => by subst z; rw [q] at mu; exact nm mu
  refine ⟨fun b u q n _ _ => k b u (hb b n) q, fun b u q n _ _ => ⟨u.slots, k b u (hb b n) q⟩, fun b u q n _ => by rw [upd_ne (hx b n)]; exact n, fun b u q _ => ?_,
    fun b xs q => by rw [upd_ne (hm b _ q fun z => z)]; exact q, fun b u xs q => by rw [upd_ne (hm b _ q fun z => z)]; exact q, fun b ps q => ⟨#[], by rw [upd_ne (hm b _ q fun z => z), q]; simp⟩⟩
  by_cases hbe : b = e
  · subst hbe; exact heo
  · exact ⟨u, k b u hbe q⟩
theorem Un.mono (u : Un fs ex H H1 h h1) (hs : ∀ b ∈ fs, b ∈ fs') (hx : ∀ b ∈ ex, b ∈ ex') : Un fs' ex' H H1 h h1 :=
  ⟨fun b ob q n hb he => u.keep b ob q n (fun z => hb (hs b z)) fun z => he (hx b z), fun _ _ q n _ he => u.any q n fun z => he (hx _ z), fun b ob q n he => u.free b ob q n fun z => he (hx b z), fun b ob q he => u.there b ob q fun z => he (hx b z), u.tups, u.frzs, u.tbls⟩
end

/-! ### the heap without what is tracked -/
def trk (h : Heap) (H : Hp) : List Addr := (List.range h.objs.size).filter fun a => (H a).isSome
def hidT (h : Heap) (H : Hp) : Heap := PySem.W.hideAll h (trk h H)
theorem hidT_size (h : Heap) (H : Hp) : (hidT h H).objs.size = h.objs.size := PySem.W.hideAll_size _ _
theorem hidT_get {h : Heap} {H : Hp} {b : Addr} {o : Obj} (e : h.get? b = some o) (n : H b = none) : (hidT h H).get? b = some o :=
  PySem.W.hideAll_get _ e fun hm => by
    have q : (H b).isSome = true := (List.mem_filter.mp hm).2
    rw [n] at q; simp at q
theorem of_hidT {h : Heap} {H : Hp} {b : Addr} {o : Obj} (e : (hidT h H).get? b = some o) : h.get? b = some o ∧ H b = none := by
  have e' : h.get? b = some o := PySem.W.of_hideAll (trk h H) e
  refine ⟨e', ?_⟩
  cases q : H b with
  | none => rfl
  | some x =>
    have hm : b ∈ trk h H := List.mem_filter.mpr ⟨List.mem_range.mpr (Heap.lt_size e'), by simp [q]⟩
    have z : (hidT h H).get? b = none := PySem.W.hideAll_none (trk h H) hm
    rw [z] at e; cases e

/-! ### OpenK's ledger, filled with every new object but one -/
def allNews (g h : Heap) (L : Addr) : List (Addr × Obj) := (List.range h.objs.size).filterMap fun a => if a = L ∨ (g.get? a).isSome = true then none else (h.get? a).map fun o => (a, o)
def rest (g h : Heap) (L d : Addr) : List (Addr × Obj) := (allNews g h L).filter fun p => decide (p.1 ≠ d)
end L2

namespace L2
open PySem PySem.Spec PyProof.Rows

/-- the module's facts, over the base: the heap at the law's entry without what is tracked there -/
structure Mod (K : PySem.W.Frag) (mg : Str → Option Value) (base : Heap) : Prop where
  kin : K.In base
  glob : base.Ns mainGlobals mg
  blt : ∃ mb, base.Ns builtinsNs mb ∧ ∀ x : Str, x ≠ "__name__" → mb x = bootBuiltins x
  nolimit : base.NoLimit

/-- the context: a def's body (or a comprehension's block) running. base: fixed through the whole law; s₀, H₀: the entry; outer: the frames whose slots others may change (a def's callers); stack: all frames that run;
   ex: iterators that were made ahead of the entry and are walked here (a comprehension's); fn: the names whose cells were made at the entry (a def: all; a comprehension's block: its own); calm: not within an except suite; pn: pins that every state bears; xe: what is wanted of an exception that leaves the code -/
structure Cx where
  prog : Program
  w : World
  K : PySem.W.Frag
  mg : Str → Option Value
  base : Heap
  A : Around
  N : List Str
  s₀ : Shared
  H₀ : Hp
  env : Env
  outer : List Env
  stack : List Env
  ex : List Addr
  fn : Str → Bool
  calm : Bool
  pn : List (Addr × Obj)
  xe : Value → Shared → Prop
/-- the callers' frames -/
def frs (l : List Env) : List Addr := l.filterMap (·.frame)
abbrev Cx.fs (X : Cx) : List Addr := frs X.outer

def Vis (sc : Scope) (x : Str) : Prop := sc.names.lookup x = some .local ∨ sc.names.lookup x = some .cell ∨ sc.names.lookup x = some .free
def Loc (sc : Scope) (x : Str) : Prop := sc.names.lookup x = some .local ∨ sc.names.lookup x = some .cell
def Look (env : Env) (h : Heap) (m : Str → Option Value) (x : Str) (u : Value) : Prop :=
  (env.kindOf x = some .local ∧ m x = some u) ∨ ((env.kindOf x = some .cell ∨ env.kindOf x = some .free) ∧ ∃ c, env.cells.lookup x = some c ∧ h.IsCell c (some u))

structure Cx.Ok (X : Cx) : Prop where
  mod : Mod X.K X.mg X.base
  kind : X.env.scope.kind = .function
  glob : X.env.globals = mainGlobals
  blt : X.env.builtins = builtinsNs
  above : X.s₀.heap.objs.size ≤ X.env.locals
  inj : ∀ x y c, X.env.cells.lookup x = some c → X.env.cells.lookup y = some c → x = y
  has : ∀ x, (X.env.kindOf x = some .cell ∨ X.env.kindOf x = some .free) → ∃ c, X.env.cells.lookup x = some c
  cab : ∀ x c, X.fn x = true → X.env.cells.lookup x = some c → X.s₀.heap.objs.size ≤ c
  hd : X.calm = true → X.A.handled = none
  frames : X.A.frames = some X.stack
  stk : X.stack = X.outer ∨ (X.stack = X.env :: X.outer ∧ X.env.frame = some X.env.locals)
  exf : ∀ b ∈ X.ex, b ≠ X.env.locals ∧ ∀ x c, X.env.cells.lookup x = some c → c ≠ b
  bs : ∀ b o, X.base.get? b = some o → X.s₀.heap.get? b = some o ∧ X.H₀ b = none
  bsz : X.base.objs.size ≤ X.s₀.heap.objs.size
  noex : ∀ b o, X.base.get? b = some o → b ∉ X.ex
  exfs : ∀ b ∈ X.ex, b ∉ X.fs
  funs : X.s₀.heap.FunFrames X.base X.outer
  frf : ∀ b ∈ X.fs, X.H₀ b = none

structure Inv (X : Cx) (pins : List (Addr × Obj)) (σ : List (Option V)) (H : Hp) (s : Shared) : Prop where
  ok : X.Ok
  os : s.os = X.s₀.os
  bare : AllBare s.gens
  base : Un X.fs X.ex X.H₀ H X.s₀.heap s.heap
  loc : ∃ m, s.heap.Ns X.env.locals m ∧ ∀ (i : Nat) (x : Str) (v : V), X.N[i]? = some x → σ[i]? = some (some v) → Vis X.env.scope x → ∃ u, RelV v u ∧ Look X.env s.heap m x u
  cell : ∀ x c, X.env.cells.lookup x = some c → ∃ v, s.heap.IsCell c v
  free : H X.env.locals = none
  freeC : ∀ x c, X.env.cells.lookup x = some c → H c = none
  pin : ∀ p ∈ X.pn ++ pins, s.heap.get? p.1 = some p.2 ∧ H p.1 = none ∧ p.1 ≠ X.env.locals ∧ p.1 ∉ X.fs ∧ ∀ v, p.2.data ≠ .cell v
  hok : HOk X.prog X.w H s.heap
  len : σ.length = X.N.length

section
variable {X : Cx} {pins : List (Addr × Obj)} {σ : List (Option V)} {H H' : Hp} {s : Shared} {h' : Heap}

theorem Cx.Ok.nofr (ok : X.Ok) {b : Addr} {o : Obj} (e : X.base.get? b = some o) : b ∉ X.fs := fun hb => by
  have := (ok.funs.mem hb).1
  rw [e] at this; cases this
theorem Inv.bs (I : Inv X pins σ H s) : ∀ b o, X.base.get? b = some o → s.heap.get? b = some o ∧ H b = none := fun b o e =>
  ⟨I.base.keep b o (I.ok.bs b o e).1 (I.ok.bs b o e).2 (I.ok.nofr e) (I.ok.noex b o e), I.base.free b o (I.ok.bs b o e).1 (I.ok.bs b o e).2 (I.ok.noex b o e)⟩
theorem Inv.bk (I : Inv X pins σ H s) : ∀ b o, X.base.get? b = some o → s.heap.get? b = some o := fun b o e => (I.bs b o e).1
theorem Inv.mod (I : Inv X pins σ H s) : Mod X.K X.mg X.base := I.ok.mod
theorem Inv.kIn (I : Inv X pins σ H s) : X.K.In s.heap := I.ok.mod.kin.keeps I.bk
theorem Inv.nolimit (I : Inv X pins σ H s) : s.heap.NoLimit := I.ok.mod.nolimit.keeps I.bk
/-- the frame over the base: for OpenK's rules (K.In X.base is I.mod.kin) -/
theorem Inv.fr (I : Inv X pins σ H s) : ∃ m, Fr X.base X.env.locals s.heap m :=
  let ⟨m, hn, _⟩ := I.loc
  ⟨m, hn, I.bk, Nat.le_trans I.ok.bsz I.ok.above⟩
theorem Inv.lt (I : Inv X pins σ H s) : X.env.locals < s.heap.objs.size := let ⟨_, hn, _⟩ := I.loc; hn.lt
theorem Inv.sz (I : Inv X pins σ H s) : X.s₀.heap.objs.size ≤ s.heap.objs.size := Nat.le_trans I.ok.above (Nat.le_of_lt I.lt)
theorem Inv.nofs (I : Inv X pins σ H s) {a : Addr} (h : s.heap.objs.size ≤ a) : a ∉ X.fs := fun hb => by
  obtain ⟨_, o, ho, _⟩ := I.ok.funs.mem hb
  exact absurd (Nat.lt_of_lt_of_le (Heap.lt_size ho) (Nat.le_trans I.sz h)) (Nat.lt_irrefl _)
theorem Inv.cne (I : Inv X pins σ H s) : ∀ x c, X.env.cells.lookup x = some c → c ≠ X.env.locals := fun x c e z => by
  obtain ⟨v, o, ho, hd⟩ := I.cell x c e
  obtain ⟨m, ⟨o', es, ep, ho', hd', _⟩, _⟩ := I.loc
  rw [z, ho'] at ho; cases ho; rw [hd'] at hd; cases hd
theorem Inv.funs (I : Inv X pins σ H s) : s.heap.FunFrames X.base X.outer := by
  have all : ∀ (l : List Env), (∀ b ∈ frs l, b ∈ X.fs) → X.s₀.heap.FunFrames X.base l → s.heap.FunFrames X.base l := by
    intro l
    induction l with
    | nil => intro _ _; trivial
    | cons env r ih =>
      intro hs hl
      obtain ⟨hk, ⟨L, o, hf, hn, ho, hd⟩, hr⟩ := hl
      have hL : L ∈ X.fs := hs L (by unfold frs; rw [List.filterMap_cons, hf]; exact List.mem_cons_self)
      obtain ⟨sl, e⟩ := I.base.slot L o ho (I.ok.frf L hL) hL fun z => I.ok.exfs L z hL
      exact ⟨hk, ⟨L, _, hf, hn, e, hd⟩, ih (fun b hb => hs b (by unfold frs; rw [List.filterMap_cons, hf]; exact List.mem_cons_of_mem _ hb)) hr⟩
  exact all X.outer (fun _ hb => hb) I.ok.funs

/-- the frames that run, for a call -/
theorem Inv.stack (I : Inv X pins σ H s) : s.heap.FunFrames X.base X.stack := by
  rcases I.ok.stk with e | ⟨e, hf⟩
  · rw [e]; exact I.funs
  · rw [e]
    obtain ⟨m, hn, _⟩ := I.loc
    refine .cons (by rw [I.ok.kind]; decide) hf hn ?_ I.funs
    exact Heap.get?_none_of_le (Nat.le_trans I.ok.bsz I.ok.above)
theorem Inv.stkSub (I : Inv X pins σ H s) : ∀ b ∈ frs X.stack, b ∈ X.env.locals :: X.fs := fun b hb => by
  rcases I.ok.stk with e | ⟨e, hf⟩
  · rw [e] at hb; exact List.mem_cons_of_mem _ hb
  · rw [e] at hb
    unfold frs at hb
    rw [List.filterMap_cons, hf] at hb
    exact hb
theorem Inv.stkFree (I : Inv X pins σ H s) : ∀ b ∈ frs X.stack, H b = none := fun b hb => by
  rcases List.mem_cons.mp (I.stkSub b hb) with e | hb
  · rw [e]; exact I.free
  · obtain ⟨_, o, ho, _⟩ := I.ok.funs.mem hb
    exact I.base.free b o ho (I.ok.frf b hb) fun z => I.ok.exfs b z hb

/-- THE STEP: the untracked objects but the frame and the records at ch are kept (the callers' frames up to slots), the frame's map is kept, the new abstract heap is held -/
theorem Inv.step {g' : Array GenState} {t' : Nat} {d' : Drawn} {ch : List Addr} (I : Inv X pins σ H s)
    (hch : ∀ b ∈ ch, (b ∈ X.ex ∨ X.s₀.heap.objs.size ≤ b) ∧ b ≠ X.env.locals ∧ (∀ x c, X.env.cells.lookup x = some c → c ≠ b) ∧ ∀ p ∈ X.pn ++ pins, p.1 ≠ b)
    (keep : ∀ b o, b ≠ X.env.locals → b ∉ X.fs → b ∉ ch → s.heap.get? b = some o → H b = none → h'.get? b = some o)
    (slot : ∀ b o, b ≠ X.env.locals → b ∈ X.fs → b ∉ ch → s.heap.get? b = some o → H b = none → ∃ sl, h'.get? b = some { o with slots := sl }) (free : ∀ b o, b ∉ ch → s.heap.get? b = some o → H b = none → H' b = none)
    (there : ∀ b o, b ∉ ch → s.heap.get? b = some o → ∃ o', h'.get? b = some o')
    (tups : ∀ b xs, H b = some (.tup xs) → H' b = some (.tup xs)) (frzs : ∀ b o u, H b = some (.frz o u) → H' b = some (.frz o u)) (tbls : ∀ b ps, H b = some (.tbl ps) → ∃ more, H' b = some (.tbl (ps ++ more)))
    (ns : ∀ m, s.heap.Ns X.env.locals m → h'.Ns X.env.locals m) (hok : HOk X.prog X.w H' h') (hg : AllBare g') :
    Inv X pins σ H' { s with heap := h', gens := g', drawn := d', toks := t' } := by
  have neL : ∀ b o, X.s₀.heap.get? b = some o → b ≠ X.env.locals := fun b o e => Nat.ne_of_lt (Nat.lt_of_lt_of_le (Heap.lt_size e) I.ok.above)
  have neC : ∀ b o, X.s₀.heap.get? b = some o → b ∉ X.ex → b ∉ ch := fun b o e hx hb => by
    rcases (hch b hb).1 with z | z
    · exact hx z
    · exact absurd (Nat.lt_of_lt_of_le (Heap.lt_size e) z) (Nat.lt_irrefl _)
  have cellK : ∀ x c, X.env.cells.lookup x = some c → ∀ v, s.heap.IsCell c v → h'.IsCell c v := fun x c e v ⟨o, ho, hd⟩ => by
    have nch : c ∉ ch := fun z => (hch c z).2.2.1 x c e rfl
    by_cases hc : c ∈ X.fs
    · obtain ⟨sl, q⟩ := slot c o (I.cne x c e) hc nch ho (I.freeC x c e)
      exact ⟨_, q, hd⟩
    · exact ⟨o, keep c o (I.cne x c e) hc nch ho (I.freeC x c e), hd⟩
  refine ⟨I.ok, I.os, hg, ⟨fun b o e n hb hx => ?_, fun b o e n hb hx => ?_, fun b o e n hx => ?_, fun b o e hx => ?_, fun b xs e => tups b xs (I.base.tups b xs e), fun b o xs e => frzs b o xs (I.base.frzs b o xs e), fun b ps e => ?_⟩, ?_, fun x c e => ?_, ?_, fun x c e => ?_, fun p hp => ?_, hok, I.len⟩
  · exact keep b o (neL b o e) hb (neC b o e hx) (I.base.keep b o e n hb hx) (I.base.free b o e n hx)
  · obtain ⟨sl, e1⟩ := I.base.slot b o e n hb hx
    obtain ⟨sl', e2⟩ := slot b _ (neL b o e) hb (neC b o e hx) e1 (I.base.free b o e n hx)
    exact ⟨sl', e2⟩
  · obtain ⟨o', e1⟩ := I.base.there b o e hx
    exact free b o' (neC b o e hx) e1 (I.base.free b o e n hx)
  · obtain ⟨o', e1⟩ := I.base.there b o e hx
    exact there b o' (neC b o e hx) e1
  · obtain ⟨m1, e1⟩ := I.base.tbls b ps e
    obtain ⟨m2, e2⟩ := tbls b _ e1
    exact ⟨m1 ++ m2, by rw [e2, Array.append_assoc]⟩
  · obtain ⟨m, hn, hl⟩ := I.loc
    refine ⟨m, ns m hn, fun i x v e1 e2 e3 => ?_⟩
    obtain ⟨u, r, l⟩ := hl i x v e1 e2 e3
    refine ⟨u, r, ?_⟩
    rcases l with l | ⟨k, c, e, z⟩
    · exact .inl l
    · exact .inr ⟨k, c, e, cellK x c e _ z⟩
  · obtain ⟨v, z⟩ := I.cell x c e
    exact ⟨v, cellK x c e v z⟩
  · obtain ⟨m, ⟨o, _, _, ho, _⟩, _⟩ := I.loc
    exact free _ o (fun z => (hch _ z).2.1 rfl) ho I.free
  · obtain ⟨v, o, ho, hd⟩ := I.cell x c e
    exact free c o (fun z => (hch c z).2.2.1 x c e rfl) ho (I.freeC x c e)
  · obtain ⟨e, n, ne, nf, d⟩ := I.pin p hp
    have nch : p.1 ∉ ch := fun z => (hch p.1 z).2.2.2 p hp rfl
    exact ⟨keep p.1 p.2 ne nf nch e n, free p.1 p.2 nch e n, ne, nf, d⟩
/-- .. where the frame's own object is kept too -/
theorem Inv.un {t' : Nat} (I : Inv X pins σ H s) (u : Un X.fs [] H H' s.heap h') (hok : HOk X.prog X.w H' h') : Inv X pins σ H' { s with heap := h', toks := t' } := by
  obtain ⟨m, ⟨o, es, ep, ho, r⟩, _⟩ := id I.loc
  obtain ⟨sl, hL⟩ := u.any ho I.free (by simp)
  exact I.step (g' := s.gens) (d' := s.drawn) (ch := []) (fun _ z => nomatch z) (fun b o _ hb _ e n => u.keep b o e n hb (by simp)) (fun b o _ hb _ e n => u.slot b o e n hb (by simp)) (fun b o _ e n => u.free b o e n (by simp)) (fun b o _ e => u.there b o e (by simp)) u.tups u.frzs u.tbls (fun m' hm => by
    obtain ⟨o', es', ep', ho', r'⟩ := hm
    rw [ho] at ho'; cases ho'
    exact ⟨_, es', ep', hL, r'⟩) hok I.bare
/-- behind a call (or a comprehension's block): the slots of this frame may have changed too, the records at ch may have turned -/
theorem Inv.call {g' : Array GenState} {t' : Nat} {d' : Drawn} {ch : List Addr} (I : Inv X pins σ H s) (u : Un (frs X.stack) ch H H' s.heap h') (hok : HOk X.prog X.w H' h') (hg : AllBare g')
    (hch : ∀ b ∈ ch, (b ∈ X.ex ∨ X.s₀.heap.objs.size ≤ b) ∧ b ≠ X.env.locals ∧ (∀ x c, X.env.cells.lookup x = some c → c ≠ b) ∧ ∀ p ∈ X.pn ++ pins, p.1 ≠ b) :
    Inv X pins σ H' { s with heap := h', gens := g', drawn := d', toks := t' } := by
  obtain ⟨m, ⟨o, es, ep, ho, r⟩, _⟩ := id I.loc
  obtain ⟨sl, hL⟩ := u.any ho I.free fun z => (hch _ z).2.1 rfl
  exact I.step (ch := ch) hch (fun b o hL hb hc e n => u.keep b o e n (fun z => (List.mem_cons.mp (I.stkSub b z)).elim hL hb) hc) (fun b o _ _ hc e n => u.any e n hc) (fun b o hc e n => u.free b o e n hc) (fun b o hc e => u.there b o e hc) u.tups u.frzs u.tbls (fun m' hm => by
    obtain ⟨o', es', ep', ho', r'⟩ := hm
    rw [ho] at ho'; cases ho'
    exact ⟨_, es', ep', hL, r'⟩) hok hg
/-- an untracked record of ours (an iterator) has turned -/
theorem Inv.turned {t' : Nat} {it : Addr} (I : Inv X pins σ H s) (k : ∀ b o, b ≠ it → s.heap.get? b = some o → h'.get? b = some o) (hn : H it = none) (hL : it ≠ X.env.locals)
    (h1 : it ∈ X.ex ∨ X.s₀.heap.objs.size ≤ it) (h2 : ∀ x c, X.env.cells.lookup x = some c → c ≠ it) (h3 : ∀ p ∈ X.pn ++ pins, p.1 ≠ it) : Inv X pins σ H { s with heap := h', toks := t' } := by
  have nit : ∀ b u, H b = some u → b ≠ it := fun b u e z => by rw [z, hn] at e; cases e
  refine I.step (g' := s.gens) (d' := s.drawn) (ch := [it]) (fun b hb => ?_) (fun b o _ _ hc e _ => k b o (fun z => hc (by simp [z])) e) (fun b o _ _ hc e _ => ⟨o.slots, k b o (fun z => hc (by simp [z])) e⟩) (fun _ _ _ _ n => n)
    (fun b o hc e => ⟨o, k b o (fun z => hc (by simp [z])) e⟩) (fun _ _ e => e) (fun _ _ _ e => e) (fun b ps e => ⟨#[], by rw [e]; simp⟩) (fun m hm => ?_) (fun b u e => ?_) I.bare
  · have e : b = it := by simpa using hb
    subst e
    exact ⟨h1, hL, h2, h3⟩
  · obtain ⟨o, es, ep, ho, r⟩ := hm
    exact ⟨o, es, ep, k _ o (Ne.symm hL) ho, r⟩
  · refine (I.hok b u e).stay (fun c v hc q => k c v ?_ q) (fun _ q => q) fun _ _ q => q
    rcases hc with z | z
    · rw [z]; exact nit b u e
    · exact nit c _ z
theorem Inv.tok (I : Inv X pins σ H s) (t : Nat) : Inv X pins σ H { s with toks := t } := I.un (h' := s.heap) (t' := t) Un.refl I.hok
/-- all objects kept -/
theorem Inv.kept {t' : Nat} (I : Inv X pins σ H s) (k : ∀ b u, s.heap.get? b = some u → h'.get? b = some u) : Inv X pins σ H { s with heap := h', toks := t' } := I.un (Un.kept k) (I.hok.kept k)
/-- a new object laid and tracked -/
theorem Inv.laid {a : Addr} {o : HO} {t' : Nat} (I : Inv X pins σ H s) (k : ∀ b u, s.heap.get? b = some u → h'.get? b = some u) (hp : s.heap.objs.size ≤ a) (new : ObjOk X.prog X.w (upd H a o) h' a o) :
    Inv X pins σ (upd H a o) { s with heap := h', toks := t' } := I.un (Un.laid k hp (I.hok.fresh hp)) (I.hok.laid k hp new)
/-- an object written -/
theorem Inv.write {x e : Addr} {o : HO} {t' : Nat} (I : Inv X pins σ H s) (mu : Mut (H x)) (he : e = x ∨ H e = some (.own x)) (k : ∀ b u, b ≠ e → s.heap.get? b = some u → h'.get? b = some u) (heo : ∃ u, h'.get? e = some u)
    (new : ObjOk X.prog X.w (upd H x o) h' x o) : Inv X pins σ (upd H x o) { s with heap := h', toks := t' } := I.un (Un.write mu he k heo) (I.hok.write mu he k heo new)
theorem Inv.pins_of {pins' : List (Addr × Obj)} (I : Inv X pins σ H s) (h : ∀ p ∈ pins', s.heap.get? p.1 = some p.2 ∧ H p.1 = none ∧ p.1 ≠ X.env.locals ∧ p.1 ∉ X.fs ∧ ∀ v, p.2.data ≠ .cell v) : Inv X pins' σ H s :=
  ⟨I.ok, I.os, I.bare, I.base, I.loc, I.cell, I.free, I.freeC, fun p hp => (List.mem_append.mp hp).elim (fun z => I.pin p (List.mem_append_left _ z)) (h p), I.hok, I.len⟩

theorem nodup_ix {N : List Str} (hN : N.Nodup) {i j : Nat} {x : Str} (a : N[i]? = some x) (b : N[j]? = some x) : i = j := by
  obtain ⟨h1, e1⟩ := List.getElem?_eq_some_iff.mp a
  obtain ⟨h2, e2⟩ := List.getElem?_eq_some_iff.mp b
  exact (List.getElem_inj hN).mp (e1.trans e2.symm)

/-- a name is stored; what changed -/
theorem store_ok2 {M : Model} {A : Around} {E : Value → Shared → Prop} {i : Nat} {x : Str} {v : V} {u : Value} {Q : Unit → Shared → Prop} (I : Inv X pins σ H s) (hN : X.N.Nodup) (hi : X.N[i]? = some x) (hx : Loc X.env.scope x) (r : RelV v u)
    (h : ∀ s', Inv X pins (σ.set i (some v)) H s' → (∃ a, Heap.SameBut a s.heap s'.heap ∧ (a = X.env.locals ∨ X.env.cells.lookup x = some a)) → Q () s') (hf : X.fn x = true ∨ X.env.scope.names.lookup x = some .local := by first | exact .inl rfl | exact .inr rfl | assumption) : wpAny M A (storeName X.env x u) Q E s := by
  obtain ⟨m, hn, hl⟩ := id I.loc
  have hcls : (X.env.scope.kind == .class || (X.env.scope.kind == .module && X.env.locals != X.env.globals)) = false := by rw [I.ok.kind]; rfl
  have hiσ : i < σ.length := by rw [I.len]; exact (List.getElem?_eq_some_iff.mp hi).1
  have cne := I.cne
  have tracked : ∀ {a : Addr} {h' : Heap}, (∃ o, s.heap.get? a = some o ∧ H a = none) → Heap.SameBut a s.heap h' → HOk X.prog X.w H h' := fun {a h'} ha hs b ob e => by
    obtain ⟨_, _, hfree⟩ := ha
    refine (I.hok b ob e).stay (fun c w' hc q => (hs.2 c ?_).trans q) (fun _ q => q) fun _ _ q => q
    rintro rfl
    rcases hc with rfl | hc
    · rw [hfree] at e; cases e
    · rw [hfree] at hc; cases hc
  rcases hx with hk | hk
  · refine wpAny_storeName_local hk hn (fun h' hn' hs => ?_) hcls
    obtain ⟨oL, _, _, hoL, _⟩ := id hn
    refine h _ ⟨I.ok, I.os, I.bare, ⟨fun b o e n hb hx => ?_, fun b o e n hb hx => ?_, I.base.free, fun b o e hx => ?_, I.base.tups, I.base.frzs, I.base.tbls⟩, ⟨_, hn', fun j y v' e1 e2 e3 => ?_⟩, fun y c e => ?_, I.free, I.freeC, fun p hp => ?_, tracked ⟨oL, hoL, I.free⟩ hs, by simpa using I.len⟩ ⟨_, hs, .inl rfl⟩
    · exact (hs.2 b (Nat.ne_of_lt (Nat.lt_of_lt_of_le (Heap.lt_size e) I.ok.above))).trans (I.base.keep b o e n hb hx)
    · obtain ⟨sl, e1⟩ := I.base.slot b o e n hb hx
      exact ⟨sl, (hs.2 b (Nat.ne_of_lt (Nat.lt_of_lt_of_le (Heap.lt_size e) I.ok.above))).trans e1⟩
    · obtain ⟨o', e1⟩ := I.base.there b o e hx
      exact ⟨o', (hs.2 b (Nat.ne_of_lt (Nat.lt_of_lt_of_le (Heap.lt_size e) I.ok.above))).trans e1⟩
    · by_cases hj : j = i
      · subst hj
        rw [hi] at e1; cases e1
        rw [List.getElem?_set_self hiσ] at e2
        cases e2
        exact ⟨u, r, .inl ⟨hk, by simp⟩⟩
      · rw [List.getElem?_set_ne (Ne.symm hj)] at e2
        obtain ⟨u', r', q⟩ := hl j y v' e1 e2 e3
        refine ⟨u', r', ?_⟩
        rcases q with ⟨k, e⟩ | ⟨k, c, e, z⟩
        · refine .inl ⟨k, ?_⟩
          have : y ≠ x := fun e => hj (nodup_ix hN e1 (e ▸ hi))
          simp [this, e]
        · exact .inr ⟨k, c, e, z.sameBut hs (cne y c e)⟩
    · obtain ⟨w', z⟩ := I.cell y c e
      exact ⟨w', z.sameBut hs (cne y c e)⟩
    · obtain ⟨e, n, ne, nf, d⟩ := I.pin p hp
      exact ⟨(hs.2 p.1 ne).trans e, n, ne, nf, d⟩
  · have hfn : X.fn x = true := by
      rcases hf with z | z
      · exact z
      · rw [z] at hk; cases hk
    obtain ⟨c, hc⟩ := I.ok.has x (.inl hk)
    obtain ⟨w', z⟩ := I.cell x c hc
    refine wpAny_storeName_cell I.ok.kind hk hc z (fun h' hc' hs => ?_)
    obtain ⟨oc, hoc, hocd⟩ := id z
    refine h { s with heap := h' } ⟨I.ok, I.os, I.bare, ⟨fun b o e n hb hx => ?_, fun b o e n hb hx => ?_, I.base.free, fun b o e hx => ?_, I.base.tups, I.base.frzs, I.base.tbls⟩, ⟨m, hn.sameBut hs (Ne.symm (cne x c hc)), fun j y v' e1 e2 e3 => ?_⟩, fun y c' e => ?_, I.free, I.freeC, fun p hp => ?_, tracked ⟨oc, hoc, I.freeC x c hc⟩ hs, by simpa using I.len⟩ ⟨c, hs, .inr hc⟩
    · exact (hs.2 b (Nat.ne_of_lt (Nat.lt_of_lt_of_le (Heap.lt_size e) (I.ok.cab x c hfn hc)))).trans (I.base.keep b o e n hb hx)
    · obtain ⟨sl, e1⟩ := I.base.slot b o e n hb hx
      exact ⟨sl, (hs.2 b (Nat.ne_of_lt (Nat.lt_of_lt_of_le (Heap.lt_size e) (I.ok.cab x c hfn hc)))).trans e1⟩
    · obtain ⟨o', e1⟩ := I.base.there b o e hx
      exact ⟨o', (hs.2 b (Nat.ne_of_lt (Nat.lt_of_lt_of_le (Heap.lt_size e) (I.ok.cab x c hfn hc)))).trans e1⟩
    · by_cases hj : j = i
      · subst hj
        rw [hi] at e1; cases e1
        rw [List.getElem?_set_self hiσ] at e2
        cases e2
        exact ⟨u, r, .inr ⟨.inl hk, c, hc, hc'⟩⟩
      · rw [List.getElem?_set_ne (Ne.symm hj)] at e2
        obtain ⟨u', r', q⟩ := hl j y v' e1 e2 e3
        refine ⟨u', r', ?_⟩
        rcases q with q | ⟨k, c', e, z'⟩
        · exact .inl q
        · refine .inr ⟨k, c', e, z'.sameBut hs ?_⟩
          rintro rfl
          exact hj (nodup_ix hN e1 (I.ok.inj _ _ _ e hc ▸ hi))
    · by_cases hcc : c' = c
      · subst hcc; exact ⟨_, hc'⟩
      · obtain ⟨w2, z2⟩ := I.cell y c' e
        exact ⟨w2, z2.sameBut hs hcc⟩
    · obtain ⟨e, n, ne, nf, d⟩ := I.pin p hp
      refine ⟨(hs.2 p.1 ?_).trans e, n, ne, nf, d⟩
      intro q
      rw [q, hoc] at e
      have q' : oc = p.2 := Option.some.inj e
      exact d w' (by rw [← q']; exact hocd)
theorem store_ok {M : Model} {A : Around} {E : Value → Shared → Prop} {i : Nat} {x : Str} {v : V} {u : Value} {Q : Unit → Shared → Prop} (I : Inv X pins σ H s) (hN : X.N.Nodup) (hi : X.N[i]? = some x) (hx : Loc X.env.scope x) (r : RelV v u)
    (h : ∀ s', Inv X pins (σ.set i (some v)) H s' → Q () s') (hf : X.fn x = true ∨ X.env.scope.names.lookup x = some .local := by first | exact .inl rfl | exact .inr rfl | assumption) : wpAny M A (storeName X.env x u) Q E s :=
  store_ok2 I hN hi hx r (fun s' I' _ => h s' I') hf
/-- behind a call or a block, the state as it is -/
theorem Inv.call' {s' : Shared} {ch : List Addr} (I : Inv X pins σ H s) (ho : s'.os = s.os) (u : Un (frs X.stack) ch H H' s.heap s'.heap) (hok : HOk X.prog X.w H' s'.heap) (hg : AllBare s'.gens)
    (hch : ∀ b ∈ ch, (b ∈ X.ex ∨ X.s₀.heap.objs.size ≤ b) ∧ b ≠ X.env.locals ∧ (∀ x c, X.env.cells.lookup x = some c → c ≠ b) ∧ ∀ p ∈ X.pn ++ pins, p.1 ≠ b) : Inv X pins σ H' s' := by
  obtain ⟨h', g', d', t', o'⟩ := s'
  have e : o' = s.os := ho
  subst e
  exact I.call (g' := g') (t' := t') (d' := d') u hok hg hch
end

/-! ### the judgements -/
/-- an exception: its class, its own dict's address (where it has one), the abstract heap behind it -/
abbrev XK := Value → Option Addr → Hp → Prop
abbrev St := List (Option V)
abbrev VK := V → Hp → Prop
/-- an expression's reading; a test's; an argument list's -/
abbrev TE := St → Hp → VK → Prop
abbrev TT := St → Hp → (Bool → Hp → Prop) → Prop
abbrev TA := St → Hp → (List V → Hp → Prop) → Prop
/-- what is wanted behind a statement -/
structure Ends where
  nx : St → Hp → Prop
  rt : VK
  bk : St → Hp → Prop := fun _ _ => False
  ct : St → Hp → Prop := fun _ _ => False
abbrev TS := Ends → St → Hp → Prop

def EP (X : Cx) (pins : List (Addr × Obj)) (σ : St) (Q : VK) (u : Value) (s' : Shared) : Prop := ∃ v H', Inv X pins σ H' s' ∧ RelV v u ∧ Q v H'
def TP (X : Cx) (pins : List (Addr × Obj)) (σ : St) (Q : Bool → Hp → Prop) (b : Bool) (s' : Shared) : Prop := ∃ H', Inv X pins σ H' s' ∧ Q b H'
def AP (X : Cx) (pins : List (Addr × Obj)) (σ : St) (Q : List V → Hp → Prop) (us : List Value) (s' : Shared) : Prop := ∃ vs H', Inv X pins σ H' s' ∧ Vals vs us ∧ Q vs H'
def SP (X : Cx) (pins : List (Addr × Obj)) (D : Ends) (f : Flow) (s' : Shared) : Prop :=
  match f with
  | .next => ∃ σ' H', Inv X pins σ' H' s' ∧ D.nx σ' H'
  | .brk => ∃ σ' H', Inv X pins σ' H' s' ∧ D.bk σ' H'
  | .cont => ∃ σ' H', Inv X pins σ' H' s' ∧ D.ct σ' H'
  | .ret u => ∃ v σ' H', Inv X pins σ' H' s' ∧ RelV v u ∧ D.rt v H'

def PE (X : Cx) (e : Expr) (t : TE) : Prop :=
  ∀ (pins : List (Addr × Obj)) (s : Shared) (σ : St) (H : Hp) (Q : VK), Inv X pins σ H s → t σ H Q → wpAny (model X.prog X.w) X.A (eval e X.env) (EP X pins σ Q) X.xe s
def PT (X : Cx) (e : Expr) (t : TT) : Prop :=
  ∀ (pins : List (Addr × Obj)) (s : Shared) (σ : St) (H : Hp) (Q : Bool → Hp → Prop), Inv X pins σ H s → t σ H Q → wpAny (model X.prog X.w) X.A (isTrue e X.env (eval e X.env)) (TP X pins σ Q) X.xe s
/-- a test whatever its 'whole' is (and, or) -/
def PW (X : Cx) (e : Expr) (t : TT) : Prop :=
  ∀ (whole : Sem Value) (pins : List (Addr × Obj)) (s : Shared) (σ : St) (H : Hp) (Q : Bool → Hp → Prop), Inv X pins σ H s → t σ H Q → wpAny (model X.prog X.w) X.A (isTrue e X.env whole) (TP X pins σ Q) X.xe s
theorem PW.pt {X : Cx} {e : Expr} {t : TT} (h : PW X e t) : PT X e t := h _
/-- an argument list (no star), from the left -/
def PA (X : Cx) (es : List Expr) (t : TA) : Prop :=
  ∀ (pos : Pos) (pins : List (Addr × Obj)) (s : Shared) (σ : St) (H : Hp) (Q : List V → Hp → Prop), Inv X pins σ H s → t σ H Q → wpAny (model X.prog X.w) X.A (spliced (backTo pos (starEach es X.env))) (AP X pins σ Q) X.xe s
def PS (X : Cx) (st : Stmt) (t : TS) : Prop :=
  ∀ (pins : List (Addr × Obj)) (s : Shared) (σ : St) (H : Hp) (D : Ends), Inv X pins σ H s → t D σ H → wpAny (model X.prog X.w) X.A (exec st X.env) (SP X pins D) X.xe s
def PSs (X : Cx) (st : List Stmt) (t : TS) : Prop :=
  ∀ (pins : List (Addr × Obj)) (s : Shared) (σ : St) (H : Hp) (D : Ends), Inv X pins σ H s → t D σ H → wpAny (model X.prog X.w) X.A (execs st X.env) (SP X pins D) X.xe s
/-- weaken the end -/
theorem thn {α : Type} {t : Sem α} {Q Q' : α → Shared → Prop} {M : Model} {A : Around} {E : Value → Shared → Prop} {s : Shared} (h : wpAny M A t Q E s) (hQ : ∀ a s, Q a s → Q' a s) : wpAny M A t Q' E s := wpAny_mono h hQ fun _ _ x => x
end L2

namespace L2
open PySem PySem.Spec PyProof.Rows
section
variable {X : Cx}

/-! ### names and constants -/
def tVar (i : Nat) : TE := fun σ H Q => ∃ v, σ[i]? = some (some v) ∧ Q v H
def tC (v : V) : TE := fun _ H Q => Q v H
theorem pe_var {i : Nat} {x : Str} {pos : Pos} (hN : X.N[i]? = some x) (hv : Vis X.env.scope x) (hd : (x == ("__debug__" : Str)) = false := by decide) (hcd : (x == ("__classdict__" : Str)) = false := by decide) : PE X (.Name x pos) (tVar i) := by
  intro pins s σ H Q I h
  obtain ⟨v, e, h⟩ := h
  obtain ⟨m, hn, hl⟩ := I.loc
  obtain ⟨u, r, l⟩ := hl i x v hN e hv
  have fin : EP X pins σ Q u s := ⟨v, H, I, r, h⟩
  rcases l with ⟨hk, hm⟩ | ⟨hk, c, hc, hcell⟩
  · exact wpAny_Name (wpAny_loadName_local I.ok.kind hk hn hm fin) hd
  · rcases hk with hk | hk
    · exact wpAny_Name (wpAny_loadName_cell I.ok.kind hk hc hcell fin) hd
    · exact wpAny_Name (wpAny_loadName_free I.ok.kind hk hc hcell fin hcd) hd
theorem pe_int {i j pos} : PE X (.Constant (.int i) j pos) (tC (.int i)) := fun _ _ _ H _ I h => wpAny_Constant_int ⟨.int i, H, I.tok _, ⟨_, rfl⟩, h⟩
theorem pe_bl {b j pos} : PE X (.Constant (.bool b) j pos) (tC (.bl b)) := fun _ _ _ H _ I h => Constant_bool ⟨.bl b, H, I, rfl, h⟩
theorem pe_str {x j pos} : PE X (.Constant (.str x) j pos) (tC (.str x)) := fun _ _ _ H _ I h => Calls.Constant_str ⟨.str x, H, I.tok _, ⟨_, rfl⟩, h⟩

/-- a global name of the def -/
def Gl (X : Cx) (x : Str) : Prop := X.env.kindOf x = some .globalImplicit
theorem ld_glob {E : Value → Shared → Prop} {pins : List (Addr × Obj)} {s : Shared} {σ : St} {H : Hp} {x : Str} {u : Value} {pos : Pos} {Q : Value → Shared → Prop} (I : Inv X pins σ H s) (hg : Gl X x) (hm : X.mg x = some u) (h : Q u s)
    (hd : (x == ("__debug__" : Str)) = false := by decide) : wpAny (model X.prog X.w) X.A (eval (.Name x pos) X.env) Q E s :=
  Calls.Name_function_global I.ok.kind hg (Calls.loadGlobal_global (by rw [I.ok.glob]; exact I.mod.glob.keeps I.bk) hm h) hd
theorem ld_blt {E : Value → Shared → Prop} {pins : List (Addr × Obj)} {s : Shared} {σ : St} {H : Hp} {x : Str} {u : Value} {pos : Pos} {Q : Value → Shared → Prop} (I : Inv X pins σ H s) (hg : Gl X x) (hm : X.mg x = none) (hv : bootBuiltins x = some u) (h : Q u s)
    (hn : x ≠ "__name__" := by decide) (hd : (x == ("__debug__" : Str)) = false := by decide) : wpAny (model X.prog X.w) X.A (eval (.Name x pos) X.env) Q E s := by
  obtain ⟨mb, h1, h2⟩ := I.mod.blt
  exact Calls.Name_function_global I.ok.kind hg (Calls.loadGlobal_builtin (by rw [I.ok.glob]; exact I.mod.glob.keeps I.bk) hm (by rw [I.ok.blt]; exact h1.keeps I.bk) ((h2 x hn).trans hv) h) hd
/-- a module's constant, a class, a function, as a value -/
theorem pe_glob {x : Str} {v : V} {u : Value} {pos : Pos} (hg : Gl X x) (hm : X.mg x = some u) (r : RelV v u) (hd : (x == ("__debug__" : Str)) = false := by decide) : PE X (.Name x pos) (tC v) :=
  fun _ _ _ H _ I h => ld_glob I hg hm ⟨v, H, I, r, h⟩ hd
theorem pe_bltn {x : Str} {v : V} {u : Value} {pos : Pos} (hg : Gl X x) (hm : X.mg x = none) (hv : bootBuiltins x = some u) (r : RelV v u) (hn : x ≠ "__name__" := by decide) (hd : (x == ("__debug__" : Str)) = false := by decide) : PE X (.Name x pos) (tC v) :=
  fun _ _ _ H _ I h => ld_blt I hg hm hv ⟨v, H, I, r, h⟩ hn hd

/-! ### arithmetic -/
/-- two ints -/
def t2I (ta tb : TE) (k : Int → Int → Hp → Prop) : St → Hp → Prop := fun σ H => ta σ H fun x H1 => tb σ H1 fun y H2 => ∃ i j, x = .int i ∧ y = .int j ∧ k i j H2
def tAdd (ta tb : TE) : TE := fun σ H Q => t2I ta tb (fun i j H2 => Q (.int (i + j)) H2) σ H
def tSub (ta tb : TE) : TE := fun σ H Q => t2I ta tb (fun i j H2 => Q (.int (i - j)) H2) σ H
/-- the left factor below 2^64 -/
def tMul (ta tb : TE) : TE := fun σ H Q => t2I ta tb (fun i j H2 => (-(2 ^ 64) < i ∧ i < 2 ^ 64) ∧ Q (.int (i * j)) H2) σ H
variable {a b : Expr} {ta tb : TE} {pos : Pos}
/-! ### comparisons -/
def PC (X : Cx) (op : CmpOp) (a b : Expr) (t : TE) : Prop :=
  ∀ (pins : List (Addr × Obj)) (s : Shared) (σ : St) (H : Hp) (Q : VK), Inv X pins σ H s → t σ H Q →
    wpAny (model X.prog X.w) X.A (eval a X.env) (fun v s₁ => wpAny (model X.prog X.w) X.A (eval b X.env) (fun u s₂ => wpAny (model X.prog X.w) X.A (compareOp op v u) (EP X pins σ Q) X.xe s₂) X.xe s₁) X.xe s
def tCmp (p : Int → Int → Bool) (ta tb : TE) : TE := fun σ H Q => t2I ta tb (fun i j H2 => Q (.bl (p i j)) H2) σ H
abbrev tLt : TE → TE → TE := tCmp fun i j => decide (i < j)
abbrev tLe : TE → TE → TE := tCmp fun i j => decide (i ≤ j)
abbrev tGt : TE → TE → TE := tCmp fun i j => decide (j < i)
abbrev tGe : TE → TE → TE := tCmp fun i j => decide (j ≤ i)
abbrev tEqI : TE → TE → TE := tCmp fun i j => decide (i = j)
abbrev tNeI : TE → TE → TE := tCmp fun i j => !decide (i = j)
/-- is None -/
def tIsN (ta : TE) : TE := fun σ H Q => ta σ H fun x H1 => Q (.bl (decide (x = .non))) H1
def tNotN (ta : TE) : TE := fun σ H Q => ta σ H fun x H1 => Q (.bl (!decide (x = .non))) H1
/-- a comparison as a value, as a test -/
def tB (t : TE) : TT := fun σ H Q => t σ H fun x H1 => ∃ c, x = .bl c ∧ Q c H1
/-- an expression whose value is a bool, as a test -/
theorem pt_val {e : Expr} {t : TE} (h : PE X e t) (he : ∀ whole, isTrue e X.env whole = (do let v ← whole; standAt e.pos; holding [v] (truthy v)) := by intro _; rfl) : PT X e (tB t) := by
  intro pins s σ H Q I hw
  refine isTrue_plain (thn (h pins s σ H _ I hw) fun v s1 ⟨x, H1, I1, r1, q1⟩ => ?_) (he _)
  obtain ⟨d, rfl, q⟩ := q1
  cases r1
  exact wpAny_truthy_bool ⟨H1, I1, q⟩

/-! ### and, or, not -/
variable {tA tB' : TT} {rest : List Expr}
def tAnd (t u : TT) : TT := fun σ H Q => t σ H fun c H1 => if c = true then u σ H1 Q else Q false H1
def tOr (t u : TT) : TT := fun σ H Q => t σ H fun c H1 => if c = true then Q true H1 else u σ H1 Q
def tNot (t : TT) : TT := fun σ H Q => t σ H fun c H1 => Q (!c) H1
theorem pw_and1 (ha : PT X a tA) : PW X (.BoolOp .And [a] pos) tA := by
  intro wh pins s σ H Q I h
  refine isTrue_and (thn (ha pins s σ H Q I h) fun c s1 e => ?_)
  cases c with
  | true => exact isTrue_and_nil e
  | false => exact e
theorem pw_or1 (ha : PT X a tA) : PW X (.BoolOp .Or [a] pos) tA := by
  intro wh pins s σ H Q I h
  refine isTrue_or (thn (ha pins s σ H Q I h) fun c s1 e => ?_)
  cases c with
  | false => exact isTrue_or_nil e
  | true => exact e
theorem pw_and (ha : PT X a tA) (hb : PW X (.BoolOp .And (b :: rest) pos) tB') : PW X (.BoolOp .And (a :: b :: rest) pos) (tAnd tA tB') := by
  intro wh pins s σ H Q I h
  refine isTrue_and (thn (ha pins s σ H _ I h) fun c s1 ⟨H1, I1, q1⟩ => ?_)
  cases c with
  | true => exact hb wh pins s1 σ H1 Q I1 q1
  | false => exact ⟨H1, I1, q1⟩
theorem pw_or (ha : PT X a tA) (hb : PW X (.BoolOp .Or (b :: rest) pos) tB') : PW X (.BoolOp .Or (a :: b :: rest) pos) (tOr tA tB') := by
  intro wh pins s σ H Q I h
  refine isTrue_or (thn (ha pins s σ H _ I h) fun c s1 ⟨H1, I1, q1⟩ => ?_)
  cases c with
  | true => exact ⟨H1, I1, q1⟩
  | false => exact hb wh pins s1 σ H1 Q I1 q1
theorem pt_not (ha : PT X a tA) : PT X (.UnaryOp .Not a pos) (tNot tA) := by
  intro pins s σ H Q I h
  exact isTrue_not (ha pins s σ H (fun c H1 => Q (!c) H1) I h)
/-- .. as values (bools) -/
def tAndV (ta tb : TE) : TE := fun σ H Q => ta σ H fun x H1 => ∃ c, x = .bl c ∧ if c = true then tb σ H1 Q else Q (.bl false) H1
def tOrV (ta tb : TE) : TE := fun σ H Q => ta σ H fun x H1 => ∃ c, x = .bl c ∧ if c = true then Q (.bl true) H1 else tb σ H1 Q
def tNotV (ta : TE) : TE := fun σ H Q => ta σ H fun x H1 => ∃ c, x = .bl c ∧ Q (.bl (!c)) H1
theorem pe_one {op} {t : TE} (h : PE X a t) : PE X (.BoolOp op [a] pos) t := fun pins s σ H Q I hw => BoolOp_one (h pins s σ H Q I hw)
theorem pe_and (ha : PE X a ta) (hb : PE X (.BoolOp .And (b :: rest) pos) tb) : PE X (.BoolOp .And (a :: b :: rest) pos) (tAndV ta tb) := by
  intro pins s σ H Q I h
  refine BoolOp_and (thn (ha pins s σ H _ I h) fun v s1 ⟨x, H1, I1, r1, q1⟩ => ?_)
  obtain ⟨c, rfl, q1⟩ := q1
  cases r1
  refine wpAny_truthy_bool ?_
  cases c with
  | true => exact hb pins s1 σ H1 Q I1 q1
  | false => exact ⟨.bl false, H1, I1, rfl, q1⟩
theorem pe_not (ha : PE X a ta) : PE X (.UnaryOp .Not a pos) (tNotV ta) := by
  intro pins s σ H Q I h
  refine UnaryOp_ (thn (ha pins s σ H _ I h) fun v s1 ⟨x, H1, I1, r1, q1⟩ => ?_)
  obtain ⟨c, rfl, q1⟩ := q1
  cases r1
  exact not_of (wpAny_truthy_bool ⟨.bl (!c), H1, I1, rfl, q1⟩)
/-- a if t else b -/
def tIf (t : TT) (ta tb : TE) : TE := fun σ H Q => t σ H fun c H1 => if c = true then ta σ H1 Q else tb σ H1 Q
end
end L2

namespace L2
open PySem PySem.Spec PyProof.Rows

/-! ### a list, a tuple that is read: tracked, frozen, or an object of the module -/
def SqL (K : PySem.W.Frag) (H : Hp) (a : Addr) (xs : List V) : Prop :=
  Rd H a (.lst xs) ∨
    ∃ (o : Obj) (its : Array Value) (n : Nat), K.lookup a = some o ∧ o.cls = .type "list" ∧ o.dict = none ∧ o.data = .seq its n ∧ its.size ≤ sizeLine ∧ Vals xs its.toList
def SqT (K : PySem.W.Frag) (H : Hp) (a : Addr) (xs : List V) : Prop :=
  Rd H a (.tup xs) ∨
    ∃ (o : Obj) (its : Array Value) (n : Nat), K.lookup a = some o ∧ o.cls = .type "tuple" ∧ o.data = .seq its n ∧ its.size ≤ sizeLine ∧ Vals xs its.toList
def absV : Value → Option V
  | .none => some .non
  | .bool b => some (.bl b)
  | .int i _ => some (.int i)
  | .str x _ => some (.str x)
  | .bytes b _ => some (.byt b)
  | .float b _ => some (.flt b)
  | .ref a => some (.ref a)
  | .type n => some (.ty n)
  | _ => none
theorem RelV.abs {x : V} {u : Value} (r : RelV x u) : absV u = some x := by
  cases x with
  | non => cases r; rfl
  | bl _ => cases r; rfl
  | int _ => obtain ⟨t, rfl⟩ := r; rfl
  | str _ => obtain ⟨t, rfl⟩ := r; rfl
  | byt _ => obtain ⟨t, rfl⟩ := r; rfl
  | flt _ => obtain ⟨t, rfl⟩ := r; rfl
  | ref _ => cases r; rfl
  | ty _ => cases r; rfl
theorem RelV.inj {x y : V} {u : Value} (r : RelV x u) (q : RelV y u) : x = y := Option.some.inj (r.abs.symm.trans q.abs)
theorem Vals.inj : ∀ {xs ys : List V} {us : List Value}, Vals xs us → Vals ys us → xs = ys
  | _, _, _, .nil, .nil => rfl
  | _, _, _, .cons r t, .cons r' t' => by rw [r.inj r', Vals.inj t t']
section
variable {X : Cx} {pins : List (Addr × Obj)} {σ : St} {H : Hp} {s : Shared} {a : Addr} {xs ys : List V}
theorem SqL.of {K : PySem.W.Frag} (h : H a = some (.lst xs)) : SqL K H a xs := .inl (.inl h)
theorem SqT.of {K : PySem.W.Frag} (h : H a = some (.tup xs)) : SqT K H a xs := .inl (.inl h)
theorem Inv.list (I : Inv X pins σ H s) (h : SqL X.K H a xs) : ∃ its : List Value, Vals xs its ∧ PlainL s.heap a its.toArray ∧ xs.length ≤ sizeLine := by
  rcases h with h | ⟨o, its, n, hk, hc, hd, hs, hz, r⟩
  · obtain ⟨z, its, n, r, e⟩ := h.ok I.hok
    exact ⟨its, r, ⟨_, n, e, rfl, rfl, rfl⟩, z⟩
  · refine ⟨its.toList, r, ⟨o, n, I.kIn a o hk, hc, hd, by simpa using hs⟩, ?_⟩
    have e := r.length
    simp only [Array.length_toList] at e
    omega
theorem Inv.tuple (I : Inv X pins σ H s) (h : SqT X.K H a xs) : ∃ its : List Value, Vals xs its ∧ IsTup s.heap a its.toArray ∧ xs.length ≤ sizeLine := by
  rcases h with h | ⟨o, its, n, hk, hc, hs, hz, r⟩
  · obtain ⟨z, its, r, p⟩ := h.ok I.hok
    exact ⟨its, r, p, z⟩
  · refine ⟨its.toList, r, ⟨o, I.kIn a o hk, hc, n, by simpa using hs⟩, ?_⟩
    have e := r.length
    simp only [Array.length_toList] at e
    omega
theorem Inv.list_inj (I : Inv X pins σ H s) (h : SqL X.K H a xs) (h' : SqL X.K H a ys) : xs = ys := by
  obtain ⟨its, r, ⟨o, n, e, _, _, d⟩, _⟩ := I.list h
  obtain ⟨its', r', ⟨o', n', e', _, _, d'⟩, _⟩ := I.list h'
  rw [e] at e'; cases e'
  rw [d] at d'
  injection d' with d1 _
  have : its = its' := by simpa using congrArg Array.toList d1
  subst this
  exact r.inj r'
theorem Inv.tuple_inj (I : Inv X pins σ H s) (h : SqT X.K H a xs) (h' : SqT X.K H a ys) : xs = ys := by
  obtain ⟨its, r, ⟨o, e, _, n, d⟩, _⟩ := I.tuple h
  obtain ⟨its', r', ⟨o', e', _, n', d'⟩, _⟩ := I.tuple h'
  rw [e] at e'; cases e'
  rw [d] at d'
  injection d' with d1 _
  have : its = its' := by simpa using congrArg Array.toList d1
  subst this
  exact r.inj r'
end

/-! ### another wish about exceptions -/
abbrev Cx.wish (X : Cx) (E : Value → Shared → Prop) : Cx := { X with xe := E }
/-- no exception leaves -/
abbrev Cx.nox (X : Cx) : Cx := X.wish fun _ _ => False
theorem Cx.Ok.wish {X : Cx} (ok : X.Ok) (E : Value → Shared → Prop) : (X.wish E).Ok :=
  ⟨ok.mod, ok.kind, ok.glob, ok.blt, ok.above, ok.inj, ok.has, ok.cab, ok.hd, ok.frames, ok.stk, ok.exf, ok.bs, ok.bsz, ok.noex, ok.exfs, ok.funs, ok.frf⟩
theorem Cx.Ok.unwish {X : Cx} {E : Value → Shared → Prop} (ok : (X.wish E).Ok) : X.Ok :=
  ⟨ok.mod, ok.kind, ok.glob, ok.blt, ok.above, ok.inj, ok.has, ok.cab, ok.hd, ok.frames, ok.stk, ok.exf, ok.bs, ok.bsz, ok.noex, ok.exfs, ok.funs, ok.frf⟩
section
variable {X : Cx} {pins : List (Addr × Obj)} {σ : St} {H : Hp} {s : Shared} {E : Value → Shared → Prop}
theorem Inv.wish (I : Inv X pins σ H s) (E : Value → Shared → Prop) : Inv (X.wish E) pins σ H s := ⟨I.ok.wish E, I.os, I.bare, I.base, I.loc, I.cell, I.free, I.freeC, I.pin, I.hok, I.len⟩
theorem Inv.unwish (I : Inv (X.wish E) pins σ H s) : Inv X pins σ H s := ⟨I.ok.unwish, I.os, I.bare, I.base, I.loc, I.cell, I.free, I.freeC, I.pin, I.hok, I.len⟩
theorem SP.unwish {D : Ends} {f : Flow} {s' : Shared} (h : SP (X.wish E) pins D f s') : SP X pins D f s' := by
  cases f with
  | next => obtain ⟨σ', H', I, q⟩ := h; exact ⟨σ', H', I.unwish, q⟩
  | brk => obtain ⟨σ', H', I, q⟩ := h; exact ⟨σ', H', I.unwish, q⟩
  | cont => obtain ⟨σ', H', I, q⟩ := h; exact ⟨σ', H', I.unwish, q⟩
  | ret u => obtain ⟨v, σ', H', I, r, q⟩ := h; exact ⟨v, σ', H', I.unwish, r, q⟩
theorem PE.nox {e : Expr} {t : TE} (h : PE X.nox e t) : PE X e t := fun pins s σ H Q I hw =>
  wpAny_mono (h pins s σ H Q (I.wish _) hw) (fun _ _ ⟨v, H', I', r, q⟩ => ⟨v, H', I'.unwish, r, q⟩) fun _ _ z => False.elim z
theorem PT.nox {e : Expr} {t : TT} (h : PT X.nox e t) : PT X e t := fun pins s σ H Q I hw =>
  wpAny_mono (h pins s σ H Q (I.wish _) hw) (fun _ _ ⟨H', I', q⟩ => ⟨H', I'.unwish, q⟩) fun _ _ z => False.elim z
theorem PSs.nox {st : List Stmt} {t : TS} (h : PSs X.nox st t) : PSs X st t := fun pins s σ H D I hw =>
  wpAny_mono (h pins s σ H D (I.wish _) hw) (fun _ _ q => q.unwish) fun _ _ z => False.elim z
end

/-! ### blocks and small statements -/
section
variable {X : Cx} {st : Stmt} {rest : List Stmt} {t u : TS} {e : Expr} {te : TE} {pos : Pos}
def tNext : TS := fun D σ H => D.nx σ H
def tSeq (t u : TS) : TS := fun D σ H => t { D with nx := u D } σ H
theorem pss_nil : PSs X [] tNext := fun _ _ σ H _ I h => wpAny_execs_nil ⟨σ, H, I, h⟩
theorem pss_cons (h1 : PS X st t) (h2 : PSs X rest u) : PSs X (st :: rest) (tSeq t u) := by
  intro pins s σ H D I h
  refine wpAny_execs_cons (thn (h1 pins s σ H { D with nx := u D } I h) fun f s1 q => ?_)
  cases f with
  | next =>
    obtain ⟨σ', H', I', q⟩ := q
    exact h2 pins s1 σ' H' D I' q
  | ret v => exact q
  | brk => exact q
  | cont => exact q
theorem pss_one (h1 : PS X st t) : PSs X [st] t := by
  intro pins s σ H D I h
  refine wpAny_execs_cons (thn (h1 pins s σ H D I h) fun f s1 q => ?_)
  cases f with
  | next => exact wpAny_execs_nil q
  | ret v => exact q
  | brk => exact q
  | cont => exact q
def tBreak : TS := fun D σ H => D.bk σ H
def tCont : TS := fun D σ H => D.ct σ H
/-- in a def's body nothing is shown -/
theorem Inv.quiet {pins : List (Addr × Obj)} {σ : St} {H : Hp} {s : Shared} (I : Inv X pins σ H s) : interactive X.env = false := by simp [interactive, I.ok.kind]
/-- an expression whose value is dropped -/
def tDrop (te : TE) : TS := fun D σ H => te σ H fun _ H1 => D.nx σ H1
theorem ps_expr (he : PE X e te) (hs : swapsWith e none pos.line X.env = pure false := by rfl) : PS X (.Expr e pos) (tDrop te) := by
  intro pins s σ H D I h
  exact wpAny_Expr_any (thn (he pins s σ H _ I h) fun v s1 ⟨x, H1, I1, r1, q1⟩ => ⟨σ, H1, I1, q1⟩) I.quiet hs
def tRet (te : TE) : TS := fun D σ H => te σ H D.rt
theorem ps_ret (he : PE X e te) : PS X (.Return (some e) pos) (tRet te) := by
  intro pins s σ H D I h
  exact wpAny_Return_some (thn (he pins s σ H _ I h) fun v s1 ⟨x, H1, I1, r1, q1⟩ => ⟨x, σ, H1, I1, r1, q1⟩)
def tRetN : TS := fun D _ H => D.rt .non H
def tIfS (c : TT) (t u : TS) : TS := fun D σ H => c σ H fun b H1 => if b = true then t D σ H1 else u D σ H1
theorem ps_if {c : Expr} {a b : List Stmt} {tc : TT} (hc : PT X c tc) (ha : PSs X a t) (hb : PSs X b u) : PS X (.If c a b pos) (tIfS tc t u) := by
  intro pins s σ H D I h
  refine wpAny_If (thn (hc pins s σ H _ I h) fun d s1 ⟨H1, I1, q1⟩ => ?_)
  cases d with
  | true => exact ha pins s1 σ H1 D I1 q1
  | false => exact hb pins s1 σ H1 D I1 q1
/-- code that the proof never comes to -/
def tNever : TS := fun _ _ _ => False
end

/-! ### targets -/
abbrev TG := V → St → Hp → (St → Hp → Prop) → Prop
abbrev TGs := List V → St → Hp → (St → Hp → Prop) → Prop
def PG (X : Cx) (target : Expr) (t : TG) : Prop :=
  ∀ (pins : List (Addr × Obj)) (s : Shared) (σ : St) (H : Hp) (v : V) (u : Value) (Q : St → Hp → Prop), Inv X pins σ H s → RelV v u → t v σ H Q →
    wpAny (model X.prog X.w) X.A (assign target X.env u) (fun _ s' => ∃ σ' H', Inv X pins σ' H' s' ∧ Q σ' H') X.xe s
/-- several targets, one after another -/
def PGs (X : Cx) (ts : List Expr) (t : TGs) : Prop :=
  ∀ (pins : List (Addr × Obj)) (s : Shared) (σ : St) (H : Hp) (vs : List V) (us : List Value) (Q : St → Hp → Prop), Inv X pins σ H s → Vals vs us → t vs σ H Q →
    wpAny (model X.prog X.w) X.A (assignInOrder ((assignEach ts X.env).map (·.2)) us) (fun _ s' => ∃ σ' H', Inv X pins σ' H' s' ∧ Q σ' H') X.xe s
/-- o[i] = v, by values -/
abbrev TSet := V → V → V → Hp → (Hp → Prop) → Prop
def PSet (X : Cx) (t : TSet) : Prop :=
  ∀ (pins : List (Addr × Obj)) (s : Shared) (σ : St) (H : Hp) (o i v : V) (ov iv u : Value) (Q : Hp → Prop), Inv X pins σ H s → RelV o ov → RelV i iv → RelV v u → t o i v H Q →
    wpAny (model X.prog X.w) X.A (setItem ov iv u) (fun _ s' => ∃ H', Inv X pins σ H' s' ∧ Q H') X.xe s
/-- a op= b, by values -/
abbrev TIp := V → V → Hp → VK → Prop
def PIp (X : Cx) (op : Operator) (t : TIp) : Prop :=
  ∀ (pins : List (Addr × Obj)) (s : Shared) (σ : St) (H : Hp) (x y : V) (v u : Value) (Q : VK), Inv X pins σ H s → RelV x v → RelV y u → t x y H Q →
    wpAny (model X.prog X.w) X.A (inplaceOp op v u) (EP X pins σ Q) X.xe s
section
variable {X : Cx} {pos : Pos}
def gName (i : Nat) : TG := fun v σ H Q => Q (σ.set i (some v)) H
theorem pg_name {i : Nat} {x : Str} (hN : X.N.Nodup) (hi : X.N[i]? = some x) (hx : Loc X.env.scope x) (hf : X.fn x = true ∨ X.env.scope.names.lookup x = some .local := by first | exact .inl rfl | exact .inr rfl | assumption) : PG X (.Name x pos) (gName i) := by
  intro pins s σ H v u Q I r h
  exact wpAny_assign_Name (store_ok I hN hi hx r (fun s' I' => ⟨_, H, I', h⟩) hf)
def gNil : TGs := fun vs σ H Q => vs = [] ∧ Q σ H
def gCons (t : TG) (u : TGs) : TGs := fun vs σ H Q => ∃ v r, vs = v :: r ∧ t v σ H fun σ' H' => u r σ' H' Q
theorem pgs_nil : PGs X [] gNil := by
  intro pins s σ H vs us Q I r h
  obtain ⟨e, h⟩ := h
  subst e
  cases r
  exact assignInOrder_nil ⟨σ, H, I, h⟩
theorem pgs_cons {e : Expr} {es : List Expr} {t : TG} {u : TGs} (h1 : PG X e t) (h2 : PGs X es u)
    (hs : (assignEach (e :: es) X.env).map (·.2) = assign e X.env :: (assignEach es X.env).map (·.2) := by rfl) : PGs X (e :: es) (gCons t u) := by
  intro pins s σ H vs us Q I r h
  obtain ⟨v, vr, e1, h⟩ := h
  subst e1
  cases r with
  | cons r rr =>
    rw [hs]
    refine assignInOrder_cons (thn (h1 pins s σ H _ _ _ I r h) fun _ s1 ⟨σ1, H1, I1, q1⟩ => ?_)
    exact h2 pins s1 σ1 H1 _ _ Q I1 rr q1
/-- (a, b, ..) = a tuple of that length -/
def gTup (K : PySem.W.Frag) (n : Nat) (t : TGs) : TG := fun v σ H Q => ∃ a xs, v = .ref a ∧ SqT K H a xs ∧ xs.length = n ∧ t xs σ H Q
theorem pg_tup {es : List Expr} {k : Nat} {t : TGs} {n : Nat} (hc : X.calm = true) (h : PGs X es t)
    (hn : (assignEach es X.env).length = n := by rfl) (hst : (assignEach es X.env).findIdx? (·.1) = none := by rfl) : PG X (.Tuple es k pos) (gTup X.K n t) := by
  intro pins s σ H v u Q I r hw
  obtain ⟨a, xs, e1, hq, hl, hw⟩ := hw
  subst e1
  cases r
  obtain ⟨its, rv, ht, hz⟩ := I.tuple hq
  refine assign_Tuple_tuple (I.ok.hd hc) ht (by simp [hn, ← hl, rv.length]) hst fun h' hx => ?_
  have I1 : Inv X pins σ H { s with heap := h' } := I.kept (t' := s.toks) fun b o e => hx b o (Nat.ne_of_lt (Heap.lt_size e)) e
  exact h pins _ σ H xs _ Q I1 (by simpa using rv) hw
/-- o[i] = .. -/
def gSub (to ti : TE) (t : TSet) : TG := fun v σ H Q => to σ H fun o H1 => ti σ H1 fun i H2 => t o i v H2 fun H3 => Q σ H3
/-- target = value -/
def tAsg (te : TE) (g : TG) : TS := fun D σ H => te σ H fun x H1 => g x σ H1 D.nx
theorem ps_asg {tg e : Expr} {te : TE} {g : TG} (he : PE X e te) (hg : PG X tg g) (hs : swapsWithSole [tg] e pos.line X.env = pure false := by rfl) (hw : swappedStores [tg] e X.env = pure none := by rfl)
    (h1 : (assignEach [tg] X.env).map (·.2) = [assign tg X.env] := by rfl) : PS X (.Assign [tg] e pos) (tAsg te g) := by
  intro pins s σ H D I h
  refine wpAny_Assign_stores (thn (he pins s σ H _ I h) fun v s1 ⟨x, H1, I1, r1, q1⟩ => ?_) hs hw
  rw [h1]
  exact thn (hg pins s1 σ H1 x v _ I1 r1 q1) fun _ s2 q => q
/-- name = value -/
theorem ps_set {i : Nat} {x : Str} {e : Expr} {te : TE} {pos' : Pos} (hN : X.N.Nodup) (hi : X.N[i]? = some x) (hx : Loc X.env.scope x) (he : PE X e te) (hs : swapsWith e (some (.Name x pos')) pos.line X.env = pure false := by rfl) (hf : X.fn x = true ∨ X.env.scope.names.lookup x = some .local := by first | exact .inl rfl | exact .inr rfl | assumption) :
    PS X (.Assign [.Name x pos'] e pos) (tAsg te (gName i)) := by
  intro pins s σ H D I h
  refine wpAny_Assign_Name (thn (he pins s σ H _ I h) fun v s1 ⟨y, H1, I1, r1, q1⟩ => ?_) hs
  exact store_ok I1 hN hi hx r1 (fun s2 I2 => ⟨_, H1, I2, q1⟩) hf
/-- a, b = x, y with plain local names: stored from the right; the pair itself is not tracked (the opening rows as in PyProof/Rows/TupAssign.lean:23) -/
def tPar (i j : Nat) (ta : TA) : TS := fun D σ H => ta σ H fun vs H1 => ∃ v w, vs = [v, w] ∧ D.nx ((σ.set i (some v)).set j (some w)) H1
/-- name op= e -/
def tAug (i : Nat) (te : TE) (ti : TIp) : TS := fun D σ H => ∃ x, σ[i]? = some (some x) ∧ te σ H fun y H1 => ti x y H1 fun z H2 => D.nx (σ.set i (some z)) H2
/-- o[i] op= e -/
def tAugS (to ti te : TE) (tget : V → V → Hp → VK → Prop) (tip : TIp) (tset : TSet) : TS := fun D σ H => to σ H fun o H1 => ti σ H1 fun i H2 => tget o i H2 fun x H3 => te σ H3 fun y H4 => tip x y H4 fun z H5 => tset o i z H5 fun H6 => D.nx σ H6
/-- o[i], by values -/
def PGet (X : Cx) (t : V → V → Hp → VK → Prop) : Prop :=
  ∀ (pins : List (Addr × Obj)) (s : Shared) (σ : St) (H : Hp) (o i : V) (ov iv : Value) (Q : VK), Inv X pins σ H s → RelV o ov → RelV i iv → t o i H Q →
    wpAny (model X.prog X.w) X.A (getItem ov iv) (EP X pins σ Q) X.xe s
/-- ints -/
def ipI (f : Int → Int → Int) : TIp := fun x y H Q => ∃ i j, x = .int i ∧ y = .int j ∧ Q (.int (f i j)) H
end

/-! ### while -/
section
variable {X : Cx} {pos : Pos}
/-- the invariant W with its measure -/
def tWhile (c : TT) (tb : TS) : TS := fun D σ H => ∃ W : Nat → St → Hp → Prop, (∃ m, W m σ H) ∧ ∀ m σ H, W m σ H →
  c σ H fun b H1 => if b = true then ∃ N : St → Hp → Prop, (∀ σ' H', N σ' H' → ∃ m', m' < m ∧ W m' σ' H') ∧ tb { D with nx := N, ct := N, bk := D.nx } σ H1 else D.nx σ H1
theorem ps_while {c : Expr} {body : List Stmt} {tc : TT} {tb : TS} (hp : PassesOwn (model X.prog X.w) X.A X.env X.xe) (hc : PT X c tc) (hb : PSs X body tb) : PS X (.While c body [] pos) (tWhile tc tb) := by
  intro pins s σ H D I h
  obtain ⟨W, ⟨m0, w0⟩, turn⟩ := h
  refine wpAny_While (codeAny_whileLoop (fun n s' => ∃ σ' H', Inv X pins σ' H' s' ∧ W n σ' H') ?_ m0 ⟨σ, H, I, w0⟩)
  rintro n s1 ⟨σ1, H1, I1, w1⟩
  refine wpAny_passesOwn hp (thn (hc pins s1 σ1 H1 _ I1 (turn n σ1 H1 w1)) fun b s2 ⟨H2, I2, q2⟩ => ?_)
  cases b with
  | true =>
    obtain ⟨N, hN, q2⟩ := q2
    rw [if_pos rfl]
    refine wpAny_passesOwn hp (thn (hb pins s2 σ1 H2 _ I2 q2) fun f s3 q3 => ?_)
    cases f with
    | next =>
      obtain ⟨σ3, H3, I3, n3⟩ := q3
      obtain ⟨m', hm, w3⟩ := hN σ3 H3 n3
      exact ⟨m', hm, σ3, H3, I3, w3⟩
    | cont =>
      obtain ⟨σ3, H3, I3, n3⟩ := q3
      obtain ⟨m', hm, w3⟩ := hN σ3 H3 n3
      exact ⟨m', hm, σ3, H3, I3, w3⟩
    | brk => exact q3
    | ret v => exact q3
  | false =>
    rw [if_neg Bool.false_ne_true]
    exact wpAny_execs_nil ⟨σ1, H2, I2, q2⟩
end

/-! ### what a loop or a comprehension walks -/
/-- at turn i: it yields x (the heap may grow), or it stops -/
structure It where
  go : Nat → Hp → Prop
  yld : Nat → Hp → V → Hp → Prop
  stop : Nat → Hp → Prop
/-- the iterator's own objects may turn: they are not the frame's, not pinned, younger than the entry (or a comprehension's own) -/
def FpOk (X : Cx) (pins : List (Addr × Obj)) (H : Hp) (b : Addr) : Prop :=
  H b = none ∧ b ≠ X.env.locals ∧ b ∉ X.fs ∧ (b ∈ X.ex ∨ X.s₀.heap.objs.size ≤ b) ∧ (∀ x c, X.env.cells.lookup x = some c → c ≠ b) ∧ ∀ p ∈ X.pn ++ pins, p.1 ≠ b
theorem Inv.fpOk {X : Cx} {pins : List (Addr × Obj)} {σ : St} {H H' : Hp} {s : Shared} {b : Addr} (I : Inv X pins σ H s) (hb : s.heap.objs.size ≤ b) (hn : H' b = none) : FpOk X pins H' b := by
  refine ⟨hn, Nat.ne_of_gt (Nat.lt_of_lt_of_le I.lt hb), I.nofs hb, .inr (Nat.le_trans I.sz hb), fun x c e z => ?_, fun p hp z => ?_⟩
  · obtain ⟨v, q⟩ := I.cell x c e
    exact absurd (Nat.lt_of_lt_of_le q.lt (by rw [z]; exact hb)) (Nat.lt_irrefl _)
  · exact absurd (Nat.lt_of_lt_of_le (Heap.lt_size (I.pin p hp).1) (by rw [z]; exact hb)) (Nat.lt_irrefl _)
structure Turn (P : Program) (w : World) (K : PySem.W.Frag) (tg : Expr) (J : It) (fp : List Addr) (it : Addr) (tn : Nat → Heap → Prop) : Prop where
  mem : it ∈ fp
  obj : ∀ i h, tn i h → ∀ b ∈ fp, ∃ o, h.get? b = some o ∧ ∀ v, o.data ≠ .cell v
  keep : ∀ i h h', tn i h → (∀ b ∈ fp, ∀ o, h.get? b = some o → h'.get? b = some o) → tn i h'
  item : ∀ (X : Cx), X.prog = P → X.w = w → X.K = K → X.calm = true → ∀ (i : Nat) (pins : List (Addr × Obj)) (s : Shared) (σ : St) (H : Hp) (E : Value → Shared → Prop), Inv X pins σ H s → (∀ b ∈ fp, FpOk X pins H b) → tn i s.heap → J.go i H →
    wpAny (model P w) X.A (pyNext (.ref it)) (fun r s1 => ∃ u, r = some u ∧
      wpAny (model P w) X.A (letOwnedTupleGo tg (.ref it) u) (fun _ s2 => ∃ x H', Inv X pins σ H' s2 ∧ RelV x u ∧ J.yld i H x H' ∧ tn (i + 1) s2.heap ∧ ∀ b ∈ fp, H' b = none) E s1) E s
  done : ∀ (X : Cx), X.prog = P → X.w = w → X.K = K → X.calm = true → ∀ (i : Nat) (pins : List (Addr × Obj)) (s : Shared) (σ : St) (H : Hp) (E : Value → Shared → Prop), Inv X pins σ H s → (∀ b ∈ fp, FpOk X pins H b) → tn i s.heap → J.stop i H →
    wpAny (model P w) X.A (pyNext (.ref it)) (fun r s1 => r = none ∧ Inv X pins σ H s1) E s
  self : ∀ (A : Around) (i : Nat) (s : Shared) (Q : Value → Shared → Prop) (E : Value → Shared → Prop), tn i s.heap → Q (.ref it) s → wpAny (model P w) A (pyIter (.ref it)) Q E s
abbrev TI := St → Hp → (It → Hp → Prop) → Prop
/-- an iterator has come -/
def PIE (X : Cx) (pins : List (Addr × Obj)) (σ : St) (tg : Expr) (R : It → Hp → Prop) (itv : Value) (s2 : Shared) : Prop :=
  ∃ (it : Addr) (fp : List Addr) (tn : Nat → Heap → Prop) (J : It) (H' : Hp), itv = .ref it ∧ Inv X pins σ H' s2 ∧ Turn X.prog X.w X.K tg J fp it tn ∧ tn 0 s2.heap ∧ (∀ b ∈ fp, FpOk X pins H' b) ∧ R J H'
def PI (X : Cx) (tg iter : Expr) (wi : TI) : Prop :=
  ∀ (pins : List (Addr × Obj)) (s : Shared) (σ : St) (H : Hp) (R : It → Hp → Prop), Inv X pins σ H s → wi σ H R →
    wpAny (model X.prog X.w) X.A (eval iter X.env) (fun v s1 => wpAny (model X.prog X.w) X.A (pyIter v) (PIE X pins σ tg R) X.xe s1) X.xe s

/-- the step ahead of the store is nothing for an iterator that keeps no tuple -/
theorem go_of {M : Model} {A : Around} {E : Value → Shared → Prop} {s : Shared} {tg : Expr} {it : Addr} {u : Value} {o : Obj} {n : String} {vs : Array Value} {Q : Unit → Shared → Prop} (ho : s.heap.get? it = some o) (hc : o.cls = .type n) (hd : o.data = .fields vs)
    (hn : ["enumerate", "zip", "dict_itemiterator", "dict_reverseitemiterator", "odict_iterator", "itertools.zip_longest", "itertools.pairwise"].contains n = false) (hQ : Q () s) : wpAny M A (letOwnedTupleGo tg (.ref it) u) Q E s := by
  unfold letOwnedTupleGo
  cases tg <;> first
    | exact wpAny_pure hQ
    | (cases u <;> first
        | exact wpAny_pure hQ
        | (refine wpAny_bind (wpAny_load ho ?_)
           rw [hc, hd]
           show wpAny M A (if (["enumerate", "zip", "dict_itemiterator", "dict_reverseitemiterator", "odict_iterator", "itertools.zip_longest", "itertools.pairwise"].contains n && vs[0]? == some (rawInt _)) = true then _ else _) Q E s
           rw [if_neg (by intro h; rw [hn, Bool.false_and] at h; cases h)]
           exact wpAny_pure hQ))

/-- the list at a, as it stands at each turn (a loop may append to it) -/
def Itl (K : PySem.W.Frag) (a : Addr) : It :=
  ⟨fun i H => ∃ xs x, SqL K H a xs ∧ xs[i]? = some x, fun i H x H' => H' = H ∧ ∀ xs, SqL K H a xs → xs[i]? = some x, fun i H => ∃ xs, SqL K H a xs ∧ xs.length ≤ i⟩
def Itt (K : PySem.W.Frag) (a : Addr) : It :=
  ⟨fun i H => ∃ xs x, SqT K H a xs ∧ xs[i]? = some x, fun i H x H' => H' = H ∧ ∀ xs, SqT K H a xs → xs[i]? = some x, fun i H => ∃ xs, SqT K H a xs ∧ xs.length ≤ i⟩
/-- lo, lo + 1, .. (n of them) -/
def Itr (lo : Int) (n : Nat) : It := ⟨fun i _ => i < n, fun i H x H' => H' = H ∧ x = .int (lo + i), fun i _ => n ≤ i⟩
theorem turn_list {P : Program} {w : World} {K : PySem.W.Frag} {tg : Expr} (a it : Addr) : Turn P w K tg (Itl K a) [it] it (fun i h => h.IsListIter it a i) where
  mem := by simp
  obj := fun i h st b hb => by
    have e : b = it := by simpa using hb
    subst e
    obtain ⟨o, e, c, d⟩ := st
    exact ⟨o, e, fun v z => by rw [d] at z; cases z⟩
  keep := fun i h h' st k => st.at fun o e => k it (by simp) o e
  item := by
    intro X hP hw hK hc i pins s σ H E I hf st hg
    subst hP hw hK
    obtain ⟨xs, x, hq, hx⟩ := hg
    obtain ⟨its, rv, p, hz⟩ := I.list hq
    obtain ⟨u, hu, ru⟩ := rv.get hx
    obtain ⟨f0, f1, f2, f3, f4, f5⟩ := hf it (by simp)
    refine wpAny_pyNext_list_item st p.isList (x := u) (by simpa using hu) fun h' st' sb => ?_
    have I1 : Inv X pins σ H { s with heap := h' } := I.turned (t' := s.toks) (fun b o hb e => (sb.2 b hb).trans e) f0 f1 f3 f4 f5
    obtain ⟨o, e, c, d⟩ := id st'
    exact ⟨u, rfl, go_of (s := { s with heap := h' }) e c d (by decide) ⟨x, H, I1, ru, ⟨rfl, fun ys hy => by rw [I.list_inj hy hq]; exact hx⟩, st', fun b hb => (hf b hb).1⟩⟩
  done := by
    intro X hP hw hK hc i pins s σ H E I hf st hg
    subst hP hw hK
    obtain ⟨xs, hq, hx⟩ := hg
    obtain ⟨its, rv, p, hz⟩ := I.list hq
    obtain ⟨f0, f1, f2, f3, f4, f5⟩ := hf it (by simp)
    have hl := rv.length
    exact wpAny_pyNext_list_end (I.ok.hd hc) st p.isList (by simp; omega) fun h' eb => ⟨rfl, I.turned (t' := s.toks) (fun b o hb e => eb b o hb e) f0 f1 f3 f4 f5⟩
  self := fun _ _ _ _ _ st h => wpAny_pyIter_listiter st h
theorem turn_tuple {P : Program} {w : World} {K : PySem.W.Frag} {tg : Expr} (a it : Addr) : Turn P w K tg (Itt K a) [it] it (fun i h => h.IsTupleIter it a i) where
  mem := by simp
  obj := fun i h st b hb => by
    have e : b = it := by simpa using hb
    subst e
    obtain ⟨o, e, c, d⟩ := st
    exact ⟨o, e, fun v z => by rw [d] at z; cases z⟩
  keep := fun i h h' st k => st.at fun o e => k it (by simp) o e
  item := by
    intro X hP hw hK hc i pins s σ H E I hf st hg
    subst hP hw hK
    obtain ⟨xs, x, hq, hx⟩ := hg
    obtain ⟨its, rv, p, hz⟩ := I.tuple hq
    obtain ⟨u, hu, ru⟩ := rv.get hx
    obtain ⟨f0, f1, f2, f3, f4, f5⟩ := hf it (by simp)
    refine wpAny_pyNext_tuple_item st (show s.heap.IsTuple a its.toArray from p) (x := u) (by simpa using hu) fun h' st' sb => ?_
    have I1 : Inv X pins σ H { s with heap := h' } := I.turned (t' := s.toks) (fun b o hb e => (sb.2 b hb).trans e) f0 f1 f3 f4 f5
    obtain ⟨o, e, c, d⟩ := id st'
    exact ⟨u, rfl, go_of (s := { s with heap := h' }) e c d (by decide) ⟨x, H, I1, ru, ⟨rfl, fun ys hy => by rw [I.tuple_inj hy hq]; exact hx⟩, st', fun b hb => (hf b hb).1⟩⟩
  done := by
    intro X hP hw hK hc i pins s σ H E I hf st hg
    subst hP hw hK
    obtain ⟨xs, hq, hx⟩ := hg
    obtain ⟨its, rv, p, hz⟩ := I.tuple hq
    obtain ⟨f0, f1, f2, f3, f4, f5⟩ := hf it (by simp)
    have hl := rv.length
    exact wpAny_pyNext_tuple_end (I.ok.hd hc) st (show s.heap.IsTuple a its.toArray from p) (by simp; omega) fun h' eb => ⟨rfl, I.turned (t' := s.toks) (fun b o hb e => eb b o hb e) f0 f1 f3 f4 f5⟩
  self := fun _ _ _ _ _ st h => wpAny_pyIter_tupleiter st h
theorem turn_range {P : Program} {w : World} {K : PySem.W.Frag} {tg : Expr} (it : Addr) (lo : Int) (n : Nat) : Turn P w K tg (Itr lo n) [it] it (fun i h => IsRangeIter h it (lo + (i : Nat) * 1) ((n : Int) - (i : Nat)) 1) where
  mem := by simp
  obj := fun i h st b hb => by
    have e : b = it := by simpa using hb
    subst e
    exact ⟨_, st, fun v z => by
      have z' : Data.fields _ = Data.cell v := z
      cases z'⟩
  keep := fun i h h' st k => k it (by simp) _ st
  item := by
    intro X hP hw hK hc i pins s σ H E I hf st hg
    subst hP hw hK
    obtain ⟨f0, f1, f2, f3, f4, f5⟩ := hf it (by simp)
    have W := Walks.range (prog := X.prog) (w := X.w) (I.ok.hd hc) it lo 1 n
    refine W.item i s _ _ hg st fun v h' tk hv st' kk => ?_
    obtain ⟨t, rfl⟩ := hv
    have I1 : Inv X pins σ H { s with heap := h', toks := tk } := I.turned (fun b o hb e => kk b o (by simpa using hb) e) f0 f1 f3 f4 f5
    refine ⟨_, rfl, go_of (s := { s with heap := h', toks := tk }) (n := "range_iterator") st' rfl rfl (by decide) ⟨.int (lo + i), H, I1, ⟨t, ?_⟩, ⟨rfl, rfl⟩, st', fun b hb => (hf b hb).1⟩⟩
    rw [Int.mul_one]
  done := by
    intro X hP hw hK hc i pins s σ H E I hf st hg
    subst hP hw hK
    obtain ⟨f0, f1, f2, f3, f4, f5⟩ := hf it (by simp)
    exact wpAny_pyNext_range_end (I.ok.hd hc) st (by have : n ≤ i := hg; omega) fun h' eb => ⟨rfl, I.turned (t' := s.toks) (fun b o hb e => eb b o hb e) f0 f1 f3 f4 f5⟩
  self := fun _ _ _ _ _ st h => wpAny_pyIter_rangeiter st h
end L2

namespace L2
open PySem PySem.Spec PyProof.Rows
section
variable {X : Cx} {tg : Expr}
def iList (K : PySem.W.Frag) (tl : TE) : TI := fun σ H R => tl σ H fun x H1 => ∃ a, x = .ref a ∧ (∃ xs, SqL K H1 a xs) ∧ R (Itl K a) H1
def iTup (K : PySem.W.Frag) (tl : TE) : TI := fun σ H R => tl σ H fun x H1 => ∃ a, x = .ref a ∧ (∃ xs, SqT K H1 a xs) ∧ R (Itt K a) H1
/-- a range object just made, walked -/
theorem range_it {pins : List (Addr × Obj)} {σ : St} {H : Hp} {s : Shared} {R : It → Hp → Prop} {E : Value → Shared → Prop} {lo hi : Int} {t u v : Tok} {tk : Nat} (I : Inv X pins σ H s) (h1 : -(2 ^ 62) ≤ lo) (h2 : lo < 2 ^ 62) (h3 : -(2 ^ 62) ≤ hi) (h4 : hi < 2 ^ 62)
    (q : R (Itr lo (hi - lo).toNat) H) : wpAny (model X.prog X.w) X.A (pyIter (.ref s.heap.objs.size)) (PIE X pins σ tg R) E { s with heap := s.heap.push { cls := .type "range", data := .fields #[.int lo t, .int hi u, .int 1 v] }, toks := tk } := by
  refine wpAny_pyIter_range (IsRange.new ..) (small_one h1 h2 h3 h4) ?_
  have I1 : Inv X pins σ H { s with heap := s.heap.push { cls := .type "range", data := .fields #[.int lo t, .int hi u, .int 1 v] }, toks := tk } := I.kept fun b o e => Heap.get?_push_of_some _ e
  refine ⟨(s.heap.push { cls := .type "range", data := .fields #[.int lo t, .int hi u, .int 1 v] }).objs.size, [(s.heap.push { cls := .type "range", data := .fields #[.int lo t, .int hi u, .int 1 v] }).objs.size], _, _, H, rfl,
    I1.kept (t' := tk) fun b o e => Heap.get?_push_of_some _ e, turn_range _ lo (hi - lo).toNat, ?_, fun b hb => ?_, q⟩
  · have e1 : lo + ((0 : Nat) : Int) * 1 = lo := by simp
    have e2 : (((hi - lo).toNat : Nat) : Int) - ((0 : Nat) : Int) = Builtin.Range.rangeSize lo hi 1 := by rw [rangeSize_one]; split <;> omega
    show IsRangeIter _ _ (lo + ((0 : Nat) : Int) * 1) ((((hi - lo).toNat : Nat) : Int) - ((0 : Nat) : Int)) 1
    rw [e1, e2]
    exact Heap.get?_push_size _ rfl
  · have e : b = (s.heap.push { cls := .type "range", data := .fields #[.int lo t, .int hi u, .int 1 v] }).objs.size := by simpa using hb
    subst e
    exact I1.fpOk (Nat.le_refl _) (I1.hok.fresh (Nat.le_refl _))
def iRng1 (ta : TA) : TI := fun σ H R => ta σ H fun vs H1 => ∃ j : Int, vs = [.int j] ∧ -(2 ^ 62) ≤ j ∧ j < 2 ^ 62 ∧ R (Itr 0 j.toNat) H1
def iRng2 (ta : TA) : TI := fun σ H R => ta σ H fun vs H1 => ∃ i j : Int, vs = [.int i, .int j] ∧ (-(2 ^ 62) ≤ i ∧ i < 2 ^ 62 ∧ -(2 ^ 62) ≤ j ∧ j < 2 ^ 62) ∧ R (Itr i (j - i).toNat) H1
/-! ### for -/
/-- W: the invariant by the turn and a measure; N: what the body is to reach -/
def tFor (wi : TI) (g : TG) (tb : TS) : TS := fun D σ H => wi σ H fun J H1 => ∃ W : Nat → Nat → St → Hp → Prop, (∃ m, W 0 m σ H1) ∧ ∀ i m σ H, W i m σ H →
  (J.stop i H ∧ D.nx σ H) ∨ (J.go i H ∧ ∃ N : St → Hp → Prop, (∀ σ' H', N σ' H' → ∃ m', m' < m ∧ W (i + 1) m' σ' H') ∧ ∀ x H', J.yld i H x H' → g x σ H' fun σ2 H2 => tb { D with nx := N, ct := N, bk := D.nx } σ2 H2)
/-- the records at fp as they stand -/
def pinsAt (fp : List Addr) (h : Heap) : List (Addr × Obj) := fp.filterMap fun b => (h.get? b).map fun o => (b, o)
theorem mem_pinsAt {fp : List Addr} {h : Heap} {b : Addr} {o : Obj} (hb : b ∈ fp) (e : h.get? b = some o) : (b, o) ∈ pinsAt fp h := List.mem_filterMap.mpr ⟨b, hb, by rw [e]; rfl⟩
theorem of_pinsAt {fp : List Addr} {h : Heap} {p : Addr × Obj} (hp : p ∈ pinsAt fp h) : p.1 ∈ fp ∧ h.get? p.1 = some p.2 := by
  obtain ⟨b, hb, e⟩ := List.mem_filterMap.mp hp
  cases q : h.get? b with
  | none => rw [q] at e; cases e
  | some o =>
    rw [q] at e
    have e' : (b, o) = p := Option.some.inj e
    subst e'
    exact ⟨hb, q⟩
theorem Inv.pinned {pins : List (Addr × Obj)} {σ : St} {H : Hp} {s : Shared} {fp : List Addr} (I : Inv X pins σ H s) (hf : ∀ b ∈ fp, FpOk X pins H b) (ho : ∀ b ∈ fp, ∃ o, s.heap.get? b = some o ∧ ∀ v, o.data ≠ .cell v) : Inv X (pins ++ pinsAt fp s.heap) σ H s :=
  I.pins_of fun p hp => (List.mem_append.mp hp).elim (fun z => I.pin p (List.mem_append_right _ z)) fun z => by
    obtain ⟨hb, e⟩ := of_pinsAt z
    obtain ⟨f0, f1, f2, _⟩ := hf p.1 hb
    obtain ⟨o, e', d⟩ := ho p.1 hb
    rw [e] at e'; cases e'
    exact ⟨e, f0, f1, f2, d⟩
theorem Inv.unpinned {pins pl : List (Addr × Obj)} {σ : St} {H : Hp} {s : Shared} (I : Inv X (pins ++ pl) σ H s) : Inv X pins σ H s := I.pins_of fun p hp => I.pin p (List.mem_append_right _ (List.mem_append_left _ hp))
theorem ps_for {iter : Expr} {body : List Stmt} {wi : TI} {g : TG} {tb : TS} {pos : Pos} (hp : PassesOwn (model X.prog X.w) X.A X.env X.xe) (hc : X.calm = true) (hi : PI X tg iter wi) (hg : PG X tg g) (hb : PSs X body tb)
    (hs : ∀ x, foldedSetIterable iter X.env x = pure x := by intro _; rfl) : PS X (.For tg iter body [] pos) (tFor wi g tb) := by
  intro pins s σ H D I h
  refine wpAny_For (thn (hi pins s σ H _ I h) fun v s1 h1 => thn h1 fun itv s2 h2 => ?_) hs
  obtain ⟨it, fp, tn, J, H2, e, I2, T, st2, f2, W, ⟨m0, w0⟩, turn⟩ := h2
  subst e
  -- what stays true of the iterator's objects through the loop
  have stat : ∀ {H' : Hp}, (∀ b ∈ fp, H' b = none) → ∀ b ∈ fp, FpOk X pins H' b := fun hn b hb => ⟨hn b hb, (f2 b hb).2⟩
  refine codeAny_forLoop_any (fun n s' => ∃ i σ' H', Inv X pins σ' H' s' ∧ tn i s'.heap ∧ (∀ b ∈ fp, H' b = none) ∧ W i n σ' H') ?_ m0 ⟨0, σ, H2, I2, st2, fun b hb => (f2 b hb).1, w0⟩
  rintro n s3 ⟨i, σ3, H3, I3, st3, fr3, w3⟩
  rcases turn i n σ3 H3 w3 with ⟨stop, qn⟩ | ⟨go, N, hN, step⟩
  · refine wpAny_passesOwn hp (thn (T.done X rfl rfl rfl hc i pins s3 σ3 H3 X.xe I3 (stat fr3) st3 stop) fun r s4 ⟨hr, I4⟩ => ?_)
    subst hr
    exact wpAny_execs_nil ⟨σ3, H3, I4, qn⟩
  · refine wpAny_passesOwn hp (thn (T.item X rfl rfl rfl hc i pins s3 σ3 H3 X.xe I3 (stat fr3) st3 go) fun r s4 ⟨u, hr, h4⟩ => ?_)
    subst hr
    refine wpAny_passesOwn hp (thn h4 fun _ s5 ⟨x, H5, I5, r5, y5, st5, fr5⟩ => ?_)
    have I5' := I5.pinned (stat fr5) (T.obj _ _ st5)
    refine wpAny_passesOwn hp (thn (hg _ s5 σ3 H5 x u _ I5' r5 (step x H5 y5)) fun _ s6 ⟨σ6, H6, I6, q6⟩ => ?_)
    refine wpAny_passesOwn hp (thn (hb _ s6 σ6 H6 _ I6 q6) fun f s7 q7 => ?_)
    have again : ∀ {σ7 : St} {H7 : Hp}, Inv X (pins ++ pinsAt fp s5.heap) σ7 H7 s7 → N σ7 H7 → ∃ m, m < n ∧ ∃ i σ' H', Inv X pins σ' H' s7 ∧ tn i s7.heap ∧ (∀ b ∈ fp, H' b = none) ∧ W i m σ' H' := fun {σ7 H7} I7 n7 => by
      obtain ⟨m', hm, w7⟩ := hN σ7 H7 n7
      refine ⟨m', hm, i + 1, σ7, H7, I7.unpinned, T.keep _ _ _ st5 fun b hb o e => (I7.pin (b, o) (List.mem_append_right _ (List.mem_append_right _ (mem_pinsAt hb e)))).1, fun b hb => ?_, w7⟩
      obtain ⟨o, e, d⟩ := T.obj _ _ st5 b hb
      exact (I7.pin (b, o) (List.mem_append_right _ (List.mem_append_right _ (mem_pinsAt hb e)))).2.1
    cases f with
    | next => obtain ⟨σ7, H7, I7, n7⟩ := q7; exact again I7 n7
    | cont => obtain ⟨σ7, H7, I7, n7⟩ := q7; exact again I7 n7
    | brk => obtain ⟨σ7, H7, I7, q7⟩ := q7; exact ⟨σ7, H7, I7.unpinned, q7⟩
    | ret v => obtain ⟨x7, σ7, H7, I7, r7, q7⟩ := q7; exact ⟨x7, σ7, H7, I7.unpinned, r7, q7⟩
end

/-! ### the forms one uses -/
end L2

namespace L2
open PySem PySem.Spec PyProof.Rows

abbrev R2 := V → V → Hp → VK → Prop
/-- a two-place operation on values: f is binaryOp op, inplaceOp op or compareOp op -/
def OpR (X : Cx) (f : Value → Value → Sem Value) (r : R2) : Prop :=
  ∀ (pins : List (Addr × Obj)) (s : Shared) (σ : St) (H : Hp) (x y : V) (v u : Value) (Q : VK), Inv X pins σ H s → RelV x v → RelV y u → r x y H Q →
    wpAny (model X.prog X.w) X.A (f v u) (EP X pins σ Q) X.xe s
/-- a one-place operation -/
def UnR (X : Cx) (f : Value → Sem Value) (r : V → Hp → VK → Prop) : Prop :=
  ∀ (pins : List (Addr × Obj)) (s : Shared) (σ : St) (H : Hp) (x : V) (v : Value) (Q : VK), Inv X pins σ H s → RelV x v → r x H Q →
    wpAny (model X.prog X.w) X.A (f v) (EP X pins σ Q) X.xe s
/-- a call of a value that is known (a builtin, a type) with values -/
def CallR (X : Cx) (f : Value) (r : List V → Hp → VK → Prop) : Prop :=
  ∀ (pins : List (Addr × Obj)) (s : Shared) (σ : St) (H : Hp) (xs : List V) (us : List Value) (Q : VK), Inv X pins σ H s → Vals xs us → r xs H Q →
    wpAny (model X.prog X.w) X.A (call f us) (EP X pins σ Q) X.xe s
/-- a value's truth -/
def TruR (X : Cx) (r : V → Hp → (Bool → Hp → Prop) → Prop) : Prop :=
  ∀ (pins : List (Addr × Obj)) (s : Shared) (σ : St) (H : Hp) (x : V) (v : Value) (Q : Bool → Hp → Prop), Inv X pins σ H s → RelV x v → r x H Q →
    wpAny (model X.prog X.w) X.A (truthy v) (TP X pins σ Q) X.xe s

def tOp (r : R2) (ta tb : TE) : TE := fun σ H Q => ta σ H fun x H1 => tb σ H1 fun y H2 => r x y H2 Q
def tUn (r : V → Hp → VK → Prop) (ta : TE) : TE := fun σ H Q => ta σ H fun x H1 => r x H1 Q
/-- ints in, under C, and a value out -/
def rI (C : Int → Int → Prop) (g : Int → Int → V) : R2 := fun x y H Q => ∃ i j, x = .int i ∧ y = .int j ∧ C i j ∧ Q (g i j) H
def rI0 (g : Int → Int → V) : R2 := fun x y H Q => ∃ i j, x = .int i ∧ y = .int j ∧ Q (g i j) H
def rU (g : Int → V) : V → Hp → VK → Prop := fun x H Q => ∃ i, x = .int i ∧ Q (g i) H

section
variable {X : Cx} {a b c : Expr} {ta tb tc : TE} {pos : Pos}

theorem binT (ha : PE X a ta) (hb : PE X b tb) {pins : List (Addr × Obj)} {s : Shared} {σ : St} {H : Hp} {R : V → V → Hp → Prop} (I : Inv X pins σ H s)
    (h : ta σ H fun x H1 => tb σ H1 fun y H2 => R x y H2) {Q : Value → Shared → Prop} {f : Value → Value → Sem Value}
    (hf : ∀ v u s2 x y H2, Inv X pins σ H2 s2 → RelV x v → RelV y u → R x y H2 → wpAny (model X.prog X.w) X.A (f v u) Q X.xe s2) :
    wpAny (model X.prog X.w) X.A (eval a X.env) (fun v s₁ => wpAny (model X.prog X.w) X.A (eval b X.env) (fun u s₂ => wpAny (model X.prog X.w) X.A (f v u) Q X.xe s₂) X.xe s₁) X.xe s := by
  refine thn (ha pins s σ H _ I h) fun v s1 ⟨x, H1, I1, r1, q1⟩ => ?_
  refine thn (hb pins s1 σ H1 _ I1 q1) fun u s2 ⟨y, H2, I2, r2, q2⟩ => ?_
  exact hf v u s2 x y H2 I2 r1 r2 q2

theorem pe_op {op : Operator} {r : R2} (ho : OpR X (binaryOp op) r) (ha : PE X a ta) (hb : PE X b tb) : PE X (.BinOp a op b pos) (tOp r ta tb) := by
  intro pins s σ H Q I h
  exact wpAny_BinOp (binT ha hb I h fun v u s2 x y H2 I2 rx ry q => ho pins s2 σ H2 x y v u Q I2 rx ry q)
theorem pe_un {op : UnaryOp} {r : V → Hp → VK → Prop} (ho : UnR X (unaryOp op) r) (ha : PE X a ta) : PE X (.UnaryOp op a pos) (tUn r ta) := by
  intro pins s σ H Q I h
  exact UnaryOp_ (thn (ha pins s σ H _ I h) fun v s1 ⟨x, H1, I1, r1, q1⟩ => ho pins s1 σ H1 x v Q I1 r1 q1)
/-! ### ints -/
theorem opI {f : Value → Value → Sem Value} {C : Int → Int → Prop} {g : Int → Int → Int}
    (rule : ∀ (i j : Int) (t u : Tok) (s : Shared) (Q : Value → Shared → Prop) (E : Value → Shared → Prop), C i j → Q (.int (g i j) s.toks) { s with toks := s.toks + 1 } → wpAny (model X.prog X.w) X.A (f (.int i t) (.int j u)) Q E s) :
    OpR X f (rI C fun i j => .int (g i j)) := by
  intro pins s σ H x y v u Q I rx ry h
  obtain ⟨i, j, rfl, rfl, hc, q⟩ := h
  obtain ⟨t, rfl⟩ := rx
  obtain ⟨t', rfl⟩ := ry
  exact rule i j t t' s _ _ hc ⟨.int (g i j), H, I.tok _, ⟨_, rfl⟩, q⟩
theorem opI0 {f : Value → Value → Sem Value} {g : Int → Int → Int}
    (rule : ∀ (i j : Int) (t u : Tok) (s : Shared) (Q : Value → Shared → Prop) (E : Value → Shared → Prop), Q (.int (g i j) s.toks) { s with toks := s.toks + 1 } → wpAny (model X.prog X.w) X.A (f (.int i t) (.int j u)) Q E s) :
    OpR X f (rI0 fun i j => .int (g i j)) := by
  intro pins s σ H x y v u Q I rx ry h
  obtain ⟨i, j, rfl, rfl, q⟩ := h
  obtain ⟨t, rfl⟩ := rx
  obtain ⟨t', rfl⟩ := ry
  exact rule i j t t' s _ _ ⟨.int (g i j), H, I.tok _, ⟨_, rfl⟩, q⟩
theorem opB0 {f : Value → Value → Sem Value} {g : Int → Int → Bool}
    (rule : ∀ (i j : Int) (t u : Tok) (s : Shared) (Q : Value → Shared → Prop) (E : Value → Shared → Prop), Q (.bool (g i j)) s → wpAny (model X.prog X.w) X.A (f (.int i t) (.int j u)) Q E s) :
    OpR X f (rI0 fun i j => .bl (g i j)) := by
  intro pins s σ H x y v u Q I rx ry h
  obtain ⟨i, j, rfl, rfl, q⟩ := h
  obtain ⟨t, rfl⟩ := rx
  obtain ⟨t', rfl⟩ := ry
  exact rule i j t t' s _ _ ⟨.bl (g i j), H, I, rfl, q⟩

def CDiv (i j : Int) : Prop := 0 < j ∧ j < 1073741824
def CDivN (i j : Int) : Prop := j ≠ 0 ∧ j.natAbs < 1073741824
def CPow (i j : Int) : Prop := 0 ≤ j ∧ j ≤ 1000000 ∧ i.natAbs < 2 ^ 64
def CMul (i j : Int) : Prop := (-(2 ^ 64) < i ∧ i < 2 ^ 64) ∨ (-(2 ^ 64) < j ∧ j < 2 ^ 64)
theorem CMul.ok {i j : Int} (h : CMul i j) : IntMulOk i j := by
  rcases h with ⟨h1, h2⟩ | ⟨h1, h2⟩
  · exact .of_left (intBits_le_64 h1 h2)
  · exact .of_right (intBits_le_64 h1 h2)
theorem op_add : OpR X (binaryOp .Add) (rI0 fun i j => .int (i + j)) := opI0 fun _ _ _ _ _ _ _ q => add_int q
theorem op_sub : OpR X (binaryOp .Sub) (rI0 fun i j => .int (i - j)) := opI0 fun _ _ _ _ _ _ _ q => sub_int q
/-- // by a positive divisor -/
theorem op_fdiv : OpR X (binaryOp .FloorDiv) (rI CDiv fun i j => .int (i / j)) := opI fun i j _ _ _ _ _ hc q => by
  have h1 : (0 : Int) < j := hc.1
  have h2 : j < 1073741824 := hc.2
  exact floordiv_int (by omega) (by rw [Int.fdiv_eq_ediv_of_nonneg i (by omega)]; exact q) (.inl (PyProof.noPylong_small (by omega)))
/-- % by a positive divisor of any size -/
theorem op_mod : OpR X (binaryOp .Mod) (rI (fun _ j => 0 < j) fun i j => .int (i % j)) := opI fun i j _ _ _ _ _ hc q => by
  have h1 : (0 : Int) < j := hc
  exact mod_int' (by omega) (by rw [Int.fmod_eq_emod_of_nonneg i (by omega)]; exact q)
theorem op_pow : OpR X (binaryOp .Pow) (rI CPow fun i j => .int (i ^ j.toNat)) := opI fun _ _ _ _ _ _ _ hc q => pow_int_small hc.1 hc.2.1 hc.2.2 q
theorem unI {f : Value → Sem Value} {g : Int → Int}
    (rule : ∀ (i : Int) (t : Tok) (s : Shared) (Q : Value → Shared → Prop) (E : Value → Shared → Prop), Q (.int (g i) s.toks) { s with toks := s.toks + 1 } → wpAny (model X.prog X.w) X.A (f (.int i t)) Q E s) :
    UnR X f (rU fun i => .int (g i)) := by
  intro pins s σ H x v Q I rx h
  obtain ⟨i, rfl, q⟩ := h
  obtain ⟨t, rfl⟩ := rx
  exact rule i t s _ _ ⟨.int (g i), H, I.tok _, ⟨_, rfl⟩, q⟩
theorem un_neg : UnR X (unaryOp .USub) (rU fun i => .int (-i)) := unI fun _ _ _ _ _ q => neg_int q
/-! ### bools among ints: n += (a < b) -/
end

/-! ### comparisons -/
/-- the scalars that == tells apart as data does -/
def scal : V → V → Bool
  | .non, .non => true | .non, .int _ => true | .int _, .non => true | .non, .bl _ => true | .bl _, .non => true | .non, .str _ => true | .str _, .non => true
  | .int _, .int _ => true | .bl _, .bl _ => true | .str _, .str _ => true | .byt _, .byt _ => true
  | .int _, .str _ => true | .str _, .int _ => true | .bl _, .str _ => true | .str _, .bl _ => true
  | _, _ => false
def rEq : R2 := fun x y H Q => scal x y = true ∧ Q (.bl (decide (x = y))) H
def rNe : R2 := fun x y H Q => scal x y = true ∧ Q (.bl (!decide (x = y))) H

theorem dec_int {i j : Int} : decide (V.int i = V.int j) = (i == j) := by
  rw [Bool.eq_iff_iff]
  simp
theorem dec_bl {i j : Bool} : decide (V.bl i = V.bl j) = (i == j) := by
  rw [Bool.eq_iff_iff]
  simp
theorem dec_str {i j : Str} : decide (V.str i = V.str j) = (i == j) := by
  rw [Bool.eq_iff_iff]
  simp
theorem dec_byt {i j : Array UInt8} : decide (V.byt i = V.byt j) = (i.toList == j.toList) := by
  rw [Bool.eq_iff_iff]
  cases i
  cases j
  simp

section
variable {X : Cx} {a b c : Expr} {ta tb tc : TE} {pos : Pos}
theorem fin_bl {pins : List (Addr × Obj)} {σ : St} {H : Hp} {s : Shared} {Q : VK} {k k' : Bool} (I : Inv X pins σ H s) (q : Q (.bl k) H) (e : k = k') : EP X pins σ Q (.bool k') s := by
  subst e
  exact ⟨.bl k, H, I, rfl, q⟩
theorem op_eq : OpR X (compareOp .Eq) rEq := by
  intro pins s σ H x y v u Q I rx ry h
  obtain ⟨hs, q⟩ := h
  cases x with
  | non =>
    cases rx
    cases y with
    | non => cases ry; exact PySem.EqNone.eq_none_none (fin_bl I q (by simp))
    | bl j => cases ry; exact PySem.EqNone.eq_none_bool (fin_bl I q (by simp))
    | int j => obtain ⟨t', rfl⟩ := ry; exact PySem.EqNone.eq_none_int (fin_bl I q (by simp))
    | str j => obtain ⟨t', rfl⟩ := ry; exact PySem.EqNone.eq_none_str (fin_bl I q (by simp))
    | _ => exact absurd (show false = true from hs) Bool.false_ne_true
  | bl i =>
    cases rx
    cases y with
    | non => cases ry; exact PySem.EqNone.eq_bool_none (fin_bl I q (by simp))
    | bl j => cases ry; exact eq_bool (fin_bl I q dec_bl)
    | str j => obtain ⟨t', rfl⟩ := ry; exact PySem.EqMixed.eq_bool_str (fin_bl I q (by simp))
    | _ => exact absurd (show false = true from hs) Bool.false_ne_true
  | int i =>
    obtain ⟨t, rfl⟩ := rx
    cases y with
    | non => cases ry; exact PySem.EqNone.eq_int_none (fin_bl I q (by simp))
    | int j => obtain ⟨t', rfl⟩ := ry; exact eq_int (fin_bl I q dec_int)
    | str j => obtain ⟨t', rfl⟩ := ry; exact PySem.EqMixed.eq_int_str (fin_bl I q (by simp))
    | _ => exact absurd (show false = true from hs) Bool.false_ne_true
  | str i =>
    obtain ⟨t, rfl⟩ := rx
    cases y with
    | non => cases ry; exact PySem.EqNone.eq_str_none (fin_bl I q (by simp))
    | bl j => cases ry; exact PySem.EqMixed.eq_str_bool (fin_bl I q (by simp))
    | int j => obtain ⟨t', rfl⟩ := ry; exact PySem.EqMixed.eq_str_int (fin_bl I q (by simp))
    | str j => obtain ⟨t', rfl⟩ := ry; exact eq_str (fin_bl I q dec_str)
    | _ => exact absurd (show false = true from hs) Bool.false_ne_true
  | byt i =>
    obtain ⟨t, rfl⟩ := rx
    cases y with
    | byt j => obtain ⟨t', rfl⟩ := ry; exact PySem.W.eq_bytes (fin_bl I q dec_byt)
    | _ => exact absurd (show false = true from hs) Bool.false_ne_true
  | _ => cases y <;> exact absurd (show false = true from hs) Bool.false_ne_true
theorem op_ne : OpR X (compareOp .NotEq) rNe := by
  intro pins s σ H x y v u Q I rx ry h
  obtain ⟨hs, q⟩ := h
  cases x with
  | non =>
    cases rx
    cases y with
    | non => cases ry; exact PySem.EqNone.ne_none_none (fin_bl I q (by simp))
    | bl j => cases ry; exact PySem.EqNone.ne_none_bool (fin_bl I q (by simp))
    | int j => obtain ⟨t', rfl⟩ := ry; exact PySem.EqNone.ne_none_int (fin_bl I q (by simp))
    | str j => obtain ⟨t', rfl⟩ := ry; exact PySem.EqNone.ne_none_str (fin_bl I q (by simp))
    | _ => exact absurd (show false = true from hs) Bool.false_ne_true
  | bl i =>
    cases rx
    cases y with
    | non => cases ry; exact PySem.EqNone.ne_bool_none (fin_bl I q (by simp))
    | bl j => cases ry; exact ne_bool (fin_bl I q (congrArg not dec_bl))
    | str j => obtain ⟨t', rfl⟩ := ry; exact PySem.EqMixed.ne_bool_str (fin_bl I q (by simp))
    | _ => exact absurd (show false = true from hs) Bool.false_ne_true
  | int i =>
    obtain ⟨t, rfl⟩ := rx
    cases y with
    | non => cases ry; exact PySem.EqNone.ne_int_none (fin_bl I q (by simp))
    | int j => obtain ⟨t', rfl⟩ := ry; exact ne_int (fin_bl I q (congrArg not dec_int))
    | str j => obtain ⟨t', rfl⟩ := ry; exact PySem.EqMixed.ne_int_str (fin_bl I q (by simp))
    | _ => exact absurd (show false = true from hs) Bool.false_ne_true
  | str i =>
    obtain ⟨t, rfl⟩ := rx
    cases y with
    | non => cases ry; exact PySem.EqNone.ne_str_none (fin_bl I q (by simp))
    | bl j => cases ry; exact PySem.EqMixed.ne_str_bool (fin_bl I q (by simp))
    | int j => obtain ⟨t', rfl⟩ := ry; exact PySem.EqMixed.ne_str_int (fin_bl I q (by simp))
    | str j => obtain ⟨t', rfl⟩ := ry; exact ne_str (fin_bl I q (congrArg not dec_str))
    | _ => exact absurd (show false = true from hs) Bool.false_ne_true
  | byt i =>
    obtain ⟨t, rfl⟩ := rx
    cases y with
    | byt j => obtain ⟨t', rfl⟩ := ry; exact PySem.W.ne_bytes (fin_bl I q (congrArg not dec_byt))
    | _ => exact absurd (show false = true from hs) Bool.false_ne_true
  | _ => cases y <;> exact absurd (show false = true from hs) Bool.false_ne_true

theorem op_lt : OpR X (compareOp .Lt) (rI0 fun i j => .bl (decide (i < j))) := opB0 fun _ _ _ _ _ _ _ q => lt_int q
theorem op_le : OpR X (compareOp .LtE) (rI0 fun i j => .bl (decide (i ≤ j))) := opB0 fun _ _ _ _ _ _ _ q => le_int q
theorem op_gt : OpR X (compareOp .Gt) (rI0 fun i j => .bl (decide (j < i))) := opB0 fun _ _ _ _ _ _ _ q => gt_int q
theorem op_lt_str : OpR X (compareOp .Lt) (fun x y H Q => ∃ i j, x = .str i ∧ y = .str j ∧ Q (.bl (decide (i.cps.toList < j.cps.toList))) H) := by
  intro pins s σ H x y v u Q I rx ry h
  obtain ⟨i, j, rfl, rfl, q⟩ := h
  obtain ⟨t, rfl⟩ := rx
  obtain ⟨t', rfl⟩ := ry
  exact lt_str (fin_bl I q rfl)
/-- the one string within the other -/
theorem op_in_str : OpR X (compareOp .In) (fun x y H Q => ∃ i j, x = .str i ∧ y = .str j ∧ Q (.bl (!(Builtin.Str.occurrences j i 0 j.length 1).isEmpty)) H) := by
  intro pins s σ H x y v u Q I rx ry h
  obtain ⟨i, j, rfl, rfl, q⟩ := h
  obtain ⟨t, rfl⟩ := rx
  obtain ⟨t', rfl⟩ := ry
  exact in_str (fin_bl I q rfl)

/-- is, is not of two objects that are tracked lists or instances -/
def isObj : HO → Bool
  | .lst _ => true
  | .ins _ _ _ => true
  | _ => false
/-- two rules for one operation: by cases -/
theorem OpR.or {f : Value → Value → Sem Value} {r r' : R2} (h : OpR X f r) (h' : OpR X f r') : OpR X f (fun x y H Q => r x y H Q ∨ r' x y H Q) := by
  intro pins s σ H x y v u Q I rx ry q
  rcases q with q | q
  · exact h pins s σ H x y v u Q I rx ry q
  · exact h' pins s σ H x y v u Q I rx ry q

theorem nomark (b : Expr) {op : CmpOp} (h : op ≠ .In := by decide) (h2 : op ≠ .NotIn := by decide) : behindInMarks op b = false := by
  have e1 : (op == CmpOp.In) = false := by cases op <;> first | rfl | exact absurd rfl h
  have e2 : (op == CmpOp.NotIn) = false := by cases op <;> first | rfl | exact absurd rfl h2
  cases b <;> simp [behindInMarks, e1, e2]
/-- a comparison as a value; hm: nomark b, or (for in, not in) by with_unfolding_all rfl -/
theorem pe_cmpR {op : CmpOp} {r : R2} (ho : OpR X (compareOp op) r) (ha : PE X a ta) (hb : PE X b tb) (hm : behindInMarks op b = false) : PE X (.Compare a [op] [b] pos) (tOp r ta tb) := by
  intro pins s σ H Q I h
  exact wpAny_Compare1 (binT ha hb I h fun v u s2 x y H2 I2 rx ry q => ho pins s2 σ H2 x y v u Q I2 rx ry q) hm
/-- a reading of a value as a test -/
def tTest (t : TE) : TT := fun σ H Q => t σ H fun x H' => ∃ k, x = .bl k ∧ Q k H'
theorem pt_cmpR {op : CmpOp} {r : R2} (ho : OpR X (compareOp op) r) (ha : PE X a ta) (hb : PE X b tb) (hm : behindInMarks op b = false) : PT X (.Compare a [op] [b] pos) (tTest (tOp r ta tb)) := by
  intro pins s σ H Q I h
  refine wpAny_isTrue_Compare1 (thn (ha pins s σ H _ I h) fun v s1 ⟨x, H1, I1, r1, q1⟩ => thn (hb pins s1 σ H1 _ I1 q1) fun u s2 ⟨y, H2, I2, r2, q2⟩ =>
    thn (ho pins s2 σ H2 x y v u _ I2 r1 r2 q2) fun c s3 ⟨z, H3, I3, r3, k, e, q3⟩ => ?_) hm
  subst e
  cases r3
  exact wpAny_truthy_bool ⟨H3, I3, q3⟩
/-- a op1 b op2 c -/
def tChain (r r' : R2) (ta tb tc : TE) : TE := fun σ H Q => ta σ H fun x H1 => tb σ H1 fun y H2 => r x y H2 fun z H3 => ∃ k, z = .bl k ∧
  (if k = true then tc σ H3 fun w' H4 => r' y w' H4 Q else Q (.bl false) H3)
/-! ### truth -/
/-- a value's truth by the abstract heap -/
def TruV (K : PySem.W.Frag) (x : V) (H : Hp) (k : Bool) : Prop :=
  match x with
  | .non => k = false
  | .bl b => k = b
  | .int i => k = (i != 0)
  | .str y => y.length ≤ sizeLine ∧ k = ((y.length : Int) != 0)
  | .byt y => y.size ≤ sizeLine ∧ k = ((y.size : Int) != 0)
  | .ref p => (∃ xs, SqL K H p xs ∧ k = !xs.isEmpty) ∨ (∃ xs, SqT K H p xs ∧ k = !xs.isEmpty) ∨ ∃ kvs, H p = some (.dK kvs) ∧ k = !kvs.isEmpty
  | _ => False
theorem isEmpty_kv {κ : Type} {kvs : List (κ × V)} {vs : List (κ × Value)} (r : KV kvs vs) : (!vs.isEmpty) = !kvs.isEmpty := by
  cases r <;> rfl
theorem isEmpty_of {xs : List V} {its : List Value} (r : Vals xs its) : (!its.toArray.isEmpty) = !xs.isEmpty := by
  cases r <;> simp
theorem line63 : (sizeLine : Nat) < 2 ^ 63 := by rw [sizeLine_eq]; decide
theorem tru_ok : TruR X (fun x H Q => ∃ k, TruV X.K x H k ∧ Q k H) := by
  intro pins s σ H x v Q I rx h
  obtain ⟨k, e, q⟩ := h
  have hl := line63
  have hs : sizeLine = 16777216 := sizeLine_eq
  cases x with
  | non =>
    cases rx
    have e' : k = false := e
    subst e'
    exact truthy_none ⟨H, I, q⟩
  | bl b =>
    cases rx
    have e' : k = b := e
    subst e'
    exact wpAny_truthy_bool ⟨H, I, q⟩
  | int i =>
    obtain ⟨t, rfl⟩ := rx
    have e' : k = (i != 0) := e
    subst e'
    exact PySem.P.truthy_int ⟨H, I, q⟩
  | str y =>
    obtain ⟨t, rfl⟩ := rx
    obtain ⟨hy, e'⟩ : y.length ≤ sizeLine ∧ k = ((y.length : Int) != 0) := e
    subst e'
    exact PySem.P.truthy_str (by omega) ⟨H, I.tok _, q⟩
  | byt y =>
    obtain ⟨t, rfl⟩ := rx
    obtain ⟨hy, e'⟩ : y.size ≤ sizeLine ∧ k = ((y.size : Int) != 0) := e
    subst e'
    exact PySem.W.truthy_bytes (by omega) ⟨H, I.tok _, q⟩
  | ref p =>
    cases rx
    have e' : (∃ xs, SqL X.K H p xs ∧ k = !xs.isEmpty) ∨ (∃ xs, SqT X.K H p xs ∧ k = !xs.isEmpty) ∨ ∃ kvs, H p = some (.dK kvs) ∧ k = !kvs.isEmpty := e
    rcases e' with ⟨xs, hx, e'⟩ | ⟨xs, hx, e'⟩ | ⟨kvs, hx, e'⟩
    · subst e'
      obtain ⟨its, r, pl, hz⟩ := I.list hx
      have hlen := r.length
      exact wpAny_truthy_list pl.isList (by simp only [List.size_toArray]; omega) ⟨H, I.tok _, by rw [isEmpty_of r]; exact q⟩
    · subst e'
      obtain ⟨its, r, pl, hz⟩ := I.tuple hx
      have hlen := r.length
      exact truthy_tuple pl (by simp only [List.size_toArray]; omega) ⟨H, I.tok _, by rw [isEmpty_of r]; exact q⟩
    · subst e'
      obtain ⟨hz, hS, vs, r, m⟩ : kvs.length ≤ sizeLine ∧ (p == sysModules) = false ∧ ∃ vs, KV kvs vs ∧ s.heap.DictOf (mixKind X.prog X.w) p vs := I.hok p _ hx
      have hlen : kvs.length = vs.length := Paired.length r
      exact wpAny_truthy_dict hS m (by omega) ⟨H, I.tok _, by rw [isEmpty_kv r]; exact q⟩
  | _ => exact (show False from e).elim
/-- any expression whose test is its value's truth (a name, a call, a subscript, a field ..: he by fun _ => rfl) -/
theorem pt_truth (ha : PE X a ta) (he : ∀ whole, isTrue a X.env whole = (do let v ← whole; standAt a.pos; holding [v] (truthy v))) :
    PT X a (fun σ H Q => ta σ H fun x H' => ∃ k, TruV X.K x H' k ∧ Q k H') := by
  intro pins s σ H Q I h
  exact isTrue_plain (thn (ha pins s σ H _ I h) fun v s1 ⟨x, H1, I1, r1, q1⟩ => tru_ok pins s1 σ H1 x v Q I1 r1 q1) (he _)

/-! ### strs and bytes -/
theorem op_add_str : OpR X (binaryOp .Add) (fun x y H Q => ∃ i j, x = .str i ∧ y = .str j ∧ i.length + j.length ≤ sizeLine ∧ Q (.str (i ++ j)) H) := by
  intro pins s σ H x y v u Q I rx ry h
  obtain ⟨i, j, rfl, rfl, hz, q⟩ := h
  obtain ⟨t, rfl⟩ := rx
  obtain ⟨t', rfl⟩ := ry
  exact add_str (fun t' tk => ⟨.str (i ++ j), H, I.tok _, ⟨_, rfl⟩, q⟩) hz
def PlainIxT (b : Expr) : Prop := ∀ o i, subscripted b false o i = operate [o, i] (getItem o i)
/-! ### scalar builtins, by CallR -/
theorem vals1 {x : V} {us : List Value} (r : Vals [x] us) : ∃ u, us = [u] ∧ RelV x u := by
  cases r with
  | cons r1 r2 => cases r2; exact ⟨_, rfl, r1⟩
theorem vals2 {x y : V} {us : List Value} (r : Vals [x, y] us) : ∃ u w', us = [u, w'] ∧ RelV x u ∧ RelV y w' := by
  cases r with
  | cons r1 r2 =>
    cases r2 with
    | cons r3 r4 => cases r4; exact ⟨_, _, rfl, r1, r3⟩
theorem call_min2 (hc : X.calm = true) : CallR X (.builtin "min") (fun xs H Q => ∃ i j, xs = [.int i, .int j] ∧ Q (.int (if j < i then j else i)) H) := by
  intro pins s σ H xs us Q I r h
  obtain ⟨i, j, rfl, q⟩ := h
  obtain ⟨u, w', rfl, ⟨t, rfl⟩, ⟨t', rfl⟩⟩ := vals2 r
  refine min_two_ints (I.ok.hd hc) fun h' tk k => ⟨_, H, I.kept k, ?_, q⟩
  by_cases hj : j < i
  · rw [if_pos hj, if_pos hj]; exact ⟨_, rfl⟩
  · rw [if_neg hj, if_neg hj]; exact ⟨_, rfl⟩
/-- len of a str, a bytes, a list, a tuple -/
def LenV (K : PySem.W.Frag) (x : V) (H : Hp) (n : Nat) : Prop :=
  match x with
  | .str y => y.length ≤ sizeLine ∧ n = y.length
  | .byt y => y.size ≤ sizeLine ∧ n = y.size
  | .ref p => (∃ xs, SqL K H p xs ∧ n = xs.length) ∨ ∃ xs, SqT K H p xs ∧ n = xs.length
  | _ => False
end
end L2

namespace L2
open PySem PySem.Spec PyProof.Rows

/-! ### an instance, its attributes a map -/
structure ObjM (h : Heap) (x dx C : Addr) (mA : Str → Option Value) : Prop where
  obj : h.get? x = some (PySem.W.instObj C dx)
  ns : h.Ns1 dx mA
  ne : dx ≠ x

theorem lookIn_ns {h : Heap} {dx : Addr} {mA : Str → Option Value} (n : h.Ns1 dx mA) : ∃ od, h.get? dx = some od ∧ ∀ name, PySem.W.lookIn name od = some (mA name) := by
  obtain ⟨o, es, ep, ho, hd, hk, _, hm⟩ := n
  refine ⟨o, ho, fun name => ?_⟩
  have e := hm name
  unfold nsFind findBy at e
  rw [← Array.find?_toList] at e
  unfold PySem.W.lookIn
  rw [hd]
  dsimp only
  split
  · rename_i y q
    rw [q] at e
    exact congrArg some e
  · rename_i q
    rw [q] at e
    have a : es.toList.any (·.refKey) = false := by
      rw [List.any_eq_false]
      intro y hy
      obtain ⟨z, t, hkey⟩ := hk y (Array.mem_toList_iff.mp hy)
      simp [DictEntry.refKey, hkey]
    have a' : ¬ es.toList.any (·.refKey) = true := by rw [a]; exact Bool.false_ne_true
    rw [if_neg a']
    exact congrArg some e

theorem ObjM.look {h : Heap} {x dx C : Addr} {mA : Str → Option Value} (I : ObjM h x dx C mA) : ∃ od, PySem.W.InstAt h x (PySem.W.instObj C dx) C (some od) ∧ ∀ name, PySem.W.lookIn name od = some (mA name) :=
  let ⟨od, ho, hl⟩ := lookIn_ns I.ns
  ⟨od, ⟨I.obj, rfl, rfl, ho⟩, hl⟩

section
variable {prog : Program} {w : World} {A : Around} {E : Value → Shared → Prop} {s : Shared} {K : PySem.W.Frag} {x dx C f : Addr} {mA : Str → Option Value} {name : Str} {v : Value}

end

/-! ### the attributes as a list of pairs -/
def putF (f : Str) (v : V) : List (Str × V) → List (Str × V)
  | [] => [(f, v)]
  | (g, x) :: r => if g = f then (g, v) :: r else (g, x) :: putF f v r
theorem RelO.none_of {o : Option Value} (r : RelO none o) : o = none := by
  cases o with
  | none => rfl
  | some u => exact (show False from r).elim
section
variable {P : Program} {w : World} {H H' : Hp} {h h' : Heap} {a C dx : Addr} {fs fs' : List (Str × V)}
theorem ins_get (hok : HOk P w H h) (e : H a = some (.ins C dx fs)) : ∃ mA, ObjM h a dx C mA ∧ (∀ f, RelO (fs.lookup f) (mA f)) ∧ PySem.Within mA (fs.map (·.1)) ∧ fs.length ≤ 1000 ∧ H dx = some (.own a) := by
  obtain ⟨d, z, ne, ob, mA, n, r, q⟩ := (show ObjOk P w H h a (.ins C dx fs) from hok a _ e)
  exact ⟨mA, ⟨ob, n, ne⟩, r, q, z, d⟩
end

/-! ### what of the text a class must have -/
structure Cls (K : PySem.W.Frag) (C : Addr) : Prop where
  pg : PySem.W.plainGet K C Str.empty = true
  hd : PySem.W.hasDictIn K C = true
  po : PySem.W.plainOver K C = true
  sa : PySem.W.findIn K (.ref C) "__setattr__" = some (some (.builtin "object.__setattr__"))
theorem Cls.get {K : PySem.W.Frag} {C : Addr} (c : Cls K C) (f : Str) : PySem.W.plainGet K C f = true := c.pg
/-- no class of it has the name -/
def NoAttr (K : PySem.W.Frag) (C : Addr) (f : Str) : Prop := PySem.W.findIn K (.ref C) f = some none
/-- a constant of the class -/
structure Con (K : PySem.W.Frag) (C : Addr) (f : Str) (v : V) (u : Value) : Prop where
  at_ : PySem.W.findIn K (.ref C) f = some (some u)
  rel : RelV v u
  get : PySem.W.specialIn K u "__get__" = some none
  cp : PySem.W.copiedNames.contains f = false
/-- a method: a plain def of the class or of one above it -/
structure Meth (K : PySem.W.Frag) (C : Addr) (m : Str) (f : Addr) : Prop where
  at_ : PySem.W.findIn K (.ref C) m = some (some (.ref f))
  fn : PySem.W.isFn K (.ref f) = true
  kp : PySem.W.keepIn K (.ref f) = true

section
variable {X : Cx} {pins : List (Addr × Obj)} {σ : St} {H : Hp} {s : Shared} {a C dx : Addr} {fs : List (Str × V)} {f : Str} {v : V} {A : Around} {E : Value → Shared → Prop}

/-- a new instance, tracked, without attributes -/
theorem Inv.made (I : Inv X pins σ H s) : Inv X pins σ (upd (upd H s.heap.objs.size (.own (s.heap.objs.size + 1))) (s.heap.objs.size + 1) (.ins C s.heap.objs.size []))
    { s with heap := (s.heap.push PySem.W.emptyDict).push (PySem.W.instObj C s.heap.objs.size) } := by
  have e1 : (s.heap.push PySem.W.emptyDict).get? s.heap.objs.size = some PySem.W.emptyDict := Heap.get?_push_size s.heap rfl
  have e2 : ((s.heap.push PySem.W.emptyDict).push (PySem.W.instObj C s.heap.objs.size)).get? (s.heap.objs.size + 1) = some (PySem.W.instObj C s.heap.objs.size) := by
    have := Heap.get?_push_size (s.heap.push PySem.W.emptyDict) (o := PySem.W.instObj C s.heap.objs.size) rfl
    rwa [Heap.size_push] at this
  have e3 : (s.heap.push PySem.W.emptyDict).Ns s.heap.objs.size (fun _ => none) := ⟨PySem.W.emptyDict, #[], _, e1, rfl, (fun e he => absurd he (by simp)), fun _ => rfl⟩
  have I1 := I.laid (a := s.heap.objs.size) (o := .own (s.heap.objs.size + 1)) (h' := s.heap.push PySem.W.emptyDict) (t' := s.toks) (fun b u q => Heap.get?_push_of_some _ q) (Nat.le_refl _) ⟨_, e1⟩
  refine I1.laid (a := s.heap.objs.size + 1) (o := .ins C s.heap.objs.size []) (t' := s.toks) (fun b u q => Heap.get?_push_of_some _ q) (Nat.le_of_eq (Heap.size_push _ _)) ?_
  have ne : s.heap.objs.size ≠ s.heap.objs.size + 1 := Nat.ne_of_lt (Nat.lt_succ_self _)
  refine ⟨by rw [upd_ne ne, upd_same], Nat.zero_le _, ne, e2, fun _ => none, (Heap.Ns1.of_empty e3).at fun o q => Heap.get?_push_of_some _ q, fun _ => True.intro, fun y hy => absurd rfl hy⟩

end

/-! ### readings and rules -/
/-- e.f, an attribute of the instance -/
def tFld (K : PySem.W.Frag) (ta : TE) (f : Str) : TE := fun σ H Q => ta σ H fun x H1 => ∃ a C dx fs v, x = .ref a ∧ H1 a = some (.ins C dx fs) ∧ Cls K C ∧ NoAttr K C f ∧ fs.lookup f = some v ∧ Q v H1
/-- e.f, a constant of the class -/
def tCon (K : PySem.W.Frag) (ta : TE) (f : Str) : TE := fun σ H Q => ta σ H fun x H1 => ∃ a C dx fs v u, x = .ref a ∧ H1 a = some (.ins C dx fs) ∧ Cls K C ∧ Con K C f v u ∧ fs.lookup f = none ∧ Q v H1
/-- e.f = value -/
def sFld (K : PySem.W.Frag) (ta tv : TE) (f : Str) : TS := fun D σ H => tv σ H fun y H1 => ta σ H1 fun x H2 => ∃ a C dx fs, x = .ref a ∧ H2 a = some (.ins C dx fs) ∧ Cls K C ∧ NoAttr K C f ∧ fs.length < 1000 ∧
  D.nx σ (upd H2 a (.ins C dx (putF f y fs)))
/-- an augmented operator on two values -/
def InOp (X : Cx) (op : Operator) (rd : V → V → Hp → VK → Prop) : Prop :=
  ∀ (pins : List (Addr × Obj)) (s : Shared) (σ : St) (H : Hp) (x y : V) (u v : Value) (Q : VK), Inv X pins σ H s → RelV x u → RelV y v → rd x y H Q → wpAny (model X.prog X.w) X.A (inplaceOp op u v) (EP X pins σ Q) X.xe s
/-- e.f op= value -/
def sFldAug (K : PySem.W.Frag) (ta tv : TE) (rd : V → V → Hp → VK → Prop) (f : Str) : TS := fun D σ H => ta σ H fun x H1 => ∃ a C dx fs v, x = .ref a ∧ H1 a = some (.ins C dx fs) ∧ Cls K C ∧ NoAttr K C f ∧ fs.lookup f = some v ∧
  tv σ H1 fun y H2 => rd v y H2 fun z H3 => ∃ dx' fs', H3 a = some (.ins C dx' fs') ∧ fs'.length < 1000 ∧ D.nx σ (upd H3 a (.ins C dx' (putF f z fs')))

section
variable {X : Cx} {o e value : Expr} {f : Str} {pos pos' tpos : Pos} {ta tv : TE}
def rAdd : V → V → Hp → VK → Prop := fun x y H Q => ∃ i j, x = .int i ∧ y = .int j ∧ Q (.int (i + j)) H
def rSub : V → V → Hp → VK → Prop := fun x y H Q => ∃ i j, x = .int i ∧ y = .int j ∧ Q (.int (i - j)) H
end

/-! ### isinstance -/
section
variable {X : Cx} {pins : List (Addr × Obj)} {σ : St} {H : Hp} {s : Shared} {A : Around} {E : Value → Shared → Prop} {Q : Value → Shared → Prop} {c : Value} {b : Bool}
/-- the type of a value, as the fragment's deciders take it; for an instance its class -/
inductive TyOf (K : PySem.W.Frag) (H : Hp) : V → Value → Prop where
  | non : TyOf K H .non (.type "NoneType")
  | bl (x : Bool) : TyOf K H (.bl x) (.type "bool")
  | int (i : Int) : TyOf K H (.int i) (.type "int")
  | str (x : Str) : TyOf K H (.str x) (.type "str")
  | flt (x : UInt64) : TyOf K H (.flt x) (.type "float")
  | lst {a : Addr} {xs : List V} (e : H a = some (.lst xs)) : TyOf K H (.ref a) (.type "list")
  | frz {a : Addr} {o : Obj} {xs : List V} (e : H a = some (.frz o (.lst xs))) : TyOf K H (.ref a) (.type "list")
  | tup {a : Addr} {xs : List V} (e : H a = some (.tup xs)) : TyOf K H (.ref a) (.type "tuple")
  | dK {a : Addr} {kvs : List (Key × V)} (e : H a = some (.dK kvs)) : TyOf K H (.ref a) (.type "dict")
  | dT {a : Addr} {kvs : List (List Key × V)} (e : H a = some (.dT kvs)) : TyOf K H (.ref a) (.type "dict")
  | ins {a C dx : Addr} {fs : List (Str × V)} (e : H a = some (.ins C dx fs)) (cl : Cls K C) (ha : PySem.W.findIn K (.ref C) "__class__" = some (some (.builtin "object.__class__")))
      (hn : PySem.W.specialIn K (.builtin "object.__class__") "__get__" = some (some (.builtin "getset_descriptor.__get__"))) (htk : PySem.W.takesIn K (.builtin "object.__class__") = some true)
      (hm : PySem.W.mroIn K C (.type "object") = some true) : TyOf K H (.ref a) (.ref C)
/-- isinstance(x, c) for one class c, a built-in or an own one: kitOne's answer -/
theorem isinst_ok {x : V} {u t : Value} (I : Inv X pins σ H s) (rx : RelV x u) (ty : TyOf X.K H x t) (e : PySem.W.kitOne X.K t c = some b) (h : ∀ tk, Q (.bool b) { s with toks := tk }) :
    wpAny (model X.prog X.w) A (call (.builtin "isinstance") [u, c]) Q E s := by
  cases ty with
  | non => cases (show u = Value.none from rx); exact PySem.W.kia_one PySem.W.kitx_none I.kIn True.intro e (fun z => nomatch z) h
  | bl y => cases (show u = Value.bool y from rx); exact PySem.W.kia_one PySem.W.kitx_bool I.kIn True.intro e (fun z => nomatch z) h
  | int i => obtain ⟨t, q⟩ := (show ∃ t, u = Value.int i t from rx); cases q; exact PySem.W.kia_one PySem.W.kitx_int I.kIn True.intro e (fun z => nomatch z) h
  | str y => obtain ⟨t, q⟩ := (show ∃ t, u = Value.str y t from rx); cases q; exact PySem.W.kia_one PySem.W.kitx_str I.kIn True.intro e (fun z => nomatch z) h
  | flt y => obtain ⟨t, q⟩ := (show ∃ t, u = Value.float y t from rx); cases q; exact PySem.W.kia_one PySem.W.kitx_float I.kIn True.intro e (fun z => nomatch z) h
  | @lst a xs ea =>
    cases (show u = Value.ref a from rx)
    obtain ⟨_, _, n, _, h1⟩ := (show ObjOk X.prog X.w H s.heap a (.lst xs) from I.hok a _ ea)
    exact PySem.W.kia_one PySem.W.kitx_list I.kIn ⟨_, h1, rfl⟩ e (fun z => nomatch z) h
  | @frz a ob xs ea =>
    cases (show u = Value.ref a from rx)
    obtain ⟨_, _, _, n, _, h1⟩ := (show ObjOk X.prog X.w H s.heap a (.frz ob (.lst xs)) from I.hok a _ ea)
    exact PySem.W.kia_one PySem.W.kitx_list I.kIn ⟨_, h1, rfl⟩ e (fun z => nomatch z) h
  | @tup a xs ea =>
    cases (show u = Value.ref a from rx)
    obtain ⟨_, _, _, p⟩ := (show ObjOk X.prog X.w H s.heap a (.tup xs) from I.hok a _ ea)
    obtain ⟨o, h1, h2, _⟩ := p
    exact PySem.W.kia_one PySem.W.kitx_tuple I.kIn ⟨o, h1, h2⟩ e (fun z => nomatch z) h
  | @dK a kvs ea =>
    cases (show u = Value.ref a from rx)
    obtain ⟨_, _, vs, _, p⟩ := (show ObjOk X.prog X.w H s.heap a (.dK kvs) from I.hok a _ ea)
    obtain ⟨o, es, ep, h1, h2, _⟩ := p
    exact PySem.W.kia_one PySem.W.kitx_dict I.kIn ⟨o, h1, h2.1⟩ e (fun z => nomatch z) h
  | @dT a kvs ea =>
    cases (show u = Value.ref a from rx)
    obtain ⟨_, _, xs, _, o, es, ep, h1, h2, _⟩ := (show ObjOk X.prog X.w H s.heap a (.dT kvs) from I.hok a _ ea)
    exact PySem.W.kia_one PySem.W.kitx_dict I.kIn ⟨o, h1, h2.1⟩ e (fun z => nomatch z) h
  | @ins a C dx fs ea cl ha hn htk hm =>
    cases (show u = Value.ref a from rx)
    obtain ⟨mA, O, _⟩ := ins_get I.hok ea
    obtain ⟨od, J, _⟩ := O.look
    exact PySem.W.kia_one (PySem.W.kitx_own (cl.get _) cl.hd ha hn htk hm) I.kIn J e (fun z => nomatch z) h
end
end L2

namespace L2
open PySem PySem.Spec PyProof.Rows

/-! ### room -/
structure Room (k : Nat) (A : Around) : Prop where
  hd : A.handled = none
  dp : A.depth + 3 * k + 5 < recursionLimit
  un : A.units + 16 * k + 200 < cLine
theorem Room.mono {j k : Nat} {A : Around} (r : Room k A) (h : j ≤ k) : Room j A := ⟨r.hd, by have := r.dp; omega, by have := r.un; omega⟩
theorem Room.deeper {k : Nat} {A : Around} (r : Room (k + 1) A) (env : Env) : Room k (A.deeper env) :=
  ⟨r.hd, by have := r.dp; show A.depth + 1 + 3 * k + 5 < _; omega, by have := r.un; show A.units + 3 + 16 * k + 200 < _; omega⟩
theorem Room.in1 {k : Nat} {A : Around} (r : Room (k + 1) A) : Room k A.in1 :=
  ⟨r.hd, by have := r.dp; show A.depth + 3 * k + 5 < _; omega, by have := r.un; show A.units + 1 + 16 * k + 200 < _; omega⟩
theorem Room.depth {k : Nat} {A : Around} (r : Room k A) : A.depth < recursionLimit := by have := r.dp; omega
theorem Room.units {k : Nat} {A : Around} (r : Room k A) : A.units + 64 < cLine := by have := r.un; omega
/-! ### argument lists and displays -/
def tNil : TA := fun _ H Q => Q [] H
def tCons (ta : TE) (tr : TA) : TA := fun σ H Q => ta σ H fun x H1 => tr σ H1 fun xs H2 => Q (x :: xs) H2
section
variable {X : Cx} {e : Expr} {es : List Expr} {te : TE} {t : TA} {pos : Pos}
theorem pa_nil : PA X [] tNil := fun _ _ _ _ H Q I h => Calls.spliced_nil ⟨[], H, I, .nil, h⟩
theorem pa_cons (ha : PE X e te) (hr : PA X es t) (hs : starEach (e :: es) X.env = (false, eval e X.env) :: starEach es X.env := by rfl) : PA X (e :: es) (tCons te t) := by
  intro pos pins s σ H Q I h
  rw [hs]
  show wpAny _ _ (spliced ((false, eval e X.env) :: backTo pos (starEach es X.env))) _ _ s
  refine Calls.spliced_cons (thn (ha pins s σ H _ I h) fun u s1 ⟨x, H1, I1, r1, q1⟩ => ?_)
  exact thn (hr pos pins s1 σ H1 _ I1 q1) fun us s2 ⟨xs, H2, I2, r2, q2⟩ => ⟨x :: xs, H2, I2, .cons r1 r2, q2⟩

/-- a tuple, a list of written items -/
def tTup (t : TA) : TE := fun σ H Q => t σ H fun xs H1 => xs.length ≤ sizeLine ∧ ∀ p, H1 p = none → Q (.ref p) (upd H1 p (.tup xs))
def tLst (t : TA) : TE := fun σ H Q => t σ H fun xs H1 => xs.length ≤ sizeLine ∧ ∀ p, H1 p = none → Q (.ref p) (upd H1 p (.lst xs))
theorem pe_tup {x1} (h : PA X es t) : PE X (.Tuple es x1 pos) (tTup t) := by
  intro pins s σ H Q I hq
  refine wpAny_Tuple_spliced (thn (h pos pins s σ H _ I hq) fun us s1 ⟨xs, H1, I1, r, z, q⟩ => ⟨by rw [← r.length]; exact z, ?_⟩)
  have hf : H1 s1.heap.objs.size = none := I1.hok.fresh (Nat.le_refl _)
  refine ⟨.ref s1.heap.objs.size, upd H1 s1.heap.objs.size (.tup xs), I1.laid (t' := s1.toks) (fun b u e => Heap.get?_push_of_some _ e) (Nat.le_refl _) ?_, rfl, q _ hf⟩
  exact ⟨z, us, r, ⟨_, Heap.get?_push_size _ rfl, rfl, _, rfl⟩⟩
theorem pe_lst (h : PA X es t) : PE X (.List es pos) (tLst t) := by
  intro pins s σ H Q I hq
  refine wpAny_List_spliced (thn (h pos pins s σ H _ I hq) fun us s1 ⟨xs, H1, I1, r, z, q⟩ => ⟨by rw [← r.length]; exact z, ?_⟩)
  have hf : H1 s1.heap.objs.size = none := I1.hok.fresh (Nat.le_refl _)
  refine ⟨.ref s1.heap.objs.size, upd H1 s1.heap.objs.size (.lst xs), I1.laid (t' := s1.toks) (fun b u e => Heap.get?_push_of_some _ e) (Nat.le_refl _) ?_, rfl, q _ hf⟩
  exact ⟨z, us, 0, r, Heap.get?_push_size _ rfl⟩
end

/-! ### what a def promises -/
/-- a def's promise: the bound arguments in the parameters' order, the heap, the wanted end, the wanted exception -/
abbrev Sp := List V → Hp → VK → XK → Prop
/-- how an exception lies behind a call (file 08 gives it): the callers' frames, abstract heap and state ahead of the call, the wish, the exception, the state -/
abbrev CXT := List Env → Hp → Shared → XK → Value → Shared → Prop

/-- the state at a call -/
structure Env0 (P : Program) (w : World) (K : PySem.W.Frag) (mg : Str → Option Value) (base : Heap) (A : Around) (outer : List Env) (s : Shared) (H : Hp) : Prop where
  frames : A.frames = some outer
  mod : Mod K mg base
  bs : ∀ b o, base.get? b = some o → s.heap.get? b = some o ∧ H b = none
  bsz : base.objs.size ≤ s.heap.objs.size
  funs : s.heap.FunFrames base outer
  frf : ∀ b ∈ frs outer, H b = none
  hok : HOk P w H s.heap
  bare : AllBare s.gens
/-- a call's end -/
def CE (outer : List Env) (P : Program) (w : World) (H : Hp) (s : Shared) (Q : VK) (u : Value) (s' : Shared) : Prop :=
  ∃ v H', s'.os = s.os ∧ AllBare s'.gens ∧ Un (frs outer) [] H H' s.heap s'.heap ∧ HOk P w H' s'.heap ∧ RelV v u ∧ Q v H'
def CR (CX : CXT) (outer : List Env) (P : Program) (w : World) (H : Hp) (s : Shared) (Q : VK) (E : XK) (r : Result) (s' : Shared) : Prop :=
  match r with
  | .ok (.ret u) => CE outer P w H s Q u s'
  | .ok _ => False
  | .error e => CX outer H s E e s'
structure FnOk (P : Program) (w : World) (K : PySem.W.Frag) (mg : Str → Option Value) (base : Heap) (CX : CXT) (k : Nat) (f : Addr) (fd : FuncData) (ps : List Str) (sp : Sp) : Prop where
  len : ∀ vs H Q E, sp vs H Q E → vs.length = ps.length
  run : ∀ (A : Around) (outer : List Env) (s : Shared) (H : Hp) (args : Args) (us : List Value) (vs : List V) (Q : VK) (E : XK), Room k A → Env0 P w K mg base A outer s H → BindsTo s fd args (ps.zip us) → Vals vs us → sp vs H Q E →
    codeAny (model P w) A (.call (.ref f) args) (CR CX outer P w H s Q E) s
theorem FnOk.mono {P : Program} {w : World} {K : PySem.W.Frag} {mg : Str → Option Value} {base : Heap} {CX : CXT} {j k : Nat} {f : Addr} {fd : FuncData} {ps : List Str} {sp : Sp} (F : FnOk P w K mg base CX j f fd ps sp) (h : j ≤ k) :
    FnOk P w K mg base CX k f fd ps sp := ⟨F.len, fun A outer s H args us vs Q E hr => F.run A outer s H args us vs Q E (hr.mono h)⟩
/-- a weaker promise -/
theorem FnOk.imp {P : Program} {w : World} {K : PySem.W.Frag} {mg : Str → Option Value} {base : Heap} {CX : CXT} {k : Nat} {f : Addr} {fd : FuncData} {ps : List Str} {sp sp' : Sp} (F : FnOk P w K mg base CX k f fd ps sp)
    (h : ∀ vs H Q E, sp' vs H Q E → sp vs H Q E) : FnOk P w K mg base CX k f fd ps sp' :=
  ⟨fun vs H Q E q => F.len vs H Q E (h _ _ _ _ q), fun A outer s H args us vs Q E hr he hb hv hs => F.run A outer s H args us vs Q E hr he hb hv (h _ _ _ _ hs)⟩

theorem Env0.in1 {P : Program} {w : World} {K : PySem.W.Frag} {mg : Str → Option Value} {base : Heap} {A : Around} {outer : List Env} {s : Shared} {H : Hp} (e : Env0 P w K mg base A outer s H) :
    Env0 P w K mg base A.in1 outer s H := ⟨e.frames, e.mod, e.bs, e.bsz, e.funs, e.frf, e.hok, e.bare⟩

section
variable {X : Cx} {pins : List (Addr × Obj)} {σ : St} {H : Hp} {s s' : Shared}
/-- from a body: what a callee wants -/
theorem Inv.env0 (I : Inv X pins σ H s) : Env0 X.prog X.w X.K X.mg X.base X.A X.stack s H :=
  ⟨I.ok.frames, I.ok.mod, I.bs, Nat.le_trans I.ok.bsz I.sz, I.stack, I.stkFree, I.hok, I.bare⟩
/-- behind a call -/
theorem Inv.after {Q : VK} {u : Value} (I : Inv X pins σ H s) (h : CE X.stack X.prog X.w H s Q u s') : EP X pins σ Q u s' := by
  obtain ⟨v, H', os, bare, un, hok, r, q⟩ := h
  obtain ⟨hh, g, d, t, os'⟩ := s'
  obtain rfl : os' = s.os := os
  exact ⟨v, H', I.call (h' := hh) (g' := g) (d' := d) (t' := t) (ch := []) un hok bare (fun b z => absurd z (by simp)), r, q⟩
end

/-! ### calls -/
/-- f(..): the written arguments, then the defaults dvs; E: what is wanted of an exception -/
def tCall (sp : Sp) (dvs : List V) (E : XK) (t : TA) : TE := fun σ H Q => t σ H fun vs H1 => sp (vs ++ dvs) H1 Q E
/-- o.m(..) of an instance of the class at C -/
def tMeth (C : Addr) (m : Str) (sp : Sp) (dvs : List V) (E : XK) (ta : TE) (t : TA) : TE := fun σ H Q => ta σ H fun x H1 => ∃ a dx fs, x = .ref a ∧ H1 a = some (.ins C dx fs) ∧ fs.lookup m = none ∧
  t σ H1 fun vs H2 => sp (x :: (vs ++ dvs)) H2 Q E
/-- C(..): a new instance and its dict, then __init__ -/
def tMake (C : Addr) (sp : Sp) (dvs : List V) (E : XK) (t : TA) : TE := fun σ H Q => t σ H fun vs H1 => ∀ x dx, H1 x = none → H1 dx = none → dx ≠ x →
  sp (.ref x :: (vs ++ dvs)) (upd (upd H1 dx (.own x)) x (.ins C dx [])) (fun v H2 => v = .non ∧ Q (.ref x) H2) E

/-- how the parameters are bound: us the positional arguments, kw the keywords' values by name, ds the defaults that fill up -/
def Binds (K : PySem.W.Frag) (fd : FuncData) (ps : List Str) (ds : List Value) : Prop :=
  ∀ (s : Shared) (us : List Value), K.In s.heap → (us ++ ds).length = ps.length → BindsTo s fd ⟨us, []⟩ (ps.zip (us ++ ds))
/-- every parameter is given -/
theorem Binds.all {K : PySem.W.Frag} {fd : FuncData} {ps : List Str} (h : ∀ us : List Value, us.length = ps.length → bindArgs fd ⟨us, []⟩ = pure (ps.zip us)) : Binds K fd ps [] := fun s us _ hl => by
  rw [List.append_nil] at hl ⊢
  exact .of_eq (h us hl)

/-- an exception of a callee reaches what this body wants of exceptions -/
def Passes (CX : CXT) (X : Cx) (E : XK) : Prop := ∀ (pins : List (Addr × Obj)) (σ : St) (H : Hp) (s : Shared) (e : Value) (s' : Shared), Inv X pins σ H s → CX X.stack H s E e s' → X.xe e s'

section
variable {X : Cx} {CX : CXT} {k : Nat} {f C : Addr} {fd : FuncData} {ps : List Str} {sp : Sp} {dvs : List V} {ds : List Value} {E : XK} {x m : Str} {p pos apos : Pos} {e o : Expr} {es : List Expr} {ta : TE} {t : TA}

/-- the callee runs -/
theorem run_fn {pins : List (Addr × Obj)} {σ : St} {H : Hp} {s : Shared} {Q : VK} {us : List Value} {vs : List V} (F : FnOk X.prog X.w X.K X.mg X.base CX k f fd ps sp) (hr : Room k X.A) (hb : Binds X.K fd ps ds) (hd : Vals dvs ds) (hx : Passes CX X E)
    (I : Inv X pins σ H s) (r : Vals vs us) (h : sp (vs ++ dvs) H Q E) : wpAny (model X.prog X.w) X.A (call (.ref f) us) (EP X pins σ Q) X.xe s := by
  have r2 : Vals (vs ++ dvs) (us ++ ds) := r.append hd
  have hl : (us ++ ds).length = ps.length := by rw [← r2.length]; exact F.len _ _ _ _ h
  refine wpAny_call (codeAny_mono (F.run X.A X.stack s H ⟨us, []⟩ (us ++ ds) (vs ++ dvs) Q E hr I.env0 (hb s us I.kIn hl) r2 h) fun r s' hq => ?_)
  cases r with
  | error e => exact hx pins σ H s e s' I hq
  | ok fl =>
    cases fl with
    | ret u => exact I.after hq
    | next => exact False.elim hq
    | brk => exact False.elim hq
    | cont => exact False.elim hq

theorem pe_call (F : FnOk X.prog X.w X.K X.mg X.base CX k f fd ps sp) (hr : Room k X.A) (hg : Gl X x) (hm : X.mg x = some (.ref f)) (hk : PySem.W.keepIn X.K (.ref f) = true) (hb : Binds X.K fd ps ds) (hd : Vals dvs ds) (hx : Passes CX X E)
    (ha : PA X (e :: es) t) (hdb : (x == ("__debug__" : Str)) = false := by decide) (he : starEach (e :: es) X.env = (false, eval e X.env) :: starEach es X.env := by rfl) (hpl : (backTo pos (starEach es X.env)).any (·.1) = false := by rfl) :
    PE X (.Call (.Name x p) (e :: es) [] pos) (tCall sp dvs E t) := by
  intro pins s σ H Q I h
  refine wpAny_Call_Name_kw (ld_glob I hg hm ?_ hdb)
  refine PySem.W.callWith_K (h₀ := X.base) I.ok.mod.kin hk (thn (ha pos pins s σ H _ I h) fun us s1 ⟨vs, H1, I1, r, q⟩ => ⟨I1.kIn, ?_⟩) he hpl
  exact run_fn F hr hb hd hx I1 r q
/-- what a class must have to be made -/
structure Mk (K : PySem.W.Frag) (C f : Addr) : Prop where
  makes : PySem.W.makesIn K C = true
  init : PySem.W.findIn K (.ref C) "__init__" = some (some (.ref f))
  fn : PySem.W.isFn K (.ref f) = true
  kp : PySem.W.keepIn K (.ref C) = true

end

/-! ### keywords -/
/-- the values of the keywords, from the left -/
def PK (X : Cx) (kws : List Keyword) (t : TA) : Prop :=
  ∀ (pos : Pos) (pins : List (Addr × Obj)) (s : Shared) (σ : St) (H : Hp) (Q : List V → Hp → Prop), Inv X pins σ H s → t σ H Q → wpAny (model X.prog X.w) X.A (evalAll ((backToKw pos (keywordEach kws X.env)).map (·.2))) (AP X pins σ Q) X.xe s
section
variable {X : Cx} {CX : CXT} {k : Nat} {f C : Addr} {fd : FuncData} {ps ks : List Str} {sp : Sp} {E : XK} {x m : Str} {p pos apos kpos : Pos} {e o : Expr} {es : List Expr} {kws : List Keyword} {te ta : TE} {t tk : TA} {nm : Option Str}
/-- how a call with keywords binds: g puts the positional values us and the keywords' values ws (names ks) in the parameters' order, defaults among them -/
structure KBinds (K : PySem.W.Frag) (fd : FuncData) (ps ks : List Str) (g : List Value → List Value → List Value) (gV : List V → List V → List V) : Prop where
  to : ∀ (s : Shared) (us ws : List Value), K.In s.heap → (g us ws).length = ps.length → BindsTo s fd ⟨us, ks.zip ws⟩ (ps.zip (g us ws))
  rel : ∀ {vs : List V} {us : List Value} {zs : List V} {ws : List Value}, Vals vs us → Vals zs ws → Vals (gV vs zs) (g us ws)
def tCallK (sp : Sp) (gV : List V → List V → List V) (E : XK) (t tk : TA) : TE := fun σ H Q => t σ H fun vs H1 => tk σ H1 fun zs H2 => sp (gV vs zs) H2 Q E
variable {g : List Value → List Value → List Value} {gV : List V → List V → List V}
end

/-! ### a def's body keeps its promise -/
/-- names: the parameters first -/
structure FnScope (N P : List Str) (sc : Scope) : Prop where
  kind : sc.kind = .function
  co : sc.isCoroutine = false
  gen : sc.isGenerator = false
  nd : N.Nodup
  pre : N.take P.length = P
  par : ∀ x ∈ P, sc.names.lookup x = some .local ∨ sc.names.lookup x = some .cell
  nofree : ∀ y ∈ sc.names, y.2 ≠ .free

theorem bindL_out {kindOf : Str → Option NameKind} {x : Str} : ∀ {binds : List (Str × Value)} {m : Str → Option Value}, (∀ v, (x, v) ∉ binds) → bindL kindOf binds m x = m x
  | [], _, _ => rfl
  | (n, v) :: r, m, h => by
    unfold bindL
    rw [bindL_out fun w hw => h w (List.mem_cons_of_mem _ hw)]
    split
    · have : x ≠ n := by rintro rfl; exact h v List.mem_cons_self
      simp [this]
    · rfl
theorem bindC_out {kindOf : Str → Option NameKind} {x : Str} : ∀ {binds : List (Str × Value)} {m : Str → Option Value}, (∀ v, (x, v) ∉ binds) → bindC kindOf binds m x = m x
  | [], _, _ => rfl
  | (n, v) :: r, m, h => by
    unfold bindC
    rw [bindC_out fun w hw => h w (List.mem_cons_of_mem _ hw)]
    split
    · rfl
    · have : x ≠ n := by rintro rfl; exact h v List.mem_cons_self
      simp [this]
theorem bindL_get {kindOf : Str → Option NameKind} {x : Str} {v : Value} : ∀ {P : List Str} {vs : List Value} {i : Nat} {m : Str → Option Value}, P.Nodup → P[i]? = some x → vs[i]? = some v → kindOf x = some .local →
    bindL kindOf (P.zip vs) m x = some v
  | [], _, _, _, _, h, _, _ => by simp at h
  | _ :: _, [], _, _, _, _, h, _ => by simp at h
  | p :: P, w :: vs, 0, m, nd, h1, h2, hk => by
    simp at h1 h2; subst h1; subst h2
    show bindL kindOf ((p, w) :: P.zip vs) m p = _
    unfold bindL
    rw [bindL_out fun v hv => (List.nodup_cons.mp nd).1 (List.of_mem_zip hv).1, if_pos hk]
    simp
  | p :: P, w :: vs, i + 1, m, nd, h1, h2, hk => by
    show bindL kindOf ((p, w) :: P.zip vs) m x = _
    unfold bindL
    exact bindL_get (i := i) (List.nodup_cons.mp nd).2 (by simpa using h1) (by simpa using h2) hk
theorem bindC_get {kindOf : Str → Option NameKind} {x : Str} {v : Value} : ∀ {P : List Str} {vs : List Value} {i : Nat} {m : Str → Option Value}, P.Nodup → P[i]? = some x → vs[i]? = some v → kindOf x ≠ some .local →
    bindC kindOf (P.zip vs) m x = some v
  | [], _, _, _, _, h, _, _ => by simp at h
  | _ :: _, [], _, _, _, _, h, _ => by simp at h
  | p :: P, w :: vs, 0, m, nd, h1, h2, hk => by
    simp at h1 h2; subst h1; subst h2
    show bindC kindOf ((p, w) :: P.zip vs) m p = _
    unfold bindC
    rw [bindC_out fun v hv => (List.nodup_cons.mp nd).1 (List.of_mem_zip hv).1, if_neg hk]
    simp
  | p :: P, w :: vs, i + 1, m, nd, h1, h2, hk => by
    show bindC kindOf ((p, w) :: P.zip vs) m x = _
    unfold bindC
    exact bindC_get (i := i) (List.nodup_cons.mp nd).2 (by simpa using h1) (by simpa using h2) hk

/-- the names' values at the entry -/
def start (N : List Str) (vs : List V) : St := vs.map some ++ List.replicate (N.length - vs.length) none

/-- the context of a def's body, at its entry; an exception leaves the frame, then lies as CX says -/
def cxOf (CX : CXT) (P : Program) (w : World) (K : PySem.W.Frag) (mg : Str → Option Value) (base : Heap) (N : List Str) (qual : Str) (scope : Scope) (f : Addr) (cd : Value) (A : Around) (outer : List Env) (s : Shared) (H : Hp) (E : XK) : Cx where
  prog := P
  w := w
  K := K
  mg := mg
  base := base
  A := A.deeper (envOfC qual scope s.heap.objs.size f cd)
  N := N
  s₀ := s
  H₀ := H
  env := envOfC qual scope s.heap.objs.size f cd
  outer := outer
  stack := envOfC qual scope s.heap.objs.size f cd :: outer
  ex := []
  calm := true
  fn := fun _ => true
  pn := []
  xe := fun e s' => wpAny (model P w) (A.deeper (envOfC qual scope s.heap.objs.size f cd)) (leaving (envOfC qual scope s.heap.objs.size f cd) e) (fun _ s'' => CX outer H s E e s'') (fun e' s'' => CX outer H s E e' s'') s'

theorem cell_has {sc : Scope} {n : Nat} {x : Str} (h : sc.names.lookup x = some .cell) : ∃ c, (cellsFrom n sc.names []).lookup x = some c := by
  have q := PySem.W.cellsFrom_some sc.names n [] (.inl h)
  exact Option.isSome_iff_exists.mp q

theorem inv_start {CX : CXT} {P : Program} {w : World} {K : PySem.W.Frag} {mg : Str → Option Value} {base : Heap} {N ps : List Str} {qual : Str} {scope : Scope} {f : Addr} {cd : Value} {A : Around} {outer : List Env} {s s1 : Shared} {H : Hp} {E : XK} {us : List Value} {vs : List V}
    (S : FnScope N ps scope) (hd : A.handled = none) (e0 : Env0 P w K mg base A outer s H) (hl : vs.length = ps.length) (r : Vals vs us)
    (x : InCallC s s.heap.objs.size (bindL (envOfC qual scope s.heap.objs.size f cd).kindOf (ps.zip us) fun _ => none) (cellsFrom (s.heap.objs.size + 1) scope.names []) (bindC (envOfC qual scope s.heap.objs.size f cd).kindOf (ps.zip us) fun _ => none) s1) :
    Inv (cxOf CX P w K mg base N qual scope f cd A outer s H E) [] (start N vs) H s1 := by
  have hpl : ps.length ≤ N.length := by have := congrArg List.length S.pre; rw [List.length_take] at this; omega
  obtain ⟨h1, tk, rfl, hk⟩ := x.done
  have noA : ∀ b : Addr, b ∉ (cxOf CX P w K mg base N qual scope f cd A outer s H E).ex := fun b z => absurd (show b ∈ ([] : List Addr) from z) (by simp)
  refine ⟨⟨e0.mod, S.kind, rfl, rfl, Nat.le_refl _, fun y z c h1 h2 => ?_, fun y hy => ?_, fun y c _ h => ?_, fun _ => hd, Around.frames_deeper e0.frames, .inr ⟨rfl, rfl⟩, fun b z => absurd z (noA b), e0.bs, e0.bsz, fun b _ _ => noA b, fun b z => absurd z (noA b), e0.funs, e0.frf⟩,
    rfl, e0.bare, Un.kept hk, ⟨_, x.toInCall.ns, fun i y v h1 h2 h3 => ?_⟩, fun y c h => ⟨_, x.cell y c h⟩, e0.hok.fresh (Nat.le_refl _), fun y c h => ?_, fun p hp => absurd (show p ∈ ([] : List (Addr × Obj)) from hp) (by simp), e0.hok.kept hk, ?_⟩
  · exact name_of_addr x.apart (PySem.mem_of_lookup h1) (PySem.mem_of_lookup h2)
  · have hy : scope.names.lookup y = some .cell ∨ scope.names.lookup y = some .free := hy
    rcases hy with hy | hy
    · exact cell_has hy
    · exact absurd rfl (S.nofree _ (PySem.mem_of_lookup hy))
  · exact Nat.le_of_lt (x.above y c (PySem.mem_of_lookup h))
  · have hi : i < vs.length := by
      unfold start at h2
      by_cases hi : i < vs.length
      · exact hi
      · rw [List.getElem?_append_right (by simpa using hi)] at h2
        rw [List.getElem?_replicate] at h2
        split at h2 <;> cases h2
    have ha : vs[i]? = some v := by
      unfold start at h2
      rw [List.getElem?_append_left (by simpa using hi), List.getElem?_map] at h2
      cases e : vs[i]? with
      | none => rw [e] at h2; cases h2
      | some a => rw [e] at h2; cases h2; rfl
    obtain ⟨u, hu, rv⟩ := r.get ha
    have hp : ps[i]? = some y := by
      rw [← S.pre, List.getElem?_take_of_lt (by omega)]; exact h1
    have ndP : ps.Nodup := by rw [← S.pre]; exact S.nd.sublist (List.take_sublist _ _)
    refine ⟨u, rv, ?_⟩
    rcases S.par y (List.mem_of_getElem? hp) with k | k
    · exact .inl ⟨k, bindL_get ndP hp hu k⟩
    · obtain ⟨c, e⟩ := cell_has (n := s.heap.objs.size + 1) k
      refine .inr ⟨.inl k, c, e, ?_⟩
      have q := x.cell y c e
      rw [bindC_get ndP hp hu (by show scope.names.lookup y ≠ _; rw [k]; decide)] at q
      exact q
  · exact e0.hok.fresh (Nat.le_of_lt (x.above y c (PySem.mem_of_lookup h)))
  · unfold start
    show _ = N.length
    rw [List.length_append, List.length_map, List.length_replicate]
    omega

/-- THE RULE: a def (or a method) of the text, by its body. The body's reading t is chosen for each entry; it is run at the parameters' values -/
theorem fn_of {CX : CXT} {P : Program} {w : World} {K : PySem.W.Frag} {mg : Str → Option Value} {base : Heap} {k : Nat} {f : Addr} {name qual : Str} {params : Arguments} {body : List Stmt} {scope : Scope} {dV kV doc pm cdv ct oc : Value} {an od : Option Addr}
    {osl : Array (Option Value)} {N ps : List Str} {sp : Sp} (lk : K.lookup f = some ⟨oc, od, .func (PySem.W.fnOf name qual params body scope dV kV doc pm an cdv ct), osl⟩) (hcd : PySem.W.codeIn K cdv qual = true) (S : FnScope N ps scope)
    (len : ∀ vs H Q E, sp vs H Q E → vs.length = ps.length)
    (hbody : ∀ (A : Around) (outer : List Env) (s : Shared) (H : Hp) (vs : List V) (Q : VK) (E : XK), Room k (A.deeper (envOfC qual scope s.heap.objs.size f cdv)) → sp vs H Q E →
      ∃ t, PSs (cxOf CX P w K mg base N qual scope f cdv A outer s H E) body t ∧ t { nx := fun _ H' => Q .non H', rt := Q } (start N vs) H) :
    FnOk P w K mg base CX (k + 1) f (PySem.W.fnOf name qual params body scope dV kV doc pm an cdv ct) ps sp := by
  refine ⟨len, fun A outer s H args us vs Q E hr e0 hb r hsp => ?_⟩
  have hl := len _ _ _ _ hsp
  have KX : K.In s.heap := e0.mod.kin.keeps fun b o e => (e0.bs b o e).1
  have lim : s.heap.NoLimit := e0.mod.nolimit.keeps fun b o e => (e0.bs b o e).1
  have hkind : ∀ y ∈ ps.zip us, scope.names.lookup y.1 = some .local ∨ (scope.names.lookup y.1 = some .cell ∧ ((cellsFrom (s.heap.objs.size + 1) scope.names []).lookup y.1).isSome = true) := fun ⟨n, v⟩ hy => by
    rcases S.par n (List.of_mem_zip hy).1 with q | q
    · exact .inl q
    · exact .inr ⟨q, PySem.W.cellsFrom_some _ _ _ (.inl q)⟩
  refine codeAny_call_function hr.depth (KX _ _ lk) rfl S.co S.gen rfl (PySem.W.codeRec_of KX hcd) (hb _ _ _ _ ?_)
  refine wpAny_newFunctionEnv_cells S.kind hkind fun env he s1 x => ?_
  subst he
  refine ⟨lim.keeps x.toInCall.keep, codeAny_func ?_⟩
  obtain ⟨t, ht, hq⟩ := hbody A outer s H vs Q E (hr.deeper _) hsp
  have I : Inv (cxOf CX P w K mg base N qual scope f cdv A outer s H E) [] (start N vs) H s1 := inv_start S hr.hd e0 hl r x
  refine wpAny_mono (ht [] s1 (start N vs) H _ I hq) (fun fl s' hs => ?_) fun e s' hs => hs
  have fin : ∀ {σ' : St} {H' : Hp} {v : V} {u : Value}, Inv (cxOf CX P w K mg base N qual scope f cdv A outer s H E) [] σ' H' s' → RelV v u → Q v H' → CE outer P w H s Q u s' :=
    fun {σ' H' v u} J rv q => ⟨v, H', J.os, J.bare, J.base, J.hok, rv, q⟩
  cases fl with
  | ret u =>
    obtain ⟨v, σ', H', J, rv, q⟩ := hs
    exact fin J rv q
  | next =>
    obtain ⟨σ', H', J, q⟩ := hs
    exact fin (v := V.non) (u := Value.none) J rfl q
  | brk =>
    obtain ⟨_, _, _, q⟩ := hs
    exact False.elim q
  | cont =>
    obtain ⟨_, _, _, q⟩ := hs
    exact False.elim q
end L2

namespace L2
open PySem PySem.Spec PyProof.Rows
section
variable {X : Cx} {x : Str} {p pos : Pos} {e : Expr} {es : List Expr} {t : TA} {id T : String} {r : List V → Hp → VK → Prop}

def tCB (r : List V → Hp → VK → Prop) (t : TA) : TE := fun σ H Q => t σ H fun vs H1 => r vs H1 Q
/-- f(e, ..), f a built-in function -/
theorem pe_callB (hc : CallR X (.builtin id) r) (hg : Gl X x) (hm : X.mg x = none) (hv : bootBuiltins x = some (.builtin id)) (ha : PA X (e :: es) t) (hn : x ≠ "__name__" := by decide) (hdb : (x == ("__debug__" : Str)) = false := by decide)
    (he : starEach (e :: es) X.env = (false, eval e X.env) :: starEach es X.env := by rfl) (hpl : (backTo pos (starEach es X.env)).any (·.1) = false := by rfl) : PE X (.Call (.Name x p) (e :: es) [] pos) (tCB r t) := by
  intro pins s σ H Q I h
  refine wpAny_Call_Name_kw (ld_blt I hg hm hv ?_ hn hdb)
  exact PyProof.Rows.callWith_builtin1 (thn (ha pos pins s σ H _ I h) fun us s1 ⟨vs, H1, I1, r1, q1⟩ => hc pins s1 σ H1 vs us Q I1 r1 q1) he hpl
/-- T(e, ..), T a built-in type -/
theorem pe_callTy (hc : CallR X (.type T) r) (hg : Gl X x) (hm : X.mg x = none) (hv : bootBuiltins x = some (.type T)) (ha : PA X (e :: es) t) (hn : x ≠ "__name__" := by decide) (hdb : (x == ("__debug__" : Str)) = false := by decide)
    (he : starEach (e :: es) X.env = (false, eval e X.env) :: starEach es X.env := by rfl) (hpl : (backTo pos (starEach es X.env)).any (·.1) = false := by rfl) : PE X (.Call (.Name x p) (e :: es) [] pos) (tCB r t) := by
  intro pins s σ H Q I h
  refine wpAny_Call_Name_kw (ld_blt I hg hm hv ?_ hn hdb)
  exact PyProof.Rows.callWith_type1 (thn (ha pos pins s σ H _ I h) fun us s1 ⟨vs, H1, I1, r1, q1⟩ => hc pins s1 σ H1 vs us Q I1 r1 q1) he hpl
end
end L2

namespace HT
open PySem PyProof.Rows

/-- t < u of tuples of ints -/
def lexLt : List Int → List Int → Bool
  | [], [] => false
  | [], _ :: _ => true
  | _ :: _, [] => false
  | x :: xs, y :: ys => if x = y then lexLt xs ys else decide (x < y)
theorem rcLt_int (A : Around) (s : Shared) (a : Int) (t : Tok) (c : Int) (u : Tok) (prog : Program) (w : World) (E : Value → Shared → Prop) (Q : Value → Shared → Prop) (h : Q (.bool (decide (a < c))) s) :
    wpAny (model prog w) A (richCompare .Lt (.int a t) (.int c u)) Q E s :=
  (PyProof.Rows.lt_int h : wpAny (model prog w) A (compareOp .Lt (.int a t) (.int c u)) Q E s)

section
open PySem.SeqAt
open PySem.AutoSeq1 (wpAny_loadPart')
open PySem.MeetsSeq PySem.MeetsSeq2 PySem.MeetsSeq3

end

section
variable {prog : Program} {w : World} {A : Around} {E : Value → Shared → Prop} {s : Shared}

/-- t + u, t not empty -/
theorem cat_tup {t b : Addr} {vs ws : List Value} {Q : Value → Shared → Prop} (ht : IsTup s.heap t vs.toArray) (hb : IsTup s.heap b ws.toArray) (hv : vs ≠ [])
    (h1 : ws = [] → Q (.ref t) s) (h2 : ws ≠ [] → Q (.ref s.heap.objs.size) { s with heap := s.heap.push { cls := .type "tuple", data := .seq (vs ++ ws).toArray } })
    (hsz : vs.length + ws.length ≤ sizeLine) : wpAny (model prog w) A (binaryOp .Add (.ref t) (.ref b)) Q E s := by
  obtain ⟨⟨cls, dd, data, sl⟩, ho, hc, n, hd⟩ := id ht
  obtain ⟨⟨cls2, dd2, data2, sl2⟩, ho2, hc2, n2, hd2⟩ := id hb
  simp only at hc hd hc2 hd2
  subst hc hd hc2 hd2
  have e : vs.toArray ++ ws.toArray = (vs ++ ws).toArray := by simp
  by_cases hw : ws = []
  · exact concat_meets ⟨_, ho, rfl⟩ ⟨_, ho2, rfl⟩ noFill_tuple_add seq_tuple_add PySem.F.slot_tuple_add PySem.F.entry_tuple_add (PySem.F.args_tuple_add_2 _ _)
      (tuple_addW1 t b vs.toArray ws.toArray n n2 dd dd2 sl sl2 (by simpa using hv) (by simp [hw])) ⟨ho, ho2, h1 hw⟩
  · refine concat_meets ⟨_, ho, rfl⟩ ⟨_, ho2, rfl⟩ noFill_tuple_add seq_tuple_add PySem.F.slot_tuple_add PySem.F.entry_tuple_add (PySem.F.args_tuple_add_2 _ _)
      (tuple_addW2 t b vs.toArray ws.toArray n n2 dd dd2 sl sl2 (by simpa using hv) (by simpa using hw) (by rw [List.size_toArray, List.size_toArray]; exact hsz)) ⟨ho, ho2, ?_⟩
    rw [e]
    exact h2 hw

/-! ### t[a:b], not the whole -/
/-- a slice's bound as a place among n (d where it is left out) -/
def sIx (n d : Nat) : Option Int → Nat
  | none => d
  | some v => if v < 0 then (v + (n : Int)).toNat else min v.toNat n
theorem sIx_none (n d : Nat) : sIx n d none = d := rfl
theorem sIx_nat (n d k : Nat) : sIx n d (some (k : Int)) = min k n := by
  show (if (k : Int) < 0 then ((k : Int) + (n : Int)).toNat else min (k : Int).toNat n) = min k n
  rw [if_neg (by omega), Int.toNat_natCast]
theorem sIx_le (n d : Nat) (hd : d ≤ n) (o : Option Int) : sIx n d o ≤ n := by
  cases o with
  | none => exact hd
  | some v =>
    show (if v < 0 then (v + (n : Int)).toNat else min v.toNat n) ≤ n
    by_cases hv : v < 0
    · rw [if_pos hv]; omega
    · rw [if_neg hv]; exact Nat.min_le_right _ _
theorem clip_eq (v : Int) (n d : Nat) : (if v < 0 then max (v + (n : Int)) 0 else min v (n : Int)) = ((sIx n d (some v) : Nat) : Int) := by
  show (if v < 0 then max (v + (n : Int)) 0 else min v (n : Int)) = (((if v < 0 then (v + (n : Int)).toNat else min v.toNat n) : Nat) : Int)
  by_cases hv : v < 0
  · simp only [if_pos hv]; omega
  · simp only [if_neg hv]; omega
theorem adjust_gen (lo hi : Option Int) (n : Nat) : Builtin.Slice.sliceAdjust lo hi 1 (n : Int) = (((sIx n 0 lo : Nat) : Int), ((sIx n n hi : Nat) : Int)) := by
  have h1 : ¬ ((1 : Int) < 0) := by omega
  unfold Builtin.Slice.sliceAdjust
  simp only [h1, if_false]
  refine Prod.ext ?_ ?_
  · cases lo with
    | none => rfl
    | some v => exact clip_eq v n 0
  · cases hi with
    | none => rfl
    | some v => exact clip_eq v n n
theorem places_gen (i j : Nat) : Builtin.Slice.slicePlaces (i : Int) (j : Int) 1 = j - i := by
  unfold Builtin.Slice.slicePlaces
  have h1 : (1 : Int) > 0 := by omega
  simp only [h1, if_true, Int.ediv_one]
  split <;> omega
theorem slicePart_ {v : Value} {o : Option Int} {Q : Option Int → Shared → Prop} (p : IsPart v o) (h : Q o s) : wpAny (model prog w) A (Builtin.Slice.slicePartIndex v) Q E s := by
  cases p with
  | none => exact slicePart_none h
  | int i t => exact slicePart_int h
theorem sliceApplied_gen {sl : Addr} {vl vu : Value} {lo hi : Option Int} {n : Nat} {Q : Int × Int × Nat → Shared → Prop} (hs : s.heap.IsSliceOf sl vl vu .none) (pl : IsPart vl lo) (pu : IsPart vu hi)
    (h : Q (((sIx n 0 lo : Nat) : Int), 1, sIx n n hi - sIx n 0 lo) s) : wpAny (model prog w) A (Builtin.Slice.sliceApplied (.ref sl) (pure (n : Int))) Q E s := by
  obtain ⟨os, hos, hcs, hds⟩ := id hs
  unfold Builtin.Slice.sliceApplied Builtin.Slice.sliceFields
  refine wpAny_bind (wpAny_bind (wpAny_field hos hds (x := vl) rfl (wpAny_bind (wpAny_field hos hds (x := vu) rfl (wpAny_bind (wpAny_field hos hds (x := .none) rfl (wpAny_pure ?_)))))))
  refine wpAny_bind (slicePart_none ?_)
  show wpAny _ _ (if ((1 : Int) == 0) = true then _ else _) _ _ s
  rw [if_neg (by decide)]
  refine wpAny_bind (slicePart_ pl (wpAny_bind (slicePart_ pu (wpAny_bind (wpAny_pure ?_)))))
  show wpAny _ _ (match Builtin.Slice.sliceAdjust lo hi 1 (n : Int) with | (lo, hi) => pure (lo, (1 : Int), Builtin.Slice.slicePlaces lo hi 1)) _ _ s
  rw [adjust_gen lo hi n]
  show wpAny _ _ (pure (((sIx n 0 lo : Nat) : Int), (1 : Int), Builtin.Slice.slicePlaces ((sIx n 0 lo : Nat) : Int) ((sIx n n hi : Nat) : Int) 1)) _ _ s
  rw [places_gen]
  exact wpAny_pure h
theorem pick_gen (xs : Array Value) (i k : Nat) : ((List.range k).filterMap fun (m : Nat) => xs[((i : Int) + (m : Int) * 1).toNat]?).toArray = ((xs.toList.drop i).take k).toArray := by
  have e : (fun (m : Nat) => xs[((i : Int) + (m : Int) * 1).toNat]?) = fun m => xs[i + m]? := by
    funext m
    have : ((i : Int) + (m : Int) * 1).toNat = i + m := by omega
    rw [this]
  rw [e]
  have := pick_run xs i k
  rw [List.filterMap_map] at this
  have e2 : ((fun x => xs[x]?) ∘ fun x => i + x) = fun m => xs[i + m]? := rfl
  rw [e2] at this
  rw [this]

theorem getItem_tuple_cut {t sl : Addr} {items : Array Value} {vl vu : Value} {lo hi : Option Int} {Q : Value → Shared → Prop} (ht : IsTup s.heap t items) (hs : s.heap.IsSliceOf sl vl vu .none) (pl : IsPart vl lo) (pu : IsPart vu hi)
    (hw : ¬ (sIx items.size 0 lo = 0 ∧ sIx items.size items.size hi = items.size))
    (h : Q (.ref s.heap.objs.size) { s with heap := s.heap.push { cls := .type "tuple", data := .seq ((items.toList.drop (sIx items.size 0 lo)).take (sIx items.size items.size hi - sIx items.size 0 lo)).toArray } })
    (hsz : items.size ≤ sizeLine) : wpAny (model prog w) A (getItem (.ref t) (.ref sl)) Q E s := by
  have htake : sizeOk (.seq ((items.toList.drop (sIx items.size 0 lo)).take (sIx items.size items.size hi - sIx items.size 0 lo)).toArray) := by
    show ((items.toList.drop (sIx items.size 0 lo)).take (sIx items.size items.size hi - sIx items.size 0 lo)).toArray.size ≤ sizeLine
    rw [List.size_toArray, List.length_take, List.length_drop, Array.length_toList]
    omega
  have hj : sIx items.size items.size hi ≤ items.size := sIx_le _ _ (Nat.le_refl _) hi
  obtain ⟨os, hos, hcs, hds⟩ := id hs
  have hTs : s.TypeIs (.ref sl) "slice" := ⟨os, hos, hcs⟩
  unfold getItem
  try with_reducible refine wpAny_holding ?_
  first | refine wpAny_bind (wpAny_pure ?_) | skip
  refine wpAny_bind (wpAny_sequenceKey ht.typeIs (by decide) ?_)
  refine wpAny_bind (wpAny_callSpecial?_slot (name := Str.ofString "__getitem__") ht.typeIs PyProof.Rows.slot_tuple_getitem
    (wpAny_call_entry PyProof.Rows.slot_tuple_getitem ht.typeIs entry_tuple_getitem ?_ (args_tuple_getitem _ _)))
  show wpAny _ _ (Builtin.Tuple.tupleItemsOf (.ref t) >>= _) _ _ s
  refine wpAny_bind (tupleItemsOf_ ht ?_)
  refine wpAny_bind (wpAny_typeOf hTs ?_)
  rw [if_pos (by decide)]
  refine wpAny_bind (sliceApplied_gen hs pl pu ?_)
  have hno : ¬ ((((sIx items.size 0 lo : Nat) : Int) == 0 && (1 : Int) == 1 && (sIx items.size items.size hi - sIx items.size 0 lo) == items.size) = true) := by
    intro q
    rw [Bool.and_eq_true, Bool.and_eq_true] at q
    have q1 : ((sIx items.size 0 lo : Nat) : Int) = 0 := eq_of_beq q.1.1
    have q2 : sIx items.size items.size hi - sIx items.size 0 lo = items.size := eq_of_beq q.2
    exact hw ⟨by omega, by omega⟩
  show wpAny _ _ (if (((sIx items.size 0 lo : Nat) : Int) == 0 && (1 : Int) == 1 && (sIx items.size items.size hi - sIx items.size 0 lo) == items.size) = true then _ else _) _ _ s
  rw [if_neg hno, pick_gen]
  first
    | exact wpAny_bind (m := Builtin.Tuple.tupleExact _) (wpAny_newObj_type (wpAny_pure ⟨_, rfl, wpAny_pure h⟩) htake)
    | exact wpAny_bind (m := Builtin.Tuple.tupleExact _) (wpAny_newObj_type (wpAny_bind (wpAny_pure (wpAny_pure ⟨_, rfl, wpAny_pure h⟩))) htake)
    | exact wpAny_bind (wpAny_bind (m := Builtin.Tuple.tupleExact _) (wpAny_newObj_type (wpAny_pure (wpAny_pure ⟨_, rfl, wpAny_pure h⟩)) htake))
    | exact wpAny_bind (wpAny_bind (m := Builtin.Tuple.tupleExact _) (wpAny_newObj_type (wpAny_pure ⟨_, rfl, wpAny_pure h⟩) htake))
end
end HT

namespace L2
open PySem PySem.Spec PyProof.Rows

/-! ### the parts of a slice -/
abbrev TO := St → Hp → (Option Int → Hp → Prop) → Prop
/-- a slice's part (left out, or an int) -/
def PO (X : Cx) (e : Option Expr) (t : TO) : Prop :=
  ∀ (pins : List (Addr × Obj)) (s : Shared) (σ : St) (H : Hp) (Q : Option Int → Hp → Prop), Inv X pins σ H s → t σ H Q →
    wpAny (model X.prog X.w) X.A (evalPart e X.env) (fun u s' => ∃ o H', Inv X pins σ H' s' ∧ IsPart u o ∧ Q o H') X.xe s
def tNoPart : TO := fun _ H Q => Q none H
def tPart (t : TE) : TO := fun σ H Q => t σ H fun x H1 => ∃ i, x = .int i ∧ Q (some i) H1

section
variable {X : Cx} {e : Expr} {te : TE} {lo hi : Option Expr} {tl th : TO} {pos p2 : Pos}

theorem po_none : PO X none tNoPart := by
  intro pins s σ H Q I h
  rw [evalPart_none]
  exact wpAny_pure ⟨none, H, I, .none, h⟩
theorem po_some (h : PE X e te) : PO X (some e) (tPart te) := by
  intro pins s σ H Q I hw
  rw [evalPart_some]
  refine thn (h pins s σ H _ I hw) fun u s1 ⟨x, H1, I1, r1, q1⟩ => ?_
  obtain ⟨i, rfl, q⟩ := q1
  obtain ⟨t, rfl⟩ := r1
  exact ⟨some i, H1, I1, .int i t, q⟩

/-- what a slice of a value is, by values: the slice object stands at sl -/
def SlR (X : Cx) (r : V → Option Int → Option Int → Hp → VK → Prop) : Prop :=
  ∀ (pins : List (Addr × Obj)) (s : Shared) (σ : St) (H : Hp) (x : V) (v vl vu : Value) (lo hi : Option Int) (sl : Addr) (Q : VK), Inv X pins σ H s → RelV x v → s.heap.IsSliceOf sl vl vu .none → IsPart vl lo → IsPart vu hi → r x lo hi H Q →
    ∃ T id, typeLookup (.type T) "__getitem__" = pure (some (.builtin id)) ∧ s.TypeIs v T ∧ wpAny (model X.prog X.w) X.A (getItem v (.ref sl)) (EP X pins σ Q) X.xe s
theorem SlR.or {r r' : V → Option Int → Option Int → Hp → VK → Prop} (h : SlR X r) (h' : SlR X r') : SlR X (fun x lo hi H Q => r x lo hi H Q ∨ r' x lo hi H Q) := by
  intro pins s σ H x v vl vu lo hi sl Q I rx hs pl pu q
  rcases q with q | q
  · exact h pins s σ H x v vl vu lo hi sl Q I rx hs pl pu q
  · exact h' pins s σ H x v vl vu lo hi sl Q I rx hs pl pu q
def tSl (r : V → Option Int → Option Int → Hp → VK → Prop) (te : TE) (tl th : TO) : TE := fun σ H Q => te σ H fun x H1 => tl σ H1 fun l H2 => th σ H2 fun u H3 => r x l u H3 Q
/-- a[lo:hi], any a -/
theorem pe_slice {r : V → Option Int → Option Int → Hp → VK → Prop} (hr : SlR X r) (he : PE X e te) (hl : PO X lo tl) (hu : PO X hi th) : PE X (.Subscript e (.Slice lo hi none p2) pos) (tSl r te tl th) := by
  intro pins s σ H Q I h
  refine Subscript_ (thn (he pins s σ H _ I h) fun v s1 ⟨x, H1, I1, r1, q1⟩ => ?_)
  refine wpAny_Slice (thn (hl pins s1 σ H1 _ I1 q1) fun vl s2 ⟨l, H2, I2, pl, q2⟩ => thn (hu pins s2 σ H2 _ I2 q2) fun vu s3 ⟨u, H3, I3, pu, q3⟩ => ?_)
  rw [evalPart_none]
  refine wpAny_pure ?_
  have I4 : Inv X pins σ H3 { s3 with heap := s3.heap.push { cls := .type "slice", data := .fields #[vl, vu, .none] } } := I3.kept (t' := s3.toks) fun b ob q => Heap.get?_push_of_some _ q
  obtain ⟨T, id, hT, ht, hg⟩ := hr pins { s3 with heap := s3.heap.push { cls := .type "slice", data := .fields #[vl, vu, .none] } } σ H3 x v vl vu l u s3.heap.objs.size Q I4 r1 (Heap.IsSliceOf.new ..) pl pu q3
  show wpAny (model X.prog X.w) X.A (subscriptTail e (.Slice lo hi none p2) v (.ref s3.heap.objs.size)) (EP X pins σ Q) X.xe { s3 with heap := s3.heap.push { cls := .type "slice", data := .fields #[vl, vu, .none] } }
  exact tail_any (ops := [.ref s3.heap.objs.size, v]) ht hT hg (by with_unfolding_all rfl)

/-- the items of xs[lo:hi] -/
def cutV (xs : List V) (lo hi : Option Int) : List V := (xs.drop (HT.sIx xs.length 0 lo)).take (HT.sIx xs.length xs.length hi - HT.sIx xs.length 0 lo)
theorem cutV_length (xs : List V) (lo hi : Option Int) : (cutV xs lo hi).length ≤ xs.length := by
  unfold cutV
  rw [List.length_take, List.length_drop]
  omega
/-- t[lo:hi], not the whole of it (the whole would be t itself) -/
def rSlT (K : PySem.W.Frag) : V → Option Int → Option Int → Hp → VK → Prop := fun x lo hi H Q => ∃ a xs, x = .ref a ∧ SqT K H a xs ∧
  ¬ (HT.sIx xs.length 0 lo = 0 ∧ HT.sIx xs.length xs.length hi = xs.length) ∧ ∀ p, H p = none → Q (.ref p) (upd H p (.tup (cutV xs lo hi)))
theorem sl_tup : SlR X (rSlT X.K) := by
  intro pins s σ H x v vl vu lo hi sl Q I rx hs pl pu h
  obtain ⟨a, xs, rfl, hx, hw, q⟩ := h
  cases rx
  obtain ⟨its, r, ht, hz⟩ := I.tuple hx
  have hlen : its.toArray.size = xs.length := by rw [List.size_toArray]; exact r.length.symm
  refine ⟨"tuple", _, PyProof.Rows.slot_tuple_getitem.lookup, ht.typeIs, ?_⟩
  refine HT.getItem_tuple_cut ht hs pl pu (by rw [hlen]; exact hw) ?_ (by rw [hlen]; exact hz)
  rw [hlen]
  refine ⟨.ref s.heap.objs.size, _, I.laid (t' := s.toks) (o := .tup (cutV xs lo hi)) (fun b ob q => Heap.get?_push_of_some _ q) (Nat.le_refl _) ?_, rfl, q _ (I.hok.fresh (Nat.le_refl _))⟩
  exact ⟨Nat.le_trans (cutV_length xs lo hi) hz, _, (r.drop (HT.sIx xs.length 0 lo)).take (HT.sIx xs.length xs.length hi - HT.sIx xs.length 0 lo), IsTup.new _ _⟩

/-! ### t < u, t + u -/
def rLtT (K : PySem.W.Frag) : R2 := fun x y H Q => ∃ a b ns ms, x = .ref a ∧ y = .ref b ∧ SqT K H a (ns.map V.int) ∧ SqT K H b (ms.map V.int) ∧ Q (.bl (HT.lexLt ns ms)) H
/-- t + u, t not empty: u empty gives t itself -/
def rCatT (K : PySem.W.Frag) : R2 := fun x y H Q => ∃ a b xs ys, x = .ref a ∧ y = .ref b ∧ SqT K H a xs ∧ SqT K H b ys ∧ xs ≠ [] ∧ xs.length + ys.length ≤ sizeLine ∧
  (ys = [] → Q (.ref a) H) ∧ (ys ≠ [] → ∀ p, H p = none → Q (.ref p) (upd H p (.tup (xs ++ ys))))
theorem Vals.nil_iff {xs : List V} {us : List Value} (r : Vals xs us) : us = [] ↔ xs = [] := by
  cases r with
  | nil => simp
  | cons _ _ => simp
theorem op_catT : OpR X (binaryOp .Add) (rCatT X.K) := by
  intro pins s σ H x y v u Q I rx ry h
  obtain ⟨a, b, xs, ys, rfl, rfl, ha, hb, hx, hz, q1, q2⟩ := h
  cases rx
  cases ry
  obtain ⟨its, r1, p1, _⟩ := I.tuple ha
  obtain ⟨its2, r2, p2, _⟩ := I.tuple hb
  refine HT.cat_tup p1 p2 (fun z => hx (r1.nil_iff.mp z)) (fun z => ⟨.ref a, H, I, rfl, q1 (r2.nil_iff.mp z)⟩) (fun z => ?_) (by rw [← r1.length, ← r2.length]; exact hz)
  refine ⟨.ref s.heap.objs.size, _, I.laid (t' := s.toks) (o := .tup (xs ++ ys)) (fun b ob q => Heap.get?_push_of_some _ q) (Nat.le_refl _) ?_, rfl, q2 (fun w => z (r2.nil_iff.mpr w)) _ (I.hok.fresh (Nat.le_refl _))⟩
  exact ⟨by rw [List.length_append]; exact hz, _, r1.append r2, IsTup.new _ _⟩
end
end L2

namespace L2
open PySem PySem.Spec PyProof.Rows

/-! ### places -/
/-- the place that an index of any sign means -/
def ixN (n : Nat) (i : Int) : Option Nat := if 0 ≤ i then (if i < n then some i.toNat else none) else if -(n : Int) ≤ i then some (i + n).toNat else none
def atI {α : Type} (xs : List α) (i : Int) : Option α := (ixN xs.length i).bind fun j => xs[j]?
theorem ixN_seq {n : Nat} {i : Int} {j : Nat} (h : ixN n i = some j) : seqIndex? i n = some j ∧ j < n ∧ -(n : Int) ≤ i ∧ i < n := by
  unfold ixN at h
  by_cases h0 : 0 ≤ i
  · rw [if_pos h0] at h
    by_cases h1 : i < n
    · rw [if_pos h1] at h
      have e : i.toNat = j := Option.some.inj h
      exact ⟨by rw [seqIndex_of h0 h1, e], by omega, by omega, h1⟩
    · rw [if_neg h1] at h; cases h
  · rw [if_neg h0] at h
    by_cases h1 : -(n : Int) ≤ i
    · rw [if_pos h1] at h
      have e : (i + n).toNat = j := Option.some.inj h
      exact ⟨by rw [seqIndex_neg (by omega) h1, e], by omega, h1, by omega⟩
    · rw [if_neg h1] at h; cases h
theorem atI_get {α : Type} {xs : List α} {i : Int} {v : α} (h : atI xs i = some v) : ∃ j, seqIndex? i xs.length = some j ∧ xs[j]? = some v ∧ j < xs.length ∧ -(xs.length : Int) ≤ i ∧ i < xs.length := by
  unfold atI at h
  cases e : ixN xs.length i with
  | none => rw [e] at h; cases h
  | some j =>
    rw [e] at h
    obtain ⟨h1, h2, h3, h4⟩ := ixN_seq e
    exact ⟨j, h1, h, h2, h3, h4⟩
theorem atI_nat {α : Type} {xs : List α} {j : Nat} {v : α} (h : xs[j]? = some v) : atI xs (j : Int) = some v := by
  have hj : j < xs.length := (List.getElem?_eq_some_iff.mp h).1
  have e : ixN xs.length (j : Int) = some j := by
    unfold ixN
    rw [if_pos (by omega), if_pos (by omega)]; simp
  unfold atI; rw [e]; exact h
/-! ### what may be subscripted -/
/-- what stands as an index of a plain subscript -/
def PlainIx (b : Expr) : Prop := ∀ o i, subscripted b false o i = operate [o, i] (getItem o i)
/-- a subscript by values -/
def IxR (X : Cx) (r : R2) : Prop :=
  ∀ (value slice : Expr) (pins : List (Addr × Obj)) (s : Shared) (σ : St) (H : Hp) (x y : V) (v u : Value) (Q : VK), Inv X pins σ H s → RelV x v → RelV y u → r x y H Q →
    subscripted slice false v u = operate [v, u] (getItem v u) → wpAny (model X.prog X.w) X.A (subscriptTail value slice v u) (EP X pins σ Q) X.xe s
/-- a call of a builtin's method by values: the receiver, the arguments -/
def MtR (X : Cx) (id : String) (r : V → List V → Hp → VK → Prop) : Prop :=
  ∀ (pins : List (Addr × Obj)) (s : Shared) (σ : St) (H : Hp) (x : V) (xs : List V) (v : Value) (us : List Value) (Q : VK), Inv X pins σ H s → RelV x v → Vals xs us → r x xs H Q →
    wpAny (model X.prog X.w) X.A (call (.builtin id) (v :: us)) (EP X pins σ Q) X.xe s
section
variable {X : Cx} {a b : Expr} {ta tb : TE} {pos : Pos}
theorem IxR.or {r r' : R2} (h : IxR X r) (h' : IxR X r') : IxR X (fun x y H Q => r x y H Q ∨ r' x y H Q) := by
  intro value slice pins s σ H x y v u Q I rx ry q hs
  rcases q with q | q
  · exact h value slice pins s σ H x y v u Q I rx ry q hs
  · exact h' value slice pins s σ H x y v u Q I rx ry q hs
theorem MtR.or {id : String} {r r' : V → List V → Hp → VK → Prop} (h : MtR X id r) (h' : MtR X id r') : MtR X id (fun x xs H Q => r x xs H Q ∨ r' x xs H Q) := by
  intro pins s σ H x xs v us Q I rx rs q
  rcases q with q | q
  · exact h pins s σ H x xs v us Q I rx rs q
  · exact h' pins s σ H x xs v us Q I rx rs q
/-- a[b] -/
theorem pe_ix {r : R2} (hr : IxR X r) (ha : PE X a ta) (hb : PE X b tb) (hs : PlainIx b) : PE X (.Subscript a b pos) (tOp r ta tb) := by
  intro pins s σ H Q I h
  exact Subscript_ (binT ha hb I h fun v u s2 x y H2 I2 rx ry q => hr a b pins s2 σ H2 x y v u Q I2 rx ry q (hs _ _))

def rIxL (K : PySem.W.Frag) : R2 := fun x y H Q => ∃ p xs i v, x = .ref p ∧ y = .int i ∧ SqL K H p xs ∧ atI xs i = some v ∧ Q v H
def rIxT (K : PySem.W.Frag) : R2 := fun x y H Q => ∃ p xs i v, x = .ref p ∧ y = .int i ∧ SqT K H p xs ∧ atI xs i = some v ∧ Q v H
def rIxS : R2 := fun x y H Q => ∃ z i c, x = .str z ∧ y = .int i ∧ z.length ≤ sizeLine ∧ atI z.cps.toList i = some c ∧ Q (.str ⟨#[c]⟩) H
theorem ix_list : IxR X (rIxL X.K) := by
  intro value slice pins s σ H x y v u Q I rx ry h hs
  obtain ⟨p, xs, i, z, rfl, rfl, hq, he, q⟩ := h
  cases rx
  obtain ⟨t, rfl⟩ := ry
  obtain ⟨its, r, pl, hz⟩ := I.list hq
  obtain ⟨j, h1, h2, h3, h4, h5⟩ := atI_get he
  obtain ⟨w, ew, rw'⟩ := r.get h2
  have hl := r.length
  have hn := line63
  have fin : EP X pins σ Q w s := ⟨z, H, I, rw', q⟩
  by_cases h0 : 0 ≤ i
  · have hj : i.toNat = j := by
      rw [seqIndex_of h0 h5] at h1
      exact Option.some.inj h1
    exact item_listR pl.isList h0 (by omega) (by rw [hj]; simpa using ew) fin hs
  · have hj : (i + (its.toArray.size : Int)).toNat = j := by
      rw [seqIndex_neg (by omega) h4] at h1
      rw [List.size_toArray, ← hl]
      exact Option.some.inj h1
    exact subscriptTail_builtinR (x := w) pl.isList.typeIs slot_list_getitem.lookup
      (wpAny_getItem_list_neg (Q := fun r s' => r = w ∧ EP X pins σ Q r s') pl.isList (by omega) (by rw [List.size_toArray] <;> omega) (by omega) (by rw [hj]; simpa using ew) ⟨rfl, fin⟩) hs
theorem ix_tup : IxR X (rIxT X.K) := by
  intro value slice pins s σ H x y v u Q I rx ry h hs
  obtain ⟨p, xs, i, z, rfl, rfl, hq, he, q⟩ := h
  cases rx
  obtain ⟨t, rfl⟩ := ry
  obtain ⟨its, r, pl, hz⟩ := I.tuple hq
  obtain ⟨j, h1, h2, h3, h4, h5⟩ := atI_get he
  obtain ⟨w, ew, rw'⟩ := r.get h2
  have hl := r.length
  have hn := line63
  have fin : EP X pins σ Q w s := ⟨z, H, I, rw', q⟩
  exact subscriptTail_builtinR (x := w) pl.typeIs slot_tuple_getitem.lookup
    (getItem_tuple (j := j) (Q := fun r s' => r = w ∧ EP X pins σ Q r s') pl (by omega) (by omega) (by rw [List.size_toArray, ← hl]; exact h1) (by simpa using ew) ⟨rfl, fin⟩) hs
theorem ix_str : IxR X rIxS := by
  intro value slice pins s σ H x y v u Q I rx ry h hs
  obtain ⟨z, i, c, rfl, rfl, hz, he, q⟩ := h
  obtain ⟨t, rfl⟩ := rx
  obtain ⟨t', rfl⟩ := ry
  obtain ⟨j, h1, h2, h3, h4, h5⟩ := atI_get he
  have hl : z.cps.toList.length = z.length := by simp [Str.length]
  rw [hl] at h1 h4 h5
  have hn := line63
  exact tail_any (typeIs_str s z t) slot_str_getitem.lookup (getItem_str (c := c) (by
    have e1 : decide (i < -(2 ^ 63 : Int)) = false := decide_eq_false (by omega)
    have e2 : decide (i ≥ 2 ^ 63) = false := decide_eq_false (by omega)
    rw [e1, e2, Bool.or_false]) (by rw [h1]; simpa using h2) ⟨.str ⟨#[c]⟩, H, I.tok _, ⟨_, rfl⟩, q⟩) hs
/-- list, tuple or str -/
def rIx (K : PySem.W.Frag) : R2 := fun x y H Q => rIxL K x y H Q ∨ rIxT K x y H Q ∨ rIxS x y H Q
theorem ix_seq : IxR X (rIx X.K) := ix_list.or (ix_tup.or ix_str)

/-! ### xs[i] = v, any sign -/
theorem Inv.lst {pins : List (Addr × Obj)} {σ : St} {H : Hp} {s : Shared} {p : Addr} {xs : List V} (I : Inv X pins σ H s) (h : H p = some (.lst xs)) :
    ∃ (its : List Value) (n : Nat), Vals xs its ∧ s.heap.get? p = some { cls := .type "list", data := .seq its.toArray n } ∧ xs.length ≤ sizeLine := by
  obtain ⟨z, its, n, r, e⟩ := I.hok p _ h
  exact ⟨its, n, r, e, z⟩
def rSetL : V → V → V → Hp → (Hp → Prop) → Prop := fun o i v H Q => ∃ p xs k j, o = .ref p ∧ i = .int k ∧ H p = some (.lst xs) ∧ ixN xs.length k = some j ∧ Q (upd H p (.lst (xs.set j v)))
/-! ### slices -/
theorem slice_bounds (lo hi : Option Int) (n : Nat) : (sliceBounds lo hi none n).1 = ((HT.sIx n 0 lo : Nat) : Int) ∧ (sliceBounds lo hi none n).2.1 = ((HT.sIx n n hi : Nat) : Int) ∧ (sliceBounds lo hi none n).2.2 = 1 := by
  refine ⟨?_, ?_, rfl⟩
  · cases lo with
    | none => simp [sliceBounds, HT.sIx]
    | some i =>
      simp only [sliceBounds, HT.sIx, Option.getD_none, show (1 : Int) > 0 by decide, if_true]
      by_cases h : i < 0
      · simp only [h, if_true] <;> omega
      · simp only [h, if_false] <;> omega
  · cases hi with
    | none => simp [sliceBounds, HT.sIx]
    | some i =>
      simp only [sliceBounds, HT.sIx, Option.getD_none, show (1 : Int) > 0 by decide, if_true]
      by_cases h : i < 0
      · simp only [h, if_true] <;> omega
      · simp only [h, if_false] <;> omega
theorem slicePick_cut (its : List Value) (lo hi : Option Int) : slicePick its.toArray lo hi none = ((its.drop (HT.sIx its.length 0 lo)).take (HT.sIx its.length its.length hi - HT.sIx its.length 0 lo)).toArray := by
  obtain ⟨h1, h2, h3⟩ := slice_bounds lo hi its.toArray.size
  unfold slicePick
  rw [h1, h2, h3]
  simp only [sliceRange_one, pick_run, List.size_toArray] <;> rfl
/-- xs[lo:hi] of a list: a new list -/
def rSlL (K : PySem.W.Frag) : V → Option Int → Option Int → Hp → VK → Prop := fun x lo hi H Q => ∃ a xs, x = .ref a ∧ SqL K H a xs ∧ ∀ p, H p = none → Q (.ref p) (upd H p (.lst (cutV xs lo hi)))
theorem sl_list : SlR X (rSlL X.K) := by
  intro pins s σ H x v vl vu lo hi sl Q I rx hs pl pu h
  obtain ⟨a, xs, rfl, hx, q⟩ := h
  cases rx
  obtain ⟨its, r, ht, hz⟩ := I.list hx
  have hlen := r.length
  refine ⟨"list", _, slot_list_getitem.lookup, ht.isList.typeIs, ?_⟩
  refine wpAny_getItem_list_slice ht.isList hs pl pu .none (by simp) ?_ (by rw [List.size_toArray] <;> omega)
  rw [slicePick_cut, ← hlen]
  refine ⟨.ref s.heap.objs.size, _, I.laid (t' := s.toks) (o := .lst (cutV xs lo hi)) (fun b ob q => Heap.get?_push_of_some _ q) (Nat.le_refl _) ?_, rfl, q _ (I.hok.fresh (Nat.le_refl _))⟩
  exact ⟨Nat.le_trans (cutV_length xs lo hi) hz, _, 0, (r.drop (HT.sIx xs.length 0 lo)).take (HT.sIx xs.length xs.length hi - HT.sIx xs.length 0 lo), Heap.get?_push_size _ rfl⟩

/-! ### in, not in: flat items -/
def flatV : V → Bool
  | .non => true
  | .bl _ => true
  | .int _ => true
  | .str _ => true
  | _ => false
/-- == of flat values -/
def eqV : V → V → Bool
  | .non, .non => true
  | .bl a, .bl b => a == b
  | .bl a, .int b => (if a then 1 else 0) == b
  | .int a, .bl b => a == (if b then 1 else 0)
  | .int a, .int b => a == b
  | .str a, .str b => a == b
  | _, _ => false
theorem eqAt_V {A : Around} {s : Shared} {y x : V} {u v : Value} (ry : RelV y u) (rx : RelV x v) (fy : flatV y = true) (fx : flatV x = true) : SeqAt.EqAt A s u v (eqV y x) := by
  cases y with
  | non =>
    cases ry
    cases x with
    | non => cases rx; exact SeqAt.EqAt.same _
    | bl b => cases rx; exact SeqAt.EqAt.none_bool b
    | int b => obtain ⟨t, rfl⟩ := rx; exact SeqAt.EqAt.none_int b t
    | str b => obtain ⟨t, rfl⟩ := rx; exact SeqAt.EqAt.none_str b t
    | _ => exact absurd (show false = true from fx) Bool.false_ne_true
  | bl a =>
    cases ry
    cases x with
    | non => cases rx; exact SeqAt.EqAt.bool_none a
    | bl b => cases rx; exact SeqAt.EqAt.bool_bool a b
    | int b => obtain ⟨t, rfl⟩ := rx; exact SeqAt.EqAt.bool_int a b t
    | str b => obtain ⟨t, rfl⟩ := rx; exact SeqAt.EqAt.bool_str a b t
    | _ => exact absurd (show false = true from fx) Bool.false_ne_true
  | int a =>
    obtain ⟨t', rfl⟩ := ry
    cases x with
    | non => cases rx; exact SeqAt.EqAt.int_none a t'
    | bl b => cases rx; exact SeqAt.EqAt.int_bool a t' b
    | int b => obtain ⟨t, rfl⟩ := rx; exact SeqAt.EqAt.int_int a t' b t
    | str b => obtain ⟨t, rfl⟩ := rx; exact SeqAt.EqAt.int_str a t' b t
    | _ => exact absurd (show false = true from fx) Bool.false_ne_true
  | str a =>
    obtain ⟨t', rfl⟩ := ry
    cases x with
    | non => cases rx; exact SeqAt.EqAt.str_none a t'
    | bl b => cases rx; exact SeqAt.EqAt.str_bool a t' b
    | int b => obtain ⟨t, rfl⟩ := rx; exact SeqAt.EqAt.str_int a t' b t
    | str b => obtain ⟨t, rfl⟩ := rx; exact SeqAt.EqAt.str_str a t' b t
    | _ => exact absurd (show false = true from fx) Bool.false_ne_true
  | _ => exact absurd (show false = true from fy) Bool.false_ne_true
/-- the items' answers, read off the values (a value's own answer does not lean on its token) -/
def eqU (x : V) (u : Value) : Bool := match u with
  | .none => eqV .non x
  | .bool b => eqV (.bl b) x
  | .int i _ => eqV (.int i) x
  | .str z _ => eqV (.str z) x
  | _ => false
theorem eqU_of {x y : V} {u : Value} (r : RelV y u) (f : flatV y = true) : eqU x u = eqV y x := by
  cases y with
  | non => cases r; rfl
  | bl b => cases r; rfl
  | int i => obtain ⟨t, rfl⟩ := r; rfl
  | str z => obtain ⟨t, rfl⟩ := r; rfl
  | _ => exact absurd (show false = true from f) Bool.false_ne_true
theorem any_eqU {x : V} : ∀ {xs : List V} {us : List Value}, Vals xs us → xs.all flatV = true → us.any (eqU x) = xs.any fun y => eqV y x
  | _, _, .nil, _ => rfl
  | y :: xs, u :: us, .cons r t, f => by
    rw [List.all_cons, Bool.and_eq_true] at f
    rw [List.any_cons, List.any_cons, eqU_of r f.1, any_eqU t f.2]
theorem mem_eqAt {A : Around} {s : Shared} {x : V} {v : Value} (rx : RelV x v) (fx : flatV x = true) : ∀ {xs : List V} {us : List Value}, Vals xs us → xs.all flatV = true → ∀ u ∈ us, SeqAt.EqAt A s u v (eqU x u)
  | _, _, .nil, _ => fun u hu => by cases hu
  | y :: xs, u :: us, .cons r t, f => fun u' hu => by
    rw [List.all_cons, Bool.and_eq_true] at f
    rcases List.mem_cons.mp hu with rfl | hu
    · rw [eqU_of r f.1]; exact eqAt_V r rx f.1 fx
    · exact mem_eqAt rx fx t f.2 u' hu
def inV (x : V) (xs : List V) : Bool := xs.any fun y => eqV y x
/-- x in a list or tuple of flat items -/
def rIn (K : PySem.W.Frag) (neg : Bool) : R2 := fun x y H Q => ∃ p xs, y = .ref p ∧ (SqL K H p xs ∨ SqT K H p xs) ∧ flatV x = true ∧ xs.all flatV = true ∧ Q (.bl (if neg then !inV x xs else inV x xs)) H
theorem op_in_seq : OpR X (compareOp .In) (rIn X.K false) := by
  intro pins s σ H x y v u Q I rx ry h
  obtain ⟨p, xs, rfl, hq, fx, fs, q⟩ := h
  cases ry
  rcases hq with hq | hq
  · obtain ⟨its, r, pl, hz⟩ := I.list hq
    refine SeqAt.in_listAt (eqU x) pl.isList (fun w hw => mem_eqAt rx fx r fs w (by simpa using hw)) ⟨.bl _, H, I, rfl, ?_⟩
    rw [show its.toArray.any (eqU x) = its.any (eqU x) by simp, any_eqU r fs]
    exact q
  · obtain ⟨its, r, pl, hz⟩ := I.tuple hq
    refine SeqAt.in_tupleAt (eqU x) pl (fun w hw => mem_eqAt rx fx r fs w (by simpa using hw)) ⟨.bl _, H, I, rfl, ?_⟩
    rw [show its.toArray.any (eqU x) = its.any (eqU x) by simp, any_eqU r fs]
    exact q
/-! ### len, list(x), tuple(x) of any list or tuple that is read -/
theorem call_len_seq : CallR X (.builtin "len") (fun xs H Q => ∃ p ys, xs = [.ref p] ∧ (SqL X.K H p ys ∨ SqT X.K H p ys) ∧ Q (.int ys.length) H) := by
  intro pins s σ H xs us Q I r h
  obtain ⟨p, ys, rfl, hq, q⟩ := h
  obtain ⟨u, rfl, rx⟩ := vals1 r
  cases rx
  have hn := line63
  rcases hq with hq | hq
  · obtain ⟨its, r', pl, hz⟩ := I.list hq
    have hlen := r'.length
    exact Calls.call_len_list pl.isList (by simp only [List.size_toArray] <;> omega) ⟨.int ys.length, H, I.tok _, ⟨s.toks + 1, by rw [List.size_toArray, hlen]⟩, q⟩
  · obtain ⟨its, r', pl, hz⟩ := I.tuple hq
    have hlen := r'.length
    exact len_tuple pl (by simp only [List.size_toArray] <;> omega) ⟨.int ys.length, H, I.tok _, ⟨s.toks + 1, by rw [List.size_toArray, hlen]⟩, q⟩
theorem call_len_str : CallR X (.builtin "len") (fun xs H Q => ∃ z, xs = [.str z] ∧ z.length ≤ sizeLine ∧ Q (.int z.length) H) := by
  intro pins s σ H xs us Q I r h
  obtain ⟨z, rfl, hz, q⟩ := h
  obtain ⟨u, rfl, t, rfl⟩ := vals1 r
  have hn := line63
  exact len_str (by omega) ⟨.int z.length, H, I.tok _, ⟨_, rfl⟩, q⟩
theorem CallR.or {f : Value} {r r' : List V → Hp → VK → Prop} (h : CallR X f r) (h' : CallR X f r') : CallR X f (fun xs H Q => r xs H Q ∨ r' xs H Q) := by
  intro pins s σ H xs us Q I rs q
  rcases q with q | q
  · exact h pins s σ H xs us Q I rs q
  · exact h' pins s σ H xs us Q I rs q
theorem call_list_of : CallR X (.type "list") (fun xs H Q => ∃ p ys, xs = [.ref p] ∧ (SqL X.K H p ys ∨ SqT X.K H p ys) ∧ ∀ l, H l = none → Q (.ref l) (upd H l (.lst ys))) := by
  intro pins s σ H xs us Q I r h
  obtain ⟨p, ys, rfl, hq, q⟩ := h
  obtain ⟨u, rfl, rx⟩ := vals1 r
  cases rx
  have fin : ∀ (its : List Value), Vals ys its → ys.length ≤ sizeLine → ∀ (h' : Heap) (c' : Nat), (∀ b o', s.heap.get? b = some o' → h'.get? b = some o') →
      h'.get? s.heap.objs.size = some { cls := .type "list", dict := none, data := .seq its.toArray c', slots := #[] } → EP X pins σ Q (.ref s.heap.objs.size) { s with heap := h' } := fun its r' hz h' c' kp e =>
    ⟨.ref s.heap.objs.size, _, I.laid (t' := s.toks) kp (Nat.le_refl _) (show ObjOk X.prog X.w _ h' _ (.lst ys) from ⟨hz, its, c', r', e⟩), rfl, q _ (I.hok.fresh (Nat.le_refl _))⟩
  rcases hq with hq | hq
  · obtain ⟨its, r', pl, hz⟩ := I.list hq
    have hlen := r'.length
    obtain ⟨o, ho, hc, n, hd⟩ := pl.isList
    exact call_list_seq p (.inl rfl) ho hc hd (fun h' c' kp e => fin its r' hz h' c' kp e) (by simp only [List.size_toArray] <;> omega)
  · obtain ⟨its, r', pl, hz⟩ := I.tuple hq
    have hlen := r'.length
    obtain ⟨o, ho, hc, n, hd⟩ := pl
    exact call_list_seq p (.inr rfl) ho hc hd (fun h' c' kp e => fin its r' hz h' c' kp e) (by simp only [List.size_toArray] <;> omega)
theorem call_tuple_of : CallR X (.type "tuple") (fun xs H Q => ∃ p ys, xs = [.ref p] ∧ ((SqL X.K H p ys ∧ ∀ l, H l = none → Q (.ref l) (upd H l (.tup ys))) ∨ (SqT X.K H p ys ∧ Q (.ref p) H))) := by
  intro pins s σ H xs us Q I r h
  obtain ⟨p, ys, rfl, h⟩ := h
  obtain ⟨u, rfl, rx⟩ := vals1 r
  cases rx
  rcases h with ⟨hq, q⟩ | ⟨hq, q⟩
  · obtain ⟨its, r', pl, hz⟩ := I.list hq
    have hlen := r'.length
    refine call_tuple_list pl.isList (fun h' kp => ?_) (by simp only [List.size_toArray] <;> omega)
    have I1 : Inv X pins σ H { s with heap := h' } := I.kept (t' := s.toks) kp
    have I2 : Inv X pins σ (upd H h'.objs.size (.tup ys)) { s with heap := h'.push { cls := .type "tuple", data := .seq its.toArray } } :=
      I1.laid (t' := s.toks) (fun b o e => Heap.get?_push_of_some _ e) (Nat.le_refl _) (show ObjOk X.prog X.w _ _ _ (.tup ys) from ⟨hz, its, r', IsTup.new _ _⟩)
    exact ⟨.ref h'.objs.size, _, I2, rfl, q _ (I1.hok.fresh (Nat.le_refl _))⟩
  · obtain ⟨its, r', pl, hz⟩ := I.tuple hq
    exact call_tuple_same pl ⟨.ref p, H, I, rfl, q⟩

/-! ### the call of a builtin's method: o.m(..) -/
/-- the value is of that builtin type -/
def tyV (K : PySem.W.Frag) (T : String) (x : V) (H : Hp) : Prop := match x with
  | .str _ => T = "str"
  | .int _ => T = "int"
  | .ref p => (T = "list" ∧ ∃ xs, SqL K H p xs) ∨ (T = "tuple" ∧ ∃ o, K.lookup p = some o ∧ o.cls = .type "tuple" ∧ o.dict = none) ∨
      (T = "dict" ∧ ((∃ kvs, H p = some (.dK kvs)) ∨ ∃ kvs, H p = some (.dT kvs))) ∨ (T = "set" ∧ ∃ S n, H p = some (.set S n))
  | _ => False
theorem tyV_is {pins : List (Addr × Obj)} {σ : St} {H : Hp} {s : Shared} {T : String} {x : V} {v : Value} (I : Inv X pins σ H s) (r : RelV x v) (ty : tyV X.K T x H) :
    s.TypeIs v T ∧ ∀ a, v = .ref a → ∃ ob, s.heap.get? a = some ob ∧ ob.dict = none := by
  cases x with
  | str z =>
    obtain ⟨t, rfl⟩ := r
    cases (show T = "str" from ty)
    exact ⟨typeIs_str s z t, fun _ e => nomatch e⟩
  | int i =>
    obtain ⟨t, rfl⟩ := r
    cases (show T = "int" from ty)
    exact ⟨typeIs_int s i t, fun _ e => nomatch e⟩
  | ref p =>
    cases r
    rcases ty with ⟨rfl, xs, hq⟩ | ⟨rfl, o, hk, hc, hd⟩ | ⟨rfl, hk⟩ | ⟨rfl, S, n, hk⟩
    · obtain ⟨its, _, pl, _⟩ := I.list hq
      refine ⟨pl.isList.typeIs, fun a e => ?_⟩
      cases e
      obtain ⟨o, n, e, c, hd, _⟩ := pl
      exact ⟨o, e, hd⟩
    · refine ⟨⟨o, I.kIn p o hk, hc⟩, fun a e => ?_⟩
      cases e
      exact ⟨o, I.kIn _ o hk, hd⟩
    · have z : ∃ o, s.heap.get? p = some o ∧ o.ExactDict := by
        rcases hk with ⟨kvs, hk⟩ | ⟨kvs, hk⟩
        · obtain ⟨_, _, _, _, o, _, _, e, ex, _⟩ := I.hok p _ hk
          exact ⟨o, e, ex⟩
        · obtain ⟨_, _, _, _, o, _, _, e, ex, _⟩ := I.hok p _ hk
          exact ⟨o, e, ex⟩
      obtain ⟨o, e, ex⟩ := z
      refine ⟨⟨o, e, ex.1⟩, fun a e2 => ?_⟩
      cases e2
      exact ⟨o, e, ex.2.1⟩
    · obtain ⟨o, _, _, _, e, ex, _⟩ := I.hok p _ hk
      refine ⟨⟨o, e, ex.1⟩, fun a e2 => ?_⟩
      cases e2
      exact ⟨o, e, ex.2.1⟩
  | _ => exact False.elim ty
def tBM0 (K : PySem.W.Frag) (T : String) (r : V → List V → Hp → VK → Prop) (to : TE) : TE := fun σ H Q => to σ H fun x H1 => tyV K T x H1 ∧ r x [] H1 Q
def tBM (K : PySem.W.Frag) (T : String) (r : V → List V → Hp → VK → Prop) (to : TE) (t : TA) : TE := fun σ H Q => to σ H fun x H1 => tyV K T x H1 ∧ t σ H1 fun xs H2 => r x xs H2 Q
variable {o e : Expr} {es : List Expr} {to : TE} {t : TA} {name : Str} {apos cpos : Pos} {T id : String} {r : V → List V → Hp → VK → Prop}
theorem pe_bm0 (pa : PlainAttrs T) (slot : Slot T name id) (hty : typeOf (.builtin id) = pure (.type "method_descriptor")) (hm : MtR X id r) (ho : PE X o to)
    (hbase : attributeBase o name X.env (eval o X.env) = eval o X.env := by rfl) (hline : (apos.endLine == cpos.line) = true := by rfl) : PE X (.Call (.Attribute o name apos) [] [] cpos) (tBM0 X.K T r to) := by
  intro pins s σ H Q I h
  refine wpAny_Call_method0_late hbase hline (thn (ho pins s σ H _ I h) fun v s1 ⟨x, H1, I1, r1, ty, q1⟩ => ?_)
  obtain ⟨h1, h2⟩ := tyV_is I1 r1 ty
  exact ⟨T, id, pa, slot, hty, h1, h2, Calls.callWith_builtin rfl (PySem.evalArgs_none (hm pins s1 σ H1 x [] v [] Q I1 r1 .nil q1))⟩
theorem pe_bm (pa : PlainAttrs T) (slot : Slot T name id) (hty : typeOf (.builtin id) = pure (.type "method_descriptor")) (hm : MtR X id r) (ho : PE X o to) (ha : PA X (e :: es) t)
    (hbase : attributeBase o name X.env (eval o X.env) = eval o X.env := by rfl)
    (hfew : ((backTo cpos (starEach (e :: es) X.env)).all (fun x => !x.1) && (backToKw cpos (keywordEach [] X.env)).all (fun x => x.1.isSome)
      && decide ((e :: es).length + ([] : List Keyword).length + (if ([] : List Keyword).isEmpty then 0 else 1) < 30)) = true := by rfl)
    (hline : (apos.endLine == cpos.line) = true := by rfl) (hs : starEach (e :: es) X.env = (false, eval e X.env) :: starEach es X.env := by rfl) (hplain : (backTo cpos (starEach es X.env)).any (·.1) = false := by rfl) :
    PE X (.Call (.Attribute o name apos) (e :: es) [] cpos) (tBM X.K T r to t) := by
  intro pins s σ H Q I h
  refine wpAny_Call_method_late hbase hfew hline rfl (thn (ho pins s σ H _ I h) fun v s1 ⟨x, H1, I1, r1, ty, q1⟩ => ?_)
  obtain ⟨h1, h2⟩ := tyV_is I1 r1 ty
  refine ⟨T, id, pa, slot, hty, h1, h2, ?_⟩
  have hA := ha cpos pins s1 σ H1 _ I1 q1
  rw [hs] at hA ⊢
  refine Calls.callWith_builtin (by show (false || (backTo cpos (starEach es X.env)).any (·.1)) = false; rw [hplain] <;> rfl) (Calls.evalArgs_plain ?_)
  exact thn hA fun us s2 ⟨vs, H2, I2, r2, q2⟩ => hm pins s2 σ H2 x vs v us Q I2 r1 r2 q2
/- xs.append(e), list.index on a module's tuple .. are MtR facts of 06m -/
end
end L2

namespace L2
open PySem PySem.Spec PyProof.Rows

def MtM (X : Cx) (id : String) (r : V → List V → Hp → VK → Prop) : Prop :=
  ∀ (pins : List (Addr × Obj)) (s : Shared) (σ : St) (H : Hp) (x : V) (xs : List V) (v : Value) (us : List Value) (Q : VK), Inv X pins σ H s → RelV x v → Vals xs us → r x xs H Q →
    wpAny (model X.prog X.w) X.A (call (.builtin id) (v :: us)) (EP X pins σ Q) X.xe s

/-! ### lists of values -/
theorem Vals.one : ∀ {x : V} {us : List Value}, Vals [x] us → ∃ u, us = [u] ∧ RelV x u
  | _, _, .cons r .nil => ⟨_, rfl, r⟩
theorem Vals.two : ∀ {x y : V} {us : List Value}, Vals [x, y] us → ∃ u v, us = [u, v] ∧ RelV x u ∧ RelV y v
  | _, _, _, .cons r (.cons q .nil) => ⟨_, _, rfl, r, q⟩
theorem Vals.zero : ∀ {us : List Value}, Vals [] us → us = []
  | _, .nil => rfl
theorem Vals.dropLast {xs : List V} {us : List Value} (h : Vals xs us) : Vals xs.dropLast us.dropLast := by
  induction h with
  | nil => exact .nil
  | cons r t ih =>
    cases t with
    | nil => exact .nil
    | cons q t' => exact .cons r ih
theorem Vals.eraseIdx : ∀ {xs : List V} {us : List Value} (i : Nat), Vals xs us → Vals (xs.eraseIdx i) (us.eraseIdx i)
  | _, _, _, .nil => .nil
  | _, _, 0, .cons _ t => t
  | _, _, i + 1, .cons r t => .cons r (Vals.eraseIdx i t)
theorem Vals.reverse {xs : List V} {us : List Value} (h : Vals xs us) : Vals xs.reverse us.reverse := by
  induction h with
  | nil => exact .nil
  | cons r t ih => rw [List.reverse_cons, List.reverse_cons]; exact Vals.append ih (.cons r .nil)
theorem Vals.rep {xs : List V} {us : List Value} (h : Vals xs us) : ∀ k : Nat, Vals (List.replicate k xs).flatten (List.replicate k us).flatten
  | 0 => .nil
  | k + 1 => by
    rw [List.replicate_succ, List.replicate_succ, List.flatten_cons, List.flatten_cons]
    exact Vals.append h (Vals.rep h k)
theorem erase_last {α : Type} (l : List α) : l.eraseIdx (l.length - 1) = l.dropLast := by
  induction l with
  | nil => rfl
  | cons a r ih =>
    cases r with
    | nil => rfl
    | cons b r =>
      have e : (a :: b :: r).length - 1 = ((b :: r).length - 1) + 1 := by
        have h1 : (a :: b :: r).length = r.length + 2 := rfl
        have h2 : (b :: r).length = r.length + 1 := rfl
        omega
      rw [e, List.eraseIdx_cons_succ, ih]
      all_goals rfl
theorem foldl_rep (its : List Value) : ∀ (k : Nat) (acc : List Value),
    List.foldl (fun x1 x2 => x1 ++ x2) acc.toArray (List.replicate k its.toArray) = (acc ++ (List.replicate k its).flatten).toArray
  | 0, acc => by simp
  | k + 1, acc => by
    have e : acc.toArray ++ its.toArray = (acc ++ its).toArray := by simp
    have e2 : (acc ++ its) ++ (List.replicate k its).flatten = acc ++ (List.replicate (k + 1) its).flatten := by
      rw [List.replicate_succ, List.flatten_cons, List.append_assoc]
    rw [← e2, ← foldl_rep its k (acc ++ its), ← e, List.replicate_succ, List.foldl_cons]

section
variable {X : Cx} {pins : List (Addr × Obj)} {σ : St} {H : Hp} {s : Shared} {l b : Addr} {xs ys zs : List V}

/-! ### the two steps: a tracked list is rewritten, a new list is laid -/
theorem Inv.lset {its its' : List Value} {n : Nat} {f : Array Value → Array Value} {t' : Nat} (I : Inv X pins σ H s) (hH : H l = some (.lst xs))
    (e : s.heap.get? l = some { cls := .type "list", data := .seq its.toArray n }) (hf : f its.toArray = its'.toArray) (hv : Vals ys its') (hz : ys.length ≤ sizeLine) :
    Inv X pins σ (upd H l (.lst ys)) { s with heap := s.heap.update l (Obj.mapSeq f), toks := t' } := by
  have q := PySem.IsL.update e f
  rw [hf] at q
  refine I.write (x := l) (e := l) (by rw [hH]; exact trivial) (.inl rfl) (fun b' u hb hu => (Heap.get?_update_other s.heap (Obj.mapSeq f) (Ne.symm hb)).trans hu) ⟨_, q⟩ ?_
  exact ⟨hz, its', _, hv, q⟩
theorem Inv.lnew {its : List Value} {t' : Nat} (I : Inv X pins σ H s) (hv : Vals ys its) (hz : ys.length ≤ sizeLine) :
    Inv X pins σ (upd H s.heap.objs.size (.lst ys)) { s with heap := s.heap.push { cls := .type "list", data := .seq its.toArray }, toks := t' } :=
  I.laid (fun _ _ q => Heap.get?_push_of_some _ q) (Nat.le_refl _) ⟨hz, its, 0, hv, Heap.get?_push_size _ rfl⟩
theorem Inv.fresh (I : Inv X pins σ H s) : H s.heap.objs.size = none := I.hok.fresh (Nat.le_refl _)
theorem Inv.lstM (I : Inv X pins σ H s) (hH : H l = some (.lst xs)) : xs.length ≤ sizeLine ∧ ∃ (its : List Value) (n : Nat), Vals xs its ∧ xs.length = its.length ∧ s.heap.get? l = some { cls := .type "list", data := .seq its.toArray n } := by
  obtain ⟨z, its, n, r, e⟩ := I.hok l _ hH
  exact ⟨z, its, n, r, r.length, e⟩

theorem notLongL {n : Nat} (h : n ≤ sizeLine) : Builtin.List.listTooLong n = false := by
  unfold Builtin.List.listTooLong
  exact decide_eq_false (by omega)
end

section
variable {X : Cx}

/-! ### methods -/
def rAppend : V → List V → Hp → VK → Prop := fun x vs H Q => ∃ l xs y, x = .ref l ∧ vs = [y] ∧ H l = some (.lst xs) ∧ xs.length < sizeLine ∧ Q .non (upd H l (.lst (xs ++ [y])))
theorem mt_append : MtM X "list.append" rAppend := by
  intro pins s σ H x vs v us Q I rx rv h
  obtain ⟨l, xs, y, rfl, rfl, hH, hz, q⟩ := h
  cases rx
  obtain ⟨u, rfl, ru⟩ := rv.one
  obtain ⟨z, its, n, r, hl, e⟩ := I.lstM hH
  refine call_meets F.slot_list_append ⟨_, e, rfl⟩ F.entry_list_append (F.args_list_append_2 _ _) (PySem.list_append l its.toArray n u (by rw [List.size_toArray]; omega)) ⟨e, ?_⟩
  refine ⟨.non, _, I.lset (its' := its ++ [u]) hH e (by simp) (r.append (.cons ru .nil)) ?_, rfl, q⟩
  rw [List.length_append, List.length_singleton]
  omega

def rExtend : V → List V → Hp → VK → Prop := fun x vs H Q => ∃ l b xs zs, x = .ref l ∧ vs = [.ref b] ∧ H l = some (.lst xs) ∧ H b = some (.lst zs) ∧ xs.length + zs.length ≤ sizeLine ∧ Q .non (upd H l (.lst (xs ++ zs)))
theorem mt_extend : MtM X "list.extend" rExtend := by
  intro pins s σ H x vs v us Q I rx rv h
  obtain ⟨l, b, xs, zs, rfl, rfl, hH, hB, hz, q⟩ := h
  cases rx
  obtain ⟨u, rfl, ru⟩ := rv.one
  cases ru
  obtain ⟨z, its, n, r, hl, e⟩ := I.lstM hH
  obtain ⟨z2, its2, n2, r2, hl2, e2⟩ := I.lstM hB
  have hsz : its.toArray.size + its2.toArray.size ≤ sizeLine := by rw [List.size_toArray, List.size_toArray]; omega
  have hlong : ¬ (!its.toArray.isEmpty && Builtin.List.listTooLong (its.toArray.size + its2.toArray.size)) = true := by
    rw [notLongL hsz, Bool.and_false]
    exact Bool.false_ne_true
  refine call_meets F.slot_list_extend ⟨_, e, rfl⟩ F.entry_list_extend (F.args_list_extend_2 _ _)
    (AutoSeq1.list_extend_list_list_0 l its.toArray n b its2.toArray n2 hlong (by rw [List.size_toArray]; omega) (by omega)) ⟨e, e2, ?_⟩
  refine ⟨.non, _, I.lset (its' := its ++ its2) hH e (by simp) (r.append r2) ?_, rfl, q⟩
  rw [List.length_append]
  omega

def rPop : V → List V → Hp → VK → Prop := fun x vs H Q => ∃ l xs y, x = .ref l ∧ vs = [] ∧ H l = some (.lst xs) ∧ xs[xs.length - 1]? = some y ∧ Q y (upd H l (.lst xs.dropLast))
theorem mt_pop : MtM X "list.pop" rPop := by
  intro pins s σ H x vs v us Q I rx rv h
  obtain ⟨l, xs, y, rfl, rfl, hH, hy, q⟩ := h
  cases rx
  have hus := rv.zero
  subst hus
  obtain ⟨z, its, n, r, hl, e⟩ := I.lstM hH
  obtain ⟨u, hu, ru⟩ := r.get hy
  have hy' : its.toArray[its.toArray.size - 1]? = some u := by
    show its.toArray[its.length - 1]? = some u
    rw [← Array.getElem?_toList, ← hl]
    exact hu
  refine call_meets F.slot_list_pop ⟨_, e, rfl⟩ F.entry_list_pop (F.args_list_pop_1 _) (MeetsSeq.list_pop_last l its.toArray n u hy' (by rw [List.size_toArray]; omega)) ⟨e, ?_⟩
  refine ⟨y, _, I.lset (its' := its.dropLast) hH e ?_ r.dropLast ?_, ru, q⟩
  · show its.toArray.eraseIdxIfInBounds (its.toArray.size - 1) = its.dropLast.toArray
    rw [List.size_toArray, List.eraseIdxIfInBounds_toArray, erase_last]
  · rw [List.length_dropLast]
    omega

def rPopAt : V → List V → Hp → VK → Prop := fun x vs H Q => ∃ l xs i k y, x = .ref l ∧ vs = [.int i] ∧ H l = some (.lst xs) ∧ -(2 ^ 63) ≤ i ∧ i < 2 ^ 63 ∧ seqIndex? i xs.length = some k ∧ xs[k]? = some y ∧ Q y (upd H l (.lst (xs.eraseIdx k)))
def rReverse : V → List V → Hp → VK → Prop := fun x vs H Q => ∃ l xs, x = .ref l ∧ vs = [] ∧ H l = some (.lst xs) ∧ Q .non (upd H l (.lst xs.reverse))
def rClear : V → List V → Hp → VK → Prop := fun x vs H Q => ∃ l xs, x = .ref l ∧ vs = [] ∧ H l = some (.lst xs) ∧ Q .non (upd H l (.lst []))
/-! ### list + list, list += list, list * int -/
def rCat : R2 := fun x y H Q => ∃ l b xs zs, x = .ref l ∧ y = .ref b ∧ H l = some (.lst xs) ∧ H b = some (.lst zs) ∧ xs.length + zs.length ≤ sizeLine ∧ ∀ p, H p = none → Q (.ref p) (upd H p (.lst (xs ++ zs)))
/-- a list times an int (a negative one is nothing) -/
def rRep : R2 := fun x y H Q => ∃ l k xs, x = .ref l ∧ y = .int k ∧ H l = some (.lst xs) ∧ -(2 ^ 63) ≤ k ∧ k < 2 ^ 63 ∧ xs.length * k.toNat ≤ sizeLine ∧
  ∀ p, H p = none → Q (.ref p) (upd H p (.lst (List.replicate k.toNat xs).flatten))
theorem len_rep {α : Type} (xs : List α) (k : Nat) : (List.replicate k xs).flatten.length = k * xs.length := by
  induction k with
  | zero => simp
  | succ k ih => rw [List.replicate_succ, List.flatten_cons, List.length_append, ih, Nat.succ_mul, Nat.add_comm]
theorem op_rep : OpR X (binaryOp .Mult) rRep := by
  intro pins s σ H x y v u Q I rx ry h
  obtain ⟨l, k, xs, rfl, rfl, hH, h1, h2, hz, q⟩ := h
  cases rx
  obtain ⟨t, rfl⟩ := ry
  obtain ⟨z, its, n, r, hl, e⟩ := I.lstM hH
  have hlen : its.toArray.size * k.toNat ≤ sizeLine := by rw [List.size_toArray, ← hl]; exact hz
  have hcap : ¬ its.toArray.size * k.toNat > (2 ^ 63 - 1) / 8 := by
    have : (sizeLine : Nat) ≤ (2 ^ 63 - 1) / 8 := by decide
    omega
  have hfit : ¬ (!Builtin.List.listFitsIndex k) = true := by
    rw [fitsIndex_both h1 h2]
    exact Bool.false_ne_true
  have hlong : ¬ Builtin.List.listTooLong (its.toArray.size * k.toNat) = true := by
    rw [notLongL hlen]
    exact Bool.false_ne_true
  have hnew : List.foldl (fun x1 x2 => x1 ++ x2) #[] (List.replicate (if its.toArray.isEmpty = true then 0 else k.toNat) its.toArray) = (List.replicate k.toNat its).flatten.toArray := by
    have f0 : ∀ m : Nat, List.foldl (fun x1 x2 => x1 ++ x2) #[] (List.replicate m its.toArray) = (List.replicate m its).flatten.toArray := fun m => by
      have := foldl_rep its m []
      rw [List.nil_append] at this
      exact this
    rw [f0]
    cases its with
    | nil => simp
    | cons a r' => rw [if_neg (by simp)]
  refine wpAny_binaryOp_repeat_ref (T := "list") (U := "int") (by decide) ⟨_, e, rfl⟩ (fun s' => typeIs_int s' k t) noFill_list_mul F.fills_int_mul F.slot_int_rmul repeat_list F.slot_int_index.lookup
    (call_meets F.slot_int_rmul (typeIs_int s k t) F.entry_int_rmul (F.args_int_rmul_2 _ _) (int___rmul___int_list k t l its.toArray n)
      ⟨e, rfl, ⟨_, e, rfl⟩, call_meets F.slot_list_mul ⟨_, e, rfl⟩ F.entry_list_mul (F.args_list_mul_2 _ _) (AutoListH.list___mul___list_int_3 l its.toArray n k t hfit hcap hlong) ⟨e, ?_⟩⟩)
  rw [hnew]
  exact ⟨.ref _, _, I.lnew (t' := s.toks) (r.rep k.toNat) (by rw [len_rep, Nat.mul_comm]; exact hz), rfl, q _ I.fresh⟩

/-! ### del xs[i] -/
end

/-! ### xs[a:b] = ys -/
section
variable {prog : Program} {w : World} {A : Around} {E : Value → Shared → Prop} {s : Shared}
end

section
variable {X : Cx}
end
end L2

namespace Att
open PySem PySem.W PySem.Calls PyProof.Rows

/-! ### the script -/
theorem ints_of_wellAll {P : Params} {h : Heap} : ∀ (ns : List Int) (vs : List Value), WellAll P h vs (ns.map WData.int) → IntsAre vs ns := by
  intro ns
  induction ns with
  | nil =>
    intro vs w
    rw [List.map_nil] at w
    cases w
    exact .nil
  | cons n ns ih =>
    intro vs w
    rw [List.map_cons] at w
    cases w with
    | cons a b =>
      cases a
      exact .cons _ _ (ih _ b)

theorem script_of {l : OpenLaw} {n : Nat} (hn : l.most = some n) {P : Params} {h : Heap} {args : List WData} {vals : List Value}
    (hpre : l.row.toRowW.claim.pre args = true) (hwl : WellAll P h vals args) :
    ∃ a vs ns, vals = [Value.ref a] ∧ args = [WData.list (ns.map WData.int)] ∧ h.get? a = some { cls := .type "list", data := .seq vs.toArray } ∧ IntsAre vs ns ∧ ns.length ≤ n := by
  have hsh : WShape.hasAll [] args [.list .int] = true := (pre_splitW hpre).1
  have hc : l.pre.holds [] { args := args } = true := (pre_splitW hpre).2
  obtain ⟨d, r, rfl, h1, h2⟩ := hasAllW_cons hsh
  obtain rfl := hasAllW_nil h2
  obtain ⟨xs, rfl, h3⟩ := hasW_list h1
  obtain ⟨ns, rfl⟩ := items_int h3
  have hlen : ns.length ≤ n := by
    unfold OpenLaw.pre at hc
    have h4 : (WTm.not (.lt (.lit (.int (n : Int))) (.len (.arg 0)))).holds [] { args := [.list (ns.map .int)] } = true := by
      have h4 := (holds_andW hc).1
      rw [hn] at h4
      exact h4
    have h5 := condW_of h4 (w_not (w_lt w_lit (w_len_list (w_arg rfl))))
    rw [List.length_map] at h5
    refine Nat.le_of_not_lt fun q => ?_
    have q' : (n : Int) < ((ns.length : Nat) : Int) := by omega
    first
      | (rw [decide_eq_true q'] at h5; exact absurd h5 (by decide))
      | (simp at h5; omega)
  cases hwl with
  | cons w1 w2 =>
    cases w2
    cases w1 with
    | list ho hall => exact ⟨_, _, ns, rfl, rfl, ho, ints_of_wellAll ns _ hall, hlen⟩

theorem post_true (l : OpenLaw) (args : List WData) : l.row.toRowW.claim.post args (.bool true) args = true :=
  postW_of (r := l.row.toRowW) (X := (true == true))
    (show WShape.has [] (.bool true) .bool = true by first | rfl | decide | simp [WShape.has, WShape.arms, WShape.armsAll])
    (show (WTm.eq .res (.lit (.bool true))).value [] { args := args, res := some (.bool true), after := args } = some (.bool (true == true)) from w_eq_bool (w_res rfl) w_lit) rfl

/-! ### the attachment: holds_open's last premise (the goal 'hc' behind k_head) from a wpAny of the law's body -/
/-- the same from a codeAny of the CALL (for a layer whose function contracts speak of calls) -/
theorem attach_call {l : OpenLaw} {n : Nat} {q : Program} {loose : List Str} {XP : (Str → Option Value) → Heap → Prop} {YP : World → Heap → Prop} {d : DefRec}
    (hn : l.most = some n) (hdf : d.params.defaults = [])
    (call : ∀ (w : World) (s₀ s₁ : Shared) (mg mb : Str → Option Value) (fa : Addr) (o : Obj) (pm cd doc : Value) (a : Addr) (vs : List Value) (ns : List Int),
      Ground q loose [] XP w s₀ mg mb s₁.heap → YP w s₁.heap →
      s₁.heap.get? fa = some o → o.data = .func (docDef d.name d.params d.body d.scope pm cd doc) → s₁.heap.CodeRec cd d.name → mg d.name = some (.ref fa) →
      s₁.heap.get? a = some { cls := .type "list", data := .seq vs.toArray } → IntsAre vs ns → ns.length ≤ n → s₁.gens = #[] →
      codeAny (model l.prog w) callerA (.call (.ref fa) ⟨[.ref a], []⟩) (fun r s' => r = .ok (.ret (.bool true)) ∧ OldK s₁.heap s'.heap ∧ s'.os = s₁.os ∧ AllBare s'.gens) s₁) :
    WalkO q loose XP YP l.row.toRowW d [] (fun f vs => PySem.call f vs) := by
  intro w s₀ s₁ mg mb G Y fa o pm cd doc dV kV ho hd hcd hD hmg hg args vals as hpre hlay hrd hwl hlo
  obtain rfl : dV = .none := Dflts.none hD hdf
  obtain rfl : kV = .none := Dflts.noKw hD
  obtain ⟨a, vs, ns, rfl, rfl, hobj, hints, hlen⟩ := script_of hn hpre hwl
  refine enter_call (codeAny_mono (call w s₀ s₁ mg mb fa o pm cd doc a vs ns G Y ho (fd_plain hd) hcd hmg hobj hints hlen hg) fun r s' hq => ?_)
  obtain ⟨rfl, h2, h3, h4⟩ := hq
  exact ⟨.inl ⟨.bool true, .bool true, [], rfl, fun _ => rfl, .bool true, post_true l _, fun _ => ⟨List.Pairwise.nil, fun _ hm => (nomatch hm)⟩⟩, h2, h3, h4⟩

/-! ### rules over ANY heap (no ledger) from facts about the written part K: the library's own take a ledger (News) for what they write -/
section
variable {prog : Program} {w : World} {A : Around} {E : Value → Shared → Prop} {s : Shared} {K : Frag}

/-! the whole heap as the ledger: makes every rule that writes through a ledger a rule over any heap -/
def noObjs (h : Heap) : Heap := { h with objs := #[] }
def ledger (h : Heap) (L d : Addr) : List (Addr × Obj) := (List.range h.objs.size).filterMap fun a => if a = L ∨ a = d then none else (h.get? a).map fun o => (a, o)
end
end Att

namespace L2
open PySem PySem.Spec PyProof.Rows

theorem vals_ints : ∀ {vs : List Value} {ns : List Int}, IntsAre vs ns → Vals (ns.map V.int) vs
  | _, _, .nil => .nil
  | _, _, .cons n t h => .cons ⟨t, rfl⟩ (vals_ints h)

/-- nothing is tracked but the script, known to the object (or it is an object of the module) -/
def Only (H : Hp) : Prop := ∀ b, H b = none ∨ ∃ o xs, H b = some (.frz o (.lst xs))

/-- THE HEAD: the law's promise, at the heap behind the top. F, the promise of the law's def, may use that base is part of the heap (so K.In base, base.Ns mainGlobals mg stand in Mod) -/
theorem law_call {P : Program} {w : World} {K : PySem.W.Frag} {mg mb : Str → Option Value} {CX : CXT} {k : Nat} {fa a : Addr} {fd : FuncData} {x : Str} {sp : Sp} {s₁ : Shared} {vs : List Value} {ns : List Int}
    (KX : K.In s₁.heap) (hns : s₁.heap.Ns mainGlobals mg) (hb : s₁.heap.Ns builtinsNs mb) (hbb : ∀ x : Str, x ≠ "__name__" → mb x = bootBuiltins x) (hlim : s₁.heap.NoLimit) (hg : s₁.gens = #[])
    (ha : s₁.heap.get? a = some { cls := .type "list", data := .seq vs.toArray }) (hi : IntsAre vs ns) (hl : ns.length ≤ sizeLine) (hr : Room k callerA)
    (F : ∀ base : Heap, K.In base → base.Ns mainGlobals mg → FnOk P w K mg base CX k fa fd [x] sp) (hbind : ∀ (s : Shared) (u : Value), BindsTo s fd ⟨[u], []⟩ [(x, u)])
    (hsp : ∀ H : Hp, Only H → SqL K H a (ns.map V.int) → sp [.ref a] H (fun v _ => v = .bl true) fun _ _ _ => False)
    (hCX : ∀ H e s', CX [] H s₁ (fun _ _ _ => False) e s' → False) :
    codeAny (model P w) callerA (.call (.ref fa) ⟨[.ref a], []⟩) (fun r s' => r = .ok (.ret (.bool true)) ∧ OldK s₁.heap s'.heap ∧ s'.os = s₁.os ∧ AllBare s'.gens) s₁ := by
  have rv := vals_ints hi
  have lenV := hi.length
  -- from an abstract heap in which nothing but the script may be tracked
  have core : ∀ H : Hp, Only H → SqL K H a (ns.map V.int) → HOk P w H s₁.heap → (∀ b, H b ≠ none → b = a) → (H a ≠ none → K.lookup a = none) →
      codeAny (model P w) callerA (.call (.ref fa) ⟨[.ref a], []⟩) (fun r s' => r = .ok (.ret (.bool true)) ∧ OldK s₁.heap s'.heap ∧ s'.os = s₁.os ∧ AllBare s'.gens) s₁ := by
    intro H hO hS hok hA hK
    have base_of : ∀ {b : Addr} {o : Obj}, s₁.heap.get? b = some o → H b = none → (hidT s₁.heap H).get? b = some o := fun e n => hidT_get e n
    have noA : ∀ {b : Addr} {o : Obj} {es : Array DictEntry} {ep : Nat}, s₁.heap.get? b = some o → o.data = .dict es ep → H b = none := fun {b o es ep} e d => by
      cases q : H b with
      | none => rfl
      | some u =>
        have e' : b = a := hA b (by rw [q]; simp)
        subst e'
        rw [ha] at e; cases e
        have d' : Data.seq vs.toArray _ = Data.dict es ep := d
        cases d'
    have nsK : ∀ {b : Addr} {m : Str → Option Value}, s₁.heap.Ns b m → (hidT s₁.heap H).Ns b m := fun {b m} ⟨o, es, ep, e, d, r⟩ => ⟨o, es, ep, base_of e (noA e d), d, r⟩
    have hKb : K.In (hidT s₁.heap H) := fun b o e => base_of (KX b o e) (by
      cases q : H b with
      | none => rfl
      | some u =>
        have e' : b = a := hA b (by rw [q]; simp)
        subst e'
        rw [hK (by rw [q]; simp)] at e; cases e)
    have hM : Mod K mg (hidT s₁.heap H) := ⟨hKb, nsK hns, ⟨mb, nsK hb, hbb⟩, let ⟨mc, h1, h2⟩ := hlim; ⟨mc, nsK h1, h2⟩⟩
    have e0 : Env0 P w K mg (hidT s₁.heap H) callerA [] s₁ H := ⟨rfl, hM, fun b o e => of_hidT e, Nat.le_of_eq (hidT_size _ _), trivial, fun b hb => absurd (show b ∈ ([] : List Addr) from hb) (by simp), hok, .of_eq hg⟩
    refine codeAny_mono ((F _ hKb (nsK hns)).run callerA [] s₁ H ⟨[.ref a], []⟩ [.ref a] [.ref a] _ _ hr e0 (hbind s₁ (.ref a)) (.cons rfl .nil) (hsp H hO hS)) fun r s' h => ?_
    cases r with
    | error e => exact (hCX H e s' h).elim
    | ok fl =>
      cases fl with
      | next => exact False.elim h
      | brk => exact False.elim h
      | cont => exact False.elim h
      | ret u =>
        obtain ⟨v, H', os, bare, un, hok', r', q⟩ := h
        have q' : v = .bl true := q
        subst q'
        obtain rfl : u = Value.bool true := r'
        refine ⟨rfl, OldK.of_keep fun b o e => ?_, os, bare⟩
        cases q : H b with
        | none => exact un.keep b o e q (by intro z; exact absurd (show b ∈ ([] : List Addr) from z) (by simp)) (by simp)
        | some u =>
          rcases hO b with z | ⟨ob, xs, z⟩
          · rw [q] at z; cases z
          · have z2 := un.frzs b ob _ z
            obtain ⟨e1, _⟩ := hok b _ z
            obtain ⟨e2, _⟩ := hok' b _ z2
            rw [e] at e1; cases e1
            exact e2
  cases hk : K.lookup a with
  | some o =>
    -- the script is one of the module's own objects
    have e := KX a o hk
    rw [ha] at e
    cases e
    refine core (fun _ => none) (fun _ => .inl rfl) (.inr ⟨_, vs.toArray, _, hk, rfl, rfl, rfl, by rw [List.size_toArray, lenV]; exact hl, by simpa using rv⟩) (fun b u z => by have z' : (none : Option HO) = some u := z; cases z') (fun b z => absurd rfl z) fun z => absurd rfl z
  | none =>
    refine core (fun b => if b = a then some (.frz { cls := .type "list", data := .seq vs.toArray } (.lst (ns.map V.int))) else none) (fun b => ?_) (.inl (.inr ⟨{ cls := .type "list", data := .seq vs.toArray }, if_pos rfl⟩)) (fun b u z => ?_) (fun b z => ?_) fun _ => hk
    · by_cases hb : b = a
      · exact .inr ⟨_, _, if_pos hb⟩
      · exact .inl (if_neg hb)
    · by_cases hb : b = a
      · have z' := (if_pos hb).symm.trans z
        cases z'
        subst hb
        exact ⟨ha, by rw [List.length_map]; exact hl, vs, _, rv, ha⟩
      · have z' := (if_neg hb).symm.trans z
        cases z'
    · by_cases hb : b = a
      · exact hb
      · exact absurd (if_neg hb) z
end L2

namespace L2
open PySem PySem.Spec PyProof.Rows

abbrev KOf {K : PySem.W.Frag} {h : Heap} (_ : K.In h) : PySem.W.Frag := K

/-- the goal that k_head leaves (case hc), from the law's promise. F gives the function object fd (K's own) once, then the promise over every base -/
theorem walk_of {l : PySem.W.OpenLaw} {n k : Nat} {q : Program} {loose : List Str} {XP : (Str → Option Value) → Heap → Prop} {YP : World → Heap → Prop} {d : DefRec} {K : Params → PySem.W.Frag} {CX : World → CXT} {sp : World → Sp} {x : Str}
    (hn : l.most = some n) (hn2 : n ≤ sizeLine) (hdf : d.params.defaults = []) (hr : Room k callerA)
    (hY : ∀ (w : World) (h : Heap), YP w h → (K w.params).In h)
    (F : ∀ (w : World) (mg : Str → Option Value) (fa : Addr) (h : Heap), (K w.params).In h → h.Ns mainGlobals mg → mg d.name = some (.ref fa) →
      ∃ fd : FuncData, (∀ (s : Shared) (u : Value), BindsTo s fd ⟨[u], []⟩ [(x, u)]) ∧
        ∀ base : Heap, (K w.params).In base → base.Ns mainGlobals mg → FnOk l.prog w (K w.params) mg base (CX w) k fa fd [x] (sp w))
    (hsp : ∀ (w : World) (H : Hp) (a : Addr) (ns : List Int), ns.length ≤ n → Only H → SqL (K w.params) H a (ns.map V.int) → sp w [.ref a] H (fun v _ => v = .bl true) fun _ _ _ => False)
    (hCX : ∀ (w : World) (H : Hp) (s : Shared) (e : Value) (s' : Shared), CX w [] H s (fun _ _ _ => False) e s' → False) :
    PySem.W.WalkO q loose XP YP l.row.toRowW d [] (fun f vs => PySem.call f vs) := by
  refine Att.attach_call hn hdf fun w s₀ s₁ mg mb fa o pm cd doc a vs ns G Y ho hd hcd hmg hobj hints hlen hg => ?_
  have KX := hY w _ Y
  obtain ⟨fd, hb, hF⟩ := F w mg fa _ KX G.T.g hmg
  exact law_call KX G.T.g G.T.b G.T.builtins G.T.nolimit hg hobj hints (Nat.le_trans hlen hn2) hr hF hb (fun H hO hS => hsp w H a ns hlen hO hS) fun H e s' => hCX w H s₁ e s'
end L2

/- THE LAST THEOREM (shape; LID, My.* are yours):
   My.Adr: a structure of the addresses that your layer names (classes, functions); My.Txt K t: a structure (Prop) of the equations over K;
   My.txt_mk : {K} {implicit addresses ..} (e1 : nsIn K mainGlobals "law" = some (some (.ref f))) (e2 : K.lookup f = some ⟨oc, od, .func (fnOf "law" "law" params body scope dV kV doc pm an cdv ct), sl⟩) (e3 : codeIn K cdv "law" = true) .. : ∃ t, My.Txt K t

set_option maxRecDepth 100000 in
set_option maxHeartbeats 0 in
theorem PySem.Challenge.cw_LID_holds : PySem.Challenge.rw_LID.Holds := by
  w_on; o_law; k_head; (case hw => w_witness2)
  k_fill
  refine L2.walk_of (l := PySem.Challenge.rw_LID) (n := 63) (k := 40) (x := "script") (CX := fun w => ..) (sp := fun _ => My.sp_law) rfl (by decide) rfl ⟨rfl, by decide, by decide⟩ (fun w h Y => PySem.W.kIn_of Y) ?F ?S ?C
  case F =>
    intro w mg fa h KX G hmg
    have T : ∃ t, My.Txt (L2.KOf KX) t := by
      dsimp only [L2.KOf]                          -- K must stand as «<heap const> w.params» for k_is
      refine' My.txt_mk ?e1 ?e2 ?e3 ..
      (case e1 => PySem.W.k_is)                    -- in the order: a name -> its address -> its object -> its parts
      (case e2 => PySem.W.k_is)
      ..
    obtain ⟨t, T⟩ := T
    have e0 := hmg.symm.trans (PySem.W.mg_of KX G T.law)
    cases e0                                       -- fa is the law's own address
    exact ⟨_, fun s u => .of_eq rfl, fun base kb nb => My.law_fn T kb nb⟩     -- if «.of_eq rfl» comes too early: refine' ⟨_, ?b, fun base kb nb => My.law_fn T kb nb⟩; exact fun s u => .of_eq rfl
  case S => exact fun w H a ns hl hO hS => ..
  case C => exact ..
(the tactic k_is has no namespace: write k_is) -/

/-! SHORT WORDS over the layer: a def of the text, its body, what a loop and a test want. -/
namespace L2
open PySem PySem.Spec PyProof.Rows

/-! ### the text by places -/
/-- the j-th statement of a class's body -/
def inClass (s : Stmt) (j : Nat) : Stmt := match s with
  | .ClassDef _ _ _ body _ _ _ _ _ _ _ => body.getD j (.Pass ⟨0, 0, 0, 0⟩)
  | _ => .Pass ⟨0, 0, 0, 0⟩
def defArgs (s : Stmt) : Arguments := match s with
  | .FunctionDef _ a _ _ _ _ _ _ _ _ => a
  | _ => { posonlyargs := [], args := [], vararg := none, kwonlyargs := [], kw_defaults := [], kwarg := none, defaults := [] }
def defBody (s : Stmt) : List Stmt := match s with
  | .FunctionDef _ _ b _ _ _ _ _ _ _ => b
  | _ => []
def defScope (s : Stmt) : Scope := match s with
  | .FunctionDef _ _ _ _ _ _ sc _ _ _ => sc
  | _ => { kind := .function, names := [], isGenerator := false, isCoroutine := false }

/-! ### no exception leaves a def -/
abbrev CX0 : CXT := fun _ _ _ _ _ _ => False
abbrev E0 : XK := fun _ _ _ => False
theorem pass0 {X : Cx} : Passes CX0 X E0 := fun _ _ _ _ _ _ _ h => h.elim

/-! ### a def (or method) of the text as it stands behind the top -/
structure Fun (K : PySem.W.Frag) (x qual : Str) (st : Stmt) (f : Addr) (fd : FuncData) : Prop where
  ex : ∃ (oc : Value) (od : Option Addr) (kV doc pm : Value) (an : Option Addr) (cdv ct : Value) (osl : Array (Option Value)),
    fd = PySem.W.fnOf x qual (defArgs st) (defBody st) (defScope st) .none kV doc pm an cdv ct ∧ K.lookup f = some ⟨oc, od, .func fd, osl⟩ ∧ PySem.W.codeIn K cdv qual = true
  kp : PySem.W.keepIn K (.ref f) = true
section
variable {P : Program} {w : World} {K : PySem.W.Frag} {mg : Str → Option Value} {base : Heap}
/-- THE RULE for a def: its body as a term of rules, and the reading of that term -/
theorem Fun.ok {x qual : Str} {st : Stmt} {f : Addr} {fd : FuncData} {N ps : List Str} {k : Nat} {sp : Sp} (F : Fun K x qual st f fd) (S : FnScope N ps (defScope st)) (len : ∀ vs H Q E, sp vs H Q E → vs.length = ps.length)
    (hbody : ∀ (cdv : Value) (A : Around) (outer : List Env) (s : Shared) (H : Hp) (vs : List V) (Q : VK) (E : XK), Room k (A.deeper (envOfC qual (defScope st) s.heap.objs.size f cdv)) → sp vs H Q E →
      ∃ t, PSs (cxOf CX0 P w K mg base N qual (defScope st) f cdv A outer s H E).nox (defBody st) t ∧ t { nx := fun _ H' => Q .non H', rt := Q } (start N vs) H) : FnOk P w K mg base CX0 (k + 1) f fd ps sp := by
  obtain ⟨oc, od, kV, doc, pm, an, cdv, ct, osl, rfl, lk, hcd⟩ := F.ex
  refine fn_of lk hcd S len fun A outer s H vs Q E hr hsp => ?_
  obtain ⟨t, h, q⟩ := hbody cdv A outer s H vs Q E hr hsp
  exact ⟨t, h.nox, q⟩
/-- how its arguments bind (no defaults): h is «fun _ _ _ _ _ _ us hl => match us, hl with | [_, _], _ => rfl», one _ a parameter -/
theorem Fun.binds {x qual : Str} {st : Stmt} {f : Addr} {fd : FuncData} {ps : List Str} (F : Fun K x qual st f fd)
    (h : ∀ (kV doc pm : Value) (an : Option Addr) (cdv ct : Value) (us : List Value), us.length = ps.length → bindArgs (PySem.W.fnOf x qual (defArgs st) (defBody st) (defScope st) .none kV doc pm an cdv ct) ⟨us, []⟩ = pure (ps.zip us)) : Binds K fd ps [] := by
  obtain ⟨oc, od, kV, doc, pm, an, cdv, ct, osl, rfl, lk, hcd⟩ := F.ex
  exact .all (h kV doc pm an cdv ct)
theorem fun_mk {x qual : Str} {st : Stmt} {f : Addr} {oc : Value} {od an : Option Addr} {osl : Array (Option Value)} {kV doc pm cdv ct : Value} (l : K.lookup f = some ⟨oc, od, .func (PySem.W.fnOf x qual (defArgs st) (defBody st) (defScope st) .none kV doc pm an cdv ct), osl⟩)
    (c : PySem.W.codeIn K cdv qual = true) (k : PySem.W.keepIn K (.ref f) = true) : Fun K x qual st f (PySem.W.fnOf x qual (defArgs st) (defBody st) (defScope st) .none kV doc pm an cdv ct) := ⟨⟨oc, od, kV, doc, pm, an, cdv, ct, osl, rfl, l, c⟩, k⟩
end
theorem small1000 {n : Nat} (h : n ≤ 1000) : n < sizeLine := Nat.lt_of_le_of_lt h (by decide)

/-! ### expressions in short: the name that stands in the i-th slot -/
section
variable {X : Cx}
theorem pv (i : Nat) {x : Str} {pos : Pos} (hN : X.N[i]? = some x := by rfl) (hv : Vis X.env.scope x := by first | exact Or.inl rfl | exact Or.inr (Or.inl rfl) | exact Or.inr (Or.inr rfl)) (hd : (x == ("__debug__" : Str)) = false := by decide)
    (hcd : (x == ("__classdict__" : Str)) = false := by decide) : PE X (.Name x pos) (tVar i) := pe_var hN hv hd hcd
end

/-! ### tests -/
/-! ### heaps -/
/-- all that was tracked is as it was -/
def Same (H H' : Hp) : Prop := ∀ b o, H b = some o → H' b = some o
theorem Same.refl (H : Hp) : Same H H := fun _ _ h => h
theorem Same.trans {H H1 H2 : Hp} (a : Same H H1) (b : Same H1 H2) : Same H H2 := fun c o h => b c o (a c o h)
theorem Same.free {H H' : Hp} (e : Same H H') {l : Addr} (h : H' l = Option.none) : H l = Option.none := by
  cases q : H l with
  | none => rfl
  | some o =>
    rw [e l o q] at h
    cases h
theorem Same.seq {K : PySem.W.Frag} {H H' : Hp} {a : Addr} {xs : List V} (e : Same H H') (h : SqL K H a xs) : SqL K H' a xs := by
  rcases h with (h | ⟨o, h⟩) | h
  · exact .inl (.inl (e _ _ h))
  · exact .inl (.inr ⟨o, e _ _ h⟩)
  · exact .inr h

end L2

set_option Elab.async false
set_option linter.all false
set_option maxRecDepth 100000
set_option maxHeartbeats 4000000
/-! own rules over the layer: texts walked -/
namespace L2
open PySem PySem.Spec PyProof.Rows

/-- the signs of a text -/
def Its (x : Str) : It := ⟨fun i _ => i < x.cps.size, fun i H v H' => H' = H ∧ ∃ c, x.cps[i]? = some c ∧ v = .str ⟨#[c]⟩, fun i _ => x.cps.size ≤ i⟩
section
variable {X : Cx} {tg : Expr}
def iStr (tl : TE) : TI := fun σ H R => tl σ H fun x H1 => ∃ z, x = .str z ∧ R (Its z) H1
end
end L2

set_option Elab.async false
set_option linter.all false
set_option maxRecDepth 100000
set_option maxHeartbeats 4000000
/-! own rules over the layer: list comprehensions of one clause -/
namespace L2
open PySem PySem.Spec PyProof.Rows

/-- the block of a comprehension, one turn at a time, whatever its target -/
theorem compLoop_any {prog : Program} {w : World} {A : Around} {R : Result → Shared → Prop} {s : Shared} {elt target iter : Expr} {ifs : List Expr} {scope : Scope} {pos : Pos} {it acc : Value} {env : Env} (I : Nat → Shared → Prop)
    (turn : ∀ n s, I n s → wpAny (model prog w) A (pyNext it) (fun r s₁ => match r with
      | none => R (.ok .next) s₁
      | some v => wpAny (model prog w) A (letOwnedTupleGo target it v) (fun _ s₁' => wpAny (model prog w) A (assign target env v) (fun _ s₂ =>
          wpAny (model prog w) A (forIn ifs true fun c r => if r = true then do let ok ← isTrue c env (eval c env); pure (ForInStep.yield ok) else pure (ForInStep.yield r)) (fun ok s₃ =>
            if ok = true then wpAny (model prog w) A (eval elt env) (fun x s₄ =>
              wpAny (model prog w) A (call (.builtin "list.append") [acc, x]) (fun _ s₅ => ∃ m, m < n ∧ I m s₅) (fun _ _ => False) s₄) (fun _ _ => False) s₃
            else ∃ m, m < n ∧ I m s₃) (fun _ _ => False) s₂) (fun _ _ => False) s₁') (fun _ _ => False) s₁) (fun _ _ => False) s)
    (n : Nat) (h : I n s) :
    codeAny (model prog w) A (.compLoop (.ListComp elt [⟨target, iter, ifs, 0⟩] scope pos) 0 it acc env) R s := by
  refine codeAny_loop rfl I (fun n s hI => ?_) n h
  show wpAny _ A ((compTurn (.ListComp elt [⟨target, iter, ifs, 0⟩] scope pos) 0 it acc env).onRaise (fun x => do noteFrame x env; theTreesLotGoes x)) _ _ s
  refine wpAny_noted ?_
  rw [compTurn_list]
  refine wpAny_bind (wpAny_standAt (wpAny_bind (wpAny_mono (turn n s hI) (fun r s₁ h₁ => ?_) fun _ _ h' => h'.elim)))
  cases r with
  | none => exact wpAny_pure h₁
  | some v =>
    refine wpAny_bind (wpAny_mono h₁ (fun _ s₁' h₁' => ?_) fun _ _ h' => h'.elim)
    refine wpAny_bind (wpAny_mono h₁' (fun _ s₂ h₂ => wpAny_bind (wpAny_mono h₂ (fun ok s₃ h₃ => ?_) fun _ _ h' => h'.elim)) fun _ _ h' => h'.elim)
    cases ok with
    | false => exact wpAny_pure ⟨rfl, h₃⟩
    | true =>
      exact wpAny_bind (wpAny_bind (wpAny_mono h₃ (fun x s₄ h₄ => wpAny_bind (wpAny_mono h₄ (fun _ s₅ h₅ => wpAny_pure (wpAny_pure ⟨rfl, h₅⟩)) fun _ _ h' => h'.elim)) fun _ _ h' => h'.elim))

/-- the context of a comprehension's block -/
def Cx.comp (X : Cx) (scope : Scope) (cl : List (Str × Addr)) (N : List Str) (pins : List (Addr × Obj)) (s : Shared) (H : Hp) (fp : List Addr) : Cx where
  prog := X.prog
  w := X.w
  K := X.K
  mg := X.mg
  base := X.base
  A := X.A
  N := N
  s₀ := s
  H₀ := H
  env := compEnvC scope cl s.heap.objs.size X.env
  outer := X.stack
  stack := X.stack
  ex := fp
  fn := fun _ => false
  calm := X.calm
  pn := X.pn ++ pins
  xe := fun _ _ => False

/-- the free names' values at the block's entry, behind nt targets -/
def compStart (nt : Nat) (frs : List (Str × Nat)) (σ : St) : St := List.replicate nt none ++ frs.map fun p => (σ[p.2]?).join

/-- what of the names a comprehension must have: targets ts, free names frs with their slots outside -/
structure CompScope (X : Cx) (scope : Scope) (cl : List (Str × Addr)) (ts : List Str) (frs : List (Str × Nat)) : Prop where
  clos : closureFor scope X.env = pure cl
  kind : scope.kind = .function
  nocell : ∀ y ∈ scope.names, y.2 ≠ .cell
  names : ∀ y ∈ scope.names, y.2 = .local → scope.names.lookup y.1 = some .local
  sub : ∀ p ∈ cl, X.env.cells.lookup p.1 = some p.2
  has : ∀ p ∈ (relabel scope X.env).names, p.2 = .cell ∨ p.2 = .free → (cl.lookup p.1).isSome = true
  out : ∀ p ∈ frs, X.N[p.2]? = some p.1 ∧ (X.env.kindOf p.1 = some .cell ∨ X.env.kindOf p.1 = some .free) ∧ ((relabel scope X.env).names.lookup p.1 = some .cell ∨ (relabel scope X.env).names.lookup p.1 = some .free) ∧ (cl.lookup p.1).isSome = true

section
variable {X : Cx} {scope : Scope} {cl : List (Str × Addr)} {ts : List Str} {frs' : List (Str × Nat)} {pins : List (Addr × Obj)} {σ : St} {H : Hp} {s : Shared} {fp : List Addr}
theorem CompScope.subL (S : CompScope X scope cl ts frs') {x : Str} {c : Addr} (h : cl.lookup x = some c) : X.env.cells.lookup x = some c := S.sub (x, c) (PySem.mem_of_lookup h)

theorem CompScope.inv (S : CompScope X scope cl ts frs') (I : Inv X pins σ H s) (hf : ∀ b ∈ fp, FpOk X pins H b) (hlt : ∀ b ∈ fp, b < s.heap.objs.size) {h₁ : Heap} {tk : Nat} {m : Str → Option Value} (hns : h₁.Ns s.heap.objs.size m)
    (hk : ∀ b o, s.heap.get? b = some o → h₁.get? b = some o) : Inv (X.comp scope cl (ts ++ frs'.map (·.1)) pins s H fp) [] (compStart ts.length frs' σ) H { s with heap := h₁, toks := tk } := by
  have hC : ∀ b o, s.heap.get? b = some o → b ≠ s.heap.objs.size := fun b o e => Nat.ne_of_lt (Heap.lt_size e)
  have hcell : ∀ x c, cl.lookup x = some c → ∃ v, h₁.IsCell c v := fun x c e => by
    obtain ⟨v, o, ho, hd⟩ := I.cell x c (S.subL e)
    exact ⟨v, o, hk c o ho, hd⟩
  refine ⟨⟨I.ok.mod, ?_, I.ok.glob, I.ok.blt, Nat.le_refl _, fun x y c h1 h2 => I.ok.inj x y c (S.subL h1) (S.subL h2), fun x hx => ?_, fun x c z => (by cases z), I.ok.hd, I.ok.frames, .inl rfl, fun b hb => ⟨Nat.ne_of_lt (hlt b hb), fun x c e => ?_⟩, I.bs, Nat.le_trans I.ok.bsz I.sz, fun b o e hb => ?_, fun b hb z => ?_, I.stack, I.stkFree⟩,
    rfl, I.bare, Un.kept hk, ⟨m, hns, fun i x v h1 h2 h3 => ?_⟩, hcell, I.hok.fresh (Nat.le_refl _), fun x c e => I.freeC x c (S.subL e), fun p hp => ?_, I.hok.kept hk, ?_⟩
  · exact S.kind
  · have hx' : (relabel scope X.env).names.lookup x = some .cell ∨ (relabel scope X.env).names.lookup x = some .free := hx
    have : (cl.lookup x).isSome = true := by
      rcases hx' with e | e
      · exact S.has (x, .cell) (PySem.mem_of_lookup e) (.inl rfl)
      · exact S.has (x, .free) (PySem.mem_of_lookup e) (.inr rfl)
    exact Option.isSome_iff_exists.mp this
  · exact (hf b hb).2.2.2.2.1 x c (S.subL e)
  · obtain ⟨_, _, _, h4, _⟩ := hf b hb
    rcases h4 with h4 | h4
    · exact I.ok.noex b o e h4
    · exact absurd (Nat.lt_of_lt_of_le (Heap.lt_size e) (Nat.le_trans I.ok.bsz h4)) (Nat.lt_irrefl _)
  · obtain ⟨_, h2, h3, _⟩ := hf b hb
    rcases List.mem_cons.mp (I.stkSub b z) with e | e
    · exact h2 e
    · exact h3 e
  · have hi : ts.length ≤ i := by
      by_cases hi : ts.length ≤ i
      · exact hi
      · have : (compStart ts.length frs' σ)[i]? = some none := by
          unfold compStart
          rw [List.getElem?_append_left (by simp; omega), List.getElem?_replicate, if_pos (by omega)]
        rw [this] at h2; cases h2
    obtain ⟨p, hp, e1, e2⟩ : ∃ p ∈ frs', p.1 = x ∧ (σ[p.2]?).join = some v := by
      have h1' : (ts ++ frs'.map (·.1))[i]? = some x := h1
      have h2' : (compStart ts.length frs' σ)[i]? = some (some v) := h2
      unfold compStart at h2'
      rw [List.getElem?_append_right hi, List.getElem?_map] at h1'
      rw [List.getElem?_append_right (by simpa using hi), List.getElem?_map, List.length_replicate] at h2'
      cases e : frs'[i - ts.length]? with
      | none => rw [e] at h1'; cases h1'
      | some p =>
        rw [e] at h1' h2'
        exact ⟨p, List.mem_of_getElem? e, Option.some.inj h1', Option.some.inj h2'⟩
    obtain ⟨o1, o2, o3, o4⟩ := S.out p hp
    rw [e1] at o1 o2 o3 o4
    have e3 : σ[p.2]? = some (some v) := by
      cases e : σ[p.2]? with
      | none => rw [e] at e2; cases e2
      | some q => rw [e] at e2; exact congrArg some e2
    obtain ⟨m', _, hl⟩ := I.loc
    have hv : Vis X.env.scope x := by
      rcases o2 with o2 | o2
      · exact .inr (.inl o2)
      · exact .inr (.inr o2)
    obtain ⟨u, r, l⟩ := hl p.2 x v o1 e3 hv
    refine ⟨u, r, .inr ⟨o3, ?_⟩⟩
    obtain ⟨c, hc⟩ := Option.isSome_iff_exists.mp o4
    rcases l with ⟨k, _⟩ | ⟨_, c', e, ob, ho, hd⟩
    · rcases o2 with o2 | o2 <;> (rw [o2] at k; cases k)
    · have : c' = c := by have := S.subL hc; rw [this] at e; exact (Option.some.inj e).symm
      subst this
      exact ⟨c', hc, ob, hk c' ob ho, hd⟩
  · have hp' : p ∈ X.pn ++ pins := by
      have : p ∈ (X.pn ++ pins) ++ [] := hp
      rwa [List.append_nil] at this
    obtain ⟨e, n, ne, nf, d⟩ := I.pin p hp'
    refine ⟨hk _ _ e, n, hC _ _ e, fun z => ?_, d⟩
    rcases List.mem_cons.mp (I.stkSub _ z) with e' | e'
    · exact ne e'
    · exact nf e'
  · show (compStart ts.length frs' σ).length = (ts ++ frs'.map (·.1)).length
    unfold compStart
    simp

/-- behind the block -/
theorem CompScope.after (I : Inv X pins σ H s) (hf : ∀ b ∈ fp, FpOk X pins H b) {N : List Str} {σ' : St} {H' : Hp} {s' : Shared} (J : Inv (X.comp scope cl N pins s H fp) [] σ' H' s') {h' : Heap} (hs : Heap.SameBut s.heap.objs.size s'.heap h') :
    Inv X pins σ H' { s' with heap := h' } := by
  have hC : ∀ b o, s.heap.get? b = some o → b ≠ s.heap.objs.size := fun b o e => Nat.ne_of_lt (Heap.lt_size e)
  have fr : H' s.heap.objs.size = none := J.free
  refine I.call' (s' := { s' with heap := h' }) (ch := fp) J.os ?_ ?_ J.bare fun b hb => ?_
  · have u := J.base
    exact ⟨fun b o e n h1 h2 => (hs.2 b (hC b o e)).trans (u.keep b o e n h1 h2), fun b o e n h1 h2 => by
        obtain ⟨sl, q⟩ := u.slot b o e n h1 h2
        exact ⟨sl, (hs.2 b (hC b o e)).trans q⟩, u.free, fun b o e h2 => by
        obtain ⟨o', q⟩ := u.there b o e h2
        exact ⟨o', (hs.2 b (hC b o e)).trans q⟩, u.tups, u.frzs, u.tbls⟩
  · intro b ob e
    refine (J.hok b ob e).stay (fun c w' hc q => (hs.2 c ?_).trans q) (fun _ q => q) fun _ _ q => q
    rintro rfl
    rcases hc with hc | hc
    · rw [← hc, fr] at e; cases e
    · rw [fr] at hc; cases hc
  · obtain ⟨h1, h2, h3, h4, h5, h6⟩ := hf b hb
    exact ⟨h4, h2, h5, h6⟩
end

/-- the clause's tests -/
def PIfs (X : Cx) (ifs : List Expr) (t : TT) : Prop :=
  ∀ (pins : List (Addr × Obj)) (s : Shared) (σ : St) (H : Hp) (Q : Bool → Hp → Prop), Inv X pins σ H s → t σ H Q →
    wpAny (model X.prog X.w) X.A (forIn ifs true fun c r => if r = true then do let ok ← isTrue c X.env (eval c X.env); pure (ForInStep.yield ok) else pure (ForInStep.yield r)) (TP X pins σ Q) X.xe s
def tTrue : TT := fun _ H Q => Q true H
theorem pifs_nil {X : Cx} : PIfs X [] tTrue := fun _ _ _ H _ I h => wpAny_tests_nil ⟨H, I, h⟩
def tComp (nt : Nat) (frs : List (Str × Nat)) (wi : TI) (g : TG) (tt : TT) (te : TE) : TE := fun σ H Q => wi σ H fun J H1 => ∀ l, H1 l = none → ∃ W : Nat → Nat → St → Hp → Prop, (∃ m, W 0 m (compStart nt frs σ) (upd H1 l (.lst []))) ∧
  ∀ i m τ H, W i m τ H → (J.stop i H ∧ Q (.ref l) H) ∨ (J.go i H ∧ ∀ x H', J.yld i H x H' → g x τ H' fun τ2 H2 => tt τ2 H2 fun ok H3 =>
    if ok = true then te τ2 H3 fun y H4 => ∃ ys, H4 l = some (.lst ys) ∧ ys.length < sizeLine ∧ ∃ m', m' < m ∧ W (i + 1) m' τ2 (upd H4 l (.lst (ys ++ [y]))) else ∃ m', m' < m ∧ W (i + 1) m' τ2 H3)

theorem pe_comp {X : Cx} {elt tg iter : Expr} {ifs : List Expr} {scope : Scope} {cl : List (Str × Addr)} {ts : List Str} {frs' : List (Str × Nat)} {pos : Pos} {wi : TI} {g : TG} {tt : TT} {te : TE} (hc : X.calm = true) (S : CompScope X scope cl ts frs')
    (hi : PI X tg iter wi) (hg : ∀ pins s H fp, PG (X.comp scope cl (ts ++ frs'.map (·.1)) pins s H fp) tg g) (ht : ∀ pins s H fp, PIfs (X.comp scope cl (ts ++ frs'.map (·.1)) pins s H fp) ifs tt)
    (he : ∀ pins s H fp, PE (X.comp scope cl (ts ++ frs'.map (·.1)) pins s H fp) elt te) (hs : ∀ x, foldedSetIterable iter X.env x = pure x := by intro _; rfl) :
    PE X (.ListComp elt [⟨tg, iter, ifs, 0⟩] scope pos) (tComp ts.length frs' wi g tt te) := by
  intro pins s σ H Q I h
  rw [eval_ListComp]
  refine wpAny_comprehension_free (use := none) (cl := cl) rfl hs S.clos S.kind S.names (thn (hi pins s σ H _ I h) fun v s1 h1 => thn h1 fun itv s2 h2 => ?_)
  obtain ⟨it, fp, tn, J, H2, e, I2, T, st2, f2, q2⟩ := h2
  subst e
  have fr2 : H2 s2.heap.objs.size = none := I2.hok.fresh (Nat.le_refl _)
  obtain ⟨W, ⟨m0, w0⟩, turn⟩ := q2 _ fr2
  refine wpAny_newObj_type ?_
  have hlt2 : ∀ b ∈ fp, b < s2.heap.objs.size := fun b hb => by
    obtain ⟨o, e, _⟩ := T.obj _ _ st2 b hb
    exact Heap.lt_size e
  -- the list is laid
  have I3 : Inv X pins σ (upd H2 s2.heap.objs.size (.lst [])) { s2 with heap := s2.heap.push { cls := .type "list", data := .seq ([] : List Value).toArray } } :=
    I2.laid (t' := s2.toks) (fun b u e => Heap.get?_push_of_some _ e) (Nat.le_refl _) ⟨Nat.zero_le _, [], 0, .nil, Heap.get?_push_size _ rfl⟩
  have f3 : ∀ b ∈ fp, FpOk X pins (upd H2 s2.heap.objs.size (.lst [])) b := fun b hb => ⟨by rw [upd_ne (Nat.ne_of_lt (hlt2 b hb))]; exact (f2 b hb).1, (f2 b hb).2⟩
  have hk3 : ∀ b o, s2.heap.get? b = some o → (s2.heap.push { cls := .type "list", data := .seq ([] : List Value).toArray }).get? b = some o := fun b o e => Heap.get?_push_of_some _ e
  have hsz3 : (s2.heap.push { cls := .type "list", data := .seq ([] : List Value).toArray }).objs.size = s2.heap.objs.size + 1 := Heap.size_push ..
  refine wpAny_newFunctionEnv S.nocell (by intro y hy; simp at hy) (fun h₁ hns₁ hsb₁ => ?_) S.kind
  dsimp only at hns₁ hsb₁ ⊢
  generalize hs3 : ({ s2 with heap := s2.heap.push { cls := .type "list", data := .seq ([] : List Value).toArray } } : Shared) = s3 at I3 hns₁ hsb₁ ⊢
  have es3 : s3.heap = s2.heap.push { cls := .type "list", data := .seq ([] : List Value).toArray } := by rw [← hs3]
  have hk4 : ∀ b o, s3.heap.get? b = some o → h₁.get? b = some o := fun b o e => by
    have := hsb₁.2 b (by rw [← es3]; exact Nat.ne_of_lt (Heap.lt_size e))
    rw [← es3] at this
    exact this.trans (Heap.get?_push_of_some _ e)
  have hlt3 : ∀ b ∈ fp, b < s3.heap.objs.size := fun b hb => by
    rw [es3, hsz3]
    exact Nat.lt_succ_of_lt (hlt2 b hb)
  rw [← es3] at hns₁
  have I4 := S.inv I3 f3 hlt3 (tk := s2.toks + ([] : List (Str × Value)).length) hns₁ hk4
  have st4 : tn 0 h₁ := T.keep _ _ _ st2 fun b hb o e => hk4 b o (by rw [es3]; exact hk3 b o e)
  have estart : ({ s2 with heap := h₁, toks := s2.toks + ([] : List (Str × Value)).length } : Shared) = { s3 with heap := h₁, toks := s2.toks + ([] : List (Str × Value)).length } := by rw [← hs3]
  rw [estart]
  -- what stays true of the iterator's objects
  have stat : ∀ {H' : Hp}, (∀ b ∈ fp, H' b = none) → ∀ b ∈ fp, FpOk (X.comp scope cl (ts ++ frs'.map (·.1)) pins s3 (upd H2 s2.heap.objs.size (.lst [])) fp) [] H' b := fun hn b hb => by
    obtain ⟨h1, h2, h3, h4, h5, h6⟩ := f3 b hb
    refine ⟨hn b hb, Nat.ne_of_lt (hlt3 b hb), fun z => ?_, .inl hb, fun x c e => h5 x c (S.subL e), fun p hp => h6 p (by
      have : p ∈ (X.pn ++ pins) ++ [] := hp
      rwa [List.append_nil] at this)⟩
    rcases List.mem_cons.mp (I3.stkSub _ z) with e' | e'
    · exact h2 e'
    · exact h3 e'
  have loop : codeAny (model X.prog X.w) X.A (.compLoop (.ListComp elt [⟨tg, iter, ifs, 0⟩] scope pos) 0 (.ref it) (.ref s2.heap.objs.size) (compEnvC scope cl s3.heap.objs.size X.env))
      (compPost (model X.prog X.w) X.A X.xe none (EP X pins σ Q) (.ref s2.heap.objs.size) s3.heap.objs.size) { s3 with heap := h₁, toks := s2.toks + ([] : List (Str × Value)).length } := by
    refine compLoop_any (fun n s' => ∃ i τ H', Inv (X.comp scope cl (ts ++ frs'.map (·.1)) pins s3 (upd H2 s2.heap.objs.size (.lst [])) fp) [] τ H' s' ∧ tn i s'.heap ∧ (∀ b ∈ fp, H' b = none) ∧ W i n τ H') ?_ m0
      ⟨0, _, _, I4, st4, fun b hb => (f3 b hb).1, w0⟩
    rintro n s5 ⟨i, τ, H5, I5, st5, fr5, w5⟩
    rcases turn i n τ H5 w5 with ⟨stop, qn⟩ | ⟨go, step⟩
    · refine wpAny_mono (T.done (X.comp scope cl (ts ++ frs'.map (·.1)) pins s3 (upd H2 s2.heap.objs.size (.lst [])) fp) rfl rfl rfl hc i [] s5 τ H5 (fun _ _ => False) I5 (stat fr5) st5 stop) (fun r s6 ⟨hr, I6⟩ => ?_) fun _ _ z => z
      subst hr
      obtain ⟨m6, hn6, _⟩ := id I6.loc
      exact ⟨m6, hn6, fun h' hs' => ⟨.ref _, H5, CompScope.after I3 f3 I6 hs', rfl, qn⟩⟩
    · refine wpAny_mono (T.item (X.comp scope cl (ts ++ frs'.map (·.1)) pins s3 (upd H2 s2.heap.objs.size (.lst [])) fp) rfl rfl rfl hc i [] s5 τ H5 (fun _ _ => False) I5 (stat fr5) st5 go) (fun r s6 ⟨u, hr, h6⟩ => ?_) fun _ _ z => z
      subst hr
      refine thn h6 fun _ s7 ⟨x, H7, I7, r7, y7, st7, fr7⟩ => ?_
      have I7' := I7.pinned (stat fr7) (T.obj _ _ st7)
      refine thn (hg _ _ _ _ _ s7 τ H7 x u _ I7' r7 (step x H7 y7)) fun _ s8 ⟨τ8, H8, I8, q8⟩ => ?_
      refine thn (ht _ _ _ _ _ s8 τ8 H8 _ I8 q8) fun ok s9 ⟨H9, I9, q9⟩ => ?_
      have again : ∀ {m' : Nat} {H' : Hp} {s' : Shared}, Inv (X.comp scope cl (ts ++ frs'.map (·.1)) pins s3 (upd H2 s2.heap.objs.size (.lst [])) fp) ([] ++ pinsAt fp s7.heap) τ8 H' s' → m' < n → W (i + 1) m' τ8 H' →
          ∃ m, m < n ∧ ∃ i τ H', Inv (X.comp scope cl (ts ++ frs'.map (·.1)) pins s3 (upd H2 s2.heap.objs.size (.lst [])) fp) [] τ H' s' ∧ tn i s'.heap ∧ (∀ b ∈ fp, H' b = none) ∧ W i m τ H' := fun {m' H' s'} I' hm w' => by
        refine ⟨m', hm, i + 1, τ8, H', I'.unpinned, T.keep _ _ _ st7 fun b hb o e => (I'.pin (b, o) (List.mem_append_right _ (List.mem_append_right _ (mem_pinsAt hb e)))).1, fun b hb => ?_, w'⟩
        obtain ⟨o, e, d⟩ := T.obj _ _ st7 b hb
        exact (I'.pin (b, o) (List.mem_append_right _ (List.mem_append_right _ (mem_pinsAt hb e)))).2.1
      cases ok with
      | false =>
        rw [if_neg Bool.false_ne_true]
        rw [if_neg Bool.false_ne_true] at q9
        obtain ⟨m', hm, w'⟩ := q9
        exact again I9 hm w'
      | true =>
        rw [if_pos rfl]
        rw [if_pos rfl] at q9
        refine thn (he _ _ _ _ _ s9 τ8 H9 _ I9 q9) fun yv s10 ⟨y, H10, I10, r10, ys, hl, hz, m', hm, w'⟩ => ?_
        refine thn (mt_append _ s10 τ8 H10 (.ref s2.heap.objs.size) [y] (.ref s2.heap.objs.size) [yv] (fun _ H' => W (i + 1) m' τ8 H') I10 rfl (.cons r10 .nil) ⟨_, ys, y, rfl, rfl, hl, hz, w'⟩) fun _ s11 ⟨_, H11, I11, _, w11⟩ => ?_
        exact again I11 hm w11
  have es : (s2.heap.push { cls := .type "list", data := .seq ([] : List Value).toArray }).objs.size = s3.heap.objs.size := by rw [es3]
  rw [es]
  exact codeAny_compStart_list loop (T.self _ 0 _ _ _ st4 loop)
end L2

set_option Elab.async false
set_option linter.all false
set_option maxRecDepth 100000
set_option maxHeartbeats 4000000
/-! own rules over the layer: slices and great letters of texts, all, isinstance, a module's tuple -/
namespace L2
open PySem PySem.Spec PyProof.Rows PySem.Builtin.Str

/-- the signs of x[lo:hi] -/
def cutS (z : Str) (lo hi : Option Int) : Str := ⟨((z.cps.toList.drop (HT.sIx z.cps.toList.length 0 lo)).take (HT.sIx z.cps.toList.length z.cps.toList.length hi - HT.sIx z.cps.toList.length 0 lo)).toArray⟩

theorem clipS_eq (v : Int) (n d : Nat) : max 0 (min (if v < 0 then v + (n : Int) else v) (n : Int)) = ((HT.sIx n d (some v) : Nat) : Int) := by
  rw [← HT.clip_eq v n d]
  split <;> omega
theorem indices_eq (lo hi : Option Int) (n : Nat) : strSliceIndices lo hi 1 n = (List.range (HT.sIx n n hi - HT.sIx n 0 lo)).map fun k => HT.sIx n 0 lo + k := by
  have h1 : ∀ (a b : Nat), sliceRange (a : Int) (b : Int) 1 = (List.range (b - a)).map fun k => a + k := by
    intro a b
    unfold sliceRange
    simp only [show (1 : Int) > 0 by decide, if_true]
    have e : (if (a : Int) < (b : Int) then ((b : Int) - (a : Int) + 1 - 1) / 1 else 0).toNat = b - a := by
      rw [Int.ediv_one]
      split <;> omega
    rw [e]
    refine List.map_congr_left fun k _ => ?_
    omega
  unfold strSliceIndices
  simp only [show (1 : Int) > 0 by decide, if_true]
  cases lo with
  | none =>
    cases hi with
    | none => exact h1 0 n
    | some v =>
      dsimp only
      rw [clipS_eq v n n]
      exact h1 0 _
  | some u =>
    cases hi with
    | none =>
      dsimp only
      rw [clipS_eq u n 0]
      exact h1 _ n
    | some v =>
      dsimp only
      rw [clipS_eq u n 0, clipS_eq v n n]
      exact h1 _ _
theorem pick_range (l : List Nat) (a k : Nat) (h : a + k ≤ l.length) : ((List.range k).map fun i => a + i).filterMap (fun i => l[i]?) = (l.drop a).take k := by
  induction k generalizing a with
  | zero => simp
  | succ k ih =>
    rw [List.range_succ_eq_map, List.map_cons, List.filterMap_cons]
    have ha : a < l.length := by omega
    simp only [Nat.add_zero]
    rw [List.getElem?_eq_getElem ha]
    dsimp only
    rw [List.drop_eq_getElem_cons ha, List.take_succ_cons]
    congr 1
    rw [List.map_map, ← ih (a + 1) (by omega)]
    congr 1
    refine List.map_congr_left fun i _ => ?_
    show a + (i + 1) = a + 1 + i
    omega
theorem slice_eq (x : Str) (lo hi : Option Int) : Txt.slice x lo hi = cutS x lo hi := by
  unfold Txt.slice cutS
  have hn : x.length = x.cps.toList.length := by show x.cps.size = _; simp
  have ha := HT.sIx_le x.cps.toList.length 0 (Nat.zero_le _) lo
  have hb := HT.sIx_le x.cps.toList.length x.cps.toList.length (Nat.le_refl _) hi
  rw [hn, indices_eq]
  generalize HT.sIx x.cps.toList.length 0 lo = a at ha ⊢
  generalize HT.sIx x.cps.toList.length x.cps.toList.length hi = b at hb ⊢
  have hp := pick_range x.cps.toList a (b - a)
  split
  · rename_i h
    simp only [List.length_map, List.length_range, Bool.and_eq_true, beq_iff_eq] at h
    have h2 : b - a = x.cps.toList.length := h.2
    by_cases h0 : x.cps.toList.length = 0
    · have : x.cps = #[] := by
        apply Array.eq_empty_of_size_eq_zero; simpa using h0
      cases x; simp_all
    · have ea : a = 0 := by omega
      subst ea
      rw [List.drop_zero, List.take_of_length_le (by omega)]
  · congr 1
    by_cases hab : a ≤ b
    · rw [← hp (by omega)]
      congr 1
      simp only [Array.getElem?_toList]
    · have : b - a = 0 := by omega
      rw [this]; simp
section
variable {X : Cx}
def rSlS : V → Option Int → Option Int → Hp → VK → Prop := fun x lo hi H Q => ∃ z, x = .str z ∧ z.length ≤ sizeLine ∧ Q (.str (cutS z lo hi)) H
theorem sl_str : SlR X rSlS := by
  intro pins s σ H x v vl vu lo hi sl Q I rx hs pl pu h
  obtain ⟨z, rfl, hz, q⟩ := h
  obtain ⟨t, rfl⟩ := rx
  rw [← slice_eq] at q
  refine ⟨"str", _, F.slot_str_getitem.lookup, typeIs_str _ _ _, ?_⟩
  obtain ⟨o, ho, hc, hd⟩ := hs
  have key : ∀ (l u : Option (Int × Tok)), vl = partValue l → vu = partValue u → lo = l.map (·.1) → hi = u.map (·.1) → wpAny (model X.prog X.w) X.A (getItem (.str z t) (.ref sl)) (EP X pins σ Q) X.xe s := by
    intro l u e1 e2 e3 e4
    subst e1 e2 e3 e4
    refine wpAny_getItem_str_slice (l := l) (u := u) (st := none) ⟨o, ho, hc, hd⟩ rfl (post_val_or_str ⟨Nat.le_trans (Txt.slice_le z _ _) hz, fun t' k => ?_⟩)
    exact ⟨.str _, H, I.tok k, ⟨_, rfl⟩, q⟩
  cases pl with
  | none =>
    cases pu with
    | none => exact key none none rfl rfl rfl rfl
    | int j u => exact key none (some (j, u)) rfl rfl rfl rfl
  | int i t =>
    cases pu with
    | none => exact key (some (i, t)) none rfl rfl rfl rfl
    | int j u => exact key (some (i, t)) (some (j, u)) rfl rfl rfl rfl

/-- str.upper of a text that is not long -/
def rUpper : V → List V → Hp → VK → Prop := fun x vs H Q => ∃ z, x = .str z ∧ vs = [] ∧ z.length ≤ 5592405 ∧ ((Txt.upper z).length ≤ 3 * z.length → Q (.str (Txt.upper z)) H)
/-- all(..) of a list of bools -/
theorem call_all (hc : X.calm = true) : CallR X (.builtin "all") (fun xs H Q => ∃ (p : Addr) (bs : List Bool), xs = [.ref p] ∧ SqL X.K H p (bs.map V.bl) ∧ Q (.bl (bs.all id)) H) := by
  intro pins s σ H xs us Q I r h
  obtain ⟨p, bs, rfl, hl, q⟩ := h
  obtain ⟨u, rfl, ru⟩ := r.one
  cases ru
  obtain ⟨its, rv, pl, hz⟩ := I.list hl
  refine call_all_walk (wpAny_pyIter_list pl.isList ?_)
  have hne : p ≠ s.heap.objs.size := Nat.ne_of_lt (by obtain ⟨o, n, e, _⟩ := pl; exact Heap.lt_size e)
  refine ⟨s.heap.objs.size, _, _, _, _, _, fun i => bs.getD i true, rfl, Walks.list (show X.A.in1.handled = none from I.ok.hd hc) s.heap.objs.size p hne its.toArray, ⟨⟨_, Heap.get?_push_size _ rfl, rfl, rfl⟩, pl.isList.at fun o e => Heap.get?_push_of_some _ e⟩, ?_, fun h' tk hk => ?_⟩
  · intro i v s' Q' E' hv hQ'
    have hv' : its[i]? = some v := by simpa using hv
    cases e : (bs.map V.bl)[i]? with
    | none =>
      have := rv.none_of e
      rw [this] at hv'; cases hv'
    | some y =>
      obtain ⟨u, hu, ru⟩ := rv.get e
      rw [hv'] at hu; cases hu
      rw [List.getElem?_map] at e
      cases eb : bs[i]? with
      | none => rw [eb] at e; cases e
      | some b =>
        rw [eb] at e
        cases e
        cases ru
        have e9 : bs.getD i true = b := by rw [List.getD_eq_getElem?_getD, eb]; rfl
        dsimp only at hQ'
        rw [e9] at hQ'
        exact wpAny_truthy_bool hQ'
  · have e : (List.range its.toArray.size).all (fun i => bs.getD i true) = bs.all id := by
      have hlen : its.toArray.size = bs.length := by have := rv.length; simp at this; simp; omega
      rw [hlen, Bool.eq_iff_iff, List.all_eq_true, List.all_eq_true]
      constructor
      · intro h b hb
        obtain ⟨i, hi, rfl⟩ := List.mem_iff_getElem.mp hb
        have := h i (List.mem_range.mpr hi)
        rw [List.getD_eq_getElem?_getD, List.getElem?_eq_getElem hi] at this
        exact this
      · intro h i hi
        have hi := List.mem_range.mp hi
        rw [List.getD_eq_getElem?_getD, List.getElem?_eq_getElem hi]
        exact h _ (List.getElem_mem hi)
    rw [e]
    exact ⟨.bl _, H, I.kept (t' := tk) fun b o e => hk b o (by simp; exact Nat.ne_of_lt (Heap.lt_size e)) (Heap.get?_push_of_some _ e), rfl, q⟩

/-- isinstance(x, c), c a type's name or a class -/
def tyW : V → Option Value
  | .ty n => some (.type n)
  | .ref a => some (.ref a)
  | _ => none
end
end L2

set_option Elab.async false
set_option linter.all false
set_option maxRecDepth 100000
set_option maxHeartbeats 4000000
/-! own rules over the layer: one rule an operation, by the values' kinds (the readings are then unfolded by simp) -/
namespace L2
open PySem PySem.Spec PyProof.Rows PySem.Builtin.Str

/-- a list or a tuple that is read -/
def Sq (K : PySem.W.Frag) (H : Hp) (a : Addr) (xs : List V) : Prop := SqL K H a xs ∨ SqT K H a xs
/-- x stands in y as a text -/
def occ (y x : Str) : Bool := !(occurrences y x 0 y.length 1).isEmpty

def uAdd (K : PySem.W.Frag) : R2 := fun x y H Q => match x, y with
  | .int i, .int j => Q (.int (i + j)) H
  | .str i, .str j => i.length + j.length ≤ sizeLine ∧ Q (.str (i ++ j)) H
  | .ref a, .ref b => rCat (.ref a) (.ref b) H Q ∨ rCatT K (.ref a) (.ref b) H Q
  | _, _ => False
def uSub : R2 := fun x y H Q => match x, y with
  | .int i, .int j => Q (.int (i - j)) H
  | _, _ => False
def uMul : R2 := fun x y H Q => match x, y with
  | .int i, .int j => CMul i j ∧ Q (.int (i * j)) H
  | .ref a, .int k => rRep (.ref a) (.int k) H Q
  | _, _ => False
def uDiv : R2 := fun x y H Q => match x, y with
  | .int i, .int j => CDiv i j ∧ Q (.int (i / j)) H
  | _, _ => False
def uMod : R2 := fun x y H Q => match x, y with
  | .int i, .int j => 0 < j ∧ Q (.int (i % j)) H
  | _, _ => False
def uPow : R2 := fun x y H Q => match x, y with
  | .int i, .int j => CPow i j ∧ Q (.int (i ^ j.toNat)) H
  | _, _ => False
def uLt : R2 := fun x y H Q => match x, y with
  | .int i, .int j => Q (.bl (decide (i < j))) H
  | .str i, .str j => Q (.bl (decide (i.cps.toList < j.cps.toList))) H
  | _, _ => False
def uLe : R2 := fun x y H Q => match x, y with
  | .int i, .int j => Q (.bl (decide (i ≤ j))) H
  | _, _ => False
def uGt : R2 := fun x y H Q => match x, y with
  | .int i, .int j => Q (.bl (decide (j < i))) H
  | _, _ => False
def uGe : R2 := fun x y H Q => match x, y with
  | .int i, .int j => Q (.bl (decide (j ≤ i))) H
  | _, _ => False
def uEq : R2 := fun x y H Q => match x, y with
  | .int i, .int j => Q (.bl (decide (i = j))) H
  | .str i, .str j => Q (.bl (decide (i = j))) H
  | .bl i, .bl j => Q (.bl (decide (i = j))) H
  | .non, .non => Q (.bl true) H
  | .non, .str _ => Q (.bl false) H
  | .str _, .non => Q (.bl false) H
  | _, _ => False
def uNe : R2 := fun x y H Q => match x, y with
  | .int i, .int j => Q (.bl (!decide (i = j))) H
  | .str i, .str j => Q (.bl (!decide (i = j))) H
  | .bl i, .bl j => Q (.bl (!decide (i = j))) H
  | .non, .non => Q (.bl false) H
  | .non, .str _ => Q (.bl true) H
  | .str _, .non => Q (.bl true) H
  | _, _ => False
def uIn (K : PySem.W.Frag) : R2 := fun x y H Q => match x, y with
  | .str i, .str j => Q (.bl (occ j i)) H
  | x, .ref p => ∃ xs, Sq K H p xs ∧ flatV x = true ∧ xs.all flatV = true ∧ Q (.bl (inV x xs)) H
  | _, _ => False
def uNin (K : PySem.W.Frag) : R2 := fun x y H Q => match x, y with
  | .str i, .str j => Q (.bl (!occ j i)) H
  | x, .ref p => ∃ xs, Sq K H p xs ∧ flatV x = true ∧ xs.all flatV = true ∧ Q (.bl (!inV x xs)) H
  | _, _ => False
def uIx (K : PySem.W.Frag) : R2 := fun x y H Q => match x, y with
  | .str z, .int i => z.length ≤ sizeLine ∧ ∃ c, atI z.cps.toList i = some c ∧ Q (.str ⟨#[c]⟩) H
  | .ref p, .int i => ∃ xs v, Sq K H p xs ∧ atI xs i = some v ∧ Q v H
  | _, _ => False
def uSl (K : PySem.W.Frag) : V → Option Int → Option Int → Hp → VK → Prop := fun x lo hi H Q => match x with
  | .str z => z.length ≤ sizeLine ∧ Q (.str (cutS z lo hi)) H
  | .ref p => rSlL K (.ref p) lo hi H Q ∨ rSlT K (.ref p) lo hi H Q
  | _ => False
def uLen (K : PySem.W.Frag) : List V → Hp → VK → Prop := fun xs H Q => match xs with
  | [.str z] => z.length ≤ sizeLine ∧ Q (.int z.length) H
  | [.ref p] => ∃ ys, Sq K H p ys ∧ Q (.int ys.length) H
  | _ => False
def uMax : List V → Hp → VK → Prop := fun xs H Q => match xs with
  | [.int i, .int j] => Q (.int (max i j)) H
  | _ => False
def uMin : List V → Hp → VK → Prop := fun xs H Q => match xs with
  | [.int i, .int j] => Q (.int (min i j)) H
  | _ => False
def uInt : List V → Hp → VK → Prop := fun xs H Q => match xs with
  | [.int i] => Q (.int i) H
  | [.bl k] => Q (.int (if k then 1 else 0)) H
  | _ => False
def uIsi (K : PySem.W.Frag) : List V → Hp → VK → Prop := fun xs H Q => match xs with
  | [x, .ty n] => ∃ t b, TyOf K H x t ∧ PySem.W.kitOne K t (.type n) = some b ∧ Q (.bl b) H
  | [x, .ref c] => ∃ t b, TyOf K H x t ∧ PySem.W.kitOne K t (.ref c) = some b ∧ Q (.bl b) H
  | _ => False

section
variable {X : Cx}
/-- a rule that is asked by the kinds of two values -/
theorem OpR.imp {f : Value → Value → Sem Value} {r r' : R2} (h : OpR X f r) (hi : ∀ x y H Q, r' x y H Q → r x y H Q) : OpR X f r' := fun pins s σ H x y v u Q I rx ry q => h pins s σ H x y v u Q I rx ry (hi _ _ _ _ q)
theorem CallR.imp {f : Value} {r r' : List V → Hp → VK → Prop} (h : CallR X f r) (hi : ∀ xs H Q, r' xs H Q → r xs H Q) : CallR X f r' := fun pins s σ H xs us Q I rx q => h pins s σ H xs us Q I rx (hi _ _ _ q)
theorem o_sub : OpR X (binaryOp .Sub) uSub := op_sub.imp fun x y H Q q => by
  unfold uSub at q
  split at q
  · exact ⟨_, _, rfl, rfl, q⟩
  · exact q.elim
theorem o_fdiv : OpR X (binaryOp .FloorDiv) uDiv := op_fdiv.imp fun x y H Q q => by
  unfold uDiv at q
  split at q
  · exact ⟨_, _, rfl, rfl, q.1, q.2⟩
  · exact q.elim
theorem o_mod : OpR X (binaryOp .Mod) uMod := op_mod.imp fun x y H Q q => by
  unfold uMod at q
  split at q
  · exact ⟨_, _, rfl, rfl, q.1, q.2⟩
  · exact q.elim
theorem o_pow : OpR X (binaryOp .Pow) uPow := op_pow.imp fun x y H Q q => by
  unfold uPow at q
  split at q
  · exact ⟨_, _, rfl, rfl, q.1, q.2⟩
  · exact q.elim
theorem o_lt : OpR X (compareOp .Lt) uLt := (op_lt.or op_lt_str).imp fun x y H Q q => by
  unfold uLt at q
  split at q
  · exact .inl ⟨_, _, rfl, rfl, q⟩
  · exact .inr ⟨_, _, rfl, rfl, q⟩
  · exact q.elim
theorem o_le : OpR X (compareOp .LtE) uLe := op_le.imp fun x y H Q q => by
  unfold uLe at q
  split at q
  · exact ⟨_, _, rfl, rfl, q⟩
  · exact q.elim
theorem o_gt : OpR X (compareOp .Gt) uGt := op_gt.imp fun x y H Q q => by
  unfold uGt at q
  split at q
  · exact ⟨_, _, rfl, rfl, q⟩
  · exact q.elim
theorem o_eq : OpR X (compareOp .Eq) uEq := op_eq.imp fun x y H Q q => by
  unfold uEq at q
  split at q <;> first | exact q.elim | (refine ⟨rfl, ?_⟩; simpa using q)
theorem o_ne : OpR X (compareOp .NotEq) uNe := op_ne.imp fun x y H Q q => by
  unfold uNe at q
  split at q <;> first | exact q.elim | (refine ⟨rfl, ?_⟩; simpa using q)
theorem o_in : OpR X (compareOp .In) (uIn X.K) := (op_in_str.or op_in_seq).imp fun x y H Q q => by
  unfold uIn at q
  split at q
  · exact .inl ⟨_, _, rfl, rfl, q⟩
  · obtain ⟨xs, h1, h2, h3, h4⟩ := q
    exact .inr ⟨_, xs, rfl, h1, h2, h3, h4⟩
  · exact q.elim
theorem o_ix : IxR X (uIx X.K) := by
  intro value slice pins s σ H x y v u Q I rx ry q hs
  refine ix_seq value slice pins s σ H x y v u Q I rx ry ?_ hs
  unfold uIx at q
  split at q
  · obtain ⟨h1, c, h2, h3⟩ := q
    exact .inr (.inr ⟨_, _, c, rfl, rfl, h1, h2, h3⟩)
  · obtain ⟨xs, v, h1 | h1, h2, h3⟩ := q
    · exact .inl ⟨_, xs, _, v, rfl, rfl, h1, h2, h3⟩
    · exact .inr (.inl ⟨_, xs, _, v, rfl, rfl, h1, h2, h3⟩)
  · exact q.elim
theorem c_len : CallR X (.builtin "len") (uLen X.K) := (call_len_str.or call_len_seq).imp fun xs H Q q => by
  unfold uLen at q
  split at q
  · exact .inl ⟨_, rfl, q.1, q.2⟩
  · obtain ⟨ys, h1, h2⟩ := q
    exact .inr ⟨_, ys, rfl, h1, h2⟩
  · exact q.elim
theorem c_min (hc : X.calm = true) : CallR X (.builtin "min") uMin := (call_min2 hc).imp fun xs H Q q => by
  unfold uMin at q
  split at q
  · rename_i i j
    refine ⟨i, j, rfl, ?_⟩
    have e : (if j < i then j else i) = min i j := by split <;> omega
    rw [e]; exact q
  · exact q.elim
/-- a global that is known by its value -/
theorem pe_gv {x : Str} {v : V} {pos : Pos} (hg : Gl X x) (h : ∃ u, X.mg x = some u ∧ RelV v u) (hd : (x == ("__debug__" : Str)) = false := by decide) : PE X (.Name x pos) (tC v) := by
  obtain ⟨u, h1, h2⟩ := h
  exact pe_glob hg h1 h2 hd
/-- a built-in type as a value -/
theorem pe_ty {x : Str} {T : String} {pos : Pos} (hg : Gl X x) (hm : X.mg x = none) (hv : bootBuiltins x = some (.type T)) (hn : x ≠ "__name__" := by decide) (hd : (x == ("__debug__" : Str)) = false := by decide) : PE X (.Name x pos) (tC (.ty T)) := pe_bltn hg hm hv rfl hn hd

/-! the loops' readings, closed by their invariants -/
end
end L2

set_option Elab.async false
set_option linter.all false
set_option maxRecDepth 100000
set_option maxHeartbeats 4000000
/-! readings, one step at a time from the outside: each row is by rfl -/
namespace L2
open PySem PySem.Spec PyProof.Rows
section
variable {K : PySem.W.Frag} {σ : St} {H : Hp} {D : Ends} {Q : VK} {B : Bool → Hp → Prop} {L : List V → Hp → Prop} {O : Option Int → Hp → Prop} {R : It → Hp → Prop} {ta tb tc te : TE} {t u : TS} {c c' : TT} {tl : TA} {x y v : V} {a b : Addr}
end
section
variable {CX : CXT} {P : Program} {w : World} {K : PySem.W.Frag} {mg : Str → Option Value} {base : Heap} {N : List Str} {qual : Str} {scope : Scope} {f : Addr} {cd : Value} {A : Around} {outer : List Env} {s : Shared} {H : Hp} {E : XK}
end
end L2

set_option Elab.async false
set_option linter.all false
set_option maxRecDepth 100000
set_option maxHeartbeats 4000000
/-! loops and comprehensions by their invariants; small words -/
namespace L2
open PySem PySem.Spec PyProof.Rows

/-- a loop over J -/
def tLoop (J : It) (g : TG) (tb : TS) (D : Ends) (σ : St) (H : Hp) : Prop := ∃ W : Nat → Nat → St → Hp → Prop, (∃ m, W 0 m σ H) ∧ ∀ i m σ H, W i m σ H →
  (J.stop i H ∧ D.nx σ H) ∨ (J.go i H ∧ ∃ N : St → Hp → Prop, (∀ σ' H', N σ' H' → ∃ m', m' < m ∧ W (i + 1) m' σ' H') ∧ ∀ x H', J.yld i H x H' → g x σ H' fun σ2 H2 => tb { D with nx := N, ct := N, bk := D.nx } σ2 H2)
def uRng1 : List V → Hp → (It → Hp → Prop) → Prop := fun vs H R => match vs with
  | [.int j] => -(2 ^ 62) ≤ j ∧ j < 2 ^ 62 ∧ R (Itr 0 j.toNat) H
  | _ => False
def uRng2 : List V → Hp → (It → Hp → Prop) → Prop := fun vs H R => match vs with
  | [.int i, .int j] => (-(2 ^ 62) ≤ i ∧ i < 2 ^ 62 ∧ -(2 ^ 62) ≤ j ∧ j < 2 ^ 62) ∧ R (Itr i (j - i).toNat) H
  | _ => False
def jRng1 (ta : TA) : TI := fun σ H R => ta σ H fun vs H1 => uRng1 vs H1 R
def jRng2 (ta : TA) : TI := fun σ H R => ta σ H fun vs H1 => uRng2 vs H1 R
def uList (K : PySem.W.Frag) : V → Hp → (It → Hp → Prop) → Prop := fun x H R => match x with
  | .ref a => (∃ xs, SqL K H a xs) ∧ R (Itl K a) H
  | _ => False
def uTupI (K : PySem.W.Frag) : V → Hp → (It → Hp → Prop) → Prop := fun x H R => match x with
  | .ref a => (∃ xs, SqT K H a xs) ∧ R (Itt K a) H
  | _ => False
def uStrI : V → Hp → (It → Hp → Prop) → Prop := fun x H R => match x with
  | .str z => R (Its z) H
  | _ => False
def jOf (u : V → Hp → (It → Hp → Prop) → Prop) (te : TE) : TI := fun σ H R => te σ H fun x H1 => u x H1 R
theorem PI.imp {X : Cx} {tg iter : Expr} {wi wi' : TI} (h : PI X tg iter wi) (hi : ∀ σ H R, wi' σ H R → wi σ H R) : PI X tg iter wi' := fun pins s σ H R I q => h pins s σ H R I (hi σ H R q)
theorem PE.imp {X : Cx} {e : Expr} {t t' : TE} (h : PE X e t) (hi : ∀ σ H R, t' σ H R → t σ H R) : PE X e t' := fun pins s σ H Q I q => h pins s σ H Q I (hi σ H Q q)
section
variable {X : Cx} {tg : Expr} {K : PySem.W.Frag} {σ : St} {H : Hp} {R : It → Hp → Prop} {te : TE} {ta : TA}
/-- the reading of an argument list is monotone -/
def MonoA (ta : TA) : Prop := ∀ σ H (L L' : List V → Hp → Prop), (∀ vs H1, L vs H1 → L' vs H1) → ta σ H L → ta σ H L'
end
section
variable {X : Cx} {tg : Expr} {a b : Expr} {p pos : Pos} {ta : TA} {te : TE}
theorem pj_range1 (hg : Gl X "range") (hm : X.mg "range" = none) (ha : PA X [a] ta) (hs : starEach [a] X.env = [(false, eval a X.env)] := by rfl) : PI X tg (.Call (.Name "range" p) [a] [] pos) (jRng1 ta) := by
  intro pins s σ H R I h
  refine Call_ (ld_blt I hg hm boot_range (PyProof.Rows.callWith_type1 (thn (ha pos pins s σ H _ I h) fun us s1 ⟨vs, H1, I1, r1, q1⟩ => ?_) hs rfl))
  unfold uRng1 at q1
  dsimp only at q1
  split at q1
  · obtain ⟨q1, q2, q⟩ := q1
    cases r1 with
    | cons r rr =>
      cases rr
      obtain ⟨t, rfl⟩ := r
      exact call_range_1 (range_it I1 (by omega) (by omega) q1 q2 (by simpa using q))
  · exact q1.elim
end
section
variable {K : PySem.W.Frag} {σ : St} {H : Hp} {R : It → Hp → Prop} {te : TE} {ta : TA} {a : Addr} {i j : Int} {z : Str} {u : V → Hp → (It → Hp → Prop) → Prop}
end

/-- a comprehension's turns over J; the list is at l -/
def tCL (J : It) (g : TG) (tt : TT) (te : TE) (l : Addr) (Q : VK) (τ : St) (H : Hp) : Prop := ∃ W : Nat → Nat → St → Hp → Prop, (∃ m, W 0 m τ H) ∧
  ∀ i m τ H, W i m τ H → (J.stop i H ∧ Q (.ref l) H) ∨ (J.go i H ∧ ∀ x H', J.yld i H x H' → g x τ H' fun τ2 H2 => tt τ2 H2 fun ok H3 =>
    if ok = true then te τ2 H3 fun y H4 => ∃ ys, H4 l = some (.lst ys) ∧ ys.length < sizeLine ∧ ∃ m', m' < m ∧ W (i + 1) m' τ2 (upd H4 l (.lst (ys ++ [y]))) else ∃ m', m' < m ∧ W (i + 1) m' τ2 H3)
/-- readings go with a weaker wish -/
def MonoT (tt : TT) : Prop := ∀ σ H (Q Q' : Bool → Hp → Prop), (∀ b H1, Q b H1 → Q' b H1) → tt σ H Q → tt σ H Q'
/-! a display of texts -/
def strsIn : List Expr → Option (List Str)
  | [] => some []
  | .Constant (.str x) _ _ :: r => (strsIn r).map (x :: ·)
  | _ => none
def tConst (vs : List V) : TA := fun _ H L => L vs H
theorem pa_strs {X : Cx} : ∀ {es : List Expr} {xs : List Str}, strsIn es = some xs → PA X es (tConst (xs.map V.str))
  | [], xs, h => by
    cases h
    exact fun pos pins s σ H Q I q => pa_nil pos pins s σ H Q I q
  | e :: es, xs, h => by
    cases e with
    | Constant c k p =>
      cases c with
      | str x =>
        cases h1 : strsIn es with
        | none => simp [strsIn, h1] at h
        | some ys =>
          have h2 : x :: ys = xs := by simpa [strsIn, h1] using h
          subst h2
          have ih := pa_strs (X := X) h1
          exact fun pos pins s σ H Q I q => (pa_cons (te := tC (.str x)) pe_str ih) pos pins s σ H Q I q
      | _ => simp [strsIn] at h
    | _ => simp [strsIn] at h

/-! small words -/
theorem Same.upd_new {H : Hp} {l : Addr} {o : HO} (h : H l = none) : Same H (upd H l o) := fun b u e => by rw [upd_ne (ne_of_none e h)]; exact e
theorem Same.sq {K : PySem.W.Frag} {H H' : Hp} {a : Addr} {xs : List V} (e : Same H H') (h : SqT K H a xs) : SqT K H' a xs := by
  rcases h with (h | ⟨o, h⟩) | h
  · exact .inl (.inl (e _ _ h))
  · exact .inl (.inr ⟨o, e _ _ h⟩)
  · exact .inr h
theorem atI_lt {α : Type} {xs : List α} {i : Int} (h0 : 0 ≤ i) (h : i < xs.length) : ∃ v, atI xs i = some v ∧ xs[i.toNat]? = some v := by
  have hlt : i.toNat < xs.length := by omega
  refine ⟨xs[i.toNat], ?_, List.getElem?_eq_getElem hlt⟩
  have e : (i.toNat : Int) = i := by omega
  have h := atI_nat (List.getElem?_eq_getElem hlt)
  rw [e] at h
  exact h
theorem small_line {n : Nat} (h : n ≤ 1000) : n ≤ sizeLine := Nat.le_of_lt (small1000 h)
/-- a module's own tuple, list -/
theorem vals_of_abs : ∀ {us : List Value} {xs : List V}, us.map absV = xs.map some → Vals xs us
  | [], [], _ => .nil
  | [], _ :: _, h => by cases h
  | _ :: _, [], h => by cases h
  | u :: us, x :: xs, h => by
    rw [List.map_cons, List.map_cons] at h
    injection h with h1 h2
    refine .cons ?_ (vals_of_abs h2)
    cases u <;> cases h1 <;> first | rfl | exact ⟨_, rfl⟩
theorem sqT_const {K : PySem.W.Frag} {a : Addr} {oc : Value} {od : Option Addr} {its : Array Value} {n : Nat} {sl : Array (Option Value)} {xs : List V} (h : K.lookup a = some ⟨oc, od, .seq its n, sl⟩) (ht : (oc == .type "tuple") = true ∧ (od == none) = true)
    (hi : its.toList.map absV = xs.map some) (hz : xs.length ≤ 1000 := by decide) : ∀ H, SqT K H a xs := fun H => by
  have r := vals_of_abs hi
  have e : oc = .type "tuple" := by
    have := ht.1
    exact eq_of_beq this
  refine .inr ⟨_, its, n, h, e, rfl, ?_, r⟩
  have h9 := r.length
  have h8 : its.toList.length = its.size := by simp
  rw [← h8, ← h9]; exact small_line hz
end L2
namespace L2
open PySem PySem.Spec PyProof.Rows
section
variable {P : Program} {w : World} {K : PySem.W.Frag} {mg : Str → Option Value} {base : Heap}
/-- the rule for a def, its scope and its body written out once -/
theorem Fun.ok2 {x qual : Str} {st : Stmt} {f : Addr} {fd : FuncData} {N ps : List Str} {k : Nat} {sp : Sp} {sc : Scope} {body : List Stmt} (F : Fun K x qual st f fd) (hs : defScope st = sc) (hb : defBody st = body) (S : FnScope N ps (defScope st)) (len : ∀ vs H Q E, sp vs H Q E → vs.length = ps.length)
    (hbody : FnScope N ps sc → ∀ (cdv : Value) (A : Around) (outer : List Env) (s : Shared) (H : Hp) (vs : List V) (Q : VK) (E : XK), Room k (A.deeper (envOfC qual sc s.heap.objs.size f cdv)) → sp vs H Q E →
      ∃ t, PSs (cxOf CX0 P w K mg base N qual sc f cdv A outer s H E).nox body t ∧ t { nx := fun _ H' => Q .non H', rt := Q } (L2.start N vs) H) : FnOk P w K mg base CX0 (k + 1) f fd ps sp := by
  subst hs hb
  exact F.ok S len (hbody S)
end
end L2
namespace L2
open PySem PySem.Spec PyProof.Rows
section
variable {P : Program} {w : World} {K : PySem.W.Frag} {mg : Str → Option Value} {base : Heap}
/-- a def that gives a new list of written texts -/
def spStrs (xs : List Str) : Sp := fun vs H Q _ => vs = [] ∧ ∀ l, H l = none → Q (.ref l) (upd H l (.lst (xs.map V.str)))
end
end L2
namespace L2
open PySem
/-- a comprehension without free names and cells -/
theorem noFree_has {scope : Scope} {env : Env} {names : List (Str × NameKind)} {cl : List (Str × Addr)} (h : (relabel scope env).names = names) (h2 : (names.all fun p => p.2 != .cell && p.2 != .free) = true) :
    ∀ p ∈ (relabel scope env).names, p.2 = .cell ∨ p.2 = .free → (cl.lookup p.1).isSome = true := by
  intro p hp hk
  rw [h] at hp
  have := List.all_eq_true.mp h2 p hp
  rcases hk with e | e
  · rw [e] at this; exact absurd this (by decide)
  · rw [e] at this; exact absurd this (by decide)
theorem nd1 {x : Str} : [x].Nodup := by simp
section
variable {X : Cx} (K : PySem.W.Frag) (h : X.K = K)
include h
theorem k_ix : IxR X (uIx K) := h ▸ o_ix
end
end L2

set_option Elab.async false
set_option linter.all false
set_option maxRecDepth 100000
set_option maxHeartbeats 4000000
/-! deep data, equality of it, sum, great products, comprehensions over a range and over a list -/
namespace L2
open PySem PySem.Spec PyProof.Rows

mutual
/-- plain data at a value -/
inductive Rep (K : PySem.W.Frag) (H : Hp) : PyData → V → Prop
  | non : Rep K H .none .non
  | bl (b : Bool) : Rep K H (.bool b) (.bl b)
  | int (i : Int) : Rep K H (.int i) (.int i)
  | str (x : Str) : Rep K H (.str x) (.str x)
  | tup {a : Addr} {xs : List V} {ds : List PyData} : SqT K H a xs → Reps K H ds xs → Rep K H (.tuple ds) (.ref a)
  | lst {a : Addr} {xs : List V} {ds : List PyData} : SqL K H a xs → Reps K H ds xs → Rep K H (.list ds) (.ref a)
inductive Reps (K : PySem.W.Frag) (H : Hp) : List PyData → List V → Prop
  | nil : Reps K H [] []
  | cons {d : PyData} {v : V} {ds : List PyData} {vs : List V} : Rep K H d v → Reps K H ds vs → Reps K H (d :: ds) (v :: vs)
end
section
variable {K : PySem.W.Frag} {H H' : Hp}
mutual
theorem Rep.same (e : Same H H') : ∀ {d : PyData} {v : V}, Rep K H d v → Rep K H' d v
  | _, _, .non => .non
  | _, _, .bl b => .bl b
  | _, _, .int i => .int i
  | _, _, .str x => .str x
  | _, _, .tup h r => .tup (e.sq h) (Reps.same e r)
  | _, _, .lst h r => .lst (e.seq h) (Reps.same e r)
theorem Reps.same (e : Same H H') : ∀ {ds : List PyData} {vs : List V}, Reps K H ds vs → Reps K H' ds vs
  | _, _, .nil => .nil
  | _, _, .cons h r => .cons (Rep.same e h) (Reps.same e r)
end
theorem Reps.length : ∀ {ds : List PyData} {vs : List V}, Reps K H ds vs → ds.length = vs.length
  | _, _, .nil => rfl
  | _, _, .cons _ r => by rw [List.length_cons, List.length_cons, r.length]
theorem Reps.app : ∀ {ds es : List PyData} {vs us : List V}, Reps K H ds vs → Reps K H es us → Reps K H (ds ++ es) (vs ++ us)
  | _, _, _, _, .nil, s => s
  | _, _, _, _, .cons h r, s => .cons h (Reps.app r s)
theorem Reps.one {d : PyData} {v : V} (h : Rep K H d v) : Reps K H [d] [v] := .cons h .nil
theorem Reps.get : ∀ {ds : List PyData} {vs : List V} {i : Nat} {v : V}, Reps K H ds vs → vs[i]? = some v → ∃ d, ds[i]? = some d ∧ Rep K H d v
  | _, _, _, _, .nil, e => by simp at e
  | _, _, 0, _, .cons h _, e => by simp at e; subst e; exact ⟨_, rfl, h⟩
  | _, _, i + 1, _, .cons _ r, e => by simp at e; simpa using Reps.get r e
theorem Reps.get' : ∀ {ds : List PyData} {vs : List V} {i : Nat} {d : PyData}, Reps K H ds vs → ds[i]? = some d → ∃ v, vs[i]? = some v ∧ Rep K H d v
  | _, _, _, _, .nil, e => by simp at e
  | _, _, 0, _, .cons h _, e => by simp at e; subst e; exact ⟨_, rfl, h⟩
  | _, _, i + 1, _, .cons _ r, e => by simp at e; simpa using Reps.get' r e
theorem Reps.ints : ∀ {ns : List Int}, Reps K H (ns.map PyData.int) (ns.map V.int)
  | [] => .nil
  | n :: ns => .cons (.int n) Reps.ints
theorem Rep.ints {a : Addr} {ns : List Int} (h : SqL K H a (ns.map V.int)) : Rep K H (.list (ns.map PyData.int)) (.ref a) := .lst h Reps.ints
end
section
variable {X : Cx} {pins : List (Addr × Obj)} {σ : St} {H : Hp} {s : Shared}
mutual
theorem Rep.reads (I : Inv X pins σ H s) : ∀ {d : PyData} {v : V} {u : Value}, Rep X.K H d v → RelV v u → ∃ as, Reads s.heap u d as
  | _, _, _, .non, r => by cases r; exact ⟨_, .none⟩
  | _, _, _, .bl b, r => by cases r; exact ⟨_, .bool b⟩
  | _, _, _, .int i, r => by obtain ⟨t, rfl⟩ := r; exact ⟨_, .int i t⟩
  | _, _, _, .str x, r => by obtain ⟨t, rfl⟩ := r; exact ⟨_, .str x t⟩
  | _, _, _, .tup h q, r => by
    cases r
    obtain ⟨its, rv, ⟨o, e, c, n, d⟩, hz⟩ := I.tuple h
    obtain ⟨as, ra⟩ := Reps.reads I q rv
    exact ⟨_, .tuple e c d (by simpa using ra)⟩
  | _, _, _, .lst h q, r => by
    cases r
    obtain ⟨its, rv, ⟨o, n, e, c, _, d⟩, hz⟩ := I.list h
    obtain ⟨as, ra⟩ := Reps.reads I q rv
    exact ⟨_, .list e c d (by simpa using ra)⟩
theorem Reps.reads (I : Inv X pins σ H s) : ∀ {ds : List PyData} {vs : List V} {us : List Value}, Reps X.K H ds vs → Vals vs us → ∃ as, ReadsAll s.heap us ds as
  | _, _, _, .nil, r => by cases r; exact ⟨_, .nil⟩
  | _, _, _, .cons h q, r => by
    cases r with
    | cons r0 r1 =>
      obtain ⟨as, ra⟩ := Rep.reads I h r0
      obtain ⟨bs, rb⟩ := Reps.reads I q r1
      exact ⟨_, .cons ra rb⟩
end
/-- x == y of deep data -/
def rEqD (K : PySem.W.Frag) (ne : Bool) : R2 := fun x y H Q => ∃ d e, Rep K H d x ∧ Rep K H e y ∧ d.canLay0 = true ∧ e.canLay0 = true ∧ d.depth ≤ 190 ∧ Q (.bl (if ne then !PyData.eqv d e else PyData.eqv d e)) H
theorem op_eqD (hu : X.A.units + 200 < cLine) : OpR X (compareOp .Eq) (rEqD X.K false) := by
  intro pins s σ H x y v u Q I rx ry h
  obtain ⟨d, e, h1, h2, c1, c2, dp, q⟩ := h
  obtain ⟨as, ra⟩ := Rep.reads I h1 rx
  obtain ⟨bs, rb⟩ := Rep.reads I h2 ry
  refine SeqAt.compareEq_reads ra rb c1 c2 ?_ ⟨.bl _, H, I, rfl, q⟩
  have : min d.depth e.depth ≤ d.depth := Nat.min_le_left _ _
  omega
theorem op_neD (hu : X.A.units + 200 < cLine) : OpR X (compareOp .NotEq) (rEqD X.K true) := by
  intro pins s σ H x y v u Q I rx ry h
  obtain ⟨d, e, h1, h2, c1, c2, dp, q⟩ := h
  obtain ⟨as, ra⟩ := Rep.reads I h1 rx
  obtain ⟨bs, rb⟩ := Rep.reads I h2 ry
  refine SeqAt.compareNe_reads ra rb c1 c2 ?_ ⟨.bl _, H, I, rfl, q⟩
  have : min d.depth e.depth ≤ d.depth := Nat.min_le_left _ _
  omega
def uEqD (K : PySem.W.Frag) : R2 := fun x y H Q => match x, y with
  | .ref a, y => rEqD K false (.ref a) y H Q
  | x, .ref b => rEqD K false x (.ref b) H Q
  | x, y => uEq x y H Q
def uNeD (K : PySem.W.Frag) : R2 := fun x y H Q => match x, y with
  | .ref a, y => rEqD K true (.ref a) y H Q
  | x, .ref b => rEqD K true x (.ref b) H Q
  | x, y => uNe x y H Q
theorem o_eqD {k : Nat} (hr : Room k X.A) : OpR X (compareOp .Eq) (uEqD X.K) := ((op_eqD (by have := hr.un; omega)).or o_eq).imp fun x y H Q q => by
  unfold uEqD at q
  split at q
  · exact .inl q
  · exact .inl q
  · exact .inr q
theorem o_neD {k : Nat} (hr : Room k X.A) : OpR X (compareOp .NotEq) (uNeD X.K) := ((op_neD (by have := hr.un; omega)).or o_ne).imp fun x y H Q q => by
  unfold uNeD at q
  split at q
  · exact .inl q
  · exact .inl q
  · exact .inr q
end
section
variable {K : PySem.W.Frag} {H : Hp} {Q : VK} {a b : Addr} {i j : Int} {x y : Str} {k l : Bool} {v : V}
end

/-! sum -/
def uSum (K : PySem.W.Frag) : List V → Hp → VK → Prop := fun xs H Q => match xs with
  | [.ref p] => ∃ ns : List Int, SqL K H p (ns.map V.int) ∧ Q (.int ns.sum) H
  | _ => False
theorem preSum_eq (ns : List Int) : ∀ n, n ≤ ns.length → preSum (fun i => ns.getD i 0) n = (ns.take n).sum
  | 0, _ => by simp [preSum]
  | n + 1, h => by
    rw [preSum, preSum_eq ns n (by omega), List.take_add_one, List.getElem?_eq_getElem (by omega), List.sum_append]
    simp [List.getD_eq_getElem?_getD, List.getElem?_eq_getElem (show n < ns.length by omega)]
theorem c_sum {X : Cx} (hc : X.calm = true) : CallR X (.builtin "sum") (uSum X.K) := by
  intro pins s σ H xs us Q I r h
  unfold uSum at h
  split at h
  · rename_i p
    obtain ⟨ns, hl, q⟩ := h
    obtain ⟨u, rfl, ru⟩ := r.one
    cases ru
    obtain ⟨its, rv, pl, hz⟩ := I.list hl
    refine call_sum_walkAnyS (wpAny_pyIter_list pl.isList ?_)
    have hne : p ≠ s.heap.objs.size := Nat.ne_of_lt (by obtain ⟨o, n, e, _⟩ := pl; exact Heap.lt_size e)
    have hlen : its.toArray.size = ns.length := by have := rv.length; simp at this; simp; omega
    refine ⟨s.heap.objs.size, _, _, _, _, _, _, fun i => ns.getD i 0, rfl, (Walks.list (show X.A.in1.handled = none from I.ok.hd hc) s.heap.objs.size p hne its.toArray).toS, ⟨⟨_, Heap.get?_push_size _ rfl, rfl, rfl⟩, pl.isList.at fun o e => Heap.get?_push_of_some _ e⟩, ?_, ?_, fun s' t' hm => ?_⟩
    · intro b hb
      have hp : p < s.heap.objs.size := by obtain ⟨o, n, e, _⟩ := pl; exact Heap.lt_size e
      rw [Heap.size_push]
      rcases List.mem_cons.mp hb with rfl | hb
      · exact Nat.lt_succ_self _
      · have : b = p := by simpa using hb
        subst this
        exact Nat.lt_succ_of_lt hp
    · intro i v hv
      have hv' : its[i]? = some v := by simpa using hv
      cases e : (ns.map V.int)[i]? with
      | none =>
        have := rv.none_of e
        rw [this] at hv'; cases hv'
      | some y =>
        obtain ⟨u, hu, ru⟩ := rv.get e
        rw [hv'] at hu; cases hu
        rw [List.getElem?_map] at e
        cases eb : ns[i]? with
        | none => rw [eb] at e; cases e
        | some b =>
          rw [eb] at e
          cases e
          obtain ⟨t, rfl⟩ := ru
          exact ⟨t, by dsimp only; rw [List.getD_eq_getElem?_getD, eb]; rfl⟩
    · have e : preSum (fun i => ns.getD i 0) its.toArray.size = ns.sum := by
        rw [hlen, preSum_eq ns _ (Nat.le_refl _), List.take_length]
      rw [e]
      have hI : Inv X pins σ H { s with heap := s'.heap, toks := s'.toks } := I.kept (t' := s'.toks) fun b o e => hm.heap b o (by simp; exact Nat.ne_of_lt (Heap.lt_size e)) (Heap.get?_push_of_some _ e)
      have es : ({ s with heap := s'.heap, toks := s'.toks } : Shared) = s' := by
        have h1 := hm.gens
        have h2 := hm.drawn
        have h3 := hm.os
        cases s'
        simp only at h1 h2 h3
        subst h1 h2 h3
        rfl
      rw [es] at hI
      exact ⟨.int _, H, hI, ⟨_, rfl⟩, q⟩
  · exact h.elim
/-! products of great numbers -/
def uMulB : R2 := fun x y H Q => match x, y with
  | .int i, .int j => IntMulOk i j ∧ Q (.int (i * j)) H
  | .ref a, .int k => rRep (.ref a) (.int k) H Q
  | _, _ => False
theorem op_mulB {X : Cx} : OpR X (binaryOp .Mult) (fun x y H Q => ∃ i j, x = .int i ∧ y = .int j ∧ IntMulOk i j ∧ Q (.int (i * j)) H) := by
  intro pins s σ H x y v u Q I rx ry h
  obtain ⟨i, j, rfl, rfl, hm, q⟩ := h
  obtain ⟨t, rfl⟩ := rx
  obtain ⟨t', rfl⟩ := ry
  exact PyProof.Rows.mul_int ⟨.int _, H, I.tok _, ⟨_, rfl⟩, q⟩ hm
theorem o_mulB {X : Cx} : OpR X (binaryOp .Mult) uMulB := (op_mulB.or op_rep).imp fun x y H Q q => by
  unfold uMulB at q
  split at q
  · exact .inl ⟨_, _, rfl, rfl, q.1, q.2⟩
  · exact .inr q
  · exact q.elim
theorem mul_small {i j : Int} (h : CMul i j) : IntMulOk i j := h.ok

/-! a, b = x, y -/
/-! comprehensions -/
section
variable {K : PySem.W.Frag} {tt : TT} {te : TE} {l : Addr} {Q : VK} {fr : St} {H : Hp} {k0 : Option V}
end
/-! free names of a comprehension -/
theorem allm_cons {α : Type} {P : α → Prop} {a : α} {l : List α} (h : P a) (t : ∀ p ∈ l, P p) : ∀ p ∈ a :: l, P p := fun p hp => by
  rcases List.mem_cons.mp hp with rfl | hp
  · exact h
  · exact t p hp
theorem allm_nil {α : Type} {P : α → Prop} : ∀ p ∈ ([] : List α), P p := fun _ z => nomatch z
theorem free_has {scope : Scope} {env : Env} {names : List (Str × NameKind)} {cl : List (Str × Addr)} (h : (relabel scope env).names = names) (h2 : (names.all fun p => (p.2 != .cell && p.2 != .free) || (cl.lookup p.1).isSome) = true) :
    ∀ p ∈ (relabel scope env).names, p.2 = .cell ∨ p.2 = .free → (cl.lookup p.1).isSome = true := by
  intro p hp hk
  rw [h] at hp
  have := List.all_eq_true.mp h2 p hp
  rcases hk with e | e
  · rw [e] at this; simpa using this
  · rw [e] at this; simpa using this
/-! while, by a word and a measure, nothing asked of the test's reading -/
def whN (Pv : St → Hp → Prop) (μ : St → Hp → Nat) (tb : TS) (D : Ends) (k : Nat) (σ : St) (H1 : Hp) : Prop := ∃ N : St → Hp → Prop, (∀ σ' H', N σ' H' → ∃ m', m' < k ∧ (m' = μ σ' H' ∧ Pv σ' H')) ∧ tb { D with nx := N, ct := N, bk := D.nx } σ H1
/-! list + list, whatever lists -/
section
variable {X : Cx}
def rCatL (K : PySem.W.Frag) : R2 := fun x y H Q => ∃ l b xs zs, x = .ref l ∧ y = .ref b ∧ SqL K H l xs ∧ SqL K H b zs ∧ xs.length + zs.length ≤ sizeLine ∧ ∀ p, H p = none → Q (.ref p) (upd H p (.lst (xs ++ zs)))
theorem op_catL : OpR X (binaryOp .Add) (rCatL X.K) := by
  intro pins s σ H x y v u Q I rx ry h
  obtain ⟨l, b, xs, zs, rfl, rfl, hH, hB, hz, q⟩ := h
  cases rx
  cases ry
  obtain ⟨its, r, pl, z1⟩ := I.list hH
  obtain ⟨its2, r2, pl2, z2⟩ := I.list hB
  have hl := r.length
  have hl2 := r2.length
  obtain ⟨⟨cls, dd, data, sl⟩, ho, hc, n, hd⟩ := id pl.isList
  obtain ⟨⟨cls2, dd2, data2, sl2⟩, ho2, hc2, n2, hd2⟩ := id pl2.isList
  simp only at hc hd hc2 hd2
  subst hc hd hc2 hd2
  have e : its.toArray ++ its2.toArray = (its ++ its2).toArray := by simp
  refine concat_meets ⟨_, ho, rfl⟩ ⟨_, ho2, rfl⟩ noFill_list_add seq_list_add PySem.F.slot_list_add PySem.F.entry_list_add (PySem.F.args_list_add_2 _ _) (PyProof.Rows.list_addW l b its.toArray its2.toArray n n2 dd dd2 sl sl2 (by rw [List.size_toArray, List.size_toArray]; omega)) ⟨ho, ho2, ?_⟩
  rw [e]
  exact ⟨.ref _, _, I.lnew (t' := s.toks) (r.append r2) (by rw [List.length_append]; omega), rfl, q _ I.fresh⟩
def uAddL (K : PySem.W.Frag) : R2 := fun x y H Q => match x, y with
  | .int i, .int j => Q (.int (i + j)) H
  | .str i, .str j => i.length + j.length ≤ sizeLine ∧ Q (.str (i ++ j)) H
  | .ref a, .ref b => (∃ xs zs, SqL K H a xs ∧ SqL K H b zs ∧ xs.length + zs.length ≤ sizeLine ∧ ∀ p, H p = none → Q (.ref p) (upd H p (.lst (xs ++ zs)))) ∨ rCatT K (.ref a) (.ref b) H Q
  | _, _ => False
end
section
variable {K : PySem.W.Frag} {H : Hp} {Q : VK} {a b : Addr} {i j : Int} {x y : Str}
end
/-! a comprehension that is stored at once -/
theorem comp_go {X : Cx} {elt tg iter : Expr} {ifs : List Expr} {scope : Scope} {cl : List (Str × Addr)} {ts : List Str} {frs' : List (Str × Nat)} {pos pos0 : Pos} {wi : TI} {g : TG} {tt : TT} {te : TE} (hc : X.calm = true) (S : CompScope X scope cl ts frs')
    (hi : PI X tg iter wi) (hg : ∀ pins s H fp, PG (X.comp scope cl (ts ++ frs'.map (·.1)) pins s H fp) tg g) (ht : ∀ pins s H fp, PIfs (X.comp scope cl (ts ++ frs'.map (·.1)) pins s H fp) ifs tt)
    (he : ∀ pins s H fp, PE (X.comp scope cl (ts ++ frs'.map (·.1)) pins s H fp) elt te) (hs : ∀ x, foldedSetIterable iter X.env x = pure x)
    {use : Option (Value → Sem Unit)} {Qv : Value → Shared → Prop} {pins : List (Addr × Obj)} {s : Shared} {σ : St} {H : Hp} {Q : VK} (I : Inv X pins σ H s) (h : tComp ts.length frs' wi g tt te σ H Q)
    (hfin : ∀ (C D : Addr) (H5 : Hp) (s6 : Shared) (m6 : Str → Option Value), Inv X pins σ H5 s6 → s6.heap.Ns C m6 → FpOk X pins H5 C → (∀ h', Heap.SameBut C s6.heap h' → Inv X pins σ H5 { s6 with heap := h' }) → Q (.ref D) H5 →
      compPost (model X.prog X.w) X.A X.xe use Qv (.ref D) C (.ok .next) s6) :
    wpAny (model X.prog X.w) X.A (comprehension (.ListComp elt [⟨tg, iter, ifs, 0⟩] scope pos) scope X.env pos0 (newList []) false (eval iter X.env) use) Qv X.xe s := by
  refine wpAny_comprehension_free (use := use) (cl := cl) rfl hs S.clos S.kind S.names (thn (hi pins s σ H _ I h) fun v s1 h1 => thn h1 fun itv s2 h2 => ?_)
  obtain ⟨it, fp, tn, J, H2, e, I2, T, st2, f2, q2⟩ := h2
  subst e
  have fr2 : H2 s2.heap.objs.size = none := I2.hok.fresh (Nat.le_refl _)
  obtain ⟨W, ⟨m0, w0⟩, turn⟩ := q2 _ fr2
  refine wpAny_newObj_type ?_
  have hlt2 : ∀ b ∈ fp, b < s2.heap.objs.size := fun b hb => by
    obtain ⟨o, e, _⟩ := T.obj _ _ st2 b hb
    exact Heap.lt_size e
  -- the list is laid
  have I3 : Inv X pins σ (upd H2 s2.heap.objs.size (.lst [])) { s2 with heap := s2.heap.push { cls := .type "list", data := .seq ([] : List Value).toArray } } :=
    I2.laid (t' := s2.toks) (fun b u e => Heap.get?_push_of_some _ e) (Nat.le_refl _) ⟨Nat.zero_le _, [], 0, .nil, Heap.get?_push_size _ rfl⟩
  have f3 : ∀ b ∈ fp, FpOk X pins (upd H2 s2.heap.objs.size (.lst [])) b := fun b hb => ⟨by rw [upd_ne (Nat.ne_of_lt (hlt2 b hb))]; exact (f2 b hb).1, (f2 b hb).2⟩
  have hk3 : ∀ b o, s2.heap.get? b = some o → (s2.heap.push { cls := .type "list", data := .seq ([] : List Value).toArray }).get? b = some o := fun b o e => Heap.get?_push_of_some _ e
  have hsz3 : (s2.heap.push { cls := .type "list", data := .seq ([] : List Value).toArray }).objs.size = s2.heap.objs.size + 1 := Heap.size_push ..
  refine wpAny_newFunctionEnv S.nocell (by intro y hy; simp at hy) (fun h₁ hns₁ hsb₁ => ?_) S.kind
  dsimp only at hns₁ hsb₁ ⊢
  generalize hs3 : ({ s2 with heap := s2.heap.push { cls := .type "list", data := .seq ([] : List Value).toArray } } : Shared) = s3 at I3 hns₁ hsb₁ ⊢
  have es3 : s3.heap = s2.heap.push { cls := .type "list", data := .seq ([] : List Value).toArray } := by rw [← hs3]
  have hk4 : ∀ b o, s3.heap.get? b = some o → h₁.get? b = some o := fun b o e => by
    have := hsb₁.2 b (by rw [← es3]; exact Nat.ne_of_lt (Heap.lt_size e))
    rw [← es3] at this
    exact this.trans (Heap.get?_push_of_some _ e)
  have hlt3 : ∀ b ∈ fp, b < s3.heap.objs.size := fun b hb => by
    rw [es3, hsz3]
    exact Nat.lt_succ_of_lt (hlt2 b hb)
  rw [← es3] at hns₁
  have I4 := S.inv I3 f3 hlt3 (tk := s2.toks + ([] : List (Str × Value)).length) hns₁ hk4
  have st4 : tn 0 h₁ := T.keep _ _ _ st2 fun b hb o e => hk4 b o (by rw [es3]; exact hk3 b o e)
  have estart : ({ s2 with heap := h₁, toks := s2.toks + ([] : List (Str × Value)).length } : Shared) = { s3 with heap := h₁, toks := s2.toks + ([] : List (Str × Value)).length } := by rw [← hs3]
  rw [estart]
  -- what stays true of the iterator's objects
  have stat : ∀ {H' : Hp}, (∀ b ∈ fp, H' b = none) → ∀ b ∈ fp, FpOk (X.comp scope cl (ts ++ frs'.map (·.1)) pins s3 (upd H2 s2.heap.objs.size (.lst [])) fp) [] H' b := fun hn b hb => by
    obtain ⟨h1, h2, h3, h4, h5, h6⟩ := f3 b hb
    refine ⟨hn b hb, Nat.ne_of_lt (hlt3 b hb), fun z => ?_, .inl hb, fun x c e => h5 x c (S.subL e), fun p hp => h6 p (by
      have : p ∈ (X.pn ++ pins) ++ [] := hp
      rwa [List.append_nil] at this)⟩
    rcases List.mem_cons.mp (I3.stkSub _ z) with e' | e'
    · exact h2 e'
    · exact h3 e'
  have loop : codeAny (model X.prog X.w) X.A (.compLoop (.ListComp elt [⟨tg, iter, ifs, 0⟩] scope pos) 0 (.ref it) (.ref s2.heap.objs.size) (compEnvC scope cl s3.heap.objs.size X.env))
      (compPost (model X.prog X.w) X.A X.xe use Qv (.ref s2.heap.objs.size) s3.heap.objs.size) { s3 with heap := h₁, toks := s2.toks + ([] : List (Str × Value)).length } := by
    refine compLoop_any (fun n s' => ∃ i τ H', Inv (X.comp scope cl (ts ++ frs'.map (·.1)) pins s3 (upd H2 s2.heap.objs.size (.lst [])) fp) [] τ H' s' ∧ tn i s'.heap ∧ (∀ b ∈ fp, H' b = none) ∧ W i n τ H') ?_ m0
      ⟨0, _, _, I4, st4, fun b hb => (f3 b hb).1, w0⟩
    rintro n s5 ⟨i, τ, H5, I5, st5, fr5, w5⟩
    rcases turn i n τ H5 w5 with ⟨stop, qn⟩ | ⟨go, step⟩
    · refine wpAny_mono (T.done (X.comp scope cl (ts ++ frs'.map (·.1)) pins s3 (upd H2 s2.heap.objs.size (.lst [])) fp) rfl rfl rfl hc i [] s5 τ H5 (fun _ _ => False) I5 (stat fr5) st5 stop) (fun r s6 ⟨hr, I6⟩ => ?_) fun _ _ z => z
      subst hr
      obtain ⟨m6, hn6, _⟩ := id I6.loc
      have hA : ∀ h', Heap.SameBut s3.heap.objs.size s6.heap h' → Inv X pins σ H5 { s6 with heap := h' } := fun h' hs' => CompScope.after I3 f3 I6 hs'
      have hC0 := I3.fpOk (b := s3.heap.objs.size) (Nat.le_refl _) (I3.hok.fresh (Nat.le_refl _))
      exact hfin _ _ H5 s6 m6 (hA s6.heap ⟨rfl, fun _ _ => rfl⟩) hn6 ⟨I6.free, hC0.2⟩ hA qn
    · refine wpAny_mono (T.item (X.comp scope cl (ts ++ frs'.map (·.1)) pins s3 (upd H2 s2.heap.objs.size (.lst [])) fp) rfl rfl rfl hc i [] s5 τ H5 (fun _ _ => False) I5 (stat fr5) st5 go) (fun r s6 ⟨u, hr, h6⟩ => ?_) fun _ _ z => z
      subst hr
      refine thn h6 fun _ s7 ⟨x, H7, I7, r7, y7, st7, fr7⟩ => ?_
      have I7' := I7.pinned (stat fr7) (T.obj _ _ st7)
      refine thn (hg _ _ _ _ _ s7 τ H7 x u _ I7' r7 (step x H7 y7)) fun _ s8 ⟨τ8, H8, I8, q8⟩ => ?_
      refine thn (ht _ _ _ _ _ s8 τ8 H8 _ I8 q8) fun ok s9 ⟨H9, I9, q9⟩ => ?_
      have again : ∀ {m' : Nat} {H' : Hp} {s' : Shared}, Inv (X.comp scope cl (ts ++ frs'.map (·.1)) pins s3 (upd H2 s2.heap.objs.size (.lst [])) fp) ([] ++ pinsAt fp s7.heap) τ8 H' s' → m' < n → W (i + 1) m' τ8 H' →
          ∃ m, m < n ∧ ∃ i τ H', Inv (X.comp scope cl (ts ++ frs'.map (·.1)) pins s3 (upd H2 s2.heap.objs.size (.lst [])) fp) [] τ H' s' ∧ tn i s'.heap ∧ (∀ b ∈ fp, H' b = none) ∧ W i m τ H' := fun {m' H' s'} I' hm w' => by
        refine ⟨m', hm, i + 1, τ8, H', I'.unpinned, T.keep _ _ _ st7 fun b hb o e => (I'.pin (b, o) (List.mem_append_right _ (List.mem_append_right _ (mem_pinsAt hb e)))).1, fun b hb => ?_, w'⟩
        obtain ⟨o, e, d⟩ := T.obj _ _ st7 b hb
        exact (I'.pin (b, o) (List.mem_append_right _ (List.mem_append_right _ (mem_pinsAt hb e)))).2.1
      cases ok with
      | false =>
        rw [if_neg Bool.false_ne_true]
        rw [if_neg Bool.false_ne_true] at q9
        obtain ⟨m', hm, w'⟩ := q9
        exact again I9 hm w'
      | true =>
        rw [if_pos rfl]
        rw [if_pos rfl] at q9
        refine thn (he _ _ _ _ _ s9 τ8 H9 _ I9 q9) fun yv s10 ⟨y, H10, I10, r10, ys, hl, hz, m', hm, w'⟩ => ?_
        refine thn (mt_append _ s10 τ8 H10 (.ref s2.heap.objs.size) [y] (.ref s2.heap.objs.size) [yv] (fun _ H' => W (i + 1) m' τ8 H') I10 rfl (.cons r10 .nil) ⟨_, ys, y, rfl, rfl, hl, hz, w'⟩) fun _ s11 ⟨_, H11, I11, _, w11⟩ => ?_
        exact again I11 hm w11
  have es : (s2.heap.push { cls := .type "list", data := .seq ([] : List Value).toArray }).objs.size = s3.heap.objs.size := by rw [es3]
  rw [es]
  exact codeAny_compStart_list loop (T.self _ 0 _ _ _ st4 loop)
/-- name = [.. for ..]: the store comes ahead of the block's end -/
theorem ps_setC {X : Cx} {elt tg iter : Expr} {ifs : List Expr} {scope : Scope} {cl : List (Str × Addr)} {ts : List Str} {frs' : List (Str × Nat)} {pos spos py : Pos} {wi : TI} {g : TG} {tt : TT} {te : TE} {i : Nat} {y : Str}
    (hN : X.N.Nodup) (hi' : X.N[i]? = some y) (hy : Loc X.env.scope y) (hsw : swapsWith (.ListComp elt [⟨tg, iter, ifs, 0⟩] scope pos) (some (.Name y py)) spos.line X.env = pure true) (hc : X.calm = true) (S : CompScope X scope cl ts frs')
    (hi : PI X tg iter wi) (hg : ∀ pins s H fp, PG (X.comp scope cl (ts ++ frs'.map (·.1)) pins s H fp) tg g) (ht : ∀ pins s H fp, PIfs (X.comp scope cl (ts ++ frs'.map (·.1)) pins s H fp) ifs tt)
    (he : ∀ pins s H fp, PE (X.comp scope cl (ts ++ frs'.map (·.1)) pins s H fp) elt te) (hs : ∀ x, foldedSetIterable iter X.env x = pure x := by intro _; rfl) (hf : X.fn y = true ∨ X.env.scope.names.lookup y = some .local := by first | exact .inl rfl | exact .inr rfl | assumption) :
    PS X (.Assign [.Name y py] (.ListComp elt [⟨tg, iter, ifs, 0⟩] scope pos) spos) (tAsg (tComp ts.length frs' wi g tt te) (gName i)) := by
  intro pins s σ H D I h
  rw [exec_Assign_Name_used _ _ _ _ hsw]
  refine wpAny_bind (wpAny_standAt (wpAny_bind ?_))
  show wpAny _ X.A (do let _ ← comprehension (.ListComp elt [⟨tg, iter, ifs, 0⟩] scope pos) scope X.env _ (newList []) false (eval iter X.env) (some (assign (.Name y py) X.env))) _ _ s
  refine wpAny_bind (wpAny_mono (comp_go hc S hi hg ht he hs (Qv := fun _ s' => SP X pins D .next s') (use := some (assign (.Name y py) X.env)) I h ?_) (fun _ s' hq => wpAny_pure (wpAny_pure hq)) fun _ _ e => e)
  intro C Da H5 s6 m6 I6 hn6 fpC hA qn
  show wpAny _ X.A (assign (.Name y py) X.env (.ref Da)) _ _ _
  refine wpAny_assign_Name (store_ok2 I6 hN hi' hy (v := .ref Da) rfl (fun s7 I7 ⟨a, sb, ha⟩ => ?_) hf)
  have hCa : C ≠ a := by
    obtain ⟨_, h2, _, _, h5, _⟩ := fpC
    rcases ha with rfl | ha
    · exact h2
    · exact fun e => h5 _ _ ha e.symm
  refine ⟨m6, hn6.sameBut sb hCa, fun h' hs' => ?_⟩
  obtain ⟨f0, f1, f2, f3, f4, f5⟩ := fpC
  exact ⟨_, H5, I7.turned (h' := h') (t' := s7.toks) (fun b o hb e => (hs'.2 b hb).trans e) f0 f1 f3 f4 f5, qn⟩
/-! list(x), tuple(x) -/
def uListOf (K : PySem.W.Frag) : List V → Hp → VK → Prop := fun xs H Q => match xs with
  | [.ref p] => ∃ ys, Sq K H p ys ∧ ∀ l, H l = none → Q (.ref l) (upd H l (.lst ys))
  | _ => False
theorem c_list {X : Cx} : CallR X (.type "list") (uListOf X.K) := call_list_of.imp fun xs H Q q => by
  unfold uListOf at q
  split at q
  · obtain ⟨ys, h1, h2⟩ := q
    exact ⟨_, ys, rfl, h1, h2⟩
  · exact q.elim
def uTupOf (K : PySem.W.Frag) : List V → Hp → VK → Prop := fun xs H Q => match xs with
  | [.ref p] => ∃ ys, ((SqL K H p ys ∧ ∀ l, H l = none → Q (.ref l) (upd H l (.tup ys))) ∨ (SqT K H p ys ∧ Q (.ref p) H))
  | _ => False
theorem c_tuple {X : Cx} : CallR X (.type "tuple") (uTupOf X.K) := call_tuple_of.imp fun xs H Q q => by
  unfold uTupOf at q
  split at q
  · obtain ⟨ys, h⟩ := q
    exact ⟨_, ys, rfl, h⟩
  · exact q.elim
/-! o[i] = v -/
end L2

set_option Elab.async false
set_option linter.all false
set_option maxRecDepth 100000
set_option maxHeartbeats 4000000
/-! mathematics: sums, lists that grow by what stands in them -/
namespace MM
/-- f 0 + .. + f (n - 1) -/
def sm (n : Nat) (f : Nat → Int) : Int := ((List.range n).map f).sum
theorem sm_succ (n : Nat) (f : Nat → Int) : sm (n + 1) f = sm n f + f n := by
  unfold sm
  rw [List.range_succ, List.map_append, List.sum_append]
  simp
theorem sm_congr {n : Nat} {f g : Nat → Int} (h : ∀ i, i < n → f i = g i) : sm n f = sm n g := by
  induction n with
  | zero => rfl
  | succ n ih => rw [sm_succ, sm_succ, ih fun i hi => h i (by omega), h n (by omega)]
/-- place i of a list, 0 behind it -/
abbrev at0 (l : List Int) (i : Nat) : Int := l.getD i 0
/-- [x], and n times what f tells of the list so far and its length -/
def grow (f : List Int → Nat → Int) (x : Int) : Nat → List Int
  | 0 => [x]
  | n + 1 => grow f x n ++ [f (grow f x n) (n + 1)]
/-- the rows' next count -/
def nextRow (a : List Int) (rows : List Int) (n : Nat) : Int := sm n fun i => at0 a (1 + i) * at0 rows (n - (1 + i))
def rowsL (a : List Int) : Nat → List Int := grow (nextRow a) 1
/-- how great the counts can be -/
def Amt (b : Nat) (a : List Int) : Prop := 1 ≤ a.length ∧ a.length ≤ 41 ∧ at0 a 0 = 0 ∧ ∀ i, 0 ≤ at0 a i ∧ at0 a i < 2 ^ b
end MM

set_option Elab.async false
set_option linter.all false
set_option maxRecDepth 100000
set_option maxHeartbeats 4000000
/-! mathematics: sums of sums; packing -/
namespace MM
/-! the ways: w 0 = 1, j w j = (m + (j - 1) t) w (j - 1) -/
/-- those of bags, of choices -/
structure Ways (t m : Int) (w : Nat → Int) : Prop where
  zero : w 0 = 1
  succ : ∀ j : Nat, ((j : Int) + 1) * w (j + 1) = (m + j * t) * w j
/-- the sign of the i-th power -/
def sgn (t : Int) (i : Nat) : Int := t ^ (i - 1)
/-- a sequence by all whole numbers, nothing below 0 -/
def Low (b : Int → Int) : Prop := ∀ z, z < 0 → b z = 0
/-- n b n is the sum of c k b (n - k), up to N -/
def Pours (M : Nat) (c : Nat → Int) (b : Int → Int) : Prop := ∀ z : Int, z < M → z * b z = sm M fun k => c k * b (z - k)
/-- m things of size s put in -/
def pack (M : Nat) (w : Nat → Int) (s : Nat) (b : Int → Int) : Int → Int := fun z => sm M fun j => w j * b (z - j * s)
/-- what one size brings -/
def brings (t m : Int) (s : Nat) (k : Nat) : Int := if s ∣ k ∧ 1 ≤ k then m * s * sgn t (k / s) else 0
/-! ways of bags and of choices -/
def mc : Nat → Nat → Nat
  | _, 0 => 1
  | 0, _ + 1 => 0
  | m + 1, j + 1 => mc m (j + 1) + mc (m + 1) j
def ch : Nat → Nat → Nat
  | _, 0 => 1
  | 0, _ + 1 => 0
  | n + 1, k + 1 => ch n k + ch n (k + 1)
/-- the ways with t = 1 or - 1 -/
def wof (t : Int) (m : Int) (j : Nat) : Int := if t = 1 then mc m.toNat j else ch m.toNat j
/-! lists as sequences -/
def hat (l : List Int) : Int → Int := fun z => if 0 ≤ z then at0 l z.toNat else 0
theorem Pours.congr {M : Nat} {c : Nat → Int} {b b' : Int → Int} (h : Pours M c b) (e : ∀ z : Int, z < M → b' z = b z) : Pours M c b' := fun z hz => by
  rw [e z hz, h z hz]
  exact sm_congr fun k _ => by rw [e (z - k) (by omega)]
/-- one size packed, as a list -/
def packL (w : Nat → Int) (s : Nat) (bs : List Int) : List Int := (List.range bs.length).map fun (n : Nat) => pack bs.length w s (hat bs) n
/-- the law's sum up to j packs -/
def part (w : Nat → Int) (s : Nat) (bs : List Int) (m n : Nat) : Int := sm (m + 1) fun j => if j * s ≤ n then w j * at0 bs (n - j * s) else 0
/-- all sizes from 1 to q packed -/
def packs (t : Int) (a : List Int) : Nat → List Int
  | 0 => 1 :: List.replicate (a.length - 1) 0
  | q + 1 => packL (wof t (at0 a (q + 1))) (q + 1) (packs t a q)
/-- what the sizes from 1 to q bring -/
def bringsL (t : Int) (a : List Int) (q k : Nat) : Int := sm q fun i => brings t (at0 a (i + 1)) (i + 1) k
/-- the program's own: n b n = the sum of c k b (n - k) -/
def pourL (c : List Int) : Nat → List Int := grow (fun cs n => (sm n fun i => at0 c (1 + i) * at0 cs (n - (1 + i))) / n) 1
end MM

set_option Elab.async false
set_option linter.all false
set_option maxRecDepth 100000
set_option maxHeartbeats 4000000
namespace L2
open PySem PySem.Spec PyProof.Rows
section
variable {K : PySem.W.Frag} {te : TE} {l : Addr} {Q : VK} {fr : St} {H : Hp} {k0 : Option V}
end
theorem iteP {c A B : Prop} [Decidable c] (hc : c) (h : A) : if c then A else B := by rw [if_pos hc]; exact h
theorem iteN {c A B : Prop} [Decidable c] (hc : ¬ c) (h : B) : if c then A else B := by rw [if_neg hc]; exact h
/-- the divisors of n -/
def dvL (n : Nat) : List Int := ((List.range n).filter fun (i : Nat) => decide ((n : Int) % (1 + (i : Int)) = 0)).map fun (i : Nat) => 1 + (i : Int)
end L2

set_option Elab.async false
set_option linter.all false
set_option maxRecDepth 100000
set_option maxHeartbeats 4000000
/-! zip and enumerate of lists, walked with a tuple of names -/
namespace L2
open PySem PySem.Spec PyProof.Rows
section
variable {X : Cx} {pins : List (Addr × Obj)} {σ : St} {H : Hp} {s : Shared}
/-- untracked records have turned, and a new object is laid -/
theorem Inv.turnedL {h' : Heap} {ch : List Addr} {T : Addr} {o : HO} {t' : Nat} (I : Inv X pins σ H s) (hch : ∀ b ∈ ch, FpOk X pins H b) (k : ∀ b u, b ∉ ch → s.heap.get? b = some u → h'.get? b = some u) (hT : s.heap.objs.size ≤ T)
    (new : ObjOk X.prog X.w (upd H T o) h' T o) : Inv X pins σ (upd H T o) { s with heap := h', toks := t' } := by
  have hn : H T = none := I.hok.fresh hT
  have nT : ∀ b u, s.heap.get? b = some u → b ≠ T := fun b u e => Nat.ne_of_lt (Nat.lt_of_lt_of_le (Heap.lt_size e) hT)
  have nch : ∀ b u, H b = some u → b ∉ ch := fun b u e z => by rw [(hch b z).1] at e; cases e
  refine I.step (g' := s.gens) (d' := s.drawn) (ch := ch) (fun b hb => ?_) (fun b u _ _ hc e _ => k b u hc e) (fun b u _ _ hc e _ => ⟨u.slots, k b u hc e⟩) (fun b u _ e n => by rw [upd_ne (nT b u e)]; exact n)
    (fun b u hc e => ⟨u, k b u hc e⟩) (fun b xs e => by rw [upd_ne (ne_of_none e hn)]; exact e) (fun b u v e => by rw [upd_ne (ne_of_none e hn)]; exact e) (fun b ps e => ⟨#[], by rw [upd_ne (ne_of_none e hn), e]; simp⟩) (fun m hm => ?_) (fun b u e => ?_) I.bare
  · obtain ⟨h0, h1, h2, h3, h4, h5⟩ := hch b hb
    exact ⟨h3, h1, h4, h5⟩
  · obtain ⟨ob, es, ep, ho, r⟩ := hm
    exact ⟨ob, es, ep, k _ ob (fun z => (hch _ z).2.1 rfl) ho, r⟩
  · by_cases hb : b = T
    · subst hb; rw [upd_same] at e; cases e; exact new
    · rw [upd_ne hb] at e
      refine (I.hok b u e).stay (fun c v hc q => k c v ?_ q) (fun c q => by rw [upd_ne (ne_of_none q hn)]; exact q) fun c xs q => by rw [upd_ne (ne_of_none q hn)]; exact q
      rcases hc with z | z
      · rw [z]; exact nch b u e
      · exact nch c _ z
/-- untracked records have turned -/
theorem Inv.turnedM {h' : Heap} {ch : List Addr} {t' : Nat} (I : Inv X pins σ H s) (hch : ∀ b ∈ ch, FpOk X pins H b) (k : ∀ b u, b ∉ ch → s.heap.get? b = some u → h'.get? b = some u) : Inv X pins σ H { s with heap := h', toks := t' } := by
  have nch : ∀ b u, H b = some u → b ∉ ch := fun b u e z => by rw [(hch b z).1] at e; cases e
  refine I.step (g' := s.gens) (d' := s.drawn) (ch := ch) (fun b hb => ?_) (fun b u _ _ hc e _ => k b u hc e) (fun b u _ _ hc e _ => ⟨u.slots, k b u hc e⟩) (fun _ _ _ _ n => n)
    (fun b u hc e => ⟨u, k b u hc e⟩) (fun _ _ e => e) (fun _ _ _ e => e) (fun b ps e => ⟨#[], by rw [e]; simp⟩) (fun m hm => ?_) (fun b u e => ?_) I.bare
  · obtain ⟨h0, h1, h2, h3, h4, h5⟩ := hch b hb
    exact ⟨h3, h1, h4, h5⟩
  · obtain ⟨ob, es, ep, ho, r⟩ := hm
    exact ⟨ob, es, ep, k _ ob (fun z => (hch _ z).2.1 rfl) ho, r⟩
  · refine (I.hok b u e).stay (fun c v hc q => k c v ?_ q) (fun _ q => q) fun _ _ q => q
    rcases hc with z | z
    · rw [z]; exact nch b u e
    · exact nch c _ z
end
/-- pairs of the items of two lists -/
def Itz (K : PySem.W.Frag) (a b : Addr) : It :=
  ⟨fun i H => ∃ xs ys x y, SqL K H a xs ∧ SqL K H b ys ∧ xs[i]? = some x ∧ ys[i]? = some y,
   fun i H v H' => ∃ T x y, v = .ref T ∧ H T = none ∧ H' = upd H T (.tup [x, y]) ∧ (∀ xs, SqL K H a xs → xs[i]? = some x) ∧ (∀ ys, SqL K H b ys → ys[i]? = some y),
   fun i H => ∃ xs ys, SqL K H a xs ∧ SqL K H b ys ∧ (xs.length ≤ i ∨ ys.length ≤ i)⟩
/-- the items of a list with their numbers -/
def Ite (K : PySem.W.Frag) (a : Addr) : It :=
  ⟨fun i H => ∃ xs x, SqL K H a xs ∧ xs[i]? = some x,
   fun i H v H' => ∃ T x, v = .ref T ∧ H T = none ∧ H' = upd H T (.tup [.int i, x]) ∧ (∀ xs, SqL K H a xs → xs[i]? = some x),
   fun i H => ∃ xs, SqL K H a xs ∧ xs.length ≤ i⟩
theorem turn_enum {P : Program} {w : World} {K : PySem.W.Frag} {elts : List Expr} {k0} {pos : Pos} {e it l : Addr} (hne : e ≠ it) : Turn P w K (.Tuple elts k0 pos) (Ite K l) [e, it] e
    (fun i h => (∃ old, IsEnum h e it i old) ∧ h.IsListIter it l i) where
  mem := by simp
  obj := fun i h st b hb => by
    obtain ⟨⟨old, he⟩, h1⟩ := st
    simp only [List.mem_cons, List.not_mem_nil, or_false] at hb
    rcases hb with rfl | rfl
    · exact ⟨_, he, fun v q => nomatch q⟩
    · obtain ⟨o, e, c, d⟩ := h1
      exact ⟨o, e, fun v q => by rw [d] at q; cases q⟩
  keep := fun i h h' st k => by
    obtain ⟨⟨old, he⟩, h1⟩ := st
    exact ⟨⟨old, k e (by simp) _ he⟩, h1.at fun o q => k it (by simp) o q⟩
  item := by
    intro X hP hw hK hc i pins s σ H E I hf st hg
    subst hP hw hK
    obtain ⟨⟨old, he⟩, h1⟩ := st
    obtain ⟨xs, x, hx, hxi⟩ := hg
    obtain ⟨its, rv, p, _⟩ := I.list hx
    obtain ⟨u, hu, ru⟩ := rv.get hxi
    refine wpAny_pyNext_enum_item he h1 p.isList (x := u) (by simpa using hu) hne fun h' a1 a2 a3 a4 hk => ?_
    refine ⟨_, rfl, wpAny_letOwnedTupleGo_enum a1 fun h'' he' sb => ?_⟩
    have nz : s.heap.objs.size ≠ e := Nat.ne_of_gt (Heap.lt_size he)
    have hT' : IsTup h'' s.heap.objs.size [Value.int i s.toks, u].toArray := ⟨_, sb.extBut _ _ nz a3, rfl, _, rfl⟩
    have I' : Inv X pins σ (upd H s.heap.objs.size (.tup [.int i, x])) { s with heap := h'', toks := s.toks + 1 } := I.turnedL (ch := [e, it]) hf (fun b o hb q => by
      simp only [List.mem_cons, List.not_mem_nil, or_false, not_or] at hb
      exact sb.extBut _ _ hb.1 (hk b o hb.1 hb.2 q)) (Nat.le_refl _) ⟨by show 2 ≤ sizeLine; decide, [Value.int i s.toks, u], .cons ⟨_, rfl⟩ (.cons ru .nil), hT'⟩
    have hn : H s.heap.objs.size = none := I.hok.fresh (Nat.le_refl _)
    refine ⟨.ref s.heap.objs.size, _, I', rfl, ⟨_, x, rfl, hn, rfl, fun zs hzs => by rw [I.list_inj hzs hx]; exact hxi⟩, ⟨⟨_, by push_cast; exact he'⟩, a2.extBut sb.extBut (Ne.symm hne)⟩, fun b hb => ?_⟩
    have hfb := (hf b hb).1
    have : b ≠ s.heap.objs.size := by
      obtain ⟨o, q⟩ : ∃ o, s.heap.get? b = some o := by
        simp only [List.mem_cons, List.not_mem_nil, or_false] at hb
        rcases hb with rfl | rfl
        · exact ⟨_, he⟩
        · obtain ⟨o, q, _⟩ := h1; exact ⟨o, q⟩
      exact Nat.ne_of_lt (Heap.lt_size q)
    rw [upd_ne this]; exact hfb
  done := by
    intro X hP hw hK hc i pins s σ H E I hf st hg
    subst hP hw hK
    obtain ⟨⟨old, he⟩, h1⟩ := st
    obtain ⟨xs, hx, hend⟩ := hg
    obtain ⟨its, rv, p, _⟩ := I.list hx
    have hl := rv.length
    exact wpAny_pyNext_enum_end (I.ok.hd hc) he h1 p.isList (by simp; omega) fun h' hk => ⟨rfl, I.turnedM (t' := s.toks) (ch := [e, it]) hf (fun b o hb q => by
      simp only [List.mem_cons, List.not_mem_nil, or_false, not_or] at hb
      exact hk b o hb.2 q)⟩
  self := fun _ _ _ _ _ st h => by
    obtain ⟨⟨old, he⟩, h1⟩ := st
    exact wpAny_pyIter_enum he h
theorem zip_apart (n l1 l2 : Nat) (h1 : l1 < n) (h2 : l2 < n) : ZipApart (n + 4) (n + 2) (n + 3) n (n + 1) l1 l2 := by
  constructor <;> exact (show (_ : Nat) ≠ _ by omega)
def uZip (K : PySem.W.Frag) : List V → Hp → (It → Hp → Prop) → Prop := fun vs H R => match vs with
  | [.ref a, .ref b] => (∃ xs ys, SqL K H a xs ∧ SqL K H b ys) ∧ R (Itz K a b) H
  | _ => False
def uEnum (K : PySem.W.Frag) : List V → Hp → (It → Hp → Prop) → Prop := fun vs H R => match vs with
  | [.ref a] => (∃ xs, SqL K H a xs) ∧ R (Ite K a) H
  | _ => False
def jArgs (u : List V → Hp → (It → Hp → Prop) → Prop) (ta : TA) : TI := fun σ H R => ta σ H fun vs H1 => u vs H1 R
theorem boot_zip : bootBuiltins "zip" = some (.type "zip") := by decide +kernel
theorem boot_enumerate : bootBuiltins "enumerate" = some (.type "enumerate") := by decide +kernel
section
variable {X : Cx} {elts : List Expr} {k0 : Nat} {a b : Expr} {p pos tp : Pos} {ta : TA}
end
section
variable {K : PySem.W.Frag} {ta : TA} {u : List V → Hp → (It → Hp → Prop) → Prop} {σ : St} {H : Hp} {R : It → Hp → Prop} {a b : Addr}
end
theorem pg_tupK {X : Cx} (K : PySem.W.Frag) (hK : X.K = K) (n : Nat) {es : List Expr} {k : Nat} {t : TGs} {pos : Pos} (hc : X.calm = true) (h : PGs X es t) (hn : (assignEach es X.env).length = n) (hst : (assignEach es X.env).findIdx? (·.1) = none) : PG X (.Tuple es k pos) (gTup K n t) := by
  subst hK
  exact pg_tup hc h hn hst
theorem g2 {K : PySem.W.Frag} {T : Addr} {x y : V} {k0 k1 : Option V} {fr : St} {H : Hp} {Q : St → Hp → Prop} (h : SqT K H T [x, y]) (q : Q (some x :: some y :: fr) H) : gTup K 2 (gCons (gName 0) (gCons (gName 1) gNil)) (.ref T) (k0 :: k1 :: fr) H Q :=
  ⟨T, _, rfl, h, rfl, _, _, rfl, _, _, rfl, rfl, q⟩
section
variable {K : PySem.W.Frag} {te : TE} {l : Addr} {Q : VK} {fr : St} {H : Hp} {k0 k1 : Option V}
end
end L2

set_option Elab.async false
set_option linter.all false
set_option maxRecDepth 100000
set_option maxHeartbeats 4000000
/-! comprehensions whose targets are read by a comprehension within -/
namespace L2
open PySem PySem.Spec PyProof.Rows
theorem cellsFrom_app : ∀ (names : List (Str × NameKind)) (n : Nat) (acc cl : List (Str × Addr)), cellsFrom n names (acc ++ cl) = cellsFrom n names acc ++ cl
  | [], _, _, _ => rfl
  | (name, kind) :: r, n, acc, cl => by
    unfold cellsFrom
    split
    · exact cellsFrom_app r (n + 1) ((name, n) :: acc) cl
    · exact cellsFrom_app r n acc cl
/-- as CompScope, with cells of its own -/
structure CompScopeC (X : Cx) (scope : Scope) (cl : List (Str × Addr)) (nm : Str) (ts : List Str) (frs : List (Str × Nat)) : Prop where
  own : ∀ n c, (cellsFrom n scope.names cl).lookup nm = some c → n ≤ c
  clos : closureFor scope X.env = pure cl
  kind : scope.kind = .function
  names : ∀ y ∈ scope.names, y.2 = .local → scope.names.lookup y.1 = some .local
  sub : ∀ p ∈ cl, X.env.cells.lookup p.1 = some p.2
  has : ∀ n, ∀ p ∈ (relabel scope X.env).names, p.2 = .cell ∨ p.2 = .free → ((cellsFrom n scope.names cl).lookup p.1).isSome = true
  out : ∀ n, ∀ p ∈ frs, X.N[p.2]? = some p.1 ∧ (X.env.kindOf p.1 = some .cell ∨ X.env.kindOf p.1 = some .free) ∧ ((relabel scope X.env).names.lookup p.1 = some .cell ∨ (relabel scope X.env).names.lookup p.1 = some .free) ∧ (cl.lookup p.1).isSome = true ∧ (cellsFrom n scope.names cl).lookup p.1 = cl.lookup p.1
abbrev clC (scope : Scope) (cl : List (Str × Addr)) (s : Shared) : List (Str × Addr) := cellsFrom (s.heap.objs.size + 1) scope.names cl
def Cx.compC (X : Cx) (scope : Scope) (cl : List (Str × Addr)) (nm : Str) (N : List Str) (pins : List (Addr × Obj)) (s : Shared) (H : Hp) (fp : List Addr) : Cx := { X.comp scope (clC scope cl s) N pins s H fp with fn := fun x => x == nm }
section
variable {X : Cx} {scope : Scope} {cl : List (Str × Addr)} {nm : Str} {ts : List Str} {frs' : List (Str × Nat)} {pins : List (Addr × Obj)} {σ : St} {H : Hp} {s : Shared} {fp : List Addr}
theorem CompScopeC.subL (S : CompScopeC X scope cl nm ts frs') {x : Str} {c : Addr} (h : cl.lookup x = some c) : X.env.cells.lookup x = some c := S.sub (x, c) (PySem.mem_of_lookup h)
theorem CompScopeC.two (S : CompScopeC X scope cl nm ts frs') {x : Str} {c : Addr} (e : (clC scope cl s).lookup x = some c) : s.heap.objs.size + 1 ≤ c ∨ X.env.cells.lookup x = some c := by
  have hm := PySem.mem_of_lookup e
  have eapp : clC scope cl s = cellsFrom (s.heap.objs.size + 1) scope.names [] ++ cl := cellsFrom_app scope.names _ [] cl
  have ok := cellsFrom_ok scope.names (s.heap.push { cls := .type "dict", data := .dict #[] }) (s.heap.objs.size + 1) [] ⟨fun _ _ hm => (nomatch hm), List.Pairwise.nil⟩ (by rw [Heap.size_push]; exact Nat.le_refl _)
  rw [Heap.size_push] at ok
  rw [eapp] at hm
  rcases List.mem_append.mp hm with h | h
  · exact .inl (ok.empty x c h).2
  · exact .inr (S.sub _ h)
theorem CompScopeC.inv (S : CompScopeC X scope cl nm ts frs') (I : Inv X pins σ H s) (hf : ∀ b ∈ fp, FpOk X pins H b) (hlt : ∀ b ∈ fp, b < s.heap.objs.size) {h₁ : Heap} {tk : Nat} (hh : h₁ = pushCells (s.heap.push { cls := .type "dict", data := .dict #[] }) scope.names) :
    Inv (X.compC scope cl nm (ts ++ frs'.map (·.1)) pins s H fp) [] (compStart ts.length frs' σ) H { s with heap := h₁, toks := tk } := by
  have hns : h₁.Ns s.heap.objs.size (fun _ => none) := by
    rw [hh]
    exact (Heap.Ns.new s.heap (.type "dict")).keeps (pushCells_keeps _ _)
  have hk : ∀ b o, s.heap.get? b = some o → h₁.get? b = some o := fun b o e => by
    rw [hh]
    exact pushCells_keeps _ _ b o (Heap.get?_push_of_some _ e)
  have hC : ∀ b o, s.heap.get? b = some o → b ≠ s.heap.objs.size := fun b o e => Nat.ne_of_lt (Heap.lt_size e)
  have ok := cellsFrom_ok scope.names (s.heap.push { cls := .type "dict", data := .dict #[] }) (s.heap.objs.size + 1) [] ⟨fun _ _ hm => (nomatch hm), List.Pairwise.nil⟩ (by rw [Heap.size_push]; exact Nat.le_refl _)
  rw [Heap.size_push, ← hh] at ok
  have eapp : clC scope cl s = cellsFrom (s.heap.objs.size + 1) scope.names [] ++ cl := cellsFrom_app scope.names _ [] cl
  -- each cell: an old one or a new one
  have two : ∀ x c, (clC scope cl s).lookup x = some c → ((x, c) ∈ cellsFrom (s.heap.objs.size + 1) scope.names [] ∧ h₁.IsCell c none ∧ s.heap.objs.size + 1 ≤ c) ∨ (X.env.cells.lookup x = some c ∧ c < s.heap.objs.size) := fun x c e => by
    have hm := PySem.mem_of_lookup e
    rw [eapp] at hm
    rcases List.mem_append.mp hm with h | h
    · exact .inl ⟨h, ok.empty x c h⟩
    · have h' := S.sub _ h
      obtain ⟨v, q⟩ := I.cell x c h'
      exact .inr ⟨h', q.lt⟩
  have hcell : ∀ x c, (clC scope cl s).lookup x = some c → ∃ v, h₁.IsCell c v := fun x c e => by
    rcases two x c e with ⟨_, h, _⟩ | ⟨h, _⟩
    · exact ⟨_, h⟩
    · obtain ⟨v, o, ho, hd⟩ := I.cell x c h
      exact ⟨v, o, hk c o ho, hd⟩
  have hinj : ∀ x y c, (clC scope cl s).lookup x = some c → (clC scope cl s).lookup y = some c → x = y := fun x y c h1 h2 => by
    rcases two x c h1 with ⟨a1, _, a2⟩ | ⟨a1, a2⟩
    · rcases two y c h2 with ⟨b1, _, b2⟩ | ⟨b1, b2⟩
      · exact name_of_addr ok.apart a1 b1
      · exact absurd (Nat.lt_of_lt_of_le b2 (Nat.le_of_succ_le a2)) (Nat.lt_irrefl _)
    · rcases two y c h2 with ⟨b1, _, b2⟩ | ⟨b1, b2⟩
      · exact absurd (Nat.lt_of_lt_of_le a2 (Nat.le_of_succ_le b2)) (Nat.lt_irrefl _)
      · exact I.ok.inj x y c a1 b1
  have hcab : ∀ x c, (x == nm) = true → (clC scope cl s).lookup x = some c → s.heap.objs.size ≤ c := fun x c z e => by
    have ex : x = nm := eq_of_beq z
    subst ex
    exact Nat.le_of_succ_le (S.own _ c e)
  have hfree : ∀ x c, (clC scope cl s).lookup x = some c → H c = none := fun x c e => by
    rcases two x c e with ⟨_, _, h⟩ | ⟨h, _⟩
    · exact I.hok.fresh (Nat.le_of_succ_le h)
    · exact I.freeC x c h
  refine ⟨⟨I.ok.mod, ?_, I.ok.glob, I.ok.blt, Nat.le_refl _, hinj, fun x hx => ?_, fun x c z e => hcab x c z e, I.ok.hd, I.ok.frames, .inl rfl, fun b hb => ⟨Nat.ne_of_lt (hlt b hb), fun x c e => ?_⟩, I.bs, Nat.le_trans I.ok.bsz I.sz, fun b o e hb => ?_, fun b hb z => ?_, I.stack, I.stkFree⟩,
    rfl, I.bare, Un.kept hk, ⟨_, hns, fun i x v h1 h2 h3 => ?_⟩, hcell, I.hok.fresh (Nat.le_refl _), hfree, fun p hp => ?_, I.hok.kept hk, ?_⟩
  · exact S.kind
  · have hx' : (relabel scope X.env).names.lookup x = some .cell ∨ (relabel scope X.env).names.lookup x = some .free := hx
    have : ((clC scope cl s).lookup x).isSome = true := by
      rcases hx' with e | e
      · exact S.has _ (x, .cell) (PySem.mem_of_lookup e) (.inl rfl)
      · exact S.has _ (x, .free) (PySem.mem_of_lookup e) (.inr rfl)
    exact Option.isSome_iff_exists.mp this
  · rcases two x c e with ⟨_, _, h⟩ | ⟨h, _⟩
    · exact Nat.ne_of_gt (Nat.lt_of_lt_of_le (hlt b hb) (Nat.le_of_succ_le h))
    · exact (hf b hb).2.2.2.2.1 x c h
  · obtain ⟨_, _, _, h4, _⟩ := hf b hb
    rcases h4 with h4 | h4
    · exact I.ok.noex b o e h4
    · exact absurd (Nat.lt_of_lt_of_le (Heap.lt_size e) (Nat.le_trans I.ok.bsz h4)) (Nat.lt_irrefl _)
  · obtain ⟨_, h2, h3, _⟩ := hf b hb
    rcases List.mem_cons.mp (I.stkSub b z) with e | e
    · exact h2 e
    · exact h3 e
  · have hi : ts.length ≤ i := by
      by_cases hi : ts.length ≤ i
      · exact hi
      · have : (compStart ts.length frs' σ)[i]? = some none := by
          unfold compStart
          rw [List.getElem?_append_left (by simp; omega), List.getElem?_replicate, if_pos (by omega)]
        rw [this] at h2; cases h2
    obtain ⟨p, hp, e1, e2⟩ : ∃ p ∈ frs', p.1 = x ∧ (σ[p.2]?).join = some v := by
      have h1' : (ts ++ frs'.map (·.1))[i]? = some x := h1
      have h2' : (compStart ts.length frs' σ)[i]? = some (some v) := h2
      unfold compStart at h2'
      rw [List.getElem?_append_right hi, List.getElem?_map] at h1'
      rw [List.getElem?_append_right (by simpa using hi), List.getElem?_map, List.length_replicate] at h2'
      cases e : frs'[i - ts.length]? with
      | none => rw [e] at h1'; cases h1'
      | some p =>
        rw [e] at h1' h2'
        exact ⟨p, List.mem_of_getElem? e, Option.some.inj h1', Option.some.inj h2'⟩
    obtain ⟨o1, o2, o3, o4, o5⟩ := S.out (s.heap.objs.size + 1) p hp
    rw [e1] at o1 o2 o3 o4 o5
    have e3 : σ[p.2]? = some (some v) := by
      cases e : σ[p.2]? with
      | none => rw [e] at e2; cases e2
      | some q => rw [e] at e2; exact congrArg some e2
    obtain ⟨m', _, hl⟩ := I.loc
    have hv : Vis X.env.scope x := by
      rcases o2 with o2 | o2
      · exact .inr (.inl o2)
      · exact .inr (.inr o2)
    obtain ⟨u, r, l⟩ := hl p.2 x v o1 e3 hv
    refine ⟨u, r, .inr ⟨o3, ?_⟩⟩
    obtain ⟨c, hc⟩ := Option.isSome_iff_exists.mp o4
    rcases l with ⟨k, _⟩ | ⟨_, c', e, ob, ho, hd⟩
    · rcases o2 with o2 | o2 <;> (rw [o2] at k; cases k)
    · have : c' = c := by have := S.subL hc; rw [this] at e; exact (Option.some.inj e).symm
      subst this
      exact ⟨c', (show (clC scope cl s).lookup x = some c' from o5.trans hc), ob, hk c' ob ho, hd⟩
  · have hp' : p ∈ X.pn ++ pins := by
      have : p ∈ (X.pn ++ pins) ++ [] := hp
      rwa [List.append_nil] at this
    obtain ⟨e, n, ne, nf, d⟩ := I.pin p hp'
    refine ⟨hk _ _ e, n, hC _ _ e, fun z => ?_, d⟩
    rcases List.mem_cons.mp (I.stkSub _ z) with e' | e'
    · exact ne e'
    · exact nf e'
  · show (compStart ts.length frs' σ).length = (ts ++ frs'.map (·.1)).length
    unfold compStart
    simp
theorem CompScopeC.after (I : Inv X pins σ H s) (hf : ∀ b ∈ fp, FpOk X pins H b) {N : List Str} {σ' : St} {H' : Hp} {s' : Shared} (J : Inv (X.compC scope cl nm N pins s H fp) [] σ' H' s') {h' : Heap} (hs : Heap.SameBut s.heap.objs.size s'.heap h') :
    Inv X pins σ H' { s' with heap := h' } := by
  have hC : ∀ b o, s.heap.get? b = some o → b ≠ s.heap.objs.size := fun b o e => Nat.ne_of_lt (Heap.lt_size e)
  have fr : H' s.heap.objs.size = none := J.free
  refine I.call' (s' := { s' with heap := h' }) (ch := fp) J.os ?_ ?_ J.bare fun b hb => ?_
  · have u := J.base
    exact ⟨fun b o e n h1 h2 => (hs.2 b (hC b o e)).trans (u.keep b o e n h1 h2), fun b o e n h1 h2 => by
        obtain ⟨sl, q⟩ := u.slot b o e n h1 h2
        exact ⟨sl, (hs.2 b (hC b o e)).trans q⟩, u.free, fun b o e h2 => by
        obtain ⟨o', q⟩ := u.there b o e h2
        exact ⟨o', (hs.2 b (hC b o e)).trans q⟩, u.tups, u.frzs, u.tbls⟩
  · intro b ob e
    refine (J.hok b ob e).stay (fun c w' hc q => (hs.2 c ?_).trans q) (fun _ q => q) fun _ _ q => q
    rintro rfl
    rcases hc with hc | hc
    · rw [← hc, fr] at e; cases e
    · rw [fr] at hc; cases hc
  · obtain ⟨h1, h2, h3, h4, h5, h6⟩ := hf b hb
    exact ⟨h4, h2, h5, h6⟩
end
end L2

set_option Elab.async false
set_option linter.all false
set_option maxRecDepth 100000
set_option maxHeartbeats 4000000
/-! min and max of a list of ints -/
namespace L2
open PySem PySem.Spec PyProof.Rows
theorem argBest_min (ns : List Int) : ∀ k i, i ≤ k → MM.at0 ns (argBest (fun i j => decide (MM.at0 ns i < MM.at0 ns j)) k) ≤ MM.at0 ns i
  | 0, i, h => by
    have : i = 0 := by omega
    subst this
    exact Int.le_refl _
  | k + 1, i, h => by
    rw [argBest]
    have ih := argBest_min ns k
    split
    · rename_i hb
      have hb := of_decide_eq_true hb
      by_cases e : i = k + 1
      · rw [e]; exact Int.le_refl _
      · have := ih i (by omega)
        omega
    · rename_i hb
      have hb : ¬ (MM.at0 ns (k + 1) < MM.at0 ns (argBest (fun i j => decide (MM.at0 ns i < MM.at0 ns j)) k)) := fun z => hb (decide_eq_true z)
      by_cases e : i = k + 1
      · rw [e]; omega
      · exact ih i (by omega)
theorem at0_mem {ns : List Int} {i : Nat} (h : i < ns.length) : MM.at0 ns i ∈ ns := by
  unfold MM.at0
  rw [List.getD_eq_getElem?_getD, List.getElem?_eq_getElem h]
  exact List.getElem_mem h
theorem mem_at0 {ns : List Int} {x : Int} (h : x ∈ ns) : ∃ i, i < ns.length ∧ MM.at0 ns i = x := by
  obtain ⟨i, hi, e⟩ := List.mem_iff_getElem.mp h
  refine ⟨i, hi, ?_⟩
  unfold MM.at0
  rw [List.getD_eq_getElem?_getD, List.getElem?_eq_getElem hi]
  exact e
/-- the items of a list of ints, by place -/
theorem vals_at0 {ns : List Int} {its : List Value} (rv : Vals (ns.map V.int) its) {i : Nat} {v : Value} (h : its.toArray[i]? = some v) : i < ns.length ∧ ∃ t, v = .int (MM.at0 ns i) t := by
  have hv' : its[i]? = some v := by simpa using h
  have hlen := rv.length
  have hi : i < ns.length := by
    have := (List.getElem?_eq_some_iff.mp hv').1
    rw [List.length_map] at hlen
    omega
  refine ⟨hi, ?_⟩
  have e : (ns.map V.int)[i]? = some (.int (MM.at0 ns i)) := by
    rw [List.getElem?_map, List.getElem?_eq_getElem hi]
    unfold MM.at0
    rw [List.getD_eq_getElem?_getD, List.getElem?_eq_getElem hi]
    rfl
  obtain ⟨u, hu, ru⟩ := rv.get e
  rw [hv'] at hu
  cases hu
  exact ru
section
variable {X : Cx}
def uMinA (K : PySem.W.Frag) : List V → Hp → VK → Prop := fun xs H Q => match xs with
  | [.int i, .int j] => Q (.int (min i j)) H
  | [.ref p] => ∃ ns : List Int, SqL K H p (ns.map V.int) ∧ 1 ≤ ns.length ∧ ∀ m, m ∈ ns → (∀ x ∈ ns, m ≤ x) → Q (.int m) H
  | _ => False
def uMaxA (K : PySem.W.Frag) : List V → Hp → VK → Prop := fun xs H Q => match xs with
  | [.int i, .int j] => Q (.int (max i j)) H
  | [.ref p] => ∃ ns : List Int, SqL K H p (ns.map V.int) ∧ 1 ≤ ns.length ∧ ∀ m, m ∈ ns → (∀ x ∈ ns, x ≤ m) → Q (.int m) H
  | _ => False
theorem c_minL (hc : X.calm = true) : CallR X (.builtin "min") (fun xs H Q => ∃ (p : Addr) (ns : List Int), xs = [.ref p] ∧ SqL X.K H p (ns.map V.int) ∧ 1 ≤ ns.length ∧ ∀ m, m ∈ ns → (∀ x ∈ ns, m ≤ x) → Q (.int m) H) := by
  intro pins s σ H xs us Q I r h
  obtain ⟨p, ns, rfl, hl, h1, q⟩ := h
  obtain ⟨u, rfl, ru⟩ := r.one
  cases ru
  obtain ⟨its, rv, pl, hz⟩ := I.list hl
  have hlen : its.toArray.size = ns.length := by have := rv.length; simp at this; simp; omega
  have hp : p < s.heap.objs.size := by obtain ⟨o, n, e, _⟩ := pl; exact Heap.lt_size e
  refine call_min_walk (wpAny_pyIter_list pl.isList ?_)
  refine ⟨s.heap.objs.size, _, _, _, _, _, fun i j => decide (MM.at0 ns i < MM.at0 ns j), rfl, Walks.list (show X.A.in1.handled = none from I.ok.hd hc) s.heap.objs.size p (Nat.ne_of_lt hp) its.toArray, ⟨⟨_, Heap.get?_push_size _ rfl, rfl, rfl⟩, pl.isList.at fun o e => Heap.get?_push_of_some _ e⟩, ?_, by rw [hlen]; exact h1, ?_, ?_⟩
  · intro b hb
    rw [Heap.size_push]
    rcases List.mem_cons.mp hb with rfl | hb
    · exact Nat.lt_succ_self _
    · have : b = p := by simpa using hb
      subst this
      exact Nat.lt_succ_of_lt hp
  · intro i j vi vj s' Q' E' hi hj hq
    obtain ⟨_, t, rfl⟩ := vals_at0 rv hi
    obtain ⟨_, t', rfl⟩ := vals_at0 rv hj
    exact HT.rcLt_int _ _ _ _ _ _ _ _ _ _ hq
  · intro v h' tk hv hk
    obtain ⟨hi, t, rfl⟩ := vals_at0 rv hv
    rw [hlen] at hi ⊢
    refine ⟨.int _, H, I.kept (t' := tk) fun b o e => hk b o (by simp; exact Nat.ne_of_lt (Heap.lt_size e)) (Heap.get?_push_of_some _ e), ⟨_, rfl⟩, q _ (at0_mem hi) fun x hx => ?_⟩
    obtain ⟨j, hj, rfl⟩ := mem_at0 hx
    exact argBest_min ns (ns.length - 1) j (by omega)
theorem c_minA (hc : X.calm = true) : CallR X (.builtin "min") (uMinA X.K) := ((c_min hc).or (c_minL hc)).imp fun xs H Q q => by
  unfold uMinA at q
  split at q
  · exact .inl q
  · obtain ⟨ns, h1, h2, h3⟩ := q
    exact .inr ⟨_, ns, rfl, h1, h2, h3⟩
  · exact q.elim
end
section
variable {K : PySem.W.Frag} {H : Hp} {Q : VK} {p : Addr} {i j : Int}
end
end L2

set_option Elab.async false
set_option linter.all false
set_option maxRecDepth 100000
set_option maxHeartbeats 4000000
/-! tuples: joined, cut, walked with their numbers -/
namespace L2
open PySem PySem.Spec PyProof.Rows
section
variable {prog : Program} {w : World} {A : Around} {E : Value → Shared → Prop} {s : Shared}
/-- t + u, t empty -/
theorem cat_tup0 {t b : Addr} {ws : List Value} {Q : Value → Shared → Prop} (ht : IsTup s.heap t #[]) (hb : IsTup s.heap b ws.toArray) (h : Q (.ref b) s) : wpAny (model prog w) A (binaryOp .Add (.ref t) (.ref b)) Q E s := by
  obtain ⟨⟨c1, d1, x1, l1⟩, g1, k1, n1, z1⟩ := id ht
  obtain ⟨⟨c2, d2, x2, l2⟩, g2, k2, n2, z2⟩ := id hb
  simp only at k1 z1 k2 z2
  subst k1 z1 k2 z2
  exact concat_meets ⟨_, g1, rfl⟩ ⟨_, g2, rfl⟩ PySem.noFill_tuple_add PySem.seq_tuple_add PySem.F.slot_tuple_add PySem.F.entry_tuple_add (PySem.F.args_tuple_add_2 _ _) (tuple_addW0 t b #[] ws.toArray n1 n2 d1 d2 l1 l2 rfl) ⟨g1, g2, h⟩
end
section
variable {X : Cx}
/-- t + u: some tuple of all items -/
def rCatU (K : PySem.W.Frag) : R2 := fun x y H Q => ∃ a b xs ys, x = .ref a ∧ y = .ref b ∧ SqT K H a xs ∧ SqT K H b ys ∧ xs.length + ys.length ≤ sizeLine ∧ ∀ p H', Same H H' → SqT K H' p (xs ++ ys) → Q (.ref p) H'
theorem op_catU : OpR X (binaryOp .Add) (rCatU X.K) := by
  intro pins s σ H x y v u Q I rx ry h
  obtain ⟨a, b, xs, ys, rfl, rfl, ha, hb, hz, q⟩ := h
  by_cases hx : xs = []
  · subst hx
    cases rx
    cases ry
    obtain ⟨its, r1, p1, _⟩ := I.tuple ha
    obtain ⟨its2, r2, p2, _⟩ := I.tuple hb
    cases r1
    exact cat_tup0 p1 p2 ⟨.ref b, H, I, rfl, q b H (Same.refl _) hb⟩
  · refine op_catT pins s σ H (.ref a) (.ref b) v u Q I rx ry ⟨a, b, xs, ys, rfl, rfl, ha, hb, hx, hz, fun e => ?_, fun _ p hp => ?_⟩
    · subst e
      exact q a H (Same.refl _) (by rw [List.append_nil]; exact ha)
    · exact q p _ (Same.upd_new hp) (SqT.of upd_same)
/-- t[lo:hi]: some tuple of the items -/
def rSlU (K : PySem.W.Frag) : V → Option Int → Option Int → Hp → VK → Prop := fun x lo hi H Q => ∃ a xs, x = .ref a ∧ SqT K H a xs ∧ ∀ p H', Same H H' → SqT K H' p (cutV xs lo hi) → Q (.ref p) H'
end
section
variable {prog : Program} {w : World} {A : Around} {E : Value → Shared → Prop} {s : Shared}
theorem cut_whole {t sl : Addr} {items : Array Value} {vl vu : Value} {lo hi : Option Int} {Q : Value → Shared → Prop} (ht : IsTup s.heap t items) (hs : s.heap.IsSliceOf sl vl vu .none) (pl : IsPart vl lo) (pu : IsPart vu hi)
    (h1 : HT.sIx items.size 0 lo = 0) (h2 : HT.sIx items.size items.size hi = items.size) (h : Q (.ref t) s) : wpAny (model prog w) A (getItem (.ref t) (.ref sl)) Q E s := by
  obtain ⟨ob, g1, g2, g3⟩ := id hs
  have hT : s.TypeIs (.ref sl) "slice" := ⟨ob, g1, g2⟩
  unfold getItem
  try with_reducible refine wpAny_holding ?_
  first | refine wpAny_bind (wpAny_pure ?_) | skip
  refine wpAny_bind (wpAny_sequenceKey ht.typeIs (by decide) ?_)
  have key : wpAny (model prog w) A.in1 (Builtin.«tuple.__getitem__» ⟨[.ref t, .ref sl], []⟩) (fun fin s' => ∃ v, fin = .done (.ret v) ∧ Q v s') E s := by
    show wpAny _ _ (Builtin.Tuple.tupleItemsOf (.ref t) >>= _) _ _ s
    refine wpAny_bind (PyProof.Rows.tupleItemsOf_ ht (wpAny_bind (wpAny_typeOf hT ?_)))
    rw [if_pos (by decide)]
    refine wpAny_bind (HT.sliceApplied_gen hs pl pu ?_)
    rw [h1, h2]
    show wpAny _ _ (if ((((0 : Nat) : Int) == 0 && (1 : Int) == 1 && (items.size - 0) == items.size)) = true then _ else _) _ _ s
    rw [if_pos (by simp)]
    refine wpAny_bind (wpAny_bind (wpAny_typeOf ht.typeIs (wpAny_pure ?_)))
    rw [if_pos (by decide)]
    exact wpAny_bind (wpAny_rule (wpAny_pure ⟨_, rfl, h⟩))
  exact wpAny_bind (wpAny_callSpecial?_slot (name := Str.ofString "__getitem__") ht.typeIs PyProof.Rows.slot_tuple_getitem (wpAny_call_entry PyProof.Rows.slot_tuple_getitem ht.typeIs PyProof.Rows.entry_tuple_getitem (wpAny_mono key (fun fin s' ⟨v, e, q⟩ => ⟨v, e, wpAny_pure q⟩) fun _ _ z => z) (PyProof.Rows.args_tuple_getitem _ _)))
end
section
variable {X : Cx}
theorem cutV_whole {xs : List V} {lo hi : Option Int} (h1 : HT.sIx xs.length 0 lo = 0) (h2 : HT.sIx xs.length xs.length hi = xs.length) : cutV xs lo hi = xs := by
  unfold cutV
  rw [h1, h2, List.drop_zero, Nat.sub_zero, List.take_length]
theorem sl_tupU : SlR X (rSlU X.K) := by
  intro pins s σ H x v vl vu lo hi sl Q I rx hs pl pu h
  obtain ⟨a, xs, rfl, hx, q⟩ := h
  by_cases hw : HT.sIx xs.length 0 lo = 0 ∧ HT.sIx xs.length xs.length hi = xs.length
  · cases rx
    obtain ⟨its, r, ht, hz⟩ := I.tuple hx
    have hlen : its.toArray.size = xs.length := by rw [List.size_toArray]; exact r.length.symm
    refine ⟨"tuple", _, PyProof.Rows.slot_tuple_getitem.lookup, ht.typeIs, cut_whole ht hs pl pu (by rw [hlen]; exact hw.1) (by rw [hlen]; exact hw.2) ⟨.ref a, H, I, rfl, q a H (Same.refl _) ?_⟩⟩
    rw [cutV_whole hw.1 hw.2]
    exact hx
  · exact sl_tup pins s σ H (.ref a) v vl vu lo hi sl Q I rx hs pl pu ⟨a, xs, rfl, hx, hw, fun p hp => q p _ (Same.upd_new hp) (SqT.of upd_same)⟩
def uAddW (K : PySem.W.Frag) : R2 := fun x y H Q => match x, y with
  | .int i, .int j => Q (.int (i + j)) H
  | .str i, .str j => i.length + j.length ≤ sizeLine ∧ Q (.str (i ++ j)) H
  | .ref a, .ref b => (∃ xs zs, SqL K H a xs ∧ SqL K H b zs ∧ xs.length + zs.length ≤ sizeLine ∧ ∀ p, H p = none → Q (.ref p) (upd H p (.lst (xs ++ zs)))) ∨
      (∃ xs zs, SqT K H a xs ∧ SqT K H b zs ∧ xs.length + zs.length ≤ sizeLine ∧ ∀ p H', Same H H' → SqT K H' p (xs ++ zs) → Q (.ref p) H')
  | _, _ => False
theorem o_addW : OpR X (binaryOp .Add) (uAddW X.K) := ((op_add.or op_add_str).or (op_catL.or op_catU)).imp fun x y H Q q => by
  unfold uAddW at q
  split at q
  · exact .inl (.inl ⟨_, _, rfl, rfl, q⟩)
  · exact .inl (.inr ⟨_, _, rfl, rfl, q.1, q.2⟩)
  · rcases q with ⟨xs, zs, h1, h2, h3, h4⟩ | ⟨xs, zs, h1, h2, h3, h4⟩
    · exact .inr (.inl ⟨_, _, xs, zs, rfl, rfl, h1, h2, h3, h4⟩)
    · exact .inr (.inr ⟨_, _, xs, zs, rfl, rfl, h1, h2, h3, h4⟩)
  · exact q.elim
def uSlW (K : PySem.W.Frag) : V → Option Int → Option Int → Hp → VK → Prop := fun x lo hi H Q => match x with
  | .str z => z.length ≤ sizeLine ∧ Q (.str (cutS z lo hi)) H
  | .ref a => (∃ xs, SqL K H a xs ∧ ∀ p, H p = none → Q (.ref p) (upd H p (.lst (cutV xs lo hi)))) ∨ (∃ xs, SqT K H a xs ∧ ∀ p H', Same H H' → SqT K H' p (cutV xs lo hi) → Q (.ref p) H')
  | _ => False
theorem o_slW : SlR X (uSlW X.K) := by
  intro pins s σ H x v vl vu lo hi sl Q I rx hs pl pu q
  unfold uSlW at q
  split at q
  · exact sl_str pins s σ H _ v vl vu lo hi sl Q I rx hs pl pu ⟨_, rfl, q.1, q.2⟩
  · rcases q with ⟨xs, h1, h2⟩ | ⟨xs, h1, h2⟩
    · exact sl_list pins s σ H _ v vl vu lo hi sl Q I rx hs pl pu ⟨_, xs, rfl, h1, h2⟩
    · exact sl_tupU pins s σ H _ v vl vu lo hi sl Q I rx hs pl pu ⟨_, xs, rfl, h1, h2⟩
  · exact q.elim
end
section
variable {K : PySem.W.Frag} {H : Hp} {Q : VK} {a b : Addr} {i j : Int} {x y : Str} {lo hi : Option Int}
end
/-! the items of a tuple with their numbers -/
section
open PySem.AutoSeq1 (wpAny_loadPart')
variable {prog : Program} {w : World} {A : Around} {E : Value → Shared → Prop} {s : Shared}
theorem enum_new_tup (t : Addr) (items : Array Value) (n : Nat) (dd : Option Addr) (sl : Array (Option Value)) :
    Meets (Builtin.«enumerate.__new__» ⟨[.type "enumerate", .ref t], []⟩) (fun _ R s => s.heap.get? t = some { cls := .type "tuple", dict := dd, data := .seq items n, slots := sl } ∧
      R (.ok (.ret (.ref (s.heap.push { cls := .type "tuple_iterator", data := .fields #[.ref t, .int 0 0] }).objs.size)))
        { s with heap := (s.heap.push { cls := .type "tuple_iterator", data := .fields #[.ref t, .int 0 0] }).push { cls := .type "enumerate", data := .fields #[.none, .bool false, .ref s.heap.objs.size, rawInt 0, .none, .none] } }) :=
  .of_wp fun prog w A R s ⟨g1, g2⟩ => by
    obtain ⟨hp, ge, dr, tk, os⟩ := s
    have es := sub_enumerate
    have hL : Heap.IsTuple (Shared.heap ⟨hp, ge, dr, tk, os⟩) t items := ⟨_, g1, rfl, n, rfl⟩
    wp_walk using wpAny_loadPart' g1
    refine wpAny_stack_any fun st => wpAny_pure ?_
    split
    · rename_i cc _ _ _ _ _
      cases (cc == Value.type "enumerate") <;> (wp_walk using wpAny_loadPart' g1, wpAny_pyIter_tuple hL; exact ⟨_, rfl, g2⟩)
    · wp_walk using wpAny_loadPart' g1, wpAny_pyIter_tuple hL
      exact ⟨_, rfl, g2⟩
end
section
variable {prog : Program} {w : World} {A : Around} {E : Value → Shared → Prop} {s : Shared}
theorem call_enum_tup {t : Addr} {items : Array Value} {Q : Value → Shared → Prop} (ht : s.heap.IsTuple t items)
    (h : ∀ h', IsEnum h' (s.heap.objs.size + 1) s.heap.objs.size 0 .none → h'.IsTupleIter s.heap.objs.size t 0 → (∀ b o, s.heap.get? b = some o → h'.get? b = some o) → Q (.ref (s.heap.objs.size + 1)) { s with heap := h' }) :
    wpAny (model prog w) A (call (.type "enumerate") [.ref t]) Q E s := by
  obtain ⟨⟨c, dd, dt, sl⟩, g1, k1, n, k2⟩ := ht
  simp only at k1 k2
  subst k1 k2
  have e1 : (s.heap.push { cls := .type "tuple_iterator", data := .fields #[.ref t, .int 0 0] }).objs.size = s.heap.objs.size + 1 := Heap.size_push ..
  have e2 : IsEnum ((s.heap.push { cls := .type "tuple_iterator", data := .fields #[.ref t, .int 0 0] }).push { cls := .type "enumerate", data := .fields #[.none, .bool false, .ref s.heap.objs.size, rawInt 0, .none, .none] }) (s.heap.objs.size + 1) s.heap.objs.size 0 .none := by
    rw [← e1]
    exact Heap.get?_push_size _ rfl
  refine callType_new F.called_enumerate (by decide) (F.typeCall_enumerate_1 _) (F.newCall_enumerate_1 _) (fun ob => F.args_object_init_2 ob _) F.entry_enumerate_new (enum_new_tup t items n dd sl) ⟨g1, ?_⟩
  show _ ∧ _
  rw [e1]
  exact ⟨⟨_, e2, rfl⟩, h _ e2 ⟨_, Heap.get?_push_of_some _ (Heap.get?_push_size _ rfl), rfl, rfl⟩ fun b o z => Heap.get?_push_of_some _ (Heap.get?_push_of_some _ z)⟩
theorem next_tup_item {it t : Addr} {i : Nat} {items : Array Value} {x : Value} {Q : Value → Shared → Prop} (st : s.heap.IsTupleIter it t i) (ht : s.heap.IsTuple t items) (hx : items[i]? = some x)
    (hQ : ∀ h', h'.IsTupleIter it t (i + 1) → Heap.SameBut it s.heap h' → Q x { s with heap := h' }) : wpAny (model prog w) A (Builtin.SmallTypes.nextOf (.ref it)) Q E s := by
  obtain ⟨ob, g1, g2, g3⟩ := id st
  obtain ⟨ol, k1, k2, n, k3⟩ := ht
  have no : ¬ ((Value.ref t == Value.none) = true) := Bool.false_ne_true
  unfold Builtin.SmallTypes.nextOf
  refine wpAny_bind (wpAny_callSpecial?_slot (name := Str.ofString "__next__") st.typeIs F.slot_tuple_iterator_next (wpAny_call_entry F.slot_tuple_iterator_next st.typeIs F.entry_tuple_iterator_next ?_ (F.args_tuple_iterator_next_1 _)))
  refine (show wpAny _ _ (field (.ref it) 0 >>= _) _ _ s from wpAny_bind (wpAny_field g1 g3 (x := .ref t) rfl ?_))
  refine (show wpAny _ _ (if (Value.ref t == Value.none) = true then _ else _) _ _ s from ?_)
  rw [if_neg no]
  refine (show wpAny _ _ (field (.ref it) 1 >>= _) _ _ s from wpAny_bind (wpAny_field g1 g3 (x := .int i 0) rfl ?_))
  refine (show wpAny _ _ (seqItems? (.ref t) >>= _) _ _ s from wpAny_bind (wpAny_seqItems k1 k3 ?_))
  simp only [hx, Int.toNat_natCast]
  refine wpAny_bind (wpAny_setField g1 g3 (by simp) (wpAny_pure ⟨x, rfl, wpAny_pure (hQ _ ⟨_, Heap.get?_update_self _ g1 (Obj.isFreed_of_fields (Obj.data_mapFields g3 _)), (Obj.cls_mapFields ..).trans g2, ?_⟩ (Heap.SameBut.update ..))⟩))
  rw [Obj.data_mapFields g3]
  simp [rawInt]
/-- one number and item, whatever is walked: what it is turned to is T1 -/
theorem enum_item {e it : Addr} {i : Nat} {x old : Value} {Q : Option Value → Shared → Prop} {T1 : Heap → Prop} (he : IsEnum s.heap e it i old) (hne : e ≠ it)
    (hk : ∀ h h', T1 h → (∀ o, h.get? it = some o → h'.get? it = some o) → T1 h')
    (hn : ∀ (A' : Around) (E' : Value → Shared → Prop) (Q' : Value → Shared → Prop), (∀ h', T1 h' → Heap.SameBut it s.heap h' → Q' x { s with heap := h' }) → wpAny (model prog w) A' (Builtin.SmallTypes.nextOf (.ref it)) Q' E' s)
    (hQ : ∀ h', IsEnumOut h' e it ((i : Int) + 1) x s.heap.objs.size → T1 h' → h'.get? s.heap.objs.size = some { cls := .type "tuple", data := .seq #[.int i s.toks, x] } →
      (∀ b o, b ≠ e → b ≠ it → s.heap.get? b = some o → h'.get? b = some o) → Q (some (.ref s.heap.objs.size)) { s with heap := h', toks := s.toks + 1 }) :
    wpAny (model prog w) A (pyNext (.ref e)) Q E s := by
  have hT : s.TypeIs (.ref e) "enumerate" := ⟨_, he, rfl⟩
  have lt : e < s.heap.objs.size := Heap.lt_size he
  have core : wpAny (model prog w) A.in1 (Builtin.«enumerate.__next__» ⟨[.ref e], []⟩) (fun fin s' => ∃ v, fin = .done (.ret v) ∧ wpAny (model prog w) A (pure (some v)) Q E s') (fun _ _ => False) s := by
    obtain ⟨hp, ge, dr, tk, os⟩ := s
    refine (show wpAny _ _ (field (.ref e) 2 >>= _) _ _ _ from wpAny_bind (wpAny_field he rfl (x := .ref it) rfl (wpAny_bind (hn _ _ _ fun h1 t1 b1 => ?_))))
    have b1 : Heap.SameBut it hp h1 := b1
    have g1 : IsEnum h1 e it i old := (b1.2 e hne).trans he
    refine (show wpAny _ _ (field (.ref e) 3 >>= _) _ _ ⟨h1, ge, dr, tk, os⟩ from wpAny_bind (wpAny_field g1 rfl (x := rawInt i) rfl ?_))
    refine (show wpAny _ _ (field (.ref e) 4 >>= _) _ _ ⟨h1, ge, dr, tk, os⟩ from wpAny_bind (wpAny_field g1 rfl (x := .none) rfl ?_))
    refine (show wpAny _ _ (mkInt i >>= _) _ _ ⟨h1, ge, dr, tk, os⟩ from wpAny_bind (wpAny_mkInt ?_))
    refine (show wpAny _ _ (setField (.ref e) 3 (rawInt ((i : Int) + 1)) >>= _) _ _ ⟨h1, ge, dr, tk + 1, os⟩ from wpAny_bind (wpAny_setField_rec g1 (by simp) fun h2 g2 b2 => ?_))
    have b2 : Heap.SameBut e h1 h2 := b2
    have g2 : IsEnum h2 e it ((i : Int) + 1) old := g2
    refine (show wpAny _ _ (setField (.ref e) 4 .none >>= _) _ _ ⟨h2, ge, dr, tk + 1, os⟩ from wpAny_bind (wpAny_setField_rec g2 (by simp) fun h3 g3 b3 => ?_))
    have b3 : Heap.SameBut e h2 h3 := b3
    have g3 : IsEnum h3 e it ((i : Int) + 1) old := g3
    have z3 : h3.objs.size = hp.objs.size := by rw [b3.1, b2.1, b1.1]
    refine (show wpAny _ _ (newTuple [.int i tk, x] >>= _) _ _ ⟨h3, ge, dr, tk + 1, os⟩ from wpAny_bind (wpAny_newTuple ?_))
    have g4 : IsEnum (h3.push { cls := .type "tuple", data := .seq #[.int i tk, x] }) e it ((i : Int) + 1) old := Heap.get?_push_of_some _ g3
    have u4 : (h3.push { cls := .type "tuple", data := .seq #[.int i tk, x] }).get? hp.objs.size = some { cls := .type "tuple", data := .seq #[.int i tk, x] } := by
      rw [← z3]
      exact Heap.get?_push_size _ rfl
    have v4 : ∀ b o, b ≠ e → b ≠ it → hp.get? b = some o → (h3.push { cls := .type "tuple", data := .seq #[.int i tk, x] }).get? b = some o := fun b o q1 q2 q3 => Heap.get?_push_of_some _ (b3.extBut b o q1 (b2.extBut b o q1 (b1.extBut b o q2 q3)))
    have w4 : T1 (h3.push { cls := .type "tuple", data := .seq #[.int i tk, x] }) := hk h1 _ t1 fun o q => Heap.get?_push_of_some _ (b3.extBut it o (Ne.symm hne) (b2.extBut it o (Ne.symm hne) q))
    generalize h3.push { cls := .type "tuple", data := .seq #[.int i tk, x] } = h4 at g4 u4 v4 w4 ⊢
    rw [z3]
    refine (show wpAny _ _ (Builtin.SmallTypes.ownedTupleIsFree (.ref e) >>= _) _ _ ⟨h4, ge, dr, tk + 1, os⟩ from wpAny_bind ?_)
    unfold Builtin.SmallTypes.ownedTupleIsFree
    refine wpAny_bind (wpAny_field g4 rfl (x := .none) rfl (wpAny_pure ?_))
    simp only [if_true]
    refine wpAny_bind (wpAny_rule (wpAny_bind (wpAny_field g4 rfl (x := old) rfl (wpAny_bind (wpAny_setField_rec g4 (by simp) fun h5 g5 b5 => ?_)))))
    have b5 : Heap.SameBut e h4 h5 := b5
    have g5 : IsEnum h5 e it ((i : Int) + 1) x := g5
    refine (show wpAny _ _ (Builtin.SmallTypes.ownedTupleHandOut (.ref e) (.ref hp.objs.size) >>= _) _ _ ⟨h5, ge, dr, tk + 1, os⟩ from wpAny_bind ?_)
    unfold Builtin.SmallTypes.ownedTupleHandOut
    refine wpAny_bind (wpAny_setField_rec g5 (by simp) fun h6 g6 b6 => ?_)
    have b6 : Heap.SameBut e h5 h6 := b6
    have g6 : IsEnumOut h6 e it ((i : Int) + 1) x hp.objs.size := g6
    refine wpAny_setField_rec g6 (by simp) fun h7 g7 b7 => ?_
    have b7 : Heap.SameBut e h6 h7 := b7
    have g7 : IsEnumOut h7 e it ((i : Int) + 1) x hp.objs.size := g7
    have on : ∀ b o, b ≠ e → h4.get? b = some o → h7.get? b = some o := fun b o q1 q2 => b7.extBut b o q1 (b6.extBut b o q1 (b5.extBut b o q1 q2))
    exact wpAny_bind (wpAny_letGo (wpAny_pure ⟨_, rfl, wpAny_pure (hQ h7 g7 (hk h4 h7 w4 fun o q => on it o (Ne.symm hne) q) (on _ _ (Nat.ne_of_gt lt) u4) fun b o q1 q2 q3 => on b o q1 (v4 b o q1 q2 q3))⟩))
  unfold pyNext
  exact wpAny_bind (wpAny_attempt (wpAny_callSpecial?_slot (name := Str.ofString "__next__") hT F.slot_enumerate_next (wpAny_call_entry F.slot_enumerate_next hT F.entry_enumerate_next (wpAny_mono core (fun fin s' ⟨v, q1, q2⟩ => ⟨v, q1, q2⟩) fun _ _ z => z.elim) (F.args_enumerate_next_1 _))))
end
section
variable {prog : Program} {w : World} {A : Around} {E : Value → Shared → Prop} {s : Shared}
theorem next_tup_end {it t : Addr} {i : Nat} {items : Array Value} {Q : Value → Shared → Prop} (hh : A.handled = none) (st : s.heap.IsTupleIter it t i) (ht : s.heap.IsTuple t items) (hx : items[i]? = none)
    (hE : ∀ h' e, Heap.ExtBut it s.heap h' → (∃ o, h'.get? e = some o ∧ o.cls = .type "StopIteration") → E (.ref e) { s with heap := h' }) : wpAny (model prog w) A (Builtin.SmallTypes.nextOf (.ref it)) Q E s := by
  obtain ⟨ob, g1, g2, g3⟩ := id st
  obtain ⟨ol, k1, k2, n, k3⟩ := ht
  have no : ¬ ((Value.ref t == Value.none) = true) := Bool.false_ne_true
  unfold Builtin.SmallTypes.nextOf
  refine wpAny_bind (wpAny_callSpecial?_slot (name := Str.ofString "__next__") st.typeIs F.slot_tuple_iterator_next (wpAny_call_entry F.slot_tuple_iterator_next st.typeIs F.entry_tuple_iterator_next ?_ (F.args_tuple_iterator_next_1 _)))
  refine (show wpAny _ _ (field (.ref it) 0 >>= _) _ _ s from wpAny_bind (wpAny_field g1 g3 (x := .ref t) rfl ?_))
  refine (show wpAny _ _ (if (Value.ref t == Value.none) = true then _ else _) _ _ s from ?_)
  rw [if_neg no]
  refine (show wpAny _ _ (field (.ref it) 1 >>= _) _ _ s from wpAny_bind (wpAny_field g1 g3 (x := .int i 0) rfl ?_))
  refine (show wpAny _ _ (seqItems? (.ref t) >>= _) _ _ s from wpAny_bind (wpAny_seqItems k1 k3 ?_))
  simp only [hx, Int.toNat_natCast]
  refine wpAny_bind (wpAny_rule (wpAny_bind (wpAny_setField g1 g3 (by simp) (show wpAny _ _ (newExc (.type "StopIteration") [] >>= _) _ _ _ from wpAny_bind ?_))))
  simp only [newTuple, newExc]
  refine wpAny_bind (wpAny_newObj_type (wpAny_bind (m := firstArgMember _ _) (wpAny_of_eq (a := Value.none) (by first | rfl | (simp only [firstArgMember]; rfl)) (wpAny_newObj_type ?_ (by size_fits)))) (by size_fits))
  simp only [raiseNew]
  refine wpAny_bind (wpAny_handled ?_)
  first | rw [hh] | rw [show A.in1.handled = none from hh]
  exact wpAny_bind (wpAny_pure (wpAny_throw (hE _ _ (((Heap.SameBut.update ..).extBut.push _).push _) ⟨_, Heap.get?_push_size _ rfl, rfl⟩)))
theorem enum_end {e it : Addr} {i : Int} {old : Value} {Q : Option Value → Shared → Prop} (he : IsEnum s.heap e it i old)
    (hn : ∀ (E' : Value → Shared → Prop) (Q' : Value → Shared → Prop), (∀ h' x, Heap.ExtBut it s.heap h' → (∃ o, h'.get? x = some o ∧ o.cls = .type "StopIteration") → E' (.ref x) { s with heap := h' }) → wpAny (model prog w) A.in1 (Builtin.SmallTypes.nextOf (.ref it)) Q' E' s)
    (hQ : ∀ h', Heap.ExtBut it s.heap h' → Q none { s with heap := h' }) : wpAny (model prog w) A (pyNext (.ref e)) Q E s := by
  have hT : s.TypeIs (.ref e) "enumerate" := ⟨_, he, rfl⟩
  unfold pyNext
  refine wpAny_bind (wpAny_attempt (wpAny_callSpecial?_slot (name := Str.ofString "__next__") hT F.slot_enumerate_next (wpAny_call_entry F.slot_enumerate_next hT F.entry_enumerate_next ?_ (F.args_enumerate_next_1 _))))
  refine (show wpAny _ _ (field (.ref e) 2 >>= _) _ _ _ from wpAny_bind (wpAny_field he rfl (x := .ref it) rfl (wpAny_bind (hn _ _ fun h' x q1 q2 => ?_))))
  obtain ⟨o, ho, hc⟩ := q2
  exact wpAny_bind (wpAny_isInstance (T := "StopIteration") (b := true) ⟨o, ho, hc⟩ isSubtype_stop (wpAny_pure (hQ _ q1)))
end
def Iteu (K : PySem.W.Frag) (a : Addr) : It :=
  ⟨fun i H => ∃ xs x, SqT K H a xs ∧ xs[i]? = some x,
   fun i H v H' => ∃ T x, v = .ref T ∧ H T = none ∧ H' = upd H T (.tup [.int i, x]) ∧ (∀ xs, SqT K H a xs → xs[i]? = some x),
   fun i H => ∃ xs, SqT K H a xs ∧ xs.length ≤ i⟩
theorem turn_enumT {P : Program} {w : World} {K : PySem.W.Frag} {elts : List Expr} {k0} {pos : Pos} {e it l : Addr} (hne : e ≠ it) : Turn P w K (.Tuple elts k0 pos) (Iteu K l) [e, it] e
    (fun i h => (∃ old, IsEnum h e it i old) ∧ h.IsTupleIter it l i) where
  mem := by simp
  obj := fun i h st b hb => by
    obtain ⟨⟨old, he⟩, h1⟩ := st
    simp only [List.mem_cons, List.not_mem_nil, or_false] at hb
    rcases hb with rfl | rfl
    · exact ⟨_, he, fun v q => nomatch q⟩
    · obtain ⟨o, e, c, d⟩ := h1
      exact ⟨o, e, fun v q => by rw [d] at q; cases q⟩
  keep := fun i h h' st k => by
    obtain ⟨⟨old, he⟩, h1⟩ := st
    exact ⟨⟨old, k e (by simp) _ he⟩, h1.at fun o q => k it (by simp) o q⟩
  item := by
    intro X hP hw hK hc i pins s σ H E I hf st hg
    subst hP hw hK
    obtain ⟨⟨old, he⟩, h1⟩ := st
    obtain ⟨xs, x, hx, hxi⟩ := hg
    obtain ⟨its, rv, p, _⟩ := I.tuple hx
    obtain ⟨u, hu, ru⟩ := rv.get hxi
    refine enum_item (x := u) (T1 := fun h => h.IsTupleIter it l (i + 1)) he hne (fun h h' a b => a.at b) (fun A' E' Q' q => next_tup_item h1 p (by simpa using hu) q) fun h' a1 a2 a3 hk => ?_
    refine ⟨_, rfl, wpAny_letOwnedTupleGo_enum a1 fun h'' he' sb => ?_⟩
    have nz : s.heap.objs.size ≠ e := Nat.ne_of_gt (Heap.lt_size he)
    have hT' : IsTup h'' s.heap.objs.size [Value.int i s.toks, u].toArray := ⟨_, sb.extBut _ _ nz a3, rfl, _, rfl⟩
    have I' : Inv X pins σ (upd H s.heap.objs.size (.tup [.int i, x])) { s with heap := h'', toks := s.toks + 1 } := I.turnedL (ch := [e, it]) hf (fun b o hb q => by
      simp only [List.mem_cons, List.not_mem_nil, or_false, not_or] at hb
      exact sb.extBut _ _ hb.1 (hk b o hb.1 hb.2 q)) (Nat.le_refl _) ⟨by show 2 ≤ sizeLine; decide, [Value.int i s.toks, u], .cons ⟨_, rfl⟩ (.cons ru .nil), hT'⟩
    have hn : H s.heap.objs.size = none := I.hok.fresh (Nat.le_refl _)
    refine ⟨.ref s.heap.objs.size, _, I', rfl, ⟨_, x, rfl, hn, rfl, fun zs hzs => by rw [I.tuple_inj hzs hx]; exact hxi⟩, ⟨⟨_, by push_cast; exact he'⟩, a2.at fun o q => sb.extBut it o (Ne.symm hne) q⟩, fun b hb => ?_⟩
    have hfb := (hf b hb).1
    have : b ≠ s.heap.objs.size := by
      obtain ⟨o, q⟩ : ∃ o, s.heap.get? b = some o := by
        simp only [List.mem_cons, List.not_mem_nil, or_false] at hb
        rcases hb with rfl | rfl
        · exact ⟨_, he⟩
        · obtain ⟨o, q, _⟩ := h1; exact ⟨o, q⟩
      exact Nat.ne_of_lt (Heap.lt_size q)
    rw [upd_ne this]; exact hfb
  done := by
    intro X hP hw hK hc i pins s σ H E I hf st hg
    subst hP hw hK
    obtain ⟨⟨old, he⟩, h1⟩ := st
    obtain ⟨xs, hx, hend⟩ := hg
    obtain ⟨its, rv, p, _⟩ := I.tuple hx
    have hl := rv.length
    exact enum_end he (fun E' Q' q => next_tup_end (show X.A.in1.handled = none from I.ok.hd hc) h1 p (by simp; omega) q) fun h' hk => ⟨rfl, I.turnedM (t' := s.toks) (ch := [e, it]) hf (fun b o hb q => by
      simp only [List.mem_cons, List.not_mem_nil, or_false, not_or] at hb
      exact hk b o hb.2 q)⟩
  self := fun _ _ _ _ _ st h => by
    obtain ⟨⟨old, he⟩, h1⟩ := st
    exact wpAny_pyIter_enum he h
def uEnumT (K : PySem.W.Frag) : List V → Hp → (It → Hp → Prop) → Prop := fun vs H R => match vs with
  | [.ref a] => (∃ xs, SqT K H a xs) ∧ R (Iteu K a) H
  | _ => False
end L2

set_option Elab.async false
set_option linter.all false
set_option maxRecDepth 100000
set_option maxHeartbeats 4000000
/-! lists from their ends: tuple(reversed(xs)), list(reversed(xs)), for x in reversed(xs) -/
namespace L2
open PySem PySem.Spec PyProof.Rows
theorem noLen_rev : typeLookup (.type "list_reverseiterator") "__len__" = pure none := by rw [typeLookup_type, builtinLookup_eq_fast]; kernel_rfl
theorem hint_rev : typeLookup (.type "list_reverseiterator") "__length_hint__" = pure (some (.builtin "list_reverseiterator.__length_hint__")) := by rw [typeLookup_type, builtinLookup_eq_fast]; kernel_rfl
theorem items_rev {items acc : Array Value} (h : ItemsOf (fun i v => items[items.size - 1 - i]? = some v) acc items.size) : acc.toList = items.toList.reverse := by
  obtain ⟨h1, h2⟩ := h
  apply List.ext_getElem?
  intro j
  by_cases hj : j < items.size
  · have e := h2 j (acc[j]'(by omega)) (Array.getElem?_eq_getElem (by omega))
    rw [List.getElem?_reverse (by simpa using hj), Array.getElem?_toList, Array.getElem?_toList, Array.length_toList, e]
    exact Array.getElem?_eq_getElem (by omega)
  · rw [List.getElem?_eq_none (by rw [Array.length_toList]; omega), List.getElem?_eq_none (by rw [List.length_reverse, Array.length_toList]; omega)]
section
variable {prog : Program} {w : World} {A : Around} {E : Value → Shared → Prop} {s : Shared}
theorem collect_rev {I l : Addr} {items : Array Value} {Q : List Value → Shared → Prop} (hh : A.handled = none) (hne : l ≠ I) (st : s.heap.IsRevIter I l ((items.size : Int) - 1)) (hl : s.heap.IsList l items) (hn : items.size ≤ sizeLine)
    (hQ : ∀ s', Moved [I] (fun a b => b = a) s s' → Q items.toList.reverse s') : wpAny (model prog w) A (collect (.ref I)) Q E s := by
  have W := (Walks.listRev (prog := prog) (w := w) (A := A.in1) hh I l hne items).toS
  have hlt : ∀ b ∈ [I, l], b < s.heap.objs.size := fun b hb => by
    simp only [List.mem_cons, List.not_mem_nil, or_false] at hb
    rcases hb with rfl | rfl
    · obtain ⟨o, e, _⟩ := st; exact Heap.lt_size e
    · obtain ⟨o, e, _⟩ := hl; exact Heap.lt_size e
  have nf : s.heap.objs.size ∉ [I, l] := fun z => Nat.lt_irrefl _ (hlt _ z)
  have nI : s.heap.objs.size ≠ I := fun z => nf (by rw [z]; simp)
  have st0 : (0 ≤ items.size ∧ s.heap.IsRevIter I l ((items.size : Int) - 1 - ((0 : Nat) : Int)) ∧ s.heap.IsList l items) := ⟨Nat.zero_le _, by rw [show ((0 : Nat) : Int) = 0 from rfl, Int.sub_zero]; exact st, hl⟩
  unfold collect
  refine wpAny_bind (wpAny_runValue (codeAny_builtin F.entry_proto_collect ?_))
  rw [Around.under_plainId F.plain_proto_collect _]
  refine (show wpAny _ A.in1 (newList [] >>= fun z => again (.builtin "list.__iadd__" ⟨[z, .ref I], []⟩)) _ _ s from wpAny_bind (wpAny_newObj_type (wpAny_pure ⟨plainId_quiet F.plain_list_iadd _, codeAny_builtin F.entry_list_iadd ?_⟩)))
  rw [Around.under_plainId F.plain_list_iadd _]
  have st1 := W.frame 0 s (s.heap.push { cls := .type "list", data := .seq ([] : List Value).toArray }) s.toks st0 (Nat.le_refl _) fun b _ o e => Heap.get?_push_of_some _ e
  have new1 : (s.heap.push { cls := .type "list", data := .seq ([] : List Value).toArray }).get? s.heap.objs.size = some { cls := .type "list", data := .seq ([] : List Value).toArray } := Heap.get?_push_size _ rfl
  have apart : Builtin.List.listSameRef (.ref s.heap.objs.size) (.ref I) = false := by simp [Builtin.List.listSameRef, nI]
  have ty : ({ s with heap := s.heap.push { cls := .type "list", data := .seq ([] : List Value).toArray } } : Shared).TypeIs (.ref I) "list_reverseiterator" := st1.2.1.typeIs
  show wpAny _ A.in1 (Builtin.List.listExtendWith (.ref s.heap.objs.size) (.ref I) (.ref s.heap.objs.size)) _ _ _
  unfold Builtin.List.listExtendWith
  refine wpAny_bind (wpAny_typeOf ty ?_)
  rw [if_neg (by rw [apart]; decide)]
  refine wpAny_bind (W.self 0 _ _ _ st1 (wpAny_bind (wpAny_holding ?_)))
  unfold Builtin.List.listLengthHint
  refine wpAny_bind (wpAny_specialOf ty noLen_rev ?_)
  refine (show wpAny _ A.in1 (specialOf (Value.ref I) (Str.ofString "__length_hint__") >>= _) _ _ _ from wpAny_bind (wpAny_specialOf ty hint_rev ?_))
  generalize hid : ("list_reverseiterator.__length_hint__" : String) = id0
  (fail_if_success (clear hid id0)); wp_delta
  rw [show splitId id0 = some ("list_reverseiterator", "__length_hint__") from by subst hid; decide +kernel]
  subst hid
  refine wpAny_bind (wpAny_isInstance (b := true) ty (by rw [isSubtype_type]; kernel_rfl) (wpAny_pure ?_))
  rw [if_neg (by decide)]
  refine wpAny_pure ⟨plainId_quiet F.plain_extend_loop _, codeAny_extend_loopS W hn _ nf _ items.size 0 _ _ _ rfl (Nat.zero_le _) st1 new1 (ItemsOf.nil _) fun s' acc c' mv here got => ?_⟩
  refine (show wpAny _ A (load s.heap.objs.size >>= _) _ _ s' from wpAny_bind (wpAny_load here (wpAny_pure ?_)))
  have e := items_rev got
  show Q acc.toList s'
  rw [e]
  exact hQ s' (Moved.drop_new (o := { cls := .type "list", data := .seq ([] : List Value).toArray }) (tk := s.toks) mv (Nat.le_refl _))
end
section
open PySem.AutoSeq1 (wpAny_loadPart')
theorem tup_new_rev (I l : Addr) (items : Array Value) (hne : l ≠ I) (hn : items.size ≤ sizeLine) :
    Meets (Builtin.«tuple.__new__» ⟨[.type "tuple", .ref I], []⟩) (fun A R s => A.handled = none ∧ s.heap.IsRevIter I l ((items.size : Int) - 1) ∧ s.heap.IsList l items ∧
      ∀ s' : Shared, Moved [I] (fun a b => b = a) s s' → R (.ok (.ret (.ref s'.heap.objs.size))) { s' with heap := s'.heap.push { cls := .type "tuple", data := .seq items.reverse } }) :=
  .of_wp fun prog w A R s ⟨hh, g1, g2, g3⟩ => by
    obtain ⟨hp, ge, dr, tk, os⟩ := s
    have e1 := sub_tuple_self
    have e2 := init_tuple_lookup
    have e3 := madeHere_tuple
    have ty : Shared.TypeIs ⟨hp, ge, dr, tk, os⟩ (.ref I) "list_reverseiterator" := g1.typeIs
    wp_walk using wpAny_typeOf ty, collect_rev (A := A.in1) (show A.in1.handled = none from hh) hne g1 g2 hn
    intro s' mv
    refine (show wpAny _ _ (Builtin.Tuple.tupleExact items.toList.reverse.toArray >>= fun v => ret v) _ _ _ from ?_)
    unfold Builtin.Tuple.tupleExact
    have e4 : items.toList.reverse.toArray = items.reverse := by apply Array.toList_inj.mp; rw [Array.toList_reverse]
    rw [e4]
    exact wpAny_bind (wpAny_newObj_type (wpAny_pure ⟨_, rfl, g3 s' mv⟩) (by show items.reverse.size ≤ sizeLine; simpa using hn))
end
section
variable {prog : Program} {w : World} {A : Around} {E : Value → Shared → Prop} {s : Shared}
theorem call_tup_rev {I l : Addr} {items : Array Value} {Q : Value → Shared → Prop} (hh : A.handled = none) (hne : l ≠ I) (st : s.heap.IsRevIter I l ((items.size : Int) - 1)) (hl : s.heap.IsList l items) (hn : items.size ≤ sizeLine)
    (hQ : ∀ s' : Shared, Moved [I] (fun a b => b = a) s s' → Q (.ref s'.heap.objs.size) { s' with heap := s'.heap.push { cls := .type "tuple", data := .seq items.reverse } }) : wpAny (model prog w) A (call (.type "tuple") [.ref I]) Q E s :=
  callType_new F.called_tuple (by decide) (F.typeCall_tuple_1 _) (F.newCall_tuple_1 _) (fun ob => F.args_object_init_2 ob _) F.entry_tuple_new (tup_new_rev I l items hne hn) ⟨hh, st, hl, fun s' mv => ⟨⟨_, Heap.get?_push_size _ rfl, rfl⟩, hQ s' mv⟩⟩
end
theorem boot_reversed : bootBuiltins "reversed" = some (.type "reversed") := by decide +kernel
theorem boot_tuple : bootBuiltins "tuple" = some (.type "tuple") := by decide +kernel
def tTupRev (K : PySem.W.Frag) (te : TE) : TE := fun σ H Q => te σ H fun x H1 => ∃ a xs, x = .ref a ∧ SqL K H1 a xs ∧ ∀ p, H1 p = none → Q (.ref p) (upd H1 p (.tup xs.reverse))
theorem shared_moved {s s' : Shared} {wr : List Addr} (m : Moved wr (fun a b => b = a) s s') : s' = { s with heap := s'.heap, toks := s'.toks } := by
  have h1 := m.gens
  have h2 := m.drawn
  have h3 := m.os
  cases s'
  simp only at h1 h2 h3
  subst h1 h2 h3
  rfl
section
variable {X : Cx} {e : Expr} {te : TE} {p1 p2 pos1 pos2 : Pos}
/-- reversed(xs), told as an iterator just made -/
theorem rev_made (hc : X.calm = true) (hg2 : Gl X "reversed") (hm2 : X.mg "reversed" = none) (he : PE X e te) (hs2 : starEach [e] X.env = [(false, eval e X.env)]) {pins : List (Addr × Obj)} {s : Shared} {σ : St} {H : Hp} {R : Addr → List V → Hp → Prop} {Q : Value → Shared → Prop} (I : Inv X pins σ H s)
    (h : te σ H fun x H1 => ∃ a xs, x = .ref a ∧ SqL X.K H1 a xs ∧ R a xs H1)
    (k : ∀ a xs H1 s1 its, Inv X pins σ H1 s1 → SqL X.K H1 a xs → Vals xs its → s1.heap.IsList a its.toArray → xs.length ≤ sizeLine → R a xs H1 → Q (.ref s1.heap.objs.size) { s1 with heap := s1.heap.push (revObj a ((its.toArray.size : Int) - 1)) }) :
    wpAny (model X.prog X.w) X.A (eval (.Call (.Name "reversed" p2) [e] [] pos2) X.env) Q X.xe s := by
  refine wpAny_Call_Name_kw (ld_blt I hg2 hm2 boot_reversed ?_ (by decide) (by decide))
  refine PyProof.Rows.callWith_type1 (T := "reversed") ?_ hs2 rfl
  rw [hs2]
  refine (show wpAny _ _ (spliced ((false, eval e X.env) :: [])) _ _ s from Calls.spliced_cons (thn (he pins s σ H _ I h) fun v s1 ⟨x, H1, I1, r1, a, xs, e1, hx, q⟩ => Calls.spliced_nil ?_))
  subst e1
  cases r1
  obtain ⟨its, rv, pl, hz⟩ := I1.list hx
  exact call_reversed_list pl.isList (k a xs H1 s1 its I1 hx rv pl.isList hz q)
theorem pe_tupRev (hc : X.calm = true) (hg1 : Gl X "tuple") (hm1 : X.mg "tuple" = none) (hg2 : Gl X "reversed") (hm2 : X.mg "reversed" = none) (he : PE X e te) (hs2 : starEach [e] X.env = [(false, eval e X.env)] := by rfl)
    (hs1 : starEach [.Call (.Name "reversed" p2) [e] [] pos2] X.env = [(false, eval (.Call (.Name "reversed" p2) [e] [] pos2) X.env)] := by rfl) : PE X (.Call (.Name "tuple" p1) [.Call (.Name "reversed" p2) [e] [] pos2] [] pos1) (tTupRev X.K te) := by
  intro pins s σ H Q I h
  refine wpAny_Call_Name_kw (ld_blt I hg1 hm1 boot_tuple ?_ (by decide) (by decide))
  refine PyProof.Rows.callWith_type1 (T := "tuple") ?_ hs1 rfl
  rw [hs1]
  refine (show wpAny _ _ (spliced ((false, eval (.Call (.Name "reversed" p2) [e] [] pos2) X.env) :: [])) _ _ s from Calls.spliced_cons (rev_made hc hg2 hm2 he hs2 I h fun a xs H1 s1 its I1 hx rv pl hz q => Calls.spliced_nil ?_))
  have la : a < s1.heap.objs.size := by obtain ⟨o, e, _⟩ := pl; exact Heap.lt_size e
  have hlen := rv.length
  refine call_tup_rev (I := s1.heap.objs.size) (l := a) (items := its.toArray) (I1.ok.hd hc) (Nat.ne_of_lt la) ⟨_, Heap.get?_push_size _ rfl, rfl, rfl⟩ (pl.at fun o z => Heap.get?_push_of_some _ z) (by rw [List.size_toArray, ← hlen]; exact hz) fun s' mv => ?_
  have e' := shared_moved mv
  have kp : ∀ b o, s1.heap.get? b = some o → s'.heap.get? b = some o := fun b o z => mv.heap b o (by simp; exact Nat.ne_of_lt (Heap.lt_size z)) (Heap.get?_push_of_some _ z)
  have I2 : Inv X pins σ H1 { s1 with heap := s'.heap, toks := s'.toks } := I1.kept (t' := s'.toks) kp
  have I3 : Inv X pins σ (upd H1 s'.heap.objs.size (.tup xs.reverse)) { s1 with heap := s'.heap.push { cls := .type "tuple", data := .seq its.toArray.reverse }, toks := s'.toks } :=
    I2.laid (t' := s'.toks) (fun b o z => Heap.get?_push_of_some _ z) (Nat.le_refl _) ⟨by rw [List.length_reverse]; exact hz, its.reverse, Vals.reverse rv, by
      have e9 : its.toArray.reverse = its.reverse.toArray := by apply Array.toList_inj.mp; simp
      rw [e9]
      exact IsTup.new _ _⟩
  rw [e']
  exact ⟨.ref s'.heap.objs.size, _, I3, rfl, q _ (I2.hok.fresh (Nat.le_refl _))⟩
end
end L2

set_option Elab.async false
set_option linter.all false
set_option maxRecDepth 100000
set_option maxHeartbeats 4000000
/-! writings -/
namespace L2
open PySem PySem.Spec PyProof.Rows
inductive Wr where
  | nothing
  | bead (c : Str)
  | side (b : Bool) (f : Wr)
  | pair (f g : Wr)
  | many (k : Nat) (ps : List Wr)
def mname : Nat → Str
  | 0 => "row"
  | 1 => "bag"
  | 2 => "choice"
  | _ => "ring"
def sname : Bool → Str
  | true => "right"
  | false => "left"
def Wr.name : Wr → Str
  | .nothing => "nothing"
  | .bead _ => "bead"
  | .side b _ => sname b
  | .pair _ _ => "pair"
  | .many k _ => mname k
def Wr.parts : Wr → List Wr
  | .nothing => []
  | .bead _ => []
  | .side _ f => [f]
  | .pair f g => [f, g]
  | .many _ ps => ps
mutual
/-- how many tuples that are writings -/
def Wr.tups : Wr → Nat
  | .nothing => 1
  | .bead _ => 1
  | .side _ f => 1 + f.tups
  | .pair f g => 1 + (f.tups + (g.tups + 0))
  | .many _ ps => 1 + tupsL ps
def tupsL : List Wr → Nat
  | [] => 0
  | w :: ws => w.tups + tupsL ws
end
mutual
/-- how many within one another -/
def Wr.dep : Wr → Nat
  | .nothing => 1
  | .bead _ => 1
  | .side _ f => 1 + f.dep
  | .pair f g => 1 + max f.dep g.dep
  | .many _ ps => 1 + depL ps
def depL : List Wr → Nat
  | [] => 0
  | w :: ws => max w.dep (depL ws)
end
mutual
/-- colours as they may be -/
def Wr.ok : Wr → Bool
  | .nothing => true
  | .bead c => PyData.strOk c
  | .side _ f => f.ok
  | .pair f g => f.ok && g.ok
  | .many _ ps => okL ps
def okL : List Wr → Bool
  | [] => true
  | w :: ws => w.ok && okL ws
end
theorem Wr.tups_pos : ∀ w : Wr, 1 ≤ w.tups
  | .nothing => by simp [Wr.tups]
  | .bead _ => by simp [Wr.tups]
  | .side _ f => by simp [Wr.tups]
  | .pair f g => by simp [Wr.tups]
  | .many _ ps => by simp [Wr.tups]
theorem Wr.dep_pos : ∀ w : Wr, 1 ≤ w.dep
  | .nothing => by simp [Wr.dep]
  | .bead _ => by simp [Wr.dep]
  | .side _ f => by simp [Wr.dep]
  | .pair f g => by simp [Wr.dep]
  | .many _ ps => by simp [Wr.dep]
mutual
theorem Wr.dep_le : ∀ w : Wr, w.dep ≤ w.tups
  | .nothing => Nat.le_refl _
  | .bead _ => Nat.le_refl _
  | .side _ f => by have := f.dep_le; simp only [Wr.dep, Wr.tups]; omega
  | .pair f g => by have := f.dep_le; have := g.dep_le; simp only [Wr.dep, Wr.tups]; omega
  | .many _ ps => by have := depL_le ps; simp only [Wr.dep, Wr.tups]; omega
theorem depL_le : ∀ ws : List Wr, depL ws ≤ tupsL ws
  | [] => Nat.le_refl _
  | w :: ws => by have := w.dep_le; have := depL_le ws; simp only [depL, tupsL]; omega
end
theorem depL_mem : ∀ {ws : List Wr} {w : Wr}, w ∈ ws → w.dep ≤ depL ws
  | v :: ws, w, h => by
    simp only [depL]
    rcases List.mem_cons.mp h with rfl | h
    · omega
    · have := depL_mem h; omega
theorem okL_mem : ∀ {ws : List Wr} {w : Wr}, okL ws = true → w ∈ ws → w.ok = true
  | v :: ws, w, h0, h => by
    simp only [okL, Bool.and_eq_true] at h0
    rcases List.mem_cons.mp h with rfl | h
    · exact h0.1
    · exact okL_mem h0.2 h
theorem tupsL_mem : ∀ {ws : List Wr} {w : Wr}, w ∈ ws → w.tups ≤ tupsL ws
  | v :: ws, w, h => by
    simp only [tupsL]
    rcases List.mem_cons.mp h with rfl | h
    · omega
    · have := tupsL_mem h; omega
theorem tupsL_app : ∀ (ws us : List Wr), tupsL (ws ++ us) = tupsL ws + tupsL us
  | [], us => by simp [tupsL]
  | w :: ws, us => by simp only [List.cons_append, tupsL, tupsL_app ws us]; omega
theorem okL_app : ∀ (ws us : List Wr), okL (ws ++ us) = (okL ws && okL us)
  | [], us => by simp [okL]
  | w :: ws, us => by simp only [List.cons_append, okL, okL_app ws us, Bool.and_assoc]
theorem Wr.parts_dep (w : Wr) : depL w.parts + 1 ≤ w.dep := by
  cases w with
  | nothing => simp [Wr.parts, depL, Wr.dep]
  | bead c => simp [Wr.parts, depL, Wr.dep]
  | side b f => simp [Wr.parts, depL, Wr.dep]; omega
  | pair f g => simp [Wr.parts, depL, Wr.dep]; omega
  | many k ps => simp [Wr.parts, Wr.dep]; omega
theorem Wr.parts_tups (w : Wr) : tupsL w.parts + 1 ≤ w.tups := by
  cases w with
  | nothing => simp [Wr.parts, tupsL, Wr.tups]
  | bead c => simp [Wr.parts, tupsL, Wr.tups]
  | side b f => simp [Wr.parts, tupsL, Wr.tups]; omega
  | pair f g => simp [Wr.parts, tupsL, Wr.tups]; omega
  | many k ps => simp [Wr.parts, Wr.tups]; omega
mutual
/-- a writing at a value -/
inductive RepW (K : PySem.W.Frag) (H : Hp) : Wr → V → Prop
  | nothing {a : Addr} : SqT K H a [.str "nothing"] → RepW K H .nothing (.ref a)
  | bead {a : Addr} {c : Str} : SqT K H a [.str "bead", .str c] → RepW K H (.bead c) (.ref a)
  | side {a : Addr} {b : Bool} {f : Wr} {v : V} : SqT K H a [.str (sname b), v] → RepW K H f v → RepW K H (.side b f) (.ref a)
  | pair {a : Addr} {f g : Wr} {v u : V} : SqT K H a [.str "pair", v, u] → RepW K H f v → RepW K H g u → RepW K H (.pair f g) (.ref a)
  | many {a p : Addr} {k : Nat} {ps : List Wr} {vs : List V} : SqT K H a [.str (mname k), .ref p] → SqT K H p vs → RepsW K H ps vs → RepW K H (.many k ps) (.ref a)
inductive RepsW (K : PySem.W.Frag) (H : Hp) : List Wr → List V → Prop
  | nil : RepsW K H [] []
  | cons {w : Wr} {v : V} {ws : List Wr} {vs : List V} : RepW K H w v → RepsW K H ws vs → RepsW K H (w :: ws) (v :: vs)
end
/-- the tuples stay -/
def SameT (K : PySem.W.Frag) (H H' : Hp) : Prop := ∀ a xs, SqT K H a xs → SqT K H' a xs
theorem SameT.refl {K : PySem.W.Frag} (H : Hp) : SameT K H H := fun _ _ h => h
theorem SameT.trans {K : PySem.W.Frag} {H H1 H2 : Hp} (h : SameT K H H1) (k : SameT K H1 H2) : SameT K H H2 := fun a xs q => k a xs (h a xs q)
theorem Same.tups {K : PySem.W.Frag} {H H' : Hp} (e : Same H H') : SameT K H H' := fun _ _ h => e.sq h
theorem SameT.lst {K : PySem.W.Frag} {H : Hp} {l : Addr} {ys zs : List V} (h : H l = some (.lst ys)) : SameT K H (upd H l (.lst zs)) := fun a xs q => by
  rcases q with (q | ⟨o, q⟩) | q
  · refine .inl (.inl ?_)
    rw [upd_ne (ne_of q h (by intro z; cases z))]; exact q
  · refine .inl (.inr ⟨o, ?_⟩)
    rw [upd_ne (ne_of q h (by intro z; cases z))]; exact q
  · exact .inr q
section
variable {K : PySem.W.Frag} {H H' : Hp}
mutual
theorem RepW.same (e : SameT K H H') : ∀ {w : Wr} {v : V}, RepW K H w v → RepW K H' w v
  | _, _, .nothing h => .nothing (e _ _ h)
  | _, _, .bead h => .bead (e _ _ h)
  | _, _, .side h r => .side (e _ _ h) (RepW.same e r)
  | _, _, .pair h r r' => .pair (e _ _ h) (RepW.same e r) (RepW.same e r')
  | _, _, .many h h' r => .many (e _ _ h) (e _ _ h') (RepsW.same e r)
theorem RepsW.same (e : SameT K H H') : ∀ {ws : List Wr} {vs : List V}, RepsW K H ws vs → RepsW K H' ws vs
  | _, _, .nil => .nil
  | _, _, .cons h r => .cons (RepW.same e h) (RepsW.same e r)
end
theorem RepsW.length : ∀ {ws : List Wr} {vs : List V}, RepsW K H ws vs → ws.length = vs.length
  | _, _, .nil => rfl
  | _, _, .cons _ r => by rw [List.length_cons, List.length_cons, r.length]
theorem RepsW.app : ∀ {ws us : List Wr} {vs xs : List V}, RepsW K H ws vs → RepsW K H us xs → RepsW K H (ws ++ us) (vs ++ xs)
  | _, _, _, _, .nil, s => s
  | _, _, _, _, .cons h r, s => .cons h (RepsW.app r s)
theorem RepsW.one {w : Wr} {v : V} (h : RepW K H w v) : RepsW K H [w] [v] := .cons h .nil
theorem RepsW.get : ∀ {ws : List Wr} {vs : List V} {i : Nat} {v : V}, RepsW K H ws vs → vs[i]? = some v → ∃ w, ws[i]? = some w ∧ RepW K H w v
  | _, _, _, _, .nil, e => by simp at e
  | _, _, 0, _, .cons h _, e => by simp at e; subst e; exact ⟨_, rfl, h⟩
  | _, _, i + 1, _, .cons _ r, e => by simp at e; simpa using RepsW.get r e
theorem RepsW.rev {ws : List Wr} {vs : List V} (h : RepsW K H ws vs) : RepsW K H ws.reverse vs.reverse := by
  induction ws generalizing vs with
  | nil => cases h; exact .nil
  | cons w ws ih =>
    cases h with
    | cons h r => rw [List.reverse_cons, List.reverse_cons]; exact (ih r).app (.one h)
theorem RepsW.dropLast {ws : List Wr} {vs : List V} (h : RepsW K H ws vs) : RepsW K H ws.dropLast vs.dropLast := by
  induction ws generalizing vs with
  | nil => cases h; exact .nil
  | cons w ws ih =>
    cases h with
    | cons h r =>
      cases r with
      | nil => exact .nil
      | cons h2 r2 => exact .cons h (ih (.cons h2 r2))
theorem RepsW.mem : ∀ {ws : List Wr} {vs : List V} {v : V}, RepsW K H ws vs → v ∈ vs → ∃ w, w ∈ ws ∧ RepW K H w v
  | _, _, _, .cons h r, m => by
    rcases List.mem_cons.mp m with rfl | m
    · exact ⟨_, List.mem_cons_self .., h⟩
    · obtain ⟨w, hw, rw⟩ := RepsW.mem r m
      exact ⟨w, List.mem_cons_of_mem _ hw, rw⟩
end
mutual
def Wr.toD : Wr → PyData
  | .nothing => .tuple [.str "nothing"]
  | .bead c => .tuple [.str "bead", .str c]
  | .side b f => .tuple [.str (sname b), f.toD]
  | .pair f g => .tuple [.str "pair", f.toD, g.toD]
  | .many k ps => .tuple [.str (mname k), .tuple (toDL ps)]
def toDL : List Wr → List PyData
  | [] => []
  | w :: ws => w.toD :: toDL ws
end
section
variable {K : PySem.W.Frag} {H : Hp}
mutual
theorem RepW.rep : ∀ {w : Wr} {v : V}, RepW K H w v → Rep K H w.toD v
  | _, _, .nothing h => .tup h (.cons (.str _) .nil)
  | _, _, .bead h => .tup h (.cons (.str _) (.cons (.str _) .nil))
  | _, _, .side h r => .tup h (.cons (.str _) (.cons (RepW.rep r) .nil))
  | _, _, .pair h r r' => .tup h (.cons (.str _) (.cons (RepW.rep r) (.cons (RepW.rep r') .nil)))
  | _, _, .many h h' r => .tup h (.cons (.str _) (.cons (.tup h' (RepsW.reps r)) .nil))
theorem RepsW.reps : ∀ {ws : List Wr} {vs : List V}, RepsW K H ws vs → Reps K H (toDL ws) vs
  | _, _, .nil => .nil
  | _, _, .cons h r => .cons (RepW.rep h) (RepsW.reps r)
end
end
theorem ok_sname (b : Bool) : PyData.strOk (sname b) = true := by cases b <;> decide +kernel
theorem ok_mname : ∀ k, PyData.strOk (mname k) = true
  | 0 => by decide +kernel
  | 1 => by decide +kernel
  | 2 => by decide +kernel
  | k + 3 => by show PyData.strOk "ring" = true; decide +kernel
mutual
theorem Wr.can : ∀ w : Wr, w.ok = true → w.toD.canLay0 = true
  | .nothing, _ => by simp only [Wr.toD, PyData.canLay0, PyData.canLayAll0]; decide +kernel
  | .bead c, h => by simp only [Wr.toD, PyData.canLay0, PyData.canLayAll0, Bool.and_true]; simp only [Wr.ok] at h; rw [h]; decide +kernel
  | .side b f, h => by
    simp only [Wr.ok] at h
    simp only [Wr.toD, PyData.canLay0, PyData.canLayAll0, Bool.and_true, ok_sname, f.can h]
  | .pair f g, h => by
    simp only [Wr.ok, Bool.and_eq_true] at h
    simp only [Wr.toD, PyData.canLay0, PyData.canLayAll0, Bool.and_true, f.can h.1, g.can h.2]
    decide +kernel
  | .many k ps, h => by
    simp only [Wr.ok] at h
    simp only [Wr.toD, PyData.canLay0, PyData.canLayAll0, Bool.and_true, ok_mname, canL ps h]
theorem canL : ∀ ws : List Wr, okL ws = true → PyData.canLayAll0 (toDL ws) = true
  | [], _ => by simp only [toDL, PyData.canLayAll0]
  | w :: ws, h => by
    simp only [okL, Bool.and_eq_true] at h
    simp only [toDL, PyData.canLayAll0, w.can h.1, canL ws h.2, Bool.and_true]
end
mutual
theorem Wr.deep : ∀ w : Wr, w.toD.depth ≤ 2 * w.dep
  | .nothing => by simp [Wr.toD, PyData.depth, PyData.depthAll, Wr.dep]
  | .bead c => by simp [Wr.toD, PyData.depth, PyData.depthAll, Wr.dep]
  | .side b f => by have := f.deep; simp only [Wr.toD, PyData.depth, PyData.depthAll, Wr.dep]; omega
  | .pair f g => by have := f.deep; have := g.deep; simp only [Wr.toD, PyData.depth, PyData.depthAll, Wr.dep]; omega
  | .many k ps => by have := deepL ps; simp only [Wr.toD, PyData.depth, PyData.depthAll, Wr.dep]; omega
theorem deepL : ∀ ws : List Wr, PyData.depthAll (toDL ws) ≤ 2 * depL ws
  | [] => by simp [toDL, PyData.depthAll, depL]
  | w :: ws => by have := w.deep; have := deepL ws; simp only [toDL, PyData.depthAll, depL]; omega
end
/-- all but what is at l stays -/
def SameX (l : Addr) (H H' : Hp) : Prop := ∀ b o, b ≠ l → H b = some o → H' b = some o
theorem SameX.refl (l : Addr) (H : Hp) : SameX l H H := fun _ _ _ h => h
theorem SameX.trans {l : Addr} {H H1 H2 : Hp} (h : SameX l H H1) (k : SameX l H1 H2) : SameX l H H2 := fun b o n q => k b o n (h b o n q)
theorem Same.x {l : Addr} {H H' : Hp} (h : Same H H') : SameX l H H' := fun b o _ q => h b o q
theorem SameX.upd {l : Addr} {H H' : Hp} {o : HO} (h : SameX l H H') : SameX l H (upd H' l o) := fun b u n q => by rw [upd_ne n]; exact h b u n q
theorem SameX.new {l p : Addr} {H H' : Hp} {o : HO} (h : SameX l H H') (hp : H' p = none) : SameX l H (L2.upd H' p o) := fun b u n q => by
  have := h b u n q
  rw [upd_ne (ne_of_none this hp)]; exact this
theorem SameX.tups {K : PySem.W.Frag} {l : Addr} {H H' : Hp} {ys : List V} (h : SameX l H H') (hl : H l = some (.lst ys)) : SameT K H H' := fun a xs q => by
  rcases q with (q | ⟨o, q⟩) | q
  · exact .inl (.inl (h _ _ (ne_of q hl (by intro z; cases z)) q))
  · exact .inl (.inr ⟨o, h _ _ (ne_of q hl (by intro z; cases z)) q⟩)
  · exact .inr q
/-- where l was not there ahead, all stays -/
theorem SameX.same {l : Addr} {H H' : Hp} (h : SameX l H H') (hl : H l = none) : Same H H' := fun b o q => h b o (ne_of_none q hl) q
/-! a loop over numbers and items, two names given -/
def tn (ps : List Wr) (i : Nat) : Int := ((ps.map Wr.tups).getD i 0 : Nat)
/-- which names are those of many parts -/
theorem in_many (w : Wr) : inV (.str w.name) [V.str "row", V.str "bag", V.str "choice", V.str "ring"] = match w with | .many _ _ => true | _ => false := by
  cases w with
  | nothing => decide +kernel
  | bead c => show inV (.str "bead") _ = false; decide +kernel
  | side b f =>
    cases b
    · show inV (.str "left") _ = false; decide +kernel
    · show inV (.str "right") _ = false; decide +kernel
  | pair f g => show inV (.str "pair") _ = false; decide +kernel
  | many k ps =>
    match k with
    | 0 => show inV (.str "row") _ = true; decide +kernel
    | 1 => show inV (.str "bag") _ = true; decide +kernel
    | 2 => show inV (.str "choice") _ = true; decide +kernel
    | k + 3 => show inV (.str "ring") _ = true; decide +kernel
theorem nb_side (b : Bool) : ¬ (decide (sname b = Str.ofString "bead") = true) := by
  cases b
  · show ¬ (decide ((Str.ofString "left") = (Str.ofString "bead")) = true); decide +kernel
  · show ¬ (decide ((Str.ofString "right") = (Str.ofString "bead")) = true); decide +kernel
theorem nb_many : ∀ k, ¬ (decide (mname k = Str.ofString "bead") = true)
  | 0 => by show ¬ (decide ((Str.ofString "row") = (Str.ofString "bead")) = true); decide +kernel
  | 1 => by show ¬ (decide ((Str.ofString "bag") = (Str.ofString "bead")) = true); decide +kernel
  | 2 => by show ¬ (decide ((Str.ofString "choice") = (Str.ofString "bead")) = true); decide +kernel
  | k + 3 => by show ¬ (decide ((Str.ofString "ring") = (Str.ofString "bead")) = true); decide +kernel
theorem nb_pair : ¬ (decide (Str.ofString "pair" = Str.ofString "bead") = true) := by decide +kernel
theorem nb_nothing : ¬ (decide (Str.ofString "nothing" = Str.ofString "bead") = true) := by decide +kernel
/-- a method within a comprehension -/
theorem k_bm0 {X : Cx} {o : Expr} {to : TE} {name : Str} {apos cpos : Pos} {T id : String} {r : V → List V → Hp → VK → Prop} (K : PySem.W.Frag) (hK : X.K = K) (pa : PlainAttrs T) (slot : Slot T name id) (hty : typeOf (.builtin id) = pure (.type "method_descriptor")) (hm : MtR X id r) (ho : PE X o to)
    (hbase : attributeBase o name X.env (eval o X.env) = eval o X.env := by rfl) (hline : (apos.endLine == cpos.line) = true := by rfl) : PE X (.Call (.Attribute o name apos) [] [] cpos) (tBM0 K T r to) := hK ▸ pe_bm0 pa slot hty hm ho hbase hline
theorem len_tups : ∀ us : List Wr, us.length ≤ tupsL us
  | [] => Nat.le_refl _
  | u :: us => by have := u.tups_pos; have := len_tups us; simp only [List.length_cons, tupsL]; omega
/-! loops over a tuple, over a list of pairs -/
/-! the part at a path -/
def Wr.step (w : Wr) (j : Int) : Option Wr := if 0 ≤ j then w.parts[j.toNat]? else none
def atP : List Int → Wr → Option Wr
  | [], w => some w
  | j :: js, w => (w.step j).bind (atP js)
/-- pairs of a path and the part there -/
def ItsP (K : PySem.W.Frag) (H : Hp) (W : Wr) (xs : List V) : Prop :=
  ∀ x ∈ xs, ∃ (t p : Addr) (u : V) (ks : List Int) (w : Wr), x = .ref t ∧ SqT K H t [.ref p, u] ∧ SqT K H p (ks.map V.int) ∧ atP ks W = some w ∧ RepW K H w u
theorem ItsP.same {K : PySem.W.Frag} {H H' : Hp} {W : Wr} {xs : List V} (e : SameT K H H') (h : ItsP K H W xs) : ItsP K H' W xs := fun x m => by
  obtain ⟨t, p, u, ks, w, h1, h2, h3, h4, h5⟩ := h x m
  exact ⟨t, p, u, ks, w, h1, e _ _ h2, e _ _ h3, h4, h5.same e⟩
theorem ItsP.app {K : PySem.W.Frag} {H : Hp} {W : Wr} {xs ys : List V} (h : ItsP K H W xs) (k : ItsP K H W ys) : ItsP K H W (xs ++ ys) := fun x m => by
  rcases List.mem_append.mp m with m | m
  · exact h x m
  · exact k x m
theorem tupsL_take_le (ws : List Wr) (i : Nat) : tupsL (ws.take i) ≤ tupsL ws := by
  have := tupsL_app (ws.take i) (ws.drop i)
  rw [List.take_append_drop] at this
  omega
end L2

set_option Elab.async false
set_option linter.all false
set_option maxRecDepth 100000
set_option maxHeartbeats 4000000
/-! what a fold without recursion wants: a function held in a name, xs.extend(tuple), a loop over reversed(xs), xs[i:] = ys -/
namespace L2
open PySem PySem.Spec PyProof.Rows
/-! a function held in a name -/
def tCallV (f : Addr) (sp : Sp) (dvs : List V) (E : XK) (tf : TE) (t : TA) : TE := fun σ H Q => tf σ H fun y H0 => y = .ref f ∧ t σ H0 fun vs H1 => sp (vs ++ dvs) H1 Q E
section
variable {X : Cx} {CX : CXT} {k : Nat} {f : Addr} {fd : FuncData} {ps : List Str} {sp : Sp} {x : Str} {ds : List Value} {dvs : List V} {E : XK} {e : Expr} {es : List Expr} {t : TA} {p pos : Pos} {tf : TE}
theorem pe_callV (F : FnOk X.prog X.w X.K X.mg X.base CX k f fd ps sp) (hr : Room k X.A) (hv : PE X (.Name x p) tf) (hk : PySem.W.keepIn X.K (.ref f) = true) (hb : Binds X.K fd ps ds) (hd : Vals dvs ds) (hx : Passes CX X E) (ha : PA X (e :: es) t)
    (he : starEach (e :: es) X.env = (false, eval e X.env) :: starEach es X.env := by rfl) (hpl : (backTo pos (starEach es X.env)).any (·.1) = false := by rfl) : PE X (.Call (.Name x p) (e :: es) [] pos) (tCallV f sp dvs E tf t) := by
  intro pins s σ H Q I h
  refine wpAny_Call_Name_kw (thn (hv pins s σ H _ I h) fun u s0 ⟨y, H0, I0, r0, e0, q0⟩ => ?_)
  subst e0
  cases r0
  exact PySem.W.callWith_K (h₀ := X.base) I.ok.mod.kin hk (thn (ha pos pins s0 σ H0 _ I0 q0) fun us s1 ⟨vs, H1, I1, r, q⟩ => ⟨I1.kIn, run_fn F hr hb hd hx I1 r q⟩) he hpl
end
/-! xs.extend(t) -/
section
open PySem.AutoSeq1 (wpAny_loadPart')
theorem extend_tup (l : Addr) (items : Array Value) (n : Nat) (t : Addr) (more : Array Value) (m : Nat) (dd : Option Addr) (sl : Array (Option Value)) (h1 : ¬ (!items.isEmpty && Builtin.List.listTooLong (items.size + more.size)) = true) (h2 : items.size ≤ sizeLine) (h3 : (items ++ more).size ≤ sizeLine + 1) :
    Meets (Builtin.«list.extend» ⟨[.ref l, .ref t], []⟩) (fun _ R s => s.heap.get? l = some { cls := .type "list", data := .seq items n } ∧
      s.heap.get? t = some { cls := .type "tuple", dict := dd, data := .seq more m, slots := sl } ∧ R (.ok (.ret .none)) { s with heap := s.heap.update l (Obj.mapSeq fun x => x ++ more) }) :=
  .of_wp fun prog w A R s ⟨g1, g2, q⟩ => by
    obtain ⟨hp, ge, dr, tk, os⟩ := s
    have a1 := PySem.AutoSeq1.idx_int
    have a2 := PySem.AutoSeq1.sub_tuple_tuple
    have a3 := PySem.AutoSeq1.sub_list_list
    have a4 := PySem.AutoSeq1.sub_tuple_list
    have a5 := PySem.AutoSeq1.sub_list_tuple
    wp_walk using (wpAny_updateSeq g1 rfl (hz := h2) (_hz' := h3)), wpAny_loadPart' g1, wpAny_loadPart' g2
    exact ⟨_, rfl, q⟩
end
section
variable {X : Cx}
def rExtT (K : PySem.W.Frag) : V → List V → Hp → VK → Prop := fun x vs H Q => ∃ l b xs zs, x = .ref l ∧ vs = [.ref b] ∧ H l = some (.lst xs) ∧ SqT K H b zs ∧ xs.length + zs.length ≤ sizeLine ∧ Q .non (upd H l (.lst (xs ++ zs)))
theorem mt_extT : MtM X "list.extend" (rExtT X.K) := by
  intro pins s σ H x vs v us Q I rx rv h
  obtain ⟨l, b, xs, zs, rfl, rfl, hH, hB, hz, q⟩ := h
  cases rx
  obtain ⟨u, rfl, ru⟩ := rv.one
  cases ru
  obtain ⟨z, its, n, r, hl, e⟩ := I.lstM hH
  obtain ⟨its2, r2, ⟨⟨c, dd, dt, sl⟩, e2, k1, m, k2⟩, z2⟩ := I.tuple hB
  simp only at k1 k2
  subst k1 k2
  have hl2 := r2.length
  have hsz : its.toArray.size + its2.toArray.size ≤ sizeLine := by simp only [List.size_toArray]; omega
  refine call_meets F.slot_list_extend ⟨_, e, rfl⟩ F.entry_list_extend (F.args_list_extend_2 _ _) (extend_tup l its.toArray n b its2.toArray m dd sl (by rw [notLongL hsz, Bool.and_false]; decide) (by omega) (by rw [Array.size_append]; omega)) ⟨e, e2, ?_⟩
  refine ⟨.non, _, I.lset (its' := its ++ its2) (t' := s.toks) hH e (by simp) (r.append r2) ?_, rfl, q⟩
  simp only [List.length_append]
  omega
end
/-! for x in reversed(xs) -/
def Itv (K : PySem.W.Frag) (a : Addr) (n : Nat) : It :=
  ⟨fun i H => i < n ∧ ∃ xs x, SqL K H a xs ∧ xs[n - 1 - i]? = some x, fun i H x H' => H' = H ∧ ∀ xs, SqL K H a xs → xs[n - 1 - i]? = some x, fun i _ => i = n⟩
theorem turn_rev {P : Program} {w : World} {K : PySem.W.Frag} {tg : Expr} (a it : Addr) (n : Nat) : Turn P w K tg (Itv K a n) [it] it (fun i h => h.IsRevIter it a ((n : Int) - 1 - (i : Int))) := by
  refine ⟨by simp, fun i h st b hb => ?_, fun i h h' st k => st.at fun o e => k it (by simp) o e, ?_, ?_, fun _ _ _ _ _ st h => wpAny_pyIter_revIter st h⟩
  · obtain rfl : b = it := by simpa using hb
    obtain ⟨o, e1, _, d⟩ := st
    exact ⟨o, e1, fun v z => by rw [d] at z; cases z⟩
  · intro X e1 e2 e3 hc i pins s σ H E I hf st ⟨hi, xs, x, hq, hx⟩
    subst e1 e2 e3
    obtain ⟨its, rv, pl, hz⟩ := I.list hq
    obtain ⟨u, hu, ru⟩ := rv.get hx
    obtain ⟨f0, f1, _, f3, f4, f5⟩ := hf it (by simp)
    have st2 : s.heap.IsRevIter it a ((n - 1 - i : Nat) : Int) := by
      have : ((n - 1 - i : Nat) : Int) = (n : Int) - 1 - (i : Int) := by omega
      rw [this]; exact st
    refine wpAny_pyNext_rev_item st2 pl.isList (x := u) (by simpa using hu) fun h' st' sb => ?_
    have J1 : Inv X pins σ H { s with heap := h' } := I.turned (t' := s.toks) (fun b o hb z => (sb.2 b hb).trans z) f0 f1 f3 f4 f5
    have st3 : h'.IsRevIter it a ((n : Int) - 1 - ((i + 1 : Nat) : Int)) := by
      have : (n : Int) - 1 - ((i + 1 : Nat) : Int) = ((n - 1 - i : Nat) : Int) - 1 := by omega
      rw [this]; exact st'
    obtain ⟨o, z1, z2, z3⟩ := id st'
    refine ⟨u, rfl, go_of (s := { s with heap := h' }) z1 z2 z3 (by decide) ⟨x, H, J1, ru, ⟨rfl, fun ys hy => ?_⟩, st3, fun b hb => (hf b hb).1⟩⟩
    rw [I.list_inj hy hq]; exact hx
  · intro X e1 e2 e3 hc i pins s σ H E I hf st hi
    subst e1 e2 e3
    have hi : i = n := hi
    subst hi
    obtain ⟨f0, f1, _, f3, f4, f5⟩ := hf it (by simp)
    have st2 : s.heap.IsRevIter it a (-1) := by
      have : (-1 : Int) = (i : Int) - 1 - (i : Int) := by omega
      rw [this]; exact st
    exact wpAny_pyNext_rev_end (I.ok.hd hc) st2 fun h' eb => ⟨rfl, I.turned (t' := s.toks) (fun b o hb z => eb b o hb z) f0 f1 f3 f4 f5⟩
section
variable {X : Cx} {tg e : Expr} {te : TE} {p2 pos2 : Pos}
def jRev (K : PySem.W.Frag) (te : TE) : TI := fun σ H R => te σ H fun x H1 => ∃ a xs, x = .ref a ∧ SqL K H1 a xs ∧ R (Itv K a xs.length) H1
theorem pj_rev (hc : X.calm = true) (hg : Gl X "reversed") (hm : X.mg "reversed" = none) (he : PE X e te) (hs : starEach [e] X.env = [(false, eval e X.env)] := by rfl) : PI X tg (.Call (.Name "reversed" p2) [e] [] pos2) (jRev X.K te) := by
  intro pins s σ H R I h
  refine rev_made hc hg hm he hs I h fun a xs H1 s1 its I1 hx rv pl hz q => ?_
  have hlen : its.toArray.size = xs.length := by rw [List.size_toArray]; exact rv.length.symm
  have hit : (s1.heap.push (revObj a ((its.toArray.size : Int) - 1))).IsRevIter s1.heap.objs.size a ((its.toArray.size : Int) - 1) := ⟨_, Heap.get?_push_size _ rfl, rfl, rfl⟩
  refine wpAny_pyIter_revIter (s := { s1 with heap := s1.heap.push (revObj a ((its.toArray.size : Int) - 1)) }) hit ⟨_, [s1.heap.objs.size], _, _, H1, rfl, I1.kept (t' := s1.toks) fun b o z => Heap.get?_push_of_some _ z, turn_rev a s1.heap.objs.size xs.length, ?_, fun b hb => ?_, q⟩
  · show Heap.IsRevIter _ _ _ _
    rw [← hlen, show ((its.toArray.size : Nat) : Int) - 1 - ((0 : Nat) : Int) = (its.toArray.size : Int) - 1 from by omega]
    exact hit
  · obtain rfl : b = s1.heap.objs.size := by simpa using hb
    exact I1.fpOk (Nat.le_refl _) I1.fresh
end
end L2
namespace L2
open PySem PySem.Spec PyProof.Rows
/-! xs[i:] = ys -/
theorem tail_bounds {a n : Nat} (h : a ≤ n) : sliceBounds (some (a : Int)) none none n = ((a : Int), (n : Int), 1) := by
  have h1 : ¬ ((a : Int) < 0) := by omega
  have h2 : min (a : Int) (n : Int) = a := by omega
  simp [sliceBounds, h1, h2]
theorem tail_splice (its its2 : List Value) (a : Nat) (n : Nat) (h : its.length ≤ n) : its.toArray.extract 0 a ++ its2.toArray ++ its.toArray.extract n its.toArray.size = (its.take a ++ its2).toArray := by
  apply Array.toList_inj.mp
  simp
  omega
section
variable {prog : Program} {w : World} {A : Around} {E : Value → Shared → Prop} {s : Shared}
theorem set_tail_run {l b sl : Addr} {items new : Array Value} {n n2 : Nat} {vl : Value} {a : Nat} {Q : Unit → Shared → Prop} (g1 : s.heap.get? l = some { cls := .type "list", data := .seq items n }) (g2 : s.heap.get? b = some { cls := .type "list", data := .seq new n2 }) (hne : l ≠ b)
    (hs : s.heap.IsSliceOf sl vl .none .none) (pl : IsPart vl (some (a : Int))) (ha : a ≤ items.size) (hz : items.size + new.size ≤ sizeLine)
    (h : Q () { s with heap := s.heap.update l (Obj.mapSeq fun xs => xs.extract 0 a ++ new ++ xs.extract items.size xs.size) }) : wpAny (model prog w) A (setItem (.ref l) (.ref sl) (.ref b)) Q E s := by
  have k1 : s.heap.IsList l items := PySem.IsL.isList g1
  have k2 : s.heap.IsList b new := PySem.IsL.isList g2
  obtain ⟨o, k3, k4, k5⟩ := id hs
  have ts : s.TypeIs (.ref sl) "slice" := ⟨o, k3, k4⟩
  have st : ¬ ((rawPart none == rawInt 0) = true) := by decide
  have df : Builtin.List.listSameRef (.ref l) (.ref b) = false := beq_eq_false_iff_ne.mpr hne
  have mx : (max (a : Int) (items.size : Int)).toNat = items.size := by omega
  have z2 : ((fun xs : Array Value => xs.extract 0 a ++ new ++ xs.extract items.size xs.size) items).size ≤ sizeLine + 1 := by
    simp only [Array.size_append, Array.size_extract]
    omega
  unfold setItem
  try with_reducible refine wpAny_holding ?_
  first | refine wpAny_bind (wpAny_pure ?_) | skip
  refine wpAny_bind (wpAny_sequenceKey k1.typeIs (by decide) (wpAny_bind (wpAny_callSpecial?_slot (name := Str.ofString "__setitem__") k1.typeIs slot_list_setitem (wpAny_call_entry slot_list_setitem k1.typeIs entry_list_setitem ?_ (args_list_setitem _ _ _)))))
  refine (show wpAny _ _ (Builtin.List.listSubscript? (.ref sl) >>= _) _ _ s from wpAny_bind ?_)
  unfold Builtin.List.listSubscript?
  refine wpAny_bind (wpAny_specialOf ts slice_no_index ?_)
  simp only [Option.isNone_none, if_true]
  refine wpAny_pure (show wpAny _ _ (typeOf (.ref sl) >>= _) _ _ s from wpAny_bind (wpAny_typeOf ts ?_))
  first | rw [if_neg (by decide)] | refine PySem.W.KFB.if_not (by decide) ?_
  rw [listSliceParts_eq]
  refine wpAny_bind (wpAny_bind (wpAny_field k3 k5 (x := .none) rfl (wpAny_bind (wpAny_listPart .none ?_))))
  rw [if_neg st]
  refine wpAny_bind (wpAny_field k3 k5 (x := vl) rfl (wpAny_bind (wpAny_listPart pl (wpAny_bind (wpAny_field k3 k5 (x := .none) rfl (wpAny_bind (wpAny_listPart .none (wpAny_pure ?_))))))))
  first
    | simp only [df, Bool.false_eq_true, if_false]
    | refine PySem.W.KFB.if_not df ?_
  refine wpAny_bind (m := Builtin.List.listAllItems (.ref b) "must assign iterable to extended slice") ?_
  unfold Builtin.List.listAllItems
  refine wpAny_bind (wpAny_typeOf k2.typeIs ?_)
  first
    | refine PySem.W.KFB.if_so (by decide) ?_
    | rw [if_pos (by decide)]
  unfold Builtin.List.listItems
  refine wpAny_bind (wpAny_seqItems g2 rfl (wpAny_pure (wpAny_bind (wpAny_bind (wpAny_seqItems g1 rfl (wpAny_pure ?_))))))
  refine wpAny_bind (wpAny_of_eq ((sliceIndices_raw (some (a : Int)) none none items.size (by simp)).trans (congrArg (pure : Int × Int × Int → Sem (Int × Int × Int)) (tail_bounds ha))) ?_)
  refine (show wpAny _ _ (if ((1 : Int) == 1) = true then _ else _) _ _ s from ?_)
  rw [if_pos (by decide)]
  refine wpAny_bind (wpAny_rule ?_)
  first
    | simp only [notLongL hz, Bool.false_eq_true, if_false]
    | refine PySem.W.KFB.if_not (notLongL hz) ?_
  first | refine wpAny_bind (wpAny_pure ?_) | skip
  refine (show wpAny _ _ (updateSeq l (fun xs => xs.extract 0 ((a : Int)).toNat ++ new ++ xs.extract (max (a : Int) (items.size : Int)).toNat xs.size) >>= _) _ _ s from ?_)
  rw [mx, Int.toNat_natCast]
  refine wpAny_bind (wpAny_updateSeq (hz := Nat.le_trans (Nat.le_add_right _ _) hz) (_hz' := z2) g1 rfl (wpAny_bind (wpAny_letGo ?_)))
  first
    | exact wpAny_bind (wpAny_pure (wpAny_pure ⟨.none, rfl, wpAny_pure h⟩))
    | exact wpAny_pure ⟨.none, rfl, wpAny_pure h⟩
end
end L2
namespace L2
open PySem PySem.Spec PyProof.Rows
def gTail (to : TE) (tl : TO) : TG := fun v σ H Q => to σ H fun x H1 => tl σ H1 fun l H2 => ∃ (a b : Addr) (xs ys : List V) (i : Int), x = .ref a ∧ v = .ref b ∧ l = some i ∧ H2 a = some (.lst xs) ∧ H2 b = some (.lst ys) ∧ a ≠ b ∧ 0 ≤ i ∧ i ≤ xs.length ∧ xs.length + ys.length ≤ sizeLine ∧
  Q σ (upd H2 a (.lst (xs.take i.toNat ++ ys)))
section
variable {X : Cx} {o : Expr} {lo : Option Expr} {to : TE} {tl : TO} {p2 pos : Pos}
theorem pg_tail (ho : PE X o to) (hl : PO X lo tl)
    (ha : ∀ v, assign (.Subscript o (.Slice lo none none p2) pos) X.env v = (do
      let ov ← holding [v] (eval o X.env)
      let iv ← holding [v, ov] (eval (.Slice lo none none p2) X.env)
      standAt pos
      holding [v, ov, iv] (setItem ov iv v)
      release [iv, v, ov] []) := by intro _; rfl) : PG X (.Subscript o (.Slice lo none none p2) pos) (gTail to tl) := by
  intro pins s σ H v u Q I r h
  rw [ha]
  refine wpAny_bind (wpAny_holding (thn (ho pins s σ H _ I h) fun ov s1 ⟨x, H1, I1, r1, q1⟩ => wpAny_bind (wpAny_holding ?_)))
  refine wpAny_Slice (thn (hl pins s1 σ H1 _ I1 q1) fun vl s2 ⟨l, H2, I2, pl, a, b, xs, ys, i, e1, e2, e3, h1, h2, hne, h0, hi, hz, q2⟩ => ?_)
  subst e1 e2 e3
  cases r1
  cases r
  rw [evalPart_none]
  refine wpAny_pure ?_
  refine wpAny_pure ?_
  have I4 : Inv X pins σ H2 { s2 with heap := s2.heap.push { cls := .type "slice", data := .fields #[vl, .none, .none] } } := I2.kept (t' := s2.toks) fun b ob q => Heap.get?_push_of_some _ q
  obtain ⟨i', rfl⟩ := Int.eq_ofNat_of_zero_le h0
  obtain ⟨z, its, n, rv, hl1, g1⟩ := I4.lstM h1
  obtain ⟨z2, its2, n2, rv2, hl2, g2⟩ := I4.lstM h2
  refine wpAny_bind (wpAny_standAt (wpAny_bind (wpAny_holding (set_tail_run (a := i') g1 g2 hne (Heap.IsSliceOf.new ..) pl (by rw [List.size_toArray]; omega) (by simp only [List.size_toArray]; omega) (wpAny_release ⟨σ, _, ?_, q2⟩)))))
  refine I4.lset (its' := its.take i' ++ its2) (t' := s2.toks) h1 g1 ?_ (Vals.append (rv.take _) rv2) ?_
  · exact tail_splice its its2 i' _ (by simp)
  · simp only [List.length_append, List.length_take, Int.toNat_natCast]
    omega
end
end L2
namespace L2
open PySem PySem.Spec PyProof.Rows PySem.MeetsSeq
open PySem.AutoSeq1 (wpAny_loadPart')
theorem tup_index (t : Addr) (items : Array Value) (n : Nat) (dd : Option Addr) (sl : Array (Option Value)) (x : Value) (e : Value → Bool) (he : ∀ y, y ∈ items → EqGives y x (e y)) (j : Nat) (hj : j < items.size) (hit : e items[j] = true) (hno : ∀ m (hm : m < items.size), m < j → e items[m] = false) :
    Meets (Builtin.«tuple.index» ⟨[.ref t, x], []⟩) (fun _ R s => s.heap.get? t = some { cls := .type "tuple", dict := dd, data := .seq items n, slots := sl } ∧ R (.ok (.ret (.int j s.toks))) { s with toks := s.toks + 1 }) :=
  .of_wp fun prog w A R s ⟨g1, q⟩ => by
    obtain ⟨hp, ge, dr, tk, os⟩ := s
    wp_walk using wpAny_loadPart' g1
    refine (show wpAny (model prog w) A.in1 (forIn [:min items.size items.size] ((none, ()) : Option PySem.Fin × Unit) fun (i : Nat) r => (match items[i]? with
            | some y => do
              let b ← eqBool y x
              if b = true then do
                  let v ← retInt (i : Int)
                  pure (ForInStep.done (some v, ()))
                else pure (ForInStep.yield (none, ()))
            | _ => pure (ForInStep.yield (none, ())))) _ _ _ from ?_)
    rw [Std.Legacy.Range.forIn_eq_forIn_range']
    refine wpAny_forIn_list _ (fun rest r s' => r.1 = none ∧ s' = ⟨hp, ge, dr, tk, os⟩ ∧ ∃ i, i ≤ j ∧ rest = List.range' i (items.size - i)) _ ?_ ?_ _ _ ⟨rfl, rfl, 0, Nat.zero_le _, by simp [Std.Legacy.Range.size]⟩
    · rintro m rest r s' ⟨_, rfl, i, hi, hm⟩
      obtain ⟨k, hk⟩ : ∃ k, items.size - i = k + 1 := ⟨items.size - i - 1, by omega⟩
      rw [hk, List.range'_succ] at hm
      obtain ⟨rfl, rfl⟩ := List.cons.inj hm
      have hlt : m < items.size := by omega
      rw [Array.getElem?_eq_getElem hlt]
      refine wpAny_bind (he _ (Array.getElem_mem hlt) prog w _ _ _ _ ?_)
      by_cases hmj : m = j
      · subst hmj
        rw [hit, if_pos rfl]
        unfold retInt
        exact wpAny_bind (wpAny_bind (wpAny_mkInt (wpAny_pure (wpAny_pure (wpAny_pure ⟨_, rfl, q⟩)))))
      · rw [hno m hlt (by omega), if_neg (by decide)]
        exact wpAny_pure ⟨rfl, rfl, m + 1, by omega, by rw [show items.size - (m + 1) = k from by omega]⟩
    · rintro r s' ⟨_, rfl, i, hi, hm⟩
      have : (List.range' i (items.size - i)).length = 0 := by rw [← hm]; rfl
      rw [List.length_range'] at this
      omega
section
variable {X : Cx}
def strB (z : Str) : Value → Bool
  | .str s _ => s.cps.toList == z.cps.toList
  | _ => false
theorem strB_vals {ss : List Str} {its : List Value} (r : Vals (ss.map V.str) its) {i : Nat} {u : Value} (hu : its[i]? = some u) : ∃ s t, ss[i]? = some s ∧ u = .str s t := by
  have hl := r.length
  rw [List.length_map] at hl
  have hi : i < its.length := (List.getElem?_eq_some_iff.mp hu).1
  obtain ⟨v, hv, rv⟩ := r.get (i := i) (x := V.str (ss[i]'(by omega))) (by rw [List.getElem?_map, List.getElem?_eq_getElem (by omega)]; rfl)
  rw [hu] at hv
  cases hv
  obtain ⟨t, rfl⟩ := rv
  exact ⟨_, t, List.getElem?_eq_getElem (by omega), rfl⟩
theorem strB_facts {ss : List Str} {its : List Value} (r : Vals (ss.map V.str) its) {z : Str} {t : Tok} {j : Nat} (hj : ss[j]? = some z) (hno : ∀ m, m < j → ss[m]? ≠ some z) :
    (∀ y, y ∈ its.toArray → EqGives y (.str z t) (strB z y)) ∧ ∃ h : j < its.toArray.size, strB z (its.toArray[j]) = true ∧ ∀ m (hm : m < its.toArray.size), m < j → strB z (its.toArray[m]) = false := by
  have hl := r.length
  rw [List.length_map] at hl
  refine ⟨fun y hy => ?_, ?_⟩
  · obtain ⟨i, hi⟩ := List.mem_iff_getElem?.mp (show y ∈ its by simpa using hy)
    obtain ⟨s, u, _, rfl⟩ := strB_vals r hi
    exact SeqRoads2.EqGives.str s z u t
  · have h0 : j < ss.length := (List.getElem?_eq_some_iff.mp hj).1
    refine ⟨by rw [List.size_toArray]; omega, ?_, fun m hm h => ?_⟩
    · obtain ⟨s, u, h1, h2⟩ := strB_vals r (i := j) (u := its[j]'(by omega)) (List.getElem?_eq_getElem (by omega))
      rw [hj] at h1
      cases h1
      show strB z (its[j]'(by omega)) = true
      rw [h2]
      show (z.cps.toList == z.cps.toList) = true
      simp
    · rw [List.size_toArray] at hm
      obtain ⟨s, u, h1, h2⟩ := strB_vals r (i := m) (u := its[m]) (List.getElem?_eq_getElem hm)
      show strB z its[m] = false
      rw [h2]
      show (s.cps.toList == z.cps.toList) = false
      refine beq_eq_false_iff_ne.mpr fun e => hno m h ?_
      have : s = z := by
        cases s; cases z
        simp only at e
        rw [Array.toList_inj.mp e]
      rw [h1, this]
/-- xs.index(z), texts in a list or a tuple: the first place -/
def rIdxS (T : V → List Str → Hp → Prop) : V → List V → Hp → VK → Prop := fun x vs H Q => ∃ (ss : List Str) (z : Str) (j : Nat), T x ss H ∧ vs = [.str z] ∧ ss[j]? = some z ∧ (∀ m, m < j → ss[m]? ≠ some z) ∧ Q (.int j) H
theorem mt_idxL : MtR X "list.index" (rIdxS fun x ss H => ∃ a, x = .ref a ∧ H a = some (.lst (ss.map V.str))) := by
  intro pins s σ H x vs v us Q I rx rv h
  obtain ⟨ss, z, j, ⟨a, rfl, hH⟩, rfl, hj, hno, q⟩ := h
  cases rx
  obtain ⟨u, rfl, ru⟩ := rv.one
  obtain ⟨t, rfl⟩ := ru
  obtain ⟨zz, its, n, r, hl, e⟩ := I.lstM hH
  obtain ⟨h1, h2, h3, h4⟩ := strB_facts (t := t) r hj hno
  have hj2 : j < sizeLine := by rw [List.size_toArray, ← hl] at h2; omega
  have big : (sizeLine : Int) < 2 ^ 63 - 1 := by decide
  exact call_meets F.slot_list_index ⟨_, e, rfl⟩ F.entry_list_index (F.args_list_index_2 _ _) (MeetsSeq.list_index a its.toArray n (.str z t) (strB z) h1 j h2 (by omega) h3 h4) ⟨e, .int j, H, I.tok _, ⟨_, rfl⟩, q⟩
theorem mt_idxT : MtR X "tuple.index" (rIdxS fun x ss H => ∃ a, x = .ref a ∧ SqT X.K H a (ss.map V.str)) := by
  intro pins s σ H x vs v us Q I rx rv h
  obtain ⟨ss, z, j, ⟨a, rfl, hH⟩, rfl, hj, hno, q⟩ := h
  cases rx
  obtain ⟨u, rfl, ru⟩ := rv.one
  obtain ⟨t, rfl⟩ := ru
  obtain ⟨its, r, ⟨⟨c, dd, dt, sl⟩, e, k1, n, k2⟩, hz⟩ := I.tuple hH
  simp only at k1 k2
  subst k1 k2
  obtain ⟨h1, h2, h3, h4⟩ := strB_facts (t := t) r hj hno
  exact call_meets F.slot_tuple_index ⟨_, e, rfl⟩ F.entry_tuple_index (F.args_tuple_index_2 _ _) (tup_index a its.toArray n dd sl (.str z t) (strB z) h1 j h2 h3 h4) ⟨e, .int j, H, I.tok _, ⟨_, rfl⟩, q⟩
end
end L2

set_option Elab.async false
set_option linter.all false
set_option maxRecDepth 100000
set_option maxHeartbeats 4000000
/-! writings in the order of their parts, and a fold by a stack -/
namespace L2
open PySem PySem.Spec PyProof.Rows
mutual
def Wr.post : Wr → List Wr
  | .nothing => [.nothing]
  | .bead c => [.bead c]
  | .side b f => f.post ++ [.side b f]
  | .pair f g => f.post ++ (g.post ++ [.pair f g])
  | .many k ps => postL ps ++ [.many k ps]
def postL : List Wr → List Wr
  | [] => []
  | w :: ws => w.post ++ postL ws
end
theorem Wr.post_eq (w : Wr) : w.post = postL w.parts ++ [w] := by
  cases w <;> simp [Wr.post, Wr.parts, postL]
theorem postL_app : ∀ (ws us : List Wr), postL (ws ++ us) = postL ws ++ postL us
  | [], us => rfl
  | w :: ws, us => by simp only [List.cons_append, postL, postL_app ws us, List.append_assoc]
mutual
theorem Wr.post_len : ∀ w : Wr, w.post.length = w.tups
  | .nothing => rfl
  | .bead _ => rfl
  | .side b f => by simp [Wr.post, Wr.tups, f.post_len]; omega
  | .pair f g => by simp [Wr.post, Wr.tups, f.post_len, g.post_len]; omega
  | .many k ps => by simp [Wr.post, Wr.tups, postL_len ps]; omega
theorem postL_len : ∀ ws : List Wr, (postL ws).length = tupsL ws
  | [] => rfl
  | w :: ws => by simp [postL, tupsL, w.post_len, postL_len ws]
end
/-- each takes its parts from the end, and is put there -/
def Run : List Wr → List Wr → List Wr → Prop
  | S, [], F => S = F
  | S, x :: l, F => ∃ S0, S = S0 ++ x.parts ∧ Run (S0 ++ [x]) l F
mutual
theorem Wr.run : ∀ (w : Wr) (S l F : List Wr), Run (S ++ [w]) l F → Run S (w.post ++ l) F
  | .nothing, S, l, F, h => ⟨S, by simp [Wr.parts], h⟩
  | .bead c, S, l, F, h => ⟨S, by simp [Wr.parts], h⟩
  | .side b f, S, l, F, h => by
    simp only [Wr.post, List.append_assoc]
    exact f.run S _ F ⟨S, by simp [Wr.parts], h⟩
  | .pair f g, S, l, F, h => by
    simp only [Wr.post, List.append_assoc]
    refine f.run S _ F (g.run (S ++ [f]) _ F ⟨S, by simp [Wr.parts], h⟩)
  | .many k ps, S, l, F, h => by
    simp only [Wr.post, List.append_assoc]
    exact runL ps S _ F ⟨S, by simp [Wr.parts], h⟩
theorem runL : ∀ (ws S l F : List Wr), Run (S ++ ws) l F → Run S (postL ws ++ l) F
  | [], S, l, F, h => by simpa [postL] using h
  | w :: ws, S, l, F, h => by
    simp only [postL, List.append_assoc]
    refine w.run S _ F (runL ws (S ++ [w]) l F ?_)
    simpa using h
end
theorem Wr.run_all (w : Wr) : Run [] w.post [w] := by
  have := w.run [] [] [w] rfl
  simpa using this
/-! data of tuples, numbers and texts: they stay while lists change -/
mutual
inductive RepT (K : PySem.W.Frag) (H : Hp) : PyData → V → Prop
  | int (i : Int) : RepT K H (.int i) (.int i)
  | str (x : Str) : RepT K H (.str x) (.str x)
  | tup {a : Addr} {xs : List V} {ds : List PyData} : SqT K H a xs → RepsT K H ds xs → RepT K H (.tuple ds) (.ref a)
inductive RepsT (K : PySem.W.Frag) (H : Hp) : List PyData → List V → Prop
  | nil : RepsT K H [] []
  | cons {d : PyData} {v : V} {ds : List PyData} {vs : List V} : RepT K H d v → RepsT K H ds vs → RepsT K H (d :: ds) (v :: vs)
end
section
variable {K : PySem.W.Frag} {H H' : Hp}
mutual
theorem RepT.same (e : SameT K H H') : ∀ {d : PyData} {v : V}, RepT K H d v → RepT K H' d v
  | _, _, .int i => .int i
  | _, _, .str x => .str x
  | _, _, .tup h r => .tup (e _ _ h) (RepsT.same e r)
theorem RepsT.same (e : SameT K H H') : ∀ {ds : List PyData} {vs : List V}, RepsT K H ds vs → RepsT K H' ds vs
  | _, _, .nil => .nil
  | _, _, .cons h r => .cons (RepT.same e h) (RepsT.same e r)
end
mutual
theorem RepT.rep : ∀ {d : PyData} {v : V}, RepT K H d v → Rep K H d v
  | _, _, .int i => .int i
  | _, _, .str x => .str x
  | _, _, .tup h r => .tup h (RepsT.reps r)
theorem RepsT.reps : ∀ {ds : List PyData} {vs : List V}, RepsT K H ds vs → Reps K H ds vs
  | _, _, .nil => .nil
  | _, _, .cons h r => .cons (RepT.rep h) (RepsT.reps r)
end
theorem RepsT.length : ∀ {ds : List PyData} {vs : List V}, RepsT K H ds vs → ds.length = vs.length
  | _, _, .nil => rfl
  | _, _, .cons _ r => by rw [List.length_cons, List.length_cons, RepsT.length r]
theorem RepsT.app : ∀ {ds es : List PyData} {vs us : List V}, RepsT K H ds vs → RepsT K H es us → RepsT K H (ds ++ es) (vs ++ us)
  | _, _, _, _, .nil, s => s
  | _, _, _, _, .cons h r, s => .cons h (RepsT.app r s)
theorem RepsT.one {d : PyData} {v : V} (h : RepT K H d v) : RepsT K H [d] [v] := .cons h .nil
theorem RepsT.split : ∀ {ds es : List PyData} {vs : List V}, RepsT K H (ds ++ es) vs → ∃ us ws, vs = us ++ ws ∧ RepsT K H ds us ∧ RepsT K H es ws
  | [], es, vs, h => ⟨[], vs, rfl, .nil, h⟩
  | d :: ds, es, _, .cons h r => by
    obtain ⟨us, ws, rfl, h1, h2⟩ := RepsT.split r
    exact ⟨_ :: us, ws, rfl, .cons h h1, h2⟩
theorem RepsT.get : ∀ {ds : List PyData} {vs : List V} {i : Nat} {v : V}, RepsT K H ds vs → vs[i]? = some v → ∃ d, ds[i]? = some d ∧ RepT K H d v
  | _, _, _, _, .nil, e => by simp at e
  | _, _, 0, _, .cons h _, e => by simp at e; subst e; exact ⟨_, rfl, h⟩
  | _, _, i + 1, _, .cons _ r, e => by simp at e; simpa using RepsT.get r e
theorem RepsT.ints : ∀ {ns : List Int} {vs : List V}, RepsT K H (ns.map PyData.int) vs → vs = ns.map V.int
  | [], _, .nil => rfl
  | n :: ns, _, .cons h r => by
    cases h
    rw [List.map_cons, RepsT.ints r]
end
mutual
theorem Wr.post_mem : ∀ (w y : Wr), y ∈ w.post → w.ok = true → y.ok = true ∧ y.tups ≤ w.tups
  | .nothing, y, h, o => by simp [Wr.post] at h; subst h; exact ⟨o, Nat.le_refl _⟩
  | .bead c, y, h, o => by simp [Wr.post] at h; subst h; exact ⟨o, Nat.le_refl _⟩
  | .side b f, y, h, o => by
    simp only [Wr.post, List.mem_append, List.mem_singleton] at h
    rcases h with h | rfl
    · have := f.post_mem y h (by simpa [Wr.ok] using o)
      exact ⟨this.1, by simp only [Wr.tups]; omega⟩
    · exact ⟨o, Nat.le_refl _⟩
  | .pair f g, y, h, o => by
    have o2 : f.ok = true ∧ g.ok = true := by simpa [Wr.ok] using o
    simp only [Wr.post, List.mem_append, List.mem_singleton] at h
    rcases h with h | h | rfl
    · have := f.post_mem y h o2.1
      exact ⟨this.1, by simp only [Wr.tups]; omega⟩
    · have := g.post_mem y h o2.2
      exact ⟨this.1, by simp only [Wr.tups]; omega⟩
    · exact ⟨o, Nat.le_refl _⟩
  | .many k ps, y, h, o => by
    simp only [Wr.post, List.mem_append, List.mem_singleton] at h
    rcases h with h | rfl
    · have := postL_mem ps y h (by simpa [Wr.ok] using o)
      exact ⟨this.1, by simp only [Wr.tups]; omega⟩
    · exact ⟨o, Nat.le_refl _⟩
theorem postL_mem : ∀ (ws : List Wr) (y : Wr), y ∈ postL ws → okL ws = true → y.ok = true ∧ y.tups ≤ tupsL ws
  | [], y, h, o => by simp [postL] at h
  | w :: ws, y, h, o => by
    have o2 : w.ok = true ∧ okL ws = true := by simpa [okL] using o
    simp only [postL, List.mem_append] at h
    rcases h with h | h
    · have := w.post_mem y h o2.1
      exact ⟨this.1, by simp only [tupsL]; omega⟩
    · have := postL_mem ws y h o2.2
      exact ⟨this.1, by simp only [tupsL]; omega⟩
end
theorem Wr.nb (w : Wr) (h : ∀ c, w ≠ .bead c) : ¬ (decide (w.name = Str.ofString "bead") = true) := by
  cases w with
  | bead c => exact absurd rfl (h c)
  | nothing => exact nb_nothing
  | side b f => exact nb_side b
  | pair f g => exact nb_pair
  | many k ps => exact nb_many k
mutual
def Wr.size : Wr → Nat
  | .nothing => 0
  | .bead _ => 1
  | .side _ f => f.size
  | .pair f g => f.size + (g.size + 0)
  | .many _ ps => sizeL ps
def sizeL : List Wr → Nat
  | [] => 0
  | w :: ws => w.size + sizeL ws
end
theorem Wr.size_parts (w : Wr) (h : ∀ c, w ≠ .bead c) : w.size = sizeL w.parts := by
  cases w with
  | bead c => exact absurd rfl (h c)
  | nothing => rfl
  | side b f => simp [Wr.size, Wr.parts, sizeL]
  | pair f g => simp [Wr.size, Wr.parts, sizeL]
  | many k ps => rfl
def sizeD (w : Wr) : PyData := .int w.size
theorem bead_or (w : Wr) : (∃ c, w = .bead c) ∨ ∀ c, w ≠ .bead c := by
  cases w with
  | bead c => exact .inl ⟨c, rfl⟩
  | _ => exact .inr fun c => by simp
/-! keys -/
def Wr.kidx : Wr → Nat
  | .nothing => 0
  | .bead _ => 1
  | .side b _ => if b then 3 else 2
  | .pair _ _ => 4
  | .many k _ => match k with | 0 => 5 | 1 => 6 | 2 => 7 | _ => 8
def kindS : List Str := ["nothing", "bead", "left", "right", "pair", "row", "bag", "choice", "ring"]
theorem Wr.kidx_at (w : Wr) : kindS[w.kidx]? = some w.name ∧ ∀ m, m < w.kidx → kindS[m]? ≠ some w.name := by
  have fin : ∀ (i : Nat) (s : Str), kindS[i]? = some s → (∀ m, m < 9 → m < i → kindS[m]? ≠ some s) → i < 9 → kindS[i]? = some s ∧ ∀ m, m < i → kindS[m]? ≠ some s := fun i s h1 h2 h3 => ⟨h1, fun m hm => h2 m (by omega) hm⟩
  cases w with
  | nothing => exact fin 0 "nothing" (by decide +kernel) (by decide +kernel) (by decide)
  | bead c => exact fin 1 "bead" (by decide +kernel) (by decide +kernel) (by decide)
  | side b f =>
    cases b
    · exact fin 2 "left" (by decide +kernel) (by decide +kernel) (by decide)
    · exact fin 3 "right" (by decide +kernel) (by decide +kernel) (by decide)
  | pair f g => exact fin 4 "pair" (by decide +kernel) (by decide +kernel) (by decide)
  | many k ps =>
    match k with
    | 0 => exact fin 5 "row" (by decide +kernel) (by decide +kernel) (by decide)
    | 1 => exact fin 6 "bag" (by decide +kernel) (by decide +kernel) (by decide)
    | 2 => exact fin 7 "choice" (by decide +kernel) (by decide +kernel) (by decide)
    | k + 3 => exact fin 8 "ring" (by decide +kernel) (by decide +kernel) (by decide)
mutual
def Wr.keyD : Wr → PyData
  | .nothing => .tuple [.int 0, .int 0]
  | .bead c => .tuple [.int 1, .int 1, .str c]
  | .side b f => .tuple [.int f.size, .int (Wr.side b f).kidx, f.keyD]
  | .pair f g => .tuple [.int (Wr.pair f g).size, .int 4, f.keyD, g.keyD]
  | .many k ps => .tuple (.int (sizeL ps) :: .int (Wr.many k ps).kidx :: keyDL ps)
def keyDL : List Wr → List PyData
  | [] => []
  | w :: ws => w.keyD :: keyDL ws
end
theorem keyDL_map : ∀ ws : List Wr, keyDL ws = ws.map Wr.keyD
  | [] => rfl
  | w :: ws => by rw [keyDL, List.map_cons, keyDL_map ws]
theorem Wr.keyD_parts (w : Wr) (h : ∀ c, w ≠ .bead c) : w.keyD = .tuple (.int w.size :: .int w.kidx :: w.parts.map Wr.keyD) := by
  cases w with
  | bead c => exact absurd rfl (h c)
  | nothing => rfl
  | side b f => rfl
  | pair f g => rfl
  | many k ps => simp only [Wr.keyD, Wr.parts, keyDL_map]; rfl
theorem ty_const {K : PySem.W.Frag} {a : Addr} {oc : Value} {od : Option Addr} {is : Array Value} {sn : Nat} {sl : Array (Option Value)} (o : K.lookup a = some ⟨oc, od, .seq is sn, sl⟩) (t : (oc == .type "tuple") = true ∧ (od == none) = true) : ∀ H, tyV K "tuple" (.ref a) H :=
  fun H => .inr (.inl ⟨rfl, _, o, eq_of_beq t.1, eq_of_beq t.2⟩)
def szn (ps : List Wr) (i : Nat) : Int := ((ps.map Wr.size).getD i 0 : Nat)
theorem RepsT.of {K : PySem.W.Frag} {H : Hp} : ∀ {ds : List PyData} {vs : List V}, vs.length = ds.length → (∀ (i : Nat) y d, vs[i]? = some y → ds[i]? = some d → RepT K H d y) → RepsT K H ds vs
  | [], [], _, _ => .nil
  | d :: ds, v :: vs, h, hr => .cons (hr 0 v d rfl rfl) (RepsT.of (by simpa using h) fun i y e h1 h2 => hr (i + 1) y e (by simpa using h1) (by simpa using h2))
end L2

set_option Elab.async false
set_option linter.all false
set_option maxRecDepth 100000
set_option maxHeartbeats 4000000
/-! tuples taken as values: a heap without them, and readings over it -/
namespace L2
open PySem PySem.Spec PyProof.Rows
/-- a value: tuples by what is in them, all else by its address -/
inductive U where
  | non | bl (b : Bool) | int (i : Int) | str (x : Str) | ty (n : String) | tup (xs : List U) | rol (xs : List U) | ref (a : Addr)
/-- a list that is never written: known to the object, or of the module -/
def SqR (K : PySem.W.Frag) (H : Hp) (a : Addr) (xs : List V) : Prop := (∃ o, H a = some (.frz o (.lst xs))) ∨
    ∃ (o : Obj) (its : Array Value) (n : Nat), K.lookup a = some o ∧ o.cls = .type "list" ∧ o.dict = none ∧ o.data = .seq its n ∧ its.size ≤ sizeLine ∧ Vals xs its.toList
theorem SqR.sq {K : PySem.W.Frag} {H : Hp} {a : Addr} {xs : List V} (h : SqR K H a xs) : SqL K H a xs := by
  rcases h with h | h
  · exact .inl (.inr h)
  · exact .inr h
/-- tuples and such lists stay -/
structure Kp (K : PySem.W.Frag) (H H' : Hp) : Prop where
  t : SameT K H H'
  r : ∀ a xs, SqR K H a xs → SqR K H' a xs
theorem Kp.refl {K : PySem.W.Frag} (H : Hp) : Kp K H H := ⟨fun _ _ h => h, fun _ _ h => h⟩
theorem Kp.trans {K : PySem.W.Frag} {H H1 H2 : Hp} (h : Kp K H H1) (k : Kp K H1 H2) : Kp K H H2 := ⟨h.t.trans k.t, fun a xs q => k.r a xs (h.r a xs q)⟩
theorem Same.kp {K : PySem.W.Frag} {H H' : Hp} (e : Same H H') : Kp K H H' := ⟨e.tups, fun a xs q => by
  rcases q with ⟨o, q⟩ | q
  · exact .inl ⟨o, e _ _ q⟩
  · exact .inr q⟩
theorem Kp.lst {K : PySem.W.Frag} {H : Hp} {l : Addr} {ys zs : List V} (h : H l = some (.lst ys)) : Kp K H (upd H l (.lst zs)) := ⟨SameT.lst h, fun a xs q => by
  rcases q with ⟨o, q⟩ | q
  · exact .inl ⟨o, by rw [upd_ne (ne_of q h (by intro z; cases z))]; exact q⟩
  · exact .inr q⟩
theorem Kp.ins {K : PySem.W.Frag} {H : Hp} {l C dx : Addr} {fs : List (Str × V)} {o' : HO} (h : H l = some (.ins C dx fs)) : Kp K H (upd H l o') := ⟨fun a xs q => by
  rcases q with (q | ⟨o, q⟩) | q
  · exact .inl (.inl (by rw [upd_ne (ne_of q h (by intro z; cases z))]; exact q))
  · exact .inl (.inr ⟨o, by rw [upd_ne (ne_of q h (by intro z; cases z))]; exact q⟩)
  · exact .inr q, fun a xs q => by
  rcases q with ⟨o, q⟩ | q
  · exact .inl ⟨o, by rw [upd_ne (ne_of q h (by intro z; cases z))]; exact q⟩
  · exact .inr q⟩
mutual
inductive RU (K : PySem.W.Frag) (H : Hp) : U → V → Prop
  | non : RU K H .non .non
  | bl (b : Bool) : RU K H (.bl b) (.bl b)
  | int (i : Int) : RU K H (.int i) (.int i)
  | str (x : Str) : RU K H (.str x) (.str x)
  | ty (n : String) : RU K H (.ty n) (.ty n)
  | ref (a : Addr) : RU K H (.ref a) (.ref a)
  | tup {a : Addr} {vs : List V} {us : List U} : SqT K H a vs → RUs K H us vs → RU K H (.tup us) (.ref a)
  | rol {a : Addr} {vs : List V} {us : List U} : SqR K H a vs → RUs K H us vs → RU K H (.rol us) (.ref a)
inductive RUs (K : PySem.W.Frag) (H : Hp) : List U → List V → Prop
  | nil : RUs K H [] []
  | cons {u : U} {v : V} {us : List U} {vs : List V} : RU K H u v → RUs K H us vs → RUs K H (u :: us) (v :: vs)
end
section
variable {K : PySem.W.Frag} {H H' : Hp}
mutual
theorem RU.same (e : Kp K H H') : ∀ {u : U} {v : V}, RU K H u v → RU K H' u v
  | _, _, .non => .non
  | _, _, .bl b => .bl b
  | _, _, .int i => .int i
  | _, _, .str x => .str x
  | _, _, .ty n => .ty n
  | _, _, .ref a => .ref a
  | _, _, .tup h r => .tup (e.t _ _ h) (RUs.same e r)
  | _, _, .rol h r => .rol (e.r _ _ h) (RUs.same e r)
theorem RUs.same (e : Kp K H H') : ∀ {us : List U} {vs : List V}, RUs K H us vs → RUs K H' us vs
  | _, _, .nil => .nil
  | _, _, .cons h r => .cons (RU.same e h) (RUs.same e r)
end
theorem RUs.length : ∀ {us : List U} {vs : List V}, RUs K H us vs → us.length = vs.length
  | _, _, .nil => rfl
  | _, _, .cons _ r => by rw [List.length_cons, List.length_cons, r.length]
theorem RUs.app : ∀ {us ws : List U} {vs xs : List V}, RUs K H us vs → RUs K H ws xs → RUs K H (us ++ ws) (vs ++ xs)
  | _, _, _, _, .nil, s => s
  | _, _, _, _, .cons h r, s => .cons h (RUs.app r s)
theorem RUs.one {u : U} {v : V} (h : RU K H u v) : RUs K H [u] [v] := .cons h .nil
theorem RUs.get : ∀ {us : List U} {vs : List V} {i : Nat} {v : V}, RUs K H us vs → vs[i]? = some v → ∃ u, us[i]? = some u ∧ RU K H u v
  | _, _, _, _, .nil, e => by simp at e
  | _, _, 0, _, .cons h _, e => by simp at e; subst e; exact ⟨_, rfl, h⟩
  | _, _, i + 1, _, .cons _ r, e => by simp at e; simpa using RUs.get r e
theorem RUs.get' : ∀ {us : List U} {vs : List V} {i : Nat} {u : U}, RUs K H us vs → us[i]? = some u → ∃ v, vs[i]? = some v ∧ RU K H u v
  | _, _, _, _, .nil, e => by simp at e
  | _, _, 0, _, .cons h _, e => by simp at e; subst e; exact ⟨_, rfl, h⟩
  | _, _, i + 1, _, .cons _ r, e => by simp at e; simpa using RUs.get' r e
theorem RUs.take : ∀ {us : List U} {vs : List V} (n : Nat), RUs K H us vs → RUs K H (us.take n) (vs.take n)
  | _, _, 0, _ => .nil
  | _, _, _ + 1, .nil => .nil
  | _, _, n + 1, .cons r t => .cons r (RUs.take n t)
theorem RUs.drop : ∀ {us : List U} {vs : List V} (n : Nat), RUs K H us vs → RUs K H (us.drop n) (vs.drop n)
  | _, _, 0, r => r
  | _, _, _ + 1, .nil => .nil
  | _, _, n + 1, .cons _ t => RUs.drop n t
theorem RUs.rev {us : List U} {vs : List V} (h : RUs K H us vs) : RUs K H us.reverse vs.reverse := by
  induction us generalizing vs with
  | nil => cases h; exact .nil
  | cons w ws ih =>
    cases h with
    | cons h r => rw [List.reverse_cons, List.reverse_cons]; exact (ih r).app (.one h)
theorem RUs.dropLast {us : List U} {vs : List V} (h : RUs K H us vs) : RUs K H us.dropLast vs.dropLast := by
  rw [List.dropLast_eq_take, List.dropLast_eq_take, h.length]; exact h.take _
theorem RUs.set {u : U} {v : V} (h : RU K H u v) : ∀ {us : List U} {vs : List V} (i : Nat), RUs K H us vs → RUs K H (us.set i u) (vs.set i v)
  | _, _, _, .nil => .nil
  | _, _, 0, .cons _ t => .cons h t
  | _, _, i + 1, .cons q t => .cons q (RUs.set h i t)
theorem RUs.ints : ∀ {ns : List Int} {vs : List V}, RUs K H (ns.map U.int) vs → vs = ns.map V.int
  | [], _, .nil => rfl
  | n :: ns, _, .cons h r => by cases h; rw [List.map_cons, RUs.ints r]
theorem RUs.bls : ∀ {ns : List Bool} {vs : List V}, RUs K H (ns.map U.bl) vs → vs = ns.map V.bl
  | [], _, .nil => rfl
  | n :: ns, _, .cons h r => by cases h; rw [List.map_cons, RUs.bls r]
theorem RUs.strs : ∀ {ns : List Str} {vs : List V}, RUs K H (ns.map U.str) vs → vs = ns.map V.str
  | [], _, .nil => rfl
  | n :: ns, _, .cons h r => by cases h; rw [List.map_cons, RUs.strs r]
theorem RUs.of_strs : ∀ {ns : List Str}, RUs K H (ns.map U.str) (ns.map V.str)
  | [] => .nil
  | n :: ns => .cons (.str n) RUs.of_strs
theorem RUs.of_ints : ∀ {ns : List Int}, RUs K H (ns.map U.int) (ns.map V.int)
  | [] => .nil
  | n :: ns => .cons (.int n) RUs.of_ints
end
/-- what stands at an address, tuples taken as values -/
inductive AO where
  | lst (us : List U) | ins (C dx : Addr) (fs : List (Str × U))
abbrev AHp := Addr → Option AO
def updA (A : AHp) (a : Addr) (o : AO) : AHp := fun b => if b = a then some o else A b
theorem updA_same {A : AHp} {a : Addr} {o : AO} : updA A a o a = some o := by unfold updA; rw [if_pos rfl]
theorem updA_ne {A : AHp} {a b : Addr} {o : AO} (h : b ≠ a) : updA A a o b = A b := by unfold updA; rw [if_neg h]
theorem updA_updA {A : AHp} {a : Addr} {o u : AO} : updA (updA A a o) a u = updA A a u := by funext b; unfold updA; split <;> rfl
def RFs (K : PySem.W.Frag) (H : Hp) (fs : List (Str × U)) (gs : List (Str × V)) : Prop := fs.map (·.1) = gs.map (·.1) ∧ RUs K H (fs.map (·.2)) (gs.map (·.2))
def RO (K : PySem.W.Frag) (H : Hp) (a : Addr) : AO → Prop
  | .lst us => ∃ vs, H a = some (.lst vs) ∧ RUs K H us vs
  | .ins C dx fs => ∃ gs, H a = some (.ins C dx gs) ∧ RFs K H fs gs
def HR (K : PySem.W.Frag) (H : Hp) (A : AHp) : Prop := ∀ a o, A a = some o → RO K H a o
section
variable {K : PySem.W.Frag} {H H' : Hp} {A : AHp} {a : Addr}
theorem RO.keep {b : Addr} {o : AO} (t : Kp K H H') (e : H' b = H b) (h : RO K H b o) : RO K H' b o := by
  cases o with
  | lst us => obtain ⟨vs, h1, h2⟩ := h; exact ⟨vs, by rw [e]; exact h1, h2.same t⟩
  | ins C dx fs => obtain ⟨gs, h1, h2, h3⟩ := h; exact ⟨gs, by rw [e]; exact h1, h2, h3.same t⟩
theorem HR.grow (t : Same H H') (h : HR K H A) : HR K H' A := fun a o e => by
  have q := h a o e
  cases o with
  | lst us => obtain ⟨vs, h1, h2⟩ := q; exact ⟨vs, t _ _ h1, h2.same t.kp⟩
  | ins C dx fs => obtain ⟨gs, h1, h2, h3⟩ := q; exact ⟨gs, t _ _ h1, h2, h3.same t.kp⟩
theorem HR.none (h : HR K H A) (e : H a = none) : A a = none := by
  cases q : A a with
  | none => rfl
  | some o =>
    have := h a o q
    cases o with
    | lst us => obtain ⟨vs, h1, _⟩ := this; rw [e] at h1; cases h1
    | ins C dx fs => obtain ⟨vs, h1, _⟩ := this; rw [e] at h1; cases h1
/-- a new list -/
theorem HR.newL {us : List U} {vs : List V} (h : HR K H A) (e : H a = Option.none) (r : RUs K H us vs) : HR K (upd H a (.lst vs)) (updA A a (.lst us)) := fun b o q => by
  have s := Same.upd_new (o := .lst vs) e
  by_cases hb : b = a
  · subst hb
    rw [updA_same] at q
    cases q
    exact ⟨vs, upd_same, r.same s.kp⟩
  · rw [updA_ne hb] at q
    exact (h b o q).keep s.kp (upd_ne hb)
/-- a list is written -/
theorem HR.setL {us : List U} {vs xs : List V} (h : HR K H A) (e : H a = some (.lst xs)) (r : RUs K H us vs) : HR K (upd H a (.lst vs)) (updA A a (.lst us)) := fun b o q => by
  have s : Kp K H (upd H a (.lst vs)) := Kp.lst e
  by_cases hb : b = a
  · subst hb
    rw [updA_same] at q
    cases q
    exact ⟨vs, upd_same, r.same s⟩
  · rw [updA_ne hb] at q
    exact (h b o q).keep s (upd_ne hb)
theorem HR.list {us : List U} (h : HR K H A) (e : A a = some (.lst us)) : ∃ vs, H a = some (.lst vs) ∧ RUs K H us vs := h a _ e
end
/-! names -/
abbrev ASt := List (Option U)
inductive RSt (K : PySem.W.Frag) (H : Hp) : ASt → St → Prop
  | nil : RSt K H [] []
  | skip {x : Option V} {ρ : ASt} {σ : St} : RSt K H ρ σ → RSt K H (none :: ρ) (x :: σ)
  | cons {u : U} {v : V} {ρ : ASt} {σ : St} : RU K H u v → RSt K H ρ σ → RSt K H (some u :: ρ) (some v :: σ)
section
variable {K : PySem.W.Frag} {H H' : Hp}
theorem RSt.same (e : Kp K H H') : ∀ {ρ : ASt} {σ : St}, RSt K H ρ σ → RSt K H' ρ σ
  | _, _, .nil => .nil
  | _, _, .skip r => .skip (RSt.same e r)
  | _, _, .cons h r => .cons (h.same e) (RSt.same e r)
def aGetN : Nat → ASt → (U → Prop) → Prop
  | 0, ρ, k => match ρ with
    | some u :: _ => k u
    | _ => False
  | i + 1, ρ, k => match ρ with
    | _ :: ρ => aGetN i ρ k
    | [] => False
def aGet (ρ : ASt) (i : Nat) (k : U → Prop) : Prop := aGetN i ρ k
theorem RSt.get : ∀ {ρ : ASt} {σ : St} {i : Nat} {k : U → Prop}, RSt K H ρ σ → aGet ρ i k → ∃ u v, σ[i]? = some (some v) ∧ RU K H u v ∧ k u
  | _, _, 0, _, .nil, h => h.elim
  | _, _, _ + 1, _, .nil, h => h.elim
  | _, _, 0, _, .skip _, h => h.elim
  | _, _, i + 1, _, .skip r, h => by simpa using RSt.get r h
  | _, _, 0, _, .cons q _, h => ⟨_, _, rfl, q, h⟩
  | _, _, i + 1, _, .cons _ r, h => by simpa using RSt.get r h
theorem RSt.set {u : U} {v : V} (q : RU K H u v) : ∀ {ρ : ASt} {σ : St} (i : Nat), RSt K H ρ σ → RSt K H (ρ.set i (some u)) (σ.set i (some v))
  | _, _, _, .nil => .nil
  | _, _, 0, .skip r => .cons q r
  | _, _, i + 1, .skip r => .skip (RSt.set q i r)
  | _, _, 0, .cons _ r => .cons q r
  | _, _, i + 1, .cons h r => .cons h (RSt.set q i r)
end
/-! readings -/
abbrev AVK := U → AHp → Prop
abbrev AE := ASt → AHp → AVK → Prop
abbrev AT := ASt → AHp → (Bool → AHp → Prop) → Prop
abbrev AA := ASt → AHp → (List U → AHp → Prop) → Prop
abbrev AP1 := ASt → AHp → (Option Int → AHp → Prop) → Prop
structure AEnds where
  nx : ASt → AHp → Prop
  rt : AVK
  bk : ASt → AHp → Prop := fun _ _ => False
  ct : ASt → AHp → Prop := fun _ _ => False
abbrev AS := AEnds → ASt → AHp → Prop
/-- behind a step: what is told of the value and the heap -/
abbrev Aft (K : PySem.W.Frag) (H : Hp) (Q' : AVK) (Q : VK) : Prop := ∀ u A' v H', Kp K H H' → HR K H' A' → RU K H' u v → Q' u A' → Q v H'
def AbE (K : PySem.W.Frag) (te : TE) (ae : AE) : Prop := ∀ ρ A σ H Q' Q, RSt K H ρ σ → HR K H A → ae ρ A Q' → Aft K H Q' Q → te σ H Q
def AbT (K : PySem.W.Frag) (te : TT) (ae : AT) : Prop := ∀ ρ A σ H (Q' : Bool → AHp → Prop) (Q : Bool → Hp → Prop), RSt K H ρ σ → HR K H A → ae ρ A Q' → (∀ b A' H', Kp K H H' → HR K H' A' → Q' b A' → Q b H') → te σ H Q
def AbA (K : PySem.W.Frag) (te : TA) (ae : AA) : Prop := ∀ ρ A σ H (Q' : List U → AHp → Prop) (Q : List V → Hp → Prop), RSt K H ρ σ → HR K H A → ae ρ A Q' → (∀ us A' vs H', Kp K H H' → HR K H' A' → RUs K H' us vs → Q' us A' → Q vs H') → te σ H Q
def AbP (K : PySem.W.Frag) (te : TO) (ae : AP1) : Prop := ∀ ρ A σ H (Q' : Option Int → AHp → Prop) (Q : Option Int → Hp → Prop), RSt K H ρ σ → HR K H A → ae ρ A Q' → (∀ b A' H', Kp K H H' → HR K H' A' → Q' b A' → Q b H') → te σ H Q
structure AftS (K : PySem.W.Frag) (H : Hp) (D' : AEnds) (D : Ends) : Prop where
  nx : ∀ ρ A σ H', Kp K H H' → HR K H' A → RSt K H' ρ σ → D'.nx ρ A → D.nx σ H'
  rt : Aft K H D'.rt D.rt
  bk : ∀ ρ A σ H', Kp K H H' → HR K H' A → RSt K H' ρ σ → D'.bk ρ A → D.bk σ H'
  ct : ∀ ρ A σ H', Kp K H H' → HR K H' A → RSt K H' ρ σ → D'.ct ρ A → D.ct σ H'
theorem AftS.same {K : PySem.W.Frag} {H H1 : Hp} {D' : AEnds} {D : Ends} (h : AftS K H D' D) (k : Kp K H H1) : AftS K H1 D' D :=
  ⟨fun ρ A σ H' q => h.nx ρ A σ H' (k.trans q), fun u A v H' q => h.rt u A v H' (k.trans q), fun ρ A σ H' q => h.bk ρ A σ H' (k.trans q), fun ρ A σ H' q => h.ct ρ A σ H' (k.trans q)⟩
def AbS (K : PySem.W.Frag) (ts : TS) (as : AS) : Prop := ∀ ρ A σ H D' D, RSt K H ρ σ → HR K H A → as D' ρ A → AftS K H D' D → ts D σ H
end L2

set_option Elab.async false
set_option linter.all false
set_option maxRecDepth 100000
set_option maxHeartbeats 4000000
/-! readings over values: names, operations, statements -/
namespace L2
open PySem PySem.Spec PyProof.Rows
section
variable {K : PySem.W.Frag}
def aVar (i : Nat) : AE := fun ρ A Q => aGet ρ i fun u => Q u A
theorem ab_var {i : Nat} : AbE K (tVar i) (aVar i) := fun ρ A σ H Q' Q hr hh h k => by
  obtain ⟨u, v, e, r, q⟩ := hr.get h
  exact ⟨v, e, k u A v H (.refl H) hh r q⟩
def aC (u : U) : AE := fun _ A Q => Q u A
theorem ab_c {u : U} {v : V} (h : ∀ H, RU K H u v) : AbE K (tC v) (aC u) := fun ρ A σ H Q' Q hr hh q k => k u A v H (.refl H) hh (h H) q
theorem ab_int {i : Int} : AbE K (tC (.int i)) (aC (.int i)) := ab_c fun _ => .int i
theorem ab_str {i : Str} : AbE K (tC (.str i)) (aC (.str i)) := ab_c fun _ => .str i
theorem ab_bl {i : Bool} : AbE K (tC (.bl i)) (aC (.bl i)) := ab_c fun _ => .bl i
theorem ab_ty {n : String} : AbE K (tC (.ty n)) (aC (.ty n)) := ab_c fun _ => .ty n
theorem ab_ref {a : Addr} : AbE K (tC (.ref a)) (aC (.ref a)) := ab_c fun _ => .ref a
/-! two-place operations -/
abbrev AR2 := U → U → AHp → AVK → Prop
def AbR (K : PySem.W.Frag) (r : R2) (ar : AR2) : Prop := ∀ x y u w A H Q' Q, RU K H u x → RU K H w y → HR K H A → ar u w A Q' → Aft K H Q' Q → r x y H Q
def aOp (ar : AR2) (a b : AE) : AE := fun ρ A Q => a ρ A fun x A1 => b ρ A1 fun y A2 => ar x y A2 Q
theorem ab_op {r : R2} {ar : AR2} {ta tb : TE} {aa ab : AE} (hr : AbR K r ar) (ha : AbE K ta aa) (hb : AbE K tb ab) : AbE K (tOp r ta tb) (aOp ar aa ab) := fun ρ A σ H Q' Q hs hh h k =>
  ha ρ A σ H _ _ hs hh h fun x A1 v H1 k1 h1 r1 q1 => hb ρ A1 σ H1 _ _ (hs.same k1) h1 q1 fun y A2 v2 H2 k2 h2 r2 q2 => hr _ _ _ _ _ _ _ _ (r1.same k2) r2 h2 q2 fun z A3 v3 H3 k3 h3 r3 q3 => k _ _ _ _ (k1.trans (k2.trans k3)) h3 r3 q3
def AbU (K : PySem.W.Frag) (r : V → Hp → VK → Prop) (ar : U → AHp → AVK → Prop) : Prop := ∀ x u A H Q' Q, RU K H u x → HR K H A → ar u A Q' → Aft K H Q' Q → r x H Q
def aUn (ar : U → AHp → AVK → Prop) (a : AE) : AE := fun ρ A Q => a ρ A fun x A1 => ar x A1 Q
theorem ab_un {r : V → Hp → VK → Prop} {ar : U → AHp → AVK → Prop} {ta : TE} {aa : AE} (hr : AbU K r ar) (ha : AbE K ta aa) : AbE K (tUn r ta) (aUn ar aa) := fun ρ A σ H Q' Q hs hh h k =>
  ha ρ A σ H _ _ hs hh h fun x A1 v H1 k1 h1 r1 q1 => hr _ _ _ _ _ _ r1 h1 q1 fun z A3 v3 H3 k3 h3 r3 q3 => k _ _ _ _ (k1.trans k3) h3 r3 q3
/-! tests -/
def aB (a : AE) : AT := fun ρ A Q => a ρ A fun x A1 => ∃ c, x = .bl c ∧ Q c A1
theorem ab_tb {ta : TE} {aa : AE} (ha : AbE K ta aa) : AbT K (tB ta) (aB aa) := fun ρ A σ H Q' Q hs hh h k =>
  ha ρ A σ H _ _ hs hh h fun x A1 v H1 k1 h1 r1 ⟨c, e, q1⟩ => by subst e; cases r1; exact ⟨c, rfl, k c A1 H1 k1 h1 q1⟩
theorem ab_test {ta : TE} {aa : AE} (ha : AbE K ta aa) : AbT K (tTest ta) (aB aa) := ab_tb ha
def aAnd (t u : AT) : AT := fun ρ A Q => t ρ A fun c A1 => if c = true then u ρ A1 Q else Q false A1
def aOr (t u : AT) : AT := fun ρ A Q => t ρ A fun c A1 => if c = true then Q true A1 else u ρ A1 Q
def aNot (t : AT) : AT := fun ρ A Q => t ρ A fun c A1 => Q (!c) A1
theorem ab_and {t u : TT} {a b : AT} (ha : AbT K t a) (hb : AbT K u b) : AbT K (tAnd t u) (aAnd a b) := fun ρ A σ H Q' Q hs hh h k =>
  ha ρ A σ H _ _ hs hh h fun c A1 H1 k1 h1 q1 => by
    cases c
    · exact iteN (by decide) (k _ _ _ k1 h1 (by simpa using q1))
    · exact iteP rfl (hb ρ A1 σ H1 _ _ (hs.same k1) h1 (by simpa using q1) fun c A2 H2 k2 h2 q2 => k _ _ _ (k1.trans k2) h2 q2)
theorem ab_or {t u : TT} {a b : AT} (ha : AbT K t a) (hb : AbT K u b) : AbT K (tOr t u) (aOr a b) := fun ρ A σ H Q' Q hs hh h k =>
  ha ρ A σ H _ _ hs hh h fun c A1 H1 k1 h1 q1 => by
    cases c
    · exact iteN (by decide) (hb ρ A1 σ H1 _ _ (hs.same k1) h1 (by simpa using q1) fun c A2 H2 k2 h2 q2 => k _ _ _ (k1.trans k2) h2 q2)
    · exact iteP rfl (k _ _ _ k1 h1 (by simpa using q1))
theorem ab_not {t : TT} {a : AT} (ha : AbT K t a) : AbT K (tNot t) (aNot a) := fun ρ A σ H Q' Q hs hh h k => ha ρ A σ H _ _ hs hh h fun c A1 H1 k1 h1 q1 => k _ _ _ k1 h1 q1
def aAndV (a b : AE) : AE := fun ρ A Q => a ρ A fun x A1 => ∃ c, x = .bl c ∧ if c = true then b ρ A1 Q else Q (.bl false) A1
def aOrV (a b : AE) : AE := fun ρ A Q => a ρ A fun x A1 => ∃ c, x = .bl c ∧ if c = true then Q (.bl true) A1 else b ρ A1 Q
def aNotV (a : AE) : AE := fun ρ A Q => a ρ A fun x A1 => ∃ c, x = .bl c ∧ Q (.bl (!c)) A1
theorem ab_andv {t u : TE} {a b : AE} (ha : AbE K t a) (hb : AbE K u b) : AbE K (tAndV t u) (aAndV a b) := fun ρ A σ H Q' Q hs hh h k =>
  ha ρ A σ H _ _ hs hh h fun x A1 v H1 k1 h1 r1 ⟨c, e, q1⟩ => by
    subst e; cases r1
    refine ⟨c, rfl, ?_⟩
    cases c
    · exact iteN (by decide) (k _ _ _ _ k1 h1 (.bl _) (by simpa using q1))
    · exact iteP rfl (hb ρ A1 σ H1 _ _ (hs.same k1) h1 (by simpa using q1) fun z A2 v2 H2 k2 h2 r2 q2 => k _ _ _ _ (k1.trans k2) h2 r2 q2)
theorem ab_notv {t : TE} {a : AE} (ha : AbE K t a) : AbE K (tNotV t) (aNotV a) := fun ρ A σ H Q' Q hs hh h k =>
  ha ρ A σ H _ _ hs hh h fun x A1 v H1 k1 h1 r1 ⟨c, e, q1⟩ => by subst e; cases r1; exact ⟨c, rfl, k _ _ _ _ k1 h1 (.bl _) q1⟩
def aIf (t : AT) (a b : AE) : AE := fun ρ A Q => t ρ A fun c A1 => if c = true then a ρ A1 Q else b ρ A1 Q
def aChain (r r' : AR2) (a b c : AE) : AE := fun ρ A Q => a ρ A fun x A1 => b ρ A1 fun y A2 => r x y A2 fun z A3 => ∃ k, z = .bl k ∧ (if k = true then c ρ A3 fun w A4 => r' y w A4 Q else Q (.bl false) A3)
def aTrue : AT := fun _ A Q => Q true A
theorem ab_true : AbT K tTrue aTrue := fun ρ A σ H Q' Q hs hh h k => k _ _ _ (.refl H) hh h
/-! argument lists, displays -/
def aNil : AA := fun _ A Q => Q [] A
theorem ab_nil : AbA K tNil aNil := fun ρ A σ H Q' Q hs hh h k => k _ _ _ _ (.refl H) hh .nil h
def aCons (a : AE) (l : AA) : AA := fun ρ A Q => a ρ A fun x A1 => l ρ A1 fun xs A2 => Q (x :: xs) A2
theorem ab_cons {ta : TE} {tl : TA} {a : AE} {l : AA} (ha : AbE K ta a) (hl : AbA K tl l) : AbA K (tCons ta tl) (aCons a l) := fun ρ A σ H Q' Q hs hh h k =>
  ha ρ A σ H _ _ hs hh h fun x A1 v H1 k1 g1 r1 q1 => hl ρ A1 σ H1 _ _ (hs.same k1) g1 q1 fun xs A2 vs H2 k2 g2 r2 q2 => k _ _ _ _ (k1.trans k2) g2 (.cons (r1.same k2) r2) q2
def aConst (us : List U) : AA := fun _ A L => L us A
theorem ab_strs {xs : List Str} : AbA K (tConst (xs.map V.str)) (aConst (xs.map U.str)) := fun ρ A σ H Q' Q hs hh h k => k _ _ _ _ (.refl H) hh RUs.of_strs h
def aTup (l : AA) : AE := fun ρ A Q => l ρ A fun xs A1 => xs.length ≤ sizeLine ∧ Q (.tup xs) A1
theorem ab_tup {tl : TA} {l : AA} (hl : AbA K tl l) : AbE K (tTup tl) (aTup l) := fun ρ A σ H Q' Q hs hh h k =>
  hl ρ A σ H _ _ hs hh h fun xs A1 vs H1 k1 g1 r1 ⟨hz, q1⟩ => ⟨by rw [← r1.length]; exact hz, fun p hp => by
    have s := Same.upd_new (o := .tup vs) hp
    exact k _ _ _ _ (k1.trans s.kp) (g1.grow s) (.tup (SqT.of upd_same) (r1.same s.kp)) q1⟩
def aLst (l : AA) : AE := fun ρ A Q => l ρ A fun xs A1 => xs.length ≤ sizeLine ∧ ∀ p, A1 p = none → Q (.ref p) (updA A1 p (.lst xs))
theorem ab_lst {tl : TA} {l : AA} (hl : AbA K tl l) : AbE K (tLst tl) (aLst l) := fun ρ A σ H Q' Q hs hh h k =>
  hl ρ A σ H _ _ hs hh h fun xs A1 vs H1 k1 g1 r1 ⟨hz, q1⟩ => ⟨by rw [← r1.length]; exact hz, fun p hp => k _ _ _ _ (k1.trans (Same.upd_new hp).kp) (g1.newL hp r1) (.ref p) (q1 p (g1.none hp))⟩
/-! calls of what is known -/
def AbL (K : PySem.W.Frag) (r : List V → Hp → VK → Prop) (ar : List U → AHp → AVK → Prop) : Prop := ∀ xs us A H Q' Q, RUs K H us xs → HR K H A → ar us A Q' → Aft K H Q' Q → r xs H Q
def aCB (ar : List U → AHp → AVK → Prop) (l : AA) : AE := fun ρ A Q => l ρ A fun us A1 => ar us A1 Q
theorem ab_cb {r : List V → Hp → VK → Prop} {ar : List U → AHp → AVK → Prop} {tl : TA} {l : AA} (hr : AbL K r ar) (hl : AbA K tl l) : AbE K (tCB r tl) (aCB ar l) := fun ρ A σ H Q' Q hs hh h k =>
  hl ρ A σ H _ _ hs hh h fun xs A1 vs H1 k1 g1 r1 q1 => hr _ _ _ _ _ _ r1 g1 q1 fun z A3 v3 H3 k3 h3 r3 q3 => k _ _ _ _ (k1.trans k3) h3 r3 q3
/-- a def's promise over values -/
abbrev ASp := List U → AHp → AVK → Prop
def spOf (K : PySem.W.Frag) (asp : ASp) : Sp := fun vs H Q _ => ∃ us A Q', RUs K H us vs ∧ HR K H A ∧ asp us A Q' ∧ Aft K H Q' Q
def aCall (asp : ASp) (l : AA) : AE := fun ρ A Q => l ρ A fun us A1 => asp us A1 Q
theorem ab_call {asp : ASp} {E : XK} {tl : TA} {l : AA} (hl : AbA K tl l) : AbE K (tCall (spOf K asp) [] E tl) (aCall asp l) := fun ρ A σ H Q' Q hs hh h k =>
  hl ρ A σ H _ _ hs hh h fun us A1 vs H1 k1 g1 r1 q1 => ⟨us, A1, Q', by rw [List.append_nil]; exact r1, g1, q1, fun z A3 v3 H3 k3 h3 r3 q3 => k _ _ _ _ (k1.trans k3) h3 r3 q3⟩
def aCallV (f : Addr) (asp : ASp) (a : AE) (l : AA) : AE := fun ρ A Q => a ρ A fun y A0 => y = .ref f ∧ l ρ A0 fun us A1 => asp us A1 Q
theorem ab_callV {asp : ASp} {E : XK} {f : Addr} {tf : TE} {af : AE} {tl : TA} {l : AA} (hf : AbE K tf af) (hl : AbA K tl l) : AbE K (tCallV f (spOf K asp) [] E tf tl) (aCallV f asp af l) := fun ρ A σ H Q' Q hs hh h k =>
  hf ρ A σ H _ _ hs hh h fun x A0 v H0 k0 g0 r0 ⟨e, q0⟩ => by
    subst e; cases r0
    exact ⟨rfl, hl ρ A0 σ H0 _ _ (hs.same k0) g0 q0 fun us A1 vs H1 k1 g1 r1 q1 => ⟨us, A1, Q', by rw [List.append_nil]; exact r1, g1, q1, fun z A3 v3 H3 k3 h3 r3 q3 => k _ _ _ _ (k0.trans (k1.trans k3)) h3 r3 q3⟩⟩
/-! slices -/
def aNoPart : AP1 := fun _ A Q => Q none A
theorem ab_nopart : AbP K tNoPart aNoPart := fun ρ A σ H Q' Q hs hh h k => k _ _ _ (.refl H) hh h
def aPart (a : AE) : AP1 := fun ρ A Q => a ρ A fun x A1 => ∃ i, x = .int i ∧ Q (some i) A1
theorem ab_part {t : TE} {a : AE} (ha : AbE K t a) : AbP K (tPart t) (aPart a) := fun ρ A σ H Q' Q hs hh h k =>
  ha ρ A σ H _ _ hs hh h fun x A1 v H1 k1 h1 r1 ⟨i, e, q1⟩ => by subst e; cases r1; exact ⟨i, rfl, k _ _ _ k1 h1 q1⟩
def AbSl (K : PySem.W.Frag) (r : V → Option Int → Option Int → Hp → VK → Prop) (ar : U → Option Int → Option Int → AHp → AVK → Prop) : Prop := ∀ x u lo hi A H Q' Q, RU K H u x → HR K H A → ar u lo hi A Q' → Aft K H Q' Q → r x lo hi H Q
def aSl (ar : U → Option Int → Option Int → AHp → AVK → Prop) (a : AE) (l h : AP1) : AE := fun ρ A Q => a ρ A fun x A1 => l ρ A1 fun i A2 => h ρ A2 fun j A3 => ar x i j A3 Q
theorem ab_sl {r : V → Option Int → Option Int → Hp → VK → Prop} {ar : U → Option Int → Option Int → AHp → AVK → Prop} {t : TE} {tl th : TO} {a : AE} {l h : AP1} (hr : AbSl K r ar) (ha : AbE K t a) (hl : AbP K tl l) (hh : AbP K th h) : AbE K (tSl r t tl th) (aSl ar a l h) := fun ρ A σ H Q' Q hs g w k =>
  ha ρ A σ H _ _ hs g w fun x A1 v H1 k1 g1 r1 q1 => hl ρ A1 σ H1 _ _ (hs.same k1) g1 q1 fun i A2 H2 k2 g2 q2 => hh ρ A2 σ H2 _ _ (hs.same (k1.trans k2)) g2 q2 fun j A3 H3 k3 g3 q3 =>
    hr _ _ _ _ _ _ _ _ (r1.same (k2.trans k3)) g3 q3 fun z A4 v4 H4 k4 g4 r4 q4 => k _ _ _ _ (k1.trans (k2.trans (k3.trans k4))) g4 r4 q4
/-! methods of lists and texts -/
def AbM (K : PySem.W.Frag) (T : String) (r : V → List V → Hp → VK → Prop) (ar : U → List U → AHp → AVK → Prop) : Prop := ∀ x u xs us A H Q' Q, RU K H u x → RUs K H us xs → HR K H A → ar u us A Q' → Aft K H Q' Q → tyV K T x H ∧ r x xs H Q
/-- the type is known ahead of the arguments -/
def AbY (K : PySem.W.Frag) (T : String) (y : U → AHp → Prop) : Prop := ∀ x u A H, RU K H u x → HR K H A → y u A → tyV K T x H
def aBM0 (y : U → AHp → Prop) (ar : U → List U → AHp → AVK → Prop) (a : AE) : AE := fun ρ A Q => a ρ A fun x A1 => y x A1 ∧ ar x [] A1 Q
def aBM (y : U → AHp → Prop) (ar : U → List U → AHp → AVK → Prop) (a : AE) (l : AA) : AE := fun ρ A Q => a ρ A fun x A1 => y x A1 ∧ l ρ A1 fun us A2 => ar x us A2 Q
def AbMt (K : PySem.W.Frag) (r : V → List V → Hp → VK → Prop) (ar : U → List U → AHp → AVK → Prop) : Prop := ∀ x u xs us A H Q' Q, RU K H u x → RUs K H us xs → HR K H A → ar u us A Q' → Aft K H Q' Q → r x xs H Q
theorem ab_bm0 {T : String} {r : V → List V → Hp → VK → Prop} {y : U → AHp → Prop} {ar : U → List U → AHp → AVK → Prop} {t : TE} {a : AE} (hy : AbY K T y) (hr : AbMt K r ar) (ha : AbE K t a) : AbE K (tBM0 K T r t) (aBM0 y ar a) := fun ρ A σ H Q' Q hs g w k =>
  ha ρ A σ H _ _ hs g w fun x A1 v H1 k1 g1 r1 ⟨q0, q1⟩ => ⟨hy _ _ _ _ r1 g1 q0, hr _ _ _ _ _ _ _ _ r1 .nil g1 q1 fun z A4 v4 H4 k4 g4 r4 q4 => k _ _ _ _ (k1.trans k4) g4 r4 q4⟩
theorem ab_bm {T : String} {r : V → List V → Hp → VK → Prop} {y : U → AHp → Prop} {ar : U → List U → AHp → AVK → Prop} {t : TE} {a : AE} {tl : TA} {l : AA} (hy : AbY K T y) (hr : AbMt K r ar) (ha : AbE K t a) (hl : AbA K tl l) : AbE K (tBM K T r t tl) (aBM y ar a l) := fun ρ A σ H Q' Q hs g w k =>
  ha ρ A σ H _ _ hs g w fun x A1 v H1 k1 g1 r1 ⟨q0, q1⟩ => ⟨hy _ _ _ _ r1 g1 q0, hl ρ A1 σ H1 _ _ (hs.same k1) g1 q1 fun us A2 vs H2 k2 g2 r2 q2 => hr _ _ _ _ _ _ _ _ (r1.same k2) r2 g2 q2 fun z A4 v4 H4 k4 g4 r4 q4 => k _ _ _ _ (k1.trans (k2.trans k4)) g4 r4 q4⟩
/-! statements -/
def aNext : AS := fun D ρ A => D.nx ρ A
theorem ab_next : AbS K tNext aNext := fun ρ A σ H D' D hs g w k => k.nx _ _ _ _ (.refl H) g hs w
def aSeq (t u : AS) : AS := fun D ρ A => t { D with nx := u D } ρ A
theorem ab_seq {t u : TS} {a b : AS} (ha : AbS K t a) (hb : AbS K u b) : AbS K (tSeq t u) (aSeq a b) := fun ρ A σ H D' D hs g w k =>
  ha ρ A σ H _ _ hs g w ⟨fun ρ1 A1 σ1 H1 k1 g1 r1 q1 => hb ρ1 A1 σ1 H1 _ _ r1 g1 q1 (k.same k1), k.rt, k.bk, k.ct⟩
def aBreak : AS := fun D ρ A => D.bk ρ A
def aCont : AS := fun D ρ A => D.ct ρ A
def aDrop (a : AE) : AS := fun D ρ A => a ρ A fun _ A1 => D.nx ρ A1
theorem ab_drop {t : TE} {a : AE} (ha : AbE K t a) : AbS K (tDrop t) (aDrop a) := fun ρ A σ H D' D hs g w k => ha ρ A σ H _ _ hs g w fun x A1 v H1 k1 g1 r1 q1 => k.nx _ _ _ _ k1 g1 (hs.same k1) q1
def aRet (a : AE) : AS := fun D ρ A => a ρ A D.rt
theorem ab_ret {t : TE} {a : AE} (ha : AbE K t a) : AbS K (tRet t) (aRet a) := fun ρ A σ H D' D hs g w k => ha ρ A σ H _ _ hs g w k.rt
def aRetN : AS := fun D _ A => D.rt .non A
def aIfS (c : AT) (t u : AS) : AS := fun D ρ A => c ρ A fun b A1 => if b = true then t D ρ A1 else u D ρ A1
theorem ab_ifs {c : TT} {t u : TS} {ac : AT} {a b : AS} (hc : AbT K c ac) (ha : AbS K t a) (hb : AbS K u b) : AbS K (tIfS c t u) (aIfS ac a b) := fun ρ A σ H D' D hs g w k =>
  hc ρ A σ H _ _ hs g w fun c A1 H1 k1 g1 q1 => by
    cases c
    · exact iteN (by decide) (hb ρ A1 σ H1 _ _ (hs.same k1) g1 (by simpa using q1) (k.same k1))
    · exact iteP rfl (ha ρ A1 σ H1 _ _ (hs.same k1) g1 (by simpa using q1) (k.same k1))
/-! targets -/
abbrev AG := U → ASt → AHp → (ASt → AHp → Prop) → Prop
abbrev AGs := List U → ASt → AHp → (ASt → AHp → Prop) → Prop
abbrev AftG (K : PySem.W.Frag) (H : Hp) (Q' : ASt → AHp → Prop) (Q : St → Hp → Prop) : Prop := ∀ ρ A σ H', Kp K H H' → HR K H' A → RSt K H' ρ σ → Q' ρ A → Q σ H'
def AbG (K : PySem.W.Frag) (t : TG) (a : AG) : Prop := ∀ u v ρ A σ H Q' Q, RU K H u v → RSt K H ρ σ → HR K H A → a u ρ A Q' → AftG K H Q' Q → t v σ H Q
def AbGs (K : PySem.W.Frag) (t : TGs) (a : AGs) : Prop := ∀ u v ρ A σ H Q' Q, RUs K H u v → RSt K H ρ σ → HR K H A → a u ρ A Q' → AftG K H Q' Q → t v σ H Q
def bName (i : Nat) : AG := fun u ρ A Q => Q (ρ.set i (some u)) A
theorem ab_name {i : Nat} : AbG K (gName i) (bName i) := fun u v ρ A σ H Q' Q r hs g w k => k _ _ _ _ (.refl H) g (hs.set r i) w
def bNil : AGs := fun us ρ A Q => us = [] ∧ Q ρ A
theorem ab_gnil : AbGs K gNil bNil := fun u v ρ A σ H Q' Q r hs g ⟨e, w⟩ k => by subst e; cases r; exact ⟨rfl, k _ _ _ _ (.refl H) g hs w⟩
def bCons (t : AG) (u : AGs) : AGs := fun us ρ A Q => ∃ v r, us = v :: r ∧ t v ρ A fun ρ' A' => u r ρ' A' Q
theorem ab_gcons {t : TG} {u : TGs} {a : AG} {b : AGs} (ha : AbG K t a) (hb : AbGs K u b) : AbGs K (gCons t u) (bCons a b) := fun us vs ρ A σ H Q' Q r hs g ⟨x, xs, e, w⟩ k => by
  subst e
  cases r with
  | cons r rr => exact ⟨_, _, rfl, ha _ _ _ _ _ _ _ _ r hs g w fun ρ1 A1 σ1 H1 k1 g1 s1 q1 => hb _ _ _ _ _ _ _ _ (rr.same k1) s1 g1 q1 fun ρ2 A2 σ2 H2 k2 g2 s2 q2 => k _ _ _ _ (k1.trans k2) g2 s2 q2⟩
def bTup (n : Nat) (t : AGs) : AG := fun u ρ A Q => ∃ us, u = .tup us ∧ us.length = n ∧ t us ρ A Q
theorem ab_gtup {n : Nat} {t : TGs} {a : AGs} (ha : AbGs K t a) : AbG K (gTup K n t) (bTup n a) := fun u v ρ A σ H Q' Q r hs g ⟨us, e, hn, w⟩ k => by
  subst e
  cases r with
  | tup h rr => exact ⟨_, _, rfl, h, by rw [← rr.length]; exact hn, ha _ _ _ _ _ _ _ _ rr hs g w k⟩
def aAsg (a : AE) (b : AG) : AS := fun D ρ A => a ρ A fun x A1 => b x ρ A1 D.nx
theorem ab_asg {t : TE} {a : AE} {tg : TG} {b : AG} (ha : AbE K t a) (hb : AbG K tg b) : AbS K (tAsg t tg) (aAsg a b) := fun ρ A σ H D' D hs g w k =>
  ha ρ A σ H _ _ hs g w fun x A1 v H1 k1 g1 r1 q1 => hb _ _ _ _ _ _ _ _ r1 (hs.same k1) g1 q1 fun ρ2 A2 σ2 H2 k2 g2 s2 q2 => k.nx _ _ _ _ (k1.trans k2) g2 s2 q2
def aPar (i j : Nat) (l : AA) : AS := fun D ρ A => l ρ A fun us A1 => ∃ v w, us = [v, w] ∧ D.nx ((ρ.set i (some v)).set j (some w)) A1
/-- x op= e -/
def aAug (i : Nat) (a : AE) (ar : AR2) : AS := fun D ρ A => aGet ρ i fun x => a ρ A fun y A1 => ar x y A1 fun z A2 => D.nx (ρ.set i (some z)) A2
/-! while -/
def aWhile (c : AT) (b : AS) : AS := fun D ρ A => ∃ W : Nat → ASt → AHp → Prop, (∃ m, W m ρ A) ∧ ∀ m ρ A, W m ρ A →
  c ρ A fun k A1 => if k = true then ∃ N : ASt → AHp → Prop, (∀ ρ' A', N ρ' A' → ∃ m', m' < m ∧ W m' ρ' A') ∧ b { D with nx := N, ct := N, bk := D.nx } ρ A1 else D.nx ρ A1
theorem ab_while {c : TT} {t : TS} {ac : AT} {a : AS} (hc : AbT K c ac) (ha : AbS K t a) : AbS K (tWhile c t) (aWhile ac a) := fun ρ A σ H D' D hs g ⟨W, ⟨m0, w0⟩, turn⟩ k => by
  refine ⟨fun m σ1 H1 => ∃ ρ1 A1, Kp K H H1 ∧ HR K H1 A1 ∧ RSt K H1 ρ1 σ1 ∧ W m ρ1 A1, ⟨m0, ρ, A, .refl H, g, hs, w0⟩, ?_⟩
  rintro m σ1 H1 ⟨ρ1, A1, k1, g1, s1, w1⟩
  refine hc ρ1 A1 σ1 H1 _ _ s1 g1 (turn m ρ1 A1 w1) fun b A2 H2 k2 g2 q2 => ?_
  cases b
  · exact iteN (by decide) (k.nx _ _ _ _ (k1.trans k2) g2 (s1.same k2) (by simpa using q2))
  · refine iteP rfl ?_
    obtain ⟨N, hN, q2⟩ := (by simpa using q2 : ∃ N : ASt → AHp → Prop, (∀ ρ' A', N ρ' A' → ∃ m', m' < m ∧ W m' ρ' A') ∧ a { D' with nx := N, ct := N, bk := D'.nx } ρ1 A2)
    refine ⟨fun σ' H' => ∃ ρ' A', Kp K H H' ∧ HR K H' A' ∧ RSt K H' ρ' σ' ∧ N ρ' A', ?_, ?_⟩
    · rintro σ' H' ⟨ρ', A', k', g', s', n'⟩
      obtain ⟨m', hm, w'⟩ := hN ρ' A' n'
      exact ⟨m', hm, ρ', A', k', g', s', w'⟩
    · have k12 := k1.trans k2
      exact ha ρ1 A2 σ1 H2 _ _ (s1.same k2) g2 q2 ⟨fun ρ A σ H' k3 g3 s3 n3 => ⟨ρ, A, k12.trans k3, g3, s3, n3⟩, (k.same k12).rt, fun ρ A σ H' k3 g3 s3 n3 => k.nx _ _ _ _ (k12.trans k3) g3 s3 n3, fun ρ A σ H' k3 g3 s3 n3 => ⟨ρ, A, k12.trans k3, g3, s3, n3⟩⟩
end
end L2

set_option Elab.async false
set_option linter.all false
set_option maxRecDepth 100000
set_option maxHeartbeats 4000000
/-! readings over values: loops, comprehensions -/
namespace L2
open PySem PySem.Spec PyProof.Rows
/-- at turn i: an item, or the end -/
abbrev AIt := Nat → AHp → Option U → Prop
def AbJ (K : PySem.W.Frag) (H0 : Hp) (J : It) (aj : AIt) : Prop := ∀ i A H r, Kp K H0 H → HR K H A → aj i A r → match r with
  | none => J.stop i H
  | some u => J.go i H ∧ ∀ x H', J.yld i H x H' → Kp K H H' ∧ HR K H' A ∧ RU K H' u x
abbrev AI := ASt → AHp → (AIt → AHp → Prop) → Prop
def AbI (K : PySem.W.Frag) (wi : TI) (ai : AI) : Prop := ∀ ρ A σ H R' R, RSt K H ρ σ → HR K H A → ai ρ A R' → (∀ aj A' J H', Kp K H H' → HR K H' A' → AbJ K H' J aj → R' aj A' → R J H') → wi σ H R
/-- a loop over J -/
def aLoop (J : AIt) (g : AG) (b : AS) (D : AEnds) (ρ : ASt) (A : AHp) : Prop := ∃ W : Nat → Nat → ASt → AHp → Prop, (∃ m, W 0 m ρ A) ∧ ∀ i m ρ A, W i m ρ A →
  (J i A none ∧ D.nx ρ A) ∨ ∃ u, J i A (some u) ∧ ∃ N : ASt → AHp → Prop, (∀ ρ' A', N ρ' A' → ∃ m', m' < m ∧ W (i + 1) m' ρ' A') ∧ g u ρ A fun ρ2 A2 => b { D with nx := N, ct := N, bk := D.nx } ρ2 A2
def aFor (wi : AI) (g : AG) (b : AS) : AS := fun D ρ A => wi ρ A fun J A1 => aLoop J g b D ρ A1
section
variable {K : PySem.W.Frag}
theorem ab_for {wi : TI} {g : TG} {t : TS} {ai : AI} {ag : AG} {a : AS} (hi : AbI K wi ai) (hg : AbG K g ag) (ha : AbS K t a) : AbS K (tFor wi g t) (aFor ai ag a) := fun ρ A σ H D' D hs g0 w k => by
  refine hi ρ A σ H _ _ hs g0 w fun aj A1 J H1 k1 g1 hj q => ?_
  obtain ⟨W, ⟨m0, w0⟩, turn⟩ := q
  refine ⟨fun i m σ2 H2 => ∃ ρ2 A2, Kp K H1 H2 ∧ HR K H2 A2 ∧ RSt K H2 ρ2 σ2 ∧ W i m ρ2 A2, ⟨m0, ρ, A1, .refl H1, g1, hs.same k1, w0⟩, ?_⟩
  rintro i m σ2 H2 ⟨ρ2, A2, k2, g2, s2, w2⟩
  have k12 := k1.trans k2
  rcases turn i m ρ2 A2 w2 with ⟨hstop, q⟩ | ⟨u, hgo, N, hN, q⟩
  · exact .inl ⟨hj i A2 H2 _ k2 g2 hstop, k.nx _ _ _ _ k12 g2 s2 q⟩
  · obtain ⟨j1, j2⟩ := hj i A2 H2 _ k2 g2 hgo
    refine .inr ⟨j1, fun σ' H' => ∃ ρ' A', Kp K H1 H' ∧ HR K H' A' ∧ RSt K H' ρ' σ' ∧ N ρ' A', ?_, fun x H3 hy => ?_⟩
    · rintro σ' H' ⟨ρ', A', k', g', s', n'⟩
      obtain ⟨m', hm, w'⟩ := hN ρ' A' n'
      exact ⟨m', hm, ρ', A', k', g', s', w'⟩
    · obtain ⟨k3, g3, r3⟩ := j2 x H3 hy
      refine hg _ _ _ _ _ _ _ _ r3 (s2.same k3) g3 q fun ρ4 A4 σ4 H4 k4 g4 s4 q4 => ?_
      have k24 := k2.trans (k3.trans k4)
      exact ha ρ4 A4 σ4 H4 _ _ s4 g4 q4 ⟨fun ρ5 A5 σ5 H5 k5 g5 s5 n5 => ⟨ρ5, A5, k24.trans k5, g5, s5, n5⟩, (k.same (k1.trans k24)).rt, fun ρ5 A5 σ5 H5 k5 g5 s5 n5 => k.nx _ _ _ _ ((k1.trans k24).trans k5) g5 s5 n5, fun ρ5 A5 σ5 H5 k5 g5 s5 n5 => ⟨ρ5, A5, k24.trans k5, g5, s5, n5⟩⟩
/-! what is walked -/
/-- items that stay -/
def jFix (us : List U) : AIt := fun i _ r => r = us[i]?
/-- the list at a -/
def jLst (a : Addr) : AIt := fun i A r => ∃ us, A a = some (.lst us) ∧ r = us[i]?
def aJof (y : U → AHp → (AIt → AHp → Prop) → Prop) (a : AE) : AI := fun ρ A R => a ρ A fun x A1 => y x A1 R
def AbY1 (K : PySem.W.Frag) (u : V → Hp → (It → Hp → Prop) → Prop) (y : U → AHp → (AIt → AHp → Prop) → Prop) : Prop := ∀ x v A H R' R, RU K H x v → HR K H A → y x A R' → (∀ aj A' J H', Kp K H H' → HR K H' A' → AbJ K H' J aj → R' aj A' → R J H') → u v H R
theorem ab_jof {u : V → Hp → (It → Hp → Prop) → Prop} {y : U → AHp → (AIt → AHp → Prop) → Prop} {t : TE} {a : AE} (hy : AbY1 K u y) (ha : AbE K t a) : AbI K (jOf u t) (aJof y a) := fun ρ A σ H R' R hs g w k =>
  ha ρ A σ H _ _ hs g w fun x A1 v H1 k1 g1 r1 q1 => hy _ _ _ _ _ _ r1 g1 q1 fun aj A2 J H2 k2 g2 hj q2 => k _ _ _ _ (k1.trans k2) g2 hj q2
theorem itl_fix {H : Hp} {a : Addr} {us : List U} {vs : List V} (h : SqR K H a vs) (r : RUs K H us vs) : AbJ K H (Itl K a) (jFix us) := fun i A H1 x k g e => by
  have e : x = us[i]? := e
  have h1 := (k.r _ _ h).sq
  have r1 := r.same k
  subst e
  cases hu : us[i]? with
  | none => exact ⟨vs, h1, by rw [← r1.length]; exact List.getElem?_eq_none_iff.mp hu⟩
  | some u =>
    obtain ⟨v, hv, rv⟩ := r1.get' hu
    refine ⟨⟨vs, v, h1, hv⟩, ?_⟩
    rintro x H' ⟨rfl, hx⟩
    have := hx vs h1
    rw [hv] at this; cases this
    exact ⟨.refl _, g, rv⟩
theorem itl_lst {H : Hp} {a : Addr} : AbJ K H (Itl K a) (jLst a) := fun i A H1 x k g ⟨us, hA, e⟩ => by
  subst e
  obtain ⟨vs, h1, r1⟩ := g.list hA
  have h1 : SqL K H1 a vs := SqL.of h1
  cases hu : us[i]? with
  | none => exact ⟨vs, h1, by rw [← r1.length]; exact List.getElem?_eq_none_iff.mp hu⟩
  | some u =>
    obtain ⟨v, hv, rv⟩ := r1.get' hu
    refine ⟨⟨vs, v, h1, hv⟩, ?_⟩
    rintro x H' ⟨rfl, hx⟩
    have := hx vs h1
    rw [hv] at this; cases this
    exact ⟨.refl _, g, rv⟩
theorem itt_fix {H : Hp} {a : Addr} {us : List U} {vs : List V} (h : SqT K H a vs) (r : RUs K H us vs) : AbJ K H (Itt K a) (jFix us) := fun i A H1 x k g e => by
  have e : x = us[i]? := e
  have h1 := k.t _ _ h
  have r1 := r.same k
  subst e
  cases hu : us[i]? with
  | none => exact ⟨vs, h1, by rw [← r1.length]; exact List.getElem?_eq_none_iff.mp hu⟩
  | some u =>
    obtain ⟨v, hv, rv⟩ := r1.get' hu
    refine ⟨⟨vs, v, h1, hv⟩, ?_⟩
    rintro x H' ⟨rfl, hx⟩
    have := hx vs h1
    rw [hv] at this; cases this
    exact ⟨.refl _, g, rv⟩
def yList : U → AHp → (AIt → AHp → Prop) → Prop := fun u A R => match u with
  | .ref a => (∃ us, A a = some (.lst us)) ∧ R (jLst a) A
  | .rol us => R (jFix us) A
  | _ => False
theorem ab_ylist : AbY1 K (uList K) yList := fun x v A H R' R r g w k => by
  cases r with
  | ref a =>
    obtain ⟨⟨us, hA⟩, w⟩ := w
    obtain ⟨vs, h1, r1⟩ := g.list hA
    exact ⟨⟨vs, SqL.of h1⟩, k _ _ _ _ (.refl H) g itl_lst w⟩
  | rol h1 r1 => exact ⟨⟨_, h1.sq⟩, k _ _ _ _ (.refl H) g (itl_fix h1 r1) w⟩
  | _ => exact w.elim
def yTup : U → AHp → (AIt → AHp → Prop) → Prop := fun u A R => match u with
  | .tup us => R (jFix us) A
  | _ => False
theorem ab_ytup : AbY1 K (uTupI K) yTup := fun x v A H R' R r g w k => by
  cases r with
  | tup h1 r1 => exact ⟨⟨_, h1⟩, k _ _ _ _ (.refl H) g (itt_fix h1 r1) w⟩
  | _ => exact w.elim
def yStr : U → AHp → (AIt → AHp → Prop) → Prop := fun u A R => match u with
  | .str z => R (jFix (z.cps.toList.map fun c => .str ⟨#[c]⟩)) A
  | _ => False
def rngU (lo : Int) (n : Nat) : List U := (List.range n).map fun (i : Nat) => .int (lo + (i : Int))
theorem rngU_get (lo : Int) (n i : Nat) : (rngU lo n)[i]? = if i < n then some (.int (lo + (i : Int))) else none := by
  unfold rngU
  rw [List.getElem?_map]
  by_cases h : i < n
  · rw [if_pos h, List.getElem?_range h]; rfl
  · rw [if_neg h, List.getElem?_eq_none (by rw [List.length_range]; omega)]; rfl
theorem itr_fix {H : Hp} {lo : Int} {n : Nat} : AbJ K H (Itr lo n) (jFix (rngU lo n)) := fun i A H1 x k g e => by
  have e : x = (rngU lo n)[i]? := e
  rw [rngU_get] at e
  subst e
  by_cases h : i < n
  · rw [if_pos h]
    refine ⟨h, ?_⟩
    rintro x H' ⟨rfl, rfl⟩
    exact ⟨.refl _, g, .int _⟩
  · rw [if_neg h]
    exact Nat.le_of_not_lt h
def yRng1 : List U → AHp → (AIt → AHp → Prop) → Prop := fun us A R => match us with
  | [.int j] => -(2 ^ 62) ≤ j ∧ j < 2 ^ 62 ∧ R (jFix (rngU 0 j.toNat)) A
  | _ => False
def yRng2 : List U → AHp → (AIt → AHp → Prop) → Prop := fun us A R => match us with
  | [.int i, .int j] => (-(2 ^ 62) ≤ i ∧ i < 2 ^ 62 ∧ -(2 ^ 62) ≤ j ∧ j < 2 ^ 62) ∧ R (jFix (rngU i (j - i).toNat)) A
  | _ => False
def AbYs (K : PySem.W.Frag) (u : List V → Hp → (It → Hp → Prop) → Prop) (y : List U → AHp → (AIt → AHp → Prop) → Prop) : Prop := ∀ x v A H R' R, RUs K H x v → HR K H A → y x A R' → (∀ aj A' J H', Kp K H H' → HR K H' A' → AbJ K H' J aj → R' aj A' → R J H') → u v H R
def aJargs (y : List U → AHp → (AIt → AHp → Prop) → Prop) (l : AA) : AI := fun ρ A R => l ρ A fun us A1 => y us A1 R
theorem ab_jargs {u : List V → Hp → (It → Hp → Prop) → Prop} {y : List U → AHp → (AIt → AHp → Prop) → Prop} {t : TA} {l : AA} (hy : AbYs K u y) (hl : AbA K t l) : AbI K (jArgs u t) (aJargs y l) := fun ρ A σ H R' R hs g w k =>
  hl ρ A σ H _ _ hs g w fun x A1 v H1 k1 g1 r1 q1 => hy _ _ _ _ _ _ r1 g1 q1 fun aj A2 J H2 k2 g2 hj q2 => k _ _ _ _ (k1.trans k2) g2 hj q2
theorem ab_yrng1 : AbYs K uRng1 yRng1 := fun x v A H R' R r g w k => by
  unfold yRng1 at w
  split at w
  · cases r with
    | cons r rr =>
      cases rr; cases r
      exact ⟨w.1, w.2.1, k _ _ _ _ (.refl H) g itr_fix w.2.2⟩
  · exact w.elim
theorem ab_jrng1 {t : TA} {l : AA} (hl : AbA K t l) : AbI K (jRng1 t) (aJargs yRng1 l) := ab_jargs (u := uRng1) ab_yrng1 hl
/-! enumerate, zip, reversed -/
def enU (us : List U) : List U := us.zipIdx.map fun p => .tup [.int (p.2 : Nat), p.1]
theorem enU_get (us : List U) (i : Nat) : (enU us)[i]? = (us[i]?).map fun u => .tup [.int (i : Nat), u] := by
  unfold enU
  rw [List.getElem?_map, List.getElem?_zipIdx]
  cases us[i]? <;> simp
theorem enU_len (us : List U) : (enU us).length = us.length := by simp [enU]
def jEnum (a : Addr) : AIt := fun i A r => ∃ us, A a = some (.lst us) ∧ r = (enU us)[i]?
def yEnum : List U → AHp → (AIt → AHp → Prop) → Prop := fun us A R => match us with
  | [.ref a] => (∃ us, A a = some (.lst us)) ∧ R (jEnum a) A
  | [.rol us] => R (jFix (enU us)) A
  | _ => False
theorem ite_of {H : Hp} {a : Addr} {us : List U} {vs : List V} {i : Nat} {A : AHp} (h1 : SqL K H a vs) (r1 : RUs K H us vs) (g : HR K H A) : match (enU us)[i]? with
    | none => (Ite K a).stop i H
    | some u => (Ite K a).go i H ∧ ∀ x H', (Ite K a).yld i H x H' → Kp K H H' ∧ HR K H' A ∧ RU K H' u x := by
  rw [enU_get]
  cases hu : us[i]? with
  | none => exact ⟨vs, h1, by rw [← r1.length]; exact List.getElem?_eq_none_iff.mp hu⟩
  | some u =>
    obtain ⟨v, hv, rv⟩ := r1.get' hu
    refine ⟨⟨vs, v, h1, hv⟩, ?_⟩
    rintro x H' ⟨T, x0, rfl, hT, rfl, hx⟩
    have := hx vs h1
    rw [hv] at this; cases this
    have s := Same.upd_new (o := .tup [.int i, v]) hT
    exact ⟨s.kp, g.grow s, .tup (SqT.of upd_same) (.cons (.int _) (.one (rv.same s.kp)))⟩
theorem iteu_of {H : Hp} {a : Addr} {us : List U} {vs : List V} {i : Nat} {A : AHp} (h1 : SqT K H a vs) (r1 : RUs K H us vs) (g : HR K H A) : match (enU us)[i]? with
    | none => (Iteu K a).stop i H
    | some u => (Iteu K a).go i H ∧ ∀ x H', (Iteu K a).yld i H x H' → Kp K H H' ∧ HR K H' A ∧ RU K H' u x := by
  rw [enU_get]
  cases hu : us[i]? with
  | none => exact ⟨vs, h1, by rw [← r1.length]; exact List.getElem?_eq_none_iff.mp hu⟩
  | some u =>
    obtain ⟨v, hv, rv⟩ := r1.get' hu
    refine ⟨⟨vs, v, h1, hv⟩, ?_⟩
    rintro x H' ⟨T, x0, rfl, hT, rfl, hx⟩
    have := hx vs h1
    rw [hv] at this; cases this
    have s := Same.upd_new (o := .tup [.int i, v]) hT
    exact ⟨s.kp, g.grow s, .tup (SqT.of upd_same) (.cons (.int _) (.one (rv.same s.kp)))⟩
theorem ab_yenum : AbYs K (uEnum K) yEnum := fun x v A H R' R r g w k => by
  unfold yEnum at w
  split at w
  · cases r with
    | cons r rr =>
      cases rr; cases r
      obtain ⟨⟨us, hA⟩, w⟩ := w
      obtain ⟨vs, h1, r1⟩ := g.list hA
      refine ⟨⟨vs, SqL.of h1⟩, k _ _ _ _ (.refl H) g (fun i A1 H1 r k1 g1 ⟨us, hA, e⟩ => ?_) w⟩
      subst e
      obtain ⟨vs, h1, r1⟩ := g1.list hA
      exact ite_of (SqL.of h1) r1 g1
  · cases r with
    | cons r rr =>
      cases rr
      cases r with
      | rol h1 r1 =>
        refine ⟨⟨_, h1.sq⟩, k _ _ _ _ (.refl H) g (fun i A1 H1 r k1 g1 e => ?_) w⟩
        have e : r = (enU _)[i]? := e
        subst e
        exact ite_of (k1.r _ _ h1).sq (r1.same k1) g1
  · exact w.elim
def yEnumT : List U → AHp → (AIt → AHp → Prop) → Prop := fun us A R => match us with
  | [.tup us] => R (jFix (enU us)) A
  | _ => False
theorem ab_yenumT : AbYs K (uEnumT K) yEnumT := fun x v A H R' R r g w k => by
  unfold yEnumT at w
  split at w
  · cases r with
    | cons r rr =>
      cases rr
      cases r with
      | tup h1 r1 =>
        refine ⟨⟨_, h1⟩, k _ _ _ _ (.refl H) g (fun i A1 H1 r k1 g1 e => ?_) w⟩
        have e : r = (enU _)[i]? := e
        subst e
        exact iteu_of (k1.t _ _ h1) (r1.same k1) g1
  · exact w.elim
def zpU : List U → List U → List U
  | x :: xs, y :: ys => .tup [x, y] :: zpU xs ys
  | _, _ => []
theorem zpU_get : ∀ (us ws : List U) (i : Nat), (zpU us ws)[i]? = match us[i]?, ws[i]? with | some x, some y => some (.tup [x, y]) | _, _ => none
  | [], ws, i => by simp [zpU]
  | _ :: _, [], i => by
    simp only [zpU, List.getElem?_nil]
    split <;> simp_all
  | x :: xs, y :: ys, 0 => by simp [zpU]
  | x :: xs, y :: ys, i + 1 => by simpa [zpU] using zpU_get xs ys i
def jZip (a b : Addr) : AIt := fun i A r => ∃ us ws, A a = some (.lst us) ∧ A b = some (.lst ws) ∧ r = (zpU us ws)[i]?
def yZip : List U → AHp → (AIt → AHp → Prop) → Prop := fun us A R => match us with
  | [.ref a, .ref b] => (∃ us ws, A a = some (.lst us) ∧ A b = some (.lst ws)) ∧ R (jZip a b) A
  | _ => False
/-- reversed(xs) -/
def jRevA (a : Addr) (n : Nat) : AIt := fun i A r => (i = n ∧ r = none) ∨ (i < n ∧ ∃ us u, A a = some (.lst us) ∧ us[n - 1 - i]? = some u ∧ r = some u)
def aJrev (a : AE) : AI := fun ρ A R => a ρ A fun x A1 => ∃ p us, x = .ref p ∧ A1 p = some (.lst us) ∧ R (jRevA p us.length) A1
theorem ab_jrev {t : TE} {a : AE} (ha : AbE K t a) : AbI K (jRev K t) (aJrev a) := fun ρ A σ H R' R hs g w k =>
  ha ρ A σ H _ _ hs g w fun x A1 v H1 k1 g1 r1 ⟨p, us, e, hA, q1⟩ => by
    subst e; cases r1
    obtain ⟨vs, h1, r1⟩ := g1.list hA
    refine ⟨p, vs, rfl, SqL.of h1, ?_⟩
    rw [← r1.length]
    refine k _ _ _ _ k1 g1 (fun i A2 H2 r k2 g2 e => ?_) q1
    rcases e with ⟨rfl, rfl⟩ | ⟨hi, us2, u, hA2, hu, rfl⟩
    · rfl
    · obtain ⟨vs2, h2, r2⟩ := g2.list hA2
      obtain ⟨v, hv, rv⟩ := r2.get' hu
      refine ⟨⟨hi, vs2, v, SqL.of h2, hv⟩, ?_⟩
      rintro x H' ⟨rfl, hx⟩
      have := hx vs2 (SqL.of h2)
      rw [hv] at this; cases this
      exact ⟨.refl _, g2, rv⟩
/-! comprehensions -/
def aCompStart (nt : Nat) (frs : List (Str × Nat)) (ρ : ASt) : ASt := List.replicate nt none ++ frs.map fun p => (ρ[p.2]?).join
theorem RSt.join {H : Hp} : ∀ {ρ : ASt} {σ : St} (i : Nat) {ρ2 : ASt} {σ2 : St}, RSt K H ρ σ → RSt K H ρ2 σ2 → RSt K H ((ρ[i]?).join :: ρ2) ((σ[i]?).join :: σ2)
  | _, _, _, _, _, .nil, q => by simpa using .skip q
  | _, _, 0, _, _, .skip _, q => by simpa using .skip q
  | _, _, i + 1, _, _, .skip r, q => by simpa using RSt.join i r q
  | _, _, 0, _, _, .cons h _, q => by simpa using .cons h q
  | _, _, i + 1, _, _, .cons _ r, q => by simpa using RSt.join i r q
theorem RSt.comp {H : Hp} {ρ : ASt} {σ : St} (h : RSt K H ρ σ) (nt : Nat) (frs : List (Str × Nat)) : RSt K H (aCompStart nt frs ρ) (compStart nt frs σ) := by
  unfold aCompStart compStart
  induction nt with
  | zero =>
    simp only [List.replicate_zero, List.nil_append]
    induction frs with
    | nil => exact .nil
    | cons p frs ih => simp only [List.map_cons]; exact h.join p.2 ih
  | succ n ih => simp only [List.replicate_succ, List.cons_append]; exact .skip ih
/-- the turns of a comprehension; the list is at l -/
def aCL (J : AIt) (g : AG) (tt : AT) (te : AE) (l : Addr) (Q : AVK) (τ : ASt) (A : AHp) : Prop := ∃ W : Nat → Nat → ASt → AHp → Prop, (∃ m, W 0 m τ A) ∧
  ∀ i m τ A, W i m τ A → (J i A none ∧ Q (.ref l) A) ∨ ∃ u, J i A (some u) ∧ g u τ A fun τ2 A2 => tt τ2 A2 fun ok A3 =>
    if ok = true then te τ2 A3 fun y A4 => ∃ ys, A4 l = some (.lst ys) ∧ ys.length < sizeLine ∧ ∃ m', m' < m ∧ W (i + 1) m' τ2 (updA A4 l (.lst (ys ++ [y]))) else ∃ m', m' < m ∧ W (i + 1) m' τ2 A3
def aComp (nt : Nat) (frs : List (Str × Nat)) (wi : AI) (g : AG) (tt : AT) (te : AE) : AE := fun ρ A Q => wi ρ A fun J A1 => ∀ l, A1 l = none → aCL J g tt te l Q (aCompStart nt frs ρ) (updA A1 l (.lst []))
theorem ab_comp {nt : Nat} {frs : List (Str × Nat)} {wi : TI} {g : TG} {tt : TT} {te : TE} {ai : AI} {ag : AG} {at' : AT} {ae : AE} (hi : AbI K wi ai) (hg : AbG K g ag) (ht : AbT K tt at') (he : AbE K te ae) : AbE K (tComp nt frs wi g tt te) (aComp nt frs ai ag at' ae) := fun ρ A σ H Q' Q hs g0 w k => by
  refine hi ρ A σ H _ _ hs g0 w fun aj A1 J H1 k1 g1 hj q => ?_
  intro l hl
  obtain ⟨W, ⟨m0, w0⟩, turn⟩ := q l (g1.none hl)
  have kl : Kp K H1 (upd H1 l (.lst [])) := (Same.upd_new hl).kp
  refine ⟨fun i m τ H2 => ∃ τ' A2, Kp K H1 H2 ∧ HR K H2 A2 ∧ RSt K H2 τ' τ ∧ W i m τ' A2, ⟨m0, _, _, kl, g1.newL hl .nil, (hs.same (k1.trans kl)).comp nt frs, w0⟩, ?_⟩
  rintro i m τ H2 ⟨τ', A2, k2, g2, s2, w2⟩
  have k12 := k1.trans k2
  rcases turn i m τ' A2 w2 with ⟨hstop, q⟩ | ⟨u, hgo, q⟩
  · exact .inl ⟨hj i A2 H2 _ k2 g2 hstop, k _ _ _ _ k12 g2 (.ref l) q⟩
  · obtain ⟨j1, j2⟩ := hj i A2 H2 _ k2 g2 hgo
    refine .inr ⟨j1, fun x H3 hy => ?_⟩
    obtain ⟨k3, g3, r3⟩ := j2 x H3 hy
    refine hg _ _ _ _ _ _ _ _ r3 (s2.same k3) g3 q fun ρ4 A4 σ4 H4 k4 g4 s4 q4 => ht ρ4 A4 σ4 H4 _ _ s4 g4 q4 fun b A5 H5 k5 g5 q5 => ?_
    have k25 := k2.trans (k3.trans (k4.trans k5))
    cases b
    · refine iteN (by decide) ?_
      obtain ⟨m', hm, w'⟩ := (by simpa using q5 : ∃ m', m' < m ∧ W (i + 1) m' ρ4 A5)
      exact ⟨m', hm, _, _, k25, g5, s4.same k5, w'⟩
    · refine iteP rfl (he ρ4 A5 σ4 H5 _ _ (s4.same k5) g5 (by simpa using q5) fun y A6 v6 H6 k6 g6 r6 q6 => ?_)
      obtain ⟨ys, hA, hz, m', hm, w'⟩ := q6
      obtain ⟨vs, h6, r7⟩ := g6.list hA
      exact ⟨vs, h6, by rw [← r7.length]; exact hz, m', hm, _, _, k25.trans (k6.trans (Kp.lst h6)), g6.setL h6 (r7.app (.one r6)), (s4.same (k5.trans (k6.trans (Kp.lst h6)))), w'⟩
end
end L2

set_option Elab.async false
set_option linter.all false
set_option maxRecDepth 100000
set_option maxHeartbeats 4000000
/-! readings over values: the operations -/
namespace L2
open PySem PySem.Spec PyProof.Rows
section
variable {K : PySem.W.Frag}
def xAdd : AR2 := fun u w A Q => match u, w with
  | .int i, .int j => Q (.int (i + j)) A
  | .str i, .str j => i.length + j.length ≤ sizeLine ∧ Q (.str (i ++ j)) A
  | .tup xs, .tup ys => xs.length + ys.length ≤ sizeLine ∧ Q (.tup (xs ++ ys)) A
  | .ref a, .ref b => ∃ xs ys, A a = some (.lst xs) ∧ A b = some (.lst ys) ∧ xs.length + ys.length ≤ sizeLine ∧ ∀ p, A p = none → Q (.ref p) (updA A p (.lst (xs ++ ys)))
  | _, _ => False
theorem ab_add : AbR K (uAddW K) xAdd := fun x y u w A H Q' Q hu hw g h k => by
  unfold xAdd at h
  split at h
  · cases hu; cases hw; exact k _ _ _ _ (.refl H) g (.int _) h
  · cases hu; cases hw; exact ⟨h.1, k _ _ _ _ (.refl H) g (.str _) h.2⟩
  · cases hu with
    | tup h1 r1 =>
      cases hw with
      | tup h2 r2 =>
        refine .inr ⟨_, _, h1, h2, by rw [← r1.length, ← r2.length]; exact h.1, fun p H' s hp => k _ _ _ _ s.kp (g.grow s) (.tup hp ((r1.app r2).same s.kp)) h.2⟩
  · cases hu; cases hw
    obtain ⟨xs, ys, e1, e2, hz, q⟩ := h
    obtain ⟨vs, h1, r1⟩ := g.list e1
    obtain ⟨zs, h2, r2⟩ := g.list e2
    exact .inl ⟨vs, zs, SqL.of h1, SqL.of h2, by rw [← r1.length, ← r2.length]; exact hz, fun p hp => k _ _ _ _ (Same.upd_new hp).kp (g.newL hp (r1.app r2)) (.ref p) (q p (g.none hp))⟩
  · exact h.elim
def xI2 (C : Int → Int → Prop) (f : Int → Int → U) : AR2 := fun u w A Q => match u, w with
  | .int i, .int j => C i j ∧ Q (f i j) A
  | _, _ => False
def xI (f : Int → Int → U) : AR2 := fun u w A Q => match u, w with
  | .int i, .int j => Q (f i j) A
  | _, _ => False
theorem ab_sub : AbR K uSub (xI fun i j => .int (i - j)) := fun x y u w A H Q' Q hu hw g h k => by
  unfold xI at h
  split at h
  · cases hu; cases hw; exact k _ _ _ _ (.refl H) g (.int _) h
  · exact h.elim
def xMul : AR2 := fun u w A Q => match u, w with
  | .int i, .int j => IntMulOk i j ∧ Q (.int (i * j)) A
  | .ref a, .int m => ∃ xs, A a = some (.lst xs) ∧ -(2 ^ 63) ≤ m ∧ m < 2 ^ 63 ∧ xs.length * m.toNat ≤ sizeLine ∧ ∀ p, A p = none → Q (.ref p) (updA A p (.lst (List.replicate m.toNat xs).flatten))
  | _, _ => False
theorem RUs.flat {H : Hp} {us : List U} {vs : List V} (r : RUs K H us vs) : ∀ n, RUs K H (List.replicate n us).flatten (List.replicate n vs).flatten
  | 0 => .nil
  | n + 1 => by rw [List.replicate_succ, List.replicate_succ, List.flatten_cons, List.flatten_cons]; exact r.app (r.flat n)
theorem ab_mul : AbR K uMulB xMul := fun x y u w A H Q' Q hu hw g h k => by
  unfold xMul at h
  split at h
  · cases hu; cases hw; exact ⟨h.1, k _ _ _ _ (.refl H) g (.int _) h.2⟩
  · cases hu; cases hw
    obtain ⟨xs, e1, b1, b2, hz, q⟩ := h
    obtain ⟨vs, h1, r1⟩ := g.list e1
    exact ⟨_, _, vs, rfl, rfl, h1, b1, b2, by rw [← r1.length]; exact hz, fun p hp => k _ _ _ _ (Same.upd_new hp).kp (g.newL hp (r1.flat _)) (.ref p) (q p (g.none hp))⟩
  · exact h.elim
theorem ab_div : AbR K uDiv (xI2 CDiv fun i j => .int (i / j)) := fun x y u w A H Q' Q hu hw g h k => by
  unfold xI2 at h
  split at h
  · cases hu; cases hw; exact ⟨h.1, k _ _ _ _ (.refl H) g (.int _) h.2⟩
  · exact h.elim
theorem ab_mod : AbR K uMod (xI2 (fun _ j => 0 < j) fun i j => .int (i % j)) := fun x y u w A H Q' Q hu hw g h k => by
  unfold xI2 at h
  split at h
  · cases hu; cases hw; exact ⟨h.1, k _ _ _ _ (.refl H) g (.int _) h.2⟩
  · exact h.elim
theorem ab_pow : AbR K uPow (xI2 CPow fun i j => .int (i ^ j.toNat)) := fun x y u w A H Q' Q hu hw g h k => by
  unfold xI2 at h
  split at h
  · cases hu; cases hw; exact ⟨h.1, k _ _ _ _ (.refl H) g (.int _) h.2⟩
  · exact h.elim
def xLt : AR2 := fun u w A Q => match u, w with
  | .int i, .int j => Q (.bl (decide (i < j))) A
  | .str i, .str j => Q (.bl (decide (i.cps.toList < j.cps.toList))) A
  | _, _ => False
theorem ab_lt : AbR K uLt xLt := fun x y u w A H Q' Q hu hw g h k => by
  unfold xLt at h
  split at h
  · cases hu; cases hw; exact k _ _ _ _ (.refl H) g (.bl _) h
  · cases hu; cases hw; exact k _ _ _ _ (.refl H) g (.bl _) h
  · exact h.elim
theorem ab_le : AbR K uLe (xI fun i j => .bl (decide (i ≤ j))) := fun x y u w A H Q' Q hu hw g h k => by
  unfold xI at h
  split at h
  · cases hu; cases hw; exact k _ _ _ _ (.refl H) g (.bl _) h
  · exact h.elim
theorem ab_gt : AbR K uGt (xI fun i j => .bl (decide (j < i))) := fun x y u w A H Q' Q hu hw g h k => by
  unfold xI at h
  split at h
  · cases hu; cases hw; exact k _ _ _ _ (.refl H) g (.bl _) h
  · exact h.elim
/-! deep == -/
mutual
inductive DU (A : AHp) : U → PyData → Prop
  | non : DU A .non .none
  | bl (b : Bool) : DU A (.bl b) (.bool b)
  | int (i : Int) : DU A (.int i) (.int i)
  | str (x : Str) : DU A (.str x) (.str x)
  | tup {us : List U} {ds : List PyData} : DUs A us ds → DU A (.tup us) (.tuple ds)
  | rol {us : List U} {ds : List PyData} : DUs A us ds → DU A (.rol us) (.list ds)
  | lst {a : Addr} {us : List U} {ds : List PyData} : A a = some (.lst us) → DUs A us ds → DU A (.ref a) (.list ds)
inductive DUs (A : AHp) : List U → List PyData → Prop
  | nil : DUs A [] []
  | cons {u : U} {d : PyData} {us : List U} {ds : List PyData} : DU A u d → DUs A us ds → DUs A (u :: us) (d :: ds)
end
mutual
theorem DU.rep {A : AHp} {H : Hp} (g : HR K H A) : ∀ {u : U} {v : V} {d : PyData}, DU A u d → RU K H u v → Rep K H d v
  | _, _, _, .non, .non => .non
  | _, _, _, .bl b, .bl _ => .bl b
  | _, _, _, .int b, .int _ => .int b
  | _, _, _, .str b, .str _ => .str b
  | _, _, _, .tup q, .tup h r => .tup h (DUs.reps g q r)
  | _, _, _, .rol q, .rol h r => .lst h.sq (DUs.reps g q r)
  | _, _, _, .lst e q, .ref _ => by
    obtain ⟨vs, h, r⟩ := g.list e
    exact .lst (SqL.of h) (DUs.reps g q r)
theorem DUs.reps {A : AHp} {H : Hp} (g : HR K H A) : ∀ {us : List U} {vs : List V} {ds : List PyData}, DUs A us ds → RUs K H us vs → Reps K H ds vs
  | _, _, _, .nil, .nil => .nil
  | _, _, _, .cons h r, .cons q s => .cons (DU.rep g h q) (DUs.reps g r s)
end
def xDeep (ne : Bool) (u w : U) (A : AHp) (Q : AVK) : Prop := ∃ d e, DU A u d ∧ DU A w e ∧ d.canLay0 = true ∧ e.canLay0 = true ∧ d.depth ≤ 190 ∧ Q (.bl (if ne then !PyData.eqv d e else PyData.eqv d e)) A
def xEq : AR2 := fun u w A Q => match u, w with
  | .int i, .int j => Q (.bl (decide (i = j))) A
  | .str i, .str j => Q (.bl (decide (i = j))) A
  | .bl i, .bl j => Q (.bl (decide (i = j))) A
  | .tup us, .tup ws => xDeep false (.tup us) (.tup ws) A Q
  | .ref a, .ref b => xDeep false (.ref a) (.ref b) A Q
  | .rol a, .ref b => xDeep false (.rol a) (.ref b) A Q
  | .tup us, .non => xDeep false (.tup us) .non A Q
  | .non, .tup us => xDeep false .non (.tup us) A Q
  | .non, .non => Q (.bl true) A
  | .non, .str _ => Q (.bl false) A
  | .str _, .non => Q (.bl false) A
  | _, _ => False
theorem deep_eq {x y : V} {u w : U} {A : AHp} {H : Hp} {Q' : AVK} {Q : VK} {ne : Bool} (hu : RU K H u x) (hw : RU K H w y) (g : HR K H A) (h : xDeep ne u w A Q') (k : Aft K H Q' Q) : rEqD K ne x y H Q := by
  obtain ⟨d, e, h1, h2, c1, c2, dp, q⟩ := h
  exact ⟨d, e, h1.rep g hu, h2.rep g hw, c1, c2, dp, k _ _ _ _ (.refl H) g (.bl _) q⟩
theorem ab_eq : AbR K (uEqD K) xEq := fun x y u w A H Q' Q hu hw g h k => by
  unfold xEq at h
  split at h
  · cases hu; cases hw; exact k _ _ _ _ (.refl H) g (.bl _) h
  · cases hu; cases hw; exact k _ _ _ _ (.refl H) g (.bl _) h
  · cases hu; cases hw; exact k _ _ _ _ (.refl H) g (.bl _) h
  · have := deep_eq hu hw g h k; cases hu; exact this
  · have := deep_eq hu hw g h k; cases hu; exact this
  · have := deep_eq hu hw g h k; cases hu; exact this
  · have := deep_eq hu hw g h k; cases hu; exact this
  · have := deep_eq hu hw g h k; cases hu; cases hw; exact this
  · cases hu; cases hw; exact k _ _ _ _ (.refl H) g (.bl _) h
  · cases hu; cases hw; exact k _ _ _ _ (.refl H) g (.bl _) h
  · cases hu; cases hw; exact k _ _ _ _ (.refl H) g (.bl _) h
  · exact h.elim
def xNe : AR2 := fun u w A Q => match u, w with
  | .int i, .int j => Q (.bl (!decide (i = j))) A
  | .str i, .str j => Q (.bl (!decide (i = j))) A
  | .bl i, .bl j => Q (.bl (!decide (i = j))) A
  | .tup us, .tup ws => xDeep true (.tup us) (.tup ws) A Q
  | .ref a, .ref b => xDeep true (.ref a) (.ref b) A Q
  | .rol a, .ref b => xDeep true (.rol a) (.ref b) A Q
  | .tup us, .non => xDeep true (.tup us) .non A Q
  | .non, .tup us => xDeep true .non (.tup us) A Q
  | .non, .non => Q (.bl false) A
  | .non, .str _ => Q (.bl true) A
  | .str _, .non => Q (.bl true) A
  | _, _ => False
theorem ab_ne : AbR K (uNeD K) xNe := fun x y u w A H Q' Q hu hw g h k => by
  unfold xNe at h
  split at h
  · cases hu; cases hw; exact k _ _ _ _ (.refl H) g (.bl _) h
  · cases hu; cases hw; exact k _ _ _ _ (.refl H) g (.bl _) h
  · cases hu; cases hw; exact k _ _ _ _ (.refl H) g (.bl _) h
  · have := deep_eq hu hw g h k; cases hu; exact this
  · have := deep_eq hu hw g h k; cases hu; exact this
  · have := deep_eq hu hw g h k; cases hu; exact this
  · have := deep_eq hu hw g h k; cases hu; exact this
  · have := deep_eq hu hw g h k; cases hu; cases hw; exact this
  · cases hu; cases hw; exact k _ _ _ _ (.refl H) g (.bl _) h
  · cases hu; cases hw; exact k _ _ _ _ (.refl H) g (.bl _) h
  · cases hu; cases hw; exact k _ _ _ _ (.refl H) g (.bl _) h
  · exact h.elim
def U.isNon : U → Bool
  | .non => true
  | _ => false
def xIsN : AR2 := fun u w A Q => w = .non ∧ Q (.bl u.isNon) A
def xNotN : AR2 := fun u w A Q => w = .non ∧ Q (.bl (!u.isNon)) A
/-! in -/
def U.flat : U → Bool
  | .non => true
  | .bl _ => true
  | .int _ => true
  | .str _ => true
  | _ => false
def U.toV : U → V
  | .bl b => .bl b
  | .int i => .int i
  | .str x => .str x
  | _ => .non
theorem RU.flat {H : Hp} {u : U} {v : V} (h : RU K H u v) (f : u.flat = true) : v = u.toV ∧ flatV v = true := by
  cases h <;> first | exact ⟨rfl, rfl⟩ | cases f
theorem RUs.flats {H : Hp} : ∀ {us : List U} {vs : List V}, RUs K H us vs → us.all U.flat = true → vs = us.map U.toV ∧ vs.all flatV = true
  | _, _, .nil, _ => ⟨rfl, rfl⟩
  | _, _, .cons h r, f => by
    rw [List.all_cons, Bool.and_eq_true] at f
    obtain ⟨e1, f1⟩ := h.flat f.1
    obtain ⟨e2, f2⟩ := RUs.flats r f.2
    exact ⟨by rw [List.map_cons, e1, e2], by rw [List.all_cons, f1, f2]; rfl⟩
def inU (u : U) (us : List U) : Bool := inV u.toV (us.map U.toV)
def xInB (neg : Bool) : AR2 := fun u w A Q => match w with
  | .str j => ∃ i, u = .str i ∧ Q (.bl (if neg then !occ j i else occ j i)) A
  | .tup us => u.flat = true ∧ us.all U.flat = true ∧ Q (.bl (if neg then !inU u us else inU u us)) A
  | .rol us => u.flat = true ∧ us.all U.flat = true ∧ Q (.bl (if neg then !inU u us else inU u us)) A
  | .ref a => ∃ us, A a = some (.lst us) ∧ u.flat = true ∧ us.all U.flat = true ∧ Q (.bl (if neg then !inU u us else inU u us)) A
  | _ => False
abbrev xIn := xInB false
abbrev xNin := xInB true
theorem in_ref {x : V} {p : Addr} {H : Hp} {Q : VK} {xs : List V} (fx : flatV x = true) (h : ∃ xs, Sq K H p xs ∧ flatV x = true ∧ xs.all flatV = true ∧ Q (.bl (inV x xs)) H) : uIn K x (.ref p) H Q := by
  cases x <;> exact h
theorem in_go {x : V} {u : U} {us : List U} {vs : List V} {p : Addr} {H : Hp} {A : AHp} {Q' : AVK} {Q : VK} (hu : RU K H u x) (hs : Sq K H p vs) (r : RUs K H us vs) (g : HR K H A) (f : u.flat = true) (fs : us.all U.flat = true) (h : Q' (.bl (inU u us)) A) (k : Aft K H Q' Q) : uIn K x (.ref p) H Q := by
  obtain ⟨e1, f1⟩ := hu.flat f
  obtain ⟨e2, f2⟩ := r.flats fs
  refine in_ref (xs := vs) f1 ⟨vs, hs, f1, f2, k _ _ _ _ (.refl H) g (.bl _) ?_⟩
  rw [e1, e2]; exact h
theorem ab_in : AbR K (uIn K) xIn := fun x y u w A H Q' Q hu hw g h k => by
  unfold xIn xInB at h
  split at h
  · obtain ⟨i, rfl, h⟩ := h
    cases hw; cases hu; exact k _ _ _ _ (.refl H) g (.bl _) h
  · cases hw with
    | tup h1 r1 => exact in_go hu (.inr h1) r1 g h.1 h.2.1 h.2.2 k
  · cases hw with
    | rol h1 r1 => exact in_go hu (.inl h1.sq) r1 g h.1 h.2.1 h.2.2 k
  · cases hw
    obtain ⟨us, e, h⟩ := h
    obtain ⟨vs, h1, r1⟩ := g.list e
    exact in_go hu (.inl (SqL.of h1)) r1 g h.1 h.2.1 h.2.2 k
  · exact h.elim
/-! index, slice, len -/
theorem RUs.at {H : Hp} {us : List U} {vs : List V} {i : Int} {u : U} (r : RUs K H us vs) (h : atI us i = some u) : ∃ v, atI vs i = some v ∧ RU K H u v := by
  unfold atI at h ⊢
  rw [← r.length]
  cases e : ixN us.length i with
  | none => rw [e] at h; cases h
  | some j => rw [e] at h; exact r.get' h
def xIx : AR2 := fun u w A Q => match u, w with
  | .str z, .int i => z.length ≤ sizeLine ∧ ∃ c, atI z.cps.toList i = some c ∧ Q (.str ⟨#[c]⟩) A
  | .tup us, .int i => ∃ x, atI us i = some x ∧ Q x A
  | .rol us, .int i => ∃ x, atI us i = some x ∧ Q x A
  | .ref a, .int i => ∃ us x, A a = some (.lst us) ∧ atI us i = some x ∧ Q x A
  | _, _ => False
theorem ab_ix : AbR K (uIx K) xIx := fun x y u w A H Q' Q hu hw g h k => by
  unfold xIx at h
  split at h
  · cases hu; cases hw
    obtain ⟨hz, c, e, h⟩ := h
    exact ⟨hz, c, e, k _ _ _ _ (.refl H) g (.str _) h⟩
  · cases hw
    obtain ⟨x, e, h⟩ := h
    cases hu with
    | tup h1 r1 =>
      obtain ⟨v, e2, rv⟩ := r1.at e
      exact ⟨_, v, .inr h1, e2, k _ _ _ _ (.refl H) g rv h⟩
  · cases hw
    obtain ⟨x, e, h⟩ := h
    cases hu with
    | rol h1 r1 =>
      obtain ⟨v, e2, rv⟩ := r1.at e
      exact ⟨_, v, .inl h1.sq, e2, k _ _ _ _ (.refl H) g rv h⟩
  · cases hw; cases hu
    obtain ⟨us, x, e0, e, h⟩ := h
    obtain ⟨vs, h1, r1⟩ := g.list e0
    obtain ⟨v, e2, rv⟩ := r1.at e
    exact ⟨_, v, .inl (SqL.of h1), e2, k _ _ _ _ (.refl H) g rv h⟩
  · exact h.elim
def cutU (xs : List U) (lo hi : Option Int) : List U := (xs.drop (HT.sIx xs.length 0 lo)).take (HT.sIx xs.length xs.length hi - HT.sIx xs.length 0 lo)
theorem RUs.cut {H : Hp} {us : List U} {vs : List V} (r : RUs K H us vs) (lo hi : Option Int) : RUs K H (cutU us lo hi) (cutV vs lo hi) := by
  unfold cutU cutV
  rw [r.length]
  exact (r.drop _).take _
def xSl : U → Option Int → Option Int → AHp → AVK → Prop := fun u lo hi A Q => match u with
  | .str z => z.length ≤ sizeLine ∧ Q (.str (cutS z lo hi)) A
  | .tup us => Q (.tup (cutU us lo hi)) A
  | .rol us => ∀ p, A p = none → Q (.ref p) (updA A p (.lst (cutU us lo hi)))
  | .ref a => ∃ us, A a = some (.lst us) ∧ ∀ p, A p = none → Q (.ref p) (updA A p (.lst (cutU us lo hi)))
  | _ => False
theorem ab_xsl : AbSl K (uSlW K) xSl := fun x u lo hi A H Q' Q hu g h k => by
  unfold xSl at h
  split at h
  · cases hu; exact ⟨h.1, k _ _ _ _ (.refl H) g (.str _) h.2⟩
  · cases hu with
    | tup h1 r1 => exact .inr ⟨_, h1, fun p H' s hp => k _ _ _ _ s.kp (g.grow s) (.tup hp ((r1.cut lo hi).same s.kp)) h⟩
  · cases hu with
    | rol h1 r1 => exact .inl ⟨_, h1.sq, fun p hp => k _ _ _ _ (Same.upd_new hp).kp (g.newL hp (r1.cut lo hi)) (.ref p) (h p (g.none hp))⟩
  · cases hu
    obtain ⟨us, e, h⟩ := h
    obtain ⟨vs, h1, r1⟩ := g.list e
    exact .inl ⟨_, SqL.of h1, fun p hp => k _ _ _ _ (Same.upd_new hp).kp (g.newL hp (r1.cut lo hi)) (.ref p) (h p (g.none hp))⟩
  · exact h.elim
def xLen : List U → AHp → AVK → Prop := fun us A Q => match us with
  | [.str z] => z.length ≤ sizeLine ∧ Q (.int z.length) A
  | [.tup us] => Q (.int us.length) A
  | [.rol us] => Q (.int us.length) A
  | [.ref a] => ∃ us, A a = some (.lst us) ∧ Q (.int us.length) A
  | _ => False
theorem RUs.inv1 {H : Hp} {u : U} {vs : List V} (h : RUs K H [u] vs) : ∃ v, vs = [v] ∧ RU K H u v := by
  cases h with
  | cons h r => cases r; exact ⟨_, rfl, h⟩
theorem RUs.inv2 {H : Hp} {u w : U} {vs : List V} (h : RUs K H [u, w] vs) : ∃ v x, vs = [v, x] ∧ RU K H u v ∧ RU K H w x := by
  cases h with
  | cons h r => obtain ⟨x, rfl, r'⟩ := r.inv1; exact ⟨_, x, rfl, h, r'⟩
theorem ab_len : AbL K (uLen K) xLen := fun xs us A H Q' Q r g h k => by
  unfold xLen at h
  split at h
  · obtain ⟨v, rfl, r'⟩ := r.inv1; cases r'; exact ⟨h.1, k _ _ _ _ (.refl H) g (.int _) h.2⟩
  · obtain ⟨v, rfl, r'⟩ := r.inv1
    cases r' with
    | tup h1 r1 => exact ⟨_, .inr h1, k _ _ _ _ (.refl H) g (.int _) (by rw [← r1.length]; exact h)⟩
  · obtain ⟨v, rfl, r'⟩ := r.inv1
    cases r' with
    | rol h1 r1 => exact ⟨_, .inl h1.sq, k _ _ _ _ (.refl H) g (.int _) (by rw [← r1.length]; exact h)⟩
  · obtain ⟨v, rfl, r'⟩ := r.inv1
    cases r'
    obtain ⟨us, e, h⟩ := h
    obtain ⟨vs, h1, r1⟩ := g.list e
    exact ⟨_, .inl (SqL.of h1), k _ _ _ _ (.refl H) g (.int _) (by rw [← r1.length]; exact h)⟩
  · exact h.elim
def xMin : List U → AHp → AVK → Prop := fun us A Q => match us with
  | [.int i, .int j] => Q (.int (min i j)) A
  | [.ref a] => ∃ ns : List Int, A a = some (.lst (ns.map U.int)) ∧ 1 ≤ ns.length ∧ ∀ m, m ∈ ns → (∀ x ∈ ns, m ≤ x) → Q (.int m) A
  | _ => False
def xMax : List U → AHp → AVK → Prop := fun us A Q => match us with
  | [.int i, .int j] => Q (.int (max i j)) A
  | [.ref a] => ∃ ns : List Int, A a = some (.lst (ns.map U.int)) ∧ 1 ≤ ns.length ∧ ∀ m, m ∈ ns → (∀ x ∈ ns, x ≤ m) → Q (.int m) A
  | _ => False
theorem ab_min : AbL K (uMinA K) xMin := fun xs us A H Q' Q r g h k => by
  unfold xMin at h
  split at h
  · obtain ⟨v, x, rfl, r1, r2⟩ := r.inv2; cases r1; cases r2; exact k _ _ _ _ (.refl H) g (.int _) h
  · obtain ⟨v, rfl, r'⟩ := r.inv1; cases r'
    obtain ⟨ns, e, hn, h⟩ := h
    obtain ⟨vs, h1, r1⟩ := g.list e
    exact ⟨ns, SqL.of (by rw [h1, r1.ints]), hn, fun m hm hx => k _ _ _ _ (.refl H) g (.int _) (h m hm hx)⟩
  · exact h.elim
def xSum : List U → AHp → AVK → Prop := fun us A Q => match us with
  | [.ref a] => ∃ ns : List Int, A a = some (.lst (ns.map U.int)) ∧ Q (.int ns.sum) A
  | _ => False
theorem ab_sum : AbL K (uSum K) xSum := fun xs us A H Q' Q r g h k => by
  unfold xSum at h
  split at h
  · obtain ⟨v, rfl, r'⟩ := r.inv1; cases r'
    obtain ⟨ns, e, h⟩ := h
    obtain ⟨vs, h1, r1⟩ := g.list e
    exact ⟨ns, SqL.of (by rw [h1, r1.ints]), k _ _ _ _ (.refl H) g (.int _) h⟩
  · exact h.elim
def xAll : List U → AHp → AVK → Prop := fun us A Q => match us with
  | [.ref a] => ∃ bs : List Bool, A a = some (.lst (bs.map U.bl)) ∧ Q (.bl (bs.all id)) A
  | _ => False
theorem ab_all : AbL K (fun xs H Q => ∃ (p : Addr) (bs : List Bool), xs = [.ref p] ∧ SqL K H p (bs.map V.bl) ∧ Q (.bl (bs.all id)) H) xAll := fun xs us A H Q' Q r g h k => by
  unfold xAll at h
  split at h
  · obtain ⟨v, rfl, r'⟩ := r.inv1; cases r'
    obtain ⟨bs, e, h⟩ := h
    obtain ⟨vs, h1, r1⟩ := g.list e
    exact ⟨_, bs, rfl, SqL.of (by rw [h1, r1.bls]), k _ _ _ _ (.refl H) g (.bl _) h⟩
  · exact h.elim
def xListOf : List U → AHp → AVK → Prop := fun us A Q => match us with
  | [.tup us] => ∀ p, A p = none → Q (.ref p) (updA A p (.lst us))
  | [.rol us] => ∀ p, A p = none → Q (.ref p) (updA A p (.lst us))
  | [.ref a] => ∃ us, A a = some (.lst us) ∧ ∀ p, A p = none → Q (.ref p) (updA A p (.lst us))
  | _ => False
theorem ab_listof : AbL K (uListOf K) xListOf := fun xs us A H Q' Q r g h k => by
  unfold xListOf at h
  split at h
  · obtain ⟨v, rfl, r'⟩ := r.inv1
    cases r' with
    | tup h1 r1 => exact ⟨_, .inr h1, fun p hp => k _ _ _ _ (Same.upd_new hp).kp (g.newL hp r1) (.ref p) (h p (g.none hp))⟩
  · obtain ⟨v, rfl, r'⟩ := r.inv1
    cases r' with
    | rol h1 r1 => exact ⟨_, .inl h1.sq, fun p hp => k _ _ _ _ (Same.upd_new hp).kp (g.newL hp r1) (.ref p) (h p (g.none hp))⟩
  · obtain ⟨v, rfl, r'⟩ := r.inv1
    cases r'
    obtain ⟨us, e, h⟩ := h
    obtain ⟨vs, h1, r1⟩ := g.list e
    exact ⟨_, .inl (SqL.of h1), fun p hp => k _ _ _ _ (Same.upd_new hp).kp (g.newL hp r1) (.ref p) (h p (g.none hp))⟩
  · exact h.elim
def xTupOf : List U → AHp → AVK → Prop := fun us A Q => match us with
  | [.tup us] => Q (.tup us) A
  | [.rol us] => Q (.tup us) A
  | [.ref a] => ∃ us, A a = some (.lst us) ∧ Q (.tup us) A
  | _ => False
theorem ab_tupof : AbL K (uTupOf K) xTupOf := fun xs us A H Q' Q r g h k => by
  unfold xTupOf at h
  split at h
  · obtain ⟨v, rfl, r'⟩ := r.inv1
    cases r' with
    | tup h1 r1 => exact ⟨_, .inr ⟨h1, k _ _ _ _ (.refl H) g (.tup h1 r1) h⟩⟩
  · obtain ⟨v, rfl, r'⟩ := r.inv1
    cases r' with
    | @rol _ zs _ h1 r1 =>
      refine ⟨_, .inl ⟨h1.sq, fun p hp => ?_⟩⟩
      have s := Same.upd_new (o := .tup zs) hp
      exact k _ _ _ _ s.kp (g.grow s) (.tup (SqT.of upd_same) (r1.same s.kp)) h
  · obtain ⟨v, rfl, r'⟩ := r.inv1
    cases r'
    obtain ⟨us, e, h⟩ := h
    obtain ⟨vs, h1, r1⟩ := g.list e
    refine ⟨_, .inl ⟨SqL.of h1, fun p hp => ?_⟩⟩
    have s := Same.upd_new (o := .tup vs) hp
    exact k _ _ _ _ s.kp (g.grow s) (.tup (SqT.of upd_same) (r1.same s.kp)) h
  · exact h.elim
def xInt : List U → AHp → AVK → Prop := fun us A Q => match us with
  | [.int i] => Q (.int i) A
  | [.bl k] => Q (.int (if k then 1 else 0)) A
  | _ => False
theorem ab_neg : AbU K (rU fun i => .int (-i)) (fun u A Q => ∃ i, u = .int i ∧ Q (.int (-i)) A) := fun x u A H Q' Q r g ⟨i, e, h⟩ k => by
  subst e; cases r; exact ⟨i, rfl, k _ _ _ _ (.refl H) g (.int _) h⟩
/-! methods of lists -/
def isLst : U → AHp → Prop := fun u A => match u with
  | .ref a => ∃ us, A a = some (.lst us)
  | _ => False
theorem ab_isLst : AbY K "list" isLst := fun x u A H r g h => by
  unfold isLst at h
  split at h
  · cases r
    obtain ⟨us, e⟩ := h
    obtain ⟨vs, h1, r1⟩ := g.list e
    exact .inl ⟨rfl, vs, SqL.of h1⟩
  · exact h.elim
def isTupU : U → AHp → Prop := fun u _ => match u with
  | .tup _ => True
  | _ => False
def mApp : U → List U → AHp → AVK → Prop := fun u us A Q => match u, us with
  | .ref a, [w] => ∃ xs, A a = some (.lst xs) ∧ xs.length < sizeLine ∧ Q .non (updA A a (.lst (xs ++ [w])))
  | _, _ => False
theorem ab_mapp : AbMt K rAppend mApp := fun x u xs us A H Q' Q r rs g h k => by
  unfold mApp at h
  split at h
  · cases r
    obtain ⟨v, rfl, rv⟩ := rs.inv1
    obtain ⟨zs, e, hz, h⟩ := h
    obtain ⟨vs, h1, r1⟩ := g.list e
    exact ⟨_, vs, _, rfl, rfl, h1, by rw [← r1.length]; exact hz, k _ _ _ _ (Kp.lst h1) (g.setL h1 (r1.app (.one rv))) .non h⟩
  · exact h.elim
def mPop : U → List U → AHp → AVK → Prop := fun u us A Q => match u, us with
  | .ref a, [] => ∃ xs y, A a = some (.lst (xs ++ [y])) ∧ Q y (updA A a (.lst xs))
  | _, _ => False
theorem ab_mpop : AbMt K rPop mPop := fun x u xs us A H Q' Q r rs g h k => by
  unfold mPop at h
  split at h
  · cases r; cases rs
    obtain ⟨zs, y, e, h⟩ := h
    obtain ⟨vs, h1, r1⟩ := g.list e
    have hl := r1.length
    rw [List.length_append, List.length_singleton] at hl
    obtain ⟨v, hv, rv⟩ := r1.get' (i := zs.length) (u := y) (by simp)
    refine ⟨_, vs, v, rfl, rfl, h1, by rw [← hl]; exact hv, k _ _ _ _ (Kp.lst h1) (g.setL h1 ?_) (rv.same (Kp.lst h1)) h⟩
    have := r1.dropLast
    rw [List.dropLast_concat] at this
    exact this
  · exact h.elim
def mExtT : U → List U → AHp → AVK → Prop := fun u us A Q => match u, us with
  | .ref a, [.tup ws] => ∃ xs, A a = some (.lst xs) ∧ xs.length + ws.length ≤ sizeLine ∧ Q .non (updA A a (.lst (xs ++ ws)))
  | _, _ => False
theorem ab_mextT : AbMt K (rExtT K) mExtT := fun x u xs us A H Q' Q r rs g h k => by
  unfold mExtT at h
  split at h
  · cases r
    obtain ⟨v, rfl, rv⟩ := rs.inv1
    obtain ⟨zs, e, hz, h⟩ := h
    obtain ⟨vs, h1, r1⟩ := g.list e
    cases rv with
    | tup h2 r2 => exact ⟨_, _, vs, _, rfl, rfl, h1, h2, by rw [← r1.length, ← r2.length]; exact hz, k _ _ _ _ (Kp.lst h1) (g.setL h1 (r1.app r2)) .non h⟩
  · exact h.elim
def mExt : U → List U → AHp → AVK → Prop := fun u us A Q => match u, us with
  | .ref a, [.ref b] => ∃ xs ws, A a = some (.lst xs) ∧ A b = some (.lst ws) ∧ xs.length + ws.length ≤ sizeLine ∧ Q .non (updA A a (.lst (xs ++ ws)))
  | _, _ => False
theorem ab_mext : AbMt K rExtend mExt := fun x u xs us A H Q' Q r rs g h k => by
  unfold mExt at h
  split at h
  · cases r
    obtain ⟨v, rfl, rv⟩ := rs.inv1
    cases rv
    obtain ⟨zs, ws, e, e2, hz, h⟩ := h
    obtain ⟨vs, h1, r1⟩ := g.list e
    obtain ⟨ys, h2, r2⟩ := g.list e2
    exact ⟨_, _, vs, _, rfl, rfl, h1, h2, by rw [← r1.length, ← r2.length]; exact hz, k _ _ _ _ (Kp.lst h1) (g.setL h1 (r1.app r2)) .non h⟩
  · exact h.elim
/-! xs[i] = v, xs[i:] = ys -/
def bSetL (o i : AE) : AG := fun u ρ A Q => o ρ A fun x A1 => i ρ A1 fun y A2 => ∃ a us m j, x = .ref a ∧ y = .int m ∧ A2 a = some (.lst us) ∧ ixN us.length m = some j ∧ Q ρ (updA A2 a (.lst (us.set j u)))
def bTail (o : AE) (l : AP1) : AG := fun u ρ A Q => o ρ A fun x A1 => l ρ A1 fun y A2 => ∃ a b us ws i, x = .ref a ∧ u = .ref b ∧ y = some i ∧ A2 a = some (.lst us) ∧ A2 b = some (.lst ws) ∧ a ≠ b ∧ 0 ≤ i ∧ i ≤ us.length ∧ us.length + ws.length ≤ sizeLine ∧ Q ρ (updA A2 a (.lst (us.take i.toNat ++ ws)))
theorem ab_tail {to : TE} {tl : TO} {ao : AE} {al : AP1} (ho : AbE K to ao) (hl : AbP K tl al) : AbG K (gTail to tl) (bTail ao al) := fun u v ρ A σ H Q' Q r hs g w k =>
  ho ρ A σ H _ _ hs g w fun x A1 v1 H1 k1 g1 r1 q1 => hl ρ A1 σ H1 _ _ (hs.same k1) g1 q1 fun y A2 H2 k2 g2 ⟨a, b, us, ws, i, e1, e2, e3, eA, eB, hne, h0, hi, hz, q⟩ => by
    subst e1 e2 e3
    cases r1; cases r
    obtain ⟨vs, h1, r1⟩ := g2.list eA
    obtain ⟨ys, h2, r2⟩ := g2.list eB
    refine ⟨_, _, vs, ys, i, rfl, rfl, rfl, h1, h2, hne, h0, by rw [← r1.length]; exact hi, by rw [← r1.length, ← r2.length]; exact hz, k _ _ _ _ (k1.trans (k2.trans (Kp.lst h1))) (g2.setL h1 ((r1.take _).app r2)) (hs.same (k1.trans (k2.trans (Kp.lst h1)))) q⟩
/-! tuple(reversed(xs)) -/
def aTupRev (a : AE) : AE := fun ρ A Q => a ρ A fun x A1 => ∃ p us, x = .ref p ∧ A1 p = some (.lst us) ∧ Q (.tup us.reverse) A1
theorem ab_tuprev {t : TE} {a : AE} (ha : AbE K t a) : AbE K (tTupRev K t) (aTupRev a) := fun ρ A σ H Q' Q hs g w k =>
  ha ρ A σ H _ _ hs g w fun x A1 v H1 k1 g1 r1 ⟨p, us, e, eA, q⟩ => by
    subst e; cases r1
    obtain ⟨vs, h1, r1⟩ := g1.list eA
    refine ⟨p, vs, rfl, SqL.of h1, fun q2 hp => ?_⟩
    have s := Same.upd_new (o := .tup vs.reverse) hp
    exact k _ _ _ _ (k1.trans s.kp) (g1.grow s) (.tup (SqT.of upd_same) (r1.rev.same s.kp)) q
end
end L2

set_option Elab.async false
set_option linter.all false
set_option maxRecDepth 100000
set_option maxHeartbeats 4000000
/-! the readings opened -/
namespace L2
open PySem PySem.Spec PyProof.Rows
theorem cutU_tail (x : U) (xs : List U) : cutU (x :: xs) (some 1) none = xs := by
  unfold cutU
  have : HT.sIx (x :: xs).length 0 (some 1) = 1 := by
    have := HT.sIx_nat (x :: xs).length 0 1
    rw [show ((1 : Nat) : Int) = 1 from rfl] at this
    rw [this, List.length_cons]; omega
  rw [this, HT.sIx_none, List.drop_succ_cons, List.drop_zero, List.length_cons, Nat.add_sub_cancel, List.take_length]
section
variable {u : U} {ρ : ASt} {A : AHp} {Q : AVK} {a b : AE} {c d : AT} {B : Bool → AHp → Prop} {l : AA} {L : List U → AHp → Prop} {D : AEnds}
theorem q_var0  : (aVar 0 (some u :: ρ) A Q) = (Q u A) := rfl
theorem q_nm0 {a0 : Option U} {g : ASt → AHp → Prop}  : (bName 0 u (a0 :: ρ) A g) = (g (some u :: ρ) A) := rfl
theorem q_get0 {k : U → Prop}  : (aGet (some u :: ρ) 0 k) = (k u) := rfl
theorem q_var1 {a0 : Option U}  : (aVar 1 (a0 :: some u :: ρ) A Q) = (Q u A) := rfl
theorem q_nm1 {a0 a1 : Option U} {g : ASt → AHp → Prop}  : (bName 1 u (a0 :: a1 :: ρ) A g) = (g (a0 :: some u :: ρ) A) := rfl
theorem q_get1 {a0 : Option U} {k : U → Prop}  : (aGet (a0 :: some u :: ρ) 1 k) = (k u) := rfl
theorem q_var2 {a0 a1 : Option U}  : (aVar 2 (a0 :: a1 :: some u :: ρ) A Q) = (Q u A) := rfl
theorem q_nm2 {a0 a1 a2 : Option U} {g : ASt → AHp → Prop}  : (bName 2 u (a0 :: a1 :: a2 :: ρ) A g) = (g (a0 :: a1 :: some u :: ρ) A) := rfl
theorem q_get2 {a0 a1 : Option U} {k : U → Prop}  : (aGet (a0 :: a1 :: some u :: ρ) 2 k) = (k u) := rfl
theorem q_var3 {a0 a1 a2 : Option U}  : (aVar 3 (a0 :: a1 :: a2 :: some u :: ρ) A Q) = (Q u A) := rfl
theorem q_nm3 {a0 a1 a2 a3 : Option U} {g : ASt → AHp → Prop}  : (bName 3 u (a0 :: a1 :: a2 :: a3 :: ρ) A g) = (g (a0 :: a1 :: a2 :: some u :: ρ) A) := rfl
theorem q_get3 {a0 a1 a2 : Option U} {k : U → Prop}  : (aGet (a0 :: a1 :: a2 :: some u :: ρ) 3 k) = (k u) := rfl
theorem q_var4 {a0 a1 a2 a3 : Option U}  : (aVar 4 (a0 :: a1 :: a2 :: a3 :: some u :: ρ) A Q) = (Q u A) := rfl
theorem q_nm4 {a0 a1 a2 a3 a4 : Option U} {g : ASt → AHp → Prop}  : (bName 4 u (a0 :: a1 :: a2 :: a3 :: a4 :: ρ) A g) = (g (a0 :: a1 :: a2 :: a3 :: some u :: ρ) A) := rfl
theorem q_get4 {a0 a1 a2 a3 : Option U} {k : U → Prop}  : (aGet (a0 :: a1 :: a2 :: a3 :: some u :: ρ) 4 k) = (k u) := rfl
theorem q_var5 {a0 a1 a2 a3 a4 : Option U}  : (aVar 5 (a0 :: a1 :: a2 :: a3 :: a4 :: some u :: ρ) A Q) = (Q u A) := rfl
theorem q_nm5 {a0 a1 a2 a3 a4 a5 : Option U} {g : ASt → AHp → Prop}  : (bName 5 u (a0 :: a1 :: a2 :: a3 :: a4 :: a5 :: ρ) A g) = (g (a0 :: a1 :: a2 :: a3 :: a4 :: some u :: ρ) A) := rfl
theorem q_get5 {a0 a1 a2 a3 a4 : Option U} {k : U → Prop}  : (aGet (a0 :: a1 :: a2 :: a3 :: a4 :: some u :: ρ) 5 k) = (k u) := rfl
theorem q_var6 {a0 a1 a2 a3 a4 a5 : Option U}  : (aVar 6 (a0 :: a1 :: a2 :: a3 :: a4 :: a5 :: some u :: ρ) A Q) = (Q u A) := rfl
theorem q_nm6 {a0 a1 a2 a3 a4 a5 a6 : Option U} {g : ASt → AHp → Prop}  : (bName 6 u (a0 :: a1 :: a2 :: a3 :: a4 :: a5 :: a6 :: ρ) A g) = (g (a0 :: a1 :: a2 :: a3 :: a4 :: a5 :: some u :: ρ) A) := rfl
theorem q_get6 {a0 a1 a2 a3 a4 a5 : Option U} {k : U → Prop}  : (aGet (a0 :: a1 :: a2 :: a3 :: a4 :: a5 :: some u :: ρ) 6 k) = (k u) := rfl
theorem q_var7 {a0 a1 a2 a3 a4 a5 a6 : Option U}  : (aVar 7 (a0 :: a1 :: a2 :: a3 :: a4 :: a5 :: a6 :: some u :: ρ) A Q) = (Q u A) := rfl
theorem q_nm7 {a0 a1 a2 a3 a4 a5 a6 a7 : Option U} {g : ASt → AHp → Prop}  : (bName 7 u (a0 :: a1 :: a2 :: a3 :: a4 :: a5 :: a6 :: a7 :: ρ) A g) = (g (a0 :: a1 :: a2 :: a3 :: a4 :: a5 :: a6 :: some u :: ρ) A) := rfl
theorem q_get7 {a0 a1 a2 a3 a4 a5 a6 : Option U} {k : U → Prop}  : (aGet (a0 :: a1 :: a2 :: a3 :: a4 :: a5 :: a6 :: some u :: ρ) 7 k) = (k u) := rfl
theorem q_var8 {a0 a1 a2 a3 a4 a5 a6 a7 : Option U}  : (aVar 8 (a0 :: a1 :: a2 :: a3 :: a4 :: a5 :: a6 :: a7 :: some u :: ρ) A Q) = (Q u A) := rfl
theorem q_nm8 {a0 a1 a2 a3 a4 a5 a6 a7 a8 : Option U} {g : ASt → AHp → Prop}  : (bName 8 u (a0 :: a1 :: a2 :: a3 :: a4 :: a5 :: a6 :: a7 :: a8 :: ρ) A g) = (g (a0 :: a1 :: a2 :: a3 :: a4 :: a5 :: a6 :: a7 :: some u :: ρ) A) := rfl
theorem q_get8 {a0 a1 a2 a3 a4 a5 a6 a7 : Option U} {k : U → Prop}  : (aGet (a0 :: a1 :: a2 :: a3 :: a4 :: a5 :: a6 :: a7 :: some u :: ρ) 8 k) = (k u) := rfl
theorem q_var9 {a0 a1 a2 a3 a4 a5 a6 a7 a8 : Option U}  : (aVar 9 (a0 :: a1 :: a2 :: a3 :: a4 :: a5 :: a6 :: a7 :: a8 :: some u :: ρ) A Q) = (Q u A) := rfl
theorem q_nm9 {a0 a1 a2 a3 a4 a5 a6 a7 a8 a9 : Option U} {g : ASt → AHp → Prop}  : (bName 9 u (a0 :: a1 :: a2 :: a3 :: a4 :: a5 :: a6 :: a7 :: a8 :: a9 :: ρ) A g) = (g (a0 :: a1 :: a2 :: a3 :: a4 :: a5 :: a6 :: a7 :: a8 :: some u :: ρ) A) := rfl
theorem q_get9 {a0 a1 a2 a3 a4 a5 a6 a7 a8 : Option U} {k : U → Prop}  : (aGet (a0 :: a1 :: a2 :: a3 :: a4 :: a5 :: a6 :: a7 :: a8 :: some u :: ρ) 9 k) = (k u) := rfl
theorem q_var10 {a0 a1 a2 a3 a4 a5 a6 a7 a8 a9 : Option U}  : (aVar 10 (a0 :: a1 :: a2 :: a3 :: a4 :: a5 :: a6 :: a7 :: a8 :: a9 :: some u :: ρ) A Q) = (Q u A) := rfl
theorem q_nm10 {a0 a1 a2 a3 a4 a5 a6 a7 a8 a9 a10 : Option U} {g : ASt → AHp → Prop}  : (bName 10 u (a0 :: a1 :: a2 :: a3 :: a4 :: a5 :: a6 :: a7 :: a8 :: a9 :: a10 :: ρ) A g) = (g (a0 :: a1 :: a2 :: a3 :: a4 :: a5 :: a6 :: a7 :: a8 :: a9 :: some u :: ρ) A) := rfl
theorem q_get10 {a0 a1 a2 a3 a4 a5 a6 a7 a8 a9 : Option U} {k : U → Prop}  : (aGet (a0 :: a1 :: a2 :: a3 :: a4 :: a5 :: a6 :: a7 :: a8 :: a9 :: some u :: ρ) 10 k) = (k u) := rfl
theorem q_var11 {a0 a1 a2 a3 a4 a5 a6 a7 a8 a9 a10 : Option U}  : (aVar 11 (a0 :: a1 :: a2 :: a3 :: a4 :: a5 :: a6 :: a7 :: a8 :: a9 :: a10 :: some u :: ρ) A Q) = (Q u A) := rfl
theorem q_nm11 {a0 a1 a2 a3 a4 a5 a6 a7 a8 a9 a10 a11 : Option U} {g : ASt → AHp → Prop}  : (bName 11 u (a0 :: a1 :: a2 :: a3 :: a4 :: a5 :: a6 :: a7 :: a8 :: a9 :: a10 :: a11 :: ρ) A g) = (g (a0 :: a1 :: a2 :: a3 :: a4 :: a5 :: a6 :: a7 :: a8 :: a9 :: a10 :: some u :: ρ) A) := rfl
theorem q_get11 {a0 a1 a2 a3 a4 a5 a6 a7 a8 a9 a10 : Option U} {k : U → Prop}  : (aGet (a0 :: a1 :: a2 :: a3 :: a4 :: a5 :: a6 :: a7 :: a8 :: a9 :: a10 :: some u :: ρ) 11 k) = (k u) := rfl
theorem q_var12 {a0 a1 a2 a3 a4 a5 a6 a7 a8 a9 a10 a11 : Option U}  : (aVar 12 (a0 :: a1 :: a2 :: a3 :: a4 :: a5 :: a6 :: a7 :: a8 :: a9 :: a10 :: a11 :: some u :: ρ) A Q) = (Q u A) := rfl
theorem q_nm12 {a0 a1 a2 a3 a4 a5 a6 a7 a8 a9 a10 a11 a12 : Option U} {g : ASt → AHp → Prop}  : (bName 12 u (a0 :: a1 :: a2 :: a3 :: a4 :: a5 :: a6 :: a7 :: a8 :: a9 :: a10 :: a11 :: a12 :: ρ) A g) = (g (a0 :: a1 :: a2 :: a3 :: a4 :: a5 :: a6 :: a7 :: a8 :: a9 :: a10 :: a11 :: some u :: ρ) A) := rfl
theorem q_get12 {a0 a1 a2 a3 a4 a5 a6 a7 a8 a9 a10 a11 : Option U} {k : U → Prop}  : (aGet (a0 :: a1 :: a2 :: a3 :: a4 :: a5 :: a6 :: a7 :: a8 :: a9 :: a10 :: a11 :: some u :: ρ) 12 k) = (k u) := rfl
theorem q_var13 {a0 a1 a2 a3 a4 a5 a6 a7 a8 a9 a10 a11 a12 : Option U}  : (aVar 13 (a0 :: a1 :: a2 :: a3 :: a4 :: a5 :: a6 :: a7 :: a8 :: a9 :: a10 :: a11 :: a12 :: some u :: ρ) A Q) = (Q u A) := rfl
theorem q_nm13 {a0 a1 a2 a3 a4 a5 a6 a7 a8 a9 a10 a11 a12 a13 : Option U} {g : ASt → AHp → Prop}  : (bName 13 u (a0 :: a1 :: a2 :: a3 :: a4 :: a5 :: a6 :: a7 :: a8 :: a9 :: a10 :: a11 :: a12 :: a13 :: ρ) A g) = (g (a0 :: a1 :: a2 :: a3 :: a4 :: a5 :: a6 :: a7 :: a8 :: a9 :: a10 :: a11 :: a12 :: some u :: ρ) A) := rfl
theorem q_get13 {a0 a1 a2 a3 a4 a5 a6 a7 a8 a9 a10 a11 a12 : Option U} {k : U → Prop}  : (aGet (a0 :: a1 :: a2 :: a3 :: a4 :: a5 :: a6 :: a7 :: a8 :: a9 :: a10 :: a11 :: a12 :: some u :: ρ) 13 k) = (k u) := rfl
theorem q_var14 {a0 a1 a2 a3 a4 a5 a6 a7 a8 a9 a10 a11 a12 a13 : Option U}  : (aVar 14 (a0 :: a1 :: a2 :: a3 :: a4 :: a5 :: a6 :: a7 :: a8 :: a9 :: a10 :: a11 :: a12 :: a13 :: some u :: ρ) A Q) = (Q u A) := rfl
theorem q_nm14 {a0 a1 a2 a3 a4 a5 a6 a7 a8 a9 a10 a11 a12 a13 a14 : Option U} {g : ASt → AHp → Prop}  : (bName 14 u (a0 :: a1 :: a2 :: a3 :: a4 :: a5 :: a6 :: a7 :: a8 :: a9 :: a10 :: a11 :: a12 :: a13 :: a14 :: ρ) A g) = (g (a0 :: a1 :: a2 :: a3 :: a4 :: a5 :: a6 :: a7 :: a8 :: a9 :: a10 :: a11 :: a12 :: a13 :: some u :: ρ) A) := rfl
theorem q_get14 {a0 a1 a2 a3 a4 a5 a6 a7 a8 a9 a10 a11 a12 a13 : Option U} {k : U → Prop}  : (aGet (a0 :: a1 :: a2 :: a3 :: a4 :: a5 :: a6 :: a7 :: a8 :: a9 :: a10 :: a11 :: a12 :: a13 :: some u :: ρ) 14 k) = (k u) := rfl
theorem q_var15 {a0 a1 a2 a3 a4 a5 a6 a7 a8 a9 a10 a11 a12 a13 a14 : Option U}  : (aVar 15 (a0 :: a1 :: a2 :: a3 :: a4 :: a5 :: a6 :: a7 :: a8 :: a9 :: a10 :: a11 :: a12 :: a13 :: a14 :: some u :: ρ) A Q) = (Q u A) := rfl
theorem q_nm15 {a0 a1 a2 a3 a4 a5 a6 a7 a8 a9 a10 a11 a12 a13 a14 a15 : Option U} {g : ASt → AHp → Prop}  : (bName 15 u (a0 :: a1 :: a2 :: a3 :: a4 :: a5 :: a6 :: a7 :: a8 :: a9 :: a10 :: a11 :: a12 :: a13 :: a14 :: a15 :: ρ) A g) = (g (a0 :: a1 :: a2 :: a3 :: a4 :: a5 :: a6 :: a7 :: a8 :: a9 :: a10 :: a11 :: a12 :: a13 :: a14 :: some u :: ρ) A) := rfl
theorem q_get15 {a0 a1 a2 a3 a4 a5 a6 a7 a8 a9 a10 a11 a12 a13 a14 : Option U} {k : U → Prop}  : (aGet (a0 :: a1 :: a2 :: a3 :: a4 :: a5 :: a6 :: a7 :: a8 :: a9 :: a10 :: a11 :: a12 :: a13 :: a14 :: some u :: ρ) 15 k) = (k u) := rfl
theorem q_var16 {a0 a1 a2 a3 a4 a5 a6 a7 a8 a9 a10 a11 a12 a13 a14 a15 : Option U}  : (aVar 16 (a0 :: a1 :: a2 :: a3 :: a4 :: a5 :: a6 :: a7 :: a8 :: a9 :: a10 :: a11 :: a12 :: a13 :: a14 :: a15 :: some u :: ρ) A Q) = (Q u A) := rfl
theorem q_nm16 {a0 a1 a2 a3 a4 a5 a6 a7 a8 a9 a10 a11 a12 a13 a14 a15 a16 : Option U} {g : ASt → AHp → Prop}  : (bName 16 u (a0 :: a1 :: a2 :: a3 :: a4 :: a5 :: a6 :: a7 :: a8 :: a9 :: a10 :: a11 :: a12 :: a13 :: a14 :: a15 :: a16 :: ρ) A g) = (g (a0 :: a1 :: a2 :: a3 :: a4 :: a5 :: a6 :: a7 :: a8 :: a9 :: a10 :: a11 :: a12 :: a13 :: a14 :: a15 :: some u :: ρ) A) := rfl
theorem q_get16 {a0 a1 a2 a3 a4 a5 a6 a7 a8 a9 a10 a11 a12 a13 a14 a15 : Option U} {k : U → Prop}  : (aGet (a0 :: a1 :: a2 :: a3 :: a4 :: a5 :: a6 :: a7 :: a8 :: a9 :: a10 :: a11 :: a12 :: a13 :: a14 :: a15 :: some u :: ρ) 16 k) = (k u) := rfl
theorem q_var17 {a0 a1 a2 a3 a4 a5 a6 a7 a8 a9 a10 a11 a12 a13 a14 a15 a16 : Option U}  : (aVar 17 (a0 :: a1 :: a2 :: a3 :: a4 :: a5 :: a6 :: a7 :: a8 :: a9 :: a10 :: a11 :: a12 :: a13 :: a14 :: a15 :: a16 :: some u :: ρ) A Q) = (Q u A) := rfl
theorem q_nm17 {a0 a1 a2 a3 a4 a5 a6 a7 a8 a9 a10 a11 a12 a13 a14 a15 a16 a17 : Option U} {g : ASt → AHp → Prop}  : (bName 17 u (a0 :: a1 :: a2 :: a3 :: a4 :: a5 :: a6 :: a7 :: a8 :: a9 :: a10 :: a11 :: a12 :: a13 :: a14 :: a15 :: a16 :: a17 :: ρ) A g) = (g (a0 :: a1 :: a2 :: a3 :: a4 :: a5 :: a6 :: a7 :: a8 :: a9 :: a10 :: a11 :: a12 :: a13 :: a14 :: a15 :: a16 :: some u :: ρ) A) := rfl
theorem q_get17 {a0 a1 a2 a3 a4 a5 a6 a7 a8 a9 a10 a11 a12 a13 a14 a15 a16 : Option U} {k : U → Prop}  : (aGet (a0 :: a1 :: a2 :: a3 :: a4 :: a5 :: a6 :: a7 :: a8 :: a9 :: a10 :: a11 :: a12 :: a13 :: a14 :: a15 :: a16 :: some u :: ρ) 17 k) = (k u) := rfl
theorem q_var18 {a0 a1 a2 a3 a4 a5 a6 a7 a8 a9 a10 a11 a12 a13 a14 a15 a16 a17 : Option U}  : (aVar 18 (a0 :: a1 :: a2 :: a3 :: a4 :: a5 :: a6 :: a7 :: a8 :: a9 :: a10 :: a11 :: a12 :: a13 :: a14 :: a15 :: a16 :: a17 :: some u :: ρ) A Q) = (Q u A) := rfl
theorem q_nm18 {a0 a1 a2 a3 a4 a5 a6 a7 a8 a9 a10 a11 a12 a13 a14 a15 a16 a17 a18 : Option U} {g : ASt → AHp → Prop}  : (bName 18 u (a0 :: a1 :: a2 :: a3 :: a4 :: a5 :: a6 :: a7 :: a8 :: a9 :: a10 :: a11 :: a12 :: a13 :: a14 :: a15 :: a16 :: a17 :: a18 :: ρ) A g) = (g (a0 :: a1 :: a2 :: a3 :: a4 :: a5 :: a6 :: a7 :: a8 :: a9 :: a10 :: a11 :: a12 :: a13 :: a14 :: a15 :: a16 :: a17 :: some u :: ρ) A) := rfl
theorem q_get18 {a0 a1 a2 a3 a4 a5 a6 a7 a8 a9 a10 a11 a12 a13 a14 a15 a16 a17 : Option U} {k : U → Prop}  : (aGet (a0 :: a1 :: a2 :: a3 :: a4 :: a5 :: a6 :: a7 :: a8 :: a9 :: a10 :: a11 :: a12 :: a13 :: a14 :: a15 :: a16 :: a17 :: some u :: ρ) 18 k) = (k u) := rfl
theorem q_var19 {a0 a1 a2 a3 a4 a5 a6 a7 a8 a9 a10 a11 a12 a13 a14 a15 a16 a17 a18 : Option U}  : (aVar 19 (a0 :: a1 :: a2 :: a3 :: a4 :: a5 :: a6 :: a7 :: a8 :: a9 :: a10 :: a11 :: a12 :: a13 :: a14 :: a15 :: a16 :: a17 :: a18 :: some u :: ρ) A Q) = (Q u A) := rfl
theorem q_nm19 {a0 a1 a2 a3 a4 a5 a6 a7 a8 a9 a10 a11 a12 a13 a14 a15 a16 a17 a18 a19 : Option U} {g : ASt → AHp → Prop}  : (bName 19 u (a0 :: a1 :: a2 :: a3 :: a4 :: a5 :: a6 :: a7 :: a8 :: a9 :: a10 :: a11 :: a12 :: a13 :: a14 :: a15 :: a16 :: a17 :: a18 :: a19 :: ρ) A g) = (g (a0 :: a1 :: a2 :: a3 :: a4 :: a5 :: a6 :: a7 :: a8 :: a9 :: a10 :: a11 :: a12 :: a13 :: a14 :: a15 :: a16 :: a17 :: a18 :: some u :: ρ) A) := rfl
theorem q_get19 {a0 a1 a2 a3 a4 a5 a6 a7 a8 a9 a10 a11 a12 a13 a14 a15 a16 a17 a18 : Option U} {k : U → Prop}  : (aGet (a0 :: a1 :: a2 :: a3 :: a4 :: a5 :: a6 :: a7 :: a8 :: a9 :: a10 :: a11 :: a12 :: a13 :: a14 :: a15 :: a16 :: a17 :: a18 :: some u :: ρ) 19 k) = (k u) := rfl
theorem q_var20 {a0 a1 a2 a3 a4 a5 a6 a7 a8 a9 a10 a11 a12 a13 a14 a15 a16 a17 a18 a19 : Option U}  : (aVar 20 (a0 :: a1 :: a2 :: a3 :: a4 :: a5 :: a6 :: a7 :: a8 :: a9 :: a10 :: a11 :: a12 :: a13 :: a14 :: a15 :: a16 :: a17 :: a18 :: a19 :: some u :: ρ) A Q) = (Q u A) := rfl
theorem q_nm20 {a0 a1 a2 a3 a4 a5 a6 a7 a8 a9 a10 a11 a12 a13 a14 a15 a16 a17 a18 a19 a20 : Option U} {g : ASt → AHp → Prop}  : (bName 20 u (a0 :: a1 :: a2 :: a3 :: a4 :: a5 :: a6 :: a7 :: a8 :: a9 :: a10 :: a11 :: a12 :: a13 :: a14 :: a15 :: a16 :: a17 :: a18 :: a19 :: a20 :: ρ) A g) = (g (a0 :: a1 :: a2 :: a3 :: a4 :: a5 :: a6 :: a7 :: a8 :: a9 :: a10 :: a11 :: a12 :: a13 :: a14 :: a15 :: a16 :: a17 :: a18 :: a19 :: some u :: ρ) A) := rfl
theorem q_get20 {a0 a1 a2 a3 a4 a5 a6 a7 a8 a9 a10 a11 a12 a13 a14 a15 a16 a17 a18 a19 : Option U} {k : U → Prop}  : (aGet (a0 :: a1 :: a2 :: a3 :: a4 :: a5 :: a6 :: a7 :: a8 :: a9 :: a10 :: a11 :: a12 :: a13 :: a14 :: a15 :: a16 :: a17 :: a18 :: a19 :: some u :: ρ) 20 k) = (k u) := rfl
theorem q_var21 {a0 a1 a2 a3 a4 a5 a6 a7 a8 a9 a10 a11 a12 a13 a14 a15 a16 a17 a18 a19 a20 : Option U}  : (aVar 21 (a0 :: a1 :: a2 :: a3 :: a4 :: a5 :: a6 :: a7 :: a8 :: a9 :: a10 :: a11 :: a12 :: a13 :: a14 :: a15 :: a16 :: a17 :: a18 :: a19 :: a20 :: some u :: ρ) A Q) = (Q u A) := rfl
theorem q_nm21 {a0 a1 a2 a3 a4 a5 a6 a7 a8 a9 a10 a11 a12 a13 a14 a15 a16 a17 a18 a19 a20 a21 : Option U} {g : ASt → AHp → Prop}  : (bName 21 u (a0 :: a1 :: a2 :: a3 :: a4 :: a5 :: a6 :: a7 :: a8 :: a9 :: a10 :: a11 :: a12 :: a13 :: a14 :: a15 :: a16 :: a17 :: a18 :: a19 :: a20 :: a21 :: ρ) A g) = (g (a0 :: a1 :: a2 :: a3 :: a4 :: a5 :: a6 :: a7 :: a8 :: a9 :: a10 :: a11 :: a12 :: a13 :: a14 :: a15 :: a16 :: a17 :: a18 :: a19 :: a20 :: some u :: ρ) A) := rfl
theorem q_get21 {a0 a1 a2 a3 a4 a5 a6 a7 a8 a9 a10 a11 a12 a13 a14 a15 a16 a17 a18 a19 a20 : Option U} {k : U → Prop}  : (aGet (a0 :: a1 :: a2 :: a3 :: a4 :: a5 :: a6 :: a7 :: a8 :: a9 :: a10 :: a11 :: a12 :: a13 :: a14 :: a15 :: a16 :: a17 :: a18 :: a19 :: a20 :: some u :: ρ) 21 k) = (k u) := rfl
theorem q_var22 {a0 a1 a2 a3 a4 a5 a6 a7 a8 a9 a10 a11 a12 a13 a14 a15 a16 a17 a18 a19 a20 a21 : Option U}  : (aVar 22 (a0 :: a1 :: a2 :: a3 :: a4 :: a5 :: a6 :: a7 :: a8 :: a9 :: a10 :: a11 :: a12 :: a13 :: a14 :: a15 :: a16 :: a17 :: a18 :: a19 :: a20 :: a21 :: some u :: ρ) A Q) = (Q u A) := rfl
theorem q_nm22 {a0 a1 a2 a3 a4 a5 a6 a7 a8 a9 a10 a11 a12 a13 a14 a15 a16 a17 a18 a19 a20 a21 a22 : Option U} {g : ASt → AHp → Prop}  : (bName 22 u (a0 :: a1 :: a2 :: a3 :: a4 :: a5 :: a6 :: a7 :: a8 :: a9 :: a10 :: a11 :: a12 :: a13 :: a14 :: a15 :: a16 :: a17 :: a18 :: a19 :: a20 :: a21 :: a22 :: ρ) A g) = (g (a0 :: a1 :: a2 :: a3 :: a4 :: a5 :: a6 :: a7 :: a8 :: a9 :: a10 :: a11 :: a12 :: a13 :: a14 :: a15 :: a16 :: a17 :: a18 :: a19 :: a20 :: a21 :: some u :: ρ) A) := rfl
theorem q_get22 {a0 a1 a2 a3 a4 a5 a6 a7 a8 a9 a10 a11 a12 a13 a14 a15 a16 a17 a18 a19 a20 a21 : Option U} {k : U → Prop}  : (aGet (a0 :: a1 :: a2 :: a3 :: a4 :: a5 :: a6 :: a7 :: a8 :: a9 :: a10 :: a11 :: a12 :: a13 :: a14 :: a15 :: a16 :: a17 :: a18 :: a19 :: a20 :: a21 :: some u :: ρ) 22 k) = (k u) := rfl
theorem q_var23 {a0 a1 a2 a3 a4 a5 a6 a7 a8 a9 a10 a11 a12 a13 a14 a15 a16 a17 a18 a19 a20 a21 a22 : Option U}  : (aVar 23 (a0 :: a1 :: a2 :: a3 :: a4 :: a5 :: a6 :: a7 :: a8 :: a9 :: a10 :: a11 :: a12 :: a13 :: a14 :: a15 :: a16 :: a17 :: a18 :: a19 :: a20 :: a21 :: a22 :: some u :: ρ) A Q) = (Q u A) := rfl
theorem q_nm23 {a0 a1 a2 a3 a4 a5 a6 a7 a8 a9 a10 a11 a12 a13 a14 a15 a16 a17 a18 a19 a20 a21 a22 a23 : Option U} {g : ASt → AHp → Prop}  : (bName 23 u (a0 :: a1 :: a2 :: a3 :: a4 :: a5 :: a6 :: a7 :: a8 :: a9 :: a10 :: a11 :: a12 :: a13 :: a14 :: a15 :: a16 :: a17 :: a18 :: a19 :: a20 :: a21 :: a22 :: a23 :: ρ) A g) = (g (a0 :: a1 :: a2 :: a3 :: a4 :: a5 :: a6 :: a7 :: a8 :: a9 :: a10 :: a11 :: a12 :: a13 :: a14 :: a15 :: a16 :: a17 :: a18 :: a19 :: a20 :: a21 :: a22 :: some u :: ρ) A) := rfl
theorem q_get23 {a0 a1 a2 a3 a4 a5 a6 a7 a8 a9 a10 a11 a12 a13 a14 a15 a16 a17 a18 a19 a20 a21 a22 : Option U} {k : U → Prop}  : (aGet (a0 :: a1 :: a2 :: a3 :: a4 :: a5 :: a6 :: a7 :: a8 :: a9 :: a10 :: a11 :: a12 :: a13 :: a14 :: a15 :: a16 :: a17 :: a18 :: a19 :: a20 :: a21 :: a22 :: some u :: ρ) 23 k) = (k u) := rfl
theorem q_var24 {a0 a1 a2 a3 a4 a5 a6 a7 a8 a9 a10 a11 a12 a13 a14 a15 a16 a17 a18 a19 a20 a21 a22 a23 : Option U}  : (aVar 24 (a0 :: a1 :: a2 :: a3 :: a4 :: a5 :: a6 :: a7 :: a8 :: a9 :: a10 :: a11 :: a12 :: a13 :: a14 :: a15 :: a16 :: a17 :: a18 :: a19 :: a20 :: a21 :: a22 :: a23 :: some u :: ρ) A Q) = (Q u A) := rfl
theorem q_nm24 {a0 a1 a2 a3 a4 a5 a6 a7 a8 a9 a10 a11 a12 a13 a14 a15 a16 a17 a18 a19 a20 a21 a22 a23 a24 : Option U} {g : ASt → AHp → Prop}  : (bName 24 u (a0 :: a1 :: a2 :: a3 :: a4 :: a5 :: a6 :: a7 :: a8 :: a9 :: a10 :: a11 :: a12 :: a13 :: a14 :: a15 :: a16 :: a17 :: a18 :: a19 :: a20 :: a21 :: a22 :: a23 :: a24 :: ρ) A g) = (g (a0 :: a1 :: a2 :: a3 :: a4 :: a5 :: a6 :: a7 :: a8 :: a9 :: a10 :: a11 :: a12 :: a13 :: a14 :: a15 :: a16 :: a17 :: a18 :: a19 :: a20 :: a21 :: a22 :: a23 :: some u :: ρ) A) := rfl
theorem q_get24 {a0 a1 a2 a3 a4 a5 a6 a7 a8 a9 a10 a11 a12 a13 a14 a15 a16 a17 a18 a19 a20 a21 a22 a23 : Option U} {k : U → Prop}  : (aGet (a0 :: a1 :: a2 :: a3 :: a4 :: a5 :: a6 :: a7 :: a8 :: a9 :: a10 :: a11 :: a12 :: a13 :: a14 :: a15 :: a16 :: a17 :: a18 :: a19 :: a20 :: a21 :: a22 :: a23 :: some u :: ρ) 24 k) = (k u) := rfl
theorem q_var25 {a0 a1 a2 a3 a4 a5 a6 a7 a8 a9 a10 a11 a12 a13 a14 a15 a16 a17 a18 a19 a20 a21 a22 a23 a24 : Option U}  : (aVar 25 (a0 :: a1 :: a2 :: a3 :: a4 :: a5 :: a6 :: a7 :: a8 :: a9 :: a10 :: a11 :: a12 :: a13 :: a14 :: a15 :: a16 :: a17 :: a18 :: a19 :: a20 :: a21 :: a22 :: a23 :: a24 :: some u :: ρ) A Q) = (Q u A) := rfl
theorem q_nm25 {a0 a1 a2 a3 a4 a5 a6 a7 a8 a9 a10 a11 a12 a13 a14 a15 a16 a17 a18 a19 a20 a21 a22 a23 a24 a25 : Option U} {g : ASt → AHp → Prop}  : (bName 25 u (a0 :: a1 :: a2 :: a3 :: a4 :: a5 :: a6 :: a7 :: a8 :: a9 :: a10 :: a11 :: a12 :: a13 :: a14 :: a15 :: a16 :: a17 :: a18 :: a19 :: a20 :: a21 :: a22 :: a23 :: a24 :: a25 :: ρ) A g) = (g (a0 :: a1 :: a2 :: a3 :: a4 :: a5 :: a6 :: a7 :: a8 :: a9 :: a10 :: a11 :: a12 :: a13 :: a14 :: a15 :: a16 :: a17 :: a18 :: a19 :: a20 :: a21 :: a22 :: a23 :: a24 :: some u :: ρ) A) := rfl
theorem q_get25 {a0 a1 a2 a3 a4 a5 a6 a7 a8 a9 a10 a11 a12 a13 a14 a15 a16 a17 a18 a19 a20 a21 a22 a23 a24 : Option U} {k : U → Prop}  : (aGet (a0 :: a1 :: a2 :: a3 :: a4 :: a5 :: a6 :: a7 :: a8 :: a9 :: a10 :: a11 :: a12 :: a13 :: a14 :: a15 :: a16 :: a17 :: a18 :: a19 :: a20 :: a21 :: a22 :: a23 :: a24 :: some u :: ρ) 25 k) = (k u) := rfl
theorem q_c  : (aC u ρ A Q) = (Q u A) := rfl
theorem q_op {r : AR2} : (aOp r a b ρ A Q) = (a ρ A fun x A1 => b ρ A1 fun y A2 => r x y A2 Q) := rfl
theorem q_un {r : U → AHp → AVK → Prop} : (aUn r a ρ A Q) = (a ρ A fun x A1 => r x A1 Q) := rfl
theorem q_tb  : (aB a ρ A B) = (a ρ A fun x A1 => ∃ c, x = .bl c ∧ B c A1) := rfl
theorem q_bl {k : Bool} {F : Bool → Prop} : (∃ c, U.bl k = .bl c ∧ F c) = (F k) := by simp
theorem q_int {i : Int} {F : Int → Prop} : (∃ c, U.int i = .int c ∧ F c) = (F i) := by simp
theorem q_and  : (aAnd c d ρ A B) = (c ρ A fun k A1 => if k = true then d ρ A1 B else B false A1) := rfl
theorem q_or  : (aOr c d ρ A B) = (c ρ A fun k A1 => if k = true then B true A1 else d ρ A1 B) := rfl
theorem q_not  : (aNot c ρ A B) = (c ρ A fun k A1 => B (!k) A1) := rfl
theorem q_andv  : (aAndV a b ρ A Q) = (a ρ A fun x A1 => ∃ k, x = .bl k ∧ if k = true then b ρ A1 Q else Q (.bl false) A1) := rfl
theorem q_orv  : (aOrV a b ρ A Q) = (a ρ A fun x A1 => ∃ k, x = .bl k ∧ if k = true then Q (.bl true) A1 else b ρ A1 Q) := rfl
theorem q_notv  : (aNotV a ρ A Q) = (a ρ A fun x A1 => ∃ k, x = .bl k ∧ Q (.bl (!k)) A1) := rfl
theorem q_if  : (aIf c a b ρ A Q) = (c ρ A fun k A1 => if k = true then a ρ A1 Q else b ρ A1 Q) := rfl
theorem q_chain {r r2 : AR2} {e : AE} : (aChain r r2 a b e ρ A Q) = (a ρ A fun x A1 => b ρ A1 fun y A2 => r x y A2 fun z A3 => ∃ k, z = .bl k ∧ (if k = true then e ρ A3 fun w A4 => r2 y w A4 Q else Q (.bl false) A3)) := rfl
theorem q_true  : (aTrue ρ A B) = (B true A) := rfl
theorem q_nil  : (aNil ρ A L) = (L [] A) := rfl
theorem q_cons  : (aCons a l ρ A L) = (a ρ A fun x A1 => l ρ A1 fun xs A2 => L (x :: xs) A2) := rfl
theorem q_const {us : List U} : (aConst us ρ A L) = (L us A) := rfl
theorem q_tup  : (aTup l ρ A Q) = (l ρ A fun xs A1 => xs.length ≤ sizeLine ∧ Q (.tup xs) A1) := rfl
theorem q_lst  : (aLst l ρ A Q) = (l ρ A fun xs A1 => xs.length ≤ sizeLine ∧ ∀ p, A1 p = none → Q (.ref p) (updA A1 p (.lst xs))) := rfl
theorem q_cb {r : List U → AHp → AVK → Prop} : (aCB r l ρ A Q) = (l ρ A fun us A1 => r us A1 Q) := rfl
theorem q_call {sp : ASp} : (aCall sp l ρ A Q) = (l ρ A fun us A1 => sp us A1 Q) := rfl
theorem q_callV {sp : ASp} {f : Addr} : (aCallV f sp a l ρ A Q) = (a ρ A fun y A0 => y = .ref f ∧ l ρ A0 fun us A1 => sp us A1 Q) := rfl
theorem q_nopart {O : Option Int → AHp → Prop} : (aNoPart ρ A O) = (O none A) := rfl
theorem q_part {O : Option Int → AHp → Prop} : (aPart a ρ A O) = (a ρ A fun x A1 => ∃ i, x = .int i ∧ O (some i) A1) := rfl
theorem q_sl {r : U → Option Int → Option Int → AHp → AVK → Prop} {lo hi : AP1} : (aSl r a lo hi ρ A Q) = (a ρ A fun x A1 => lo ρ A1 fun i A2 => hi ρ A2 fun j A3 => r x i j A3 Q) := rfl
theorem q_bm0 {y : U → AHp → Prop} {r : U → List U → AHp → AVK → Prop} : (aBM0 y r a ρ A Q) = (a ρ A fun x A1 => y x A1 ∧ r x [] A1 Q) := rfl
theorem q_bm {y : U → AHp → Prop} {r : U → List U → AHp → AVK → Prop} : (aBM y r a l ρ A Q) = (a ρ A fun x A1 => y x A1 ∧ l ρ A1 fun us A2 => r x us A2 Q) := rfl
theorem q_next  : (aNext D ρ A) = (D.nx ρ A) := rfl
theorem q_seq {t t2 : AS} : (aSeq t t2 D ρ A) = (t { D with nx := t2 D } ρ A) := rfl
theorem q_break  : (aBreak D ρ A) = (D.bk ρ A) := rfl
theorem q_cont  : (aCont D ρ A) = (D.ct ρ A) := rfl
theorem q_drop  : (aDrop a D ρ A) = (a ρ A fun _ A1 => D.nx ρ A1) := rfl
theorem q_ret  : (aRet a D ρ A) = (a ρ A D.rt) := rfl
theorem q_retn  : (aRetN D ρ A) = (D.rt .non A) := rfl
theorem q_ifs {t t2 : AS} : (aIfS c t t2 D ρ A) = (c ρ A fun k A1 => if k = true then t D ρ A1 else t2 D ρ A1) := rfl
theorem q_asg {g : AG} : (aAsg a g D ρ A) = (a ρ A fun x A1 => g x ρ A1 D.nx) := rfl
theorem q_par {i j : Nat} : (aPar i j l D ρ A) = (l ρ A fun us A1 => ∃ v w, us = [v, w] ∧ D.nx ((ρ.set i (some v)).set j (some w)) A1) := rfl
theorem q_two {v w : U} {F : U → U → Prop} : (∃ a b, [v, w] = [a, b] ∧ F a b) = (F v w) := propext ⟨fun ⟨a, b, e, h⟩ => by injection e with e1 e2; injection e2 with e2 _; subst e1 e2; exact h, fun h => ⟨_, _, rfl, h⟩⟩
theorem q_aug {i : Nat} {r : AR2} : (aAug i a r D ρ A) = (aGet ρ i fun x => a ρ A fun y A1 => r x y A1 fun z A2 => D.nx (ρ.set i (some z)) A2) := rfl
theorem q_for {wi : AI} {g : AG} {t : AS} : (aFor wi g t D ρ A) = (wi ρ A fun J A1 => aLoop J g t D ρ A1) := rfl
theorem q_jof {y : U → AHp → (AIt → AHp → Prop) → Prop} {R : AIt → AHp → Prop} : (aJof y a ρ A R) = (a ρ A fun x A1 => y x A1 R) := rfl
theorem q_jargs {y : List U → AHp → (AIt → AHp → Prop) → Prop} {R : AIt → AHp → Prop} : (aJargs y l ρ A R) = (l ρ A fun us A1 => y us A1 R) := rfl
theorem q_ylr {R : AIt → AHp → Prop} {p : Addr} : (yList (.ref p) A R) = ((∃ us, A p = some (.lst us)) ∧ R (jLst p) A) := rfl
theorem q_ylo {R : AIt → AHp → Prop} {us : List U} : (yList (.rol us) A R) = (R (jFix us) A) := rfl
theorem q_yt {R : AIt → AHp → Prop} {us : List U} : (yTup (.tup us) A R) = (R (jFix us) A) := rfl
theorem q_ys {R : AIt → AHp → Prop} {z : Str} : (yStr (.str z) A R) = (R (jFix (z.cps.toList.map fun c => .str ⟨#[c]⟩)) A) := rfl
theorem q_yr1 {R : AIt → AHp → Prop} {j : Int} : (yRng1 [.int j] A R) = (-(2 ^ 62) ≤ j ∧ j < 2 ^ 62 ∧ R (jFix (rngU 0 j.toNat)) A) := rfl
theorem q_yr2 {R : AIt → AHp → Prop} {i j : Int} : (yRng2 [.int i, .int j] A R) = ((-(2 ^ 62) ≤ i ∧ i < 2 ^ 62 ∧ -(2 ^ 62) ≤ j ∧ j < 2 ^ 62) ∧ R (jFix (rngU i (j - i).toNat)) A) := rfl
theorem q_yer {R : AIt → AHp → Prop} {p : Addr} : (yEnum [.ref p] A R) = ((∃ us, A p = some (.lst us)) ∧ R (jEnum p) A) := rfl
theorem q_yeo {R : AIt → AHp → Prop} {us : List U} : (yEnum [.rol us] A R) = (R (jFix (enU us)) A) := rfl
theorem q_yet {R : AIt → AHp → Prop} {us : List U} : (yEnumT [.tup us] A R) = (R (jFix (enU us)) A) := rfl
theorem q_yz {R : AIt → AHp → Prop} {p q : Addr} : (yZip [.ref p, .ref q] A R) = ((∃ us ws, A p = some (.lst us) ∧ A q = some (.lst ws)) ∧ R (jZip p q) A) := rfl
theorem q_jrev {R : AIt → AHp → Prop} : (aJrev a ρ A R) = (a ρ A fun x A1 => ∃ p us, x = .ref p ∧ A1 p = some (.lst us) ∧ R (jRevA p us.length) A1) := rfl
theorem q_comp {nt : Nat} {frs : List (Str × Nat)} {wi : AI} {g : AG} {tt : AT} {te : AE} : (aComp nt frs wi g tt te ρ A Q) = (wi ρ A fun J A1 => ∀ l, A1 l = none → aCL J g tt te l Q (aCompStart nt frs ρ) (updA A1 l (.lst []))) := rfl
theorem q_gtup {n : Nat} {t : AGs} {N : ASt → AHp → Prop} {us : List U} : (bTup n t (.tup us) ρ A N) = (us.length = n ∧ t us ρ A N) := propext ⟨fun ⟨vs, e, h⟩ => by cases e; exact h, fun h => ⟨_, rfl, h⟩⟩
theorem q_gcons {t : AG} {ts : AGs} {N : ASt → AHp → Prop} {us : List U} : (bCons t ts (u :: us) ρ A N) = (t u ρ A fun ρ2 A2 => ts us ρ2 A2 N) := propext ⟨fun ⟨v, r, e, h⟩ => by cases e; exact h, fun h => ⟨_, _, rfl, h⟩⟩
theorem q_gnil {N : ASt → AHp → Prop} : (bNil [] ρ A N) = (N ρ A) := propext ⟨fun h => h.2, fun h => ⟨rfl, h⟩⟩
theorem q_addi {i j : Int} : (xAdd (.int i) (.int j) A Q) = (Q (.int (i + j)) A) := rfl
theorem q_adds {x y : Str} : (xAdd (.str x) (.str y) A Q) = (x.length + y.length ≤ sizeLine ∧ Q (.str (x ++ y)) A) := rfl
theorem q_addt {us ws : List U} : (xAdd (.tup us) (.tup ws) A Q) = (us.length + ws.length ≤ sizeLine ∧ Q (.tup (us ++ ws)) A) := rfl
theorem q_addr {p q : Addr} : (xAdd (.ref p) (.ref q) A Q) = (∃ xs ys, A p = some (.lst xs) ∧ A q = some (.lst ys) ∧ xs.length + ys.length ≤ sizeLine ∧ ∀ p, A p = none → Q (.ref p) (updA A p (.lst (xs ++ ys)))) := rfl
theorem q_xi {i j : Int} {f : Int → Int → U} : (xI f (.int i) (.int j) A Q) = (Q (f i j) A) := rfl
theorem q_xi2 {i j : Int} {f : Int → Int → U} {C : Int → Int → Prop} : (xI2 C f (.int i) (.int j) A Q) = (C i j ∧ Q (f i j) A) := rfl
theorem q_mul {i j : Int} : (xMul (.int i) (.int j) A Q) = (IntMulOk i j ∧ Q (.int (i * j)) A) := rfl
theorem q_rep {p : Addr} {m : Int} : (xMul (.ref p) (.int m) A Q) = (∃ xs, A p = some (.lst xs) ∧ -(2 ^ 63) ≤ m ∧ m < 2 ^ 63 ∧ xs.length * m.toNat ≤ sizeLine ∧ ∀ p, A p = none → Q (.ref p) (updA A p (.lst (List.replicate m.toNat xs).flatten))) := rfl
theorem q_lti {i j : Int} : (xLt (.int i) (.int j) A Q) = (Q (.bl (decide (i < j))) A) := rfl
theorem q_lts {x y : Str} : (xLt (.str x) (.str y) A Q) = (Q (.bl (decide (x.cps.toList < y.cps.toList))) A) := rfl
theorem q_eqi {i j : Int} : (xEq (.int i) (.int j) A Q) = (Q (.bl (decide (i = j))) A) := rfl
theorem q_eqs {x y : Str} : (xEq (.str x) (.str y) A Q) = (Q (.bl (decide (x = y))) A) := rfl
theorem q_eqb {k m : Bool} : (xEq (.bl k) (.bl m) A Q) = (Q (.bl (decide (k = m))) A) := rfl
theorem q_eqt {us ws : List U} : (xEq (.tup us) (.tup ws) A Q) = (xDeep false (.tup us) (.tup ws) A Q) := rfl
theorem q_eqr {p q : Addr} : (xEq (.ref p) (.ref q) A Q) = (xDeep false (.ref p) (.ref q) A Q) := rfl
theorem q_eqtn {us : List U} : (xEq (.tup us) .non A Q) = (xDeep false (.tup us) .non A Q) := rfl
theorem q_eqnt {us : List U} : (xEq .non (.tup us) A Q) = (xDeep false .non (.tup us) A Q) := rfl
theorem q_eqnn  : (xEq .non .non A Q) = (Q (.bl true) A) := rfl
theorem q_eqns {x : Str} : (xEq .non (.str x) A Q) = (Q (.bl false) A) := rfl
theorem q_eqsn {x : Str} : (xEq (.str x) .non A Q) = (Q (.bl false) A) := rfl
theorem q_nei {i j : Int} : (xNe (.int i) (.int j) A Q) = (Q (.bl (!decide (i = j))) A) := rfl
theorem q_nes {x y : Str} : (xNe (.str x) (.str y) A Q) = (Q (.bl (!decide (x = y))) A) := rfl
theorem q_neb {k m : Bool} : (xNe (.bl k) (.bl m) A Q) = (Q (.bl (!decide (k = m))) A) := rfl
theorem q_net {us ws : List U} : (xNe (.tup us) (.tup ws) A Q) = (xDeep true (.tup us) (.tup ws) A Q) := rfl
theorem q_ner {p q : Addr} : (xNe (.ref p) (.ref q) A Q) = (xDeep true (.ref p) (.ref q) A Q) := rfl
theorem q_netn {us : List U} : (xNe (.tup us) .non A Q) = (xDeep true (.tup us) .non A Q) := rfl
theorem q_nent {us : List U} : (xNe .non (.tup us) A Q) = (xDeep true .non (.tup us) A Q) := rfl
theorem q_nenn  : (xNe .non .non A Q) = (Q (.bl false) A) := rfl
theorem q_nens {x : Str} : (xNe .non (.str x) A Q) = (Q (.bl true) A) := rfl
theorem q_nesn {x : Str} : (xNe (.str x) .non A Q) = (Q (.bl true) A) := rfl
theorem q_isn  : (xIsN u .non A Q) = (Q (.bl u.isNon) A) := propext ⟨fun h => h.2, fun h => ⟨rfl, h⟩⟩
theorem q_notn  : (xNotN u .non A Q) = (Q (.bl (!u.isNon)) A) := propext ⟨fun h => h.2, fun h => ⟨rfl, h⟩⟩
theorem q_int_ {us : List U} : (xInB false u (.tup us) A Q) = (u.flat = true ∧ us.all U.flat = true ∧ Q (.bl (inU u us)) A) := rfl
theorem q_nint_ {us : List U} : (xInB true u (.tup us) A Q) = (u.flat = true ∧ us.all U.flat = true ∧ Q (.bl (!inU u us)) A) := rfl
theorem q_inr_ {p : Addr} : (xInB false u (.ref p) A Q) = (∃ us, A p = some (.lst us) ∧ u.flat = true ∧ us.all U.flat = true ∧ Q (.bl (inU u us)) A) := rfl
theorem q_ninr_ {p : Addr} : (xInB true u (.ref p) A Q) = (∃ us, A p = some (.lst us) ∧ u.flat = true ∧ us.all U.flat = true ∧ Q (.bl (!inU u us)) A) := rfl
theorem q_ins_ {x y : Str} : (xInB false (.str x) (.str y) A Q) = (Q (.bl (occ y x)) A) := propext ⟨fun ⟨i, e, h⟩ => by cases e; exact h, fun h => ⟨_, rfl, h⟩⟩
theorem q_nins_ {x y : Str} : (xInB true (.str x) (.str y) A Q) = (Q (.bl (!occ y x)) A) := propext ⟨fun ⟨i, e, h⟩ => by cases e; exact h, fun h => ⟨_, rfl, h⟩⟩
theorem q_ixs {z : Str} {i : Int} : (xIx (.str z) (.int i) A Q) = (z.length ≤ sizeLine ∧ ∃ c, atI z.cps.toList i = some c ∧ Q (.str ⟨#[c]⟩) A) := rfl
theorem q_ix0 {us : List U} : (xIx (.tup (u :: us)) (.int 0) A Q) = (Q u A) := propext ⟨fun ⟨x, e, h⟩ => by rw [show atI (u :: us) 0 = some u from atI_nat (j := 0) rfl] at e; cases e; exact h, fun h => ⟨_, atI_nat (j := 0) rfl, h⟩⟩
theorem q_ix1 {w : U} {us : List U} : (xIx (.tup (u :: w :: us)) (.int 1) A Q) = (Q w A) := propext ⟨fun ⟨x, e, h⟩ => by rw [show atI (u :: w :: us) 1 = some w from atI_nat (j := 1) rfl] at e; cases e; exact h, fun h => ⟨_, atI_nat (j := 1) rfl, h⟩⟩
theorem q_ix2 {w x : U} {us : List U} : (xIx (.tup (u :: w :: x :: us)) (.int 2) A Q) = (Q x A) := propext ⟨fun ⟨z, e, h⟩ => by rw [show atI (u :: w :: x :: us) 2 = some x from atI_nat (j := 2) rfl] at e; cases e; exact h, fun h => ⟨_, atI_nat (j := 2) rfl, h⟩⟩
theorem q_ixt {us : List U} {i : Int} : (xIx (.tup us) (.int i) A Q) = (∃ x, atI us i = some x ∧ Q x A) := rfl
theorem q_ixo {us : List U} {i : Int} : (xIx (.rol us) (.int i) A Q) = (∃ x, atI us i = some x ∧ Q x A) := rfl
theorem q_ixr {p : Addr} {i : Int} : (xIx (.ref p) (.int i) A Q) = (∃ us x, A p = some (.lst us) ∧ atI us i = some x ∧ Q x A) := rfl
theorem q_sls {lo hi : Option Int} {z : Str} : (xSl (.str z) lo hi A Q) = (z.length ≤ sizeLine ∧ Q (.str (cutS z lo hi)) A) := rfl
theorem q_slt1 {us : List U} : (xSl (.tup (u :: us)) (some 1) none A Q) = (Q (.tup us) A) := by show Q (.tup (cutU (u :: us) (some 1) none)) A = _; rw [cutU_tail]
theorem q_slt {lo hi : Option Int} {us : List U} : (xSl (.tup us) lo hi A Q) = (Q (.tup (cutU us lo hi)) A) := rfl
theorem q_slo {lo hi : Option Int} {us : List U} : (xSl (.rol us) lo hi A Q) = (∀ p, A p = none → Q (.ref p) (updA A p (.lst (cutU us lo hi)))) := rfl
theorem q_slr {lo hi : Option Int} {p : Addr} : (xSl (.ref p) lo hi A Q) = (∃ us, A p = some (.lst us) ∧ ∀ p, A p = none → Q (.ref p) (updA A p (.lst (cutU us lo hi)))) := rfl
theorem q_lens {z : Str} : (xLen [.str z] A Q) = (z.length ≤ sizeLine ∧ Q (.int z.length) A) := rfl
theorem q_lent {us : List U} : (xLen [.tup us] A Q) = (Q (.int us.length) A) := rfl
theorem q_leno {us : List U} : (xLen [.rol us] A Q) = (Q (.int us.length) A) := rfl
theorem q_lenr {p : Addr} : (xLen [.ref p] A Q) = (∃ us, A p = some (.lst us) ∧ Q (.int us.length) A) := rfl
theorem q_min2 {i j : Int} : (xMin [.int i, .int j] A Q) = (Q (.int (min i j)) A) := rfl
theorem q_max2 {i j : Int} : (xMax [.int i, .int j] A Q) = (Q (.int (max i j)) A) := rfl
theorem q_minl {p : Addr} : (xMin [.ref p] A Q) = (∃ ns : List Int, A p = some (.lst (ns.map U.int)) ∧ 1 ≤ ns.length ∧ ∀ m, m ∈ ns → (∀ x ∈ ns, m ≤ x) → Q (.int m) A) := rfl
theorem q_maxl {p : Addr} : (xMax [.ref p] A Q) = (∃ ns : List Int, A p = some (.lst (ns.map U.int)) ∧ 1 ≤ ns.length ∧ ∀ m, m ∈ ns → (∀ x ∈ ns, x ≤ m) → Q (.int m) A) := rfl
theorem q_sum {p : Addr} : (xSum [.ref p] A Q) = (∃ ns : List Int, A p = some (.lst (ns.map U.int)) ∧ Q (.int ns.sum) A) := rfl
theorem q_all {p : Addr} : (xAll [.ref p] A Q) = (∃ bs : List Bool, A p = some (.lst (bs.map U.bl)) ∧ Q (.bl (bs.all id)) A) := rfl
theorem q_lot {us : List U} : (xListOf [.tup us] A Q) = (∀ p, A p = none → Q (.ref p) (updA A p (.lst us))) := rfl
theorem q_loo {us : List U} : (xListOf [.rol us] A Q) = (∀ p, A p = none → Q (.ref p) (updA A p (.lst us))) := rfl
theorem q_lor {p : Addr} : (xListOf [.ref p] A Q) = (∃ us, A p = some (.lst us) ∧ ∀ p, A p = none → Q (.ref p) (updA A p (.lst us))) := rfl
theorem q_tot {us : List U} : (xTupOf [.tup us] A Q) = (Q (.tup us) A) := rfl
theorem q_tor {p : Addr} : (xTupOf [.ref p] A Q) = (∃ us, A p = some (.lst us) ∧ Q (.tup us) A) := rfl
theorem q_xint {i : Int} : (xInt [.int i] A Q) = (Q (.int i) A) := rfl
theorem q_isl {p : Addr} : (isLst (.ref p) A) = (∃ us, A p = some (.lst us)) := rfl
theorem q_ist {us : List U} : (isTupU (.tup us) A) = (True) := rfl
theorem q_app {p : Addr} : (mApp (.ref p) [u] A Q) = (∃ xs, A p = some (.lst xs) ∧ xs.length < sizeLine ∧ Q .non (updA A p (.lst (xs ++ [u])))) := rfl
theorem q_pop {p : Addr} : (mPop (.ref p) [] A Q) = (∃ xs y, A p = some (.lst (xs ++ [y])) ∧ Q y (updA A p (.lst xs))) := rfl
theorem q_extT {p : Addr} {us : List U} : (mExtT (.ref p) [.tup us] A Q) = (∃ xs, A p = some (.lst xs) ∧ xs.length + us.length ≤ sizeLine ∧ Q .non (updA A p (.lst (xs ++ us)))) := rfl
theorem q_ext {p q : Addr} : (mExt (.ref p) [.ref q] A Q) = (∃ xs ws, A p = some (.lst xs) ∧ A q = some (.lst ws) ∧ xs.length + ws.length ≤ sizeLine ∧ Q .non (updA A p (.lst (xs ++ ws)))) := rfl
theorem q_setl {N : ASt → AHp → Prop} {o i : AE} : (bSetL o i u ρ A N) = (o ρ A fun x A1 => i ρ A1 fun y A2 => ∃ a us m j, x = .ref a ∧ y = .int m ∧ A2 a = some (.lst us) ∧ ixN us.length m = some j ∧ N ρ (updA A2 a (.lst (us.set j u)))) := rfl
theorem q_tail {N : ASt → AHp → Prop} {o : AE} {lo : AP1} : (bTail o lo u ρ A N) = (o ρ A fun x A1 => lo ρ A1 fun y A2 => ∃ a b us ws i, x = .ref a ∧ u = .ref b ∧ y = some i ∧ A2 a = some (.lst us) ∧ A2 b = some (.lst ws) ∧ a ≠ b ∧ 0 ≤ i ∧ i ≤ us.length ∧ us.length + ws.length ≤ sizeLine ∧ N ρ (updA A2 a (.lst (us.take i.toNat ++ ws)))) := rfl
theorem q_tuprev  : (aTupRev a ρ A Q) = (a ρ A fun x A1 => ∃ p us, x = .ref p ∧ A1 p = some (.lst us) ∧ Q (.tup us.reverse) A1) := rfl
theorem q_neg {i : Int} : ((fun (u : U) (A : AHp) (Q : AVK) => ∃ i, u = .int i ∧ Q (.int (-i)) A) (.int i) A Q) = (Q (.int (-i)) A) := by simp
end
end L2

set_option Elab.async false
set_option linter.all false
set_option maxRecDepth 100000
set_option maxHeartbeats 4000000
/-! readings over values: a def, loops by their words, comprehensions, isinstance, index -/
namespace L2
open PySem PySem.Spec PyProof.Rows
def Ext (A A' : AHp) : Prop := ∀ a o, A a = some o → A' a = some o
theorem Ext.refl (A : AHp) : Ext A A := fun _ _ h => h
theorem Ext.trans {A B C : AHp} (h : Ext A B) (k : Ext B C) : Ext A C := fun a o e => k a o (h a o e)
theorem Ext.new {A : AHp} {l : Addr} {o : AO} (h : A l = none) : Ext A (updA A l o) := fun b u e => by
  rw [updA_ne (fun z => by rw [z, h] at e; cases e)]; exact e
theorem HR.ext {K : PySem.W.Frag} {H : Hp} {A A' : AHp} (e : Ext A A') (h : HR K H A') : HR K H A := fun a o q => h a o (e a o q)
/-- behind a def: what is not asked for is forgotten -/
def Fg (Q : AVK) : AVK := fun u A => ∃ A', Ext A' A ∧ Q u A'
def aStart (N : List Str) (us : List U) : ASt := us.map some ++ List.replicate (N.length - us.length) none
section
variable {P : Program} {w : World} {K : PySem.W.Frag} {mg : Str → Option Value} {base : Heap}
theorem RSt.nones {H : Hp} : ∀ n, RSt K H (List.replicate n none) (List.replicate n none)
  | 0 => .nil
  | n + 1 => .skip (RSt.nones n)
theorem RSt.start {H : Hp} (N : List Str) {us : List U} {vs : List V} (r : RUs K H us vs) : RSt K H (aStart N us) (L2.start N vs) := by
  unfold aStart L2.start
  rw [r.length]
  generalize N.length - vs.length = n
  induction us generalizing vs with
  | nil => cases r; exact RSt.nones n
  | cons u us ih =>
    cases r with
    | cons h r => exact .cons h (ih r)
/-- the rule for a def, over values -/
theorem Fun.okA {x qual : Str} {st : Stmt} {f : Addr} {fd : FuncData} {N ps : List Str} {k : Nat} {asp : ASp} {sc : Scope} {body : List Stmt} {as : AS} (F : Fun K x qual st f fd) (hs : defScope st = sc) (hb : defBody st = body) (S : FnScope N ps (defScope st))
    (hbody : FnScope N ps sc → ∀ (cdv : Value) (A : Around) (outer : List Env) (s : Shared) (H : Hp) (E : XK), Room k (A.deeper (envOfC qual sc s.heap.objs.size f cdv)) →
      ∃ t, PSs (cxOf CX0 P w K mg base N qual sc f cdv A outer s H E).nox body t ∧ AbS K t as)
    (hsp : ∀ us A Q, asp us A Q → us.length = ps.length ∧ as { nx := fun _ A' => Fg Q .non A', rt := Fg Q } (aStart N us) A) : FnOk P w K mg base CX0 (k + 1) f fd ps (spOf K asp) := by
  refine F.ok2 hs hb S (fun vs H Q E ⟨us, A, Q', r, g, h, _⟩ => ?_) fun S cdv A outer s H vs Q E hr ⟨us, A', Q', r, g, h, k⟩ => ?_
  · rw [← r.length]; exact (hsp us A Q' h).1
  · obtain ⟨t, ht, ha⟩ := hbody S cdv A outer s H E hr
    exact ⟨t, ht, ha _ _ _ _ _ _ (RSt.start N r) g (hsp us A' Q' h).2 ⟨fun ρ A σ H' k' g' s' ⟨A3, e, q'⟩ => k _ _ _ _ k' (g'.ext e) .non q', fun u A v H' k' g' r' ⟨A3, e, q'⟩ => k _ _ _ _ k' (g'.ext e) r' q', fun _ _ _ _ _ _ _ q => q.elim, fun _ _ _ _ _ _ _ q => q.elim⟩⟩
/-- the law's own promise -/
def aspLaw : ASp := fun us A Q => ∃ ns : List Int, us = [.rol (ns.map U.int)] ∧ ns.length ≤ 63 ∧ ∀ A', Q (.bl true) A'
theorem law_in {H : Hp} {a : Addr} {ns : List Int} {E : XK} (hl : ns.length ≤ 63) (hO : Only H) (hS : SqL K H a (ns.map V.int)) : spOf K aspLaw [.ref a] H (fun v _ => v = .bl true) E := by
  have hR : SqR K H a (ns.map V.int) := by
    rcases hS with (h | h) | h
    · rcases hO a with e | ⟨o, xs, e⟩ <;> rw [e] at h <;> cases h
    · exact .inl h
    · exact .inr h
  exact ⟨[.rol (ns.map U.int)], fun _ => none, fun u _ => u = .bl true, .one (.rol hR RUs.of_ints), (fun a o e => by cases e), ⟨ns, rfl, hl, fun _ => rfl⟩, fun u A v H' _ _ r e => by subst e; cases r; rfl⟩
end
/-! truth -/
def truU : U → AHp → (Bool → AHp → Prop) → Prop := fun x A1 Q => match x with
  | .ref p => ∃ us, A1 p = some (.lst us) ∧ Q (!us.isEmpty) A1
  | .tup us => Q (!us.isEmpty) A1
  | .bl b => Q b A1
  | .int i => Q (i != 0) A1
  | .non => Q false A1
  | _ => False
def aTru (a : AE) : AT := fun ρ A Q => a ρ A fun x A1 => truU x A1 Q
theorem RUs.empty {K : PySem.W.Frag} {H : Hp} {us : List U} {vs : List V} (r : RUs K H us vs) : vs.isEmpty = us.isEmpty := by cases r <;> rfl
theorem ab_tru {K : PySem.W.Frag} {t : TE} {a : AE} (ha : AbE K t a) : AbT K (fun σ H Q => t σ H fun x H' => ∃ k, TruV K x H' k ∧ Q k H') (aTru a) := fun ρ A σ H Q' Q hs g w k =>
  ha ρ A σ H _ _ hs g w fun x A1 v H1 k1 g1 r1 q1 => by
    cases r1 with
    | ref p =>
      obtain ⟨us, e, q1⟩ := q1
      obtain ⟨vs, h1, r1⟩ := g1.list e
      exact ⟨_, .inl ⟨vs, SqL.of h1, rfl⟩, k _ _ _ k1 g1 (by rw [r1.empty]; exact q1)⟩
    | tup h r => exact ⟨_, .inr (.inl ⟨_, h, rfl⟩), k _ _ _ k1 g1 (by rw [r.empty]; exact q1)⟩
    | bl b => exact ⟨b, rfl, k _ _ _ k1 g1 q1⟩
    | int i => exact ⟨_, rfl, k _ _ _ k1 g1 q1⟩
    | non => exact ⟨_, rfl, k _ _ _ k1 g1 q1⟩
    | _ => exact q1.elim
theorem q_tru {a : AE} {ρ : ASt} {A : AHp} {B : Bool → AHp → Prop} : (aTru a ρ A B) = (a ρ A fun x A1 => truU x A1 B) := rfl
theorem q_trul {A : AHp} {B : Bool → AHp → Prop} {p : Addr} : (truU (.ref p) A B) = (∃ us, A p = some (.lst us) ∧ B (!us.isEmpty) A) := rfl
theorem q_trut {A : AHp} {B : Bool → AHp → Prop} {us : List U} : (truU (.tup us) A B) = (B (!us.isEmpty) A) := rfl
theorem q_trub {A : AHp} {B : Bool → AHp → Prop} {k : Bool} : (truU (.bl k) A B) = (B k A) := rfl
/-! loops -/
section
variable {J : AIt} {g : AG} {b : AS} {D : AEnds} {ρ : ASt} {A : AHp}
theorem for_J (items : List U) (Pv : Nat → ASt → AHp → Prop) (h0 : Pv 0 ρ A) (hJ : ∀ k ρ A, k ≤ items.length → Pv k ρ A → J k A items[k]?)
    (hs : ∀ k u ρ A, items[k]? = some u → Pv k ρ A → g u ρ A fun ρ2 A2 => b { D with nx := Pv (k + 1), ct := Pv (k + 1), bk := D.nx } ρ2 A2) (hd : ∀ ρ A, Pv items.length ρ A → D.nx ρ A) : aLoop J g b D ρ A := by
  refine ⟨fun k m ρ A => m = items.length - k ∧ k ≤ items.length ∧ Pv k ρ A, ⟨_, rfl, Nat.zero_le _, h0⟩, ?_⟩
  rintro k m ρ A ⟨rfl, hk, p⟩
  have j := hJ k ρ A hk p
  by_cases hlt : k < items.length
  · rw [List.getElem?_eq_getElem hlt] at j
    exact .inr ⟨_, j, Pv (k + 1), fun ρ' A' p' => ⟨items.length - (k + 1), by omega, rfl, hlt, p'⟩, hs k _ ρ A (List.getElem?_eq_getElem hlt) p⟩
  · have e : k = items.length := by omega
    subst e
    rw [List.getElem?_eq_none (Nat.le_refl _)] at j
    exact .inl ⟨j, hd ρ A p⟩
theorem for_lst {a : Addr} (us : List U) (Pv : Nat → ASt → AHp → Prop) (h0 : Pv 0 ρ A) (hl : ∀ k ρ A, k ≤ us.length → Pv k ρ A → A a = some (.lst us))
    (hs : ∀ k u ρ A, us[k]? = some u → Pv k ρ A → g u ρ A fun ρ2 A2 => b { D with nx := Pv (k + 1), ct := Pv (k + 1), bk := D.nx } ρ2 A2) (hd : ∀ ρ A, Pv us.length ρ A → D.nx ρ A) : aLoop (jLst a) g b D ρ A :=
  for_J us Pv h0 (fun k ρ A hk p => ⟨us, hl k ρ A hk p, rfl⟩) hs hd
theorem for_enumA {a : Addr} (us : List U) (Pv : Nat → ASt → AHp → Prop) (h0 : Pv 0 ρ A) (hl : ∀ k ρ A, k ≤ us.length → Pv k ρ A → A a = some (.lst us))
    (hs : ∀ (k : Nat) u ρ A, us[k]? = some u → Pv k ρ A → g (.tup [.int k, u]) ρ A fun ρ2 A2 => b { D with nx := Pv (k + 1), ct := Pv (k + 1), bk := D.nx } ρ2 A2) (hd : ∀ ρ A, Pv us.length ρ A → D.nx ρ A) : aLoop (jEnum a) g b D ρ A :=
  for_J (enU us) Pv h0 (fun k ρ A hk p => ⟨us, hl k ρ A (by rw [enU_len] at hk; exact hk) p, rfl⟩) (fun k u ρ A hu p => by
    rw [enU_get] at hu
    obtain ⟨x, hx, rfl⟩ := Option.map_eq_some_iff.mp hu
    exact hs k x ρ A hx p) (by rw [enU_len]; exact hd)
theorem for_enumF {us : List U} (Pv : Nat → ASt → AHp → Prop) (h0 : Pv 0 ρ A)
    (hs : ∀ (k : Nat) u ρ A, us[k]? = some u → Pv k ρ A → g (.tup [.int k, u]) ρ A fun ρ2 A2 => b { D with nx := Pv (k + 1), ct := Pv (k + 1), bk := D.nx } ρ2 A2) (hd : ∀ ρ A, Pv us.length ρ A → D.nx ρ A) : aLoop (jFix (enU us)) g b D ρ A :=
  for_J (enU us) Pv h0 (fun k ρ A hk p => rfl) (fun k u ρ A hu p => by
    rw [enU_get] at hu
    obtain ⟨x, hx, rfl⟩ := Option.map_eq_some_iff.mp hu
    exact hs k x ρ A hx p) (by rw [enU_len]; exact hd)
theorem for_revA {a : Addr} (us : List U) (Pv : Nat → ASt → AHp → Prop) (h0 : Pv 0 ρ A) (hl : ∀ k ρ A, k ≤ us.length → Pv k ρ A → A a = some (.lst us))
    (hs : ∀ k u ρ A, us.reverse[k]? = some u → Pv k ρ A → g u ρ A fun ρ2 A2 => b { D with nx := Pv (k + 1), ct := Pv (k + 1), bk := D.nx } ρ2 A2) (hd : ∀ ρ A, Pv us.length ρ A → D.nx ρ A) : aLoop (jRevA a us.length) g b D ρ A :=
  for_J us.reverse Pv h0 (fun k ρ A hk p => by
    rw [List.length_reverse] at hk
    by_cases h : k < us.length
    · rw [List.getElem?_reverse h]
      exact .inr ⟨h, us, us[us.length - 1 - k]'(by omega), hl k ρ A hk p, List.getElem?_eq_getElem (by omega), List.getElem?_eq_getElem (by omega)⟩
    · have e : k = us.length := by omega
      subst e
      exact .inl ⟨rfl, List.getElem?_eq_none (by simp)⟩) hs (by rw [List.length_reverse]; exact hd)
/-- while, by a word and a measure -/
def whA (Pv : ASt → AHp → Prop) (μ : ASt → AHp → Nat) (b : AS) (D : AEnds) (k : Nat) (ρ : ASt) (A1 : AHp) : Prop := ∃ N : ASt → AHp → Prop, (∀ ρ' A', N ρ' A' → ∃ m', m' < k ∧ (m' = μ ρ' A' ∧ Pv ρ' A')) ∧ b { D with nx := N, ct := N, bk := D.nx } ρ A1
theorem wh_goA {Pv : ASt → AHp → Prop} {μ : ASt → AHp → Nat} {k : Nat} (h : b { D with nx := fun ρ' A' => Pv ρ' A' ∧ μ ρ' A' < k, ct := fun ρ' A' => Pv ρ' A' ∧ μ ρ' A' < k, bk := D.nx } ρ A) : whA Pv μ b D k ρ A :=
  ⟨_, fun ρ' A' ⟨p, l⟩ => ⟨_, l, rfl, p⟩, h⟩
theorem while_A {c : AT} (Pv : ASt → AHp → Prop) (μ : ASt → AHp → Nat) (h0 : Pv ρ A)
    (hs : ∀ ρ A, Pv ρ A → c ρ A fun k A1 => if k = true then whA Pv μ b D (μ ρ A) ρ A1 else D.nx ρ A1) : aWhile c b D ρ A := by
  refine ⟨fun m ρ A => m = μ ρ A ∧ Pv ρ A, ⟨_, rfl, h0⟩, ?_⟩
  rintro m ρ A ⟨rfl, p⟩
  exact hs ρ A p
end
/-! comprehensions -/
theorem neA {A : AHp} {a b : Addr} {o : AO} (h : A a = some o) (h' : A b = none) : a ≠ b := fun e => by rw [e, h'] at h; cases h
section
variable {J : AIt} {g : AG} {tt : AT} {te : AE} {l : Addr} {Q : AVK} {τ : ASt} {A : AHp}
/-- a filter and a map, by places; T: the frame between turns -/
theorem cl_gen (items : List U) (p : Nat → Bool) (f : Nat → U) (T : ASt → Prop) (h0 : T τ) (hl : A l = none) (hn : items.length ≤ 100000) (hJ : ∀ k A2, k ≤ items.length → Ext A A2 → J k A2 items[k]?)
    (hs : ∀ k u τ A2, items[k]? = some u → T τ → Ext A A2 → ∀ (Cy : ASt → U → AHp → Prop) (Cn : ASt → AHp → Prop), (p k = true → ∀ τ2, T τ2 → Cy τ2 (f k) A2) → (p k = false → ∀ τ2, T τ2 → Cn τ2 A2) →
      g u τ A2 fun τ2 A3 => tt τ2 A3 fun ok A4 => if ok = true then te τ2 A4 (Cy τ2) else Cn τ2 A4)
    (hd : Q (.ref l) (updA A l (.lst (((List.range items.length).filter p).map f)))) : aCL J g tt te l Q τ (updA A l (.lst [])) := by
  refine ⟨fun i m τ A2 => m = items.length - i ∧ i ≤ items.length ∧ T τ ∧ A2 = updA A l (.lst (((List.range i).filter p).map f)), ⟨_, rfl, Nat.zero_le _, h0, rfl⟩, ?_⟩
  rintro i m τ A2 ⟨rfl, hi, ht, rfl⟩
  have j := hJ i _ hi (Ext.new (o := .lst (((List.range i).filter p).map f)) hl)
  by_cases hlt : i < items.length
  · have hu : items[i]? = some items[i] := List.getElem?_eq_getElem hlt
    rw [hu] at j
    refine .inr ⟨_, j, hs i _ τ _ hu ht (Ext.new hl) _ _ (fun hp τ2 ht2 => ⟨_, updA_same, ?_, _, ?_, rfl, hlt, ht2, ?_⟩) (fun hp τ2 ht2 => ⟨_, ?_, rfl, hlt, ht2, ?_⟩)⟩
    · have : (((List.range i).filter p).map f).length ≤ i := by rw [List.length_map]; exact Nat.le_trans (List.length_filter_le ..) (by simp)
      have : (100000 : Nat) < sizeLine := by decide
      omega
    · omega
    · rw [updA_updA, List.range_succ, List.filter_append, List.map_append]; simp [hp]
    · omega
    · rw [List.range_succ, List.filter_append, List.map_append]; simp [hp]
  · have e : i = items.length := by omega
    subst e
    rw [List.getElem?_eq_none (Nat.le_refl _)] at j
    exact .inl ⟨j, hd⟩
/-- one name, no test: the list ys -/
theorem cl_map {x0 : Option U} {fr : ASt} (items ys : List U) (hlen : ys.length = items.length) (hl : A l = none) (hn : items.length ≤ 100000) (hJ : ∀ k A2, k ≤ items.length → Ext A A2 → J k A2 items[k]?)
    (hs : ∀ (k : Nat) u y A2, items[k]? = some u → ys[k]? = some y → Ext A A2 → ∀ Cy : U → AHp → Prop, Cy y A2 → te (some u :: fr) A2 Cy)
    (hd : Q (.ref l) (updA A l (.lst ys))) : aCL J (bName 0) aTrue te l Q (x0 :: fr) (updA A l (.lst [])) := by
  refine cl_gen items (fun _ => true) (fun k => (ys[k]?).getD .non) (fun τ => ∃ x, τ = x :: fr) ⟨_, rfl⟩ hl hn hJ ?_ ?_
  · rintro k u τ A2 hu ⟨x, rfl⟩ he Cy Cn hy hno
    show if true = true then te (some u :: fr) A2 (Cy (some u :: fr)) else Cn (some u :: fr) A2
    rw [if_pos rfl]
    have hk : k < ys.length := by rw [hlen]; exact (List.getElem?_eq_some_iff.mp hu).1
    have hyk : ys[k]? = some ys[k] := List.getElem?_eq_getElem hk
    refine hs k u _ A2 hu hyk he _ ?_
    have := hy rfl (some u :: fr) ⟨_, rfl⟩
    rw [hyk] at this
    exact this
  · have e : ((List.range items.length).filter fun _ => true).map (fun k => (ys[k]?).getD .non) = ys := by
      rw [List.filter_eq_self.mpr (fun _ _ => rfl), ← hlen]
      apply List.ext_getElem
      · simp
      · intro i h1 h2; simp [List.getElem?_eq_getElem h2]
    rw [e]; exact hd
/-- two names, no test -/
theorem cl_map2 {x0 x1 : Option U} {fr : ASt} (items ys : List U) (hlen : ys.length = items.length) (hl : A l = none) (hn : items.length ≤ 100000) (hJ : ∀ k A2, k ≤ items.length → Ext A A2 → J k A2 items[k]?)
    (hs : ∀ (k : Nat) u y A2, items[k]? = some u → ys[k]? = some y → Ext A A2 → ∃ v w, u = .tup [v, w] ∧ ∀ Cy : U → AHp → Prop, Cy y A2 → te (some v :: some w :: fr) A2 Cy)
    (hd : Q (.ref l) (updA A l (.lst ys))) : aCL J (bTup 2 (bCons (bName 0) (bCons (bName 1) bNil))) aTrue te l Q (x0 :: x1 :: fr) (updA A l (.lst [])) := by
  refine cl_gen items (fun _ => true) (fun k => (ys[k]?).getD .non) (fun τ => ∃ x y, τ = x :: y :: fr) ⟨_, _, rfl⟩ hl hn hJ ?_ ?_
  · rintro k u τ A2 hu ⟨x, y, rfl⟩ he Cy Cn hy hno
    have hk : k < ys.length := by rw [hlen]; exact (List.getElem?_eq_some_iff.mp hu).1
    have hyk : ys[k]? = some ys[k] := List.getElem?_eq_getElem hk
    obtain ⟨v, w, rfl, h⟩ := hs k u _ A2 hu hyk he
    refine ⟨[v, w], rfl, rfl, v, [w], rfl, w, [], rfl, rfl, ?_⟩
    show if true = true then te (some v :: some w :: fr) A2 (Cy (some v :: some w :: fr)) else Cn (some v :: some w :: fr) A2
    rw [if_pos rfl]
    refine h _ ?_
    have := hy rfl (some v :: some w :: fr) ⟨_, _, rfl⟩
    rw [hyk] at this
    exact this
  · have e : ((List.range items.length).filter fun _ => true).map (fun k => (ys[k]?).getD .non) = ys := by
      rw [List.filter_eq_self.mpr (fun _ _ => rfl), ← hlen]
      apply List.ext_getElem
      · simp
      · intro i h1 h2; simp [List.getElem?_eq_getElem h2]
    rw [e]; exact hd
end
/-! isinstance -/
section
variable {X : Cx}
/-- the kind of a value that is no address -/
def U.tyName : U → Option String
  | .non => some "NoneType"
  | .bl _ => some "bool"
  | .int _ => some "int"
  | .str _ => some "str"
  | .tup _ => some "tuple"
  | _ => none
inductive TyW (K : PySem.W.Frag) (H : Hp) : V → Value → Prop
  | of {x : V} {t : Value} : TyOf K H x t → TyW K H x t
  | tup {a : Addr} {xs : List V} : SqT K H a xs → TyW K H (.ref a) (.type "tuple")
def uIsW (K : PySem.W.Frag) : List V → Hp → VK → Prop := fun xs H Q => match xs with
  | [x, .ty n] => ∃ t b, TyW K H x t ∧ PySem.W.kitOne K t (.type n) = some b ∧ Q (.bl b) H
  | [x, .ref c] => ∃ t b, TyW K H x t ∧ PySem.W.kitOne K t (.ref c) = some b ∧ Q (.bl b) H
  | _ => False
theorem c_isW : CallR X (.builtin "isinstance") (uIsW X.K) := by
  intro pins s σ H xs us Q I r h
  have go : ∀ (x : V) (u t : Value) (c : Value) (b : Bool), RelV x u → TyW X.K H x t → PySem.W.kitOne X.K t c = some b → Q (.bl b) H → wpAny (model X.prog X.w) X.A (call (.builtin "isinstance") [u, c]) (EP X pins σ Q) X.xe s := by
    intro x u t c b rx ty e q
    cases ty with
    | of ty => exact isinst_ok I rx ty e fun tk => ⟨.bl b, H, I.tok _, rfl, q⟩
    | tup hq =>
      cases rx
      obtain ⟨its, rv, ⟨o, h1, h2, h3⟩, hz⟩ := I.tuple hq
      exact PySem.W.kia_one PySem.W.kitx_tuple I.kIn ⟨o, h1, h2⟩ e (fun z => nomatch z) fun tk => ⟨.bl b, H, I.tok _, rfl, q⟩
  unfold uIsW at h
  split at h
  · obtain ⟨t, b, ty, e, q⟩ := h
    cases r with
    | cons r1 r2 =>
      cases r2 with
      | cons r2 r3 =>
        cases r3; cases r2
        exact go _ _ _ _ _ r1 ty e q
  · obtain ⟨t, b, ty, e, q⟩ := h
    cases r with
    | cons r1 r2 =>
      cases r2 with
      | cons r2 r3 =>
        cases r3; cases r2
        exact go _ _ _ _ _ r1 ty e q
  · exact h.elim
end
section
variable {K : PySem.W.Frag}
/-- isinstance of data, one of the built-in classes -/
def isTy (u : U) (n : String) : Bool := match u with
  | .non => n == "NoneType"
  | .bl _ => n == "bool" || n == "int"
  | .int _ => n == "int"
  | .str _ => n == "str"
  | .tup _ => n == "tuple"
  | _ => false
def xIsi : List U → AHp → AVK → Prop := fun us A Q => match us with
  | [u, .ty n] => (n = "int" ∨ n = "bool" ∨ n = "str" ∨ n = "tuple") ∧ (match u with | .rol _ => False | .ref _ => False | .ty _ => False | _ => True) ∧ Q (.bl (isTy u n)) A
  | _ => False
theorem ab_isi : AbL K (uIsW K) xIsi := fun xs us A H Q' Q r g h k => by
  unfold xIsi at h
  split at h
  · rename_i u n
    obtain ⟨hn, hu, h⟩ := h
    obtain ⟨v, x, rfl, r1, r2⟩ := r.inv2
    cases r2
    cases r1 with
    | non => rcases hn with rfl | rfl | rfl | rfl <;> exact ⟨_, _, .of .non, rfl, k _ _ _ _ (.refl H) g (.bl _) h⟩
    | bl b => rcases hn with rfl | rfl | rfl | rfl <;> exact ⟨_, _, .of (.bl b), rfl, k _ _ _ _ (.refl H) g (.bl _) h⟩
    | int b => rcases hn with rfl | rfl | rfl | rfl <;> exact ⟨_, _, .of (.int b), rfl, k _ _ _ _ (.refl H) g (.bl _) h⟩
    | str b => rcases hn with rfl | rfl | rfl | rfl <;> exact ⟨_, _, .of (.str b), rfl, k _ _ _ _ (.refl H) g (.bl _) h⟩
    | tup h1 r1 => rcases hn with rfl | rfl | rfl | rfl <;> exact ⟨_, _, .tup h1, rfl, k _ _ _ _ (.refl H) g (.bl _) h⟩
    | ty _ => exact hu.elim
    | ref _ => exact hu.elim
    | rol _ _ => exact hu.elim
  · exact h.elim
theorem q_isi {A : AHp} {Q : AVK} {u : U} {n : String} : (xIsi [u, .ty n] A Q) = ((n = "int" ∨ n = "bool" ∨ n = "str" ∨ n = "tuple") ∧ (match u with | .rol _ => False | .ref _ => False | .ty _ => False | _ => True) ∧ Q (.bl (isTy u n)) A) := rfl
/-! index -/
def mIdx : U → List U → AHp → AVK → Prop := fun u us A Q => match us with
  | [.str z] => ∃ (ss : List Str) (j : Nat), (u = .tup (ss.map U.str) ∨ ∃ a, u = .ref a ∧ A a = some (.lst (ss.map U.str))) ∧ ss[j]? = some z ∧ (∀ m, m < j → ss[m]? ≠ some z) ∧ Q (.int j) A
  | _ => False
theorem ab_idxL : AbMt K (rIdxS fun x ss H => ∃ a, x = .ref a ∧ H a = some (.lst (ss.map V.str))) (fun u us A Q => (∃ a, u = .ref a) ∧ mIdx u us A Q) := fun x u xs us A H Q' Q r rs g ⟨⟨a, ea⟩, h⟩ k => by
  unfold mIdx at h
  split at h
  · obtain ⟨ss, j, hu, e1, e2, h⟩ := h
    obtain ⟨v, rfl, rv⟩ := rs.inv1
    cases rv
    rcases hu with rfl | ⟨b, rfl, hb⟩
    · cases ea
    · cases r
      obtain ⟨vs, h1, r1⟩ := g.list hb
      exact ⟨ss, _, j, ⟨b, rfl, by rw [h1, r1.strs]⟩, rfl, e1, e2, k _ _ _ _ (.refl H) g (.int _) h⟩
  · exact h.elim
end
end L2

set_option Elab.async false
set_option linter.all false
set_option maxRecDepth 100000
set_option maxHeartbeats 4000000
/-! writings as values -/
namespace L2
open PySem PySem.Spec PyProof.Rows
mutual
def Wr.toU : Wr → U
  | .nothing => .tup [.str "nothing"]
  | .bead c => .tup [.str "bead", .str c]
  | .side b f => .tup [.str (sname b), f.toU]
  | .pair f g => .tup [.str "pair", f.toU, g.toU]
  | .many k ps => .tup [.str (mname k), .tup (toUL ps)]
def toUL : List Wr → List U
  | [] => []
  | w :: ws => w.toU :: toUL ws
end
theorem toUL_map : ∀ ws : List Wr, toUL ws = ws.map Wr.toU
  | [] => rfl
  | w :: ws => by rw [toUL, List.map_cons, toUL_map ws]
theorem Wr.toU_many (k : Nat) (ps : List Wr) : (Wr.many k ps).toU = .tup [.str (mname k), .tup (ps.map Wr.toU)] := by rw [Wr.toU, toUL_map]
/-- neither a bead nor of many parts -/
def Wr.few (w : Wr) : Prop := (∀ c, w ≠ .bead c) ∧ ∀ k ps, w ≠ .many k ps
theorem Wr.toU_few {w : Wr} (h : w.few) : w.toU = .tup (.str w.name :: w.parts.map Wr.toU) := by
  cases w with
  | nothing => rfl
  | bead c => exact absurd rfl (h.1 c)
  | side b f => rfl
  | pair f g => rfl
  | many k ps => exact absurd rfl (h.2 k ps)
theorem Wr.kinds (w : Wr) : (∃ c, w = .bead c) ∨ (∃ k ps, w = .many k ps) ∨ w.few := by
  cases w with
  | bead c => exact .inl ⟨c, rfl⟩
  | many k ps => exact .inr (.inl ⟨k, ps, rfl⟩)
  | _ => exact .inr (.inr ⟨fun c => by simp, fun k ps => by simp⟩)
def manyU : List U := [.str "row", .str "bag", .str "choice", .str "ring"]
theorem in_manyU (k : Nat) : inU (.str (mname k)) [.str "row", .str "bag", .str "choice", .str "ring"] = true := in_many (.many k [])
theorem nin_manyU {w : Wr} (h : ∀ k ps, w ≠ .many k ps) : inU (.str w.name) [.str "row", .str "bag", .str "choice", .str "ring"] = false := by
  have := in_many w
  cases w with
  | many k ps => exact absurd rfl (h k ps)
  | _ => exact this
theorem nb_name {w : Wr} (h : ∀ c, w ≠ .bead c) : decide (w.name = Str.ofString "bead") = false := by
  have := w.nb h
  simpa using this
theorem nbm (k : Nat) : decide (mname k = Str.ofString "bead") = false := by
  have := nb_many k
  simpa using this
theorem tup1 {x : U} : [x].length ≤ sizeLine := by show 1 ≤ sizeLine; decide
theorem tup2 {x y : U} : [x, y].length ≤ sizeLine := by show 2 ≤ sizeLine; decide
theorem tup3 {x y z : U} : [x, y, z].length ≤ sizeLine := by show 3 ≤ sizeLine; decide
theorem line1000 {n : Nat} (h : n ≤ 100000) : n ≤ sizeLine := Nat.le_trans h (by decide)
theorem line1000' {n : Nat} (h : n ≤ 100000) : n < sizeLine := Nat.lt_of_le_of_lt h (by decide)
theorem fg {Q : AVK} {u : U} {A : AHp} (h : Q u A) : Fg Q u A := ⟨A, Ext.refl A, h⟩
theorem fgx {Q : AVK} {u : U} {A A' : AHp} (e : Ext A A') (h : Q u A) : Fg Q u A' := ⟨A, e, h⟩
theorem iteB {b : Bool} {X Y : Prop} (h1 : b = true → X) (h2 : b = false → Y) : if b = true then X else Y := by
  cases b
  · exact iteN (by decide) (h2 rfl)
  · exact iteP rfl (h1 rfl)
theorem iteTt {X Y : Prop} {b : Bool} (hb : b = true) (h : X) : if b = true then X else Y := iteP hb h
theorem iteFf {X Y : Prop} {b : Bool} (hb : b = false) (h : Y) : if b = true then X else Y := iteN (by rw [hb]; decide) h
theorem cutU_from {us ws : List U} : cutU (us ++ ws) (some (us.length : Int)) none = ws := by
  unfold cutU
  rw [HT.sIx_nat, HT.sIx_none, List.length_append, Nat.min_eq_left (by omega), List.drop_left, Nat.add_sub_cancel_left, List.take_length]
/-- KINDS.index(..) of a tuple of texts of the module -/
def aIdxC (ss : List Str) (l : AA) : AE := fun ρ A Q => l ρ A fun us A1 => ∃ (z : Str) (j : Nat), us = [.str z] ∧ ss[j]? = some z ∧ (∀ m, m < j → ss[m]? ≠ some z) ∧ Q (.int j) A1
theorem ab_idxC {K : PySem.W.Frag} {a : Addr} {tl : TA} {l : AA} (ss : List Str) (ty : ∀ H, tyV K "tuple" (.ref a) H) (hq : ∀ H, SqT K H a (ss.map V.str)) (hl : AbA K tl l) : AbE K (tBM K "tuple" (rIdxS fun x ss H => ∃ a, x = .ref a ∧ SqT K H a (ss.map V.str)) (tC (.ref a)) tl) (aIdxC ss l) := fun ρ A σ H Q' Q hs g w k =>
  ⟨ty H, hl ρ A σ H _ _ hs g w fun us A1 vs H1 k1 g1 r1 ⟨z, j, e, e1, e2, h⟩ => by
    subst e
    obtain ⟨v, rfl, rv⟩ := r1.inv1
    cases rv
    exact ⟨ss, z, j, ⟨a, rfl, hq H1⟩, rfl, e1, e2, k _ _ _ _ k1 g1 (.int _) h⟩⟩
theorem q_idxC {ss : List Str} {l : AA} {ρ : ASt} {A : AHp} {Q : AVK} : (aIdxC ss l ρ A Q) = (l ρ A fun us A1 => ∃ (z : Str) (j : Nat), us = [.str z] ∧ ss[j]? = some z ∧ (∀ m, m < j → ss[m]? ≠ some z) ∧ Q (.int j) A1) := rfl
theorem q_idxL {A : AHp} {Q : AVK} {p : Addr} {z : Str} : ((fun (u : U) (us : List U) (A : AHp) (Q : AVK) => (∃ a, u = .ref a) ∧ mIdx u us A Q) (.ref p) [.str z] A Q) = (∃ (ss : List Str) (j : Nat), A p = some (.lst (ss.map U.str)) ∧ ss[j]? = some z ∧ (∀ m, m < j → ss[m]? ≠ some z) ∧ Q (.int j) A) := by
  refine propext ⟨fun ⟨_, ss, j, h, h1, h2, h3⟩ => ?_, fun ⟨ss, j, h, h1, h2, h3⟩ => ⟨⟨p, rfl⟩, ss, j, .inr ⟨p, rfl, h⟩, h1, h2, h3⟩⟩
  rcases h with h | ⟨a, e, h⟩
  · cases h
  · cases e; exact ⟨ss, j, h, h1, h2, h3⟩
theorem Ext.put {A A2 : AHp} {a : Addr} {o : AO} (e : Ext A A2) : Ext (updA A a o) (updA A2 a o) := fun b u h => by
  by_cases hb : b = a
  · subst hb; rw [updA_same] at h ⊢; exact h
  · rw [updA_ne hb] at h ⊢; exact e b u h
theorem Ext.none {A A2 : AHp} {l : Addr} (e : Ext A A2) (h : A2 l = Option.none) : A l = Option.none := by
  cases q : A l with
  | none => rfl
  | some v => rw [e l v q] at h; cases h
/-- what is written at a place that A does not know -/
theorem Ext.in {A A2 : AHp} {l : Addr} {o : AO} (e : Ext A A2) (h : A l = Option.none) : Ext A (updA A2 l o) := fun b u q => by
  rw [updA_ne (neA q h)]; exact e b u q
theorem updA_swap {A : AHp} {a l : Addr} {x y : AO} (h : a ≠ l) : updA (updA A a x) l y = updA (updA A l y) a x := by
  funext b
  unfold updA
  by_cases h1 : b = l
  · rw [if_pos h1, if_neg (fun e => h (e.symm.trans h1)), if_pos h1]
  · rw [if_neg h1]
    by_cases h2 : b = a
    · rw [if_pos h2, if_pos h2]
    · rw [if_neg h2, if_neg h2, if_neg h1]
theorem updA_self {A : AHp} {a : Addr} {o : AO} (h : A a = some o) : updA A a o = A := by
  funext b
  by_cases hb : b = a
  · subst hb; rw [updA_same, h]
  · rw [updA_ne hb]
theorem col_atU (j : Int) : ∃ c : Str, atI [U.str "red", U.str "ash", U.str "blue", U.str "redder"] (j % 4) = some (.str c) ∧ PyData.strOk c = true := by
  have h : j % 4 = 0 ∨ j % 4 = 1 ∨ j % 4 = 2 ∨ j % 4 = 3 := by omega
  rcases h with h | h | h | h <;> rw [h]
  · exact ⟨"red", atI_nat (j := 0) rfl, by decide +kernel⟩
  · exact ⟨"ash", atI_nat (j := 1) rfl, by decide +kernel⟩
  · exact ⟨"blue", atI_nat (j := 2) rfl, by decide +kernel⟩
  · exact ⟨"redder", atI_nat (j := 3) rfl, by decide +kernel⟩
theorem many_atU (j : Int) : ∃ k : Nat, atI [U.str "row", U.str "bag", U.str "choice", U.str "ring"] (j % 4) = some (.str (mname k)) := by
  have h : j % 4 = 0 ∨ j % 4 = 1 ∨ j % 4 = 2 ∨ j % 4 = 3 := by omega
  rcases h with h | h | h | h <;> rw [h]
  · exact ⟨0, atI_nat (j := 0) rfl⟩
  · exact ⟨1, atI_nat (j := 1) rfl⟩
  · exact ⟨2, atI_nat (j := 2) rfl⟩
  · exact ⟨3, atI_nat (j := 3) rfl⟩
theorem side_atU {j : Int} (h0 : 0 ≤ j) (h1 : j < 2) : ∃ b : Bool, atI [U.str "left", U.str "right"] j = some (.str (sname b)) := by
  have h : j = 0 ∨ j = 1 := by omega
  rcases h with h | h <;> rw [h]
  · exact ⟨false, atI_nat (j := 0) rfl⟩
  · exact ⟨true, atI_nat (j := 1) rfl⟩
/-- an int of a list of ints -/
theorem atI_intsU {ns : List Int} {i : Int} (h0 : 0 ≤ i) (h : i < ns.length) : ∃ z, atI (ns.map U.int) i = some (.int z) ∧ ns[i.toNat]? = some z := by
  obtain ⟨v, h1, h2⟩ := atI_lt (xs := ns.map U.int) (i := i) h0 (by rw [List.length_map]; exact h)
  rw [List.getElem?_map] at h2
  obtain ⟨z, hz, rfl⟩ := Option.map_eq_some_iff.mp h2
  exact ⟨z, h1, hz⟩
/-- [stack.pop() for k in range(m)] -/
theorem cl_popsA {l a : Addr} {Q : AVK} {A : AHp} {x0 : Option U} {lo : Int} {xs ys : List U} (ha : A a = some (.lst (xs ++ ys))) (hl : A l = Option.none) (hn : ys.length ≤ 100000)
    (hd : Q (.ref l) (updA (updA A a (.lst xs)) l (.lst ys.reverse))) :
    aCL (jFix (rngU lo ys.length)) (bName 0) aTrue (aBM0 isLst mPop (aVar 1)) l Q [x0, some (.ref a)] (updA A l (.lst [])) := by
  have hne : a ≠ l := neA ha hl
  refine ⟨fun i m τ A2 => m = ys.length - i ∧ i ≤ ys.length ∧ (∃ x, τ = [x, some (.ref a)]) ∧ A2 = updA (updA A a (.lst (xs ++ ys.take (ys.length - i)))) l (.lst (ys.reverse.take i)), ⟨_, rfl, Nat.zero_le _, ⟨_, rfl⟩, ?_⟩, ?_⟩
  · rw [Nat.sub_zero, List.take_length, updA_self ha]; rfl
  · rintro i m τ A2 ⟨rfl, hi, ⟨x, rfl⟩, rfl⟩
    by_cases hlt : i < ys.length
    · refine .inr ⟨.int (lo + i), by show _ = _; rw [rngU_get, if_pos hlt], ?_⟩
      have e1 : ys.take (ys.length - i) = ys.take (ys.length - (i + 1)) ++ [ys[ys.length - (i + 1)]'(by omega)] := by
        have : ys.length - i = (ys.length - (i + 1)) + 1 := by omega
        rw [this, List.take_add_one, List.getElem?_eq_getElem (by omega)]; rfl
      have e2 : ys.reverse.take (i + 1) = ys.reverse.take i ++ [ys[ys.length - (i + 1)]'(by omega)] := by
        rw [List.take_add_one, List.getElem?_reverse hlt, show ys.length - 1 - i = ys.length - (i + 1) from by omega, List.getElem?_eq_getElem (by omega)]; rfl
      rw [q_nm0, q_true, if_pos rfl, q_bm0, q_var1]
      refine ⟨⟨_, by rw [updA_ne hne, updA_same]⟩, xs ++ ys.take (ys.length - (i + 1)), ys[ys.length - (i + 1)]'(by omega), by rw [updA_ne hne, updA_same, e1, List.append_assoc], _, by rw [updA_ne (Ne.symm hne), updA_same], ?_, ys.length - (i + 1), by omega, rfl, hlt, ⟨_, rfl⟩, ?_⟩
      · refine line1000' ?_
        rw [List.length_take, List.length_reverse]; omega
      · rw [e2, updA_swap (A := updA A a _) (a := l) (l := a) (Ne.symm hne), updA_updA, updA_updA]
    · have e : i = ys.length := by omega
      subst e
      refine .inl ⟨by show _ = _; rw [rngU_get, if_neg (by omega)], ?_⟩
      rw [Nat.sub_self, List.take_zero, List.append_nil, List.take_of_length_le (by rw [List.length_reverse]; exact Nat.le_refl _)]
      exact hd
theorem sum_tups (ws : List Wr) : (ws.map fun w => ((w.tups : Nat) : Int)).sum = tupsL ws := by
  induction ws with
  | nil => rfl
  | cons w ws ih => rw [List.map_cons, List.sum_cons, ih, tupsL]; push_cast; rfl
theorem map_get {α β : Type} {f : α → β} {xs : List α} {k : Nat} {u : β} (h : (xs.map f)[k]? = some u) : ∃ x, xs[k]? = some x ∧ u = f x := by
  rw [List.getElem?_map] at h
  obtain ⟨x, hx, rfl⟩ := Option.map_eq_some_iff.mp h
  exact ⟨x, hx, rfl⟩
/-- one name over written items, no test, items and results by one list -/
theorem cl_mapW {α : Type} {J : AIt} {te : AE} {l : Addr} {Q : AVK} {A : AHp} {x0 : Option U} {fr : ASt} (xs : List α) (f g : α → U) (hl : A l = Option.none) (hn : xs.length ≤ 100000) (hJ : ∀ k A2, k ≤ xs.length → Ext A A2 → J k A2 (xs.map f)[k]?)
    (hs : ∀ (x : α) A2, x ∈ xs → Ext A A2 → ∀ Cy : U → AHp → Prop, Cy (g x) A2 → te (some (f x) :: fr) A2 Cy)
    (hd : Q (.ref l) (updA A l (.lst (xs.map g)))) : aCL J (bName 0) aTrue te l Q (x0 :: fr) (updA A l (.lst [])) := by
  refine cl_map (xs.map f) (xs.map g) (by simp) hl (by simpa using hn) (fun k A2 hk he => hJ k A2 (by simpa using hk) he) (fun k u y A2 hu hy he Cy hc => ?_) hd
  obtain ⟨x, hx, rfl⟩ := map_get hu
  obtain ⟨x', hx', rfl⟩ := map_get hy
  rw [hx] at hx'; cases hx'
  exact hs x A2 (List.mem_of_getElem? hx) he Cy hc
/-- a promise that asks what cannot be -/
theorem none_yet {P : Program} {w : World} {K : PySem.W.Frag} {mg : Str → Option Value} {base : Heap} {x qual : Str} {st : Stmt} {f : Addr} {fd : FuncData} {N ps : List Str} {k : Nat} {asp : ASp} (F : Fun K x qual st f fd) (S : FnScope N ps (defScope st)) (h : ∀ us A Q, ¬ asp us A Q) : FnOk P w K mg base CX0 k f fd ps (spOf K asp) :=
  ⟨fun vs H Q E ⟨us, A, Q', _, _, q, _⟩ => (h us A Q' q).elim, fun A outer s H args us vs Q E _ _ _ _ ⟨ws, A', Q', _, _, q, _⟩ => (h ws A' Q' q).elim⟩
end L2

set_option Elab.async false
set_option linter.all false
set_option maxRecDepth 100000
set_option maxHeartbeats 4000000
/-! zip of lists and tuples in any mix -/
namespace L2
open PySem PySem.Spec PyProof.Rows
/-- an iterator over a tuple (true) or a list (false), at place k -/
def SIt (h : Heap) (t : Bool) (it l : Addr) (k : Nat) (xs : Array Value) : Prop := match t with
  | false => h.IsListIter it l k ∧ h.IsList l xs
  | true => h.IsTupleIter it l k ∧ h.IsTuple l xs
section
variable {prog : Program} {w : World} {A : Around} {E : Value → Shared → Prop} {s : Shared} {it l : Addr} {k : Nat} {xs : Array Value} {t t1 t2 : Bool}
theorem SIt.at {h h' : Heap} (q : SIt h t it l k xs) (a : ∀ o, h.get? it = some o → h'.get? it = some o) (b : ∀ o, h.get? l = some o → h'.get? l = some o) : SIt h' t it l k xs := by
  cases t with
  | false => exact ⟨Heap.IsListIter.at q.1 a, Heap.IsList.at q.2 b⟩
  | true => exact ⟨Heap.IsTupleIter.at q.1 a, Heap.IsTuple.at q.2 b⟩
theorem SIt.but {h h' : Heap} {b : Addr} (q : SIt h t it l k xs) (e : Heap.ExtBut b h h') (h1 : it ≠ b) (h2 : l ≠ b) : SIt h' t it l k xs := q.at (fun o z => e _ o h1 z) fun o z => e _ o h2 z
theorem sit_item {x : Value} {Q : Value → Shared → Prop} (q : SIt s.heap t it l k xs) (hl : l ≠ it) (hx : xs[k]? = some x) (hQ : ∀ h', SIt h' t it l (k + 1) xs → Heap.SameBut it s.heap h' → Q x { s with heap := h' }) :
    wpAny (model prog w) A (Builtin.SmallTypes.nextOf (.ref it)) Q E s := by
  cases t with
  | false => exact wpAny_nextOf_list_item q.1 q.2 hx fun h' a b => hQ h' ⟨a, Heap.IsList.extBut q.2 b.extBut hl⟩ b
  | true => exact next_tup_item q.1 q.2 hx fun h' a b => hQ h' ⟨a, Heap.IsTuple.at q.2 fun o z => b.extBut _ o hl z⟩ b
theorem sit_end {Q : Value → Shared → Prop} (hh : A.handled = none) (q : SIt s.heap t it l k xs) (hx : xs[k]? = none)
    (hE : ∀ h' e, Heap.ExtBut it s.heap h' → (∃ o, h'.get? e = some o ∧ o.cls = .type "StopIteration") → E (.ref e) { s with heap := h' }) : wpAny (model prog w) A (Builtin.SmallTypes.nextOf (.ref it)) Q E s := by
  cases t with
  | false => exact wpAny_nextOf_list_end hh q.1 q.2 hx hE
  | true => exact next_tup_end hh q.1 q.2 hx hE
variable {z TI TO i1 i2 l1 l2 : Addr} {k1 k2 : Nat} {ps qs : Array Value} {a b : Value}
theorem zipG_item {x y : Value} {Q : Value → Shared → Prop} (D : ZipApart z TI TO i1 i2 l1 l2) (zz : IsZip s.heap z TI TO .none) (zi : IsPair s.heap TI (.ref i1) (.ref i2)) (zo : IsPair s.heap TO a b)
    (j1 : SIt s.heap t1 i1 l1 k1 ps) (j2 : SIt s.heap t2 i2 l2 k2 qs) (hx : ps[k1]? = some x) (hy : qs[k2]? = some y)
    (hQ : ∀ h', IsZip h' z TI TO (rawInt s.heap.objs.size) → IsPair h' TO x y → SIt h' t1 i1 l1 (k1 + 1) ps → SIt h' t2 i2 l2 (k2 + 1) qs → IsPair h' s.heap.objs.size x y →
      (∀ c o, c ≠ z → c ≠ TO → c ≠ i1 → c ≠ i2 → s.heap.get? c = some o → h'.get? c = some o) → Q (.ref s.heap.objs.size) { s with heap := h' }) :
    wpAny (model prog w) A (Builtin.«zip.__next__» ⟨[.ref z], []⟩) (fun fin s' => ∃ v, fin = .done (.ret v) ∧ Q v s') E s := by
  refine (show wpAny _ _ (field (.ref z) 2 >>= _) _ _ _ from wpAny_bind (wpAny_field zz rfl (x := .bool false) rfl ?_))
  refine (show wpAny _ _ (field (.ref z) 3 >>= _) _ _ _ from wpAny_bind (wpAny_field zz rfl (x := .ref TI) rfl (wpAny_bind (wpAny_seqItems zi rfl ?_))))
  refine (show wpAny _ _ (Builtin.SmallTypes.ownedTupleIsFree (.ref z) >>= _) _ _ _ from wpAny_bind ?_)
  unfold Builtin.SmallTypes.ownedTupleIsFree
  refine wpAny_bind (wpAny_field zz rfl (x := .none) rfl (wpAny_pure ?_))
  simp only [if_true]
  refine wpAny_bind (wpAny_rule (wpAny_bind (wpAny_field zz rfl (x := .ref TO) rfl (wpAny_bind (wpAny_setField_rec zz (by simp) fun g1 y1 b1 => wpAny_bind ?_)))))
  have y1 : IsZip g1 z TI TO .ellipsis := y1
  simp only [List.zipIdx_cons, List.zipIdx_nil, List.forIn_cons, List.forIn_nil]
  refine wpAny_bind (wpAny_bind (wpAny_onRaise (show wpAny _ _ (Builtin.SmallTypes.nextOf (.ref i1) >>= _) _ _ _ from ?_)))
  refine wpAny_bind (sit_item (j1.but b1.extBut D.i1z D.l1z) D.l1i1 hx fun g2 w1 b2 => wpAny_pure ?_)
  have o2 : IsPair g2 TO a b := b2.extBut _ _ D.TOi1 (b1.extBut _ _ D.TOz zo)
  refine wpAny_bind (wpAny_seqItems o2 rfl (wpAny_bind (wpAny_updateSeq_pair o2 fun g3 o3 b3 => wpAny_bind (wpAny_letGo (wpAny_pure ?_)))))
  have o3 : IsPair g3 TO x b := o3
  refine wpAny_bind (wpAny_bind (wpAny_onRaise (show wpAny _ _ (Builtin.SmallTypes.nextOf (.ref i2) >>= _) _ _ _ from ?_)))
  refine wpAny_bind (sit_item (((j2.but b1.extBut D.i2z D.l2z).but b2.extBut D.i12.symm D.l2i1).but b3.extBut D.TOi2.symm D.l2TO) D.l2i2 hy fun g4 w2 b4 => wpAny_pure ?_)
  have o4 : IsPair g4 TO x b := b4.extBut _ _ D.TOi2 o3
  refine wpAny_bind (wpAny_seqItems o4 rfl (wpAny_bind (wpAny_updateSeq_pair o4 fun g5 o5 b5 => wpAny_bind (wpAny_letGo (wpAny_pure (wpAny_pure ?_))))))
  have o5 : IsPair g5 TO x y := o5
  refine wpAny_bind (wpAny_seqItems o5 rfl (wpAny_bind (wpAny_newTuple ?_)))
  have sz : g5.objs.size = s.heap.objs.size := by rw [b5.1, b4.1, b3.1, b2.1, b1.1]
  have y5 : IsZip g5 z TI TO .ellipsis := b5.extBut _ _ D.TOz.symm (b4.extBut _ _ D.i2z.symm (b3.extBut _ _ D.TOz.symm (b2.extBut _ _ D.i1z.symm y1)))
  have all5 : ∀ c o, c ≠ z → c ≠ TO → c ≠ i1 → c ≠ i2 → s.heap.get? c = some o → g5.get? c = some o := fun c o c1 c2 c3 c4 e =>
    b5.extBut _ _ c2 (b4.extBut _ _ c4 (b3.extBut _ _ c2 (b2.extBut _ _ c3 (b1.extBut _ _ c1 e))))
  have w15 : SIt g5 t1 i1 l1 (k1 + 1) ps := ((w1.but b3.extBut D.TOi1.symm D.l1TO).but b4.extBut D.i12 D.l1i2).but b5.extBut D.TOi1.symm D.l1TO
  have w25 : SIt g5 t2 i2 l2 (k2 + 1) qs := w2.but b5.extBut D.TOi2.symm D.l2TO
  have zlt : z < g5.objs.size := Heap.lt_size y5
  refine (show wpAny _ _ (Builtin.SmallTypes.ownedTupleHandOut (.ref z) (.ref g5.objs.size) >>= _) _ _ _ from wpAny_bind ?_)
  unfold Builtin.SmallTypes.ownedTupleHandOut
  have y6 : IsZip (g5.push { cls := .type "tuple", data := .seq #[x, y] }) z TI TO .ellipsis := Heap.get?_push_of_some _ y5
  refine wpAny_bind (wpAny_setField_rec y6 (by simp) fun g7 y7 b7 => ?_)
  have y7 : IsZip g7 z TI TO (rawInt g5.objs.size) := y7
  refine wpAny_setField_rec y7 (by simp) fun g8 y8 b8 => ?_
  have y8 : IsZip g8 z TI TO (rawInt g5.objs.size) := y8
  have up : ∀ c o, c ≠ z → g5.get? c = some o → g8.get? c = some o := fun c o c1 e => b8.extBut _ _ c1 (b7.extBut _ _ c1 (Heap.get?_push_of_some _ e))
  have t8 : IsPair g8 g5.objs.size x y := b8.extBut _ _ (Nat.ne_of_gt zlt) (b7.extBut _ _ (Nat.ne_of_gt zlt) (Heap.get?_push_size _ rfl))
  rw [sz] at y8 t8
  refine wpAny_pure ⟨_, rfl, show Q (.ref g5.objs.size) _ from ?_⟩
  rw [sz]
  exact hQ g8 y8 (up _ _ D.TOz o5) (w15.at (fun o e => up _ o D.i1z e) fun o e => up _ o D.l1z e) (w25.at (fun o e => up _ o D.i2z e) fun o e => up _ o D.l2z e) t8 fun c o c1 c2 c3 c4 e => up c o c1 (all5 c o c1 c2 c3 c4 e)
theorem zipG_end {Q : Fin → Shared → Prop} (hh : A.handled = none) (D : ZipApart z TI TO i1 i2 l1 l2) (zz : IsZip s.heap z TI TO .none) (zi : IsPair s.heap TI (.ref i1) (.ref i2)) (zo : IsPair s.heap TO a b)
    (j1 : SIt s.heap t1 i1 l1 k1 ps) (j2 : SIt s.heap t2 i2 l2 k2 qs) (hend : ps[k1]? = none ∨ qs[k2]? = none)
    (hE : ∀ h' e, (∀ c o, c ≠ z → c ≠ TO → c ≠ i1 → c ≠ i2 → s.heap.get? c = some o → h'.get? c = some o) → (∃ o, h'.get? e = some o ∧ o.cls = .type "StopIteration") → E (.ref e) { s with heap := h' }) :
    wpAny (model prog w) A (Builtin.«zip.__next__» ⟨[.ref z], []⟩) Q E s := by
  refine (show wpAny _ _ (field (.ref z) 2 >>= _) _ _ _ from wpAny_bind (wpAny_field zz rfl (x := .bool false) rfl ?_))
  refine (show wpAny _ _ (field (.ref z) 3 >>= _) _ _ _ from wpAny_bind (wpAny_field zz rfl (x := .ref TI) rfl (wpAny_bind (wpAny_seqItems zi rfl ?_))))
  refine (show wpAny _ _ (Builtin.SmallTypes.ownedTupleIsFree (.ref z) >>= _) _ _ _ from wpAny_bind ?_)
  unfold Builtin.SmallTypes.ownedTupleIsFree
  refine wpAny_bind (wpAny_field zz rfl (x := .none) rfl (wpAny_pure ?_))
  simp only [if_true]
  refine wpAny_bind (wpAny_rule (wpAny_bind (wpAny_field zz rfl (x := .ref TO) rfl (wpAny_bind (wpAny_setField_rec zz (by simp) fun g1 y1 b1 => wpAny_bind ?_)))))
  have y1 : IsZip g1 z TI TO .ellipsis := y1
  simp only [List.zipIdx_cons, List.zipIdx_nil, List.forIn_cons, List.forIn_nil]
  refine wpAny_bind (wpAny_bind (wpAny_onRaise (show wpAny _ _ (Builtin.SmallTypes.nextOf (.ref i1) >>= _) _ _ _ from ?_)))
  cases hx : ps[k1]? with
  | none =>
    refine wpAny_bind (sit_end hh (j1.but b1.extBut D.i1z D.l1z) hx fun g2 e b2 he => ?_)
    obtain ⟨oe, ho, hc⟩ := he
    have y2 : IsZip g2 z TI TO .ellipsis := b2 _ _ D.i1z.symm y1
    have ne : e ≠ z := fun q => by subst q; rw [y2] at ho; cases ho; simp at hc
    exact wpAny_setField_rec y2 (by simp) fun g3 _ b3 => hE g3 e (fun c o c1 _ c3 _ q => b3.extBut _ _ c1 (b2 _ _ c3 (b1.extBut _ _ c1 q))) ⟨oe, b3.extBut _ _ ne ho, hc⟩
  | some x =>
    have hy : qs[k2]? = none := by
      rcases hend with h | h
      · rw [hx] at h; cases h
      · exact h
    refine wpAny_bind (sit_item (j1.but b1.extBut D.i1z D.l1z) D.l1i1 hx fun g2 w1 b2 => wpAny_pure ?_)
    have o2 : IsPair g2 TO a b := b2.extBut _ _ D.TOi1 (b1.extBut _ _ D.TOz zo)
    refine wpAny_bind (wpAny_seqItems o2 rfl (wpAny_bind (wpAny_updateSeq_pair o2 fun g3 o3 b3 => wpAny_bind (wpAny_letGo (wpAny_pure ?_)))))
    refine wpAny_bind (wpAny_bind (wpAny_onRaise (show wpAny _ _ (Builtin.SmallTypes.nextOf (.ref i2) >>= _) _ _ _ from ?_)))
    refine wpAny_bind (sit_end hh (((j2.but b1.extBut D.i2z D.l2z).but b2.extBut D.i12.symm D.l2i1).but b3.extBut D.TOi2.symm D.l2TO) hy fun g4 e b4 he => ?_)
    obtain ⟨oe, ho, hc⟩ := he
    have y4 : IsZip g4 z TI TO .ellipsis := b4 _ _ D.i2z.symm (b3.extBut _ _ D.TOz.symm (b2.extBut _ _ D.i1z.symm y1))
    have ne : e ≠ z := fun q => by subst q; rw [y4] at ho; cases ho; simp at hc
    exact wpAny_setField_rec y4 (by simp) fun g5 _ b5 => hE g5 e (fun c o c1 c2 c3 c4 q => b5.extBut _ _ c1 (b4 _ _ c4 (b3.extBut _ _ c2 (b2.extBut _ _ c3 (b1.extBut _ _ c1 q))))) ⟨oe, b5.extBut _ _ ne ho, hc⟩
theorem nextG_item {x y : Value} {Q : Option Value → Shared → Prop} (D : ZipApart z TI TO i1 i2 l1 l2) (zz : IsZip s.heap z TI TO .none) (zi : IsPair s.heap TI (.ref i1) (.ref i2)) (zo : IsPair s.heap TO a b)
    (j1 : SIt s.heap t1 i1 l1 k1 ps) (j2 : SIt s.heap t2 i2 l2 k2 qs) (hx : ps[k1]? = some x) (hy : qs[k2]? = some y)
    (hQ : ∀ h', IsZip h' z TI TO (rawInt s.heap.objs.size) → IsPair h' TO x y → SIt h' t1 i1 l1 (k1 + 1) ps → SIt h' t2 i2 l2 (k2 + 1) qs → IsPair h' s.heap.objs.size x y →
      (∀ c o, c ≠ z → c ≠ TO → c ≠ i1 → c ≠ i2 → s.heap.get? c = some o → h'.get? c = some o) → Q (some (.ref s.heap.objs.size)) { s with heap := h' }) : wpAny (model prog w) A (pyNext (.ref z)) Q E s := by
  have ty : s.TypeIs (.ref z) "zip" := ⟨_, zz, rfl⟩
  unfold pyNext
  exact wpAny_bind (wpAny_attempt (wpAny_callSpecial?_slot (name := Str.ofString "__next__") ty F.slot_zip_next (wpAny_call_entry F.slot_zip_next ty F.entry_zip_next (zipG_item D zz zi zo j1 j2 hx hy fun h' a1 a2 a3 a4 a5 a6 => wpAny_pure (hQ h' a1 a2 a3 a4 a5 a6)) (F.args_zip_next_1 _))))
theorem nextG_end {Q : Option Value → Shared → Prop} (hh : A.handled = none) (D : ZipApart z TI TO i1 i2 l1 l2) (zz : IsZip s.heap z TI TO .none) (zi : IsPair s.heap TI (.ref i1) (.ref i2)) (zo : IsPair s.heap TO a b)
    (j1 : SIt s.heap t1 i1 l1 k1 ps) (j2 : SIt s.heap t2 i2 l2 k2 qs) (hend : ps[k1]? = none ∨ qs[k2]? = none)
    (hQ : ∀ h', (∀ c o, c ≠ z → c ≠ TO → c ≠ i1 → c ≠ i2 → s.heap.get? c = some o → h'.get? c = some o) → Q none { s with heap := h' }) : wpAny (model prog w) A (pyNext (.ref z)) Q E s := by
  have ty : s.TypeIs (.ref z) "zip" := ⟨_, zz, rfl⟩
  unfold pyNext
  refine wpAny_bind (wpAny_attempt (wpAny_callSpecial?_slot (name := Str.ofString "__next__") ty F.slot_zip_next (wpAny_call_entry F.slot_zip_next ty F.entry_zip_next (zipG_end hh D zz zi zo j1 j2 hend fun h' e hk he => ?_) (F.args_zip_next_1 _))))
  obtain ⟨o, ho, hc⟩ := he
  exact wpAny_bind (wpAny_isInstance (T := "StopIteration") (b := true) ⟨o, ho, hc⟩ isSubtype_stop (wpAny_pure (hQ _ hk)))
end
/-- a tuple (true) or a list (false) before it is walked -/
def SqH (h : Heap) (l : Addr) (xs : Array Value) (t : Bool) : Prop := match t with
  | false => h.IsList l xs
  | true => h.IsTuple l xs
def tyB : Bool → String
  | true => "tuple_iterator"
  | false => "list_iterator"
theorem SqH.push {h : Heap} {l : Addr} {xs : Array Value} {t : Bool} {o : Obj} (q : SqH h l xs t) : SqH (h.push o) l xs t := by
  cases t with
  | false => exact Heap.IsList.push q _
  | true => exact Heap.IsTuple.at q fun u e => Heap.get?_push_of_some _ e
theorem SqH.lt {h : Heap} {l : Addr} {xs : Array Value} {t : Bool} (q : SqH h l xs t) : l < h.objs.size := by
  cases t with
  | false => obtain ⟨o, e, _⟩ := q; exact Heap.lt_size e
  | true => obtain ⟨o, e, _⟩ := q; exact Heap.lt_size e
def itO (t : Bool) (l : Addr) : Obj := { cls := .type (tyB t), data := .fields #[.ref l, .int 0 0] }
theorem SqH.iter {prog : Program} {w : World} {A : Around} {E : Value → Shared → Prop} {s : Shared} {l : Addr} {xs : Array Value} {t : Bool} {Q : Value → Shared → Prop} (q : SqH s.heap l xs t) (h : Q (.ref s.heap.objs.size) { s with heap := s.heap.push (itO t l) }) :
    wpAny (model prog w) A (pyIter (.ref l)) Q E s := by
  cases t with
  | false => exact wpAny_pyIter_list q h
  | true => exact wpAny_pyIter_tuple q h
theorem SqH.sit {h h' : Heap} {l it : Addr} {xs : Array Value} {t : Bool} (q : SqH h l xs t) (e : h'.get? it = some (itO t l)) (up : ∀ o, h.get? l = some o → h'.get? l = some o) : SIt h' t it l 0 xs := by
  cases t with
  | false => exact ⟨⟨_, e, rfl, rfl⟩, Heap.IsList.at q up⟩
  | true => exact ⟨⟨_, e, rfl, rfl⟩, Heap.IsTuple.at q up⟩
def zg1 (h : Heap) (t1 : Bool) (l1 : Addr) : Heap := h.push (itO t1 l1)
def zg2 (h : Heap) (t1 : Bool) (l1 : Addr) (t2 : Bool) (l2 : Addr) : Heap := (zg1 h t1 l1).push (itO t2 l2)
def zg3 (h : Heap) (t1 : Bool) (l1 : Addr) (t2 : Bool) (l2 : Addr) : Heap := (zg2 h t1 l1 t2 l2).push { cls := .type "tuple", data := .seq #[.ref h.objs.size, .ref (zg1 h t1 l1).objs.size] }
def zg4 (h : Heap) (t1 : Bool) (l1 : Addr) (t2 : Bool) (l2 : Addr) : Heap := (zg3 h t1 l1 t2 l2).push { cls := .type "tuple", data := .seq #[.none, .none] }
def zg5 (h : Heap) (t1 : Bool) (l1 : Addr) (t2 : Bool) (l2 : Addr) : Heap := (zg4 h t1 l1 t2 l2).push { cls := .type "zip", data := .fields #[.none, .bool false, .bool false, .ref (zg2 h t1 l1 t2 l2).objs.size, .ref (zg3 h t1 l1 t2 l2).objs.size] }
theorem newG_zip (l1 l2 : Addr) (xs ys : Array Value) (t1 t2 : Bool) :
    Meets (Builtin.«zip.__new__» ⟨[.type "zip", .ref l1, .ref l2], []⟩) (fun _ R s => SqH s.heap l1 xs t1 ∧ SqH s.heap l2 ys t2 ∧
      R (.ok (.ret (.ref (zg4 s.heap t1 l1 t2 l2).objs.size))) { s with heap := zg5 s.heap t1 l1 t2 l2 }) :=
  .of_wp fun prog w A R s h => by
    obtain ⟨hp, g, d, tk, os⟩ := s
    obtain ⟨q1, q2, h⟩ := h
    have sb := sub_zip
    have r1 : SqH (Shared.heap ⟨hp, g, d, tk, os⟩) l1 xs t1 := q1
    have r2 : SqH (Shared.heap ⟨hp.push (itO t1 l1), g, d, tk, os⟩) l2 ys t2 := q2.push
    wp_walk using SqH.iter r1, SqH.iter r2
    exact ⟨_, rfl, h⟩
section
variable {prog : Program} {w : World} {A : Around} {E : Value → Shared → Prop} {s : Shared}
theorem callG_zip {l1 l2 : Addr} {xs ys : Array Value} {t1 t2 : Bool} {Q : Value → Shared → Prop} (q1 : SqH s.heap l1 xs t1) (q2 : SqH s.heap l2 ys t2)
    (h : ∀ h', IsZip h' (s.heap.objs.size + 4) (s.heap.objs.size + 2) (s.heap.objs.size + 3) .none → IsPair h' (s.heap.objs.size + 2) (.ref s.heap.objs.size) (.ref (s.heap.objs.size + 1)) →
      IsPair h' (s.heap.objs.size + 3) .none .none → SIt h' t1 s.heap.objs.size l1 0 xs → SIt h' t2 (s.heap.objs.size + 1) l2 0 ys → (∀ c o, s.heap.get? c = some o → h'.get? c = some o) → Q (.ref (s.heap.objs.size + 4)) { s with heap := h' }) :
    wpAny (model prog w) A (call (.type "zip") [.ref l1, .ref l2]) Q E s := by
  refine callType_new F.called_zip (by decide) (F.typeCall_zip_2 _ _) (F.newCall_zip_2 _ _) (fun ob => F.args_object_init_3 ob _ _) F.entry_zip_new (newG_zip l1 l2 xs ys t1 t2) ⟨q1, q2, ?_⟩
  have n1 : (zg1 s.heap t1 l1).objs.size = s.heap.objs.size + 1 := Heap.size_push ..
  have n2 : (zg2 s.heap t1 l1 t2 l2).objs.size = s.heap.objs.size + 2 := by unfold zg2; rw [Heap.size_push, n1]
  have n3 : (zg3 s.heap t1 l1 t2 l2).objs.size = s.heap.objs.size + 3 := by unfold zg3; rw [Heap.size_push, n2]
  have n4 : (zg4 s.heap t1 l1 t2 l2).objs.size = s.heap.objs.size + 4 := by unfold zg4; rw [Heap.size_push, n3]
  have up : ∀ c o, s.heap.get? c = some o → (zg5 s.heap t1 l1 t2 l2).get? c = some o := fun c o e => Heap.get?_push_of_some _ (Heap.get?_push_of_some _ (Heap.get?_push_of_some _ (Heap.get?_push_of_some _ (Heap.get?_push_of_some _ e))))
  have p5 : (zg5 s.heap t1 l1 t2 l2).get? (zg4 s.heap t1 l1 t2 l2).objs.size = some _ := Heap.get?_push_size _ rfl
  have p4 : (zg5 s.heap t1 l1 t2 l2).get? (zg3 s.heap t1 l1 t2 l2).objs.size = some _ := Heap.get?_push_of_some _ (Heap.get?_push_size _ rfl)
  have p3 : (zg5 s.heap t1 l1 t2 l2).get? (zg2 s.heap t1 l1 t2 l2).objs.size = some _ := Heap.get?_push_of_some _ (Heap.get?_push_of_some _ (Heap.get?_push_size _ rfl))
  have p2 : (zg5 s.heap t1 l1 t2 l2).get? (zg1 s.heap t1 l1).objs.size = some (itO t2 l2) := Heap.get?_push_of_some _ (Heap.get?_push_of_some _ (Heap.get?_push_of_some _ (Heap.get?_push_size _ rfl)))
  have p1 : (zg5 s.heap t1 l1 t2 l2).get? s.heap.objs.size = some (itO t1 l1) := Heap.get?_push_of_some _ (Heap.get?_push_of_some _ (Heap.get?_push_of_some _ (Heap.get?_push_of_some _ (Heap.get?_push_size _ rfl))))
  rw [n2, n3, n4] at p5
  rw [n1, n2] at p3
  rw [n3] at p4
  rw [n1] at p2
  refine (show _ ∧ _ from ?_)
  rw [n4]
  exact ⟨⟨_, p5, rfl⟩, h _ p5 p3 p4 (q1.sit p1 fun o e => up _ _ e) (q2.sit p2 fun o e => up _ _ e) up⟩
end
/-! as a walk -/
/-- a tuple (true) or a list (false) that is read; its iterator -/
def sqB (K : PySem.W.Frag) (H : Hp) (t : Bool) (a : Addr) (xs : List V) : Prop := match t with
  | true => SqT K H a xs
  | false => SqL K H a xs
def itB (h : Heap) (t : Bool) (it l : Addr) (k : Nat) : Prop := match t with
  | true => h.IsTupleIter it l k
  | false => h.IsListIter it l k
section
variable {X : Cx} {pins : List (Addr × Obj)} {σ : St} {H : Hp} {s : Shared} {a : Addr} {xs ys : List V} {t : Bool}
theorem Inv.sqh (I : Inv X pins σ H s) (h : sqB X.K H t a xs) : ∃ its : List Value, Vals xs its ∧ SqH s.heap a its.toArray t := by
  cases t with
  | false =>
    obtain ⟨its, r, pl, _⟩ := I.list h
    exact ⟨its, r, pl.isList⟩
  | true =>
    obtain ⟨its, r, pl, _⟩ := I.tuple h
    exact ⟨its, r, pl⟩
theorem Inv.sqB_inj (I : Inv X pins σ H s) (h : sqB X.K H t a xs) (k : sqB X.K H t a ys) : xs = ys := by
  cases t with
  | false => exact I.list_inj h k
  | true =>
    obtain ⟨i1, r1, ⟨o1, e1, c1, n1, d1⟩, _⟩ := I.tuple h
    obtain ⟨i2, r2, ⟨o2, e2, c2, n2, d2⟩, _⟩ := I.tuple k
    rw [e1] at e2
    cases e2
    rw [d1] at d2
    have : i1 = i2 := by
      injection d2 with d2
      simpa using d2
    subst this
    exact Vals.inj r1 r2
theorem itB.sit {it : Addr} {k : Nat} (q : itB s.heap t it a k) (I : Inv X pins σ H s) (h : sqB X.K H t a xs) : ∃ its : List Value, Vals xs its ∧ SIt s.heap t it a k its.toArray := by
  obtain ⟨its, r, p⟩ := I.sqh h
  cases t with
  | false => exact ⟨its, r, q, p⟩
  | true => exact ⟨its, r, q, p⟩
end
theorem itB.at {h h' : Heap} {t : Bool} {it l : Addr} {k : Nat} (q : itB h t it l k) (e : ∀ o, h.get? it = some o → h'.get? it = some o) : itB h' t it l k := by
  cases t with
  | false => exact Heap.IsListIter.at q e
  | true => exact Heap.IsTupleIter.at q e
theorem itB.obj {h : Heap} {t : Bool} {it l : Addr} {k : Nat} (q : itB h t it l k) : ∃ o, h.get? it = some o ∧ ∀ v, o.data ≠ .cell v := by
  cases t with
  | false => obtain ⟨o, e, c, d⟩ := q; exact ⟨o, e, fun v z => by rw [d] at z; cases z⟩
  | true => obtain ⟨o, e, c, d⟩ := q; exact ⟨o, e, fun v z => by rw [d] at z; cases z⟩
theorem SIt.it {h : Heap} {t : Bool} {it l : Addr} {k : Nat} {xs : Array Value} (q : SIt h t it l k xs) : itB h t it l k := by
  cases t with
  | false => exact q.1
  | true => exact q.1
def ItG (K : PySem.W.Frag) (t1 t2 : Bool) (a b : Addr) : It :=
  ⟨fun i H => ∃ xs ys x y, sqB K H t1 a xs ∧ sqB K H t2 b ys ∧ xs[i]? = some x ∧ ys[i]? = some y,
   fun i H v H' => ∃ T x y, v = .ref T ∧ H T = none ∧ H' = upd H T (.tup [x, y]) ∧ (∀ xs, sqB K H t1 a xs → xs[i]? = some x) ∧ (∀ ys, sqB K H t2 b ys → ys[i]? = some y),
   fun i H => ∃ xs ys, sqB K H t1 a xs ∧ sqB K H t2 b ys ∧ (xs.length ≤ i ∨ ys.length ≤ i)⟩
theorem turn_zipG {P : Program} {w : World} {K : PySem.W.Frag} {elts : List Expr} {k0} {pos : Pos} {z TI TO i1 i2 l1 l2 : Addr} {t1 t2 : Bool} (D : ZipApart z TI TO i1 i2 l1 l2) : Turn P w K (.Tuple elts k0 pos) (ItG K t1 t2 l1 l2) [z, TI, TO, i1, i2] z
    (fun i h => IsZip h z TI TO .none ∧ IsPair h TI (.ref i1) (.ref i2) ∧ (∃ a b, IsPair h TO a b) ∧ itB h t1 i1 l1 i ∧ itB h t2 i2 l2 i) := by
  refine ⟨by simp, fun i h st b hb => ?_, fun i h h' st k => ?_, ?_, ?_, fun _ _ _ _ _ st h => wpAny_pyIter_zip st.1 h⟩
  · obtain ⟨zz, zi, ⟨a, c, zo⟩, j1, j2⟩ := st
    simp only [List.mem_cons, List.not_mem_nil, or_false] at hb
    rcases hb with e | e | e | e | e <;> subst e
    · exact ⟨_, zz, fun v q => nomatch q⟩
    · exact ⟨_, zi, fun v q => nomatch q⟩
    · exact ⟨_, zo, fun v q => nomatch q⟩
    · exact j1.obj
    · exact j2.obj
  · obtain ⟨zz, zi, ⟨a, c, zo⟩, j1, j2⟩ := st
    exact ⟨k z (by simp) _ zz, k TI (by simp) _ zi, ⟨a, c, k TO (by simp) _ zo⟩, j1.at fun o e => k i1 (by simp) o e, j2.at fun o e => k i2 (by simp) o e⟩
  · intro X e1 e2 e3 hc i pins s σ H E I hf st hg
    subst e1 e2 e3
    obtain ⟨zz, zi, ⟨a, c, zo⟩, j1, j2⟩ := st
    obtain ⟨xs, ys, x, y, hx, hy, hxi, hyi⟩ := hg
    obtain ⟨its, rv, p⟩ := j1.sit I hx
    obtain ⟨its2, rv2, p2⟩ := j2.sit I hy
    obtain ⟨u, hu, ru⟩ := rv.get hxi
    obtain ⟨u2, hu2, ru2⟩ := rv2.get hyi
    refine nextG_item D zz zi zo p p2 (x := u) (y := u2) (by simpa using hu) (by simpa using hu2) fun h' a1 a2 a3 a4 a5 hk => ?_
    refine ⟨_, rfl, wpAny_letOwnedTupleGo_zip a1 fun h'' zz' sb => ?_⟩
    have nz : s.heap.objs.size ≠ z := Nat.ne_of_gt (Heap.lt_size zz)
    have hT : IsTup h'' s.heap.objs.size [u, u2].toArray := ⟨_, sb.extBut _ _ nz a5, rfl, _, rfl⟩
    have I' : Inv X pins σ (upd H s.heap.objs.size (.tup [x, y])) { s with heap := h'', toks := s.toks } := I.turnedL (ch := [z, TI, TO, i1, i2]) hf (fun b o hb e => by
      simp only [List.mem_cons, List.not_mem_nil, or_false, not_or] at hb
      exact sb.extBut _ _ hb.1 (hk b o hb.1 hb.2.2.1 hb.2.2.2.1 hb.2.2.2.2 e)) (Nat.le_refl _) ⟨by show 2 ≤ sizeLine; decide, [u, u2], .cons ru (.cons ru2 .nil), hT⟩
    have hn : H s.heap.objs.size = none := I.hok.fresh (Nat.le_refl _)
    refine ⟨.ref s.heap.objs.size, _, I', rfl, ⟨_, x, y, rfl, hn, rfl, fun zs q => by rw [I.sqB_inj q hx]; exact hxi, fun zs q => by rw [I.sqB_inj q hy]; exact hyi⟩,
      ⟨zz', sb.extBut _ _ D.TIz (hk _ _ D.TIz D.TITO D.TIi1 D.TIi2 zi), ⟨_, _, sb.extBut _ _ D.TOz a2⟩, a3.it.at fun o e => sb.extBut _ o D.i1z e, a4.it.at fun o e => sb.extBut _ o D.i2z e⟩, fun b hb => ?_⟩
    have hfb := (hf b hb).1
    have : b ≠ s.heap.objs.size := by
      obtain ⟨o, e⟩ : ∃ o, s.heap.get? b = some o := by
        simp only [List.mem_cons, List.not_mem_nil, or_false] at hb
        rcases hb with e | e | e | e | e <;> subst e
        · exact ⟨_, zz⟩
        · exact ⟨_, zi⟩
        · exact ⟨_, zo⟩
        · obtain ⟨o, e, _⟩ := j1.obj; exact ⟨o, e⟩
        · obtain ⟨o, e, _⟩ := j2.obj; exact ⟨o, e⟩
      exact Nat.ne_of_lt (Heap.lt_size e)
    rw [upd_ne this]; exact hfb
  · intro X e1 e2 e3 hc i pins s σ H E I hf st hg
    subst e1 e2 e3
    obtain ⟨zz, zi, ⟨a, c, zo⟩, j1, j2⟩ := st
    obtain ⟨xs, ys, hx, hy, hend⟩ := hg
    obtain ⟨its, rv, p⟩ := j1.sit I hx
    obtain ⟨its2, rv2, p2⟩ := j2.sit I hy
    have hl := rv.length
    have hl2 := rv2.length
    refine nextG_end (I.ok.hd hc) D zz zi zo p p2 ?_ fun h' hk => ⟨rfl, I.turnedM (t' := s.toks) (ch := [z, TI, TO, i1, i2]) hf (fun b o hb e => by
      simp only [List.mem_cons, List.not_mem_nil, or_false, not_or] at hb
      exact hk b o hb.1 hb.2.2.1 hb.2.2.2.1 hb.2.2.2.2 e)⟩
    rcases hend with h | h
    · exact .inl (by simp; omega)
    · exact .inr (by simp; omega)
def uZipG (K : PySem.W.Frag) : List V → Hp → (It → Hp → Prop) → Prop := fun vs H R => match vs with
  | [.ref a, .ref b] => ∃ t1 t2 xs ys, sqB K H t1 a xs ∧ sqB K H t2 b ys ∧ R (ItG K t1 t2 a b) H
  | _ => False
theorem pj_zipG {X : Cx} {elts : List Expr} {k0 : Nat} {a b : Expr} {p pos tp : Pos} {ta : TA} (hg : Gl X "zip") (hm : X.mg "zip" = none) (ha : PA X [a, b] ta) (hs : starEach [a, b] X.env = [(false, eval a X.env), (false, eval b X.env)] := by rfl) (hs2 : starEach [b] X.env = [(false, eval b X.env)] := by rfl) :
    PI X (.Tuple elts k0 tp) (.Call (.Name "zip" p) [a, b] [] pos) (jArgs (uZipG X.K) ta) := by
  intro pins s σ H R I h
  refine Call_ (ld_blt I hg hm boot_zip (PyProof.Rows.callWith_type1 (thn (ha pos pins s σ H _ I h) fun us s1 ⟨vs, H1, I1, r1, q1⟩ => ?_) (by rw [hs, hs2]) (by rw [hs2]; rfl)))
  unfold uZipG at q1
  dsimp only at q1
  split at q1
  · rename_i l1 l2
    obtain ⟨t1, t2, xs, ys, hx, hy, q⟩ := q1
    cases r1 with
    | cons r rr =>
      cases rr with
      | cons r' rr =>
        cases rr
        cases r
        cases r'
        obtain ⟨its, rv, p1⟩ := I1.sqh hx
        obtain ⟨its2, rv2, p2⟩ := I1.sqh hy
        refine callG_zip p1 p2 fun h' a1 a2 a3 a4 a5 hk => wpAny_pyIter_zip a1 ?_
        have I2 : Inv X pins σ H1 { s1 with heap := h' } := I1.kept (t' := s1.toks) hk
        refine ⟨s1.heap.objs.size + 4, _, _, _, H1, rfl, I2, turn_zipG (zip_apart s1.heap.objs.size l1 l2 p1.lt p2.lt), ⟨a1, a2, ⟨_, _, a3⟩, a4.it, a5.it⟩, fun b hb => ?_, q⟩
        have hb' : s1.heap.objs.size ≤ b := by
          simp only [List.mem_cons, List.not_mem_nil, or_false] at hb
          rcases hb with e | e | e | e | e <;> subst e <;> first | exact Nat.le_add_right _ _ | exact Nat.le_refl _
        exact I1.fpOk hb' (I1.hok.fresh hb')
  · exact q1.elim
/-! over values -/
def seqU (A : AHp) : U → List U → Prop := fun u us => match u with
  | .tup xs => xs = us
  | .rol xs => xs = us
  | .ref a => A a = some (.lst us)
  | _ => False
def jZipG (x y : U) : AIt := fun i A r => ∃ us ws, seqU A x us ∧ seqU A y ws ∧ r = (zpU us ws)[i]?
def yZipG : List U → AHp → (AIt → AHp → Prop) → Prop := fun us A R => match us with
  | [x, y] => (∃ us ws, seqU A x us ∧ seqU A y ws) ∧ R (jZipG x y) A
  | _ => False
/-- what is read by a value stays as long as it stays -/
theorem seqU_ref {K : PySem.W.Frag} {H : Hp} {A : AHp} {x : U} {v : V} {us : List U} (r : RU K H x v) (g : HR K H A) (h : seqU A x us) : ∃ a t, v = .ref a ∧ ∀ (H2 : Hp) (A2 : AHp) (us2 : List U), Kp K H H2 → HR K H2 A2 → seqU A2 x us2 → ∃ vs, sqB K H2 t a vs ∧ RUs K H2 us2 vs := by
  cases r with
  | tup h1 r1 =>
    refine ⟨_, true, rfl, fun H2 A2 us2 k g2 e => ?_⟩
    cases (show _ = us2 from e)
    exact ⟨_, k.t _ _ h1, r1.same k⟩
  | rol h1 r1 =>
    refine ⟨_, false, rfl, fun H2 A2 us2 k g2 e => ?_⟩
    cases (show _ = us2 from e)
    exact ⟨_, (k.r _ _ h1).sq, r1.same k⟩
  | ref a =>
    refine ⟨_, false, rfl, fun H2 A2 us2 k g2 e => ?_⟩
    obtain ⟨vs, q1, q2⟩ := g2.list e
    exact ⟨vs, SqL.of q1, q2⟩
  | _ => exact h.elim
theorem ab_yzipG {K : PySem.W.Frag} : AbYs K (uZipG K) yZipG := fun x v A H R' R r g w k => by
  unfold yZipG at w
  split at w
  · rename_i x y
    obtain ⟨⟨us, ws, h1, h2⟩, w⟩ := w
    obtain ⟨v1, v2, rfl, r1, r2⟩ := r.inv2
    obtain ⟨a, t1, rfl, f1⟩ := seqU_ref r1 g h1
    obtain ⟨b, t2, rfl, f2⟩ := seqU_ref r2 g h2
    obtain ⟨vs, q1, _⟩ := f1 H A us (.refl H) g h1
    obtain ⟨zs, q2, _⟩ := f2 H A ws (.refl H) g h2
    refine ⟨t1, t2, vs, zs, q1, q2, k _ _ _ _ (.refl H) g (fun i A1 H1 r k1 g1 ⟨us, ws, h1, h2, e⟩ => ?_) w⟩
    obtain ⟨vs, p1, r1⟩ := f1 H1 A1 us k1 g1 h1
    obtain ⟨zs, p2, r2⟩ := f2 H1 A1 ws k1 g1 h2
    rw [zpU_get] at e
    subst e
    cases hu : us[i]? with
    | none => exact ⟨vs, zs, p1, p2, .inl (by rw [← r1.length]; exact List.getElem?_eq_none_iff.mp hu)⟩
    | some u =>
      cases hw : ws[i]? with
      | none => exact ⟨vs, zs, p1, p2, .inr (by rw [← r2.length]; exact List.getElem?_eq_none_iff.mp hw)⟩
      | some w =>
        obtain ⟨v, hv, rv⟩ := r1.get' hu
        obtain ⟨z, hz, rz⟩ := r2.get' hw
        refine ⟨⟨vs, zs, v, z, p1, p2, hv, hz⟩, ?_⟩
        rintro x H' ⟨T, x0, y0, rfl, hT, rfl, hx, hy⟩
        have e1 := hx vs p1
        have e2 := hy zs p2
        rw [hv] at e1; cases e1
        rw [hz] at e2; cases e2
        have s := Same.upd_new (o := .tup [v, z]) hT
        exact ⟨s.kp, g1.grow s, .tup (SqT.of upd_same) (.cons (rv.same s.kp) (.one (rz.same s.kp)))⟩
  · exact w.elim
theorem q_yzg {x y : U} {A : AHp} {R : AIt → AHp → Prop} : (yZipG [x, y] A R) = ((∃ us ws, seqU A x us ∧ seqU A y ws) ∧ R (jZipG x y) A) := rfl
theorem zpU_len : ∀ (us ws : List U), (zpU us ws).length = min us.length ws.length
  | [], ws => by simp [zpU]
  | _ :: _, [] => by simp [zpU]
  | u :: us, w :: ws => by simp only [zpU, List.length_cons, zpU_len us ws]; omega
end L2

set_option Elab.async false
set_option linter.all false
set_option maxRecDepth 100000
set_option maxHeartbeats 4000000
/-! sizes and keys as values -/
namespace L2
open PySem PySem.Spec PyProof.Rows
mutual
def Wr.keyU : Wr → U
  | .nothing => .tup [.int 0, .int 0]
  | .bead c => .tup [.int 1, .int 1, .str c]
  | .side b f => .tup [.int f.size, .int (Wr.side b f).kidx, f.keyU]
  | .pair f g => .tup [.int (Wr.pair f g).size, .int 4, f.keyU, g.keyU]
  | .many k ps => .tup (.int (sizeL ps) :: .int (Wr.many k ps).kidx :: keyUL ps)
def keyUL : List Wr → List U
  | [] => []
  | w :: ws => w.keyU :: keyUL ws
end
theorem keyUL_map : ∀ ws : List Wr, keyUL ws = ws.map Wr.keyU
  | [] => rfl
  | w :: ws => by rw [keyUL, List.map_cons, keyUL_map ws]
theorem Wr.keyU_parts (w : Wr) (h : ∀ c, w ≠ .bead c) : w.keyU = .tup (.int w.size :: .int w.kidx :: w.parts.map Wr.keyU) := by
  cases w with
  | bead c => exact absurd rfl (h c)
  | nothing => rfl
  | side b f => rfl
  | pair f g => rfl
  | many k ps => simp only [Wr.keyU, Wr.parts, keyUL_map]; rfl
theorem Wr.keyU_head (w : Wr) : ∃ rest, w.keyU = .tup (.int w.size :: rest) := by
  rcases bead_or w with ⟨c, rfl⟩ | h
  · exact ⟨_, rfl⟩
  · exact ⟨_, w.keyU_parts h⟩
theorem sum_sizes (ws : List Wr) : (ws.map fun w => ((w.size : Nat) : Int)).sum = sizeL ws := by
  induction ws with
  | nil => rfl
  | cons w ws ih => rw [List.map_cons, List.sum_cons, ih, sizeL]; push_cast; rfl
/-! data of whole numbers, texts and tuples -/
mutual
def U.pl : U → Bool
  | .int _ => true
  | .str _ => true
  | .tup us => decide (us.length ≤ 1000) && plL us
  | _ => false
def plL : List U → Bool
  | [] => true
  | u :: us => u.pl && plL us
end
mutual
def U.dp : U → Nat
  | .tup us => 1 + dpL us
  | _ => 0
def dpL : List U → Nat
  | [] => 0
  | u :: us => max u.dp (dpL us)
end
theorem plL_mem : ∀ {us : List U} {u : U}, plL us = true → u ∈ us → u.pl = true
  | v :: us, u, h0, h => by
    simp only [plL, Bool.and_eq_true] at h0
    rcases List.mem_cons.mp h with rfl | h
    · exact h0.1
    · exact plL_mem h0.2 h
theorem dpL_mem : ∀ {us : List U} {u : U}, u ∈ us → u.dp ≤ dpL us
  | v :: us, u, h => by
    simp only [dpL]
    rcases List.mem_cons.mp h with rfl | h
    · omega
    · have := dpL_mem h; omega
mutual
theorem Wr.key_pl : ∀ w : Wr, w.tups ≤ 900 → w.keyU.pl = true
  | .nothing, _ => by decide
  | .bead c, _ => by simp [Wr.keyU, U.pl, plL]
  | .side b f, h => by simp only [Wr.tups] at h; simp [Wr.keyU, U.pl, plL, f.key_pl (by omega)]
  | .pair f g, h => by simp only [Wr.tups] at h; simp [Wr.keyU, U.pl, plL, f.key_pl (by omega), g.key_pl (by omega)]
  | .many k ps, h => by
    simp only [Wr.tups] at h
    have := len_tups ps
    have h1 : (U.int (sizeL ps) :: U.int (Wr.many k ps).kidx :: keyUL ps).length ≤ 1000 := by simp only [List.length_cons, keyUL_map, List.length_map]; omega
    have h2 := keyL_pl ps (by omega)
    simp only [Wr.keyU, U.pl, plL, h2, Bool.and_true, decide_eq_true h1]
theorem keyL_pl : ∀ ws : List Wr, tupsL ws ≤ 900 → plL (keyUL ws) = true
  | [], _ => rfl
  | w :: ws, h => by simp only [tupsL] at h; simp [keyUL, plL, w.key_pl (by omega), keyL_pl ws (by omega)]
end
mutual
theorem Wr.key_dp : ∀ w : Wr, w.keyU.dp ≤ w.dep
  | .nothing => by simp [Wr.keyU, U.dp, dpL, Wr.dep]
  | .bead c => by simp [Wr.keyU, U.dp, dpL, Wr.dep]
  | .side b f => by have := f.key_dp; simp [Wr.keyU, U.dp, dpL, Wr.dep]; omega
  | .pair f g => by have := f.key_dp; have := g.key_dp; simp [Wr.keyU, U.dp, dpL, Wr.dep]; omega
  | .many k ps => by have := keyL_dp ps; simp [Wr.keyU, U.dp, dpL, Wr.dep]; omega
theorem keyL_dp : ∀ ws : List Wr, dpL (keyUL ws) ≤ depL ws
  | [] => Nat.le_refl _
  | w :: ws => by have := w.key_dp; have := keyL_dp ws; simp only [keyUL, dpL, depL]; omega
end
/-! data for == -/
section
variable {A : AHp}
mutual
theorem Wr.duW : ∀ w : Wr, DU A w.toU w.toD
  | .nothing => .tup (.cons (.str _) .nil)
  | .bead c => .tup (.cons (.str _) (.cons (.str _) .nil))
  | .side b f => .tup (.cons (.str _) (.cons f.duW .nil))
  | .pair f g => .tup (.cons (.str _) (.cons f.duW (.cons g.duW .nil)))
  | .many k ps => .tup (.cons (.str _) (.cons (.tup (duWL ps)) .nil))
theorem duWL : ∀ ws : List Wr, DUs A (toUL ws) (toDL ws)
  | [] => .nil
  | w :: ws => .cons w.duW (duWL ws)
end
mutual
theorem Wr.duK : ∀ w : Wr, DU A w.keyU w.keyD
  | .nothing => .tup (.cons (.int _) (.cons (.int _) .nil))
  | .bead c => .tup (.cons (.int _) (.cons (.int _) (.cons (.str _) .nil)))
  | .side b f => .tup (.cons (.int _) (.cons (.int _) (.cons f.duK .nil)))
  | .pair f g => .tup (.cons (.int _) (.cons (.int _) (.cons f.duK (.cons g.duK .nil))))
  | .many k ps => .tup (.cons (.int _) (.cons (.int _) (duKL ps)))
theorem duKL : ∀ ws : List Wr, DUs A (keyUL ws) (keyDL ws)
  | [] => .nil
  | w :: ws => .cons w.duK (duKL ws)
end
end
mutual
theorem Wr.canK : ∀ w : Wr, w.ok = true → w.keyD.canLay0 = true
  | .nothing, _ => by simp only [Wr.keyD, PyData.canLay0, PyData.canLayAll0]; decide
  | .bead c, h => by simp only [Wr.keyD, PyData.canLay0, PyData.canLayAll0, Bool.and_true, Bool.true_and]; simpa [Wr.ok] using h
  | .side b f, h => by simp only [Wr.ok] at h; simp only [Wr.keyD, PyData.canLay0, PyData.canLayAll0, Bool.and_true, Bool.true_and, f.canK h]
  | .pair f g, h => by
    simp only [Wr.ok, Bool.and_eq_true] at h
    simp only [Wr.keyD, PyData.canLay0, PyData.canLayAll0, Bool.and_true, Bool.true_and, f.canK h.1, g.canK h.2]
  | .many k ps, h => by simp only [Wr.ok] at h; simp only [Wr.keyD, PyData.canLay0, PyData.canLayAll0, Bool.and_true, Bool.true_and, canKL ps h]
theorem canKL : ∀ ws : List Wr, okL ws = true → PyData.canLayAll0 (keyDL ws) = true
  | [], _ => by simp only [keyDL, PyData.canLayAll0]
  | w :: ws, h => by simp only [okL, Bool.and_eq_true] at h; simp only [keyDL, PyData.canLayAll0, w.canK h.1, canKL ws h.2, Bool.and_true]
end
mutual
theorem Wr.deepK : ∀ w : Wr, w.keyD.depth ≤ w.dep + 1
  | .nothing => by simp [Wr.keyD, PyData.depth, PyData.depthAll, Wr.dep]
  | .bead c => by simp [Wr.keyD, PyData.depth, PyData.depthAll, Wr.dep]
  | .side b f => by have := f.deepK; simp only [Wr.keyD, PyData.depth, PyData.depthAll, Wr.dep]; omega
  | .pair f g => by have := f.deepK; have := g.deepK; simp only [Wr.keyD, PyData.depth, PyData.depthAll, Wr.dep]; omega
  | .many k ps => by have := deepKL ps; simp only [Wr.keyD, PyData.depth, PyData.depthAll, Wr.dep]; omega
theorem deepKL : ∀ ws : List Wr, PyData.depthAll (keyDL ws) ≤ depL ws + 1
  | [] => by simp [keyDL, PyData.depthAll]
  | w :: ws => by have := w.deepK; have := deepKL ws; simp only [keyDL, PyData.depthAll, depL]; omega
end
/-! alike by kinds, colours and parts -/
mutual
def Wr.like : Wr → Wr → Bool
  | .nothing, .nothing => true
  | .bead c, .bead d => c == d
  | .side b f, .side b' f' => b == b' && f.like f'
  | .pair f g, .pair f' g' => f.like f' && g.like g'
  | .many k ps, .many k' ps' => (mname k == mname k') && likeL ps ps'
  | _, _ => false
def likeL : List Wr → List Wr → Bool
  | [], [] => true
  | w :: ws, v :: vs => w.like v && likeL ws vs
  | _, _ => false
end
mutual
theorem Wr.like_size : ∀ w v : Wr, w.like v = true → w.size = v.size
  | .nothing, .nothing, _ => rfl
  | .bead c, .bead d, _ => rfl
  | .side b f, .side b' f', h => by simp only [Wr.like, Bool.and_eq_true] at h; simp only [Wr.size]; exact f.like_size f' h.2
  | .pair f g, .pair f' g', h => by simp only [Wr.like, Bool.and_eq_true] at h; simp only [Wr.size]; rw [f.like_size f' h.1, g.like_size g' h.2]
  | .many k ps, .many k' ps', h => by simp only [Wr.like, Bool.and_eq_true] at h; simp only [Wr.size]; exact likeL_size ps ps' h.2
theorem likeL_size : ∀ ws vs : List Wr, likeL ws vs = true → sizeL ws = sizeL vs
  | [], [], _ => rfl
  | w :: ws, v :: vs, h => by simp only [likeL, Bool.and_eq_true] at h; simp only [sizeL]; rw [w.like_size v h.1, likeL_size ws vs h.2]
end
def mcode : Nat → Nat
  | 0 => 5
  | 1 => 6
  | 2 => 7
  | _ => 8
theorem mname_code (k k' : Nat) : (mname k == mname k') = (mcode k == mcode k') := by
  match k, k' with
  | 0, 0 => decide +kernel
  | 0, 1 => decide +kernel
  | 0, 2 => decide +kernel
  | 0, k' + 3 => show ((Str.ofString "row") == (Str.ofString "ring")) = (5 == 8); decide +kernel
  | 1, 0 => decide +kernel
  | 1, 1 => decide +kernel
  | 1, 2 => decide +kernel
  | 1, k' + 3 => show ((Str.ofString "bag") == (Str.ofString "ring")) = (6 == 8); decide +kernel
  | 2, 0 => decide +kernel
  | 2, 1 => decide +kernel
  | 2, 2 => decide +kernel
  | 2, k' + 3 => show ((Str.ofString "choice") == (Str.ofString "ring")) = (7 == 8); decide +kernel
  | k + 3, 0 => show ((Str.ofString "ring") == (Str.ofString "row")) = (8 == 5); decide +kernel
  | k + 3, 1 => show ((Str.ofString "ring") == (Str.ofString "bag")) = (8 == 6); decide +kernel
  | k + 3, 2 => show ((Str.ofString "ring") == (Str.ofString "choice")) = (8 == 7); decide +kernel
  | k + 3, k' + 3 => show ((Str.ofString "ring") == (Str.ofString "ring")) = (8 == 8); decide +kernel
theorem kidx_many (k : Nat) (ps : List Wr) : (Wr.many k ps).kidx = mcode k := by
  match k with
  | 0 => rfl
  | 1 => rfl
  | 2 => rfl
  | k + 3 => rfl
theorem name_eq (w v : Wr) : (w.name == v.name) = (w.kidx == v.kidx) := by
  have e1 := w.kidx_at
  have e2 := v.kidx_at
  by_cases h : w.kidx = v.kidx
  · have := e1.1
    rw [h, e2.1] at this
    rw [Option.some.inj this, h]
    simp
  · have : w.name ≠ v.name := fun e => by
      rcases Nat.lt_or_gt_of_ne h with q | q
      · exact e2.2 _ q (by rw [e1.1, e])
      · exact e1.2 _ q (by rw [e2.1, e])
    rw [beq_eq_false_iff_ne.mpr this, beq_eq_false_iff_ne.mpr h]
theorem str_beq (x y : Str) : PyData.eqv (.str x) (.str y) = (x == y) := by simp only [PyData.eqv]
theorem sname_eq (b b' : Bool) : (sname b == sname b') = (b == b') := by cases b <;> cases b' <;> decide +kernel
theorem eqv_tup (xs ys : List PyData) : PyData.eqv (.tuple xs) (.tuple ys) = PyData.eqvAll xs ys := by simp only [PyData.eqv]
theorem eqvA_cons (x y : PyData) (xs ys : List PyData) : PyData.eqvAll (x :: xs) (y :: ys) = (PyData.eqv x y && PyData.eqvAll xs ys) := by simp only [PyData.eqvAll]
theorem eqvA_nil : PyData.eqvAll [] [] = true := by simp only [PyData.eqvAll]
theorem eqvA_l (x : PyData) (xs : List PyData) : PyData.eqvAll (x :: xs) [] = false := by simp only [PyData.eqvAll]
theorem eqvA_r (x : PyData) (xs : List PyData) : PyData.eqvAll [] (x :: xs) = false := by simp only [PyData.eqvAll]
theorem str_toD (c : Str) (w : Wr) : PyData.eqv (.str c) w.toD = false := by cases w <;> simp [Wr.toD, PyData.eqv]
theorem toD_str (c : Str) (w : Wr) : PyData.eqv w.toD (.str c) = false := by cases w <;> simp [Wr.toD, PyData.eqv]
theorem str_tup (c : Str) (xs : List PyData) : PyData.eqv (.str c) (.tuple xs) = false := by simp [PyData.eqv]
theorem tup_str (c : Str) (xs : List PyData) : PyData.eqv (.tuple xs) (.str c) = false := by simp [PyData.eqv]
theorem sm_ne (b : Bool) (k : Nat) : (sname b == mname k) = false := by
  have := name_eq (.side b .nothing) (.many k [])
  rw [kidx_many] at this
  rw [show (sname b == mname k) = _ from this]
  match k with
  | 0 => cases b <;> rfl
  | 1 => cases b <;> rfl
  | 2 => cases b <;> rfl
  | k + 3 => cases b <;> rfl
theorem ms_ne (b : Bool) (k : Nat) : (mname k == sname b) = false := by
  have := name_eq (.many k []) (.side b .nothing)
  rw [kidx_many] at this
  rw [show (mname k == sname b) = _ from this]
  match k with
  | 0 => cases b <;> rfl
  | 1 => cases b <;> rfl
  | 2 => cases b <;> rfl
  | k + 3 => cases b <;> rfl
mutual
theorem Wr.eqvD : ∀ w v : Wr, PyData.eqv w.toD v.toD = w.like v
  | .nothing, .nothing => by simp only [Wr.toD, eqv_tup, eqvA_cons, eqvA_nil, eqvA_l, eqvA_r, Wr.like, str_beq, str_toD, toD_str, str_tup, tup_str, Bool.and_false, Bool.false_and, Bool.and_true, beq_self_eq_true, Bool.true_and]
  | .nothing, .bead c' => by simp only [Wr.toD, eqv_tup, eqvA_cons, eqvA_nil, eqvA_l, eqvA_r, Wr.like, str_beq, str_toD, toD_str, str_tup, tup_str, Bool.and_false, Bool.false_and, Bool.and_true, beq_self_eq_true, Bool.true_and]
  | .nothing, .side b' f' => by simp only [Wr.toD, eqv_tup, eqvA_cons, eqvA_nil, eqvA_l, eqvA_r, Wr.like, str_beq, str_toD, toD_str, str_tup, tup_str, Bool.and_false, Bool.false_and, Bool.and_true, beq_self_eq_true, Bool.true_and]
  | .nothing, .pair f' g' => by simp only [Wr.toD, eqv_tup, eqvA_cons, eqvA_nil, eqvA_l, eqvA_r, Wr.like, str_beq, str_toD, toD_str, str_tup, tup_str, Bool.and_false, Bool.false_and, Bool.and_true, beq_self_eq_true, Bool.true_and]
  | .nothing, .many k' ps' => by simp only [Wr.toD, eqv_tup, eqvA_cons, eqvA_nil, eqvA_l, eqvA_r, Wr.like, str_beq, str_toD, toD_str, str_tup, tup_str, Bool.and_false, Bool.false_and, Bool.and_true, beq_self_eq_true, Bool.true_and]
  | .bead c, .nothing => by simp only [Wr.toD, eqv_tup, eqvA_cons, eqvA_nil, eqvA_l, eqvA_r, Wr.like, str_beq, str_toD, toD_str, str_tup, tup_str, Bool.and_false, Bool.false_and, Bool.and_true, beq_self_eq_true, Bool.true_and]
  | .bead c, .bead c' => by simp only [Wr.toD, eqv_tup, eqvA_cons, eqvA_nil, eqvA_l, eqvA_r, Wr.like, str_beq, str_toD, toD_str, str_tup, tup_str, Bool.and_false, Bool.false_and, Bool.and_true, beq_self_eq_true, Bool.true_and]
  | .bead c, .side b' f' => by simp only [Wr.toD, eqv_tup, eqvA_cons, eqvA_nil, eqvA_l, eqvA_r, Wr.like, str_beq, str_toD, toD_str, str_tup, tup_str, Bool.and_false, Bool.false_and, Bool.and_true, beq_self_eq_true, Bool.true_and]
  | .bead c, .pair f' g' => by simp only [Wr.toD, eqv_tup, eqvA_cons, eqvA_nil, eqvA_l, eqvA_r, Wr.like, str_beq, str_toD, toD_str, str_tup, tup_str, Bool.and_false, Bool.false_and, Bool.and_true, beq_self_eq_true, Bool.true_and]
  | .bead c, .many k' ps' => by simp only [Wr.toD, eqv_tup, eqvA_cons, eqvA_nil, eqvA_l, eqvA_r, Wr.like, str_beq, str_toD, toD_str, str_tup, tup_str, Bool.and_false, Bool.false_and, Bool.and_true, beq_self_eq_true, Bool.true_and]
  | .side b f, .nothing => by simp only [Wr.toD, eqv_tup, eqvA_cons, eqvA_nil, eqvA_l, eqvA_r, Wr.like, str_beq, str_toD, toD_str, str_tup, tup_str, Bool.and_false, Bool.false_and, Bool.and_true, beq_self_eq_true, Bool.true_and]
  | .side b f, .bead c' => by simp only [Wr.toD, eqv_tup, eqvA_cons, eqvA_nil, eqvA_l, eqvA_r, Wr.like, str_beq, str_toD, toD_str, str_tup, tup_str, Bool.and_false, Bool.false_and, Bool.and_true, beq_self_eq_true, Bool.true_and]
  | .side b f, .side b' f' => by simp only [Wr.toD, eqv_tup, eqvA_cons, eqvA_nil, eqvA_l, eqvA_r, Wr.like, str_beq, str_toD, toD_str, str_tup, tup_str, Bool.and_false, Bool.false_and, Bool.and_true, beq_self_eq_true, Bool.true_and, sname_eq, f.eqvD f']
  | .side b f, .pair f' g' => by simp only [Wr.toD, eqv_tup, eqvA_cons, eqvA_nil, eqvA_l, eqvA_r, Wr.like, str_beq, str_toD, toD_str, str_tup, tup_str, Bool.and_false, Bool.false_and, Bool.and_true, beq_self_eq_true, Bool.true_and]
  | .side b f, .many k' ps' => by simp only [Wr.toD, eqv_tup, eqvA_cons, eqvA_nil, eqvA_l, eqvA_r, Wr.like, str_beq, str_toD, toD_str, str_tup, tup_str, Bool.and_false, Bool.false_and, Bool.and_true, beq_self_eq_true, Bool.true_and, sm_ne]
  | .pair f g, .nothing => by simp only [Wr.toD, eqv_tup, eqvA_cons, eqvA_nil, eqvA_l, eqvA_r, Wr.like, str_beq, str_toD, toD_str, str_tup, tup_str, Bool.and_false, Bool.false_and, Bool.and_true, beq_self_eq_true, Bool.true_and]
  | .pair f g, .bead c' => by simp only [Wr.toD, eqv_tup, eqvA_cons, eqvA_nil, eqvA_l, eqvA_r, Wr.like, str_beq, str_toD, toD_str, str_tup, tup_str, Bool.and_false, Bool.false_and, Bool.and_true, beq_self_eq_true, Bool.true_and]
  | .pair f g, .side b' f' => by simp only [Wr.toD, eqv_tup, eqvA_cons, eqvA_nil, eqvA_l, eqvA_r, Wr.like, str_beq, str_toD, toD_str, str_tup, tup_str, Bool.and_false, Bool.false_and, Bool.and_true, beq_self_eq_true, Bool.true_and]
  | .pair f g, .pair f' g' => by simp only [Wr.toD, eqv_tup, eqvA_cons, eqvA_nil, eqvA_l, eqvA_r, Wr.like, str_beq, str_toD, toD_str, str_tup, tup_str, Bool.and_false, Bool.false_and, Bool.and_true, beq_self_eq_true, Bool.true_and, f.eqvD f', g.eqvD g']
  | .pair f g, .many k' ps' => by simp only [Wr.toD, eqv_tup, eqvA_cons, eqvA_nil, eqvA_l, eqvA_r, Wr.like, str_beq, str_toD, toD_str, str_tup, tup_str, Bool.and_false, Bool.false_and, Bool.and_true, beq_self_eq_true, Bool.true_and]
  | .many k ps, .nothing => by simp only [Wr.toD, eqv_tup, eqvA_cons, eqvA_nil, eqvA_l, eqvA_r, Wr.like, str_beq, str_toD, toD_str, str_tup, tup_str, Bool.and_false, Bool.false_and, Bool.and_true, beq_self_eq_true, Bool.true_and]
  | .many k ps, .bead c' => by simp only [Wr.toD, eqv_tup, eqvA_cons, eqvA_nil, eqvA_l, eqvA_r, Wr.like, str_beq, str_toD, toD_str, str_tup, tup_str, Bool.and_false, Bool.false_and, Bool.and_true, beq_self_eq_true, Bool.true_and]
  | .many k ps, .side b' f' => by simp only [Wr.toD, eqv_tup, eqvA_cons, eqvA_nil, eqvA_l, eqvA_r, Wr.like, str_beq, str_toD, toD_str, str_tup, tup_str, Bool.and_false, Bool.false_and, Bool.and_true, beq_self_eq_true, Bool.true_and, ms_ne]
  | .many k ps, .pair f' g' => by simp only [Wr.toD, eqv_tup, eqvA_cons, eqvA_nil, eqvA_l, eqvA_r, Wr.like, str_beq, str_toD, toD_str, str_tup, tup_str, Bool.and_false, Bool.false_and, Bool.and_true, beq_self_eq_true, Bool.true_and]
  | .many k ps, .many k' ps' => by simp only [Wr.toD, eqv_tup, eqvA_cons, eqvA_nil, eqvA_l, eqvA_r, Wr.like, str_beq, str_toD, toD_str, str_tup, tup_str, Bool.and_false, Bool.false_and, Bool.and_true, beq_self_eq_true, Bool.true_and, eqvDL ps ps']
theorem eqvDL : ∀ ws vs : List Wr, PyData.eqvAll (toDL ws) (toDL vs) = likeL ws vs
  | [], [] => by simp only [toDL, eqvA_nil, likeL]
  | [], _ :: _ => by simp only [toDL, eqvA_r, likeL]
  | _ :: _, [] => by simp only [toDL, eqvA_l, likeL]
  | w :: ws, v :: vs => by simp only [toDL, eqvA_cons, likeL, w.eqvD v, eqvDL ws vs]
end
theorem int_beq (x y : Int) : PyData.eqv (.int x) (.int y) = (x == y) := by simp only [PyData.eqv]
theorem ki (i j : Nat) : (((i : Nat) : Int) == ((j : Nat) : Int)) = (i == j) := by
  by_cases h : i = j
  · subst h; simp
  · rw [beq_eq_false_iff_ne.mpr h, beq_eq_false_iff_ne.mpr (by omega)]
theorem kne {w v : Wr} (h : w.kidx ≠ v.kidx) (l : w.like v = false) (hw : ∃ r, w.keyD = .tuple (.int w.size :: .int w.kidx :: r)) (hv : ∃ r, v.keyD = .tuple (.int v.size :: .int v.kidx :: r)) : PyData.eqv w.keyD v.keyD = w.like v := by
  obtain ⟨r, e⟩ := hw
  obtain ⟨r', e'⟩ := hv
  rw [e, e', eqv_tup, eqvA_cons, eqvA_cons, int_beq, int_beq, ki, ki, beq_eq_false_iff_ne.mpr h, Bool.false_and, Bool.and_false, l]
theorem Wr.keyD_h2 (w : Wr) : ∃ r, w.keyD = .tuple (.int w.size :: .int w.kidx :: r) := by
  rcases bead_or w with ⟨c, rfl⟩ | h
  · exact ⟨_, rfl⟩
  · exact ⟨_, w.keyD_parts h⟩
theorem mcode_ge (k : Nat) : 5 ≤ mcode k := by
  match k with
  | 0 => decide
  | 1 => decide
  | 2 => decide
  | k + 3 => show 5 ≤ 8; decide
mutual
theorem Wr.eqvK : ∀ w v : Wr, PyData.eqv w.keyD v.keyD = w.like v
  | .nothing, .nothing => by simp only [Wr.keyD, eqv_tup, eqvA_cons, eqvA_nil, int_beq, Wr.like, beq_self_eq_true, Bool.and_self]
  | .nothing, .bead c' => kne (by simp [Wr.kidx]) rfl (Wr.keyD_h2 _) (Wr.keyD_h2 _)
  | .nothing, .side b' f' => kne (by cases b' <;> simp [Wr.kidx]) rfl (Wr.keyD_h2 _) (Wr.keyD_h2 _)
  | .nothing, .pair f' g' => kne (by simp [Wr.kidx]) rfl (Wr.keyD_h2 _) (Wr.keyD_h2 _)
  | .nothing, .many k' ps' => kne (by rw [kidx_many]; have := mcode_ge k'; simp only [Wr.kidx]; omega) rfl (Wr.keyD_h2 _) (Wr.keyD_h2 _)
  | .bead c, .nothing => kne (by simp [Wr.kidx]) rfl (Wr.keyD_h2 _) (Wr.keyD_h2 _)
  | .bead c, .bead c' => by simp only [Wr.keyD, eqv_tup, eqvA_cons, eqvA_nil, int_beq, str_beq, Wr.like, beq_self_eq_true, Bool.and_true, Bool.true_and]
  | .bead c, .side b' f' => kne (by cases b' <;> simp [Wr.kidx]) rfl (Wr.keyD_h2 _) (Wr.keyD_h2 _)
  | .bead c, .pair f' g' => kne (by simp [Wr.kidx]) rfl (Wr.keyD_h2 _) (Wr.keyD_h2 _)
  | .bead c, .many k' ps' => kne (by rw [kidx_many]; have := mcode_ge k'; simp only [Wr.kidx]; omega) rfl (Wr.keyD_h2 _) (Wr.keyD_h2 _)
  | .side b f, .nothing => kne (by cases b <;> simp [Wr.kidx]) rfl (Wr.keyD_h2 _) (Wr.keyD_h2 _)
  | .side b f, .bead c' => kne (by cases b <;> simp [Wr.kidx]) rfl (Wr.keyD_h2 _) (Wr.keyD_h2 _)
  | .side b f, .side b' f' => by
    simp only [Wr.keyD, eqv_tup, eqvA_cons, eqvA_nil, int_beq, Wr.like, f.eqvK f', Bool.and_true, ki]
    cases h : f.like f' with
    | false => simp only [Bool.and_false]
    | true => rw [f.like_size f' h]; cases b <;> cases b' <;> simp [Wr.kidx]
  | .side b f, .pair f' g' => kne (by cases b <;> simp [Wr.kidx]) rfl (Wr.keyD_h2 _) (Wr.keyD_h2 _)
  | .side b f, .many k' ps' => kne (by rw [kidx_many]; have := mcode_ge k'; cases b <;> simp [Wr.kidx] <;> omega) rfl (Wr.keyD_h2 _) (Wr.keyD_h2 _)
  | .pair f g, .nothing => kne (by simp [Wr.kidx]) rfl (Wr.keyD_h2 _) (Wr.keyD_h2 _)
  | .pair f g, .bead c' => kne (by simp [Wr.kidx]) rfl (Wr.keyD_h2 _) (Wr.keyD_h2 _)
  | .pair f g, .side b' f' => kne (by cases b' <;> simp [Wr.kidx]) rfl (Wr.keyD_h2 _) (Wr.keyD_h2 _)
  | .pair f g, .pair f' g' => by
    simp only [Wr.keyD, eqv_tup, eqvA_cons, eqvA_nil, int_beq, Wr.like, f.eqvK f', g.eqvK g', Bool.and_true, beq_self_eq_true, Bool.true_and]
    cases h : f.like f' with
    | false => simp only [Bool.false_and, Bool.and_false]
    | true =>
      cases h2 : g.like g' with
      | false => simp only [Bool.and_false]
      | true => simp only [Wr.size]; rw [f.like_size f' h, g.like_size g' h2]; simp
  | .pair f g, .many k' ps' => kne (by rw [kidx_many]; have := mcode_ge k'; simp only [Wr.kidx]; omega) rfl (Wr.keyD_h2 _) (Wr.keyD_h2 _)
  | .many k ps, .nothing => kne (by rw [kidx_many]; have := mcode_ge k; simp only [Wr.kidx]; omega) rfl (Wr.keyD_h2 _) (Wr.keyD_h2 _)
  | .many k ps, .bead c' => kne (by rw [kidx_many]; have := mcode_ge k; simp only [Wr.kidx]; omega) rfl (Wr.keyD_h2 _) (Wr.keyD_h2 _)
  | .many k ps, .side b' f' => kne (by rw [kidx_many]; have := mcode_ge k; cases b' <;> simp [Wr.kidx] <;> omega) rfl (Wr.keyD_h2 _) (Wr.keyD_h2 _)
  | .many k ps, .pair f' g' => kne (by rw [kidx_many]; have := mcode_ge k; simp only [Wr.kidx]; omega) rfl (Wr.keyD_h2 _) (Wr.keyD_h2 _)
  | .many k ps, .many k' ps' => by
    simp only [Wr.keyD, eqv_tup, eqvA_cons, int_beq, Wr.like, kidx_many, eqvKL ps ps', mname_code, ki]
    cases h : likeL ps ps' with
    | false => simp only [Bool.and_false]
    | true => rw [likeL_size ps ps' h]; simp
theorem eqvKL : ∀ ws vs : List Wr, PyData.eqvAll (keyDL ws) (keyDL vs) = likeL ws vs
  | [], [] => by simp only [keyDL, eqvA_nil, likeL]
  | [], _ :: _ => by simp only [keyDL, eqvA_r, likeL]
  | _ :: _, [] => by simp only [keyDL, eqvA_l, likeL]
  | w :: ws, v :: vs => by simp only [keyDL, eqvA_cons, likeL, w.eqvK v, eqvKL ws vs]
end
end L2

set_option Elab.async false
set_option linter.all false
set_option maxRecDepth 100000
set_option maxHeartbeats 4000000
/-! walks over a list or a tuple, whichever it is -/
namespace L2
open PySem PySem.Spec PyProof.Rows
def uSeqI (K : PySem.W.Frag) : V → Hp → (It → Hp → Prop) → Prop := fun x H R => uList K x H R ∨ uTupI K x H R
section
variable {X : Cx} {tg a : Expr} {te : TE} {ta : TA} {p pos tp : Pos} {elts : List Expr} {k0 : Nat}
/-- a value that has come: its iterator -/
theorem pj_seq (hl : PE X a te) : PI X tg a (jOf (uSeqI X.K) te) := by
  intro pins s σ H R I h
  refine thn (hl pins s σ H _ I h) fun v s1 ⟨x, H1, I1, r1, q1⟩ => ?_
  have fp : ∀ b ∈ [s1.heap.objs.size], FpOk X pins H1 b := fun b hb => by
    obtain rfl : b = s1.heap.objs.size := by simpa using hb
    exact I1.fpOk (Nat.le_refl _) (I1.hok.fresh (Nat.le_refl _))
  have J1 : ∀ o, Inv X pins σ H1 { s1 with heap := s1.heap.push o } := fun o => I1.kept (t' := s1.toks) fun b u e => Heap.get?_push_of_some _ e
  cases x with
  | ref l =>
    cases r1
    rcases q1 with ⟨⟨xs, hq⟩, q⟩ | ⟨⟨xs, hq⟩, q⟩
    · obtain ⟨its, rv, pl, hz⟩ := I1.list hq
      exact wpAny_pyIter_list pl.isList ⟨s1.heap.objs.size, [s1.heap.objs.size], _, _, H1, rfl, J1 _, turn_list l _, ⟨_, Heap.get?_push_size _ rfl, rfl, rfl⟩, fp, q⟩
    · obtain ⟨its, rv, pl, hz⟩ := I1.tuple hq
      exact wpAny_pyIter_tuple (show s1.heap.IsTuple l its.toArray from pl) ⟨s1.heap.objs.size, [s1.heap.objs.size], _, _, H1, rfl, J1 _, turn_tuple l _, ⟨_, Heap.get?_push_size _ rfl, rfl, rfl⟩, fp, q⟩
  | _ => rcases q1 with q | q <;> exact q.elim
def uEnumS (K : PySem.W.Frag) : List V → Hp → (It → Hp → Prop) → Prop := fun vs H R => uEnum K vs H R ∨ uEnumT K vs H R
theorem pj_enumS (hg : Gl X "enumerate") (hm : X.mg "enumerate" = none) (ha : PA X [a] ta) (hs : starEach [a] X.env = [(false, eval a X.env)] := by rfl) :
    PI X (.Tuple elts k0 tp) (.Call (.Name "enumerate" p) [a] [] pos) (jArgs (uEnumS X.K) ta) := by
  intro pins s σ H R I h
  refine Call_ (ld_blt I hg hm boot_enumerate (PyProof.Rows.callWith_type1 (thn (ha pos pins s σ H _ I h) fun us s1 ⟨vs, H1, I1, r1, q1⟩ => ?_) hs rfl))
  have fp : ∀ b ∈ [s1.heap.objs.size + 1, s1.heap.objs.size], FpOk X pins H1 b := fun b hb => by
    have hb' : s1.heap.objs.size ≤ b := by
      simp only [List.mem_cons, List.not_mem_nil, or_false] at hb
      rcases hb with e | e <;> subst e <;> first | exact Nat.le_add_right _ _ | exact Nat.le_refl _
    exact I1.fpOk hb' (I1.hok.fresh hb')
  rcases q1 with q1 | q1
  · unfold uEnum at q1
    split at q1
    · obtain ⟨⟨xs, hx⟩, q⟩ := q1
      cases r1 with
      | cons r rr =>
        cases rr; cases r
        obtain ⟨its, rv, pl, _⟩ := I1.list hx
        exact call_enumerate_list pl.isList fun h' a1 a2 a3 hk => wpAny_pyIter_enum a1 ⟨s1.heap.objs.size + 1, _, _, _, H1, rfl, I1.kept (t' := s1.toks) hk, turn_enum (Nat.succ_ne_self _), ⟨⟨_, a1⟩, a2⟩, fp, q⟩
    · exact q1.elim
  · unfold uEnumT at q1
    split at q1
    · obtain ⟨⟨xs, hx⟩, q⟩ := q1
      cases r1 with
      | cons r rr =>
        cases rr; cases r
        obtain ⟨its, rv, pl, _⟩ := I1.tuple hx
        exact call_enum_tup pl fun h' a1 a2 hk => wpAny_pyIter_enum a1 ⟨s1.heap.objs.size + 1, _, _, _, H1, rfl, I1.kept (t' := s1.toks) hk, turn_enumT (Nat.succ_ne_self _), ⟨⟨_, a1⟩, a2⟩, fp, q⟩
    · exact q1.elim
end
section
variable {K : PySem.W.Frag}
def ySeq : U → AHp → (AIt → AHp → Prop) → Prop := fun u A R => match u with
  | .ref a => (∃ us, A a = some (.lst us)) ∧ R (jLst a) A
  | .rol us => R (jFix us) A
  | .tup us => R (jFix us) A
  | _ => False
theorem ab_yseq : AbY1 K (uSeqI K) ySeq := fun x v A H R' R r g w k => by
  cases r with
  | ref a => exact .inl (ab_ylist (.ref a) _ A H R' R (.ref a) g w k)
  | rol h1 r1 => exact .inl (ab_ylist _ _ A H R' R (.rol h1 r1) g w k)
  | tup h1 r1 => exact .inr (ab_ytup _ _ A H R' R (.tup h1 r1) g w k)
  | _ => exact w.elim
def yEnumS : List U → AHp → (AIt → AHp → Prop) → Prop := fun us A R => match us with
  | [.ref a] => (∃ us, A a = some (.lst us)) ∧ R (jEnum a) A
  | [.rol us] => R (jFix (enU us)) A
  | [.tup us] => R (jFix (enU us)) A
  | _ => False
theorem ab_yenumS : AbYs K (uEnumS K) yEnumS := fun x v A H R' R r g w k => by
  unfold yEnumS at w
  split at w
  · exact .inl (ab_yenum _ _ A H R' R r g w k)
  · exact .inl (ab_yenum _ _ A H R' R r g w k)
  · exact .inr (ab_yenumT _ _ A H R' R r g w k)
  · exact w.elim
variable {A : AHp} {R : AIt → AHp → Prop} {p : Addr} {us : List U}
theorem q_ysr : (ySeq (.ref p) A R) = ((∃ us, A p = some (.lst us)) ∧ R (jLst p) A) := rfl
theorem q_yso : (ySeq (.rol us) A R) = (R (jFix us) A) := rfl
theorem q_yst : (ySeq (.tup us) A R) = (R (jFix us) A) := rfl
theorem q_yesr : (yEnumS [.ref p] A R) = ((∃ us, A p = some (.lst us)) ∧ R (jEnum p) A) := rfl
theorem q_yeso : (yEnumS [.rol us] A R) = (R (jFix (enU us)) A) := rfl
theorem q_yest : (yEnumS [.tup us] A R) = (R (jFix (enU us)) A) := rfl
end
/-! xs.extend(list or tuple) -/
section
variable {X : Cx}
def rExtS (K : PySem.W.Frag) : V → List V → Hp → VK → Prop := fun x vs H Q => rExtend x vs H Q ∨ rExtT K x vs H Q
theorem mt_extS : MtM X "list.extend" (rExtS X.K) := fun pins s σ H x vs v us Q I rx rv h => by
  rcases h with h | h
  · exact mt_extend pins s σ H x vs v us Q I rx rv h
  · exact mt_extT pins s σ H x vs v us Q I rx rv h
variable {K : PySem.W.Frag}
def mExtS : U → List U → AHp → AVK → Prop := fun u us A Q => match u, us with
  | .ref a, [.tup ws] => ∃ xs, A a = some (.lst xs) ∧ xs.length + ws.length ≤ sizeLine ∧ Q .non (updA A a (.lst (xs ++ ws)))
  | .ref a, [.ref b] => ∃ xs ws, A a = some (.lst xs) ∧ A b = some (.lst ws) ∧ xs.length + ws.length ≤ sizeLine ∧ Q .non (updA A a (.lst (xs ++ ws)))
  | _, _ => False
theorem ab_mextS : AbMt K (rExtS K) mExtS := fun x u xs us A H Q' Q r rs g h k => by
  unfold mExtS at h
  split at h
  · exact .inr (ab_mextT _ _ _ _ A H Q' Q r rs g h k)
  · exact .inl (ab_mext _ _ _ _ A H Q' Q r rs g h k)
  · exact h.elim
theorem q_exSt {A : AHp} {Q : AVK} {p : Addr} {us : List U} : (mExtS (.ref p) [.tup us] A Q) = (∃ xs, A p = some (.lst xs) ∧ xs.length + us.length ≤ sizeLine ∧ Q .non (updA A p (.lst (xs ++ us)))) := rfl
theorem q_exSr {A : AHp} {Q : AVK} {p q : Addr} : (mExtS (.ref p) [.ref q] A Q) = (∃ xs ws, A p = some (.lst xs) ∧ A q = some (.lst ws) ∧ xs.length + ws.length ≤ sizeLine ∧ Q .non (updA A p (.lst (xs ++ ws)))) := rfl
end
/-! slices of lists by a map -/
def cutL {α : Type} (xs : List α) (lo hi : Option Int) : List α := (xs.drop (HT.sIx xs.length 0 lo)).take (HT.sIx xs.length xs.length hi - HT.sIx xs.length 0 lo)
theorem cutU_map {α : Type} (f : α → U) (xs : List α) (lo hi : Option Int) : cutU (xs.map f) lo hi = (cutL xs lo hi).map f := by
  unfold cutU cutL
  rw [List.length_map, List.map_take, List.map_drop]
theorem cutL_len {α : Type} (xs : List α) (lo hi : Option Int) : (cutL xs lo hi).length ≤ xs.length := by
  unfold cutL
  rw [List.length_take, List.length_drop]
  omega
theorem cutL_mem {α : Type} {xs : List α} {lo hi : Option Int} {x : α} (h : x ∈ cutL xs lo hi) : x ∈ xs := List.mem_of_mem_drop (List.mem_of_mem_take h)
theorem sIx_m1 (n d : Nat) (h : 0 < n) : HT.sIx n d (some (-1)) = n - 1 := by
  unfold HT.sIx
  simp only
  split <;> omega
theorem cutU_init (xs : List U) (h : 0 < xs.length) : cutU xs none (some (-1)) = xs.dropLast := by
  unfold cutU
  rw [HT.sIx_none, sIx_m1 _ _ h, List.drop_zero, Nat.sub_zero, List.dropLast_eq_take]
/-- two writings, two keys held against each other -/
theorem eqW {w v : Wr} {A : AHp} {Q : AVK} (h1 : w.ok = true) (h2 : v.ok = true) (hd : w.dep ≤ 95) (h : Q (.bl (w.like v)) A) : xDeep false w.toU v.toU A Q :=
  ⟨w.toD, v.toD, w.duW, v.duW, w.can h1, v.can h2, Nat.le_trans w.deep (by omega), by rw [if_neg (by decide), w.eqvD]; exact h⟩
theorem eqK {w v : Wr} {A : AHp} {Q : AVK} (h1 : w.ok = true) (h2 : v.ok = true) (hd : w.dep ≤ 189) (h : Q (.bl (w.like v)) A) : xDeep false w.keyU v.keyU A Q :=
  ⟨w.keyD, v.keyD, w.duK, v.duK, w.canK h1, v.canK h2, Nat.le_trans w.deepK (by omega), by rw [if_neg (by decide), w.eqvK]; exact h⟩
theorem Wr.toU_tup (w : Wr) : ∃ us, w.toU = .tup us := by cases w <;> exact ⟨_, rfl⟩
theorem Wr.keyU_tup (w : Wr) : ∃ us, w.keyU = .tup us := by cases w <;> exact ⟨_, rfl⟩
theorem q_eqW {w v : Wr} {A : AHp} {Q : AVK} : (xEq w.toU v.toU A Q) = (xDeep false w.toU v.toU A Q) := by
  obtain ⟨a, e⟩ := w.toU_tup
  obtain ⟨b, e'⟩ := v.toU_tup
  rw [e, e']; rfl
theorem q_eqK {w v : Wr} {A : AHp} {Q : AVK} : (xEq w.keyU v.keyU A Q) = (xDeep false w.keyU v.keyU A Q) := by
  obtain ⟨a, e⟩ := w.keyU_tup
  obtain ⟨b, e'⟩ := v.keyU_tup
  rw [e, e']; rfl
theorem okL_take {ws : List Wr} (h : okL ws = true) (n : Nat) : okL (ws.take n) = true := by
  have := okL_app (ws.take n) (ws.drop n)
  rw [List.take_append_drop, h] at this
  cases e : okL (ws.take n)
  · rw [e] at this; cases this
  · rfl
theorem depL_app : ∀ (ws us : List Wr), depL (ws ++ us) = max (depL ws) (depL us)
  | [], us => by simp [depL]
  | w :: ws, us => by simp only [List.cons_append, depL, depL_app ws us]; omega
theorem depL_take_le (ws : List Wr) (i : Nat) : depL (ws.take i) ≤ depL ws := by
  have := depL_app (ws.take i) (ws.drop i)
  rw [List.take_append_drop] at this
  omega
end L2

set_option Elab.async false
set_option linter.all false
set_option maxRecDepth 100000
set_option maxHeartbeats 4000000
namespace My
open PySem L2
local macro_rules | `(tactic| walk_at "qd") => `(tactic| try simp only [↓q_var0, ↓q_nm0, ↓q_get0, ↓q_var1, ↓q_nm1, ↓q_get1, ↓q_var2, ↓q_nm2, ↓q_get2, ↓q_var3, ↓q_nm3, ↓q_get3, ↓q_var4, ↓q_nm4, ↓q_get4, ↓q_var5, ↓q_nm5, ↓q_get5, ↓q_var6, ↓q_nm6, ↓q_get6, ↓q_var7, ↓q_nm7, ↓q_get7, ↓q_var8, ↓q_nm8, ↓q_get8, ↓q_var9, ↓q_nm9, ↓q_get9, ↓q_var10, ↓q_nm10, ↓q_get10, ↓q_var11, ↓q_nm11, ↓q_get11, ↓q_var12, ↓q_nm12, ↓q_get12, ↓q_var13, ↓q_nm13, ↓q_get13, ↓q_var14, ↓q_nm14, ↓q_get14, ↓q_var15, ↓q_nm15, ↓q_get15, ↓q_var16, ↓q_nm16, ↓q_get16, ↓q_var17, ↓q_nm17, ↓q_get17, ↓q_var18, ↓q_nm18, ↓q_get18, ↓q_var19, ↓q_nm19, ↓q_get19, ↓q_var20, ↓q_nm20, ↓q_get20, ↓q_var21, ↓q_nm21, ↓q_get21, ↓q_var22, ↓q_nm22, ↓q_get22, ↓q_var23, ↓q_nm23, ↓q_get23, ↓q_var24, ↓q_nm24, ↓q_get24, ↓q_var25, ↓q_nm25, ↓q_get25, ↓q_c, ↓q_op, ↓q_un, ↓q_tb, ↓q_bl, ↓q_int, ↓q_and, ↓q_or, ↓q_not, ↓q_andv, ↓q_orv, ↓q_notv, ↓q_if, ↓q_chain, ↓q_true, ↓q_nil, ↓q_cons, ↓q_const, ↓q_tup, ↓q_lst, ↓q_cb, ↓q_call, ↓q_callV, ↓q_nopart, ↓q_part, ↓q_sl, ↓q_bm0, ↓q_bm, ↓q_next, ↓q_seq, ↓q_break, ↓q_cont, ↓q_drop, ↓q_ret, ↓q_retn, ↓q_ifs, ↓q_asg, ↓q_par, ↓q_two, ↓q_aug, ↓q_for, ↓q_jof, ↓q_jargs, ↓q_ylr, ↓q_ylo, ↓q_yt, ↓q_ys, ↓q_yr1, ↓q_yr2, ↓q_yer, ↓q_yeo, ↓q_yet, ↓q_yz, ↓q_jrev, ↓q_comp, ↓q_gtup, ↓q_gcons, ↓q_gnil, ↓q_addi, ↓q_adds, ↓q_addt, ↓q_addr, ↓q_xi, ↓q_xi2, ↓q_mul, ↓q_rep, ↓q_lti, ↓q_lts, ↓q_eqi, ↓q_eqs, ↓q_eqb, ↓q_eqt, ↓q_eqr, ↓q_eqtn, ↓q_eqnt, ↓q_eqnn, ↓q_eqns, ↓q_eqsn, ↓q_nei, ↓q_nes, ↓q_neb, ↓q_net, ↓q_ner, ↓q_netn, ↓q_nent, ↓q_nenn, ↓q_nens, ↓q_nesn, ↓q_isn, ↓q_notn, ↓q_int_, ↓q_nint_, ↓q_inr_, ↓q_ninr_, ↓q_ins_, ↓q_nins_, ↓q_ixs, ↓q_ix0, ↓q_ix1, ↓q_ix2, ↓q_ixo, ↓q_ixr, ↓q_sls, ↓q_slt1, ↓q_slo, ↓q_slr, ↓q_lens, ↓q_lent, ↓q_leno, ↓q_lenr, ↓q_min2, ↓q_max2, ↓q_minl, ↓q_maxl, ↓q_sum, ↓q_all, ↓q_lot, ↓q_loo, ↓q_lor, ↓q_tot, ↓q_tor, ↓q_xint, ↓q_isl, ↓q_ist, ↓q_app, ↓q_pop, ↓q_extT, ↓q_ext, ↓q_setl, ↓q_tail, ↓q_tuprev, ↓q_neg, ↓q_tru, ↓q_trul, ↓q_trut, ↓q_trub, ↓q_isi, ↓q_idxC, ↓q_idxL, ↓q_yzg, ↓q_ysr, ↓q_yso, ↓q_yst, ↓q_yesr, ↓q_yeso, ↓q_yest, ↓q_exSt, ↓q_exSr, List.set_cons_zero, List.set_cons_succ, List.cons_append, List.nil_append])
local macro_rules | `(tactic| walk_at "qg") => `(tactic| try simp only [↓q_var0, ↓q_nm0, ↓q_get0, ↓q_var1, ↓q_nm1, ↓q_get1, ↓q_var2, ↓q_nm2, ↓q_get2, ↓q_var3, ↓q_nm3, ↓q_get3, ↓q_var4, ↓q_nm4, ↓q_get4, ↓q_var5, ↓q_nm5, ↓q_get5, ↓q_var6, ↓q_nm6, ↓q_get6, ↓q_var7, ↓q_nm7, ↓q_get7, ↓q_var8, ↓q_nm8, ↓q_get8, ↓q_var9, ↓q_nm9, ↓q_get9, ↓q_var10, ↓q_nm10, ↓q_get10, ↓q_var11, ↓q_nm11, ↓q_get11, ↓q_var12, ↓q_nm12, ↓q_get12, ↓q_var13, ↓q_nm13, ↓q_get13, ↓q_var14, ↓q_nm14, ↓q_get14, ↓q_var15, ↓q_nm15, ↓q_get15, ↓q_var16, ↓q_nm16, ↓q_get16, ↓q_var17, ↓q_nm17, ↓q_get17, ↓q_var18, ↓q_nm18, ↓q_get18, ↓q_var19, ↓q_nm19, ↓q_get19, ↓q_var20, ↓q_nm20, ↓q_get20, ↓q_var21, ↓q_nm21, ↓q_get21, ↓q_var22, ↓q_nm22, ↓q_get22, ↓q_var23, ↓q_nm23, ↓q_get23, ↓q_var24, ↓q_nm24, ↓q_get24, ↓q_var25, ↓q_nm25, ↓q_get25, ↓q_c, ↓q_op, ↓q_un, ↓q_tb, ↓q_bl, ↓q_int, ↓q_and, ↓q_or, ↓q_not, ↓q_andv, ↓q_orv, ↓q_notv, ↓q_if, ↓q_chain, ↓q_true, ↓q_nil, ↓q_cons, ↓q_const, ↓q_tup, ↓q_lst, ↓q_cb, ↓q_call, ↓q_callV, ↓q_nopart, ↓q_part, ↓q_sl, ↓q_bm0, ↓q_bm, ↓q_next, ↓q_seq, ↓q_break, ↓q_cont, ↓q_drop, ↓q_ret, ↓q_retn, ↓q_ifs, ↓q_asg, ↓q_par, ↓q_two, ↓q_aug, ↓q_for, ↓q_jof, ↓q_jargs, ↓q_ylr, ↓q_ylo, ↓q_yt, ↓q_ys, ↓q_yr1, ↓q_yr2, ↓q_yer, ↓q_yeo, ↓q_yet, ↓q_yz, ↓q_jrev, ↓q_comp, ↓q_gtup, ↓q_gcons, ↓q_gnil, ↓q_addi, ↓q_adds, ↓q_addt, ↓q_addr, ↓q_xi, ↓q_xi2, ↓q_mul, ↓q_rep, ↓q_lti, ↓q_lts, ↓q_eqi, ↓q_eqs, ↓q_eqb, ↓q_eqt, ↓q_eqr, ↓q_eqtn, ↓q_eqnt, ↓q_eqnn, ↓q_eqns, ↓q_eqsn, ↓q_nei, ↓q_nes, ↓q_neb, ↓q_net, ↓q_ner, ↓q_netn, ↓q_nent, ↓q_nenn, ↓q_nens, ↓q_nesn, ↓q_isn, ↓q_notn, ↓q_int_, ↓q_nint_, ↓q_inr_, ↓q_ninr_, ↓q_ins_, ↓q_nins_, ↓q_ixs, ↓q_ix0, ↓q_ix1, ↓q_ix2, ↓q_ixo, ↓q_ixr, ↓q_sls, ↓q_slt1, ↓q_slo, ↓q_slr, ↓q_lens, ↓q_lent, ↓q_leno, ↓q_lenr, ↓q_min2, ↓q_max2, ↓q_minl, ↓q_maxl, ↓q_sum, ↓q_all, ↓q_lot, ↓q_loo, ↓q_lor, ↓q_tot, ↓q_tor, ↓q_xint, ↓q_isl, ↓q_ist, ↓q_app, ↓q_pop, ↓q_extT, ↓q_ext, ↓q_setl, ↓q_tail, ↓q_tuprev, ↓q_neg, ↓q_tru, ↓q_trul, ↓q_trut, ↓q_trub, ↓q_isi, ↓q_idxC, ↓q_idxL, ↓q_yzg, ↓q_ysr, ↓q_yso, ↓q_yst, ↓q_yesr, ↓q_yeso, ↓q_yest, ↓q_exSt, ↓q_exSr, List.set_cons_zero, List.set_cons_succ, List.cons_append, List.nil_append, ↓q_ixt, ↓q_slt])
local macro_rules | `(tactic| walk_at "qs") => `(tactic| simp only [L2.aStart, List.map_cons, List.map_nil, List.length_cons, List.length_nil, List.replicate, List.cons_append, List.nil_append, Nat.reduceAdd, Nat.reduceSub])
local macro_rules | `(tactic| walk_at "qc") => `(tactic| try simp only [L2.aCompStart, List.replicate, List.map_cons, List.map_nil, List.getElem?_cons_zero, List.getElem?_cons_succ, Option.join_some, List.cons_append, List.nil_append])
def top (i : Nat) : Stmt := PySem.Challenge.pw_figurebook_k10_sizes_and_keys.main.body.getD i (.Pass ⟨0, 0, 0, 0⟩)
abbrev s_parts_of : Stmt := top 3
abbrev s_folded : Stmt := top 4
abbrev s_folded_over : Stmt := top 5
abbrev s_size_of : Stmt := top 6
abbrev s_size_by : Stmt := top 7
abbrev s_key_of : Stmt := top 8
abbrev s_key_by : Stmt := top 9
abbrev s_w_mix : Stmt := top 11
abbrev s_w_cell : Stmt := top 12
abbrev s_w_tuples : Stmt := top 13
abbrev s_w_put : Stmt := top 14
abbrev s_w_any : Stmt := top 15
abbrev s_w_size : Stmt := top 16
abbrev s_w_key : Stmt := top 17
abbrev s_w_alike : Stmt := top 18
abbrev s_w_other : Stmt := top 19
abbrev s_law : Stmt := top 20
theorem sc_parts_of : FnScope ["writing", "kind"] ["writing"] (defScope s_parts_of) := ⟨rfl, rfl, rfl, by decide +kernel, rfl, by decide +kernel, by decide +kernel⟩
theorem sc_folded : FnScope ["writing", "deed"] ["writing", "deed"] (defScope s_folded) := ⟨rfl, rfl, rfl, by decide +kernel, rfl, by decide +kernel, by decide +kernel⟩
theorem sc_folded_over : FnScope ["whole", "parts", "deed", "order", "waiting", "one", "inner", "told", "many", "first"] ["whole", "parts", "deed"] (defScope s_folded_over) := ⟨rfl, rfl, rfl, by decide +kernel, rfl, by decide +kernel, by decide +kernel⟩
theorem sc_size_of : FnScope ["figure"] ["figure"] (defScope s_size_of) := ⟨rfl, rfl, rfl, by decide +kernel, rfl, by decide +kernel, by decide +kernel⟩
theorem sc_size_by : FnScope ["figure", "sizes"] ["figure", "sizes"] (defScope s_size_by) := ⟨rfl, rfl, rfl, by decide +kernel, rfl, by decide +kernel, by decide +kernel⟩
theorem sc_key_of : FnScope ["figure"] ["figure"] (defScope s_key_of) := ⟨rfl, rfl, rfl, by decide +kernel, rfl, by decide +kernel, by decide +kernel⟩
theorem sc_key_by : FnScope ["figure", "keys", "size"] ["figure", "keys"] (defScope s_key_by) := ⟨rfl, rfl, rfl, by decide +kernel, rfl, by decide +kernel, by decide +kernel⟩
theorem sc_w_mix : FnScope ["_law_script", "_law_made", "_law_k", "_law_cell_here"] ["_law_script"] (defScope s_w_mix) := ⟨rfl, rfl, rfl, by decide +kernel, rfl, by decide +kernel, by decide +kernel⟩
theorem sc_w_cell : FnScope ["_law_script", "_law_k"] ["_law_script", "_law_k"] (defScope s_w_cell) := ⟨rfl, rfl, rfl, by decide +kernel, rfl, by decide +kernel, by decide +kernel⟩
theorem sc_w_tuples : FnScope ["_law_figure", "_law_parts"] ["_law_figure"] (defScope s_w_tuples) := ⟨rfl, rfl, rfl, by decide +kernel, rfl, by decide +kernel, by decide +kernel⟩
theorem sc_w_put : FnScope ["_law_stack", "_law_cell_here", "_law_room", "_law_kind", "_law_turn", "_law_many", "_law_other_here", "_law_twin", "_law_parts"] ["_law_stack", "_law_cell_here", "_law_room"] (defScope s_w_put) := ⟨rfl, rfl, rfl, by decide +kernel, rfl, by decide +kernel, by decide +kernel⟩
theorem sc_w_any : FnScope ["_law_cells", "_law_stack", "_law_k", "_law_cell_here"] ["_law_cells"] (defScope s_w_any) := ⟨rfl, rfl, rfl, by decide +kernel, rfl, by decide +kernel, by decide +kernel⟩
theorem sc_w_size : FnScope ["_law_figure"] ["_law_figure"] (defScope s_w_size) := ⟨rfl, rfl, rfl, by decide +kernel, rfl, by decide +kernel, by decide +kernel⟩
theorem sc_w_key : FnScope ["_law_figure", "_law_kinds", "_law_head"] ["_law_figure"] (defScope s_w_key) := ⟨rfl, rfl, rfl, by decide +kernel, rfl, by decide +kernel, by decide +kernel⟩
theorem sc_w_alike : FnScope ["_law_found", "_law_due"] ["_law_found", "_law_due"] (defScope s_w_alike) := ⟨rfl, rfl, rfl, by decide +kernel, rfl, by decide +kernel, by decide +kernel⟩
theorem sc_w_other : FnScope ["_law_figure", "_law_cell_here", "_law_parts"] ["_law_figure", "_law_cell_here"] (defScope s_w_other) := ⟨rfl, rfl, rfl, by decide +kernel, rfl, by decide +kernel, by decide +kernel⟩
theorem sc_law : FnScope ["_law_script", "_law_whole", "_law_some", "_law_figure", "_law_size_here", "_law_one", "_law_other_here"] ["_law_script"] (defScope s_law) := ⟨rfl, rfl, rfl, by decide +kernel, rfl, by decide +kernel, by decide +kernel⟩
/-- what the top has written: each def of the text, its names; what is not the text's own -/
structure TX (K : PySem.W.Frag) (mg : Str → Option Value) (f_parts_of f_folded f_folded_over f_size_of f_size_by f_key_of f_key_by f_w_mix f_w_cell f_w_tuples f_w_put f_w_any f_w_size f_w_key f_w_alike f_w_other f_law a_KINDS a_MANY : Addr) (d_parts_of d_folded d_folded_over d_size_of d_size_by d_key_of d_key_by d_w_mix d_w_cell d_w_tuples d_w_put d_w_any d_w_size d_w_key d_w_alike d_w_other d_law : FuncData) : Prop where
  F_parts_of : Fun K "parts_of" "parts_of" s_parts_of f_parts_of d_parts_of
  B_parts_of : Binds K d_parts_of ["writing"] []
  M_parts_of : mg "parts_of" = some (.ref f_parts_of)
  F_folded : Fun K "folded" "folded" s_folded f_folded d_folded
  B_folded : Binds K d_folded ["writing", "deed"] []
  M_folded : mg "folded" = some (.ref f_folded)
  F_folded_over : Fun K "folded_over" "folded_over" s_folded_over f_folded_over d_folded_over
  B_folded_over : Binds K d_folded_over ["whole", "parts", "deed"] []
  M_folded_over : mg "folded_over" = some (.ref f_folded_over)
  F_size_of : Fun K "size_of" "size_of" s_size_of f_size_of d_size_of
  B_size_of : Binds K d_size_of ["figure"] []
  M_size_of : mg "size_of" = some (.ref f_size_of)
  F_size_by : Fun K "size_by" "size_by" s_size_by f_size_by d_size_by
  B_size_by : Binds K d_size_by ["figure", "sizes"] []
  M_size_by : mg "size_by" = some (.ref f_size_by)
  F_key_of : Fun K "key_of" "key_of" s_key_of f_key_of d_key_of
  B_key_of : Binds K d_key_of ["figure"] []
  M_key_of : mg "key_of" = some (.ref f_key_of)
  F_key_by : Fun K "key_by" "key_by" s_key_by f_key_by d_key_by
  B_key_by : Binds K d_key_by ["figure", "keys"] []
  M_key_by : mg "key_by" = some (.ref f_key_by)
  F_w_mix : Fun K "_law_mix" "_law_mix" s_w_mix f_w_mix d_w_mix
  B_w_mix : Binds K d_w_mix ["_law_script"] []
  M_w_mix : mg "_law_mix" = some (.ref f_w_mix)
  F_w_cell : Fun K "_law_cell" "_law_cell" s_w_cell f_w_cell d_w_cell
  B_w_cell : Binds K d_w_cell ["_law_script", "_law_k"] []
  M_w_cell : mg "_law_cell" = some (.ref f_w_cell)
  F_w_tuples : Fun K "_law_tuples" "_law_tuples" s_w_tuples f_w_tuples d_w_tuples
  B_w_tuples : Binds K d_w_tuples ["_law_figure"] []
  M_w_tuples : mg "_law_tuples" = some (.ref f_w_tuples)
  F_w_put : Fun K "_law_put" "_law_put" s_w_put f_w_put d_w_put
  B_w_put : Binds K d_w_put ["_law_stack", "_law_cell_here", "_law_room"] []
  M_w_put : mg "_law_put" = some (.ref f_w_put)
  F_w_any : Fun K "_law_any" "_law_any" s_w_any f_w_any d_w_any
  B_w_any : Binds K d_w_any ["_law_cells"] []
  M_w_any : mg "_law_any" = some (.ref f_w_any)
  F_w_size : Fun K "_law_size" "_law_size" s_w_size f_w_size d_w_size
  B_w_size : Binds K d_w_size ["_law_figure"] []
  M_w_size : mg "_law_size" = some (.ref f_w_size)
  F_w_key : Fun K "_law_key" "_law_key" s_w_key f_w_key d_w_key
  B_w_key : Binds K d_w_key ["_law_figure"] []
  M_w_key : mg "_law_key" = some (.ref f_w_key)
  F_w_alike : Fun K "_law_alike" "_law_alike" s_w_alike f_w_alike d_w_alike
  B_w_alike : Binds K d_w_alike ["_law_found", "_law_due"] []
  M_w_alike : mg "_law_alike" = some (.ref f_w_alike)
  F_w_other : Fun K "_law_other" "_law_other" s_w_other f_w_other d_w_other
  B_w_other : Binds K d_w_other ["_law_figure", "_law_cell_here"] []
  M_w_other : mg "_law_other" = some (.ref f_w_other)
  F_law : Fun K "law" "law" s_law f_law d_law
  B_law : Binds K d_law ["_law_script"] []
  M_law : mg "law" = some (.ref f_law)
  n_all : mg "all" = none
  n_any : mg "any" = none
  n_bool : mg "bool" = none
  n_enumerate : mg "enumerate" = none
  n_int : mg "int" = none
  n_isinstance : mg "isinstance" = none
  n_len : mg "len" = none
  n_list : mg "list" = none
  n_max : mg "max" = none
  n_min : mg "min" = none
  n_range : mg "range" = none
  n_reversed : mg "reversed" = none
  n_sorted : mg "sorted" = none
  n_str : mg "str" = none
  n_sum : mg "sum" = none
  n_tuple : mg "tuple" = none
  n_zip : mg "zip" = none
  c_KINDS : ∃ u, mg "KINDS" = some u ∧ RelV (.ref a_KINDS) u
  q_KINDS : ∀ H, SqT K H a_KINDS [.str "nothing", .str "bead", .str "left", .str "right", .str "pair", .str "row", .str "bag", .str "choice", .str "ring"]
  y_KINDS : ∀ H, tyV K "tuple" (.ref a_KINDS) H
  c_MANY : ∃ u, mg "MANY" = some u ∧ RelV (.ref a_MANY) u
  q_MANY : ∀ H, SqT K H a_MANY [.str "row", .str "bag", .str "choice", .str "ring"]
  y_MANY : ∀ H, tyV K "tuple" (.ref a_MANY) H
def asp_parts : ASp := fun us A Q => ∃ w : Wr, us = [w.toU] ∧ Q (.tup (w.parts.map Wr.toU)) A
section
variable {P : Program} {w : World} {K : PySem.W.Frag} {mg : Str → Option Value} {base : Heap} {f_parts_of f_folded f_folded_over f_size_of f_size_by f_key_of f_key_by f_w_mix f_w_cell f_w_tuples f_w_put f_w_any f_w_size f_w_key f_w_alike f_w_other f_law a_KINDS a_MANY : Addr} {d_parts_of d_folded d_folded_over d_size_of d_size_by d_key_of d_key_by d_w_mix d_w_cell d_w_tuples d_w_put d_w_any d_w_size d_w_key d_w_alike d_w_other d_law : FuncData}
theorem ok_parts_of (T : TX K mg f_parts_of f_folded f_folded_over f_size_of f_size_by f_key_of f_key_by f_w_mix f_w_cell f_w_tuples f_w_put f_w_any f_w_size f_w_key f_w_alike f_w_other f_law a_KINDS a_MANY d_parts_of d_folded d_folded_over d_size_of d_size_by d_key_of d_key_by d_w_mix d_w_cell d_w_tuples d_w_put d_w_any d_w_size d_w_key d_w_alike d_w_other d_law) : FnOk P w K mg base CX0 1 f_parts_of d_parts_of ["writing"] (spOf K asp_parts) := by
  refine' Fun.okA T.F_parts_of (sc := ?sc) (body := ?bd) ?hs ?hb sc_parts_of ?hB ?hS
  case hs => conv => lhs; whnf
  case hb => conv => lhs; whnf
  case hB => exact fun S cdv A outer s H E hr => ⟨_, (pss_cons (ps_set (i := 1) S.nd rfl (Or.inl rfl) (pe_ix o_ix (pv 0) pe_int (fun _ _ => rfl)))
      (pss_cons (ps_if (pt_cmpR o_in (pv 1) (pe_gv (by rfl) T.c_MANY) (by with_unfolding_all rfl)) (pss_one (ps_ret (pe_ix o_ix (pv 0) pe_int (fun _ _ => rfl)))) pss_nil)
      (pss_cons (ps_if (pt_cmpR (o_eqD hr) (pv 1) pe_str (nomark _)) (pss_one (ps_ret (pe_tup pa_nil))) pss_nil)
      (pss_one (ps_ret (pe_slice o_slW (pv 0) (po_some pe_int) po_none)))))), (ab_seq (ab_asg (ab_op ab_ix ab_var ab_int) ab_name)
      (ab_seq (ab_ifs (ab_test (ab_op ab_in ab_var (ab_c fun H => .tup (T.q_MANY H) (.cons (.str _) (.cons (.str _) (.cons (.str _) (.cons (.str _) .nil))))))) (ab_ret (ab_op ab_ix ab_var ab_int)) ab_next)
      (ab_seq (ab_ifs (ab_test (ab_op ab_eq ab_var ab_str)) (ab_ret (ab_tup ab_nil)) ab_next)
      (ab_ret (ab_sl ab_xsl ab_var (ab_part ab_int) ab_nopart)))))⟩
  rintro us A Q ⟨w, rfl, q⟩
  refine ⟨rfl, ?_⟩
  walk_at "qs"
  rcases w.kinds with ⟨c, rfl⟩ | ⟨k, ps, rfl⟩ | hf
  · rw [Wr.toU]
    walk_at "qd"
    refine ⟨rfl, rfl, iteFf rfl ?_⟩
    walk_at "qd"
    refine iteTt rfl ⟨by decide, fg q⟩
  · rw [Wr.toU_many]
    walk_at "qd"
    exact ⟨rfl, rfl, iteTt (in_manyU k) (fg q)⟩
  · rw [Wr.toU_few hf]
    walk_at "qd"
    refine ⟨rfl, rfl, iteFf (nin_manyU hf.2) ?_⟩
    walk_at "qd"
    exact iteFf (nb_name hf.1) (fg q)
end
def asp_deed (val : Wr → U) : ASp := fun us A Q => ∃ (w : Wr) (l : Addr), us = [w.toU, .ref l] ∧ A l = some (.lst (w.parts.map val)) ∧ w.ok = true ∧ w.tups ≤ 200 ∧ Q (val w) A
def asp_fo (val : Wr → U) (fp fd : Addr) : ASp := fun us A Q => ∃ w : Wr, us = [w.toU, .ref fp, .ref fd] ∧ w.ok = true ∧ w.tups ≤ 200 ∧ Q (val w) A
def asp_folded (val : Wr → U) (fd : Addr) : ASp := fun us A Q => ∃ w : Wr, us = [w.toU, .ref fd] ∧ w.ok = true ∧ w.tups ≤ 200 ∧ Q (val w) A
def encW (w : Wr) : U := .tup [w.toU, .int (w.parts.length : Nat)]
section
variable {P : Program} {w : World} {K : PySem.W.Frag} {mg : Str → Option Value} {base : Heap} {f_parts_of f_folded f_folded_over f_size_of f_size_by f_key_of f_key_by f_w_mix f_w_cell f_w_tuples f_w_put f_w_any f_w_size f_w_key f_w_alike f_w_other f_law a_KINDS a_MANY : Addr} {d_parts_of d_folded d_folded_over d_size_of d_size_by d_key_of d_key_by d_w_mix d_w_cell d_w_tuples d_w_put d_w_any d_w_size d_w_key d_w_alike d_w_other d_law : FuncData}
theorem ok_folded_over (T : TX K mg f_parts_of f_folded f_folded_over f_size_of f_size_by f_key_of f_key_by f_w_mix f_w_cell f_w_tuples f_w_put f_w_any f_w_size f_w_key f_w_alike f_w_other f_law a_KINDS a_MANY d_parts_of d_folded d_folded_over d_size_of d_size_by d_key_of d_key_by d_w_mix d_w_cell d_w_tuples d_w_put d_w_any d_w_size d_w_key d_w_alike d_w_other d_law) (k : Nat) {val : Wr → U} {fp fd : Addr} {dp dd : FuncData} {pp pd : List Str} (G_parts : FnOk P w K mg base CX0 k fp dp pp (spOf K asp_parts)) (hk_parts : PySem.W.keepIn K (.ref fp) = true) (hb_parts : Binds K dp pp [])
    (G_deed : FnOk P w K mg base CX0 k fd dd pd (spOf K (asp_deed val))) (hk_deed : PySem.W.keepIn K (.ref fd) = true) (hb_deed : Binds K dd pd []) : FnOk P w K mg base CX0 (k + 1) f_folded_over d_folded_over ["whole", "parts", "deed"] (spOf K (asp_fo val fp fd)) := by
  refine' Fun.okA T.F_folded_over (sc := ?sc2) (body := ?bd2) ?hs2 ?hb2 sc_folded_over ?hB2 ?hS2
  case hs2 => conv => lhs; whnf
  case hb2 => conv => lhs; whnf
  case hB2 => exact fun S cdv A outer s H E hr => ⟨_, (pss_cons (ps_set (i := 3) S.nd rfl (Or.inl rfl) (pe_lst pa_nil))
      (pss_cons (ps_set (i := 4) S.nd rfl (Or.inl rfl) (pe_lst (pa_cons (pv 0) pa_nil)))
      (pss_cons (ps_while PassesOwn.never (pt_truth (pv 4) (fun _ => rfl)) (pss_cons (ps_set (i := 5) S.nd rfl (Or.inl rfl) (pe_bm0 PySem.F.plainAttrs_list PySem.F.slot_list_pop PySem.F.type_list_pop mt_pop (pv 4)))
      (pss_cons (ps_set (i := 6) S.nd rfl (Or.inl rfl) (pe_callV (G_parts.mono (by first | decide | omega)) hr (pv 1) hk_parts hb_parts .nil pass0 (pa_cons (pv 5) pa_nil)))
      (pss_cons (ps_expr (pe_bm PySem.F.plainAttrs_list PySem.F.slot_list_append PySem.F.type_list_append mt_append (pv 3) (pa_cons (pe_tup (pa_cons (pv 5) (pa_cons (pe_callB c_len (by rfl) T.n_len (by decide +kernel) (pa_cons (pv 6) pa_nil)) pa_nil))) pa_nil)))
      (pss_one (ps_expr (pe_bm PySem.F.plainAttrs_list PySem.F.slot_list_extend PySem.F.type_list_extend mt_extS (pv 4) (pa_cons (pv 6) pa_nil))))))))
      (pss_cons (ps_set (i := 7) S.nd rfl (Or.inl rfl) (pe_lst pa_nil))
      (pss_cons (ps_for PassesOwn.never rfl (pj_rev rfl (by rfl) T.n_reversed (pv 3)) (pg_tup (n := 2) rfl (pgs_cons (pg_name (i := 5) S.nd rfl (Or.inl rfl)) (pgs_cons (pg_name (i := 8) S.nd rfl (Or.inl rfl)) pgs_nil)))
      (pss_cons (ps_set (i := 9) S.nd rfl (Or.inl rfl) (pe_op o_sub (pe_callB c_len (by rfl) T.n_len (by decide +kernel) (pa_cons (pv 7) pa_nil)) (pv 8)))
      (pss_one (ps_asg (pe_lst (pa_cons (pe_callV (G_deed.mono (by first | decide | omega)) hr (pv 2) hk_deed hb_deed .nil pass0 (pa_cons (pv 5) (pa_cons (pe_slice o_slW (pv 7) (po_some (pv 9)) po_none) pa_nil))) pa_nil)) (pg_tail (pv 7) (po_some (pv 9)))))))
      (pss_one (ps_ret (pe_ix o_ix (pv 7) pe_int (fun _ _ => rfl))))))))), (ab_seq (ab_asg (ab_lst ab_nil) ab_name)
      (ab_seq (ab_asg (ab_lst (ab_cons ab_var ab_nil)) ab_name)
      (ab_seq (ab_while (ab_tru ab_var) (ab_seq (ab_asg (ab_bm0 ab_isLst ab_mpop ab_var) ab_name)
      (ab_seq (ab_asg (ab_callV ab_var (ab_cons ab_var ab_nil)) ab_name)
      (ab_seq (ab_drop (ab_bm ab_isLst ab_mapp ab_var (ab_cons (ab_tup (ab_cons ab_var (ab_cons (ab_cb ab_len (ab_cons ab_var ab_nil)) ab_nil))) ab_nil)))
      (ab_drop (ab_bm ab_isLst ab_mextS ab_var (ab_cons ab_var ab_nil)))))))
      (ab_seq (ab_asg (ab_lst ab_nil) ab_name)
      (ab_seq (ab_for (ab_jrev ab_var) (ab_gtup (ab_gcons ab_name (ab_gcons ab_name ab_gnil)))
      (ab_seq (ab_asg (ab_op ab_sub (ab_cb ab_len (ab_cons ab_var ab_nil)) ab_var) ab_name)
      (ab_asg (ab_lst (ab_cons (ab_callV ab_var (ab_cons ab_var (ab_cons (ab_sl ab_xsl ab_var (ab_part ab_var) ab_nopart) ab_nil))) ab_nil)) (ab_tail ab_var (ab_part ab_var)))))
      (ab_ret (ab_op ab_ix ab_var ab_int)))))))⟩
  rintro us A Q ⟨w, rfl, hok, ht, q⟩
  refine ⟨rfl, ?_⟩
  walk_at "qs"
  walk_at "qd"
  refine ⟨by decide, fun o ho => ?_⟩
  walk_at "qd"
  refine ⟨tup1, fun wt hwt => ?_⟩
  walk_at "qd"
  have hne : o ≠ wt := fun e => by rw [e, updA_same] at hwt; cases hwt
  have hw0 : A wt = none := by rw [updA_ne (Ne.symm hne)] at hwt; exact hwt
  refine while_A (fun ρ A2 => ∃ (ws1 ws2 : List Wr) (x5 x6 : Option U), ρ = [some w.toU, some (.ref fp), some (.ref fd), some (.ref o), some (.ref wt), x5, x6, none, none, none] ∧ Ext A A2 ∧ A2 o = some (.lst (ws1.map encW)) ∧ A2 wt = some (.lst (ws2.map Wr.toU)) ∧ ws1 ++ (postL ws2).reverse = w.post.reverse)
    (fun ρ A2 => match A2 o with | some (.lst us) => 1000 - us.length | _ => 0) ⟨[], [w], _, _, rfl, (Ext.new ho).trans (Ext.new hwt), by rw [updA_ne hne, updA_same]; rfl, by rw [updA_same]; rfl, by simp [postL]⟩ ?_
  · rintro ρ A2 ⟨ws1, ws2, x5, x6, rfl, he, h1, h2, hord⟩
    have hlen : ws1.length + tupsL ws2 = w.tups := by
      have e := congrArg List.length hord
      rw [List.length_append, List.length_reverse, List.length_reverse, postL_len, w.post_len] at e
      exact e
    walk_at "qd"
    refine ⟨_, h2, iteB (fun hb => ?_) fun hb => ?_⟩
    · refine wh_goA ?_
      obtain ⟨ws0, x, rfl⟩ : ∃ ws0 x, ws2 = ws0 ++ [x] := by
        rcases List.eq_nil_or_concat ws2 with rfl | ⟨a, b, rfl⟩
        · cases hb
        · exact ⟨a, b, by simp⟩
      rw [tupsL_app] at hlen
      simp only [tupsL] at hlen
      have hx := x.tups_pos
      have hxp := x.parts_tups
      have hl0 := len_tups ws0
      have hlp := len_tups x.parts
      walk_at "qd"
      refine ⟨⟨_, h2⟩, ws0.map Wr.toU, x.toU, by rw [h2, List.map_append]; rfl, ?_⟩
      walk_at "qd"
      refine ⟨trivial, x, rfl, ?_⟩
      walk_at "qd"
      have h1' : updA A2 wt (.lst (ws0.map Wr.toU)) o = some (.lst (ws1.map encW)) := by rw [updA_ne hne]; exact h1
      refine ⟨⟨_, h1'⟩, tup2, _, h1', line1000' (by rw [List.length_map]; omega), ?_⟩
      have h2' : updA (updA A2 wt (.lst (ws0.map Wr.toU))) o (.lst (ws1.map encW ++ [.tup [x.toU, .int (x.parts.map Wr.toU).length]])) wt = some (.lst (ws0.map Wr.toU)) := by rw [updA_ne (Ne.symm hne), updA_same]
      refine ⟨⟨_, h2'⟩, _, h2', line1000 (by rw [List.length_map, List.length_map]; omega), ?_⟩
      refine ⟨⟨ws1 ++ [x], ws0 ++ x.parts, _, _, rfl, ?_, ?_, ?_, ?_⟩, ?_⟩
      · intro b u hb
        rw [updA_ne (neA hb hw0), updA_ne (neA hb ho), updA_ne (neA hb hw0)]; exact he b u hb
      · rw [updA_ne hne, updA_same, List.map_append, List.length_map]; rfl
      · rw [updA_same, List.map_append]
      · rw [← hord, postL_app, postL_app]
        simp [postL, Wr.post_eq x]
      · rw [updA_ne hne, updA_same, h1]
        show 1000 - (ws1.map encW ++ [_]).length < 1000 - (ws1.map encW).length
        rw [List.length_append, List.length_singleton, List.length_map]
        omega
    · have e2 : ws2 = [] := by simpa using hb
      subst e2
      simp only [postL, List.reverse_nil, List.append_nil] at hord
      subst hord
      walk_at "qd"
      refine ⟨by decide, fun td htd => ?_⟩
      walk_at "qd"
      have h1t : updA A2 td (.lst []) o = some (.lst (w.post.reverse.map encW)) := by rw [updA_ne (neA h1 htd)]; exact h1
      refine ⟨o, _, rfl, h1t, ?_⟩
      have htA : A td = none := by
        cases e : A td with
        | none => rfl
        | some v => rw [he td v e] at htd; cases htd
      have hot : o ≠ td := neA h1 htd
      refine for_revA (w.post.reverse.map encW) (fun k ρ A3 => ∃ (S : List Wr) (x5 x6 x8 x9 : Option U), ρ = [some w.toU, some (.ref fp), some (.ref fd), some (.ref o), some (.ref wt), x5, x6, some (.ref td), x8, x9] ∧ Ext A A3 ∧ A3 o = some (.lst (w.post.reverse.map encW)) ∧ A3 td = some (.lst (S.map val)) ∧ S.length ≤ k ∧ Run S (w.post.drop k) [w])
        ⟨[], _, _, _, _, rfl, he.trans (Ext.new htd), h1t, by rw [updA_same]; rfl, Nat.le_refl _, by simpa using w.run_all⟩ (fun k ρ A3 _ ⟨_, _, _, _, _, _, _, h, _⟩ => h) ?_ ?_
      · rintro k u ρ A3 hu ⟨S, y5, y6, y8, y9, rfl, he3, h3, ht3, hSl, run⟩
        rw [← List.map_reverse, List.reverse_reverse, List.getElem?_map] at hu
        obtain ⟨y, hy, rfl⟩ := Option.map_eq_some_iff.mp hu
        have hmem := w.post_mem y (List.mem_of_getElem? hy) hok
        obtain ⟨hkl, e⟩ := List.getElem?_eq_some_iff.mp hy
        rw [w.post_len] at hkl
        rw [List.drop_eq_getElem_cons (by rw [w.post_len]; exact hkl), e] at run
        obtain ⟨S0, rfl, run⟩ := run
        rw [List.length_append] at hSl
        unfold encW
        walk_at "qd"
        refine ⟨rfl, ?_⟩
        walk_at "qd"
        refine ⟨_, ht3, ?_⟩
        walk_at "qd"
        refine ⟨trivial, ?_⟩
        have efst : (((S0 ++ y.parts).map val).length : Int) - ((y.parts.length : Nat) : Int) = ((S0.length : Nat) : Int) := by rw [List.length_map, List.length_append]; omega
        refine ⟨_, ht3, fun l2 hl2 => ?_⟩
        rw [efst]
        refine ⟨y, l2, rfl, by rw [updA_same, List.map_append]; rw [show ((S0.length : Nat) : Int) = (((S0.map val).length : Nat) : Int) from by rw [List.length_map], cutU_from], hmem.1, by omega, tup1, fun l3 hl3 => ?_⟩
        have n3 : A3 l2 = none := hl2
        have n4 : A3 l3 = none := by
          cases e : A3 l3 with
          | none => rfl
          | some v => rw [updA_ne (neA e n3)] at hl3; rw [e] at hl3; cases hl3
        have d2 : td ≠ l2 := neA ht3 n3
        have d3 : td ≠ l3 := neA ht3 n4
        have ht5 : updA (updA A3 l2 (.lst (cutU ((S0 ++ y.parts).map val) (some ((S0.length : Nat) : Int)) none))) l3 (.lst [val y]) td = some (.lst ((S0 ++ y.parts).map val)) := by rw [updA_ne d3, updA_ne d2]; exact ht3
        refine ⟨td, l3, _, [val y], _, rfl, rfl, rfl, ht5, updA_same, d3, by omega, by rw [List.length_map, List.length_append]; omega, line1000 (by rw [List.length_map, List.length_append, List.length_singleton]; omega), S0 ++ [y], _, _, _, _, rfl, ?_, ?_, ?_, ?_, run⟩
        · intro b u hb
          rw [updA_ne (neA hb htA), updA_ne (neA (he3 b u hb) n4), updA_ne (neA (he3 b u hb) n3)]; exact he3 b u hb
        · rw [updA_ne hot, updA_ne (neA h3 n4), updA_ne (neA h3 n3)]; exact h3
        · rw [updA_same, Int.toNat_natCast, List.map_append, List.map_append, List.take_left' (by rw [List.length_map])]; rfl
        · rw [List.length_append, List.length_singleton]; omega
      · rintro ρ A3 ⟨S, y5, y6, y8, y9, rfl, he3, h3, ht3, hSl, run⟩
        rw [List.length_map, List.length_reverse, List.drop_length] at run
        obtain rfl : S = [w] := run
        walk_at "qd"
        exact ⟨_, _, ht3, atI_nat (j := 0) rfl, fgx he3 q⟩
theorem ok_folded (T : TX K mg f_parts_of f_folded f_folded_over f_size_of f_size_by f_key_of f_key_by f_w_mix f_w_cell f_w_tuples f_w_put f_w_any f_w_size f_w_key f_w_alike f_w_other f_law a_KINDS a_MANY d_parts_of d_folded d_folded_over d_size_of d_size_by d_key_of d_key_by d_w_mix d_w_cell d_w_tuples d_w_put d_w_any d_w_size d_w_key d_w_alike d_w_other d_law) (k : Nat) (hk : 1 ≤ k) {val : Wr → U} {fd : Addr} {dd : FuncData} {pd : List Str} (G_deed : FnOk P w K mg base CX0 k fd dd pd (spOf K (asp_deed val))) (hk_deed : PySem.W.keepIn K (.ref fd) = true) (hb_deed : Binds K dd pd []) : FnOk P w K mg base CX0 (k + 2) f_folded d_folded ["writing", "deed"] (spOf K (asp_folded val fd)) := by
  have G_folded_over := ok_folded_over (P := P) (w := w) (base := base) T k ((ok_parts_of (P := P) (w := w) (base := base) T).mono hk) T.F_parts_of.kp T.B_parts_of G_deed hk_deed hb_deed
  refine' Fun.okA T.F_folded (sc := ?sc3) (body := ?bd3) ?hs3 ?hb3 sc_folded ?hB3 ?hS3
  case hs3 => conv => lhs; whnf
  case hb3 => conv => lhs; whnf
  case hB3 => exact fun S cdv A outer s H E hr => ⟨_, (pss_one (ps_ret (pe_call (G_folded_over.mono (by first | decide | omega)) hr (by rfl) T.M_folded_over T.F_folded_over.kp T.B_folded_over .nil pass0 (pa_cons (pv 0) (pa_cons (pe_glob (v := .ref f_parts_of) (by rfl) T.M_parts_of rfl) (pa_cons (pv 1) pa_nil)))))), (ab_ret (ab_call (ab_cons ab_var (ab_cons ab_ref (ab_cons ab_var ab_nil)))))⟩
  rintro us A Q ⟨w, rfl, hok, ht, q⟩
  refine ⟨rfl, ?_⟩
  walk_at "qs"
  walk_at "qd"
  exact ⟨w, rfl, hok, ht, fg q⟩
end
def asp_tuples (n : Nat) : ASp := fun us A Q => ∃ w : Wr, us = [w.toU] ∧ w.dep ≤ n ∧ w.tups ≤ 900 ∧ Q (.int (w.tups : Nat)) A
section
variable {P : Program} {w : World} {K : PySem.W.Frag} {mg : Str → Option Value} {base : Heap} {f_parts_of f_folded f_folded_over f_size_of f_size_by f_key_of f_key_by f_w_mix f_w_cell f_w_tuples f_w_put f_w_any f_w_size f_w_key f_w_alike f_w_other f_law a_KINDS a_MANY : Addr} {d_parts_of d_folded d_folded_over d_size_of d_size_by d_key_of d_key_by d_w_mix d_w_cell d_w_tuples d_w_put d_w_any d_w_size d_w_key d_w_alike d_w_other d_law : FuncData}
theorem ok_tuples (T : TX K mg f_parts_of f_folded f_folded_over f_size_of f_size_by f_key_of f_key_by f_w_mix f_w_cell f_w_tuples f_w_put f_w_any f_w_size f_w_key f_w_alike f_w_other f_law a_KINDS a_MANY d_parts_of d_folded d_folded_over d_size_of d_size_by d_key_of d_key_by d_w_mix d_w_cell d_w_tuples d_w_put d_w_any d_w_size d_w_key d_w_alike d_w_other d_law) : ∀ n : Nat, FnOk P w K mg base CX0 (n + 1) f_w_tuples d_w_tuples ["_law_figure"] (spOf K (asp_tuples n)) := by
  intro n
  induction n with
  | zero => exact none_yet T.F_w_tuples sc_w_tuples fun us A Q ⟨w, _, hd, _⟩ => by have := w.dep_pos; omega
  | succ n ih =>
    have G_w_tuples := ih
    refine' Fun.okA T.F_w_tuples (sc := ?sc4) (body := ?bd4) ?hs4 ?hb4 sc_w_tuples ?hB4 ?hS4
    case hs4 => conv => lhs; whnf
    case hb4 => conv => lhs; whnf
    case hB4 => exact fun S cdv A outer s H E hr => ⟨_, (pss_cons (ps_if (pt_cmpR (o_eqD hr) (pe_ix o_ix (pv 0) pe_int (fun _ _ => rfl)) pe_str (nomark _)) (pss_one (ps_ret pe_int)) pss_nil)
      (pss_cons (ps_set (i := 1) S.nd rfl (Or.inl rfl) (pe_slice o_slW (pv 0) (po_some pe_int) po_none))
      (pss_cons (ps_if (pt_cmpR o_in (pe_ix o_ix (pv 0) pe_int (fun _ _ => rfl)) (pe_tup (pa_strs (xs := ["row", "bag", "choice", "ring"]) rfl)) (by with_unfolding_all rfl)) (pss_one (ps_set (i := 1) S.nd rfl (Or.inl rfl) (pe_ix o_ix (pv 0) pe_int (fun _ _ => rfl)))) pss_nil)
      (pss_one (ps_ret (pe_op o_addW pe_int (pe_callB (c_sum rfl) (by rfl) T.n_sum (by decide +kernel) (pa_cons (pe_comp (ts := ["_law_part"]) (frs' := []) (cl := []) rfl ⟨rfl, rfl, (by decide +kernel), (by decide +kernel), (fun _ z => nomatch z), (noFree_has rfl rfl), (fun _ z => nomatch z)⟩ (pj_seq (pv 1)) (fun _ _ _ _ => pg_name (i := 0) nd1 rfl (Or.inl rfl) (.inr rfl)) (fun _ _ _ _ => pifs_nil) (fun _ _ _ _ => by exact (pe_call (G_w_tuples.mono (by first | decide | omega)) hr (by rfl) T.M_w_tuples T.F_w_tuples.kp T.B_w_tuples .nil pass0 (pa_cons (pv 0) pa_nil)))) pa_nil)))))))), (ab_seq (ab_ifs (ab_test (ab_op ab_eq (ab_op ab_ix ab_var ab_int) ab_str)) (ab_ret ab_int) ab_next)
      (ab_seq (ab_asg (ab_sl ab_xsl ab_var (ab_part ab_int) ab_nopart) ab_name)
      (ab_seq (ab_ifs (ab_test (ab_op ab_in (ab_op ab_ix ab_var ab_int) (ab_tup ab_strs))) (ab_asg (ab_op ab_ix ab_var ab_int) ab_name) ab_next)
      (ab_ret (ab_op ab_add ab_int (ab_cb ab_sum (ab_cons (ab_comp (ab_jof ab_yseq ab_var) ab_name ab_true (ab_call (ab_cons ab_var ab_nil))) ab_nil)))))))⟩
    rintro us A Q ⟨w, rfl, hd, ht, q⟩
    refine ⟨rfl, ?_⟩
    have hpd := w.parts_dep
    have hpt := w.parts_tups
    have hpl := len_tups w.parts
    have go : ∀ l, A l = none → w.tups = 1 + tupsL w.parts → aCL (jFix (w.parts.map Wr.toU)) (bName 0) aTrue (aCall (asp_tuples n) (aCons (aVar 0) aNil)) l (fun x A2 => xSum [x] A2 fun z A3 => xAdd (.int 1) z A3 (Fg Q)) [none] (updA A l (.lst [])) := fun l hl e => by
      refine cl_mapW w.parts Wr.toU (fun w => .int (w.tups : Nat)) hl (by omega) (fun _ _ _ _ => rfl) (fun x A2 hx he Cy hc => ?_) ?_
      · walk_at "qd"
        have := depL_mem hx
        have := tupsL_mem hx
        exact ⟨x, rfl, by omega, by omega, hc⟩
      · walk_at "qd"
        refine ⟨w.parts.map fun w => ((w.tups : Nat) : Int), by rw [updA_same, List.map_map]; rfl, fgx (Ext.new hl) ?_⟩
        rw [sum_tups]
        rw [e] at q
        push_cast at q
        exact q
    walk_at "qs"
    rcases w.kinds with ⟨c, rfl⟩ | ⟨k, ps, rfl⟩ | hf
    · rw [Wr.toU]
      walk_at "qd"
      exact iteTt rfl (fg q)
    · rw [Wr.toU_many]
      walk_at "qd"
      refine iteFf (nbm k) ?_
      walk_at "qd"
      refine ⟨by decide, rfl, rfl, iteTt (in_manyU k) ?_⟩
      walk_at "qd"
      exact fun l hl => go l hl (by simp [Wr.tups, Wr.parts])
    · rw [Wr.toU_few hf]
      walk_at "qd"
      refine iteFf (nb_name hf.1) ?_
      walk_at "qd"
      refine ⟨by decide, rfl, rfl, iteFf (nin_manyU hf.2) ?_⟩
      walk_at "qd"
      refine fun l hl => go l hl ?_
      cases w with
      | bead c => exact absurd rfl (hf.1 c)
      | many k ps => exact absurd rfl (hf.2 k ps)
      | nothing => rfl
      | side b f => simp [Wr.tups, Wr.parts, tupsL]
      | pair f g => simp [Wr.tups, Wr.parts, tupsL]
end
def asp_cell : ASp := fun us A Q => ∃ (a : Addr) (ns : List Int) (k : Int), us = [.ref a, .int k] ∧ A a = some (.lst (ns.map U.int)) ∧ 0 ≤ k ∧ ∀ z, Q (.int z) A
def asp_mix : ASp := fun us A Q => ∃ ns : List Int, us = [.rol (ns.map U.int)] ∧ ns.length ≤ 63 ∧ ∀ (l : Addr) (ms : List Int), A l = none → ms.length ≤ 63 → Q (.ref l) (updA A l (.lst (ms.map U.int)))
section
variable {P : Program} {w : World} {K : PySem.W.Frag} {mg : Str → Option Value} {base : Heap} {f_parts_of f_folded f_folded_over f_size_of f_size_by f_key_of f_key_by f_w_mix f_w_cell f_w_tuples f_w_put f_w_any f_w_size f_w_key f_w_alike f_w_other f_law a_KINDS a_MANY : Addr} {d_parts_of d_folded d_folded_over d_size_of d_size_by d_key_of d_key_by d_w_mix d_w_cell d_w_tuples d_w_put d_w_any d_w_size d_w_key d_w_alike d_w_other d_law : FuncData}
theorem ok_cell (T : TX K mg f_parts_of f_folded f_folded_over f_size_of f_size_by f_key_of f_key_by f_w_mix f_w_cell f_w_tuples f_w_put f_w_any f_w_size f_w_key f_w_alike f_w_other f_law a_KINDS a_MANY d_parts_of d_folded d_folded_over d_size_of d_size_by d_key_of d_key_by d_w_mix d_w_cell d_w_tuples d_w_put d_w_any d_w_size d_w_key d_w_alike d_w_other d_law) : FnOk P w K mg base CX0 1 f_w_cell d_w_cell ["_law_script", "_law_k"] (spOf K asp_cell) := by
  refine' Fun.okA T.F_w_cell (sc := ?sc5) (body := ?bd5) ?hs5 ?hb5 sc_w_cell ?hB5 ?hS5
  case hs5 => conv => lhs; whnf
  case hb5 => conv => lhs; whnf
  case hB5 => exact fun S cdv A outer s H E hr => ⟨_, (pss_cons (ps_if (pt_cmpR o_lt (pv 1) (pe_callB c_len (by rfl) T.n_len (by decide +kernel) (pa_cons (pv 0) pa_nil)) (nomark _)) (pss_one (ps_ret (pe_ix o_ix (pv 0) (pv 1) (fun _ _ => rfl)))) pss_nil)
      (pss_one (ps_ret pe_int))), (ab_seq (ab_ifs (ab_test (ab_op ab_lt ab_var (ab_cb ab_len (ab_cons ab_var ab_nil)))) (ab_ret (ab_op ab_ix ab_var ab_var)) ab_next)
      (ab_ret ab_int))⟩
  rintro us A Q ⟨a, ns, k, rfl, ha, hk, q⟩
  refine ⟨rfl, ?_⟩
  walk_at "qs"
  walk_at "qd"
  refine ⟨_, ha, iteB (fun h => ?_) fun _ => fg (q 0)⟩
  have h' : k < ns.length := by simpa using h
  obtain ⟨z, h1, _⟩ := atI_intsU hk h'
  exact ⟨_, _, ha, h1, fg (q z)⟩
theorem ok_mix (T : TX K mg f_parts_of f_folded f_folded_over f_size_of f_size_by f_key_of f_key_by f_w_mix f_w_cell f_w_tuples f_w_put f_w_any f_w_size f_w_key f_w_alike f_w_other f_law a_KINDS a_MANY d_parts_of d_folded d_folded_over d_size_of d_size_by d_key_of d_key_by d_w_mix d_w_cell d_w_tuples d_w_put d_w_any d_w_size d_w_key d_w_alike d_w_other d_law) : FnOk P w K mg base CX0 1 f_w_mix d_w_mix ["_law_script"] (spOf K asp_mix) := by
  refine' Fun.okA T.F_w_mix (sc := ?sc6) (body := ?bd6) ?hs6 ?hb6 sc_w_mix ?hB6 ?hS6
  case hs6 => conv => lhs; whnf
  case hb6 => conv => lhs; whnf
  case hB6 => exact fun S cdv A outer s H E hr => ⟨_, (pss_cons (ps_if ((pw_and (pt_cmpR o_gt (pe_callB c_len (by rfl) T.n_len (by decide +kernel) (pa_cons (pv 0) pa_nil)) pe_int (nomark _)) (pw_and1 (pt_cmpR (o_eqD hr) (pe_op o_mod (pe_ix o_ix (pv 0) pe_int (fun _ _ => rfl)) pe_int) pe_int (nomark _))))).pt (pss_one (ps_ret (pe_op o_addW (pe_lst (pa_cons (pe_op o_fdiv (pe_ix o_ix (pv 0) pe_int (fun _ _ => rfl)) pe_int) pa_nil)) (pe_callTy c_list (by rfl) T.n_list (by decide +kernel) (pa_cons (pe_slice o_slW (pv 0) (po_some pe_int) po_none) pa_nil))))) pss_nil)
      (pss_cons (ps_set (i := 1) S.nd rfl (Or.inl rfl) (pe_lst pa_nil))
      (pss_cons (ps_for PassesOwn.never rfl (pj_enumS (by rfl) T.n_enumerate (pa_cons (pv 0) pa_nil)) (pg_tup (n := 2) rfl (pgs_cons (pg_name (i := 2) S.nd rfl (Or.inl rfl)) (pgs_cons (pg_name (i := 3) S.nd rfl (Or.inl rfl)) pgs_nil)))
      (pss_one (ps_expr (pe_bm PySem.F.plainAttrs_list PySem.F.slot_list_append PySem.F.type_list_append mt_append (pv 1) (pa_cons (pe_op o_mod (pe_op o_mulB (pe_op o_mod (pe_op o_addW (pe_op o_mulB (pe_op o_mod (pv 3) (pe_op o_pow pe_int pe_int)) pe_int) (pe_op o_mulB pe_int (pv 2))) pe_int) pe_int) pe_int) pa_nil)))))
      (pss_one (ps_ret (pv 1)))))), (ab_seq (ab_ifs (ab_and (ab_test (ab_op ab_gt (ab_cb ab_len (ab_cons ab_var ab_nil)) ab_int)) (ab_test (ab_op ab_eq (ab_op ab_mod (ab_op ab_ix ab_var ab_int) ab_int) ab_int))) (ab_ret (ab_op ab_add (ab_lst (ab_cons (ab_op ab_div (ab_op ab_ix ab_var ab_int) ab_int) ab_nil)) (ab_cb ab_listof (ab_cons (ab_sl ab_xsl ab_var (ab_part ab_int) ab_nopart) ab_nil)))) ab_next)
      (ab_seq (ab_asg (ab_lst ab_nil) ab_name)
      (ab_seq (ab_for (ab_jargs ab_yenumS (ab_cons ab_var ab_nil)) (ab_gtup (ab_gcons ab_name (ab_gcons ab_name ab_gnil)))
      (ab_drop (ab_bm ab_isLst ab_mapp ab_var (ab_cons (ab_op ab_mod (ab_op ab_mul (ab_op ab_mod (ab_op ab_add (ab_op ab_mul (ab_op ab_mod ab_var (ab_op ab_pow ab_int ab_int)) ab_int) (ab_op ab_mul ab_int ab_var)) ab_int) ab_int) ab_int) ab_nil))))
      (ab_ret ab_var))))⟩
  rintro us A Q ⟨ns, rfl, hk, q⟩
  refine ⟨rfl, ?_⟩
  walk_at "qs"
  walk_at "qd"
  rw [List.length_map]
  refine iteB (fun h0 => ?_) fun h0 => ?_
  · have h0 : 0 < ns.length := by simpa using h0
    obtain ⟨z, h1, h2⟩ := atI_intsU (Int.le_refl 0) (show (0 : Int) < ns.length by omega)
    refine ⟨_, h1, ?_⟩
    walk_at "qd"
    refine ⟨by decide, iteB (fun _ => ?_) fun _ => ?_⟩
    · obtain ⟨n0, ns, rfl⟩ : ∃ n0 ns', ns = n0 :: ns' := by
        cases ns with
        | nil => simp at h0
        | cons n0 ns' => exact ⟨_, _, rfl⟩
      walk_at "qd"
      refine ⟨_, h1, ?_⟩
      walk_at "qd"
      refine ⟨⟨by decide, by decide⟩, tup1, fun p hp p1 hp1 => ?_⟩
      walk_at "qd"
      refine ⟨_, updA_same, fun p2 hp2 => ?_⟩
      walk_at "qd"
      rw [List.map_cons, cutU_tail] at hp2 ⊢
      have d1 : p ≠ p1 := neA updA_same hp1
      have d2 : p ≠ p2 := fun e => by rw [← e, updA_ne d1, updA_same] at hp2; cases hp2
      have e := (Ext.new (o := .lst [.int (z / 2)]) hp).trans ((Ext.new (o := .lst (ns.map U.int)) hp1).trans (Ext.new (o := .lst (ns.map U.int)) hp2))
      refine ⟨[.int (z / 2)], ns.map U.int, by rw [updA_ne d2, updA_ne d1, updA_same], updA_same, ?_, fun p3 hp3 => fgx e.put (q p3 ((z / 2) :: ns) (e.none hp3) hk)⟩
      refine line1000 ?_
      simp only [List.length_cons, List.length_nil, List.length_map] at hk ⊢
      omega
    · walk_at "qd"
      refine ⟨by decide, fun p hp => ?_⟩
      walk_at "qd"
      refine for_enumF (us := ns.map U.int) (fun k ρ A2 => ∃ (ms : List Int) (x y : Option U), ρ = [some (.rol (ns.map U.int)), some (.ref p), x, y] ∧ A2 = updA A p (.lst (ms.map U.int)) ∧ ms.length = k) ⟨[], _, _, rfl, rfl, rfl⟩ ?_ ?_
      · rintro k u ρ A2 hu ⟨ms, x, y, rfl, rfl, hm⟩
        have hkl := (List.getElem?_eq_some_iff.mp hu).1
        rw [List.length_map] at hkl
        obtain ⟨n, _, rfl⟩ := map_get hu
        walk_at "qd"
        exact ⟨rfl, ⟨_, updA_same⟩, ⟨by decide, by decide, by decide⟩, by decide, mul_small (.inr ⟨by decide, by decide⟩), mul_small (.inl ⟨by decide, by decide⟩), by decide, mul_small (.inr ⟨by decide, by decide⟩), by decide,
          _, updA_same, line1000' (by rw [List.length_map]; omega), ms ++ [_], _, _, rfl, by rw [updA_updA, List.map_append]; rfl, by rw [List.length_append, hm]; rfl⟩
      · rintro ρ A2 ⟨ms, x, y, rfl, rfl, hm⟩
        walk_at "qd"
        exact fg (q p ms hp (by rw [hm, List.length_map]; exact hk))
  · refine iteFf rfl ?_
    walk_at "qd"
    refine ⟨by decide, fun p hp => ?_⟩
    walk_at "qd"
    refine for_enumF (us := ns.map U.int) (fun k ρ A2 => ∃ (ms : List Int) (x y : Option U), ρ = [some (.rol (ns.map U.int)), some (.ref p), x, y] ∧ A2 = updA A p (.lst (ms.map U.int)) ∧ ms.length = k) ⟨[], _, _, rfl, rfl, rfl⟩ ?_ ?_
    · rintro k u ρ A2 hu ⟨ms, x, y, rfl, rfl, hm⟩
      have hkl := (List.getElem?_eq_some_iff.mp hu).1
      rw [List.length_map] at hkl
      obtain ⟨n, _, rfl⟩ := map_get hu
      walk_at "qd"
      exact ⟨rfl, ⟨_, updA_same⟩, ⟨by decide, by decide, by decide⟩, by decide, mul_small (.inr ⟨by decide, by decide⟩), mul_small (.inl ⟨by decide, by decide⟩), by decide, mul_small (.inr ⟨by decide, by decide⟩), by decide,
        _, updA_same, line1000' (by rw [List.length_map]; omega), ms ++ [_], _, _, rfl, by rw [updA_updA, List.map_append]; rfl, by rw [List.length_append, hm]; rfl⟩
    · rintro ρ A2 ⟨ms, x, y, rfl, rfl, hm⟩
      walk_at "qd"
      exact fg (q p ms hp (by rw [hm, List.length_map]; exact hk))
end
def asp_put : ASp := fun us A Q => ∃ (a : Addr) (z r : Int) (ws : List Wr), us = [.ref a, .int z, .int r] ∧ A a = some (.lst (ws.map Wr.toU)) ∧ okL ws = true ∧ 0 ≤ z ∧ tupsL ws ≤ 94 ∧ r ≤ 94 ∧
  ∀ ws' : List Wr, okL ws' = true → ((tupsL ws' : Int) ≤ tupsL ws + 1 ∨ (tupsL ws' : Int) ≤ r) → Q .non (updA A a (.lst (ws'.map Wr.toU)))
def asp_any : ASp := fun us A Q => ∃ (a : Addr) (ns : List Int), us = [.ref a] ∧ A a = some (.lst (ns.map U.int)) ∧ ns.length ≤ 94 ∧ ∀ (k : Nat) (ws : List Wr), (Wr.many k ws).ok = true → (Wr.many k ws).tups ≤ 95 → Q (Wr.many k ws).toU A
section
variable {P : Program} {w : World} {K : PySem.W.Frag} {mg : Str → Option Value} {base : Heap} {f_parts_of f_folded f_folded_over f_size_of f_size_by f_key_of f_key_by f_w_mix f_w_cell f_w_tuples f_w_put f_w_any f_w_size f_w_key f_w_alike f_w_other f_law a_KINDS a_MANY : Addr} {d_parts_of d_folded d_folded_over d_size_of d_size_by d_key_of d_key_by d_w_mix d_w_cell d_w_tuples d_w_put d_w_any d_w_size d_w_key d_w_alike d_w_other d_law : FuncData}
theorem ok_put (T : TX K mg f_parts_of f_folded f_folded_over f_size_of f_size_by f_key_of f_key_by f_w_mix f_w_cell f_w_tuples f_w_put f_w_any f_w_size f_w_key f_w_alike f_w_other f_law a_KINDS a_MANY d_parts_of d_folded d_folded_over d_size_of d_size_by d_key_of d_key_by d_w_mix d_w_cell d_w_tuples d_w_put d_w_any d_w_size d_w_key d_w_alike d_w_other d_law) : FnOk P w K mg base CX0 99 f_w_put d_w_put ["_law_stack", "_law_cell_here", "_law_room"] (spOf K asp_put) := by
  have G_w_tuples := ok_tuples (P := P) (w := w) (base := base) T 97
  refine' Fun.okA T.F_w_put (sc := ?sc7) (body := ?bd7) ?hs7 ?hb7 sc_w_put ?hB7 ?hS7
  case hs7 => conv => lhs; whnf
  case hb7 => conv => lhs; whnf
  case hB7 => exact fun S cdv A outer s H E hr => ⟨_, (pss_cons (ps_set (i := 3) S.nd rfl (Or.inl rfl) (pe_op o_mod (pv 1) pe_int))
      (pss_cons (ps_set (i := 4) S.nd rfl (Or.inl rfl) (pe_op o_fdiv (pv 1) pe_int))
      (pss_cons (ps_set (i := 5) S.nd rfl (Or.inl rfl) (pe_callB (c_minA rfl) (by rfl) T.n_min (by decide +kernel) (pa_cons (pe_callB c_len (by rfl) T.n_len (by decide +kernel) (pa_cons (pv 0) pa_nil)) (pa_cons (pe_op o_mod (pv 4) pe_int) pa_nil))))
      (pss_one (ps_if ((pw_or (pt_cmpR o_lt (pv 3) pe_int (nomark _)) (pw_or1 (pt_cmpR (o_eqD hr) (pe_callB c_len (by rfl) T.n_len (by decide +kernel) (pa_cons (pv 0) pa_nil)) pe_int (nomark _))))).pt (pss_one (ps_expr (pe_bm PySem.F.plainAttrs_list PySem.F.slot_list_append PySem.F.type_list_append mt_append (pv 0) (pa_cons (pe_tup (pa_cons pe_str (pa_cons (pe_ix o_ix (pe_lst (pa_strs (xs := ["red", "ash", "blue", "redder"]) rfl)) (pe_op o_mod (pv 4) pe_int) (fun _ _ => rfl)) pa_nil))) pa_nil)))) (pss_one (ps_if (pt_cmpR (o_eqD hr) (pv 3) pe_int (nomark _)) (pss_one (ps_expr (pe_bm PySem.F.plainAttrs_list PySem.F.slot_list_append PySem.F.type_list_append mt_append (pv 0) (pa_cons (pe_tup (pa_cons pe_str pa_nil)) pa_nil)))) (pss_one (ps_if (pt_cmpR o_lt (pv 3) pe_int (nomark _)) (pss_one (ps_expr (pe_bm PySem.F.plainAttrs_list PySem.F.slot_list_append PySem.F.type_list_append mt_append (pv 0) (pa_cons (pe_tup (pa_cons (pe_ix o_ix (pe_lst (pa_cons pe_str (pa_cons pe_str pa_nil))) (pe_op o_sub (pv 3) pe_int) (fun _ _ => rfl)) (pa_cons (pe_bm0 PySem.F.plainAttrs_list PySem.F.slot_list_pop PySem.F.type_list_pop mt_pop (pv 0)) pa_nil))) pa_nil)))) (pss_one (ps_if ((pw_and (pt_cmpR (o_eqD hr) (pv 3) pe_int (nomark _)) (pw_and1 (pt_cmpR o_gt (pe_callB c_len (by rfl) T.n_len (by decide +kernel) (pa_cons (pv 0) pa_nil)) pe_int (nomark _))))).pt (pss_cons (ps_set (i := 6) S.nd rfl (Or.inl rfl) (pe_bm0 PySem.F.plainAttrs_list PySem.F.slot_list_pop PySem.F.type_list_pop mt_pop (pv 0)))
      (pss_one (ps_expr (pe_bm PySem.F.plainAttrs_list PySem.F.slot_list_append PySem.F.type_list_append mt_append (pv 0) (pa_cons (pe_tup (pa_cons pe_str (pa_cons (pe_bm0 PySem.F.plainAttrs_list PySem.F.slot_list_pop PySem.F.type_list_pop mt_pop (pv 0)) (pa_cons (pv 6) pa_nil)))) pa_nil))))) (pss_one (ps_if (pt_cmpR o_lt (pv 3) pe_int (nomark _)) (pss_cons (ps_set (i := 7) S.nd rfl (Or.inl rfl) (pe_ix o_ix (pv 0) (pe_op o_mod (pv 4) (pe_callB c_len (by rfl) T.n_len (by decide +kernel) (pa_cons (pv 0) pa_nil))) (fun _ _ => rfl)))
      (pss_one (ps_if (pt_cmpR o_le (pe_op o_addW (pe_callB (c_sum rfl) (by rfl) T.n_sum (by decide +kernel) (pa_cons (pe_comp (ts := ["_law_one"]) (frs' := []) (cl := []) rfl ⟨rfl, rfl, (by decide +kernel), (by decide +kernel), (fun _ z => nomatch z), (noFree_has rfl rfl), (fun _ z => nomatch z)⟩ (pj_seq (pv 0)) (fun _ _ _ _ => pg_name (i := 0) nd1 rfl (Or.inl rfl) (.inr rfl)) (fun _ _ _ _ => pifs_nil) (fun _ _ _ _ => by exact (pe_call (G_w_tuples.mono (by first | decide | omega)) hr (by rfl) T.M_w_tuples T.F_w_tuples.kp T.B_w_tuples .nil pass0 (pa_cons (pv 0) pa_nil)))) pa_nil)) (pe_call (G_w_tuples.mono (by first | decide | omega)) hr (by rfl) T.M_w_tuples T.F_w_tuples.kp T.B_w_tuples .nil pass0 (pa_cons (pv 7) pa_nil))) (pv 2) (nomark _)) (pss_one (ps_expr (pe_bm PySem.F.plainAttrs_list PySem.F.slot_list_append PySem.F.type_list_append mt_append (pv 0) (pa_cons (pv 7) pa_nil)))) pss_nil))) (pss_cons (ps_setC (i := 8) S.nd rfl (Or.inl rfl) (by with_unfolding_all rfl) (ts := ["_law_k"]) (frs' := [("_law_stack", 0)]) (cl := _) rfl ⟨(by rfl), rfl, (by decide +kernel), (by decide +kernel), (allm_cons (by rfl) allm_nil), (free_has (by rfl) (by rfl)), (allm_cons ⟨(by rfl), (by first | exact .inl rfl | exact .inr rfl), (by first | exact .inl rfl | exact .inr rfl), (by rfl)⟩ allm_nil)⟩ (pj_range1 rfl T.n_range (pa_cons (pv 5) pa_nil)) (fun _ _ _ _ => pg_name (i := 0) (show List.Nodup (["_law_k", "_law_stack"] : List Str) from by decide +kernel) rfl (Or.inl rfl) (.inr rfl)) (fun _ _ _ _ => pifs_nil) (fun _ _ _ _ => by exact (k_bm0 K rfl PySem.F.plainAttrs_list PySem.F.slot_list_pop PySem.F.type_list_pop mt_pop (pv 1))))
      (pss_one (ps_expr (pe_bm PySem.F.plainAttrs_list PySem.F.slot_list_append PySem.F.type_list_append mt_append (pv 0) (pa_cons (pe_tup (pa_cons (pe_ix o_ix (pe_lst (pa_strs (xs := ["row", "bag", "choice", "ring"]) rfl)) (pe_op o_mod (pv 3) pe_int) (fun _ _ => rfl)) (pa_cons (pe_tupRev rfl (by rfl) T.n_tuple (by rfl) T.n_reversed (pv 8)) pa_nil))) pa_nil)))))))))))))))))), (ab_seq (ab_asg (ab_op ab_mod ab_var ab_int) ab_name)
      (ab_seq (ab_asg (ab_op ab_div ab_var ab_int) ab_name)
      (ab_seq (ab_asg (ab_cb ab_min (ab_cons (ab_cb ab_len (ab_cons ab_var ab_nil)) (ab_cons (ab_op ab_mod ab_var ab_int) ab_nil))) ab_name)
      (ab_ifs (ab_or (ab_test (ab_op ab_lt ab_var ab_int)) (ab_test (ab_op ab_eq (ab_cb ab_len (ab_cons ab_var ab_nil)) ab_int))) (ab_drop (ab_bm ab_isLst ab_mapp ab_var (ab_cons (ab_tup (ab_cons ab_str (ab_cons (ab_op ab_ix (ab_lst ab_strs) (ab_op ab_mod ab_var ab_int)) ab_nil))) ab_nil))) (ab_ifs (ab_test (ab_op ab_eq ab_var ab_int)) (ab_drop (ab_bm ab_isLst ab_mapp ab_var (ab_cons (ab_tup (ab_cons ab_str ab_nil)) ab_nil))) (ab_ifs (ab_test (ab_op ab_lt ab_var ab_int)) (ab_drop (ab_bm ab_isLst ab_mapp ab_var (ab_cons (ab_tup (ab_cons (ab_op ab_ix (ab_lst (ab_cons ab_str (ab_cons ab_str ab_nil))) (ab_op ab_sub ab_var ab_int)) (ab_cons (ab_bm0 ab_isLst ab_mpop ab_var) ab_nil))) ab_nil))) (ab_ifs (ab_and (ab_test (ab_op ab_eq ab_var ab_int)) (ab_test (ab_op ab_gt (ab_cb ab_len (ab_cons ab_var ab_nil)) ab_int))) (ab_seq (ab_asg (ab_bm0 ab_isLst ab_mpop ab_var) ab_name)
      (ab_drop (ab_bm ab_isLst ab_mapp ab_var (ab_cons (ab_tup (ab_cons ab_str (ab_cons (ab_bm0 ab_isLst ab_mpop ab_var) (ab_cons ab_var ab_nil)))) ab_nil)))) (ab_ifs (ab_test (ab_op ab_lt ab_var ab_int)) (ab_seq (ab_asg (ab_op ab_ix ab_var (ab_op ab_mod ab_var (ab_cb ab_len (ab_cons ab_var ab_nil)))) ab_name)
      (ab_ifs (ab_test (ab_op ab_le (ab_op ab_add (ab_cb ab_sum (ab_cons (ab_comp (ab_jof ab_yseq ab_var) ab_name ab_true (ab_call (ab_cons ab_var ab_nil))) ab_nil)) (ab_call (ab_cons ab_var ab_nil))) ab_var)) (ab_drop (ab_bm ab_isLst ab_mapp ab_var (ab_cons ab_var ab_nil))) ab_next)) (ab_seq (ab_asg (ab_comp (ab_jrng1 (ab_cons ab_var ab_nil)) ab_name ab_true (ab_bm0 ab_isLst ab_mpop ab_var)) ab_name)
      (ab_drop (ab_bm ab_isLst ab_mapp ab_var (ab_cons (ab_tup (ab_cons (ab_op ab_ix (ab_lst ab_strs) (ab_op ab_mod ab_var ab_int)) (ab_cons (ab_tuprev ab_var) ab_nil))) ab_nil))))))))))))⟩
  rintro us A Q ⟨a, z, r, ws, rfl, ha, hok0, hz, ht, hr94, q⟩
  refine ⟨rfl, ?_⟩
  walk_at "qs"
  walk_at "qd"
  have hl0 := len_tups ws
  have fin : ∀ (A3 : AHp) (ws0 : List Wr) (w : Wr), Ext A A3 → okL ws0 = true → w.ok = true → ((tupsL ws0 + w.tups : Nat) ≤ (tupsL ws : Int) + 1 ∨ (tupsL ws0 + w.tups : Nat) ≤ r) → Fg Q .non (updA A3 a (.lst (ws0.map Wr.toU ++ [w.toU]))) := fun A3 ws0 w e ho1 ho2 hb => by
    have := q (ws0 ++ [w]) (by rw [okL_app, ho1]; simp [okL, ho2]) (by rw [tupsL_app]; simpa [tupsL] using hb)
    rw [List.map_append] at this
    exact fgx e.put this
  refine ⟨by decide, ⟨by decide, by decide⟩, _, ha, by decide, ?_⟩
  by_cases h3 : z % 12 < 3
  · refine iteTt (by simpa using h3) ?_
    walk_at "qd"
    refine ⟨⟨_, ha⟩, by decide, fun p hp => ?_⟩
    walk_at "qd"
    refine ⟨by decide, ?_⟩
    obtain ⟨c, hc, hok⟩ := col_atU (z / 12)
    refine ⟨_, _, updA_same, hc, ?_⟩
    walk_at "qd"
    have e := Ext.new (o := .lst [U.str "red", U.str "ash", U.str "blue", U.str "redder"]) hp
    exact ⟨tup2, _, e _ _ ha, line1000' (by rw [List.length_map]; omega), fin _ ws (.bead c) e hok0 hok (.inl (by simp only [Wr.tups]; omega))⟩
  · refine iteFf (by simpa using h3) ?_
    refine ⟨_, ha, ?_⟩
    rw [List.length_map]
    by_cases h0 : ws.length = 0
    · refine iteTt (by simpa using h0) ?_
      walk_at "qd"
      refine ⟨⟨_, ha⟩, by decide, fun p hp => ?_⟩
      walk_at "qd"
      refine ⟨by decide, ?_⟩
      obtain ⟨c, hc, hok⟩ := col_atU (z / 12)
      refine ⟨_, _, updA_same, hc, ?_⟩
      walk_at "qd"
      have e := Ext.new (o := .lst [U.str "red", U.str "ash", U.str "blue", U.str "redder"]) hp
      exact ⟨tup2, _, e _ _ ha, line1000' (by rw [List.length_map]; omega), fin _ ws (.bead c) e hok0 hok (.inl (by simp only [Wr.tups]; omega))⟩
    · refine iteFf (by simpa using h0) ?_
      walk_at "qd"
      by_cases h4 : z % 12 = 3
      · refine iteTt (by simpa using h4) ?_
        walk_at "qd"
        exact ⟨⟨_, ha⟩, tup1, _, ha, line1000' (by rw [List.length_map]; omega), fin _ ws .nothing (Ext.refl A) hok0 rfl (.inl (by simp only [Wr.tups]; omega))⟩
      · refine iteFf (by simpa using h4) ?_
        walk_at "qd"
        by_cases h6 : z % 12 < 6
        · refine iteTt (by simpa using h6) ?_
          walk_at "qd"
          refine ⟨⟨_, ha⟩, tup2, fun p hp => ?_⟩
          obtain ⟨b, hb⟩ := side_atU (j := z % 12 - 4) (by omega) (by omega)
          refine ⟨_, _, updA_same, hb, ?_⟩
          walk_at "qd"
          have e := Ext.new (o := .lst [U.str "left", U.str "right"]) hp
          obtain ⟨ws0, x, rfl⟩ : ∃ ws0 x, ws = ws0 ++ [x] := by
            rcases List.eq_nil_or_concat ws with rfl | ⟨a, b, rfl⟩
            · exact absurd rfl h0
            · exact ⟨a, b, by simp⟩
          rw [List.length_append, List.length_singleton] at hl0
          rw [okL_app, Bool.and_eq_true] at hok0
          refine ⟨⟨_, e _ _ ha⟩, ws0.map Wr.toU, x.toU, by rw [e _ _ ha, List.map_append]; rfl, ?_⟩
          walk_at "qd"
          refine ⟨tup2, _, updA_same, line1000' (by rw [List.length_map]; omega), ?_⟩
          rw [updA_updA]
          exact fin _ ws0 (.side b x) e hok0.1 (by have := hok0.2; simpa [okL, Wr.ok] using this) (.inl (by rw [tupsL_app]; simp only [Wr.tups, tupsL]; omega))
        · refine iteFf (by simpa using h6) ?_
          walk_at "qd"
          by_cases h7 : z % 12 = 6
          · refine iteTt (by simpa using h7) ?_
            refine ⟨_, ha, ?_⟩
            rw [List.length_map]
            by_cases h1 : 1 < ws.length
            · refine iteTt (by simp; omega) ?_
              walk_at "qd"
              obtain ⟨ws0, x, y, rfl⟩ : ∃ ws0 x y, ws = ws0 ++ [x] ++ [y] := by
                rcases List.eq_nil_or_concat ws with rfl | ⟨a, b, rfl⟩
                · exact absurd rfl h0
                · rcases List.eq_nil_or_concat a with rfl | ⟨c, d, rfl⟩
                  · simp at h1
                  · exact ⟨c, d, b, by simp⟩
              simp only [List.length_append, List.length_singleton] at hl0
              rw [okL_app, okL_app, Bool.and_eq_true, Bool.and_eq_true] at hok0
              refine ⟨⟨_, ha⟩, (ws0 ++ [x]).map Wr.toU, y.toU, by rw [ha, List.map_append]; rfl, ?_⟩
              walk_at "qd"
              refine ⟨⟨_, updA_same⟩, ⟨_, updA_same⟩, ws0.map Wr.toU, x.toU, by rw [updA_same, List.map_append]; rfl, ?_⟩
              walk_at "qd"
              refine ⟨tup3, _, updA_same, line1000' (by rw [List.length_map]; omega), ?_⟩
              rw [updA_updA, updA_updA]
              exact fin _ ws0 (.pair x y) (Ext.refl A) hok0.1.1 (by have h1 := hok0.1.2; have h2 := hok0.2; simp [okL] at h1 h2; simp [Wr.ok, h1, h2]) (.inl (by rw [tupsL_app, tupsL_app]; simp only [Wr.tups, tupsL]; omega))
            · refine iteFf (by simp; omega) ?_
              walk_at "qd"
              refine iteTt (by simp; omega) ?_
              obtain ⟨v, hv, hv2⟩ := atI_lt (xs := ws.map Wr.toU) (i := z / 12 % ((ws.map Wr.toU).length : Int)) (Int.emod_nonneg _ (by rw [List.length_map]; omega)) (Int.emod_lt_of_pos _ (by rw [List.length_map]; omega))
              obtain ⟨u, hu, rfl⟩ := map_get hv2
              have hum := List.mem_of_getElem? hu
              have ht2 := tupsL_mem hum
              have hok2 := okL_mem hok0 hum
              have hd2 := u.dep_le
              walk_at "qd"
              refine ⟨_, ha, ?_⟩
              walk_at "qd"
              refine ⟨by rw [List.length_map]; omega, _, _, ha, hv, ?_⟩
              walk_at "qd"
              refine ⟨⟨_, ha⟩, fun l hl => ?_⟩
              walk_at "qc"
              refine cl_mapW ws Wr.toU (fun w => .int (w.tups : Nat)) hl (by omega) (fun k A2 _ he => ⟨_, he _ _ ha, rfl⟩) (fun x A2 hx he Cy hc => ?_) ?_
              · walk_at "qd"
                have := tupsL_mem hx
                have := x.dep_le
                exact ⟨x, rfl, by omega, by omega, hc⟩
              · walk_at "qd"
                refine ⟨ws.map fun w => ((w.tups : Nat) : Int), by rw [updA_same, List.map_map]; rfl, u, rfl, by omega, by omega, ?_⟩
                walk_at "qd"
                rw [sum_tups]
                have e := Ext.new (o := .lst (ws.map fun w => U.int ((w.tups : Nat) : Int))) hl
                refine iteB (fun hle => ?_) (fun _ => ?_)
                · walk_at "qd"
                  exact ⟨⟨_, e _ _ ha⟩, _, e _ _ ha, line1000' (by rw [List.length_map]; omega), fin _ ws u e hok0 hok2 (.inr (by have := of_decide_eq_true hle; omega))⟩
                · refine fgx e ?_
                  have := q ws hok0 (.inl (by omega))
                  rw [updA_self ha] at this
                  exact this
          · refine iteFf (by simpa using h7) (iteFf rfl ?_)
            walk_at "qd"
            by_cases h8 : z % 12 < 8
            · refine iteTt (by simp; omega) ?_
              obtain ⟨v, hv, hv2⟩ := atI_lt (xs := ws.map Wr.toU) (i := z / 12 % ((ws.map Wr.toU).length : Int)) (Int.emod_nonneg _ (by rw [List.length_map]; omega)) (Int.emod_lt_of_pos _ (by rw [List.length_map]; omega))
              obtain ⟨u, hu, rfl⟩ := map_get hv2
              have hum := List.mem_of_getElem? hu
              have ht2 := tupsL_mem hum
              have hok2 := okL_mem hok0 hum
              have hd2 := u.dep_le
              walk_at "qd"
              refine ⟨_, ha, ?_⟩
              walk_at "qd"
              refine ⟨by rw [List.length_map]; omega, _, _, ha, hv, ?_⟩
              walk_at "qd"
              refine ⟨⟨_, ha⟩, fun l hl => ?_⟩
              walk_at "qc"
              refine cl_mapW ws Wr.toU (fun w => .int (w.tups : Nat)) hl (by omega) (fun k A2 _ he => ⟨_, he _ _ ha, rfl⟩) (fun x A2 hx he Cy hc => ?_) ?_
              · walk_at "qd"
                have := tupsL_mem hx
                have := x.dep_le
                exact ⟨x, rfl, by omega, by omega, hc⟩
              · walk_at "qd"
                refine ⟨ws.map fun w => ((w.tups : Nat) : Int), by rw [updA_same, List.map_map]; rfl, u, rfl, by omega, by omega, ?_⟩
                walk_at "qd"
                rw [sum_tups]
                have e := Ext.new (o := .lst (ws.map fun w => U.int ((w.tups : Nat) : Int))) hl
                refine iteB (fun hle => ?_) (fun _ => ?_)
                · walk_at "qd"
                  exact ⟨⟨_, e _ _ ha⟩, _, e _ _ ha, line1000' (by rw [List.length_map]; omega), fin _ ws u e hok0 hok2 (.inr (by have := of_decide_eq_true hle; omega))⟩
                · refine fgx e ?_
                  have := q ws hok0 (.inl (by omega))
                  rw [updA_self ha] at this
                  exact this
            · refine iteFf (by simp; omega) ?_
              walk_at "qd"
              refine ⟨by omega, by omega, fun l hl => ?_⟩
              walk_at "qc"
              generalize em : (min ((ws.length : Nat) : Int) (z / 12 % 5)).toNat = m
              have hm : m ≤ ws.length := by omega
              obtain ⟨ws1, ws2, e12, hl2⟩ : ∃ ws1 ws2 : List Wr, ws = ws1 ++ ws2 ∧ ws2.length = m := ⟨ws.take (ws.length - m), ws.drop (ws.length - m), (List.take_append_drop _ _).symm, by rw [List.length_drop]; omega⟩
              subst e12
              have ha' : A a = some (.lst (ws1.map Wr.toU ++ ws2.map Wr.toU)) := by rw [ha, List.map_append]
              rw [← hl2, show ws2.length = (ws2.map Wr.toU).length from by rw [List.length_map]]
              rw [List.length_append] at hl0
              have hne : a ≠ l := neA ha hl
              refine cl_popsA ha' hl (by rw [List.length_map]; omega) ?_
              walk_at "qd"
              refine ⟨⟨_, by rw [updA_ne hne, updA_same]⟩, by decide, fun p hp => ?_⟩
              walk_at "qd"
              obtain ⟨k, hk⟩ := many_atU (z % 12)
              refine ⟨by decide, _, _, updA_same, hk, ?_⟩
              have n1 : p ≠ l := fun e => by rw [e, updA_same] at hp; cases hp
              refine ⟨l, _, rfl, by rw [updA_ne (Ne.symm n1), updA_same], tup2, ?_⟩
              have n2 : a ≠ p := fun e => by rw [← e, updA_ne hne, updA_same] at hp; cases hp
              refine ⟨ws1.map Wr.toU, by rw [updA_ne n2, updA_ne hne, updA_same], line1000' (by rw [List.length_map]; omega), ?_⟩
              rw [okL_app, Bool.and_eq_true] at hok0
              have n3 : A p = none := by rw [updA_ne n1, updA_ne (Ne.symm n2)] at hp; exact hp
              have := fin (updA (updA A l (.lst (ws2.map Wr.toU).reverse)) p (.lst [.str "row", .str "bag", .str "choice", .str "ring"])) ws1 (.many k ws2) ((Ext.new hl).trans (Ext.new (by rw [updA_ne n1]; exact n3))) hok0.1 (by simp only [Wr.ok]; exact hok0.2) (.inl (by rw [tupsL_app]; simp only [Wr.tups]; omega))
              rw [List.reverse_reverse]
              rw [Wr.toU_many] at this
              rw [updA_swap (A := A) hne, updA_swap (A := updA A l _) n2, updA_updA]
              exact this
theorem ok_any (T : TX K mg f_parts_of f_folded f_folded_over f_size_of f_size_by f_key_of f_key_by f_w_mix f_w_cell f_w_tuples f_w_put f_w_any f_w_size f_w_key f_w_alike f_w_other f_law a_KINDS a_MANY d_parts_of d_folded d_folded_over d_size_of d_size_by d_key_of d_key_by d_w_mix d_w_cell d_w_tuples d_w_put d_w_any d_w_size d_w_key d_w_alike d_w_other d_law) : FnOk P w K mg base CX0 100 f_w_any d_w_any ["_law_cells"] (spOf K asp_any) := by
  have G_w_put := ok_put (P := P) (w := w) (base := base) T
  refine' Fun.okA T.F_w_any (sc := ?sc8) (body := ?bd8) ?hs8 ?hb8 sc_w_any ?hB8 ?hS8
  case hs8 => conv => lhs; whnf
  case hb8 => conv => lhs; whnf
  case hB8 => exact fun S cdv A outer s H E hr => ⟨_, (pss_cons (ps_set (i := 1) S.nd rfl (Or.inl rfl) (pe_lst pa_nil))
      (pss_cons (ps_for PassesOwn.never rfl (pj_enumS (by rfl) T.n_enumerate (pa_cons (pv 0) pa_nil)) (pg_tup (n := 2) rfl (pgs_cons (pg_name (i := 2) S.nd rfl (Or.inl rfl)) (pgs_cons (pg_name (i := 3) S.nd rfl (Or.inl rfl)) pgs_nil)))
      (pss_one (ps_expr (pe_call (G_w_put.mono (by first | decide | omega)) hr (by rfl) T.M_w_put T.F_w_put.kp T.B_w_put .nil pass0 (pa_cons (pv 1) (pa_cons (pe_op o_mod (pv 3) (pe_op o_pow pe_int pe_int)) (pa_cons (pe_op o_sub pe_int (pe_op o_sub (pe_callB c_len (by rfl) T.n_len (by decide +kernel) (pa_cons (pv 0) pa_nil)) (pv 2))) pa_nil)))))))
      (pss_one (ps_ret (pe_tup (pa_cons (pe_ix o_ix (pe_lst (pa_strs (xs := ["row", "bag", "choice", "ring"]) rfl)) (pe_op o_mod (pe_callB c_len (by rfl) T.n_len (by decide +kernel) (pa_cons (pv 0) pa_nil)) pe_int) (fun _ _ => rfl)) (pa_cons (pe_callTy c_tuple (by rfl) T.n_tuple (by decide +kernel) (pa_cons (pv 1) pa_nil)) pa_nil))))))), (ab_seq (ab_asg (ab_lst ab_nil) ab_name)
      (ab_seq (ab_for (ab_jargs ab_yenumS (ab_cons ab_var ab_nil)) (ab_gtup (ab_gcons ab_name (ab_gcons ab_name ab_gnil)))
      (ab_drop (ab_call (ab_cons ab_var (ab_cons (ab_op ab_mod ab_var (ab_op ab_pow ab_int ab_int)) (ab_cons (ab_op ab_sub ab_int (ab_op ab_sub (ab_cb ab_len (ab_cons ab_var ab_nil)) ab_var)) ab_nil))))))
      (ab_ret (ab_tup (ab_cons (ab_op ab_ix (ab_lst ab_strs) (ab_op ab_mod (ab_cb ab_len (ab_cons ab_var ab_nil)) ab_int)) (ab_cons (ab_cb ab_tupof (ab_cons ab_var ab_nil)) ab_nil))))))⟩
  rintro us A Q ⟨a, ns, rfl, ha, hk, q⟩
  refine ⟨rfl, ?_⟩
  walk_at "qs"
  walk_at "qd"
  refine ⟨by decide, fun p hp => ?_⟩
  walk_at "qd"
  have hpa : a ≠ p := neA ha hp
  refine ⟨⟨_, by rw [updA_ne hpa]; exact ha⟩, ?_⟩
  refine for_enumA (ns.map U.int) (fun k ρ A2 => ∃ (ws : List Wr) (x y : Option U), ρ = [some (.ref a), some (.ref p), x, y] ∧ A2 = updA A p (.lst (ws.map Wr.toU)) ∧ okL ws = true ∧ (tupsL ws : Int) ≤ 94 - ((ns.length : Int) - k))
    ⟨[], _, _, rfl, rfl, rfl, by simp [tupsL]; omega⟩ (fun k ρ A2 _ ⟨_, _, _, _, e, _⟩ => by rw [e, updA_ne hpa]; exact ha) ?_ ?_
  · rintro k u ρ A2 hu ⟨ws, x, y, rfl, rfl, hok, hb⟩
    have hkl := (List.getElem?_eq_some_iff.mp hu).1
    rw [List.length_map] at hkl
    obtain ⟨n, _, rfl⟩ := map_get hu
    walk_at "qd"
    refine ⟨rfl, ⟨by decide, by decide, by decide⟩, by decide, _, by rw [updA_ne hpa]; exact ha, ?_⟩
    walk_at "qd"
    rw [List.length_map]
    refine ⟨p, _, _, ws, rfl, updA_same, hok, Int.emod_nonneg _ (by decide), by omega, by omega, fun ws' hok' hb' => ?_⟩
    exact ⟨ws', _, _, rfl, by rw [updA_updA], hok', by omega⟩
  · rintro ρ A2 ⟨ws, x, y, rfl, rfl, hok, hb⟩
    rw [List.length_map] at hb
    walk_at "qd"
    refine ⟨by decide, fun p1 hp1 => ?_⟩
    have e1 := Ext.new (o := .lst [U.str "row", U.str "bag", U.str "choice", U.str "ring"]) hp1
    obtain ⟨k, hk2⟩ := many_atU ((ns.map U.int).length : Int)
    refine ⟨_, e1 _ _ (by rw [updA_ne hpa]; exact ha), ?_⟩
    walk_at "qd"
    refine ⟨by decide, _, _, updA_same, hk2, _, e1 _ _ updA_same, tup2, ?_⟩
    refine fgx ((Ext.new hp).trans e1) ?_
    have := q k ws (by simpa [Wr.ok] using hok) (by simp only [Wr.tups]; omega)
    rw [Wr.toU_many] at this
    exact this
end
def asp_size : ASp := fun us A Q => ∃ w : Wr, us = [w.toU] ∧ w.ok = true ∧ w.tups ≤ 200 ∧ Q (.int (w.size : Nat)) A
def asp_key : ASp := fun us A Q => ∃ w : Wr, us = [w.toU] ∧ w.ok = true ∧ w.tups ≤ 200 ∧ Q w.keyU A
section
variable {P : Program} {w : World} {K : PySem.W.Frag} {mg : Str → Option Value} {base : Heap} {f_parts_of f_folded f_folded_over f_size_of f_size_by f_key_of f_key_by f_w_mix f_w_cell f_w_tuples f_w_put f_w_any f_w_size f_w_key f_w_alike f_w_other f_law a_KINDS a_MANY : Addr} {d_parts_of d_folded d_folded_over d_size_of d_size_by d_key_of d_key_by d_w_mix d_w_cell d_w_tuples d_w_put d_w_any d_w_size d_w_key d_w_alike d_w_other d_law : FuncData}
theorem ok_size_by (T : TX K mg f_parts_of f_folded f_folded_over f_size_of f_size_by f_key_of f_key_by f_w_mix f_w_cell f_w_tuples f_w_put f_w_any f_w_size f_w_key f_w_alike f_w_other f_law a_KINDS a_MANY d_parts_of d_folded d_folded_over d_size_of d_size_by d_key_of d_key_by d_w_mix d_w_cell d_w_tuples d_w_put d_w_any d_w_size d_w_key d_w_alike d_w_other d_law) : FnOk P w K mg base CX0 1 f_size_by d_size_by ["figure", "sizes"] (spOf K (asp_deed fun w => .int (w.size : Nat))) := by
  refine' Fun.okA T.F_size_by (sc := ?sc9) (body := ?bd9) ?hs9 ?hb9 sc_size_by ?hB9 ?hS9
  case hs9 => conv => lhs; whnf
  case hb9 => conv => lhs; whnf
  case hB9 => exact fun S cdv A outer s H E hr => ⟨_, (pss_cons (ps_if (pt_cmpR (o_eqD hr) (pe_ix o_ix (pv 0) pe_int (fun _ _ => rfl)) pe_str (nomark _)) (pss_one (ps_ret pe_int)) pss_nil)
      (pss_one (ps_ret (pe_callB (c_sum rfl) (by rfl) T.n_sum (by decide +kernel) (pa_cons (pv 1) pa_nil))))), (ab_seq (ab_ifs (ab_test (ab_op ab_eq (ab_op ab_ix ab_var ab_int) ab_str)) (ab_ret ab_int) ab_next)
      (ab_ret (ab_cb ab_sum (ab_cons ab_var ab_nil))))⟩
  rintro us A Q ⟨w, l, rfl, hl, hok, ht, q⟩
  refine ⟨rfl, ?_⟩
  walk_at "qs"
  rcases w.kinds with ⟨c, rfl⟩ | ⟨k, ps, rfl⟩ | hf
  · rw [Wr.toU]
    walk_at "qd"
    exact iteTt rfl (fg q)
  · rw [Wr.toU_many]
    walk_at "qd"
    refine iteFf (nbm k) ⟨ps.map fun w => ((w.size : Nat) : Int), by rw [hl, List.map_map]; rfl, fg ?_⟩
    rw [sum_sizes]; exact q
  · rw [Wr.toU_few hf]
    walk_at "qd"
    refine iteFf (nb_name hf.1) ⟨w.parts.map fun w => ((w.size : Nat) : Int), by rw [hl, List.map_map]; rfl, fg ?_⟩
    rw [sum_sizes, ← w.size_parts hf.1]; exact q
theorem ok_size_of (T : TX K mg f_parts_of f_folded f_folded_over f_size_of f_size_by f_key_of f_key_by f_w_mix f_w_cell f_w_tuples f_w_put f_w_any f_w_size f_w_key f_w_alike f_w_other f_law a_KINDS a_MANY d_parts_of d_folded d_folded_over d_size_of d_size_by d_key_of d_key_by d_w_mix d_w_cell d_w_tuples d_w_put d_w_any d_w_size d_w_key d_w_alike d_w_other d_law) : FnOk P w K mg base CX0 4 f_size_of d_size_of ["figure"] (spOf K asp_size) := by
  have G_folded := ok_folded (P := P) (w := w) (base := base) T 1 (by decide) (ok_size_by (P := P) (w := w) (base := base) T) T.F_size_by.kp T.B_size_by
  refine' Fun.okA T.F_size_of (sc := ?sc10) (body := ?bd10) ?hs10 ?hb10 sc_size_of ?hB10 ?hS10
  case hs10 => conv => lhs; whnf
  case hb10 => conv => lhs; whnf
  case hB10 => exact fun S cdv A outer s H E hr => ⟨_, (pss_one (ps_ret (pe_call (G_folded.mono (by first | decide | omega)) hr (by rfl) T.M_folded T.F_folded.kp T.B_folded .nil pass0 (pa_cons (pv 0) (pa_cons (pe_glob (v := .ref f_size_by) (by rfl) T.M_size_by rfl) pa_nil))))), (ab_ret (ab_call (ab_cons ab_var (ab_cons ab_ref ab_nil))))⟩
  rintro us A Q ⟨w, rfl, hok, ht, q⟩
  refine ⟨rfl, ?_⟩
  walk_at "qs"
  walk_at "qd"
  exact ⟨w, rfl, hok, ht, fg q⟩
theorem ok_key_by (T : TX K mg f_parts_of f_folded f_folded_over f_size_of f_size_by f_key_of f_key_by f_w_mix f_w_cell f_w_tuples f_w_put f_w_any f_w_size f_w_key f_w_alike f_w_other f_law a_KINDS a_MANY d_parts_of d_folded d_folded_over d_size_of d_size_by d_key_of d_key_by d_w_mix d_w_cell d_w_tuples d_w_put d_w_any d_w_size d_w_key d_w_alike d_w_other d_law) : FnOk P w K mg base CX0 1 f_key_by d_key_by ["figure", "keys"] (spOf K (asp_deed Wr.keyU)) := by
  refine' Fun.okA T.F_key_by (sc := ?sc11) (body := ?bd11) ?hs11 ?hb11 sc_key_by ?hB11 ?hS11
  case hs11 => conv => lhs; whnf
  case hb11 => conv => lhs; whnf
  case hB11 => exact fun S cdv A outer s H E hr => ⟨_, (pss_cons (ps_if (pt_cmpR (o_eqD hr) (pe_ix o_ix (pv 0) pe_int (fun _ _ => rfl)) pe_str (nomark _)) (pss_one (ps_ret (pe_tup (pa_cons pe_int (pa_cons (pe_bm PySem.F.plainAttrs_tuple PySem.F.slot_tuple_index PySem.F.type_tuple_index mt_idxT (pe_gv (by rfl) T.c_KINDS) (pa_cons pe_str pa_nil)) (pa_cons (pe_ix o_ix (pv 0) pe_int (fun _ _ => rfl)) pa_nil)))))) pss_nil)
      (pss_cons (ps_set (i := 2) S.nd rfl (Or.inl rfl) (pe_callB (c_sum rfl) (by rfl) T.n_sum (by decide +kernel) (pa_cons (pe_comp (ts := ["key"]) (frs' := []) (cl := []) rfl ⟨rfl, rfl, (by decide +kernel), (by decide +kernel), (fun _ z => nomatch z), (noFree_has rfl rfl), (fun _ z => nomatch z)⟩ (pj_seq (pv 1)) (fun _ _ _ _ => pg_name (i := 0) nd1 rfl (Or.inl rfl) (.inr rfl)) (fun _ _ _ _ => pifs_nil) (fun _ _ _ _ => by exact (pe_ix (k_ix K rfl) (pv 0) pe_int (fun _ _ => rfl)))) pa_nil)))
      (pss_one (ps_ret (pe_op o_addW (pe_tup (pa_cons (pv 2) (pa_cons (pe_bm PySem.F.plainAttrs_tuple PySem.F.slot_tuple_index PySem.F.type_tuple_index mt_idxT (pe_gv (by rfl) T.c_KINDS) (pa_cons (pe_ix o_ix (pv 0) pe_int (fun _ _ => rfl)) pa_nil)) pa_nil))) (pe_callTy c_tuple (by rfl) T.n_tuple (by decide +kernel) (pa_cons (pv 1) pa_nil))))))), (ab_seq (ab_ifs (ab_test (ab_op ab_eq (ab_op ab_ix ab_var ab_int) ab_str)) (ab_ret (ab_tup (ab_cons ab_int (ab_cons (ab_idxC ["nothing", "bead", "left", "right", "pair", "row", "bag", "choice", "ring"] T.y_KINDS T.q_KINDS (ab_cons ab_str ab_nil)) (ab_cons (ab_op ab_ix ab_var ab_int) ab_nil))))) ab_next)
      (ab_seq (ab_asg (ab_cb ab_sum (ab_cons (ab_comp (ab_jof ab_yseq ab_var) ab_name ab_true (ab_op ab_ix ab_var ab_int)) ab_nil)) ab_name)
      (ab_ret (ab_op ab_add (ab_tup (ab_cons ab_var (ab_cons (ab_idxC ["nothing", "bead", "left", "right", "pair", "row", "bag", "choice", "ring"] T.y_KINDS T.q_KINDS (ab_cons (ab_op ab_ix ab_var ab_int) ab_nil)) ab_nil))) (ab_cb ab_tupof (ab_cons ab_var ab_nil))))))⟩
  rintro us A Q ⟨w, l, rfl, hl, hok, ht, q⟩
  refine ⟨rfl, ?_⟩
  walk_at "qs"
  have hpt := w.parts_tups
  have hpl := len_tups w.parts
  rcases bead_or w with ⟨c, rfl⟩ | hb
  · rw [Wr.toU]
    walk_at "qd"
    refine iteTt rfl ?_
    walk_at "qd"
    refine ⟨_, 1, rfl, (Wr.bead c).kidx_at.1, (Wr.bead c).kidx_at.2, ?_⟩
    walk_at "qd"
    exact ⟨tup3, fg q⟩
  · obtain ⟨rest, e⟩ : ∃ rest, w.toU = .tup (.str w.name :: rest) := by
      rcases w.kinds with ⟨c, rfl⟩ | ⟨k, ps, rfl⟩ | hf
      · exact absurd rfl (hb c)
      · exact ⟨_, Wr.toU_many k ps⟩
      · exact ⟨_, Wr.toU_few hf⟩
    rw [e]
    walk_at "qd"
    refine iteFf (nb_name hb) ?_
    walk_at "qd"
    refine ⟨⟨_, hl⟩, fun p hp => ?_⟩
    walk_at "qc"
    refine cl_mapW w.parts Wr.keyU (fun w => .int (w.size : Nat)) hp (by omega) (fun k A2 _ he => ⟨_, he _ _ hl, rfl⟩) (fun x A2 hx he Cy hc => ?_) ?_
    · obtain ⟨r, e2⟩ := x.keyU_head
      rw [e2]
      walk_at "qd"
      exact hc
    · walk_at "qd"
      refine ⟨w.parts.map fun w => ((w.size : Nat) : Int), by rw [updA_same, List.map_map]; rfl, ?_⟩
      walk_at "qd"
      refine ⟨w.name, w.kidx, rfl, w.kidx_at.1, w.kidx_at.2, tup2, _, Ext.new hp _ _ hl, ?_⟩
      walk_at "qd"
      refine ⟨line1000 (by simp only [List.length_cons, List.length_nil, List.length_map]; omega), fgx (Ext.new hp) ?_⟩
      rw [sum_sizes, ← w.size_parts hb]
      rw [w.keyU_parts hb] at q
      exact q
theorem ok_key_of (T : TX K mg f_parts_of f_folded f_folded_over f_size_of f_size_by f_key_of f_key_by f_w_mix f_w_cell f_w_tuples f_w_put f_w_any f_w_size f_w_key f_w_alike f_w_other f_law a_KINDS a_MANY d_parts_of d_folded d_folded_over d_size_of d_size_by d_key_of d_key_by d_w_mix d_w_cell d_w_tuples d_w_put d_w_any d_w_size d_w_key d_w_alike d_w_other d_law) : FnOk P w K mg base CX0 4 f_key_of d_key_of ["figure"] (spOf K asp_key) := by
  have G_folded := ok_folded (P := P) (w := w) (base := base) T 1 (by decide) (ok_key_by (P := P) (w := w) (base := base) T) T.F_key_by.kp T.B_key_by
  refine' Fun.okA T.F_key_of (sc := ?sc12) (body := ?bd12) ?hs12 ?hb12 sc_key_of ?hB12 ?hS12
  case hs12 => conv => lhs; whnf
  case hb12 => conv => lhs; whnf
  case hB12 => exact fun S cdv A outer s H E hr => ⟨_, (pss_one (ps_ret (pe_call (G_folded.mono (by first | decide | omega)) hr (by rfl) T.M_folded T.F_folded.kp T.B_folded .nil pass0 (pa_cons (pv 0) (pa_cons (pe_glob (v := .ref f_key_by) (by rfl) T.M_key_by rfl) pa_nil))))), (ab_ret (ab_call (ab_cons ab_var (ab_cons ab_ref ab_nil))))⟩
  rintro us A Q ⟨w, rfl, hok, ht, q⟩
  refine ⟨rfl, ?_⟩
  walk_at "qs"
  walk_at "qd"
  exact ⟨w, rfl, hok, ht, fg q⟩
end
def asp_lsize (n : Nat) : ASp := fun us A Q => ∃ w : Wr, us = [w.toU] ∧ w.dep ≤ n ∧ w.tups ≤ 900 ∧ Q (.int (w.size : Nat)) A
def asp_lkey (n : Nat) : ASp := fun us A Q => ∃ w : Wr, us = [w.toU] ∧ w.dep ≤ n ∧ w.tups ≤ 900 ∧ Q w.keyU A
def asp_alike (n : Nat) : ASp := fun us A Q => ∃ d : U, us = [d, d] ∧ d.pl = true ∧ d.dp ≤ n ∧ Q (.bl true) A
section
variable {P : Program} {w : World} {K : PySem.W.Frag} {mg : Str → Option Value} {base : Heap} {f_parts_of f_folded f_folded_over f_size_of f_size_by f_key_of f_key_by f_w_mix f_w_cell f_w_tuples f_w_put f_w_any f_w_size f_w_key f_w_alike f_w_other f_law a_KINDS a_MANY : Addr} {d_parts_of d_folded d_folded_over d_size_of d_size_by d_key_of d_key_by d_w_mix d_w_cell d_w_tuples d_w_put d_w_any d_w_size d_w_key d_w_alike d_w_other d_law : FuncData}
theorem ok_lsize (T : TX K mg f_parts_of f_folded f_folded_over f_size_of f_size_by f_key_of f_key_by f_w_mix f_w_cell f_w_tuples f_w_put f_w_any f_w_size f_w_key f_w_alike f_w_other f_law a_KINDS a_MANY d_parts_of d_folded d_folded_over d_size_of d_size_by d_key_of d_key_by d_w_mix d_w_cell d_w_tuples d_w_put d_w_any d_w_size d_w_key d_w_alike d_w_other d_law) : ∀ n : Nat, FnOk P w K mg base CX0 (n + 1) f_w_size d_w_size ["_law_figure"] (spOf K (asp_lsize n)) := by
  intro n
  induction n with
  | zero => exact none_yet T.F_w_size sc_w_size fun us A Q ⟨w, _, hd, _⟩ => by have := w.dep_pos; omega
  | succ n ih =>
    have G_w_size := ih
    refine' Fun.okA T.F_w_size (sc := ?sc13) (body := ?bd13) ?hs13 ?hb13 sc_w_size ?hB13 ?hS13
    case hs13 => conv => lhs; whnf
    case hb13 => conv => lhs; whnf
    case hB13 => exact fun S cdv A outer s H E hr => ⟨_, (pss_cons (ps_if (pt_cmpR (o_eqD hr) (pe_ix o_ix (pv 0) pe_int (fun _ _ => rfl)) pe_str (nomark _)) (pss_one (ps_ret pe_int)) pss_nil)
      (pss_cons (ps_if (pt_cmpR o_in (pe_ix o_ix (pv 0) pe_int (fun _ _ => rfl)) (pe_tup (pa_strs (xs := ["row", "bag", "choice", "ring"]) rfl)) (by with_unfolding_all rfl)) (pss_one (ps_ret (pe_callB (c_sum rfl) (by rfl) T.n_sum (by decide +kernel) (pa_cons (pe_comp (ts := ["_law_part"]) (frs' := []) (cl := []) rfl ⟨rfl, rfl, (by decide +kernel), (by decide +kernel), (fun _ z => nomatch z), (noFree_has rfl rfl), (fun _ z => nomatch z)⟩ (pj_seq (pe_ix o_ix (pv 0) pe_int (fun _ _ => rfl))) (fun _ _ _ _ => pg_name (i := 0) nd1 rfl (Or.inl rfl) (.inr rfl)) (fun _ _ _ _ => pifs_nil) (fun _ _ _ _ => by exact (pe_call (G_w_size.mono (by first | decide | omega)) hr (by rfl) T.M_w_size T.F_w_size.kp T.B_w_size .nil pass0 (pa_cons (pv 0) pa_nil)))) pa_nil)))) pss_nil)
      (pss_one (ps_ret (pe_callB (c_sum rfl) (by rfl) T.n_sum (by decide +kernel) (pa_cons (pe_comp (ts := ["_law_part"]) (frs' := []) (cl := []) rfl ⟨rfl, rfl, (by decide +kernel), (by decide +kernel), (fun _ z => nomatch z), (noFree_has rfl rfl), (fun _ z => nomatch z)⟩ (pj_seq (pe_slice o_slW (pv 0) (po_some pe_int) po_none)) (fun _ _ _ _ => pg_name (i := 0) nd1 rfl (Or.inl rfl) (.inr rfl)) (fun _ _ _ _ => pifs_nil) (fun _ _ _ _ => by exact (pe_call (G_w_size.mono (by first | decide | omega)) hr (by rfl) T.M_w_size T.F_w_size.kp T.B_w_size .nil pass0 (pa_cons (pv 0) pa_nil)))) pa_nil)))))), (ab_seq (ab_ifs (ab_test (ab_op ab_eq (ab_op ab_ix ab_var ab_int) ab_str)) (ab_ret ab_int) ab_next)
      (ab_seq (ab_ifs (ab_test (ab_op ab_in (ab_op ab_ix ab_var ab_int) (ab_tup ab_strs))) (ab_ret (ab_cb ab_sum (ab_cons (ab_comp (ab_jof ab_yseq (ab_op ab_ix ab_var ab_int)) ab_name ab_true (ab_call (ab_cons ab_var ab_nil))) ab_nil))) ab_next)
      (ab_ret (ab_cb ab_sum (ab_cons (ab_comp (ab_jof ab_yseq (ab_sl ab_xsl ab_var (ab_part ab_int) ab_nopart)) ab_name ab_true (ab_call (ab_cons ab_var ab_nil))) ab_nil)))))⟩
    rintro us A Q ⟨w, rfl, hd, ht, q⟩
    refine ⟨rfl, ?_⟩
    have hpd := w.parts_dep
    have hpt := w.parts_tups
    have hpl := len_tups w.parts
    have go : ∀ l, A l = none → (∀ c, w ≠ .bead c) → aCL (jFix (w.parts.map Wr.toU)) (bName 0) aTrue (aCall (asp_lsize n) (aCons (aVar 0) aNil)) l (fun x A2 => xSum [x] A2 (Fg Q)) [none] (updA A l (.lst [])) := fun l hl hb => by
      refine cl_mapW w.parts Wr.toU (fun w => .int (w.size : Nat)) hl (by omega) (fun _ _ _ _ => rfl) (fun x A2 hx he Cy hc => ?_) ?_
      · walk_at "qd"
        have := depL_mem hx
        have := tupsL_mem hx
        exact ⟨x, rfl, by omega, by omega, hc⟩
      · walk_at "qd"
        refine ⟨w.parts.map fun w => ((w.size : Nat) : Int), by rw [updA_same, List.map_map]; rfl, fgx (Ext.new hl) ?_⟩
        rw [sum_sizes, ← w.size_parts hb]
        exact q
    walk_at "qs"
    rcases w.kinds with ⟨c, rfl⟩ | ⟨k, ps, rfl⟩ | hf
    · rw [Wr.toU]
      walk_at "qd"
      exact iteTt rfl (fg q)
    · rw [Wr.toU_many]
      walk_at "qd"
      refine iteFf (nbm k) ?_
      walk_at "qd"
      refine ⟨by decide, rfl, rfl, iteTt (in_manyU k) ?_⟩
      walk_at "qd"
      exact fun l hl => go l hl (fun c => by simp)
    · rw [Wr.toU_few hf]
      walk_at "qd"
      refine iteFf (nb_name hf.1) ?_
      walk_at "qd"
      refine ⟨by decide, rfl, rfl, iteFf (nin_manyU hf.2) ?_⟩
      walk_at "qd"
      exact fun l hl => go l hl hf.1
theorem ok_lkey (T : TX K mg f_parts_of f_folded f_folded_over f_size_of f_size_by f_key_of f_key_by f_w_mix f_w_cell f_w_tuples f_w_put f_w_any f_w_size f_w_key f_w_alike f_w_other f_law a_KINDS a_MANY d_parts_of d_folded d_folded_over d_size_of d_size_by d_key_of d_key_by d_w_mix d_w_cell d_w_tuples d_w_put d_w_any d_w_size d_w_key d_w_alike d_w_other d_law) : ∀ n : Nat, FnOk P w K mg base CX0 (n + 2) f_w_key d_w_key ["_law_figure"] (spOf K (asp_lkey n)) := by
  intro n
  induction n with
  | zero => exact none_yet T.F_w_key sc_w_key fun us A Q ⟨w, _, hd, _⟩ => by have := w.dep_pos; omega
  | succ n ih =>
    have G_w_key := ih
    have G_w_size := ok_lsize (P := P) (w := w) (base := base) T (n + 1)
    refine' Fun.okA T.F_w_key (sc := ?sc14) (body := ?bd14) ?hs14 ?hb14 sc_w_key ?hB14 ?hS14
    case hs14 => conv => lhs; whnf
    case hb14 => conv => lhs; whnf
    case hB14 => exact fun S cdv A outer s H E hr => ⟨_, (pss_cons (ps_set (i := 1) S.nd rfl (Or.inl rfl) (pe_lst (pa_strs (xs := ["nothing", "bead", "left", "right", "pair", "row", "bag", "choice", "ring"]) rfl)))
      (pss_cons (ps_set (i := 2) S.nd rfl (Or.inl rfl) (pe_tup (pa_cons (pe_call (G_w_size.mono (by first | decide | omega)) hr (by rfl) T.M_w_size T.F_w_size.kp T.B_w_size .nil pass0 (pa_cons (pv 0) pa_nil)) (pa_cons (pe_bm PySem.F.plainAttrs_list PySem.F.slot_list_index PySem.F.type_list_index mt_idxL (pv 1) (pa_cons (pe_ix o_ix (pv 0) pe_int (fun _ _ => rfl)) pa_nil)) pa_nil))))
      (pss_cons (ps_if (pt_cmpR (o_eqD hr) (pe_ix o_ix (pv 0) pe_int (fun _ _ => rfl)) pe_str (nomark _)) (pss_one (ps_ret (pe_op o_addW (pv 2) (pe_tup (pa_cons (pe_ix o_ix (pv 0) pe_int (fun _ _ => rfl)) pa_nil))))) pss_nil)
      (pss_cons (ps_if (pt_cmpR o_in (pe_ix o_ix (pv 0) pe_int (fun _ _ => rfl)) (pe_tup (pa_strs (xs := ["row", "bag", "choice", "ring"]) rfl)) (by with_unfolding_all rfl)) (pss_one (ps_ret (pe_op o_addW (pv 2) (pe_callTy c_tuple (by rfl) T.n_tuple (by decide +kernel) (pa_cons (pe_comp (ts := ["_law_part"]) (frs' := []) (cl := []) rfl ⟨rfl, rfl, (by decide +kernel), (by decide +kernel), (fun _ z => nomatch z), (noFree_has rfl rfl), (fun _ z => nomatch z)⟩ (pj_seq (pe_ix o_ix (pv 0) pe_int (fun _ _ => rfl))) (fun _ _ _ _ => pg_name (i := 0) nd1 rfl (Or.inl rfl) (.inr rfl)) (fun _ _ _ _ => pifs_nil) (fun _ _ _ _ => by exact (pe_call (G_w_key.mono (by first | decide | omega)) hr (by rfl) T.M_w_key T.F_w_key.kp T.B_w_key .nil pass0 (pa_cons (pv 0) pa_nil)))) pa_nil))))) pss_nil)
      (pss_one (ps_ret (pe_op o_addW (pv 2) (pe_callTy c_tuple (by rfl) T.n_tuple (by decide +kernel) (pa_cons (pe_comp (ts := ["_law_part"]) (frs' := []) (cl := []) rfl ⟨rfl, rfl, (by decide +kernel), (by decide +kernel), (fun _ z => nomatch z), (noFree_has rfl rfl), (fun _ z => nomatch z)⟩ (pj_seq (pe_slice o_slW (pv 0) (po_some pe_int) po_none)) (fun _ _ _ _ => pg_name (i := 0) nd1 rfl (Or.inl rfl) (.inr rfl)) (fun _ _ _ _ => pifs_nil) (fun _ _ _ _ => by exact (pe_call (G_w_key.mono (by first | decide | omega)) hr (by rfl) T.M_w_key T.F_w_key.kp T.B_w_key .nil pass0 (pa_cons (pv 0) pa_nil)))) pa_nil))))))))), (ab_seq (ab_asg (ab_lst ab_strs) ab_name)
      (ab_seq (ab_asg (ab_tup (ab_cons (ab_call (ab_cons ab_var ab_nil)) (ab_cons (ab_bm ab_isLst ab_idxL ab_var (ab_cons (ab_op ab_ix ab_var ab_int) ab_nil)) ab_nil))) ab_name)
      (ab_seq (ab_ifs (ab_test (ab_op ab_eq (ab_op ab_ix ab_var ab_int) ab_str)) (ab_ret (ab_op ab_add ab_var (ab_tup (ab_cons (ab_op ab_ix ab_var ab_int) ab_nil)))) ab_next)
      (ab_seq (ab_ifs (ab_test (ab_op ab_in (ab_op ab_ix ab_var ab_int) (ab_tup ab_strs))) (ab_ret (ab_op ab_add ab_var (ab_cb ab_tupof (ab_cons (ab_comp (ab_jof ab_yseq (ab_op ab_ix ab_var ab_int)) ab_name ab_true (ab_call (ab_cons ab_var ab_nil))) ab_nil)))) ab_next)
      (ab_ret (ab_op ab_add ab_var (ab_cb ab_tupof (ab_cons (ab_comp (ab_jof ab_yseq (ab_sl ab_xsl ab_var (ab_part ab_int) ab_nopart)) ab_name ab_true (ab_call (ab_cons ab_var ab_nil))) ab_nil))))))))⟩
    rintro us A Q ⟨w, rfl, hd, ht, q⟩
    refine ⟨rfl, ?_⟩
    have hpd := w.parts_dep
    have hpt := w.parts_tups
    have hpl := len_tups w.parts
    walk_at "qs"
    walk_at "qd"
    refine ⟨by decide, fun pk hpk => ?_⟩
    walk_at "qd"
    refine ⟨w, rfl, hd, ht, ?_⟩
    have e0 := Ext.new (o := .lst [U.str "nothing", .str "bead", .str "left", .str "right", .str "pair", .str "row", .str "bag", .str "choice", .str "ring"]) hpk
    have go : ∀ l A2, Ext A A2 → A2 l = none → (∀ c, w ≠ .bead c) → aCL (jFix (w.parts.map Wr.toU)) (bName 0) aTrue (aCall (asp_lkey n) (aCons (aVar 0) aNil)) l (fun x A2 => xTupOf [x] A2 fun z A3 => xAdd (.tup [.int (w.size : Nat), .int (w.kidx : Nat)]) z A3 (Fg Q)) [none] (updA A2 l (.lst [])) := fun l A2 e hl hb => by
      refine cl_mapW w.parts Wr.toU Wr.keyU hl (by omega) (fun _ _ _ _ => rfl) (fun x A2 hx he Cy hc => ?_) ?_
      · walk_at "qd"
        have := depL_mem hx
        have := tupsL_mem hx
        exact ⟨x, rfl, by omega, by omega, hc⟩
      · walk_at "qd"
        refine ⟨_, updA_same, ?_⟩
        walk_at "qd"
        refine ⟨line1000 (by simp only [List.length_cons, List.length_nil, List.length_map]; omega), fgx (e.trans (Ext.new hl)) ?_⟩
        rw [w.keyU_parts hb] at q
        exact q
    rcases w.kinds with ⟨c, rfl⟩ | ⟨k, ps, rfl⟩ | hf
    · rw [Wr.toU]
      walk_at "qd"
      refine ⟨⟨_, updA_same⟩, kindS, 1, updA_same, (Wr.bead c).kidx_at.1, (Wr.bead c).kidx_at.2, ?_⟩
      walk_at "qd"
      refine ⟨tup2, iteTt rfl ?_⟩
      walk_at "qd"
      exact ⟨tup1, line1000 (by simp), fgx e0 q⟩
    · rw [Wr.toU_many]
      walk_at "qd"
      refine ⟨⟨_, updA_same⟩, kindS, (Wr.many k ps).kidx, updA_same, (Wr.many k ps).kidx_at.1, (Wr.many k ps).kidx_at.2, ?_⟩
      walk_at "qd"
      refine ⟨tup2, iteFf (nbm k) ?_⟩
      walk_at "qd"
      refine ⟨by decide, rfl, rfl, iteTt (in_manyU k) ?_⟩
      walk_at "qd"
      exact fun l hl => go l _ e0 hl (fun c => by simp)
    · rw [Wr.toU_few hf]
      walk_at "qd"
      refine ⟨⟨_, updA_same⟩, kindS, w.kidx, updA_same, w.kidx_at.1, w.kidx_at.2, ?_⟩
      walk_at "qd"
      refine ⟨tup2, iteFf (nb_name hf.1) ?_⟩
      walk_at "qd"
      refine ⟨by decide, rfl, rfl, iteFf (nin_manyU hf.2) ?_⟩
      walk_at "qd"
      exact fun l hl => go l _ e0 hl hf.1
end
section
variable {P : Program} {w : World} {K : PySem.W.Frag} {mg : Str → Option Value} {base : Heap} {f_parts_of f_folded f_folded_over f_size_of f_size_by f_key_of f_key_by f_w_mix f_w_cell f_w_tuples f_w_put f_w_any f_w_size f_w_key f_w_alike f_w_other f_law a_KINDS a_MANY : Addr} {d_parts_of d_folded d_folded_over d_size_of d_size_by d_key_of d_key_by d_w_mix d_w_cell d_w_tuples d_w_put d_w_any d_w_size d_w_key d_w_alike d_w_other d_law : FuncData}
theorem ok_alike (T : TX K mg f_parts_of f_folded f_folded_over f_size_of f_size_by f_key_of f_key_by f_w_mix f_w_cell f_w_tuples f_w_put f_w_any f_w_size f_w_key f_w_alike f_w_other f_law a_KINDS a_MANY d_parts_of d_folded d_folded_over d_size_of d_size_by d_key_of d_key_by d_w_mix d_w_cell d_w_tuples d_w_put d_w_any d_w_size d_w_key d_w_alike d_w_other d_law) : ∀ n : Nat, FnOk P w K mg base CX0 (n + 1) f_w_alike d_w_alike ["_law_found", "_law_due"] (spOf K (asp_alike n)) := by
  intro n
  induction n with
  | zero =>
    have G_w_alike : FnOk P w K mg base CX0 0 f_w_alike d_w_alike ["_law_found", "_law_due"] (spOf K (fun _ _ _ => False)) := none_yet T.F_w_alike sc_w_alike fun us A Q h => h
    refine' Fun.okA T.F_w_alike (sc := ?sc15) (body := ?bd15) ?hs15 ?hb15 sc_w_alike ?hB15 ?hS15
    case hs15 => conv => lhs; whnf
    case hb15 => conv => lhs; whnf
    case hB15 => exact fun S cdv A outer s H E hr => ⟨_, (pss_cons (ps_if (pt_val (pe_callB c_isW (by rfl) T.n_isinstance (by decide +kernel) (pa_cons (pv 1) (pa_cons (pe_ty (T := "tuple") (by rfl) T.n_tuple (by decide +kernel)) pa_nil)))) (pss_cons (ps_if ((pw_or (pt_not (pt_val (pe_callB c_isW (by rfl) T.n_isinstance (by decide +kernel) (pa_cons (pv 0) (pa_cons (pe_ty (T := "tuple") (by rfl) T.n_tuple (by decide +kernel)) pa_nil))))) (pw_or1 (pt_cmpR (o_neD hr) (pe_callB c_len (by rfl) T.n_len (by decide +kernel) (pa_cons (pv 0) pa_nil)) (pe_callB c_len (by rfl) T.n_len (by decide +kernel) (pa_cons (pv 1) pa_nil)) (nomark _))))).pt (pss_one (ps_ret pe_bl)) pss_nil)
      (pss_one (ps_ret (pe_callB (call_all rfl) (by rfl) T.n_all (by decide +kernel) (pa_cons (pe_comp (ts := ["_law_one", "_law_other_here"]) (frs' := []) (cl := []) rfl ⟨rfl, rfl, (by decide +kernel), (by decide +kernel), (fun _ z => nomatch z), (noFree_has rfl rfl), (fun _ z => nomatch z)⟩ (pj_zipG (by rfl) T.n_zip (pa_cons (pv 0) (pa_cons (pv 1) pa_nil))) (fun _ _ _ _ => pg_tupK K rfl 2 rfl (pgs_cons (pg_name (i := 0) (show List.Nodup (["_law_one", "_law_other_here"] : List Str) from by decide +kernel) rfl (Or.inl rfl) (.inr rfl)) (pgs_cons (pg_name (i := 1) (show List.Nodup (["_law_one", "_law_other_here"] : List Str) from by decide +kernel) rfl (Or.inl rfl) (.inr rfl)) pgs_nil)) (by rfl) (by rfl)) (fun _ _ _ _ => pifs_nil) (fun _ _ _ _ => by exact (pe_call (G_w_alike.mono (by first | decide | omega)) hr (by rfl) T.M_w_alike T.F_w_alike.kp T.B_w_alike .nil pass0 (pa_cons (pv 0) (pa_cons (pv 1) pa_nil))))) pa_nil))))) pss_nil)
      (pss_cons (ps_if (pt_val (pe_callB c_isW (by rfl) T.n_isinstance (by decide +kernel) (pa_cons (pv 1) (pa_cons (pe_ty (T := "int") (by rfl) T.n_int (by decide +kernel)) pa_nil)))) (pss_one (ps_ret (pe_and (pe_callB c_isW (by rfl) T.n_isinstance (by decide +kernel) (pa_cons (pv 0) (pa_cons (pe_ty (T := "int") (by rfl) T.n_int (by decide +kernel)) pa_nil))) (pe_and (pe_not (pe_callB c_isW (by rfl) T.n_isinstance (by decide +kernel) (pa_cons (pv 0) (pa_cons (pe_ty (T := "bool") (by rfl) T.n_bool (by decide +kernel)) pa_nil)))) (pe_one (pe_cmpR (o_eqD hr) (pv 0) (pv 1) (nomark _))))))) pss_nil)
      (pss_one (ps_ret (pe_and (pe_callB c_isW (by rfl) T.n_isinstance (by decide +kernel) (pa_cons (pv 0) (pa_cons (pe_ty (T := "str") (by rfl) T.n_str (by decide +kernel)) pa_nil))) (pe_one (pe_cmpR (o_eqD hr) (pv 0) (pv 1) (nomark _)))))))), (ab_seq (ab_ifs (ab_tb (ab_cb ab_isi (ab_cons ab_var (ab_cons ab_ty ab_nil)))) (ab_seq (ab_ifs (ab_or (ab_not (ab_tb (ab_cb ab_isi (ab_cons ab_var (ab_cons ab_ty ab_nil))))) (ab_test (ab_op ab_ne (ab_cb ab_len (ab_cons ab_var ab_nil)) (ab_cb ab_len (ab_cons ab_var ab_nil))))) (ab_ret ab_bl) ab_next)
      (ab_ret (ab_cb ab_all (ab_cons (ab_comp (ab_jargs ab_yzipG (ab_cons ab_var (ab_cons ab_var ab_nil))) (ab_gtup (ab_gcons ab_name (ab_gcons ab_name ab_gnil))) ab_true (ab_call (ab_cons ab_var (ab_cons ab_var ab_nil)))) ab_nil)))) ab_next)
      (ab_seq (ab_ifs (ab_tb (ab_cb ab_isi (ab_cons ab_var (ab_cons ab_ty ab_nil)))) (ab_ret (ab_andv (ab_cb ab_isi (ab_cons ab_var (ab_cons ab_ty ab_nil))) (ab_andv (ab_notv (ab_cb ab_isi (ab_cons ab_var (ab_cons ab_ty ab_nil)))) (ab_op ab_eq ab_var ab_var)))) ab_next)
      (ab_ret (ab_andv (ab_cb ab_isi (ab_cons ab_var (ab_cons ab_ty ab_nil))) (ab_op ab_eq ab_var ab_var)))))⟩
    rintro us A Q ⟨d, rfl, hp, hd, q⟩
    refine ⟨rfl, ?_⟩
    walk_at "qs"
    cases d with
    | int i =>
      walk_at "qd"
      refine ⟨by decide, trivial, iteFf rfl ?_⟩
      walk_at "qd"
      refine ⟨by decide, trivial, iteTt rfl ?_⟩
      walk_at "qd"
      refine ⟨by decide, trivial, iteTt rfl ?_⟩
      walk_at "qd"
      refine ⟨by decide, trivial, iteTt rfl ?_⟩
      walk_at "qd"
      simp only [decide_true]
      exact fg q
    | str x =>
      walk_at "qd"
      refine ⟨by decide, trivial, iteFf rfl ?_⟩
      walk_at "qd"
      refine ⟨by decide, trivial, iteFf rfl ?_⟩
      walk_at "qd"
      refine ⟨by decide, trivial, iteTt rfl ?_⟩
      walk_at "qd"
      simp only [decide_true]
      exact fg q
    | tup us => simp only [U.dp] at hd; omega
    | _ => cases hp
  | succ n ih =>
    have G_w_alike := ih
    refine' Fun.okA T.F_w_alike (sc := ?sc16) (body := ?bd16) ?hs16 ?hb16 sc_w_alike ?hB16 ?hS16
    case hs16 => conv => lhs; whnf
    case hb16 => conv => lhs; whnf
    case hB16 => exact fun S cdv A outer s H E hr => ⟨_, (pss_cons (ps_if (pt_val (pe_callB c_isW (by rfl) T.n_isinstance (by decide +kernel) (pa_cons (pv 1) (pa_cons (pe_ty (T := "tuple") (by rfl) T.n_tuple (by decide +kernel)) pa_nil)))) (pss_cons (ps_if ((pw_or (pt_not (pt_val (pe_callB c_isW (by rfl) T.n_isinstance (by decide +kernel) (pa_cons (pv 0) (pa_cons (pe_ty (T := "tuple") (by rfl) T.n_tuple (by decide +kernel)) pa_nil))))) (pw_or1 (pt_cmpR (o_neD hr) (pe_callB c_len (by rfl) T.n_len (by decide +kernel) (pa_cons (pv 0) pa_nil)) (pe_callB c_len (by rfl) T.n_len (by decide +kernel) (pa_cons (pv 1) pa_nil)) (nomark _))))).pt (pss_one (ps_ret pe_bl)) pss_nil)
      (pss_one (ps_ret (pe_callB (call_all rfl) (by rfl) T.n_all (by decide +kernel) (pa_cons (pe_comp (ts := ["_law_one", "_law_other_here"]) (frs' := []) (cl := []) rfl ⟨rfl, rfl, (by decide +kernel), (by decide +kernel), (fun _ z => nomatch z), (noFree_has rfl rfl), (fun _ z => nomatch z)⟩ (pj_zipG (by rfl) T.n_zip (pa_cons (pv 0) (pa_cons (pv 1) pa_nil))) (fun _ _ _ _ => pg_tupK K rfl 2 rfl (pgs_cons (pg_name (i := 0) (show List.Nodup (["_law_one", "_law_other_here"] : List Str) from by decide +kernel) rfl (Or.inl rfl) (.inr rfl)) (pgs_cons (pg_name (i := 1) (show List.Nodup (["_law_one", "_law_other_here"] : List Str) from by decide +kernel) rfl (Or.inl rfl) (.inr rfl)) pgs_nil)) (by rfl) (by rfl)) (fun _ _ _ _ => pifs_nil) (fun _ _ _ _ => by exact (pe_call (G_w_alike.mono (by first | decide | omega)) hr (by rfl) T.M_w_alike T.F_w_alike.kp T.B_w_alike .nil pass0 (pa_cons (pv 0) (pa_cons (pv 1) pa_nil))))) pa_nil))))) pss_nil)
      (pss_cons (ps_if (pt_val (pe_callB c_isW (by rfl) T.n_isinstance (by decide +kernel) (pa_cons (pv 1) (pa_cons (pe_ty (T := "int") (by rfl) T.n_int (by decide +kernel)) pa_nil)))) (pss_one (ps_ret (pe_and (pe_callB c_isW (by rfl) T.n_isinstance (by decide +kernel) (pa_cons (pv 0) (pa_cons (pe_ty (T := "int") (by rfl) T.n_int (by decide +kernel)) pa_nil))) (pe_and (pe_not (pe_callB c_isW (by rfl) T.n_isinstance (by decide +kernel) (pa_cons (pv 0) (pa_cons (pe_ty (T := "bool") (by rfl) T.n_bool (by decide +kernel)) pa_nil)))) (pe_one (pe_cmpR (o_eqD hr) (pv 0) (pv 1) (nomark _))))))) pss_nil)
      (pss_one (ps_ret (pe_and (pe_callB c_isW (by rfl) T.n_isinstance (by decide +kernel) (pa_cons (pv 0) (pa_cons (pe_ty (T := "str") (by rfl) T.n_str (by decide +kernel)) pa_nil))) (pe_one (pe_cmpR (o_eqD hr) (pv 0) (pv 1) (nomark _)))))))), (ab_seq (ab_ifs (ab_tb (ab_cb ab_isi (ab_cons ab_var (ab_cons ab_ty ab_nil)))) (ab_seq (ab_ifs (ab_or (ab_not (ab_tb (ab_cb ab_isi (ab_cons ab_var (ab_cons ab_ty ab_nil))))) (ab_test (ab_op ab_ne (ab_cb ab_len (ab_cons ab_var ab_nil)) (ab_cb ab_len (ab_cons ab_var ab_nil))))) (ab_ret ab_bl) ab_next)
      (ab_ret (ab_cb ab_all (ab_cons (ab_comp (ab_jargs ab_yzipG (ab_cons ab_var (ab_cons ab_var ab_nil))) (ab_gtup (ab_gcons ab_name (ab_gcons ab_name ab_gnil))) ab_true (ab_call (ab_cons ab_var (ab_cons ab_var ab_nil)))) ab_nil)))) ab_next)
      (ab_seq (ab_ifs (ab_tb (ab_cb ab_isi (ab_cons ab_var (ab_cons ab_ty ab_nil)))) (ab_ret (ab_andv (ab_cb ab_isi (ab_cons ab_var (ab_cons ab_ty ab_nil))) (ab_andv (ab_notv (ab_cb ab_isi (ab_cons ab_var (ab_cons ab_ty ab_nil)))) (ab_op ab_eq ab_var ab_var)))) ab_next)
      (ab_ret (ab_andv (ab_cb ab_isi (ab_cons ab_var (ab_cons ab_ty ab_nil))) (ab_op ab_eq ab_var ab_var)))))⟩
    rintro us A Q ⟨d, rfl, hp, hd, q⟩
    refine ⟨rfl, ?_⟩
    walk_at "qs"
    cases d with
    | int i =>
      walk_at "qd"
      refine ⟨by decide, trivial, iteFf rfl ?_⟩
      walk_at "qd"
      refine ⟨by decide, trivial, iteTt rfl ?_⟩
      walk_at "qd"
      refine ⟨by decide, trivial, iteTt rfl ?_⟩
      walk_at "qd"
      refine ⟨by decide, trivial, iteTt rfl ?_⟩
      walk_at "qd"
      simp only [decide_true]
      exact fg q
    | str x =>
      walk_at "qd"
      refine ⟨by decide, trivial, iteFf rfl ?_⟩
      walk_at "qd"
      refine ⟨by decide, trivial, iteFf rfl ?_⟩
      walk_at "qd"
      refine ⟨by decide, trivial, iteTt rfl ?_⟩
      walk_at "qd"
      simp only [decide_true]
      exact fg q
    | tup us =>
      simp only [U.dp] at hd
      simp only [U.pl, Bool.and_eq_true, decide_eq_true_eq] at hp
      walk_at "qd"
      refine ⟨by decide, trivial, iteTt rfl ?_⟩
      walk_at "qd"
      refine ⟨by decide, trivial, iteFf rfl ?_⟩
      refine iteFf (by simp) ?_
      walk_at "qd"
      refine ⟨⟨us, us, rfl, rfl⟩, fun l hl => ?_⟩
      walk_at "qc"
      refine cl_map2 (zpU us us) (us.map fun _ => .bl true) (by rw [zpU_len, List.length_map, Nat.min_self]) hl (by rw [zpU_len]; omega) (fun k A2 _ _ => ⟨us, us, rfl, rfl, rfl⟩) (fun k u y A2 hu hy he => ?_) ?_
      · rw [zpU_get] at hu
        obtain ⟨x, hx, rfl⟩ := map_get hy
        rw [hx] at hu
        cases hu
        refine ⟨x, x, rfl, fun Cy hc => ?_⟩
        walk_at "qd"
        have hm := List.mem_of_getElem? hx
        have := dpL_mem hm
        exact ⟨x, rfl, plL_mem hp.2 hm, by omega, hc⟩
      · walk_at "qd"
        refine ⟨us.map fun _ => true, by rw [updA_same, List.map_map]; rfl, fgx (Ext.new hl) ?_⟩
        rw [show (us.map fun _ => true).all id = true from by simp]
        exact q
    | _ => cases hp
end
def asp_other : ASp := fun us A Q => ∃ (k : Nat) (ps : List Wr) (c : Int), us = [(Wr.many k ps).toU, .int c] ∧ okL ps = true ∧ ps.length ≤ 1000 ∧ ∀ (k' : Nat) (ps' : List Wr), okL ps' = true → tupsL ps' ≤ tupsL ps + 1 → depL ps' ≤ max (depL ps) 1 → Q (Wr.many k' ps').toU A
section
variable {P : Program} {w : World} {K : PySem.W.Frag} {mg : Str → Option Value} {base : Heap} {f_parts_of f_folded f_folded_over f_size_of f_size_by f_key_of f_key_by f_w_mix f_w_cell f_w_tuples f_w_put f_w_any f_w_size f_w_key f_w_alike f_w_other f_law a_KINDS a_MANY : Addr} {d_parts_of d_folded d_folded_over d_size_of d_size_by d_key_of d_key_by d_w_mix d_w_cell d_w_tuples d_w_put d_w_any d_w_size d_w_key d_w_alike d_w_other d_law : FuncData}
theorem ok_other (T : TX K mg f_parts_of f_folded f_folded_over f_size_of f_size_by f_key_of f_key_by f_w_mix f_w_cell f_w_tuples f_w_put f_w_any f_w_size f_w_key f_w_alike f_w_other f_law a_KINDS a_MANY d_parts_of d_folded d_folded_over d_size_of d_size_by d_key_of d_key_by d_w_mix d_w_cell d_w_tuples d_w_put d_w_any d_w_size d_w_key d_w_alike d_w_other d_law) : FnOk P w K mg base CX0 1 f_w_other d_w_other ["_law_figure", "_law_cell_here"] (spOf K asp_other) := by
  refine' Fun.okA T.F_w_other (sc := ?sc17) (body := ?bd17) ?hs17 ?hb17 sc_w_other ?hB17 ?hS17
  case hs17 => conv => lhs; whnf
  case hb17 => conv => lhs; whnf
  case hB17 => exact fun S cdv A outer s H E hr => ⟨_, (pss_cons (ps_set (i := 2) S.nd rfl (Or.inl rfl) (pe_ix o_ix (pv 0) pe_int (fun _ _ => rfl)))
      (pss_cons (ps_if ((pw_and (pt_cmpR (o_eqD hr) (pe_op o_mod (pv 1) pe_int) pe_int (nomark _)) (pw_and1 (pt_cmpR o_gt (pe_callB c_len (by rfl) T.n_len (by decide +kernel) (pa_cons (pv 2) pa_nil)) pe_int (nomark _))))).pt (pss_one (ps_ret (pe_tup (pa_cons (pe_ix o_ix (pv 0) pe_int (fun _ _ => rfl)) (pa_cons (pe_slice o_slW (pv 2) po_none (po_some (pe_un un_neg pe_int))) pa_nil))))) pss_nil)
      (pss_cons (ps_if (pt_cmpR (o_eqD hr) (pe_op o_mod (pv 1) pe_int) pe_int (nomark _)) (pss_one (ps_ret (pe_tup (pa_cons (pe_ix o_ix (pv 0) pe_int (fun _ _ => rfl)) (pa_cons (pe_op o_addW (pv 2) (pe_tup (pa_cons (pe_tup (pa_cons pe_str (pa_cons pe_str pa_nil))) pa_nil))) pa_nil))))) pss_nil)
      (pss_one (ps_ret (pe_tup (pa_cons (pe_ix o_ix (pe_lst (pa_strs (xs := ["row", "bag", "choice", "ring"]) rfl)) (pe_op o_mod (pe_op o_fdiv (pv 1) pe_int) pe_int) (fun _ _ => rfl)) (pa_cons (pv 2) pa_nil)))))))), (ab_seq (ab_asg (ab_op ab_ix ab_var ab_int) ab_name)
      (ab_seq (ab_ifs (ab_and (ab_test (ab_op ab_eq (ab_op ab_mod ab_var ab_int) ab_int)) (ab_test (ab_op ab_gt (ab_cb ab_len (ab_cons ab_var ab_nil)) ab_int))) (ab_ret (ab_tup (ab_cons (ab_op ab_ix ab_var ab_int) (ab_cons (ab_sl ab_xsl ab_var ab_nopart (ab_part (ab_un ab_neg ab_int))) ab_nil)))) ab_next)
      (ab_seq (ab_ifs (ab_test (ab_op ab_eq (ab_op ab_mod ab_var ab_int) ab_int)) (ab_ret (ab_tup (ab_cons (ab_op ab_ix ab_var ab_int) (ab_cons (ab_op ab_add ab_var (ab_tup (ab_cons (ab_tup (ab_cons ab_str (ab_cons ab_str ab_nil))) ab_nil))) ab_nil)))) ab_next)
      (ab_ret (ab_tup (ab_cons (ab_op ab_ix (ab_lst ab_strs) (ab_op ab_mod (ab_op ab_div ab_var ab_int) ab_int)) (ab_cons ab_var ab_nil)))))))⟩
  rintro us A Q ⟨k, ps, c, rfl, hok, hn, q⟩
  refine ⟨rfl, ?_⟩
  walk_at "qs"
  rw [Wr.toU_many]
  walk_at "qd"
  refine ⟨by decide, ?_⟩
  refine iteB (fun h => ?_) fun h => ?_
  · rw [List.length_map]
    refine iteB (fun h0 => ?_) fun h0 => ?_
    · have h0 : 0 < ps.length := by simpa using h0
      walk_at "qg"
      rw [cutU_init _ (by rw [List.length_map]; exact h0), ← List.map_dropLast]
      refine ⟨tup2, fg ?_⟩
      rw [← Wr.toU_many]
      rw [List.dropLast_eq_take]
      exact q k _ (okL_take hok _) (Nat.le_trans (tupsL_take_le ps _) (by omega)) (Nat.le_trans (depL_take_le ps _) (by omega))
    · skip
      walk_at "qd"
      refine ⟨by decide, iteB (fun h1 => ?_) fun h1 => ?_⟩
      · walk_at "qd"
        refine ⟨tup2, tup1, line1000 (by simp only [List.length_map, List.length_cons, List.length_nil]; omega), tup2, fg ?_⟩
        have := q k (ps ++ [.bead "red"]) (by rw [okL_app, hok]; decide +kernel) (by rw [tupsL_app]; simp [tupsL, Wr.tups]) (by rw [depL_app]; simp only [depL, Wr.dep]; omega)
        rw [Wr.toU_many, List.map_append] at this
        exact this
      · walk_at "qd"
        refine ⟨by decide, fun p hp => ⟨⟨by decide, by decide⟩, by decide, ?_⟩⟩
        obtain ⟨k', hk'⟩ := many_atU (c / 3)
        refine ⟨_, _, updA_same, hk', tup2, ?_⟩
        exact fgx (Ext.new hp) (by rw [← Wr.toU_many]; exact q k' ps hok (by omega) (by omega))
  · refine iteFf rfl ?_
    walk_at "qd"
    refine ⟨by decide, iteB (fun h1 => ?_) fun h1 => ?_⟩
    · walk_at "qd"
      refine ⟨tup2, tup1, line1000 (by simp only [List.length_map, List.length_cons, List.length_nil]; omega), tup2, fg ?_⟩
      have := q k (ps ++ [.bead "red"]) (by rw [okL_app, hok]; decide +kernel) (by rw [tupsL_app]; simp [tupsL, Wr.tups]) (by rw [depL_app]; simp only [depL, Wr.dep]; omega)
      rw [Wr.toU_many, List.map_append] at this
      exact this
    · walk_at "qd"
      refine ⟨by decide, fun p hp => ⟨⟨by decide, by decide⟩, by decide, ?_⟩⟩
      obtain ⟨k', hk'⟩ := many_atU (c / 3)
      refine ⟨_, _, updA_same, hk', tup2, ?_⟩
      exact fgx (Ext.new hp) (by rw [← Wr.toU_many]; exact q k' ps hok (by omega) (by omega))
end
def good (w : Wr) : Prop := w.ok = true ∧ w.tups ≤ 200 ∧ w.dep ≤ 95
section
variable {P : Program} {w : World} {K : PySem.W.Frag} {mg : Str → Option Value} {base : Heap} {f_parts_of f_folded f_folded_over f_size_of f_size_by f_key_of f_key_by f_w_mix f_w_cell f_w_tuples f_w_put f_w_any f_w_size f_w_key f_w_alike f_w_other f_law a_KINDS a_MANY : Addr} {d_parts_of d_folded d_folded_over d_size_of d_size_by d_key_of d_key_by d_w_mix d_w_cell d_w_tuples d_w_put d_w_any d_w_size d_w_key d_w_alike d_w_other d_law : FuncData}
theorem ok_law (T : TX K mg f_parts_of f_folded f_folded_over f_size_of f_size_by f_key_of f_key_by f_w_mix f_w_cell f_w_tuples f_w_put f_w_any f_w_size f_w_key f_w_alike f_w_other f_law a_KINDS a_MANY d_parts_of d_folded d_folded_over d_size_of d_size_by d_key_of d_key_by d_w_mix d_w_cell d_w_tuples d_w_put d_w_any d_w_size d_w_key d_w_alike d_w_other d_law) : FnOk P w K mg base CX0 101 f_law d_law ["_law_script"] (spOf K aspLaw) := by
  have G_w_mix := ok_mix (P := P) (w := w) (base := base) T
  have G_w_cell := ok_cell (P := P) (w := w) (base := base) T
  have G_w_any := ok_any (P := P) (w := w) (base := base) T
  have G_w_other := ok_other (P := P) (w := w) (base := base) T
  have G_size_of := ok_size_of (P := P) (w := w) (base := base) T
  have G_key_of := ok_key_of (P := P) (w := w) (base := base) T
  have G_w_size := ok_lsize (P := P) (w := w) (base := base) T 95
  have G_w_key := ok_lkey (P := P) (w := w) (base := base) T 95
  have G_w_alike := ok_alike (P := P) (w := w) (base := base) T 95
  refine' Fun.okA T.F_law (sc := ?sc18) (body := ?bd18) ?hs18 ?hb18 sc_law ?hB18 ?hS18
  case hs18 => conv => lhs; whnf
  case hb18 => conv => lhs; whnf
  case hB18 => exact fun S cdv A outer s H E hr => ⟨_, (pss_cons (ps_set (i := 0) S.nd rfl (Or.inl rfl) (pe_call (G_w_mix.mono (by first | decide | omega)) hr (by rfl) T.M_w_mix T.F_w_mix.kp T.B_w_mix .nil pass0 (pa_cons (pv 0) pa_nil)))
      (pss_cons (ps_set (i := 1) S.nd rfl (Or.inl rfl) (pe_call (G_w_any.mono (by first | decide | omega)) hr (by rfl) T.M_w_any T.F_w_any.kp T.B_w_any .nil pass0 (pa_cons (pe_slice o_slW (pv 0) (po_some pe_int) (po_some pe_int)) pa_nil)))
      (pss_cons (ps_set (i := 2) S.nd rfl (Or.inl rfl) (pe_op o_addW (pe_lst (pa_cons (pv 1) (pa_cons (pe_call (G_w_other.mono (by first | decide | omega)) hr (by rfl) T.M_w_other T.F_w_other.kp T.B_w_other .nil pass0 (pa_cons (pv 1) (pa_cons (pe_call (G_w_cell.mono (by first | decide | omega)) hr (by rfl) T.M_w_cell T.F_w_cell.kp T.B_w_cell .nil pass0 (pa_cons (pv 0) (pa_cons pe_int pa_nil))) pa_nil))) pa_nil))) (pe_slice o_slW (pe_callTy c_list (by rfl) T.n_list (by decide +kernel) (pa_cons (pe_ix o_ix (pv 1) pe_int (fun _ _ => rfl)) pa_nil)) po_none (po_some pe_int))))
      (pss_cons (ps_for PassesOwn.never rfl (pj_seq (pv 2)) (pg_name (i := 3) S.nd rfl (Or.inl rfl))
      (pss_cons (ps_set (i := 4) S.nd rfl (Or.inl rfl) (pe_call (G_size_of.mono (by first | decide | omega)) hr (by rfl) T.M_size_of T.F_size_of.kp T.B_size_of .nil pass0 (pa_cons (pv 3) pa_nil)))
      (pss_cons (ps_if ((pw_or (pt_not (pt_val (pe_callB c_isW (by rfl) T.n_isinstance (by decide +kernel) (pa_cons (pv 4) (pa_cons (pe_ty (T := "int") (by rfl) T.n_int (by decide +kernel)) pa_nil))))) (pw_or (pt_val (pe_callB c_isW (by rfl) T.n_isinstance (by decide +kernel) (pa_cons (pv 4) (pa_cons (pe_ty (T := "bool") (by rfl) T.n_bool (by decide +kernel)) pa_nil)))) (pw_or1 (pt_cmpR (o_neD hr) (pv 4) (pe_call (G_w_size.mono (by first | decide | omega)) hr (by rfl) T.M_w_size T.F_w_size.kp T.B_w_size .nil pass0 (pa_cons (pv 3) pa_nil)) (nomark _)))))).pt (pss_one (ps_ret pe_bl)) pss_nil)
      (pss_one (ps_if (pt_not (pt_val (pe_call (G_w_alike.mono (by first | decide | omega)) hr (by rfl) T.M_w_alike T.F_w_alike.kp T.B_w_alike .nil pass0 (pa_cons (pe_call (G_key_of.mono (by first | decide | omega)) hr (by rfl) T.M_key_of T.F_key_of.kp T.B_key_of .nil pass0 (pa_cons (pv 3) pa_nil)) (pa_cons (pe_call (G_w_key.mono (by first | decide | omega)) hr (by rfl) T.M_w_key T.F_w_key.kp T.B_w_key .nil pass0 (pa_cons (pv 3) pa_nil)) pa_nil))))) (pss_one (ps_ret pe_bl)) pss_nil)))))
      (pss_cons (ps_for PassesOwn.never rfl (pj_seq (pv 2)) (pg_name (i := 5) S.nd rfl (Or.inl rfl))
      (pss_one (ps_for PassesOwn.never rfl (pj_seq (pv 2)) (pg_name (i := 6) S.nd rfl (Or.inl rfl))
      (pss_one (ps_if (pt_cmpR (o_neD hr) (pe_cmpR (o_eqD hr) (pe_call (G_key_of.mono (by first | decide | omega)) hr (by rfl) T.M_key_of T.F_key_of.kp T.B_key_of .nil pass0 (pa_cons (pv 5) pa_nil)) (pe_call (G_key_of.mono (by first | decide | omega)) hr (by rfl) T.M_key_of T.F_key_of.kp T.B_key_of .nil pass0 (pa_cons (pv 6) pa_nil)) (nomark _)) (pe_cmpR (o_eqD hr) (pv 5) (pv 6) (nomark _)) (nomark _)) (pss_one (ps_ret pe_bl)) pss_nil)))))
      (pss_one (ps_ret pe_bl))))))), (ab_seq (ab_asg (ab_call (ab_cons ab_var ab_nil)) ab_name)
      (ab_seq (ab_asg (ab_call (ab_cons (ab_sl ab_xsl ab_var (ab_part ab_int) (ab_part ab_int)) ab_nil)) ab_name)
      (ab_seq (ab_asg (ab_op ab_add (ab_lst (ab_cons ab_var (ab_cons (ab_call (ab_cons ab_var (ab_cons (ab_call (ab_cons ab_var (ab_cons ab_int ab_nil))) ab_nil))) ab_nil))) (ab_sl ab_xsl (ab_cb ab_listof (ab_cons (ab_op ab_ix ab_var ab_int) ab_nil)) ab_nopart (ab_part ab_int))) ab_name)
      (ab_seq (ab_for (ab_jof ab_yseq ab_var) ab_name
      (ab_seq (ab_asg (ab_call (ab_cons ab_var ab_nil)) ab_name)
      (ab_seq (ab_ifs (ab_or (ab_not (ab_tb (ab_cb ab_isi (ab_cons ab_var (ab_cons ab_ty ab_nil))))) (ab_or (ab_tb (ab_cb ab_isi (ab_cons ab_var (ab_cons ab_ty ab_nil)))) (ab_test (ab_op ab_ne ab_var (ab_call (ab_cons ab_var ab_nil)))))) (ab_ret ab_bl) ab_next)
      (ab_ifs (ab_not (ab_tb (ab_call (ab_cons (ab_call (ab_cons ab_var ab_nil)) (ab_cons (ab_call (ab_cons ab_var ab_nil)) ab_nil))))) (ab_ret ab_bl) ab_next))))
      (ab_seq (ab_for (ab_jof ab_yseq ab_var) ab_name
      (ab_for (ab_jof ab_yseq ab_var) ab_name
      (ab_ifs (ab_test (ab_op ab_ne (ab_op ab_eq (ab_call (ab_cons ab_var ab_nil)) (ab_call (ab_cons ab_var ab_nil))) (ab_op ab_eq ab_var ab_var))) (ab_ret ab_bl) ab_next)))
      (ab_ret ab_bl))))))⟩
  rintro us A Q ⟨ns, rfl, hl, q⟩
  refine ⟨rfl, ?_⟩
  walk_at "qs"
  walk_at "qd"
  refine ⟨ns, rfl, hl, fun l ms hl0 hml => ?_⟩
  walk_at "qd"
  refine ⟨_, updA_same, fun p hp => ?_⟩
  rw [cutU_map]
  refine ⟨p, _, rfl, updA_same, Nat.le_trans (cutL_len _ _ _) (by omega), fun k ws hok ht => ?_⟩
  have hdp := (Wr.many k ws).dep_le
  have e1 : updA (updA A l (.lst (ms.map U.int))) p (.lst ((cutL ms (some 1) (some 55)).map U.int)) l = some (.lst (ms.map U.int)) := by rw [updA_ne (neA updA_same hp), updA_same]
  have hokL : okL ws = true := by simpa [Wr.ok] using hok
  simp only [Wr.tups] at ht
  have hwl := len_tups ws
  walk_at "qd"
  refine ⟨l, ms, 0, rfl, e1, by decide, fun z => ⟨k, ws, z, rfl, hokL, by omega, fun k' ws' hok' ht' hd' => ?_⟩⟩
  walk_at "qd"
  rw [Wr.toU_many]
  walk_at "qd"
  refine ⟨tup2, fun p1 hp1 p2 hp2 => ?_⟩
  walk_at "qd"
  refine ⟨_, updA_same, fun p3 hp3 => ?_⟩
  rw [cutU_map]
  have n12 : p1 ≠ p2 := neA updA_same hp2
  have n13 : p1 ≠ p3 := fun e => by rw [← e, updA_ne n12, updA_same] at hp3; cases hp3
  refine ⟨_, _, by rw [updA_ne n13, updA_ne n12, updA_same], updA_same, line1000 (by simp only [List.length_map, List.length_cons, List.length_nil]; have := cutL_len ws none (some 6); omega), fun p4 hp4 => ?_⟩
  walk_at "qd"
  have hsome : U.tup [.str (mname k), .tup (ws.map Wr.toU)] :: (Wr.many k' ws').toU :: (cutL ws none (some 6)).map Wr.toU = (Wr.many k ws :: Wr.many k' ws' :: cutL ws none (some 6)).map Wr.toU := by rw [List.map_cons, List.map_cons, Wr.toU_many k ws]
  rw [hsome]
  have hgood : ∀ w ∈ (Wr.many k ws :: Wr.many k' ws' :: cutL ws none (some 6)), good w := by
    intro w hw
    simp only [Wr.dep, Wr.tups] at hdp
    rcases List.mem_cons.mp hw with rfl | hw
    · exact ⟨hok, by simp only [Wr.tups]; omega, by simp only [Wr.dep]; omega⟩
    rcases List.mem_cons.mp hw with rfl | hw
    · exact ⟨by simpa [Wr.ok] using hok', by simp only [Wr.tups]; omega, by simp only [Wr.dep]; omega⟩
    · have hm := cutL_mem hw
      have := tupsL_mem hm
      have := depL_mem hm
      exact ⟨okL_mem hokL hm, by omega, by omega⟩
  have hlen : (Wr.many k ws :: Wr.many k' ws' :: cutL ws none (some 6)).length ≤ 1000 := by simp only [List.length_cons]; have := cutL_len ws none (some 6); omega
  generalize (Wr.many k ws :: Wr.many k' ws' :: cutL ws none (some 6)) = some6 at hgood hlen ⊢
  generalize updA (updA (updA (updA (updA A l (AO.lst (List.map U.int ms))) p (AO.lst (List.map U.int (cutL ms (some 1) (some 55))))) p1 _) p2 _) p3 _ = A5 at hp4 ⊢
  generalize U.tup [U.str (mname k), U.tup (List.map Wr.toU ws)] = whole
  have h4 : updA A5 p4 (.lst (some6.map Wr.toU)) p4 = some (.lst (some6.map Wr.toU)) := updA_same
  generalize updA A5 p4 (.lst (some6.map Wr.toU)) = A6 at h4 ⊢
  refine ⟨⟨_, h4⟩, ?_⟩
  refine for_lst (some6.map Wr.toU) (fun k ρ A2 => ∃ x3 x4, ρ = [some (.ref l), some whole, some (.ref p4), x3, x4, none, none] ∧ A6 = A2) ⟨_, _, rfl, rfl⟩ (fun k ρ A2 _ ⟨_, _, _, e⟩ => by rw [← e]; exact h4) ?_ ?_
  · rintro k u ρ A2 hu ⟨x3, x4, rfl, rfl⟩
    obtain ⟨w, hw, rfl⟩ := map_get hu
    have hg := hgood w (List.mem_of_getElem? hw)
    have hpl := w.key_pl (by have := hg.2.1; omega)
    have hdk := w.key_dp
    have hg3 := hg.2.2
    walk_at "qd"
    refine ⟨w, rfl, hg.1, hg.2.1, ?_⟩
    walk_at "qd"
    refine ⟨by decide, trivial, iteFf rfl ?_⟩
    walk_at "qd"
    refine ⟨by decide, trivial, iteFf rfl ?_⟩
    walk_at "qd"
    refine ⟨w, rfl, hg3, by have := hg.2.1; omega, ?_⟩
    walk_at "qd"
    simp only [decide_true]
    refine iteFf rfl ?_
    walk_at "qd"
    refine ⟨w, rfl, hg.1, hg.2.1, w, rfl, hg3, by have := hg.2.1; omega, w.keyU, rfl, hpl, by omega, ?_⟩
    walk_at "qd"
    refine iteFf rfl ?_
    walk_at "qd"
    exact ⟨_, _, rfl, by trivial⟩
  · rintro ρ A2 ⟨x3, x4, rfl, rfl⟩
    walk_at "qd"
    refine ⟨⟨_, h4⟩, ?_⟩
    refine for_lst (some6.map Wr.toU) (fun k ρ A2 => ∃ x5 x6, ρ = [some (.ref l), some whole, some (.ref p4), x3, x4, x5, x6] ∧ A6 = A2) ⟨_, _, rfl, rfl⟩ (fun k ρ A2 _ ⟨_, _, _, e⟩ => by rw [← e]; exact h4) ?_ ?_
    · rintro k u ρ A2 hu ⟨x5, x6, rfl, rfl⟩
      obtain ⟨w, hw, rfl⟩ := map_get hu
      have hg := hgood w (List.mem_of_getElem? hw)
      walk_at "qd"
      refine ⟨⟨_, h4⟩, ?_⟩
      refine for_lst (some6.map Wr.toU) (fun k ρ A2 => ∃ x6, ρ = [some (.ref l), some whole, some (.ref p4), x3, x4, some w.toU, x6] ∧ A6 = A2) ⟨_, rfl, rfl⟩ (fun k ρ A2 _ ⟨_, _, e⟩ => by rw [← e]; exact h4) ?_ ?_
      · rintro k u ρ A2 hu ⟨x6, rfl, rfl⟩
        obtain ⟨v, hv, rfl⟩ := map_get hu
        have hg2 := hgood v (List.mem_of_getElem? hv)
        walk_at "qd"
        refine ⟨w, rfl, hg.1, hg.2.1, v, rfl, hg2.1, hg2.2.1, ?_⟩
        walk_at "qd"
        rw [q_eqK]
        refine eqK hg.1 hg2.1 (by have := hg.2.2; omega) ?_
        walk_at "qd"
        rw [q_eqW]
        refine eqW hg.1 hg2.1 hg.2.2 ?_
        walk_at "qd"
        simp only [decide_true]
        refine iteFf rfl ?_
        walk_at "qd"
        exact ⟨_, rfl, by trivial⟩
      · rintro ρ A2 ⟨x6, rfl, rfl⟩
        walk_at "qd"
        exact ⟨_, _, rfl, by trivial⟩
    · rintro ρ A2 ⟨x5, x6, rfl, rfl⟩
      walk_at "qd"
      exact fg (q _)
end
theorem all_mk {l : PySem.W.OpenLaw} {w : World} {K : PySem.W.Frag} {h : Heap} {mg : Str → Option Value} {fa : Addr} {f_parts_of f_folded f_folded_over f_size_of f_size_by f_key_of f_key_by f_w_mix f_w_cell f_w_tuples f_w_put f_w_any f_w_size f_w_key f_w_alike f_w_other f_law : Addr} {od_parts_of an_parts_of od_folded an_folded od_folded_over an_folded_over od_size_of an_size_of od_size_by an_size_by od_key_of an_key_of od_key_by an_key_by od_w_mix an_w_mix od_w_cell an_w_cell od_w_tuples an_w_tuples od_w_put an_w_put od_w_any an_w_any od_w_size an_w_size od_w_key an_w_key od_w_alike an_w_alike od_w_other an_w_other od_law an_law : Option Addr} {sl_parts_of sl_folded sl_folded_over sl_size_of sl_size_by sl_key_of sl_key_by sl_w_mix sl_w_cell sl_w_tuples sl_w_put sl_w_any sl_w_size sl_w_key sl_w_alike sl_w_other sl_law : Array (Option Value)} {oc_parts_of kV_parts_of dc_parts_of pm_parts_of cd_parts_of ct_parts_of oc_folded kV_folded dc_folded pm_folded cd_folded ct_folded oc_folded_over kV_folded_over dc_folded_over pm_folded_over cd_folded_over ct_folded_over oc_size_of kV_size_of dc_size_of pm_size_of cd_size_of ct_size_of oc_size_by kV_size_by dc_size_by pm_size_by cd_size_by ct_size_by oc_key_of kV_key_of dc_key_of pm_key_of cd_key_of ct_key_of oc_key_by kV_key_by dc_key_by pm_key_by cd_key_by ct_key_by oc_w_mix kV_w_mix dc_w_mix pm_w_mix cd_w_mix ct_w_mix oc_w_cell kV_w_cell dc_w_cell pm_w_cell cd_w_cell ct_w_cell oc_w_tuples kV_w_tuples dc_w_tuples pm_w_tuples cd_w_tuples ct_w_tuples oc_w_put kV_w_put dc_w_put pm_w_put cd_w_put ct_w_put oc_w_any kV_w_any dc_w_any pm_w_any cd_w_any ct_w_any oc_w_size kV_w_size dc_w_size pm_w_size cd_w_size ct_w_size oc_w_key kV_w_key dc_w_key pm_w_key cd_w_key ct_w_key oc_w_alike kV_w_alike dc_w_alike pm_w_alike cd_w_alike ct_w_alike oc_w_other kV_w_other dc_w_other pm_w_other cd_w_other ct_w_other oc_law kV_law dc_law pm_law cd_law ct_law : Value} {a_KINDS : Addr} {oc_KINDS : Value} {od_KINDS : Option Addr} {is_KINDS : Array Value} {sn_KINDS : Nat} {sl_KINDS : Array (Option Value)} {a_MANY : Addr} {oc_MANY : Value} {od_MANY : Option Addr} {is_MANY : Array Value} {sn_MANY : Nat} {sl_MANY : Array (Option Value)} (X : K.In h) (G : h.Ns mainGlobals mg) (hfa : mg "law" = some (.ref fa))
    (a_parts_of : PySem.W.nsIn K mainGlobals "parts_of" = some (some (.ref f_parts_of))) (l_parts_of : K.lookup f_parts_of = some ⟨oc_parts_of, od_parts_of, .func (PySem.W.fnOf "parts_of" "parts_of" (defArgs s_parts_of) (defBody s_parts_of) (defScope s_parts_of) .none kV_parts_of dc_parts_of pm_parts_of an_parts_of cd_parts_of ct_parts_of), sl_parts_of⟩) (x_parts_of : PySem.W.codeIn K cd_parts_of "parts_of" = true) (k_parts_of : PySem.W.keepIn K (.ref f_parts_of) = true)
    (a_folded : PySem.W.nsIn K mainGlobals "folded" = some (some (.ref f_folded))) (l_folded : K.lookup f_folded = some ⟨oc_folded, od_folded, .func (PySem.W.fnOf "folded" "folded" (defArgs s_folded) (defBody s_folded) (defScope s_folded) .none kV_folded dc_folded pm_folded an_folded cd_folded ct_folded), sl_folded⟩) (x_folded : PySem.W.codeIn K cd_folded "folded" = true) (k_folded : PySem.W.keepIn K (.ref f_folded) = true)
    (a_folded_over : PySem.W.nsIn K mainGlobals "folded_over" = some (some (.ref f_folded_over))) (l_folded_over : K.lookup f_folded_over = some ⟨oc_folded_over, od_folded_over, .func (PySem.W.fnOf "folded_over" "folded_over" (defArgs s_folded_over) (defBody s_folded_over) (defScope s_folded_over) .none kV_folded_over dc_folded_over pm_folded_over an_folded_over cd_folded_over ct_folded_over), sl_folded_over⟩) (x_folded_over : PySem.W.codeIn K cd_folded_over "folded_over" = true) (k_folded_over : PySem.W.keepIn K (.ref f_folded_over) = true)
    (a_size_of : PySem.W.nsIn K mainGlobals "size_of" = some (some (.ref f_size_of))) (l_size_of : K.lookup f_size_of = some ⟨oc_size_of, od_size_of, .func (PySem.W.fnOf "size_of" "size_of" (defArgs s_size_of) (defBody s_size_of) (defScope s_size_of) .none kV_size_of dc_size_of pm_size_of an_size_of cd_size_of ct_size_of), sl_size_of⟩) (x_size_of : PySem.W.codeIn K cd_size_of "size_of" = true) (k_size_of : PySem.W.keepIn K (.ref f_size_of) = true)
    (a_size_by : PySem.W.nsIn K mainGlobals "size_by" = some (some (.ref f_size_by))) (l_size_by : K.lookup f_size_by = some ⟨oc_size_by, od_size_by, .func (PySem.W.fnOf "size_by" "size_by" (defArgs s_size_by) (defBody s_size_by) (defScope s_size_by) .none kV_size_by dc_size_by pm_size_by an_size_by cd_size_by ct_size_by), sl_size_by⟩) (x_size_by : PySem.W.codeIn K cd_size_by "size_by" = true) (k_size_by : PySem.W.keepIn K (.ref f_size_by) = true)
    (a_key_of : PySem.W.nsIn K mainGlobals "key_of" = some (some (.ref f_key_of))) (l_key_of : K.lookup f_key_of = some ⟨oc_key_of, od_key_of, .func (PySem.W.fnOf "key_of" "key_of" (defArgs s_key_of) (defBody s_key_of) (defScope s_key_of) .none kV_key_of dc_key_of pm_key_of an_key_of cd_key_of ct_key_of), sl_key_of⟩) (x_key_of : PySem.W.codeIn K cd_key_of "key_of" = true) (k_key_of : PySem.W.keepIn K (.ref f_key_of) = true)
    (a_key_by : PySem.W.nsIn K mainGlobals "key_by" = some (some (.ref f_key_by))) (l_key_by : K.lookup f_key_by = some ⟨oc_key_by, od_key_by, .func (PySem.W.fnOf "key_by" "key_by" (defArgs s_key_by) (defBody s_key_by) (defScope s_key_by) .none kV_key_by dc_key_by pm_key_by an_key_by cd_key_by ct_key_by), sl_key_by⟩) (x_key_by : PySem.W.codeIn K cd_key_by "key_by" = true) (k_key_by : PySem.W.keepIn K (.ref f_key_by) = true)
    (a_w_mix : PySem.W.nsIn K mainGlobals "_law_mix" = some (some (.ref f_w_mix))) (l_w_mix : K.lookup f_w_mix = some ⟨oc_w_mix, od_w_mix, .func (PySem.W.fnOf "_law_mix" "_law_mix" (defArgs s_w_mix) (defBody s_w_mix) (defScope s_w_mix) .none kV_w_mix dc_w_mix pm_w_mix an_w_mix cd_w_mix ct_w_mix), sl_w_mix⟩) (x_w_mix : PySem.W.codeIn K cd_w_mix "_law_mix" = true) (k_w_mix : PySem.W.keepIn K (.ref f_w_mix) = true)
    (a_w_cell : PySem.W.nsIn K mainGlobals "_law_cell" = some (some (.ref f_w_cell))) (l_w_cell : K.lookup f_w_cell = some ⟨oc_w_cell, od_w_cell, .func (PySem.W.fnOf "_law_cell" "_law_cell" (defArgs s_w_cell) (defBody s_w_cell) (defScope s_w_cell) .none kV_w_cell dc_w_cell pm_w_cell an_w_cell cd_w_cell ct_w_cell), sl_w_cell⟩) (x_w_cell : PySem.W.codeIn K cd_w_cell "_law_cell" = true) (k_w_cell : PySem.W.keepIn K (.ref f_w_cell) = true)
    (a_w_tuples : PySem.W.nsIn K mainGlobals "_law_tuples" = some (some (.ref f_w_tuples))) (l_w_tuples : K.lookup f_w_tuples = some ⟨oc_w_tuples, od_w_tuples, .func (PySem.W.fnOf "_law_tuples" "_law_tuples" (defArgs s_w_tuples) (defBody s_w_tuples) (defScope s_w_tuples) .none kV_w_tuples dc_w_tuples pm_w_tuples an_w_tuples cd_w_tuples ct_w_tuples), sl_w_tuples⟩) (x_w_tuples : PySem.W.codeIn K cd_w_tuples "_law_tuples" = true) (k_w_tuples : PySem.W.keepIn K (.ref f_w_tuples) = true)
    (a_w_put : PySem.W.nsIn K mainGlobals "_law_put" = some (some (.ref f_w_put))) (l_w_put : K.lookup f_w_put = some ⟨oc_w_put, od_w_put, .func (PySem.W.fnOf "_law_put" "_law_put" (defArgs s_w_put) (defBody s_w_put) (defScope s_w_put) .none kV_w_put dc_w_put pm_w_put an_w_put cd_w_put ct_w_put), sl_w_put⟩) (x_w_put : PySem.W.codeIn K cd_w_put "_law_put" = true) (k_w_put : PySem.W.keepIn K (.ref f_w_put) = true)
    (a_w_any : PySem.W.nsIn K mainGlobals "_law_any" = some (some (.ref f_w_any))) (l_w_any : K.lookup f_w_any = some ⟨oc_w_any, od_w_any, .func (PySem.W.fnOf "_law_any" "_law_any" (defArgs s_w_any) (defBody s_w_any) (defScope s_w_any) .none kV_w_any dc_w_any pm_w_any an_w_any cd_w_any ct_w_any), sl_w_any⟩) (x_w_any : PySem.W.codeIn K cd_w_any "_law_any" = true) (k_w_any : PySem.W.keepIn K (.ref f_w_any) = true)
    (a_w_size : PySem.W.nsIn K mainGlobals "_law_size" = some (some (.ref f_w_size))) (l_w_size : K.lookup f_w_size = some ⟨oc_w_size, od_w_size, .func (PySem.W.fnOf "_law_size" "_law_size" (defArgs s_w_size) (defBody s_w_size) (defScope s_w_size) .none kV_w_size dc_w_size pm_w_size an_w_size cd_w_size ct_w_size), sl_w_size⟩) (x_w_size : PySem.W.codeIn K cd_w_size "_law_size" = true) (k_w_size : PySem.W.keepIn K (.ref f_w_size) = true)
    (a_w_key : PySem.W.nsIn K mainGlobals "_law_key" = some (some (.ref f_w_key))) (l_w_key : K.lookup f_w_key = some ⟨oc_w_key, od_w_key, .func (PySem.W.fnOf "_law_key" "_law_key" (defArgs s_w_key) (defBody s_w_key) (defScope s_w_key) .none kV_w_key dc_w_key pm_w_key an_w_key cd_w_key ct_w_key), sl_w_key⟩) (x_w_key : PySem.W.codeIn K cd_w_key "_law_key" = true) (k_w_key : PySem.W.keepIn K (.ref f_w_key) = true)
    (a_w_alike : PySem.W.nsIn K mainGlobals "_law_alike" = some (some (.ref f_w_alike))) (l_w_alike : K.lookup f_w_alike = some ⟨oc_w_alike, od_w_alike, .func (PySem.W.fnOf "_law_alike" "_law_alike" (defArgs s_w_alike) (defBody s_w_alike) (defScope s_w_alike) .none kV_w_alike dc_w_alike pm_w_alike an_w_alike cd_w_alike ct_w_alike), sl_w_alike⟩) (x_w_alike : PySem.W.codeIn K cd_w_alike "_law_alike" = true) (k_w_alike : PySem.W.keepIn K (.ref f_w_alike) = true)
    (a_w_other : PySem.W.nsIn K mainGlobals "_law_other" = some (some (.ref f_w_other))) (l_w_other : K.lookup f_w_other = some ⟨oc_w_other, od_w_other, .func (PySem.W.fnOf "_law_other" "_law_other" (defArgs s_w_other) (defBody s_w_other) (defScope s_w_other) .none kV_w_other dc_w_other pm_w_other an_w_other cd_w_other ct_w_other), sl_w_other⟩) (x_w_other : PySem.W.codeIn K cd_w_other "_law_other" = true) (k_w_other : PySem.W.keepIn K (.ref f_w_other) = true)
    (a_law : PySem.W.nsIn K mainGlobals "law" = some (some (.ref f_law))) (l_law : K.lookup f_law = some ⟨oc_law, od_law, .func (PySem.W.fnOf "law" "law" (defArgs s_law) (defBody s_law) (defScope s_law) .none kV_law dc_law pm_law an_law cd_law ct_law), sl_law⟩) (x_law : PySem.W.codeIn K cd_law "law" = true) (k_law : PySem.W.keepIn K (.ref f_law) = true)
    (n_all : PySem.W.nsIn K mainGlobals "all" = some none)
    (n_any : PySem.W.nsIn K mainGlobals "any" = some none)
    (n_bool : PySem.W.nsIn K mainGlobals "bool" = some none)
    (n_enumerate : PySem.W.nsIn K mainGlobals "enumerate" = some none)
    (n_int : PySem.W.nsIn K mainGlobals "int" = some none)
    (n_isinstance : PySem.W.nsIn K mainGlobals "isinstance" = some none)
    (n_len : PySem.W.nsIn K mainGlobals "len" = some none)
    (n_list : PySem.W.nsIn K mainGlobals "list" = some none)
    (n_max : PySem.W.nsIn K mainGlobals "max" = some none)
    (n_min : PySem.W.nsIn K mainGlobals "min" = some none)
    (n_range : PySem.W.nsIn K mainGlobals "range" = some none)
    (n_reversed : PySem.W.nsIn K mainGlobals "reversed" = some none)
    (n_sorted : PySem.W.nsIn K mainGlobals "sorted" = some none)
    (n_str : PySem.W.nsIn K mainGlobals "str" = some none)
    (n_sum : PySem.W.nsIn K mainGlobals "sum" = some none)
    (n_tuple : PySem.W.nsIn K mainGlobals "tuple" = some none)
    (n_zip : PySem.W.nsIn K mainGlobals "zip" = some none)
    (c_KINDS : PySem.W.nsIn K mainGlobals "KINDS" = some (some (.ref a_KINDS))) (o_KINDS : K.lookup a_KINDS = some ⟨oc_KINDS, od_KINDS, .seq is_KINDS sn_KINDS, sl_KINDS⟩) (t_KINDS : (oc_KINDS == .type "tuple") = true ∧ (od_KINDS == none) = true) (i_KINDS : is_KINDS.toList.map absV = [(.str "nothing" : V), (.str "bead" : V), (.str "left" : V), (.str "right" : V), (.str "pair" : V), (.str "row" : V), (.str "bag" : V), (.str "choice" : V), (.str "ring" : V)].map some)
    (c_MANY : PySem.W.nsIn K mainGlobals "MANY" = some (some (.ref a_MANY))) (o_MANY : K.lookup a_MANY = some ⟨oc_MANY, od_MANY, .seq is_MANY sn_MANY, sl_MANY⟩) (t_MANY : (oc_MANY == .type "tuple") = true ∧ (od_MANY == none) = true) (i_MANY : is_MANY.toList.map absV = [(.str "row" : V), (.str "bag" : V), (.str "choice" : V), (.str "ring" : V)].map some) :
    ∃ fd : FuncData, (∀ (s : Shared) (v : Value), BindsTo s fd ⟨[v], []⟩ [("_law_script", v)]) ∧ ∀ base : Heap, K.In base → base.Ns mainGlobals mg → FnOk l.prog w K mg base CX0 101 fa fd ["_law_script"] (spOf K aspLaw) := by
  have e := hfa.symm.trans (PySem.W.mg_of X G a_law)
  cases e
  have F_parts_of := fun_mk (st := s_parts_of) l_parts_of x_parts_of k_parts_of
  have B_parts_of := F_parts_of.binds (ps := ["writing"]) fun _ _ _ _ _ _ us hl => match us, hl with | [_], _ => rfl
  have F_folded := fun_mk (st := s_folded) l_folded x_folded k_folded
  have B_folded := F_folded.binds (ps := ["writing", "deed"]) fun _ _ _ _ _ _ us hl => match us, hl with | [_, _], _ => rfl
  have F_folded_over := fun_mk (st := s_folded_over) l_folded_over x_folded_over k_folded_over
  have B_folded_over := F_folded_over.binds (ps := ["whole", "parts", "deed"]) fun _ _ _ _ _ _ us hl => match us, hl with | [_, _, _], _ => rfl
  have F_size_of := fun_mk (st := s_size_of) l_size_of x_size_of k_size_of
  have B_size_of := F_size_of.binds (ps := ["figure"]) fun _ _ _ _ _ _ us hl => match us, hl with | [_], _ => rfl
  have F_size_by := fun_mk (st := s_size_by) l_size_by x_size_by k_size_by
  have B_size_by := F_size_by.binds (ps := ["figure", "sizes"]) fun _ _ _ _ _ _ us hl => match us, hl with | [_, _], _ => rfl
  have F_key_of := fun_mk (st := s_key_of) l_key_of x_key_of k_key_of
  have B_key_of := F_key_of.binds (ps := ["figure"]) fun _ _ _ _ _ _ us hl => match us, hl with | [_], _ => rfl
  have F_key_by := fun_mk (st := s_key_by) l_key_by x_key_by k_key_by
  have B_key_by := F_key_by.binds (ps := ["figure", "keys"]) fun _ _ _ _ _ _ us hl => match us, hl with | [_, _], _ => rfl
  have F_w_mix := fun_mk (st := s_w_mix) l_w_mix x_w_mix k_w_mix
  have B_w_mix := F_w_mix.binds (ps := ["_law_script"]) fun _ _ _ _ _ _ us hl => match us, hl with | [_], _ => rfl
  have F_w_cell := fun_mk (st := s_w_cell) l_w_cell x_w_cell k_w_cell
  have B_w_cell := F_w_cell.binds (ps := ["_law_script", "_law_k"]) fun _ _ _ _ _ _ us hl => match us, hl with | [_, _], _ => rfl
  have F_w_tuples := fun_mk (st := s_w_tuples) l_w_tuples x_w_tuples k_w_tuples
  have B_w_tuples := F_w_tuples.binds (ps := ["_law_figure"]) fun _ _ _ _ _ _ us hl => match us, hl with | [_], _ => rfl
  have F_w_put := fun_mk (st := s_w_put) l_w_put x_w_put k_w_put
  have B_w_put := F_w_put.binds (ps := ["_law_stack", "_law_cell_here", "_law_room"]) fun _ _ _ _ _ _ us hl => match us, hl with | [_, _, _], _ => rfl
  have F_w_any := fun_mk (st := s_w_any) l_w_any x_w_any k_w_any
  have B_w_any := F_w_any.binds (ps := ["_law_cells"]) fun _ _ _ _ _ _ us hl => match us, hl with | [_], _ => rfl
  have F_w_size := fun_mk (st := s_w_size) l_w_size x_w_size k_w_size
  have B_w_size := F_w_size.binds (ps := ["_law_figure"]) fun _ _ _ _ _ _ us hl => match us, hl with | [_], _ => rfl
  have F_w_key := fun_mk (st := s_w_key) l_w_key x_w_key k_w_key
  have B_w_key := F_w_key.binds (ps := ["_law_figure"]) fun _ _ _ _ _ _ us hl => match us, hl with | [_], _ => rfl
  have F_w_alike := fun_mk (st := s_w_alike) l_w_alike x_w_alike k_w_alike
  have B_w_alike := F_w_alike.binds (ps := ["_law_found", "_law_due"]) fun _ _ _ _ _ _ us hl => match us, hl with | [_, _], _ => rfl
  have F_w_other := fun_mk (st := s_w_other) l_w_other x_w_other k_w_other
  have B_w_other := F_w_other.binds (ps := ["_law_figure", "_law_cell_here"]) fun _ _ _ _ _ _ us hl => match us, hl with | [_, _], _ => rfl
  have F_law := fun_mk (st := s_law) l_law x_law k_law
  have B_law := F_law.binds (ps := ["_law_script"]) fun _ _ _ _ _ _ us hl => match us, hl with | [_], _ => rfl
  have T : TX K mg _ _ _ _ _ _ _ _ _ _ _ _ _ _ _ _ _ _ _ _ _ _ _ _ _ _ _ _ _ _ _ _ _ _ _ _ := ⟨F_parts_of, B_parts_of, PySem.W.mg_of X G a_parts_of, F_folded, B_folded, PySem.W.mg_of X G a_folded, F_folded_over, B_folded_over, PySem.W.mg_of X G a_folded_over, F_size_of, B_size_of, PySem.W.mg_of X G a_size_of, F_size_by, B_size_by, PySem.W.mg_of X G a_size_by, F_key_of, B_key_of, PySem.W.mg_of X G a_key_of, F_key_by, B_key_by, PySem.W.mg_of X G a_key_by, F_w_mix, B_w_mix, PySem.W.mg_of X G a_w_mix, F_w_cell, B_w_cell, PySem.W.mg_of X G a_w_cell, F_w_tuples, B_w_tuples, PySem.W.mg_of X G a_w_tuples, F_w_put, B_w_put, PySem.W.mg_of X G a_w_put, F_w_any, B_w_any, PySem.W.mg_of X G a_w_any, F_w_size, B_w_size, PySem.W.mg_of X G a_w_size, F_w_key, B_w_key, PySem.W.mg_of X G a_w_key, F_w_alike, B_w_alike, PySem.W.mg_of X G a_w_alike, F_w_other, B_w_other, PySem.W.mg_of X G a_w_other, F_law, B_law, PySem.W.mg_of X G a_law, PySem.W.mg_none_of X G n_all, PySem.W.mg_none_of X G n_any, PySem.W.mg_none_of X G n_bool, PySem.W.mg_none_of X G n_enumerate, PySem.W.mg_none_of X G n_int, PySem.W.mg_none_of X G n_isinstance, PySem.W.mg_none_of X G n_len, PySem.W.mg_none_of X G n_list, PySem.W.mg_none_of X G n_max, PySem.W.mg_none_of X G n_min, PySem.W.mg_none_of X G n_range, PySem.W.mg_none_of X G n_reversed, PySem.W.mg_none_of X G n_sorted, PySem.W.mg_none_of X G n_str, PySem.W.mg_none_of X G n_sum, PySem.W.mg_none_of X G n_tuple, PySem.W.mg_none_of X G n_zip, ⟨_, PySem.W.mg_of X G c_KINDS, rfl⟩, sqT_const o_KINDS t_KINDS i_KINDS, ty_const o_KINDS t_KINDS, ⟨_, PySem.W.mg_of X G c_MANY, rfl⟩, sqT_const o_MANY t_MANY i_MANY, ty_const o_MANY t_MANY⟩
  exact ⟨_, fun s v => .of_eq rfl, fun base _ _ => ok_law T⟩
theorem walk {l : PySem.W.OpenLaw} {q : Program} {loose : List Str} {XP : (Str → Option Value) → Heap → Prop} {YP : World → Heap → Prop} {d : DefRec} {K : Params → PySem.W.Frag} (hn : l.most = some 63) (hdf : d.params.defaults = [])
    (hY : ∀ (w : World) (h : Heap), YP w h → (K w.params).In h)
    (F : ∀ (w : World) (mg : Str → Option Value) (fa : Addr) (h : Heap), (K w.params).In h → h.Ns mainGlobals mg → mg d.name = some (.ref fa) →
      ∃ fd : FuncData, (∀ (s : Shared) (u : Value), BindsTo s fd ⟨[u], []⟩ [("_law_script", u)]) ∧ ∀ base : Heap, (K w.params).In base → base.Ns mainGlobals mg → FnOk l.prog w (K w.params) mg base CX0 101 fa fd ["_law_script"] (spOf (K w.params) aspLaw)) :
    PySem.W.WalkO q loose XP YP l.row.toRowW d [] (fun f vs => PySem.call f vs) :=
  L2.walk_of (n := 63) (k := 101) (x := "_law_script") (CX := fun _ => CX0) (sp := fun w => spOf (K w.params) aspLaw) hn (by decide) hdf ⟨rfl, by decide, by decide⟩ hY F (fun _ _ a ns hl hO hS => law_in hl hO hS) fun _ _ _ _ _ z => z
end My
open PySem PySem.W PyProof.Rows
set_option maxRecDepth 100000 in
set_option maxHeartbeats 0 in
theorem PySem.Challenge.cw_figurebook_k10_sizes_and_keys_holds : PySem.Challenge.rw_figurebook_k10_sizes_and_keys.Holds := by
  w_on; o_law; k_head; (case hw => w_witness2)
  k_fill
  refine My.walk (l := PySem.Challenge.rw_figurebook_k10_sizes_and_keys) rfl rfl (fun w h Y => PySem.W.kIn_of Y) ?F
  case F =>
    intro w mg fa h KX G hmg
    refine' My.all_mk KX G hmg ?a_parts_of ?l_parts_of ?x_parts_of ?k_parts_of ?a_folded ?l_folded ?x_folded ?k_folded ?a_folded_over ?l_folded_over ?x_folded_over ?k_folded_over ?a_size_of ?l_size_of ?x_size_of ?k_size_of ?a_size_by ?l_size_by ?x_size_by ?k_size_by ?a_key_of ?l_key_of ?x_key_of ?k_key_of ?a_key_by ?l_key_by ?x_key_by ?k_key_by ?a_w_mix ?l_w_mix ?x_w_mix ?k_w_mix ?a_w_cell ?l_w_cell ?x_w_cell ?k_w_cell ?a_w_tuples ?l_w_tuples ?x_w_tuples ?k_w_tuples ?a_w_put ?l_w_put ?x_w_put ?k_w_put ?a_w_any ?l_w_any ?x_w_any ?k_w_any ?a_w_size ?l_w_size ?x_w_size ?k_w_size ?a_w_key ?l_w_key ?x_w_key ?k_w_key ?a_w_alike ?l_w_alike ?x_w_alike ?k_w_alike ?a_w_other ?l_w_other ?x_w_other ?k_w_other ?a_law ?l_law ?x_law ?k_law ?n_all ?n_any ?n_bool ?n_enumerate ?n_int ?n_isinstance ?n_len ?n_list ?n_max ?n_min ?n_range ?n_reversed ?n_sorted ?n_str ?n_sum ?n_tuple ?n_zip ?c_KINDS ?o_KINDS ?t_KINDS ?i_KINDS ?c_MANY ?o_MANY ?t_MANY ?i_MANY
    (case a_parts_of => k_is)
    (case l_parts_of => k_is)
    (case x_parts_of => k_is)
    (case k_parts_of => k_is)
    (case a_folded => k_is)
    (case l_folded => k_is)
    (case x_folded => k_is)
    (case k_folded => k_is)
    (case a_folded_over => k_is)
    (case l_folded_over => k_is)
    (case x_folded_over => k_is)
    (case k_folded_over => k_is)
    (case a_size_of => k_is)
    (case l_size_of => k_is)
    (case x_size_of => k_is)
    (case k_size_of => k_is)
    (case a_size_by => k_is)
    (case l_size_by => k_is)
    (case x_size_by => k_is)
    (case k_size_by => k_is)
    (case a_key_of => k_is)
    (case l_key_of => k_is)
    (case x_key_of => k_is)
    (case k_key_of => k_is)
    (case a_key_by => k_is)
    (case l_key_by => k_is)
    (case x_key_by => k_is)
    (case k_key_by => k_is)
    (case a_w_mix => k_is)
    (case l_w_mix => k_is)
    (case x_w_mix => k_is)
    (case k_w_mix => k_is)
    (case a_w_cell => k_is)
    (case l_w_cell => k_is)
    (case x_w_cell => k_is)
    (case k_w_cell => k_is)
    (case a_w_tuples => k_is)
    (case l_w_tuples => k_is)
    (case x_w_tuples => k_is)
    (case k_w_tuples => k_is)
    (case a_w_put => k_is)
    (case l_w_put => k_is)
    (case x_w_put => k_is)
    (case k_w_put => k_is)
    (case a_w_any => k_is)
    (case l_w_any => k_is)
    (case x_w_any => k_is)
    (case k_w_any => k_is)
    (case a_w_size => k_is)
    (case l_w_size => k_is)
    (case x_w_size => k_is)
    (case k_w_size => k_is)
    (case a_w_key => k_is)
    (case l_w_key => k_is)
    (case x_w_key => k_is)
    (case k_w_key => k_is)
    (case a_w_alike => k_is)
    (case l_w_alike => k_is)
    (case x_w_alike => k_is)
    (case k_w_alike => k_is)
    (case a_w_other => k_is)
    (case l_w_other => k_is)
    (case x_w_other => k_is)
    (case k_w_other => k_is)
    (case a_law => k_is)
    (case l_law => k_is)
    (case x_law => k_is)
    (case k_law => k_is)
    (case n_all => k_is)
    (case n_any => k_is)
    (case n_bool => k_is)
    (case n_enumerate => k_is)
    (case n_int => k_is)
    (case n_isinstance => k_is)
    (case n_len => k_is)
    (case n_list => k_is)
    (case n_max => k_is)
    (case n_min => k_is)
    (case n_range => k_is)
    (case n_reversed => k_is)
    (case n_sorted => k_is)
    (case n_str => k_is)
    (case n_sum => k_is)
    (case n_tuple => k_is)
    (case n_zip => k_is)
    (case c_KINDS => k_is)
    (case o_KINDS => k_is)
    (case t_KINDS => exact ⟨rfl, rfl⟩)
    (case i_KINDS => rfl)
    (case c_MANY => k_is)
    (case o_MANY => k_is)
    (case t_MANY => exact ⟨rfl, rfl⟩)
    (case i_MANY => rfl)

