import PyProof.Rows.All
import Wide.All
import OpenK.AllK
import Wide.FinOn
import Lean
import PyProof.EqAt
import PyProof.EqKinds
import PyProof.NeKinds
import PyProof.TupleCall
import PySem.Challenge.RW_kinturns_k15_a_table_written
set_option Elab.async false
set_option linter.all false
set_option maxRecDepth 100000
/-! THE HAND LAYER, for ints, bools, texts, own classes, LISTS and tuples (index, slices, in, append, pop ..), calls, loops. Paste it whole ahead of your own text; what your proof does not reach may be deleted. -/
namespace L2
open PySem PySem.Spec PyProof.Rows

/-- a key: an int or a str -/
abbrev Key := Sum Int Str
def keyIs : Key → Value → Bool
  | .inl k, v => Value.isInt k v
  | .inr x, v => Value.isStrOf x v
def keyH (w : World) : Key → Int
  | .inl k => hashInt k
  | .inr x => hashStr w x
theorem keyIs_shape : ∀ {k : Key} {v : Value}, keyIs k v = true → (∃ i t, k = Sum.inl i ∧ v = Value.int i t) ∨ (∃ x t, k = Sum.inr x ∧ v = Value.str x t)
  | .inl i, v, h => by
    obtain ⟨t, e⟩ := Value.isInt_shape (k := i) (v := v) h
    exact .inl ⟨i, t, rfl, e⟩
  | .inr x, v, h => by
    obtain ⟨t, e⟩ := Value.isStrOf_shape (x := x) (v := v) h
    exact .inr ⟨x, t, rfl, e⟩
theorem key_ll (a b : Int) : decide ((Sum.inl a : Key) = Sum.inl b) = (a == b) := by
  by_cases e : a = b
  · subst e; simp
  · have h : ¬ (Sum.inl a : Key) = Sum.inl b := fun q => e (Sum.inl.inj q)
    rw [decide_eq_false h]
    exact (beq_eq_false_iff_ne.mpr e).symm
theorem key_rr (a b : Str) : decide ((Sum.inr a : Key) = Sum.inr b) = decide (a = b) := by
  by_cases e : a = b
  · subst e; simp
  · have h : ¬ (Sum.inr a : Key) = Sum.inr b := fun q => e (Sum.inr.inj q)
    rw [decide_eq_false h, decide_eq_false e]
theorem key_lr (a : Int) (b : Str) : decide ((Sum.inl a : Key) = Sum.inr b) = false := decide_eq_false (fun q => nomatch q)
theorem key_rl (a : Str) (b : Int) : decide ((Sum.inr a : Key) = Sum.inl b) = false := decide_eq_false (fun q => nomatch q)

def mixKind (prog : Program) (w : World) : PySem.KeyKind prog w Key where
  is := keyIs
  hash := keyH w
  inj := fun v a b ha hb => by
    rcases keyIs_shape ha with ⟨i, t, rfl, rfl⟩ | ⟨x, t, rfl, rfl⟩
    · rcases keyIs_shape hb with ⟨j, u, rfl, e⟩ | ⟨y, u, rfl, e⟩
      · injection e with e1 _; rw [e1]
      · exact nomatch e
    · rcases keyIs_shape hb with ⟨j, u, rfl, e⟩ | ⟨y, u, rfl, e⟩
      · exact nomatch e
      · injection e with e1 _; rw [e1]
  byValue := fun k v h => by
    rcases keyIs_shape h with ⟨i, t, rfl, rfl⟩ | ⟨x, t, rfl, rfl⟩ <;> rfl
  pyHash := fun hv h => by
    rcases keyIs_shape hv with ⟨i, t, rfl, rfl⟩ | ⟨x, t, rfl, rfl⟩
    · exact wpAny_pyHash_int h
    · exact wpAny_pyHash_str h
  eqBool := fun hu hv h => by
    rcases keyIs_shape hu with ⟨i, t, rfl, rfl⟩ | ⟨x, t, rfl, rfl⟩
    · rcases keyIs_shape hv with ⟨j, u, rfl, rfl⟩ | ⟨y, u, rfl, rfl⟩
      · rw [key_ll] at h; exact wpAny_eqBool_int h
      · rw [key_lr] at h; exact SeqAt.EqAt.int_str i t y u _ _ _ _ h
    · rcases keyIs_shape hv with ⟨j, u, rfl, rfl⟩ | ⟨y, u, rfl, rfl⟩
      · rw [key_rl] at h; exact SeqAt.EqAt.str_int x t j u _ _ _ _ h
      · rw [key_rr] at h; exact wpAny_eqBool_str h
  «strs» := fun k x t v h => by
    rcases keyIs_shape h with ⟨i, u, rfl, e⟩ | ⟨y, u, rfl, e⟩
    · exact nomatch e
    · injection e with e1 _
      subst e1
      cases v <;> rfl

theorem mixKind_is (prog : Program) (w : World) (k : Key) (v : Value) : (mixKind prog w).is k v = keyIs k v := rfl
end L2

namespace L2
open PySem PySem.Spec PyProof.Rows

/-- a value, without the heap -/
inductive V where
  | non | bl (b : Bool) | int (i : Int) | str (x : Str) | byt (b : Array UInt8) | flt (b : UInt64) | ref (a : Addr) | ty (n : String)
  deriving DecidableEq

def RelV : V → Value → Prop
  | .non, u => u = Value.none
  | .bl b, u => u = Value.bool b
  | .int i, u => ∃ t, u = Value.int i t
  | .str x, u => ∃ t, u = Value.str x t
  | .byt b, u => ∃ t, u = Value.bytes b t
  | .flt b, u => ∃ t, u = Value.float b t
  | .ref a, u => u = Value.ref a
  | .ty n, u => u = Value.type n

abbrev Vals : List V → List Value → Prop := Paired RelV
theorem Vals.length {xs : List V} {us : List Value} (r : Vals xs us) : xs.length = us.length := Paired.length r
theorem Vals.get : ∀ {xs : List V} {us : List Value} {i : Nat} {x : V}, Vals xs us → xs[i]? = some x → ∃ u, us[i]? = some u ∧ RelV x u
  | _, _, _, _, .nil, e => by simp at e
  | _, _, 0, _, .cons r _, e => by simp at e; subst e; exact ⟨_, rfl, r⟩
  | _, _, i + 1, x, .cons _ t, e => by
    obtain ⟨u, h1, h2⟩ := Vals.get (i := i) (x := x) t (by simpa using e)
    exact ⟨u, by simpa using h1, h2⟩
theorem Vals.append : ∀ {xs ys : List V} {us ws : List Value}, Vals xs us → Vals ys ws → Vals (xs ++ ys) (us ++ ws)
  | _, _, _, _, .nil, s => s
  | _, _, _, _, .cons r t, s => .cons r (Vals.append t s)
theorem Vals.take : ∀ {xs : List V} {us : List Value} (n : Nat), Vals xs us → Vals (xs.take n) (us.take n)
  | _, _, 0, _ => .nil
  | _, _, _ + 1, .nil => .nil
  | _, _, n + 1, .cons r t => .cons r (Vals.take n t)
theorem Vals.drop : ∀ {xs : List V} {us : List Value} (n : Nat), Vals xs us → Vals (xs.drop n) (us.drop n)
  | _, _, 0, r => r
  | _, _, _ + 1, .nil => .nil
  | _, _, n + 1, .cons _ t => Vals.drop n t
def RelO : Option V → Option Value → Prop
  | some v, some u => RelV v u
  | none, none => True
  | _, _ => False
def KV {κ : Type} : List (κ × V) → List (κ × Value) → Prop := Paired fun (p : κ × V) (q : κ × Value) => p.1 = q.1 ∧ RelV p.2 q.2

/-- a key of a dict (00_mix): an int or a text -/
def kV : Key → V
  | .inl i => .int i
  | .inr x => .str x

/-- what stands at a tracked address -/
inductive HO where
  /-- a list -/
  | lst (xs : List V)
  /-- a tuple (never changes) -/
  | tup (xs : List V)
  /-- a dict whose keys are ints and texts; one whose keys are tuples of ints and texts (the empty one is both) -/
  | dK (kvs : List (Key × V)) | dT (kvs : List (List Key × V))
  /-- a set of ints: its members, its size -/
  | set (S : Int → Bool) (n : Nat)
  /-- an instance of the class at C, its dict at dx, its attributes -/
  | ins (C dx : Addr) (fs : List (Str × V))
  /-- the dict of the instance at x -/
  | own (x : Addr)
  /-- the dict of an exception -/
  | xd (fs : List (Str × V))
  /-- a bound method, f of x -/
  | met (f x : Addr)
  /-- a range object lo, lo + 1, .. below hi -/
  | rng (lo hi : Int)
  /-- a thing that is known to the object (the script; a dict while a loop walks it): read, never written while it is so -/
  | frz (o : Obj) (u : HO)
  /-- a code object's table -/
  | tbl (ps : Array Value)
  /-- any other thing, by what is true of its one object (a def of one's own: SetO a S n := HO.ext fun h => ..) -/
  | ext (φ : Heap → Prop)

abbrev Hp := Addr → Option HO
def upd (H : Hp) (a : Addr) (o : HO) : Hp := fun b => if b = a then some o else H b
theorem upd_same {H : Hp} {a : Addr} {o : HO} : upd H a o a = some o := by unfold upd; rw [if_pos rfl]
theorem upd_ne {H : Hp} {a b : Addr} {o : HO} (h : b ≠ a) : upd H a o b = H b := by unfold upd; rw [if_neg h]
/-- two objects of different content stand apart -/
theorem ne_of {H : Hp} {a b : Addr} {o u : HO} (h : H a = some o) (h' : H b = some u) (d : o ≠ u) : a ≠ b := by
  intro e; subst e; rw [h] at h'; exact d (Option.some.inj h')
theorem ne_of_none {H : Hp} {a b : Addr} {o : HO} (h : H a = some o) (h' : H b = none) : a ≠ b := by
  intro e; subst e; rw [h] at h'; cases h'

section
variable (P : Program) (w : World)
def ObjOk (H : Hp) (h : Heap) (a : Addr) : HO → Prop
  | .lst xs => xs.length ≤ sizeLine ∧ ∃ (its : List Value) (n : Nat), Vals xs its ∧ h.get? a = some { cls := .type "list", data := .seq its.toArray n }
  | .tup xs => xs.length ≤ sizeLine ∧ ∃ its : List Value, Vals xs its ∧ IsTup h a its.toArray
  | .dK kvs => kvs.length ≤ sizeLine ∧ (a == sysModules) = false ∧ ∃ vs, KV kvs vs ∧ h.DictOf (mixKind P w) a vs
  | .dT kvs => kvs.length ≤ sizeLine ∧ (a == sysModules) = false ∧ ∃ xs : List (List Key × Addr × Value),
      Paired (fun (p : List Key × V) (q : List Key × Addr × Value) => p.1 = q.1 ∧ H q.2.1 = some (.tup (p.1.map kV)) ∧ RelV p.2 q.2.2) kvs xs ∧
      ∃ o es ep, h.get? a = some o ∧ o.ExactDict ∧ o.data = .dict es ep ∧ es.toList = xs.map (entryOfKey (tupleKind (mixKind P w))) ∧ (xs.map (·.1)).Nodup
  | .set S n => h.SetOf (intKind P w) a S n
  | .ins C dx fs => H dx = some (.own a) ∧ fs.length ≤ 1000 ∧ dx ≠ a ∧ h.get? a = some (PySem.W.instObj C dx) ∧
      ∃ mA, h.Ns1 dx mA ∧ (∀ f, RelO (fs.lookup f) (mA f)) ∧ PySem.Within mA (fs.map (·.1))
  | .own _ => ∃ o, h.get? a = some o
  | .xd fs => ∃ mA, h.Ns1 a mA ∧ ∀ f, RelO (fs.lookup f) (mA f)
  | .rng lo hi => ∃ t u v, h.get? a = some { cls := .type "range", data := .fields #[.int lo t, .int hi u, .int 1 v] }
  | .frz o u => h.get? a = some o ∧ ObjOk H h a u
  | .tbl ps => h.get? a = some { cls := .none, data := .fields ps }
  | .met f x => h.get? a = some (PySem.W.methodObj (.ref f) (.ref x))
  | .ext φ => φ h ∧ (∃ o, h.get? a = some o) ∧ ∀ h1 h2 : Heap, φ h1 → (∀ o, h1.get? a = some o → h2.get? a = some o) → φ h2
/-- the abstract heap is held -/
def HOk (H : Hp) (h : Heap) : Prop := ∀ a o, H a = some o → ObjOk P w H h a o
end

section
variable {P : Program} {w : World} {H H' : Hp} {h h' : Heap} {a : Addr} {o : HO}
theorem ObjOk.lt (x : ObjOk P w H h a o) : a < h.objs.size := by
  cases o with
  | lst xs => obtain ⟨_, _, _, _, e⟩ := x; exact Heap.lt_size e
  | tup xs => obtain ⟨_, _, _, p⟩ := x; exact p.lt
  | dK kvs => obtain ⟨_, _, _, _, o, _, _, e, _⟩ := x; exact Heap.lt_size e
  | dT kvs => obtain ⟨_, _, _, _, o, _, _, e, _⟩ := x; exact Heap.lt_size e
  | set S n => obtain ⟨o, _, _, _, e, _⟩ := x; exact Heap.lt_size e
  | ins C dx fs => obtain ⟨_, _, _, e, _⟩ := x; exact Heap.lt_size e
  | own y => obtain ⟨_, e⟩ := x; exact Heap.lt_size e
  | xd fs => obtain ⟨_, ⟨_, _, _, e, _⟩, _⟩ := x; exact Heap.lt_size e
  | rng lo hi => obtain ⟨_, _, _, e⟩ := x; exact Heap.lt_size e
  | frz ob u => obtain ⟨e, _⟩ := x; exact Heap.lt_size e
  | tbl ps => exact Heap.lt_size (show h.get? a = some _ from x)
  | met f y => exact Heap.lt_size (show h.get? a = some _ from x)
  | ext φ => obtain ⟨_, ⟨_, e⟩, _⟩ := x; exact Heap.lt_size e
theorem Paired.mapP {α β : Type} {F G : α → β → Prop} : ∀ {l₁ : List α} {l₂ : List β}, Paired F l₁ l₂ → (∀ a b, F a b → G a b) → Paired G l₁ l₂
  | _, _, .nil, _ => .nil
  | _, _, .cons r t, f => .cons (f _ _ r) (Paired.mapP t f)
/-- what an object's description leans on: its own object, its own dict, the tuples -/
theorem ObjOk.stay (x : ObjOk P w H h a o) (k : ∀ b u, (b = a ∨ H b = some (.own a)) → h.get? b = some u → h'.get? b = some u)
    (ho : ∀ b, H b = some (.own a) → H' b = some (.own a)) (ht : ∀ b xs, H b = some (.tup xs) → H' b = some (.tup xs)) : ObjOk P w H' h' a o := by
  induction o with
  | lst xs => obtain ⟨z, its, n, r, e⟩ := x; exact ⟨z, its, n, r, k _ _ (.inl rfl) e⟩
  | tup xs => obtain ⟨z, its, r, ob, e, c⟩ := x; exact ⟨z, its, r, ob, k _ _ (.inl rfl) e, c⟩
  | dK kvs => obtain ⟨z, y, vs, r, ob, es, ep, e, c⟩ := x; exact ⟨z, y, vs, r, ob, es, ep, k _ _ (.inl rfl) e, c⟩
  | dT kvs =>
    obtain ⟨z, y, xs, r, ob, es, ep, e, c⟩ := x
    exact ⟨z, y, xs, Paired.mapP r fun p q z => ⟨z.1, ht _ _ z.2.1, z.2.2⟩, ob, es, ep, k _ _ (.inl rfl) e, c⟩
  | set S n => obtain ⟨ob, es, ep, t, e, c⟩ := x; exact ⟨ob, es, ep, t, k _ _ (.inl rfl) e, c⟩
  | ins C dx fs =>
    obtain ⟨d, z, ne, e, mA, ⟨od, es, ep, e2, c⟩, r⟩ := x
    exact ⟨ho _ d, z, ne, k _ _ (.inl rfl) e, mA, ⟨od, es, ep, k _ _ (.inr d) e2, c⟩, r⟩
  | own y => obtain ⟨ob, e⟩ := x; exact ⟨ob, k _ _ (.inl rfl) e⟩
  | xd fs => obtain ⟨mA, ⟨od, es, ep, e, c⟩, r⟩ := x; exact ⟨mA, ⟨od, es, ep, k _ _ (.inl rfl) e, c⟩, r⟩
  | rng lo hi => obtain ⟨t, u, v, e⟩ := x; exact ⟨t, u, v, k _ _ (.inl rfl) e⟩
  | frz ob u ih => obtain ⟨e, q⟩ := x; exact ⟨k _ _ (.inl rfl) e, ih q⟩
  | tbl ps =>
    have e : h.get? a = some { cls := .none, data := .fields ps } := x
    show h'.get? a = some { cls := .none, data := .fields ps }
    exact k a _ (.inl rfl) e
  | met f y =>
    have e : h.get? a = some (PySem.W.methodObj (.ref f) (.ref y)) := x
    show h'.get? a = some (PySem.W.methodObj (.ref f) (.ref y))
    exact k a _ (.inl rfl) e
  | ext φ => obtain ⟨p, ⟨o, e⟩, st⟩ := x; exact ⟨st _ _ p fun o q => k _ _ (.inl rfl) q, ⟨o, k _ _ (.inl rfl) e⟩, st⟩
theorem HOk.lt (x : HOk P w H h) (e : H a = some o) : a < h.objs.size := (x a o e).lt
theorem HOk.fresh (x : HOk P w H h) (e : h.objs.size ≤ a) : H a = none := by
  cases q : H a with
  | none => rfl
  | some u => exact absurd (Nat.lt_of_lt_of_le (x.lt q) e) (Nat.lt_irrefl _)
/-- every object of the heap is kept -/
theorem HOk.kept (x : HOk P w H h) (k : ∀ b u, h.get? b = some u → h'.get? b = some u) : HOk P w H h' := fun a o e =>
  (x a o e).stay (fun b u _ q => k b u q) (fun _ q => q) fun _ _ q => q
/-- a new object is laid and tracked -/
theorem HOk.laid (x : HOk P w H h) (k : ∀ b u, h.get? b = some u → h'.get? b = some u) (hp : h.objs.size ≤ a) (new : ObjOk P w (upd H a o) h' a o) : HOk P w (upd H a o) h' := fun b u e => by
  have hn := x.fresh hp
  by_cases hb : b = a
  · subst hb; rw [upd_same] at e; cases e; exact new
  · rw [upd_ne hb] at e
    exact (x b u e).stay (fun c v _ q => k c v q) (fun c q => by rw [upd_ne (ne_of_none q hn)]; exact q) fun c xs q => by rw [upd_ne (ne_of_none q hn)]; exact q
end

/-- what may be read as u: it is u, or a known u -/
def Rd (H : Hp) (a : Addr) (u : HO) : Prop := H a = some u ∨ ∃ o, H a = some (.frz o u)
theorem Rd.ok {P : Program} {w : World} {H : Hp} {h : Heap} {a : Addr} {u : HO} (r : Rd H a u) (x : HOk P w H h) : ObjOk P w H h a u := by
  rcases r with r | ⟨o, r⟩
  · exact x a u r
  · obtain ⟨_, q⟩ := x a _ r
    exact q
/-- what may be written -/
def Mut : Option HO → Prop
  | some (.lst _) => True
  | some (.dK _) => True
  | some (.dT _) => True
  | some (.set _ _) => True
  | some (.ins _ _ _) => True
  | some (.ext _) => True
  | _ => False
section
variable {P : Program} {w : World} {H : Hp} {h h' : Heap} {x e : Addr} {o' : HO}
/-- the object at e is changed: x itself, or the dict of the instance x -/
theorem HOk.write (ok : HOk P w H h) (mu : Mut (H x)) (he : e = x ∨ H e = some (.own x)) (k : ∀ b u, b ≠ e → h.get? b = some u → h'.get? b = some u) (heo : ∃ u, h'.get? e = some u)
    (new : ObjOk P w (upd H x o') h' x o') : HOk P w (upd H x o') h' := fun b u q => by
  have nown : ∀ c y, H c = some (.own y) → c ≠ x := fun c y r z => by subst z; rw [r] at mu; exact mu
  have ntup : ∀ c xs, H c = some (.tup xs) → c ≠ x := fun c xs r z => by subst z; rw [r] at mu; exact mu
  by_cases hb : b = x
  · subst hb; rw [upd_same] at q; cases q; exact new
  · rw [upd_ne hb] at q
    by_cases hbe : b = e
    · have q' : H b = some (.own x) := by
        rcases he with z | z
        · exact absurd (hbe.trans z) hb
        · rw [hbe]; exact z
      rw [q] at q'; cases q'
      obtain ⟨v, hv⟩ := heo
      exact ⟨v, by rw [hbe]; exact hv⟩
    · refine (ok b u q).stay (fun c v hc r => k c v ?_ r) (fun c r => by rw [upd_ne (nown c b r)]; exact r) fun c xs r => by rw [upd_ne (ntup c xs r)]; exact r
      rcases hc with rfl | hc
      · exact hbe
      · rintro rfl
        rcases he with z | z
        · exact nown c b hc z
        · rw [hc] at z; cases z; exact hb rfl
end

/-! ### kept unless tracked; of the frames at fs (the callers') the slots may change (an exception that passes writes there); of the records at ex (iterators) nothing is said -/
structure Un (fs ex : List Addr) (H H' : Hp) (h h' : Heap) : Prop where
  keep : ∀ b o, h.get? b = some o → H b = none → b ∉ fs → b ∉ ex → h'.get? b = some o
  slot : ∀ b o, h.get? b = some o → H b = none → b ∈ fs → b ∉ ex → ∃ sl, h'.get? b = some { o with slots := sl }
  free : ∀ b o, h.get? b = some o → H b = none → b ∉ ex → H' b = none
  there : ∀ b o, h.get? b = some o → b ∉ ex → ∃ o', h'.get? b = some o'
  tups : ∀ b xs, H b = some (.tup xs) → H' b = some (.tup xs)
  frzs : ∀ b o u, H b = some (.frz o u) → H' b = some (.frz o u)
  tbls : ∀ b ps, H b = some (.tbl ps) → ∃ more, H' b = some (.tbl (ps ++ more))
section
variable {fs fs' ex ex' : List Addr} {H H1 H2 : Hp} {h h1 h2 h' : Heap} {a x e : Addr} {o : HO}
theorem Un.any (u : Un fs ex H H1 h h1) {b : Addr} {ob : Obj} (q : h.get? b = some ob) (n : H b = none) (hx : b ∉ ex) : ∃ sl, h1.get? b = some { ob with slots := sl } := by
  by_cases hb : b ∈ fs
  · exact u.slot b ob q n hb hx
  · exact ⟨ob.slots, u.keep b ob q n hb hx⟩
theorem Un.kept (k : ∀ b u, h.get? b = some u → h'.get? b = some u) : Un fs ex H H h h' :=
  ⟨fun b ob q _ _ _ => k b ob q, fun b ob q _ _ _ => ⟨ob.slots, k b ob q⟩, fun _ _ _ n _ => n, fun b ob q _ => ⟨ob, k b ob q⟩, fun _ _ q => q, fun _ _ _ q => q, fun _ ps q => ⟨#[], by rw [q]; simp⟩⟩
theorem Un.refl : Un fs ex H H h h := Un.kept fun _ _ q => q
theorem Un.laid (k : ∀ b u, h.get? b = some u → h'.get? b = some u) (hp : h.objs.size ≤ a) (hn : H a = none) : Un fs ex H (upd H a o) h h' where
  keep := fun b u q _ _ _ => k b u q
  slot := fun b u q _ _ _ => ⟨u.slots, k b u q⟩
  free := fun b u q n _ => by rw [upd_ne (Nat.ne_of_lt (Nat.lt_of_lt_of_le (Heap.lt_size q) hp))]; exact n
  there := fun b u q _ => ⟨u, k b u q⟩
  tups := fun b xs q => by rw [upd_ne (ne_of_none q hn)]; exact q
  frzs := fun b u xs q => by rw [upd_ne (ne_of_none q hn)]; exact q
  tbls := fun b ps q => ⟨#[], by rw [upd_ne (ne_of_none q hn), q]; simp⟩
theorem Un.write (mu : Mut (H x)) (he : e = x ∨ H e = some (.own x)) (k : ∀ b u, b ≠ e → h.get? b = some u → h'.get? b = some u) (heo : ∃ u, h'.get? e = some u) : Un fs ex H (upd H x o) h h' := by
  have hx : ∀ b, H b = none → b ≠ x := fun b n z => by subst z; rw [n] at mu; exact mu
  have hb : ∀ b, H b = none → b ≠ e := fun b n z => by
    subst z
    rcases he with r | r
    · exact hx b n r
    · rw [n] at r; cases r
  have hm : ∀ b u, H b = some u → ¬ Mut (some u) → b ≠ x := fun b u q nm z => by subst z; rw [q] at mu; exact nm mu
  refine ⟨fun b u q n _ _ => k b u (hb b n) q, fun b u q n _ _ => ⟨u.slots, k b u (hb b n) q⟩, fun b u q n _ => by rw [upd_ne (hx b n)]; exact n, fun b u q _ => ?_,
    fun b xs q => by rw [upd_ne (hm b _ q fun z => z)]; exact q, fun b u xs q => by rw [upd_ne (hm b _ q fun z => z)]; exact q, fun b ps q => ⟨#[], by rw [upd_ne (hm b _ q fun z => z), q]; simp⟩⟩
  by_cases hbe : b = e
  · subst hbe; exact heo
  · exact ⟨u, k b u hbe q⟩
end

/-! ### the heap without what is tracked -/
def trk (h : Heap) (H : Hp) : List Addr := (List.range h.objs.size).filter fun a => (H a).isSome
def hidT (h : Heap) (H : Hp) : Heap := PySem.W.hideAll h (trk h H)
theorem hidT_size (h : Heap) (H : Hp) : (hidT h H).objs.size = h.objs.size := PySem.W.hideAll_size _ _
theorem hidT_get {h : Heap} {H : Hp} {b : Addr} {o : Obj} (e : h.get? b = some o) (n : H b = none) : (hidT h H).get? b = some o :=
  PySem.W.hideAll_get _ e fun hm => by
    have q : (H b).isSome = true := (List.mem_filter.mp hm).2
    rw [n] at q; simp at q
theorem of_hidT {h : Heap} {H : Hp} {b : Addr} {o : Obj} (e : (hidT h H).get? b = some o) : h.get? b = some o ∧ H b = none := by
  have e' : h.get? b = some o := PySem.W.of_hideAll (trk h H) e
  refine ⟨e', ?_⟩
  cases q : H b with
  | none => rfl
  | some x =>
    have hm : b ∈ trk h H := List.mem_filter.mpr ⟨List.mem_range.mpr (Heap.lt_size e'), by simp [q]⟩
    have z : (hidT h H).get? b = none := PySem.W.hideAll_none (trk h H) hm
    rw [z] at e; cases e

/-! ### OpenK's ledger, filled with every new object but one -/
def allNews (g h : Heap) (L : Addr) : List (Addr × Obj) := (List.range h.objs.size).filterMap fun a => if a = L ∨ (g.get? a).isSome = true then none else (h.get? a).map fun o => (a, o)
def rest (g h : Heap) (L d : Addr) : List (Addr × Obj) := (allNews g h L).filter fun p => decide (p.1 ≠ d)
end L2

namespace L2
open PySem PySem.Spec PyProof.Rows

/-- the module's facts, over the base: the heap at the law's entry without what is tracked there -/
structure Mod (K : PySem.W.Frag) (mg : Str → Option Value) (base : Heap) : Prop where
  kin : K.In base
  glob : base.Ns mainGlobals mg
  blt : ∃ mb, base.Ns builtinsNs mb ∧ ∀ x : Str, x ≠ "__name__" → mb x = bootBuiltins x
  nolimit : base.NoLimit

/-- the context: a def's body (or a comprehension's block) running. base: fixed through the whole law; s₀, H₀: the entry; outer: the frames whose slots others may change (a def's callers); stack: all frames that run;
   ex: iterators that were made ahead of the entry and are walked here (a comprehension's); fn: the names whose cells were made at the entry (a def: all; a comprehension's block: its own); calm: not within an except suite; pn: pins that every state bears; xe: what is wanted of an exception that leaves the code -/
structure Cx where
  prog : Program
  w : World
  K : PySem.W.Frag
  mg : Str → Option Value
  base : Heap
  A : Around
  N : List Str
  s₀ : Shared
  H₀ : Hp
  env : Env
  outer : List Env
  stack : List Env
  ex : List Addr
  fn : Str → Bool
  calm : Bool
  pn : List (Addr × Obj)
  xe : Value → Shared → Prop
/-- the callers' frames -/
def frs (l : List Env) : List Addr := l.filterMap (·.frame)
abbrev Cx.fs (X : Cx) : List Addr := frs X.outer

def Vis (sc : Scope) (x : Str) : Prop := sc.names.lookup x = some .local ∨ sc.names.lookup x = some .cell ∨ sc.names.lookup x = some .free
def Loc (sc : Scope) (x : Str) : Prop := sc.names.lookup x = some .local ∨ sc.names.lookup x = some .cell
def Look (env : Env) (h : Heap) (m : Str → Option Value) (x : Str) (u : Value) : Prop :=
  (env.kindOf x = some .local ∧ m x = some u) ∨ ((env.kindOf x = some .cell ∨ env.kindOf x = some .free) ∧ ∃ c, env.cells.lookup x = some c ∧ h.IsCell c (some u))

structure Cx.Ok (X : Cx) : Prop where
  mod : Mod X.K X.mg X.base
  kind : X.env.scope.kind = .function
  glob : X.env.globals = mainGlobals
  blt : X.env.builtins = builtinsNs
  above : X.s₀.heap.objs.size ≤ X.env.locals
  inj : ∀ x y c, X.env.cells.lookup x = some c → X.env.cells.lookup y = some c → x = y
  has : ∀ x, (X.env.kindOf x = some .cell ∨ X.env.kindOf x = some .free) → ∃ c, X.env.cells.lookup x = some c
  cab : ∀ x c, X.fn x = true → X.env.cells.lookup x = some c → X.s₀.heap.objs.size ≤ c
  hd : X.calm = true → X.A.handled = none
  frames : X.A.frames = some X.stack
  stk : X.stack = X.outer ∨ (X.stack = X.env :: X.outer ∧ X.env.frame = some X.env.locals)
  exf : ∀ b ∈ X.ex, b ≠ X.env.locals ∧ ∀ x c, X.env.cells.lookup x = some c → c ≠ b
  bs : ∀ b o, X.base.get? b = some o → X.s₀.heap.get? b = some o ∧ X.H₀ b = none
  bsz : X.base.objs.size ≤ X.s₀.heap.objs.size
  noex : ∀ b o, X.base.get? b = some o → b ∉ X.ex
  exfs : ∀ b ∈ X.ex, b ∉ X.fs
  funs : X.s₀.heap.FunFrames X.base X.outer
  frf : ∀ b ∈ X.fs, X.H₀ b = none

structure Inv (X : Cx) (pins : List (Addr × Obj)) (σ : List (Option V)) (H : Hp) (s : Shared) : Prop where
  ok : X.Ok
  os : s.os = X.s₀.os
  bare : AllBare s.gens
  base : Un X.fs X.ex X.H₀ H X.s₀.heap s.heap
  loc : ∃ m, s.heap.Ns X.env.locals m ∧ ∀ (i : Nat) (x : Str) (v : V), X.N[i]? = some x → σ[i]? = some (some v) → Vis X.env.scope x → ∃ u, RelV v u ∧ Look X.env s.heap m x u
  cell : ∀ x c, X.env.cells.lookup x = some c → ∃ v, s.heap.IsCell c v
  free : H X.env.locals = none
  freeC : ∀ x c, X.env.cells.lookup x = some c → H c = none
  pin : ∀ p ∈ X.pn ++ pins, s.heap.get? p.1 = some p.2 ∧ H p.1 = none ∧ p.1 ≠ X.env.locals ∧ p.1 ∉ X.fs ∧ ∀ v, p.2.data ≠ .cell v
  hok : HOk X.prog X.w H s.heap
  len : σ.length = X.N.length

section
variable {X : Cx} {pins : List (Addr × Obj)} {σ : List (Option V)} {H H' : Hp} {s : Shared} {h' : Heap}

theorem Cx.Ok.nofr (ok : X.Ok) {b : Addr} {o : Obj} (e : X.base.get? b = some o) : b ∉ X.fs := fun hb => by
  have := (ok.funs.mem hb).1
  rw [e] at this; cases this
theorem Inv.bs (I : Inv X pins σ H s) : ∀ b o, X.base.get? b = some o → s.heap.get? b = some o ∧ H b = none := fun b o e =>
  ⟨I.base.keep b o (I.ok.bs b o e).1 (I.ok.bs b o e).2 (I.ok.nofr e) (I.ok.noex b o e), I.base.free b o (I.ok.bs b o e).1 (I.ok.bs b o e).2 (I.ok.noex b o e)⟩
theorem Inv.bk (I : Inv X pins σ H s) : ∀ b o, X.base.get? b = some o → s.heap.get? b = some o := fun b o e => (I.bs b o e).1
theorem Inv.mod (I : Inv X pins σ H s) : Mod X.K X.mg X.base := I.ok.mod
theorem Inv.kIn (I : Inv X pins σ H s) : X.K.In s.heap := I.ok.mod.kin.keeps I.bk
theorem Inv.lt (I : Inv X pins σ H s) : X.env.locals < s.heap.objs.size := let ⟨_, hn, _⟩ := I.loc; hn.lt
theorem Inv.sz (I : Inv X pins σ H s) : X.s₀.heap.objs.size ≤ s.heap.objs.size := Nat.le_trans I.ok.above (Nat.le_of_lt I.lt)
theorem Inv.nofs (I : Inv X pins σ H s) {a : Addr} (h : s.heap.objs.size ≤ a) : a ∉ X.fs := fun hb => by
  obtain ⟨_, o, ho, _⟩ := I.ok.funs.mem hb
  exact absurd (Nat.lt_of_lt_of_le (Heap.lt_size ho) (Nat.le_trans I.sz h)) (Nat.lt_irrefl _)
theorem Inv.cne (I : Inv X pins σ H s) : ∀ x c, X.env.cells.lookup x = some c → c ≠ X.env.locals := fun x c e z => by
  obtain ⟨v, o, ho, hd⟩ := I.cell x c e
  obtain ⟨m, ⟨o', es, ep, ho', hd', _⟩, _⟩ := I.loc
  rw [z, ho'] at ho; cases ho; rw [hd'] at hd; cases hd
theorem Inv.funs (I : Inv X pins σ H s) : s.heap.FunFrames X.base X.outer := by
  have all : ∀ (l : List Env), (∀ b ∈ frs l, b ∈ X.fs) → X.s₀.heap.FunFrames X.base l → s.heap.FunFrames X.base l := by
    intro l
    induction l with
    | nil => intro _ _; trivial
    | cons env r ih =>
      intro hs hl
      obtain ⟨hk, ⟨L, o, hf, hn, ho, hd⟩, hr⟩ := hl
      have hL : L ∈ X.fs := hs L (by unfold frs; rw [List.filterMap_cons, hf]; exact List.mem_cons_self)
      obtain ⟨sl, e⟩ := I.base.slot L o ho (I.ok.frf L hL) hL fun z => I.ok.exfs L z hL
      exact ⟨hk, ⟨L, _, hf, hn, e, hd⟩, ih (fun b hb => hs b (by unfold frs; rw [List.filterMap_cons, hf]; exact List.mem_cons_of_mem _ hb)) hr⟩
  exact all X.outer (fun _ hb => hb) I.ok.funs

/-- the frames that run, for a call -/
theorem Inv.stack (I : Inv X pins σ H s) : s.heap.FunFrames X.base X.stack := by
  rcases I.ok.stk with e | ⟨e, hf⟩
  · rw [e]; exact I.funs
  · rw [e]
    obtain ⟨m, hn, _⟩ := I.loc
    refine .cons (by rw [I.ok.kind]; decide) hf hn ?_ I.funs
    exact Heap.get?_none_of_le (Nat.le_trans I.ok.bsz I.ok.above)
theorem Inv.stkSub (I : Inv X pins σ H s) : ∀ b ∈ frs X.stack, b ∈ X.env.locals :: X.fs := fun b hb => by
  rcases I.ok.stk with e | ⟨e, hf⟩
  · rw [e] at hb; exact List.mem_cons_of_mem _ hb
  · rw [e] at hb
    unfold frs at hb
    rw [List.filterMap_cons, hf] at hb
    exact hb
theorem Inv.stkFree (I : Inv X pins σ H s) : ∀ b ∈ frs X.stack, H b = none := fun b hb => by
  rcases List.mem_cons.mp (I.stkSub b hb) with e | hb
  · rw [e]; exact I.free
  · obtain ⟨_, o, ho, _⟩ := I.ok.funs.mem hb
    exact I.base.free b o ho (I.ok.frf b hb) fun z => I.ok.exfs b z hb

/-- THE STEP: the untracked objects but the frame and the records at ch are kept (the callers' frames up to slots), the frame's map is kept, the new abstract heap is held -/
theorem Inv.step {g' : Array GenState} {t' : Nat} {d' : Drawn} {ch : List Addr} (I : Inv X pins σ H s)
    (hch : ∀ b ∈ ch, (b ∈ X.ex ∨ X.s₀.heap.objs.size ≤ b) ∧ b ≠ X.env.locals ∧ (∀ x c, X.env.cells.lookup x = some c → c ≠ b) ∧ ∀ p ∈ X.pn ++ pins, p.1 ≠ b)
    (keep : ∀ b o, b ≠ X.env.locals → b ∉ X.fs → b ∉ ch → s.heap.get? b = some o → H b = none → h'.get? b = some o)
    (slot : ∀ b o, b ≠ X.env.locals → b ∈ X.fs → b ∉ ch → s.heap.get? b = some o → H b = none → ∃ sl, h'.get? b = some { o with slots := sl }) (free : ∀ b o, b ∉ ch → s.heap.get? b = some o → H b = none → H' b = none)
    (there : ∀ b o, b ∉ ch → s.heap.get? b = some o → ∃ o', h'.get? b = some o')
    (tups : ∀ b xs, H b = some (.tup xs) → H' b = some (.tup xs)) (frzs : ∀ b o u, H b = some (.frz o u) → H' b = some (.frz o u)) (tbls : ∀ b ps, H b = some (.tbl ps) → ∃ more, H' b = some (.tbl (ps ++ more)))
    (ns : ∀ m, s.heap.Ns X.env.locals m → h'.Ns X.env.locals m) (hok : HOk X.prog X.w H' h') (hg : AllBare g') :
    Inv X pins σ H' { s with heap := h', gens := g', drawn := d', toks := t' } := by
  have neL : ∀ b o, X.s₀.heap.get? b = some o → b ≠ X.env.locals := fun b o e => Nat.ne_of_lt (Nat.lt_of_lt_of_le (Heap.lt_size e) I.ok.above)
  have neC : ∀ b o, X.s₀.heap.get? b = some o → b ∉ X.ex → b ∉ ch := fun b o e hx hb => by
    rcases (hch b hb).1 with z | z
    · exact hx z
    · exact absurd (Nat.lt_of_lt_of_le (Heap.lt_size e) z) (Nat.lt_irrefl _)
  have cellK : ∀ x c, X.env.cells.lookup x = some c → ∀ v, s.heap.IsCell c v → h'.IsCell c v := fun x c e v ⟨o, ho, hd⟩ => by
    have nch : c ∉ ch := fun z => (hch c z).2.2.1 x c e rfl
    by_cases hc : c ∈ X.fs
    · obtain ⟨sl, q⟩ := slot c o (I.cne x c e) hc nch ho (I.freeC x c e)
      exact ⟨_, q, hd⟩
    · exact ⟨o, keep c o (I.cne x c e) hc nch ho (I.freeC x c e), hd⟩
  refine ⟨I.ok, I.os, hg, ⟨fun b o e n hb hx => ?_, fun b o e n hb hx => ?_, fun b o e n hx => ?_, fun b o e hx => ?_, fun b xs e => tups b xs (I.base.tups b xs e), fun b o xs e => frzs b o xs (I.base.frzs b o xs e), fun b ps e => ?_⟩, ?_, fun x c e => ?_, ?_, fun x c e => ?_, fun p hp => ?_, hok, I.len⟩
  · exact keep b o (neL b o e) hb (neC b o e hx) (I.base.keep b o e n hb hx) (I.base.free b o e n hx)
  · obtain ⟨sl, e1⟩ := I.base.slot b o e n hb hx
    obtain ⟨sl', e2⟩ := slot b _ (neL b o e) hb (neC b o e hx) e1 (I.base.free b o e n hx)
    exact ⟨sl', e2⟩
  · obtain ⟨o', e1⟩ := I.base.there b o e hx
    exact free b o' (neC b o e hx) e1 (I.base.free b o e n hx)
  · obtain ⟨o', e1⟩ := I.base.there b o e hx
    exact there b o' (neC b o e hx) e1
  · obtain ⟨m1, e1⟩ := I.base.tbls b ps e
    obtain ⟨m2, e2⟩ := tbls b _ e1
    exact ⟨m1 ++ m2, by rw [e2, Array.append_assoc]⟩
  · obtain ⟨m, hn, hl⟩ := I.loc
    refine ⟨m, ns m hn, fun i x v e1 e2 e3 => ?_⟩
    obtain ⟨u, r, l⟩ := hl i x v e1 e2 e3
    refine ⟨u, r, ?_⟩
    rcases l with l | ⟨k, c, e, z⟩
    · exact .inl l
    · exact .inr ⟨k, c, e, cellK x c e _ z⟩
  · obtain ⟨v, z⟩ := I.cell x c e
    exact ⟨v, cellK x c e v z⟩
  · obtain ⟨m, ⟨o, _, _, ho, _⟩, _⟩ := I.loc
    exact free _ o (fun z => (hch _ z).2.1 rfl) ho I.free
  · obtain ⟨v, o, ho, hd⟩ := I.cell x c e
    exact free c o (fun z => (hch c z).2.2.1 x c e rfl) ho (I.freeC x c e)
  · obtain ⟨e, n, ne, nf, d⟩ := I.pin p hp
    have nch : p.1 ∉ ch := fun z => (hch p.1 z).2.2.2 p hp rfl
    exact ⟨keep p.1 p.2 ne nf nch e n, free p.1 p.2 nch e n, ne, nf, d⟩
/-- .. where the frame's own object is kept too -/
theorem Inv.un {t' : Nat} (I : Inv X pins σ H s) (u : Un X.fs [] H H' s.heap h') (hok : HOk X.prog X.w H' h') : Inv X pins σ H' { s with heap := h', toks := t' } := by
  obtain ⟨m, ⟨o, es, ep, ho, r⟩, _⟩ := id I.loc
  obtain ⟨sl, hL⟩ := u.any ho I.free (by simp)
  exact I.step (g' := s.gens) (d' := s.drawn) (ch := []) (fun _ z => nomatch z) (fun b o _ hb _ e n => u.keep b o e n hb (by simp)) (fun b o _ hb _ e n => u.slot b o e n hb (by simp)) (fun b o _ e n => u.free b o e n (by simp)) (fun b o _ e => u.there b o e (by simp)) u.tups u.frzs u.tbls (fun m' hm => by
    obtain ⟨o', es', ep', ho', r'⟩ := hm
    rw [ho] at ho'; cases ho'
    exact ⟨_, es', ep', hL, r'⟩) hok I.bare
/-- behind a call (or a comprehension's block): the slots of this frame may have changed too, the records at ch may have turned -/
theorem Inv.call {g' : Array GenState} {t' : Nat} {d' : Drawn} {ch : List Addr} (I : Inv X pins σ H s) (u : Un (frs X.stack) ch H H' s.heap h') (hok : HOk X.prog X.w H' h') (hg : AllBare g')
    (hch : ∀ b ∈ ch, (b ∈ X.ex ∨ X.s₀.heap.objs.size ≤ b) ∧ b ≠ X.env.locals ∧ (∀ x c, X.env.cells.lookup x = some c → c ≠ b) ∧ ∀ p ∈ X.pn ++ pins, p.1 ≠ b) :
    Inv X pins σ H' { s with heap := h', gens := g', drawn := d', toks := t' } := by
  obtain ⟨m, ⟨o, es, ep, ho, r⟩, _⟩ := id I.loc
  obtain ⟨sl, hL⟩ := u.any ho I.free fun z => (hch _ z).2.1 rfl
  exact I.step (ch := ch) hch (fun b o hL hb hc e n => u.keep b o e n (fun z => (List.mem_cons.mp (I.stkSub b z)).elim hL hb) hc) (fun b o _ _ hc e n => u.any e n hc) (fun b o hc e n => u.free b o e n hc) (fun b o hc e => u.there b o e hc) u.tups u.frzs u.tbls (fun m' hm => by
    obtain ⟨o', es', ep', ho', r'⟩ := hm
    rw [ho] at ho'; cases ho'
    exact ⟨_, es', ep', hL, r'⟩) hok hg
/-- an untracked record of ours (an iterator) has turned -/
theorem Inv.turned {t' : Nat} {it : Addr} (I : Inv X pins σ H s) (k : ∀ b o, b ≠ it → s.heap.get? b = some o → h'.get? b = some o) (hn : H it = none) (hL : it ≠ X.env.locals)
    (h1 : it ∈ X.ex ∨ X.s₀.heap.objs.size ≤ it) (h2 : ∀ x c, X.env.cells.lookup x = some c → c ≠ it) (h3 : ∀ p ∈ X.pn ++ pins, p.1 ≠ it) : Inv X pins σ H { s with heap := h', toks := t' } := by
  have nit : ∀ b u, H b = some u → b ≠ it := fun b u e z => by rw [z, hn] at e; cases e
  refine I.step (g' := s.gens) (d' := s.drawn) (ch := [it]) (fun b hb => ?_) (fun b o _ _ hc e _ => k b o (fun z => hc (by simp [z])) e) (fun b o _ _ hc e _ => ⟨o.slots, k b o (fun z => hc (by simp [z])) e⟩) (fun _ _ _ _ n => n)
    (fun b o hc e => ⟨o, k b o (fun z => hc (by simp [z])) e⟩) (fun _ _ e => e) (fun _ _ _ e => e) (fun b ps e => ⟨#[], by rw [e]; simp⟩) (fun m hm => ?_) (fun b u e => ?_) I.bare
  · have e : b = it := by simpa using hb
    subst e
    exact ⟨h1, hL, h2, h3⟩
  · obtain ⟨o, es, ep, ho, r⟩ := hm
    exact ⟨o, es, ep, k _ o (Ne.symm hL) ho, r⟩
  · refine (I.hok b u e).stay (fun c v hc q => k c v ?_ q) (fun _ q => q) fun _ _ q => q
    rcases hc with z | z
    · rw [z]; exact nit b u e
    · exact nit c _ z
theorem Inv.tok (I : Inv X pins σ H s) (t : Nat) : Inv X pins σ H { s with toks := t } := I.un (h' := s.heap) (t' := t) Un.refl I.hok
/-- all objects kept -/
theorem Inv.kept {t' : Nat} (I : Inv X pins σ H s) (k : ∀ b u, s.heap.get? b = some u → h'.get? b = some u) : Inv X pins σ H { s with heap := h', toks := t' } := I.un (Un.kept k) (I.hok.kept k)
/-- a new object laid and tracked -/
theorem Inv.laid {a : Addr} {o : HO} {t' : Nat} (I : Inv X pins σ H s) (k : ∀ b u, s.heap.get? b = some u → h'.get? b = some u) (hp : s.heap.objs.size ≤ a) (new : ObjOk X.prog X.w (upd H a o) h' a o) :
    Inv X pins σ (upd H a o) { s with heap := h', toks := t' } := I.un (Un.laid k hp (I.hok.fresh hp)) (I.hok.laid k hp new)
/-- an object written -/
theorem Inv.write {x e : Addr} {o : HO} {t' : Nat} (I : Inv X pins σ H s) (mu : Mut (H x)) (he : e = x ∨ H e = some (.own x)) (k : ∀ b u, b ≠ e → s.heap.get? b = some u → h'.get? b = some u) (heo : ∃ u, h'.get? e = some u)
    (new : ObjOk X.prog X.w (upd H x o) h' x o) : Inv X pins σ (upd H x o) { s with heap := h', toks := t' } := I.un (Un.write mu he k heo) (I.hok.write mu he k heo new)
theorem Inv.pins_of {pins' : List (Addr × Obj)} (I : Inv X pins σ H s) (h : ∀ p ∈ pins', s.heap.get? p.1 = some p.2 ∧ H p.1 = none ∧ p.1 ≠ X.env.locals ∧ p.1 ∉ X.fs ∧ ∀ v, p.2.data ≠ .cell v) : Inv X pins' σ H s :=
  ⟨I.ok, I.os, I.bare, I.base, I.loc, I.cell, I.free, I.freeC, fun p hp => (List.mem_append.mp hp).elim (fun z => I.pin p (List.mem_append_left _ z)) (h p), I.hok, I.len⟩

theorem nodup_ix {N : List Str} (hN : N.Nodup) {i j : Nat} {x : Str} (a : N[i]? = some x) (b : N[j]? = some x) : i = j := by
  obtain ⟨h1, e1⟩ := List.getElem?_eq_some_iff.mp a
  obtain ⟨h2, e2⟩ := List.getElem?_eq_some_iff.mp b
  exact (List.getElem_inj hN).mp (e1.trans e2.symm)

/-- a name is stored; what changed -/
theorem store_ok2 {M : Model} {A : Around} {E : Value → Shared → Prop} {i : Nat} {x : Str} {v : V} {u : Value} {Q : Unit → Shared → Prop} (I : Inv X pins σ H s) (hN : X.N.Nodup) (hi : X.N[i]? = some x) (hx : Loc X.env.scope x) (r : RelV v u)
    (h : ∀ s', Inv X pins (σ.set i (some v)) H s' → (∃ a, Heap.SameBut a s.heap s'.heap ∧ (a = X.env.locals ∨ X.env.cells.lookup x = some a)) → Q () s') (hf : X.fn x = true ∨ X.env.scope.names.lookup x = some .local := by first | exact .inl rfl | exact .inr rfl | assumption) : wpAny M A (storeName X.env x u) Q E s := by
  obtain ⟨m, hn, hl⟩ := id I.loc
  have hcls : (X.env.scope.kind == .class || (X.env.scope.kind == .module && X.env.locals != X.env.globals)) = false := by rw [I.ok.kind]; rfl
  have hiσ : i < σ.length := by rw [I.len]; exact (List.getElem?_eq_some_iff.mp hi).1
  have cne := I.cne
  have tracked : ∀ {a : Addr} {h' : Heap}, (∃ o, s.heap.get? a = some o ∧ H a = none) → Heap.SameBut a s.heap h' → HOk X.prog X.w H h' := fun {a h'} ha hs b ob e => by
    obtain ⟨_, _, hfree⟩ := ha
    refine (I.hok b ob e).stay (fun c w' hc q => (hs.2 c ?_).trans q) (fun _ q => q) fun _ _ q => q
    rintro rfl
    rcases hc with rfl | hc
    · rw [hfree] at e; cases e
    · rw [hfree] at hc; cases hc
  rcases hx with hk | hk
  · refine wpAny_storeName_local hk hn (fun h' hn' hs => ?_) hcls
    obtain ⟨oL, _, _, hoL, _⟩ := id hn
    refine h _ ⟨I.ok, I.os, I.bare, ⟨fun b o e n hb hx => ?_, fun b o e n hb hx => ?_, I.base.free, fun b o e hx => ?_, I.base.tups, I.base.frzs, I.base.tbls⟩, ⟨_, hn', fun j y v' e1 e2 e3 => ?_⟩, fun y c e => ?_, I.free, I.freeC, fun p hp => ?_, tracked ⟨oL, hoL, I.free⟩ hs, by simpa using I.len⟩ ⟨_, hs, .inl rfl⟩
    · exact (hs.2 b (Nat.ne_of_lt (Nat.lt_of_lt_of_le (Heap.lt_size e) I.ok.above))).trans (I.base.keep b o e n hb hx)
    · obtain ⟨sl, e1⟩ := I.base.slot b o e n hb hx
      exact ⟨sl, (hs.2 b (Nat.ne_of_lt (Nat.lt_of_lt_of_le (Heap.lt_size e) I.ok.above))).trans e1⟩
    · obtain ⟨o', e1⟩ := I.base.there b o e hx
      exact ⟨o', (hs.2 b (Nat.ne_of_lt (Nat.lt_of_lt_of_le (Heap.lt_size e) I.ok.above))).trans e1⟩
    · by_cases hj : j = i
      · subst hj
        rw [hi] at e1; cases e1
        rw [List.getElem?_set_self hiσ] at e2
        cases e2
        exact ⟨u, r, .inl ⟨hk, by simp⟩⟩
      · rw [List.getElem?_set_ne (Ne.symm hj)] at e2
        obtain ⟨u', r', q⟩ := hl j y v' e1 e2 e3
        refine ⟨u', r', ?_⟩
        rcases q with ⟨k, e⟩ | ⟨k, c, e, z⟩
        · refine .inl ⟨k, ?_⟩
          have : y ≠ x := fun e => hj (nodup_ix hN e1 (e ▸ hi))
          simp [this, e]
        · exact .inr ⟨k, c, e, z.sameBut hs (cne y c e)⟩
    · obtain ⟨w', z⟩ := I.cell y c e
      exact ⟨w', z.sameBut hs (cne y c e)⟩
    · obtain ⟨e, n, ne, nf, d⟩ := I.pin p hp
      exact ⟨(hs.2 p.1 ne).trans e, n, ne, nf, d⟩
  · have hfn : X.fn x = true := by
      rcases hf with z | z
      · exact z
      · rw [z] at hk; cases hk
    obtain ⟨c, hc⟩ := I.ok.has x (.inl hk)
    obtain ⟨w', z⟩ := I.cell x c hc
    refine wpAny_storeName_cell I.ok.kind hk hc z (fun h' hc' hs => ?_)
    obtain ⟨oc, hoc, hocd⟩ := id z
    refine h { s with heap := h' } ⟨I.ok, I.os, I.bare, ⟨fun b o e n hb hx => ?_, fun b o e n hb hx => ?_, I.base.free, fun b o e hx => ?_, I.base.tups, I.base.frzs, I.base.tbls⟩, ⟨m, hn.sameBut hs (Ne.symm (cne x c hc)), fun j y v' e1 e2 e3 => ?_⟩, fun y c' e => ?_, I.free, I.freeC, fun p hp => ?_, tracked ⟨oc, hoc, I.freeC x c hc⟩ hs, by simpa using I.len⟩ ⟨c, hs, .inr hc⟩
    · exact (hs.2 b (Nat.ne_of_lt (Nat.lt_of_lt_of_le (Heap.lt_size e) (I.ok.cab x c hfn hc)))).trans (I.base.keep b o e n hb hx)
    · obtain ⟨sl, e1⟩ := I.base.slot b o e n hb hx
      exact ⟨sl, (hs.2 b (Nat.ne_of_lt (Nat.lt_of_lt_of_le (Heap.lt_size e) (I.ok.cab x c hfn hc)))).trans e1⟩
    · obtain ⟨o', e1⟩ := I.base.there b o e hx
      exact ⟨o', (hs.2 b (Nat.ne_of_lt (Nat.lt_of_lt_of_le (Heap.lt_size e) (I.ok.cab x c hfn hc)))).trans e1⟩
    · by_cases hj : j = i
      · subst hj
        rw [hi] at e1; cases e1
        rw [List.getElem?_set_self hiσ] at e2
        cases e2
        exact ⟨u, r, .inr ⟨.inl hk, c, hc, hc'⟩⟩
      · rw [List.getElem?_set_ne (Ne.symm hj)] at e2
        obtain ⟨u', r', q⟩ := hl j y v' e1 e2 e3
        refine ⟨u', r', ?_⟩
        rcases q with q | ⟨k, c', e, z'⟩
        · exact .inl q
        · refine .inr ⟨k, c', e, z'.sameBut hs ?_⟩
          rintro rfl
          exact hj (nodup_ix hN e1 (I.ok.inj _ _ _ e hc ▸ hi))
    · by_cases hcc : c' = c
      · subst hcc; exact ⟨_, hc'⟩
      · obtain ⟨w2, z2⟩ := I.cell y c' e
        exact ⟨w2, z2.sameBut hs hcc⟩
    · obtain ⟨e, n, ne, nf, d⟩ := I.pin p hp
      refine ⟨(hs.2 p.1 ?_).trans e, n, ne, nf, d⟩
      intro q
      rw [q, hoc] at e
      have q' : oc = p.2 := Option.some.inj e
      exact d w' (by rw [← q']; exact hocd)
theorem store_ok {M : Model} {A : Around} {E : Value → Shared → Prop} {i : Nat} {x : Str} {v : V} {u : Value} {Q : Unit → Shared → Prop} (I : Inv X pins σ H s) (hN : X.N.Nodup) (hi : X.N[i]? = some x) (hx : Loc X.env.scope x) (r : RelV v u)
    (h : ∀ s', Inv X pins (σ.set i (some v)) H s' → Q () s') (hf : X.fn x = true ∨ X.env.scope.names.lookup x = some .local := by first | exact .inl rfl | exact .inr rfl | assumption) : wpAny M A (storeName X.env x u) Q E s :=
  store_ok2 I hN hi hx r (fun s' I' _ => h s' I') hf
/-- behind a call or a block, the state as it is -/
theorem Inv.call' {s' : Shared} {ch : List Addr} (I : Inv X pins σ H s) (ho : s'.os = s.os) (u : Un (frs X.stack) ch H H' s.heap s'.heap) (hok : HOk X.prog X.w H' s'.heap) (hg : AllBare s'.gens)
    (hch : ∀ b ∈ ch, (b ∈ X.ex ∨ X.s₀.heap.objs.size ≤ b) ∧ b ≠ X.env.locals ∧ (∀ x c, X.env.cells.lookup x = some c → c ≠ b) ∧ ∀ p ∈ X.pn ++ pins, p.1 ≠ b) : Inv X pins σ H' s' := by
  obtain ⟨h', g', d', t', o'⟩ := s'
  have e : o' = s.os := ho
  subst e
  exact I.call (g' := g') (t' := t') (d' := d') u hok hg hch
end

/-! ### the judgements -/
/-- an exception: its class, its own dict's address (where it has one), the abstract heap behind it -/
abbrev XK := Value → Option Addr → Hp → Prop
abbrev St := List (Option V)
abbrev VK := V → Hp → Prop
/-- an expression's reading; a test's; an argument list's -/
abbrev TE := St → Hp → VK → Prop
abbrev TT := St → Hp → (Bool → Hp → Prop) → Prop
abbrev TA := St → Hp → (List V → Hp → Prop) → Prop
/-- what is wanted behind a statement -/
structure Ends where
  nx : St → Hp → Prop
  rt : VK
  bk : St → Hp → Prop := fun _ _ => False
  ct : St → Hp → Prop := fun _ _ => False
abbrev TS := Ends → St → Hp → Prop

def EP (X : Cx) (pins : List (Addr × Obj)) (σ : St) (Q : VK) (u : Value) (s' : Shared) : Prop := ∃ v H', Inv X pins σ H' s' ∧ RelV v u ∧ Q v H'
def TP (X : Cx) (pins : List (Addr × Obj)) (σ : St) (Q : Bool → Hp → Prop) (b : Bool) (s' : Shared) : Prop := ∃ H', Inv X pins σ H' s' ∧ Q b H'
def AP (X : Cx) (pins : List (Addr × Obj)) (σ : St) (Q : List V → Hp → Prop) (us : List Value) (s' : Shared) : Prop := ∃ vs H', Inv X pins σ H' s' ∧ Vals vs us ∧ Q vs H'
def SP (X : Cx) (pins : List (Addr × Obj)) (D : Ends) (f : Flow) (s' : Shared) : Prop :=
  match f with
  | .next => ∃ σ' H', Inv X pins σ' H' s' ∧ D.nx σ' H'
  | .brk => ∃ σ' H', Inv X pins σ' H' s' ∧ D.bk σ' H'
  | .cont => ∃ σ' H', Inv X pins σ' H' s' ∧ D.ct σ' H'
  | .ret u => ∃ v σ' H', Inv X pins σ' H' s' ∧ RelV v u ∧ D.rt v H'

def PE (X : Cx) (e : Expr) (t : TE) : Prop :=
  ∀ (pins : List (Addr × Obj)) (s : Shared) (σ : St) (H : Hp) (Q : VK), Inv X pins σ H s → t σ H Q → wpAny (model X.prog X.w) X.A (eval e X.env) (EP X pins σ Q) X.xe s
def PT (X : Cx) (e : Expr) (t : TT) : Prop :=
  ∀ (pins : List (Addr × Obj)) (s : Shared) (σ : St) (H : Hp) (Q : Bool → Hp → Prop), Inv X pins σ H s → t σ H Q → wpAny (model X.prog X.w) X.A (isTrue e X.env (eval e X.env)) (TP X pins σ Q) X.xe s
/-- a test whatever its 'whole' is (and, or) -/
def PW (X : Cx) (e : Expr) (t : TT) : Prop :=
  ∀ (whole : Sem Value) (pins : List (Addr × Obj)) (s : Shared) (σ : St) (H : Hp) (Q : Bool → Hp → Prop), Inv X pins σ H s → t σ H Q → wpAny (model X.prog X.w) X.A (isTrue e X.env whole) (TP X pins σ Q) X.xe s
theorem PW.pt {X : Cx} {e : Expr} {t : TT} (h : PW X e t) : PT X e t := h _
/-- an argument list (no star), from the left -/
def PA (X : Cx) (es : List Expr) (t : TA) : Prop :=
  ∀ (pos : Pos) (pins : List (Addr × Obj)) (s : Shared) (σ : St) (H : Hp) (Q : List V → Hp → Prop), Inv X pins σ H s → t σ H Q → wpAny (model X.prog X.w) X.A (spliced (backTo pos (starEach es X.env))) (AP X pins σ Q) X.xe s
def PS (X : Cx) (st : Stmt) (t : TS) : Prop :=
  ∀ (pins : List (Addr × Obj)) (s : Shared) (σ : St) (H : Hp) (D : Ends), Inv X pins σ H s → t D σ H → wpAny (model X.prog X.w) X.A (exec st X.env) (SP X pins D) X.xe s
def PSs (X : Cx) (st : List Stmt) (t : TS) : Prop :=
  ∀ (pins : List (Addr × Obj)) (s : Shared) (σ : St) (H : Hp) (D : Ends), Inv X pins σ H s → t D σ H → wpAny (model X.prog X.w) X.A (execs st X.env) (SP X pins D) X.xe s
/-- weaken the end -/
theorem thn {α : Type} {t : Sem α} {Q Q' : α → Shared → Prop} {M : Model} {A : Around} {E : Value → Shared → Prop} {s : Shared} (h : wpAny M A t Q E s) (hQ : ∀ a s, Q a s → Q' a s) : wpAny M A t Q' E s := wpAny_mono h hQ fun _ _ x => x
end L2

namespace L2
open PySem PySem.Spec PyProof.Rows
section
variable {X : Cx}

/-! ### names and constants -/
def tVar (i : Nat) : TE := fun σ H Q => ∃ v, σ[i]? = some (some v) ∧ Q v H
def tC (v : V) : TE := fun _ H Q => Q v H
theorem pe_var {i : Nat} {x : Str} {pos : Pos} (hN : X.N[i]? = some x) (hv : Vis X.env.scope x) (hd : (x == ("__debug__" : Str)) = false := by decide) (hcd : (x == ("__classdict__" : Str)) = false := by decide) : PE X (.Name x pos) (tVar i) := by
  intro pins s σ H Q I h
  obtain ⟨v, e, h⟩ := h
  obtain ⟨m, hn, hl⟩ := I.loc
  obtain ⟨u, r, l⟩ := hl i x v hN e hv
  have fin : EP X pins σ Q u s := ⟨v, H, I, r, h⟩
  rcases l with ⟨hk, hm⟩ | ⟨hk, c, hc, hcell⟩
  · exact wpAny_Name (wpAny_loadName_local I.ok.kind hk hn hm fin) hd
  · rcases hk with hk | hk
    · exact wpAny_Name (wpAny_loadName_cell I.ok.kind hk hc hcell fin) hd
    · exact wpAny_Name (wpAny_loadName_free I.ok.kind hk hc hcell fin hcd) hd
theorem pe_int {i j pos} : PE X (.Constant (.int i) j pos) (tC (.int i)) := fun _ _ _ H _ I h => wpAny_Constant_int ⟨.int i, H, I.tok _, ⟨_, rfl⟩, h⟩
theorem pe_bl {b j pos} : PE X (.Constant (.bool b) j pos) (tC (.bl b)) := fun _ _ _ H _ I h => Constant_bool ⟨.bl b, H, I, rfl, h⟩
theorem pe_str {x j pos} : PE X (.Constant (.str x) j pos) (tC (.str x)) := fun _ _ _ H _ I h => Calls.Constant_str ⟨.str x, H, I.tok _, ⟨_, rfl⟩, h⟩

/-- a global name of the def -/
def Gl (X : Cx) (x : Str) : Prop := X.env.kindOf x = some .globalImplicit
theorem ld_glob {E : Value → Shared → Prop} {pins : List (Addr × Obj)} {s : Shared} {σ : St} {H : Hp} {x : Str} {u : Value} {pos : Pos} {Q : Value → Shared → Prop} (I : Inv X pins σ H s) (hg : Gl X x) (hm : X.mg x = some u) (h : Q u s)
    (hd : (x == ("__debug__" : Str)) = false := by decide) : wpAny (model X.prog X.w) X.A (eval (.Name x pos) X.env) Q E s :=
  Calls.Name_function_global I.ok.kind hg (Calls.loadGlobal_global (by rw [I.ok.glob]; exact I.mod.glob.keeps I.bk) hm h) hd
theorem ld_blt {E : Value → Shared → Prop} {pins : List (Addr × Obj)} {s : Shared} {σ : St} {H : Hp} {x : Str} {u : Value} {pos : Pos} {Q : Value → Shared → Prop} (I : Inv X pins σ H s) (hg : Gl X x) (hm : X.mg x = none) (hv : bootBuiltins x = some u) (h : Q u s)
    (hn : x ≠ "__name__" := by decide) (hd : (x == ("__debug__" : Str)) = false := by decide) : wpAny (model X.prog X.w) X.A (eval (.Name x pos) X.env) Q E s := by
  obtain ⟨mb, h1, h2⟩ := I.mod.blt
  exact Calls.Name_function_global I.ok.kind hg (Calls.loadGlobal_builtin (by rw [I.ok.glob]; exact I.mod.glob.keeps I.bk) hm (by rw [I.ok.blt]; exact h1.keeps I.bk) ((h2 x hn).trans hv) h) hd
/-- a module's constant, a class, a function, as a value -/
theorem pe_glob {x : Str} {v : V} {u : Value} {pos : Pos} (hg : Gl X x) (hm : X.mg x = some u) (r : RelV v u) (hd : (x == ("__debug__" : Str)) = false := by decide) : PE X (.Name x pos) (tC v) :=
  fun _ _ _ H _ I h => ld_glob I hg hm ⟨v, H, I, r, h⟩ hd
theorem pe_bltn {x : Str} {v : V} {u : Value} {pos : Pos} (hg : Gl X x) (hm : X.mg x = none) (hv : bootBuiltins x = some u) (r : RelV v u) (hn : x ≠ "__name__" := by decide) (hd : (x == ("__debug__" : Str)) = false := by decide) : PE X (.Name x pos) (tC v) :=
  fun _ _ _ H _ I h => ld_blt I hg hm hv ⟨v, H, I, r, h⟩ hn hd

/-! ### arithmetic -/
variable {a b : Expr} {ta tb : TE} {pos : Pos}
/-! ### comparisons -/
/-- a comparison as a value, as a test -/
def tB (t : TE) : TT := fun σ H Q => t σ H fun x H1 => ∃ c, x = .bl c ∧ Q c H1
/-- an expression whose value is a bool, as a test -/
theorem pt_val {e : Expr} {t : TE} (h : PE X e t) (he : ∀ whole, isTrue e X.env whole = (do let v ← whole; standAt e.pos; holding [v] (truthy v)) := by intro _; rfl) : PT X e (tB t) := by
  intro pins s σ H Q I hw
  refine isTrue_plain (thn (h pins s σ H _ I hw) fun v s1 ⟨x, H1, I1, r1, q1⟩ => ?_) (he _)
  obtain ⟨d, rfl, q⟩ := q1
  cases r1
  exact wpAny_truthy_bool ⟨H1, I1, q⟩

/-! ### and, or, not -/
variable {tA tB' : TT} {rest : List Expr}
def tOr (t u : TT) : TT := fun σ H Q => t σ H fun c H1 => if c = true then Q true H1 else u σ H1 Q
def tNot (t : TT) : TT := fun σ H Q => t σ H fun c H1 => Q (!c) H1
theorem pw_or1 (ha : PT X a tA) : PW X (.BoolOp .Or [a] pos) tA := by
  intro wh pins s σ H Q I h
  refine isTrue_or (thn (ha pins s σ H Q I h) fun c s1 e => ?_)
  cases c with
  | false => exact isTrue_or_nil e
  | true => exact e
theorem pw_or (ha : PT X a tA) (hb : PW X (.BoolOp .Or (b :: rest) pos) tB') : PW X (.BoolOp .Or (a :: b :: rest) pos) (tOr tA tB') := by
  intro wh pins s σ H Q I h
  refine isTrue_or (thn (ha pins s σ H _ I h) fun c s1 ⟨H1, I1, q1⟩ => ?_)
  cases c with
  | true => exact ⟨H1, I1, q1⟩
  | false => exact hb wh pins s1 σ H1 Q I1 q1
theorem pt_not (ha : PT X a tA) : PT X (.UnaryOp .Not a pos) (tNot tA) := by
  intro pins s σ H Q I h
  exact isTrue_not (ha pins s σ H (fun c H1 => Q (!c) H1) I h)
/-- .. as values (bools) -/
def tAndV (ta tb : TE) : TE := fun σ H Q => ta σ H fun x H1 => ∃ c, x = .bl c ∧ if c = true then tb σ H1 Q else Q (.bl false) H1
def tNotV (ta : TE) : TE := fun σ H Q => ta σ H fun x H1 => ∃ c, x = .bl c ∧ Q (.bl (!c)) H1
theorem pe_one {op} {t : TE} (h : PE X a t) : PE X (.BoolOp op [a] pos) t := fun pins s σ H Q I hw => BoolOp_one (h pins s σ H Q I hw)
theorem pe_and (ha : PE X a ta) (hb : PE X (.BoolOp .And (b :: rest) pos) tb) : PE X (.BoolOp .And (a :: b :: rest) pos) (tAndV ta tb) := by
  intro pins s σ H Q I h
  refine BoolOp_and (thn (ha pins s σ H _ I h) fun v s1 ⟨x, H1, I1, r1, q1⟩ => ?_)
  obtain ⟨c, rfl, q1⟩ := q1
  cases r1
  refine wpAny_truthy_bool ?_
  cases c with
  | true => exact hb pins s1 σ H1 Q I1 q1
  | false => exact ⟨.bl false, H1, I1, rfl, q1⟩
theorem pe_not (ha : PE X a ta) : PE X (.UnaryOp .Not a pos) (tNotV ta) := by
  intro pins s σ H Q I h
  refine UnaryOp_ (thn (ha pins s σ H _ I h) fun v s1 ⟨x, H1, I1, r1, q1⟩ => ?_)
  obtain ⟨c, rfl, q1⟩ := q1
  cases r1
  exact not_of (wpAny_truthy_bool ⟨.bl (!c), H1, I1, rfl, q1⟩)
end
end L2

namespace L2
open PySem PySem.Spec PyProof.Rows

/-! ### a list, a tuple that is read: tracked, frozen, or an object of the module -/
def SqL (K : PySem.W.Frag) (H : Hp) (a : Addr) (xs : List V) : Prop :=
  Rd H a (.lst xs) ∨
    ∃ (o : Obj) (its : Array Value) (n : Nat), K.lookup a = some o ∧ o.cls = .type "list" ∧ o.dict = none ∧ o.data = .seq its n ∧ its.size ≤ sizeLine ∧ Vals xs its.toList
def SqT (K : PySem.W.Frag) (H : Hp) (a : Addr) (xs : List V) : Prop :=
  Rd H a (.tup xs) ∨
    ∃ (o : Obj) (its : Array Value) (n : Nat), K.lookup a = some o ∧ o.cls = .type "tuple" ∧ o.data = .seq its n ∧ its.size ≤ sizeLine ∧ Vals xs its.toList
def absV : Value → Option V
  | .none => some .non
  | .bool b => some (.bl b)
  | .int i _ => some (.int i)
  | .str x _ => some (.str x)
  | .bytes b _ => some (.byt b)
  | .float b _ => some (.flt b)
  | .ref a => some (.ref a)
  | .type n => some (.ty n)
  | _ => none
theorem RelV.abs {x : V} {u : Value} (r : RelV x u) : absV u = some x := by
  cases x with
  | non => cases r; rfl
  | bl _ => cases r; rfl
  | int _ => obtain ⟨t, rfl⟩ := r; rfl
  | str _ => obtain ⟨t, rfl⟩ := r; rfl
  | byt _ => obtain ⟨t, rfl⟩ := r; rfl
  | flt _ => obtain ⟨t, rfl⟩ := r; rfl
  | ref _ => cases r; rfl
  | ty _ => cases r; rfl
theorem RelV.inj {x y : V} {u : Value} (r : RelV x u) (q : RelV y u) : x = y := Option.some.inj (r.abs.symm.trans q.abs)
theorem Vals.inj : ∀ {xs ys : List V} {us : List Value}, Vals xs us → Vals ys us → xs = ys
  | _, _, _, .nil, .nil => rfl
  | _, _, _, .cons r t, .cons r' t' => by rw [r.inj r', Vals.inj t t']
section
variable {X : Cx} {pins : List (Addr × Obj)} {σ : St} {H : Hp} {s : Shared} {a : Addr} {xs ys : List V}
theorem SqL.of {K : PySem.W.Frag} (h : H a = some (.lst xs)) : SqL K H a xs := .inl (.inl h)
theorem Inv.list (I : Inv X pins σ H s) (h : SqL X.K H a xs) : ∃ its : List Value, Vals xs its ∧ PlainL s.heap a its.toArray ∧ xs.length ≤ sizeLine := by
  rcases h with h | ⟨o, its, n, hk, hc, hd, hs, hz, r⟩
  · obtain ⟨z, its, n, r, e⟩ := h.ok I.hok
    exact ⟨its, r, ⟨_, n, e, rfl, rfl, rfl⟩, z⟩
  · refine ⟨its.toList, r, ⟨o, n, I.kIn a o hk, hc, hd, by simpa using hs⟩, ?_⟩
    have e := r.length
    simp only [Array.length_toList] at e
    omega
theorem Inv.tuple (I : Inv X pins σ H s) (h : SqT X.K H a xs) : ∃ its : List Value, Vals xs its ∧ IsTup s.heap a its.toArray ∧ xs.length ≤ sizeLine := by
  rcases h with h | ⟨o, its, n, hk, hc, hs, hz, r⟩
  · obtain ⟨z, its, r, p⟩ := h.ok I.hok
    exact ⟨its, r, p, z⟩
  · refine ⟨its.toList, r, ⟨o, I.kIn a o hk, hc, n, by simpa using hs⟩, ?_⟩
    have e := r.length
    simp only [Array.length_toList] at e
    omega
theorem Inv.list_inj (I : Inv X pins σ H s) (h : SqL X.K H a xs) (h' : SqL X.K H a ys) : xs = ys := by
  obtain ⟨its, r, ⟨o, n, e, _, _, d⟩, _⟩ := I.list h
  obtain ⟨its', r', ⟨o', n', e', _, _, d'⟩, _⟩ := I.list h'
  rw [e] at e'; cases e'
  rw [d] at d'
  injection d' with d1 _
  have : its = its' := by simpa using congrArg Array.toList d1
  subst this
  exact r.inj r'
end

/-! ### another wish about exceptions -/
abbrev Cx.wish (X : Cx) (E : Value → Shared → Prop) : Cx := { X with xe := E }
/-- no exception leaves -/
abbrev Cx.nox (X : Cx) : Cx := X.wish fun _ _ => False
theorem Cx.Ok.wish {X : Cx} (ok : X.Ok) (E : Value → Shared → Prop) : (X.wish E).Ok :=
  ⟨ok.mod, ok.kind, ok.glob, ok.blt, ok.above, ok.inj, ok.has, ok.cab, ok.hd, ok.frames, ok.stk, ok.exf, ok.bs, ok.bsz, ok.noex, ok.exfs, ok.funs, ok.frf⟩
theorem Cx.Ok.unwish {X : Cx} {E : Value → Shared → Prop} (ok : (X.wish E).Ok) : X.Ok :=
  ⟨ok.mod, ok.kind, ok.glob, ok.blt, ok.above, ok.inj, ok.has, ok.cab, ok.hd, ok.frames, ok.stk, ok.exf, ok.bs, ok.bsz, ok.noex, ok.exfs, ok.funs, ok.frf⟩
section
variable {X : Cx} {pins : List (Addr × Obj)} {σ : St} {H : Hp} {s : Shared} {E : Value → Shared → Prop}
theorem Inv.wish (I : Inv X pins σ H s) (E : Value → Shared → Prop) : Inv (X.wish E) pins σ H s := ⟨I.ok.wish E, I.os, I.bare, I.base, I.loc, I.cell, I.free, I.freeC, I.pin, I.hok, I.len⟩
theorem Inv.unwish (I : Inv (X.wish E) pins σ H s) : Inv X pins σ H s := ⟨I.ok.unwish, I.os, I.bare, I.base, I.loc, I.cell, I.free, I.freeC, I.pin, I.hok, I.len⟩
theorem SP.unwish {D : Ends} {f : Flow} {s' : Shared} (h : SP (X.wish E) pins D f s') : SP X pins D f s' := by
  cases f with
  | next => obtain ⟨σ', H', I, q⟩ := h; exact ⟨σ', H', I.unwish, q⟩
  | brk => obtain ⟨σ', H', I, q⟩ := h; exact ⟨σ', H', I.unwish, q⟩
  | cont => obtain ⟨σ', H', I, q⟩ := h; exact ⟨σ', H', I.unwish, q⟩
  | ret u => obtain ⟨v, σ', H', I, r, q⟩ := h; exact ⟨v, σ', H', I.unwish, r, q⟩
theorem PSs.nox {st : List Stmt} {t : TS} (h : PSs X.nox st t) : PSs X st t := fun pins s σ H D I hw =>
  wpAny_mono (h pins s σ H D (I.wish _) hw) (fun _ _ q => q.unwish) fun _ _ z => False.elim z
end

/-! ### blocks and small statements -/
section
variable {X : Cx} {st : Stmt} {rest : List Stmt} {t u : TS} {e : Expr} {te : TE} {pos : Pos}
def tNext : TS := fun D σ H => D.nx σ H
def tSeq (t u : TS) : TS := fun D σ H => t { D with nx := u D } σ H
theorem pss_nil : PSs X [] tNext := fun _ _ σ H _ I h => wpAny_execs_nil ⟨σ, H, I, h⟩
theorem pss_cons (h1 : PS X st t) (h2 : PSs X rest u) : PSs X (st :: rest) (tSeq t u) := by
  intro pins s σ H D I h
  refine wpAny_execs_cons (thn (h1 pins s σ H { D with nx := u D } I h) fun f s1 q => ?_)
  cases f with
  | next =>
    obtain ⟨σ', H', I', q⟩ := q
    exact h2 pins s1 σ' H' D I' q
  | ret v => exact q
  | brk => exact q
  | cont => exact q
theorem pss_one (h1 : PS X st t) : PSs X [st] t := by
  intro pins s σ H D I h
  refine wpAny_execs_cons (thn (h1 pins s σ H D I h) fun f s1 q => ?_)
  cases f with
  | next => exact wpAny_execs_nil q
  | ret v => exact q
  | brk => exact q
  | cont => exact q
/-- in a def's body nothing is shown -/
theorem Inv.quiet {pins : List (Addr × Obj)} {σ : St} {H : Hp} {s : Shared} (I : Inv X pins σ H s) : interactive X.env = false := by simp [interactive, I.ok.kind]
/-- an expression whose value is dropped -/
def tDrop (te : TE) : TS := fun D σ H => te σ H fun _ H1 => D.nx σ H1
theorem ps_expr (he : PE X e te) (hs : swapsWith e none pos.line X.env = pure false := by rfl) : PS X (.Expr e pos) (tDrop te) := by
  intro pins s σ H D I h
  exact wpAny_Expr_any (thn (he pins s σ H _ I h) fun v s1 ⟨x, H1, I1, r1, q1⟩ => ⟨σ, H1, I1, q1⟩) I.quiet hs
def tRet (te : TE) : TS := fun D σ H => te σ H D.rt
theorem ps_ret (he : PE X e te) : PS X (.Return (some e) pos) (tRet te) := by
  intro pins s σ H D I h
  exact wpAny_Return_some (thn (he pins s σ H _ I h) fun v s1 ⟨x, H1, I1, r1, q1⟩ => ⟨x, σ, H1, I1, r1, q1⟩)
def tIfS (c : TT) (t u : TS) : TS := fun D σ H => c σ H fun b H1 => if b = true then t D σ H1 else u D σ H1
theorem ps_if {c : Expr} {a b : List Stmt} {tc : TT} (hc : PT X c tc) (ha : PSs X a t) (hb : PSs X b u) : PS X (.If c a b pos) (tIfS tc t u) := by
  intro pins s σ H D I h
  refine wpAny_If (thn (hc pins s σ H _ I h) fun d s1 ⟨H1, I1, q1⟩ => ?_)
  cases d with
  | true => exact ha pins s1 σ H1 D I1 q1
  | false => exact hb pins s1 σ H1 D I1 q1
end

/-! ### targets -/
abbrev TG := V → St → Hp → (St → Hp → Prop) → Prop
def PG (X : Cx) (target : Expr) (t : TG) : Prop :=
  ∀ (pins : List (Addr × Obj)) (s : Shared) (σ : St) (H : Hp) (v : V) (u : Value) (Q : St → Hp → Prop), Inv X pins σ H s → RelV v u → t v σ H Q →
    wpAny (model X.prog X.w) X.A (assign target X.env u) (fun _ s' => ∃ σ' H', Inv X pins σ' H' s' ∧ Q σ' H') X.xe s
section
variable {X : Cx} {pos : Pos}
def gName (i : Nat) : TG := fun v σ H Q => Q (σ.set i (some v)) H
theorem pg_name {i : Nat} {x : Str} (hN : X.N.Nodup) (hi : X.N[i]? = some x) (hx : Loc X.env.scope x) (hf : X.fn x = true ∨ X.env.scope.names.lookup x = some .local := by first | exact .inl rfl | exact .inr rfl | assumption) : PG X (.Name x pos) (gName i) := by
  intro pins s σ H v u Q I r h
  exact wpAny_assign_Name (store_ok I hN hi hx r (fun s' I' => ⟨_, H, I', h⟩) hf)
/-- target = value -/
def tAsg (te : TE) (g : TG) : TS := fun D σ H => te σ H fun x H1 => g x σ H1 D.nx
/-- name = value -/
theorem ps_set {i : Nat} {x : Str} {e : Expr} {te : TE} {pos' : Pos} (hN : X.N.Nodup) (hi : X.N[i]? = some x) (hx : Loc X.env.scope x) (he : PE X e te) (hs : swapsWith e (some (.Name x pos')) pos.line X.env = pure false := by rfl) (hf : X.fn x = true ∨ X.env.scope.names.lookup x = some .local := by first | exact .inl rfl | exact .inr rfl | assumption) :
    PS X (.Assign [.Name x pos'] e pos) (tAsg te (gName i)) := by
  intro pins s σ H D I h
  refine wpAny_Assign_Name (thn (he pins s σ H _ I h) fun v s1 ⟨y, H1, I1, r1, q1⟩ => ?_) hs
  exact store_ok I1 hN hi hx r1 (fun s2 I2 => ⟨_, H1, I2, q1⟩) hf
end

/-! ### while -/
section
variable {X : Cx} {pos : Pos}
/-- the invariant W with its measure -/
def tWhile (c : TT) (tb : TS) : TS := fun D σ H => ∃ W : Nat → St → Hp → Prop, (∃ m, W m σ H) ∧ ∀ m σ H, W m σ H →
  c σ H fun b H1 => if b = true then ∃ N : St → Hp → Prop, (∀ σ' H', N σ' H' → ∃ m', m' < m ∧ W m' σ' H') ∧ tb { D with nx := N, ct := N, bk := D.nx } σ H1 else D.nx σ H1
theorem ps_while {c : Expr} {body : List Stmt} {tc : TT} {tb : TS} (hp : PassesOwn (model X.prog X.w) X.A X.env X.xe) (hc : PT X c tc) (hb : PSs X body tb) : PS X (.While c body [] pos) (tWhile tc tb) := by
  intro pins s σ H D I h
  obtain ⟨W, ⟨m0, w0⟩, turn⟩ := h
  refine wpAny_While (codeAny_whileLoop (fun n s' => ∃ σ' H', Inv X pins σ' H' s' ∧ W n σ' H') ?_ m0 ⟨σ, H, I, w0⟩)
  rintro n s1 ⟨σ1, H1, I1, w1⟩
  refine wpAny_passesOwn hp (thn (hc pins s1 σ1 H1 _ I1 (turn n σ1 H1 w1)) fun b s2 ⟨H2, I2, q2⟩ => ?_)
  cases b with
  | true =>
    obtain ⟨N, hN, q2⟩ := q2
    rw [if_pos rfl]
    refine wpAny_passesOwn hp (thn (hb pins s2 σ1 H2 _ I2 q2) fun f s3 q3 => ?_)
    cases f with
    | next =>
      obtain ⟨σ3, H3, I3, n3⟩ := q3
      obtain ⟨m', hm, w3⟩ := hN σ3 H3 n3
      exact ⟨m', hm, σ3, H3, I3, w3⟩
    | cont =>
      obtain ⟨σ3, H3, I3, n3⟩ := q3
      obtain ⟨m', hm, w3⟩ := hN σ3 H3 n3
      exact ⟨m', hm, σ3, H3, I3, w3⟩
    | brk => exact q3
    | ret v => exact q3
  | false =>
    rw [if_neg Bool.false_ne_true]
    exact wpAny_execs_nil ⟨σ1, H2, I2, q2⟩
end

/-! ### what a loop or a comprehension walks -/
/-- at turn i: it yields x (the heap may grow), or it stops -/
structure It where
  go : Nat → Hp → Prop
  yld : Nat → Hp → V → Hp → Prop
  stop : Nat → Hp → Prop
/-- the iterator's own objects may turn: they are not the frame's, not pinned, younger than the entry (or a comprehension's own) -/
def FpOk (X : Cx) (pins : List (Addr × Obj)) (H : Hp) (b : Addr) : Prop :=
  H b = none ∧ b ≠ X.env.locals ∧ b ∉ X.fs ∧ (b ∈ X.ex ∨ X.s₀.heap.objs.size ≤ b) ∧ (∀ x c, X.env.cells.lookup x = some c → c ≠ b) ∧ ∀ p ∈ X.pn ++ pins, p.1 ≠ b
theorem Inv.fpOk {X : Cx} {pins : List (Addr × Obj)} {σ : St} {H H' : Hp} {s : Shared} {b : Addr} (I : Inv X pins σ H s) (hb : s.heap.objs.size ≤ b) (hn : H' b = none) : FpOk X pins H' b := by
  refine ⟨hn, Nat.ne_of_gt (Nat.lt_of_lt_of_le I.lt hb), I.nofs hb, .inr (Nat.le_trans I.sz hb), fun x c e z => ?_, fun p hp z => ?_⟩
  · obtain ⟨v, q⟩ := I.cell x c e
    exact absurd (Nat.lt_of_lt_of_le q.lt (by rw [z]; exact hb)) (Nat.lt_irrefl _)
  · exact absurd (Nat.lt_of_lt_of_le (Heap.lt_size (I.pin p hp).1) (by rw [z]; exact hb)) (Nat.lt_irrefl _)
structure Turn (P : Program) (w : World) (K : PySem.W.Frag) (tg : Expr) (J : It) (fp : List Addr) (it : Addr) (tn : Nat → Heap → Prop) : Prop where
  mem : it ∈ fp
  obj : ∀ i h, tn i h → ∀ b ∈ fp, ∃ o, h.get? b = some o ∧ ∀ v, o.data ≠ .cell v
  keep : ∀ i h h', tn i h → (∀ b ∈ fp, ∀ o, h.get? b = some o → h'.get? b = some o) → tn i h'
  item : ∀ (X : Cx), X.prog = P → X.w = w → X.K = K → X.calm = true → ∀ (i : Nat) (pins : List (Addr × Obj)) (s : Shared) (σ : St) (H : Hp) (E : Value → Shared → Prop), Inv X pins σ H s → (∀ b ∈ fp, FpOk X pins H b) → tn i s.heap → J.go i H →
    wpAny (model P w) X.A (pyNext (.ref it)) (fun r s1 => ∃ u, r = some u ∧
      wpAny (model P w) X.A (letOwnedTupleGo tg (.ref it) u) (fun _ s2 => ∃ x H', Inv X pins σ H' s2 ∧ RelV x u ∧ J.yld i H x H' ∧ tn (i + 1) s2.heap ∧ ∀ b ∈ fp, H' b = none) E s1) E s
  done : ∀ (X : Cx), X.prog = P → X.w = w → X.K = K → X.calm = true → ∀ (i : Nat) (pins : List (Addr × Obj)) (s : Shared) (σ : St) (H : Hp) (E : Value → Shared → Prop), Inv X pins σ H s → (∀ b ∈ fp, FpOk X pins H b) → tn i s.heap → J.stop i H →
    wpAny (model P w) X.A (pyNext (.ref it)) (fun r s1 => r = none ∧ Inv X pins σ H s1) E s
  self : ∀ (A : Around) (i : Nat) (s : Shared) (Q : Value → Shared → Prop) (E : Value → Shared → Prop), tn i s.heap → Q (.ref it) s → wpAny (model P w) A (pyIter (.ref it)) Q E s
abbrev TI := St → Hp → (It → Hp → Prop) → Prop
/-- an iterator has come -/
def PIE (X : Cx) (pins : List (Addr × Obj)) (σ : St) (tg : Expr) (R : It → Hp → Prop) (itv : Value) (s2 : Shared) : Prop :=
  ∃ (it : Addr) (fp : List Addr) (tn : Nat → Heap → Prop) (J : It) (H' : Hp), itv = .ref it ∧ Inv X pins σ H' s2 ∧ Turn X.prog X.w X.K tg J fp it tn ∧ tn 0 s2.heap ∧ (∀ b ∈ fp, FpOk X pins H' b) ∧ R J H'
def PI (X : Cx) (tg iter : Expr) (wi : TI) : Prop :=
  ∀ (pins : List (Addr × Obj)) (s : Shared) (σ : St) (H : Hp) (R : It → Hp → Prop), Inv X pins σ H s → wi σ H R →
    wpAny (model X.prog X.w) X.A (eval iter X.env) (fun v s1 => wpAny (model X.prog X.w) X.A (pyIter v) (PIE X pins σ tg R) X.xe s1) X.xe s

/-- the step ahead of the store is nothing for an iterator that keeps no tuple -/
theorem go_of {M : Model} {A : Around} {E : Value → Shared → Prop} {s : Shared} {tg : Expr} {it : Addr} {u : Value} {o : Obj} {n : String} {vs : Array Value} {Q : Unit → Shared → Prop} (ho : s.heap.get? it = some o) (hc : o.cls = .type n) (hd : o.data = .fields vs)
    (hn : ["enumerate", "zip", "dict_itemiterator", "dict_reverseitemiterator", "odict_iterator", "itertools.zip_longest", "itertools.pairwise"].contains n = false) (hQ : Q () s) : wpAny M A (letOwnedTupleGo tg (.ref it) u) Q E s := by
  unfold letOwnedTupleGo
  cases tg <;> first
    | exact wpAny_pure hQ
    | (cases u <;> first
        | exact wpAny_pure hQ
        | (refine wpAny_bind (wpAny_load ho ?_)
           rw [hc, hd]
           show wpAny M A (if (["enumerate", "zip", "dict_itemiterator", "dict_reverseitemiterator", "odict_iterator", "itertools.zip_longest", "itertools.pairwise"].contains n && vs[0]? == some (rawInt _)) = true then _ else _) Q E s
           rw [if_neg (by intro h; rw [hn, Bool.false_and] at h; cases h)]
           exact wpAny_pure hQ))

/-- the list at a, as it stands at each turn (a loop may append to it) -/
def Itl (K : PySem.W.Frag) (a : Addr) : It :=
  ⟨fun i H => ∃ xs x, SqL K H a xs ∧ xs[i]? = some x, fun i H x H' => H' = H ∧ ∀ xs, SqL K H a xs → xs[i]? = some x, fun i H => ∃ xs, SqL K H a xs ∧ xs.length ≤ i⟩
/-- lo, lo + 1, .. (n of them) -/
def Itr (lo : Int) (n : Nat) : It := ⟨fun i _ => i < n, fun i H x H' => H' = H ∧ x = .int (lo + i), fun i _ => n ≤ i⟩
theorem turn_list {P : Program} {w : World} {K : PySem.W.Frag} {tg : Expr} (a it : Addr) : Turn P w K tg (Itl K a) [it] it (fun i h => h.IsListIter it a i) where
  mem := by simp
  obj := fun i h st b hb => by
    have e : b = it := by simpa using hb
    subst e
    obtain ⟨o, e, c, d⟩ := st
    exact ⟨o, e, fun v z => by rw [d] at z; cases z⟩
  keep := fun i h h' st k => st.at fun o e => k it (by simp) o e
  item := by
    intro X hP hw hK hc i pins s σ H E I hf st hg
    subst hP hw hK
    obtain ⟨xs, x, hq, hx⟩ := hg
    obtain ⟨its, rv, p, hz⟩ := I.list hq
    obtain ⟨u, hu, ru⟩ := rv.get hx
    obtain ⟨f0, f1, f2, f3, f4, f5⟩ := hf it (by simp)
    refine wpAny_pyNext_list_item st p.isList (x := u) (by simpa using hu) fun h' st' sb => ?_
    have I1 : Inv X pins σ H { s with heap := h' } := I.turned (t' := s.toks) (fun b o hb e => (sb.2 b hb).trans e) f0 f1 f3 f4 f5
    obtain ⟨o, e, c, d⟩ := id st'
    exact ⟨u, rfl, go_of (s := { s with heap := h' }) e c d (by decide) ⟨x, H, I1, ru, ⟨rfl, fun ys hy => by rw [I.list_inj hy hq]; exact hx⟩, st', fun b hb => (hf b hb).1⟩⟩
  done := by
    intro X hP hw hK hc i pins s σ H E I hf st hg
    subst hP hw hK
    obtain ⟨xs, hq, hx⟩ := hg
    obtain ⟨its, rv, p, hz⟩ := I.list hq
    obtain ⟨f0, f1, f2, f3, f4, f5⟩ := hf it (by simp)
    have hl := rv.length
    exact wpAny_pyNext_list_end (I.ok.hd hc) st p.isList (by simp; omega) fun h' eb => ⟨rfl, I.turned (t' := s.toks) (fun b o hb e => eb b o hb e) f0 f1 f3 f4 f5⟩
  self := fun _ _ _ _ _ st h => wpAny_pyIter_listiter st h
theorem turn_range {P : Program} {w : World} {K : PySem.W.Frag} {tg : Expr} (it : Addr) (lo : Int) (n : Nat) : Turn P w K tg (Itr lo n) [it] it (fun i h => IsRangeIter h it (lo + (i : Nat) * 1) ((n : Int) - (i : Nat)) 1) where
  mem := by simp
  obj := fun i h st b hb => by
    have e : b = it := by simpa using hb
    subst e
    exact ⟨_, st, fun v z => by
      have z' : Data.fields _ = Data.cell v := z
      cases z'⟩
  keep := fun i h h' st k => k it (by simp) _ st
  item := by
    intro X hP hw hK hc i pins s σ H E I hf st hg
    subst hP hw hK
    obtain ⟨f0, f1, f2, f3, f4, f5⟩ := hf it (by simp)
    have W := Walks.range (prog := X.prog) (w := X.w) (I.ok.hd hc) it lo 1 n
    refine W.item i s _ _ hg st fun v h' tk hv st' kk => ?_
    obtain ⟨t, rfl⟩ := hv
    have I1 : Inv X pins σ H { s with heap := h', toks := tk } := I.turned (fun b o hb e => kk b o (by simpa using hb) e) f0 f1 f3 f4 f5
    refine ⟨_, rfl, go_of (s := { s with heap := h', toks := tk }) (n := "range_iterator") st' rfl rfl (by decide) ⟨.int (lo + i), H, I1, ⟨t, ?_⟩, ⟨rfl, rfl⟩, st', fun b hb => (hf b hb).1⟩⟩
    rw [Int.mul_one]
  done := by
    intro X hP hw hK hc i pins s σ H E I hf st hg
    subst hP hw hK
    obtain ⟨f0, f1, f2, f3, f4, f5⟩ := hf it (by simp)
    exact wpAny_pyNext_range_end (I.ok.hd hc) st (by have : n ≤ i := hg; omega) fun h' eb => ⟨rfl, I.turned (t' := s.toks) (fun b o hb e => eb b o hb e) f0 f1 f3 f4 f5⟩
  self := fun _ _ _ _ _ st h => wpAny_pyIter_rangeiter st h
end L2

namespace L2
open PySem PySem.Spec PyProof.Rows
section
variable {X : Cx} {tg : Expr}
def iList (K : PySem.W.Frag) (tl : TE) : TI := fun σ H R => tl σ H fun x H1 => ∃ a, x = .ref a ∧ (∃ xs, SqL K H1 a xs) ∧ R (Itl K a) H1
theorem pi_list {l : Expr} {tl : TE} (hl : PE X l tl) : PI X tg l (iList X.K tl) := by
  intro pins s σ H R I h
  refine thn (hl pins s σ H _ I h) fun v s1 ⟨x, H1, I1, r1, q1⟩ => ?_
  obtain ⟨a, e, ⟨xs, hq⟩, q⟩ := q1
  subst e
  cases r1
  obtain ⟨its, rv, p, hz⟩ := I1.list hq
  refine wpAny_pyIter_list p.isList ?_
  refine ⟨s1.heap.objs.size, [s1.heap.objs.size], _, _, H1, rfl, I1.kept (t' := s1.toks) fun b o e => Heap.get?_push_of_some _ e, turn_list a _, ⟨_, Heap.get?_push_size _ rfl, rfl, rfl⟩, fun b hb => ?_, q⟩
  have e : b = s1.heap.objs.size := by simpa using hb
  subst e
  exact I1.fpOk (Nat.le_refl _) (I1.hok.fresh (Nat.le_refl _))
/-- a range object just made, walked -/
theorem range_it {pins : List (Addr × Obj)} {σ : St} {H : Hp} {s : Shared} {R : It → Hp → Prop} {E : Value → Shared → Prop} {lo hi : Int} {t u v : Tok} {tk : Nat} (I : Inv X pins σ H s) (h1 : -(2 ^ 62) ≤ lo) (h2 : lo < 2 ^ 62) (h3 : -(2 ^ 62) ≤ hi) (h4 : hi < 2 ^ 62)
    (q : R (Itr lo (hi - lo).toNat) H) : wpAny (model X.prog X.w) X.A (pyIter (.ref s.heap.objs.size)) (PIE X pins σ tg R) E { s with heap := s.heap.push { cls := .type "range", data := .fields #[.int lo t, .int hi u, .int 1 v] }, toks := tk } := by
  refine wpAny_pyIter_range (IsRange.new ..) (small_one h1 h2 h3 h4) ?_
  have I1 : Inv X pins σ H { s with heap := s.heap.push { cls := .type "range", data := .fields #[.int lo t, .int hi u, .int 1 v] }, toks := tk } := I.kept fun b o e => Heap.get?_push_of_some _ e
  refine ⟨(s.heap.push { cls := .type "range", data := .fields #[.int lo t, .int hi u, .int 1 v] }).objs.size, [(s.heap.push { cls := .type "range", data := .fields #[.int lo t, .int hi u, .int 1 v] }).objs.size], _, _, H, rfl,
    I1.kept (t' := tk) fun b o e => Heap.get?_push_of_some _ e, turn_range _ lo (hi - lo).toNat, ?_, fun b hb => ?_, q⟩
  · have e1 : lo + ((0 : Nat) : Int) * 1 = lo := by simp
    have e2 : (((hi - lo).toNat : Nat) : Int) - ((0 : Nat) : Int) = Builtin.Range.rangeSize lo hi 1 := by rw [rangeSize_one]; split <;> omega
    show IsRangeIter _ _ (lo + ((0 : Nat) : Int) * 1) ((((hi - lo).toNat : Nat) : Int) - ((0 : Nat) : Int)) 1
    rw [e1, e2]
    exact Heap.get?_push_size _ rfl
  · have e : b = (s.heap.push { cls := .type "range", data := .fields #[.int lo t, .int hi u, .int 1 v] }).objs.size := by simpa using hb
    subst e
    exact I1.fpOk (Nat.le_refl _) (I1.hok.fresh (Nat.le_refl _))
def iRng1 (ta : TA) : TI := fun σ H R => ta σ H fun vs H1 => ∃ j : Int, vs = [.int j] ∧ -(2 ^ 62) ≤ j ∧ j < 2 ^ 62 ∧ R (Itr 0 j.toNat) H1
theorem pi_range1 {a : Expr} {ta : TA} {p pos : Pos} (hg : Gl X "range") (hm : X.mg "range" = none) (ha : PA X [a] ta) (hs : starEach [a] X.env = [(false, eval a X.env)] := by rfl) : PI X tg (.Call (.Name "range" p) [a] [] pos) (iRng1 ta) := by
  intro pins s σ H R I h
  refine Call_ (ld_blt I hg hm boot_range (PyProof.Rows.callWith_type1 (thn (ha pos pins s σ H _ I h) fun us s1 ⟨vs, H1, I1, r1, q1⟩ => ?_) hs rfl))
  obtain ⟨j, e, q1, q2, q⟩ := q1
  subst e
  cases r1 with
  | cons r rr =>
    cases rr
    obtain ⟨t, rfl⟩ := r
    exact call_range_1 (range_it I1 (by omega) (by omega) q1 q2 (by simpa using q))
/-! ### for -/
/-- W: the invariant by the turn and a measure; N: what the body is to reach -/
def tFor (wi : TI) (g : TG) (tb : TS) : TS := fun D σ H => wi σ H fun J H1 => ∃ W : Nat → Nat → St → Hp → Prop, (∃ m, W 0 m σ H1) ∧ ∀ i m σ H, W i m σ H →
  (J.stop i H ∧ D.nx σ H) ∨ (J.go i H ∧ ∃ N : St → Hp → Prop, (∀ σ' H', N σ' H' → ∃ m', m' < m ∧ W (i + 1) m' σ' H') ∧ ∀ x H', J.yld i H x H' → g x σ H' fun σ2 H2 => tb { D with nx := N, ct := N, bk := D.nx } σ2 H2)
/-- the records at fp as they stand -/
def pinsAt (fp : List Addr) (h : Heap) : List (Addr × Obj) := fp.filterMap fun b => (h.get? b).map fun o => (b, o)
theorem mem_pinsAt {fp : List Addr} {h : Heap} {b : Addr} {o : Obj} (hb : b ∈ fp) (e : h.get? b = some o) : (b, o) ∈ pinsAt fp h := List.mem_filterMap.mpr ⟨b, hb, by rw [e]; rfl⟩
theorem of_pinsAt {fp : List Addr} {h : Heap} {p : Addr × Obj} (hp : p ∈ pinsAt fp h) : p.1 ∈ fp ∧ h.get? p.1 = some p.2 := by
  obtain ⟨b, hb, e⟩ := List.mem_filterMap.mp hp
  cases q : h.get? b with
  | none => rw [q] at e; cases e
  | some o =>
    rw [q] at e
    have e' : (b, o) = p := Option.some.inj e
    subst e'
    exact ⟨hb, q⟩
theorem Inv.pinned {pins : List (Addr × Obj)} {σ : St} {H : Hp} {s : Shared} {fp : List Addr} (I : Inv X pins σ H s) (hf : ∀ b ∈ fp, FpOk X pins H b) (ho : ∀ b ∈ fp, ∃ o, s.heap.get? b = some o ∧ ∀ v, o.data ≠ .cell v) : Inv X (pins ++ pinsAt fp s.heap) σ H s :=
  I.pins_of fun p hp => (List.mem_append.mp hp).elim (fun z => I.pin p (List.mem_append_right _ z)) fun z => by
    obtain ⟨hb, e⟩ := of_pinsAt z
    obtain ⟨f0, f1, f2, _⟩ := hf p.1 hb
    obtain ⟨o, e', d⟩ := ho p.1 hb
    rw [e] at e'; cases e'
    exact ⟨e, f0, f1, f2, d⟩
theorem Inv.unpinned {pins pl : List (Addr × Obj)} {σ : St} {H : Hp} {s : Shared} (I : Inv X (pins ++ pl) σ H s) : Inv X pins σ H s := I.pins_of fun p hp => I.pin p (List.mem_append_right _ (List.mem_append_left _ hp))
theorem ps_for {iter : Expr} {body : List Stmt} {wi : TI} {g : TG} {tb : TS} {pos : Pos} (hp : PassesOwn (model X.prog X.w) X.A X.env X.xe) (hc : X.calm = true) (hi : PI X tg iter wi) (hg : PG X tg g) (hb : PSs X body tb)
    (hs : ∀ x, foldedSetIterable iter X.env x = pure x := by intro _; rfl) : PS X (.For tg iter body [] pos) (tFor wi g tb) := by
  intro pins s σ H D I h
  refine wpAny_For (thn (hi pins s σ H _ I h) fun v s1 h1 => thn h1 fun itv s2 h2 => ?_) hs
  obtain ⟨it, fp, tn, J, H2, e, I2, T, st2, f2, W, ⟨m0, w0⟩, turn⟩ := h2
  subst e
  -- what stays true of the iterator's objects through the loop
  have stat : ∀ {H' : Hp}, (∀ b ∈ fp, H' b = none) → ∀ b ∈ fp, FpOk X pins H' b := fun hn b hb => ⟨hn b hb, (f2 b hb).2⟩
  refine codeAny_forLoop_any (fun n s' => ∃ i σ' H', Inv X pins σ' H' s' ∧ tn i s'.heap ∧ (∀ b ∈ fp, H' b = none) ∧ W i n σ' H') ?_ m0 ⟨0, σ, H2, I2, st2, fun b hb => (f2 b hb).1, w0⟩
  rintro n s3 ⟨i, σ3, H3, I3, st3, fr3, w3⟩
  rcases turn i n σ3 H3 w3 with ⟨stop, qn⟩ | ⟨go, N, hN, step⟩
  · refine wpAny_passesOwn hp (thn (T.done X rfl rfl rfl hc i pins s3 σ3 H3 X.xe I3 (stat fr3) st3 stop) fun r s4 ⟨hr, I4⟩ => ?_)
    subst hr
    exact wpAny_execs_nil ⟨σ3, H3, I4, qn⟩
  · refine wpAny_passesOwn hp (thn (T.item X rfl rfl rfl hc i pins s3 σ3 H3 X.xe I3 (stat fr3) st3 go) fun r s4 ⟨u, hr, h4⟩ => ?_)
    subst hr
    refine wpAny_passesOwn hp (thn h4 fun _ s5 ⟨x, H5, I5, r5, y5, st5, fr5⟩ => ?_)
    have I5' := I5.pinned (stat fr5) (T.obj _ _ st5)
    refine wpAny_passesOwn hp (thn (hg _ s5 σ3 H5 x u _ I5' r5 (step x H5 y5)) fun _ s6 ⟨σ6, H6, I6, q6⟩ => ?_)
    refine wpAny_passesOwn hp (thn (hb _ s6 σ6 H6 _ I6 q6) fun f s7 q7 => ?_)
    have again : ∀ {σ7 : St} {H7 : Hp}, Inv X (pins ++ pinsAt fp s5.heap) σ7 H7 s7 → N σ7 H7 → ∃ m, m < n ∧ ∃ i σ' H', Inv X pins σ' H' s7 ∧ tn i s7.heap ∧ (∀ b ∈ fp, H' b = none) ∧ W i m σ' H' := fun {σ7 H7} I7 n7 => by
      obtain ⟨m', hm, w7⟩ := hN σ7 H7 n7
      refine ⟨m', hm, i + 1, σ7, H7, I7.unpinned, T.keep _ _ _ st5 fun b hb o e => (I7.pin (b, o) (List.mem_append_right _ (List.mem_append_right _ (mem_pinsAt hb e)))).1, fun b hb => ?_, w7⟩
      obtain ⟨o, e, d⟩ := T.obj _ _ st5 b hb
      exact (I7.pin (b, o) (List.mem_append_right _ (List.mem_append_right _ (mem_pinsAt hb e)))).2.1
    cases f with
    | next => obtain ⟨σ7, H7, I7, n7⟩ := q7; exact again I7 n7
    | cont => obtain ⟨σ7, H7, I7, n7⟩ := q7; exact again I7 n7
    | brk => obtain ⟨σ7, H7, I7, q7⟩ := q7; exact ⟨σ7, H7, I7.unpinned, q7⟩
    | ret v => obtain ⟨x7, σ7, H7, I7, r7, q7⟩ := q7; exact ⟨x7, σ7, H7, I7.unpinned, r7, q7⟩
end

/-! ### the forms one uses -/
theorem for_range {lo : Int} {n : Nat} {g : TG} {tb : TS} {D : Ends} {σ : St} {H : Hp} (Pv : Nat → St → Hp → Prop) (h0 : Pv 0 σ H)
    (hs : ∀ i σ H, i < n → Pv i σ H → g (.int (lo + i)) σ H fun σ2 H2 => tb { D with nx := Pv (i + 1), ct := Pv (i + 1), bk := D.nx } σ2 H2) (hd : ∀ σ H, Pv n σ H → D.nx σ H) :
    ∃ W : Nat → Nat → St → Hp → Prop, (∃ m, W 0 m σ H) ∧ ∀ i m σ H, W i m σ H →
      ((Itr lo n).stop i H ∧ D.nx σ H) ∨ ((Itr lo n).go i H ∧ ∃ N : St → Hp → Prop, (∀ σ' H', N σ' H' → ∃ m', m' < m ∧ W (i + 1) m' σ' H') ∧ ∀ x H', (Itr lo n).yld i H x H' → g x σ H' fun σ2 H2 => tb { D with nx := N, ct := N, bk := D.nx } σ2 H2) := by
  refine ⟨fun i m σ H => m = n - i ∧ i ≤ n ∧ Pv i σ H, ⟨n, by simp, Nat.zero_le _, h0⟩, ?_⟩
  rintro i m σ H ⟨rfl, hi, p⟩
  by_cases hlt : i < n
  · refine .inr ⟨hlt, Pv (i + 1), fun σ' H' p' => ⟨n - (i + 1), by omega, rfl, hlt, p'⟩, fun x H' y => ?_⟩
    obtain ⟨e, y⟩ := y
    subst e y
    exact hs i σ _ hlt p
  · have e : i = n := by omega
    subst e
    exact .inl ⟨Nat.le_refl _, hd σ H p⟩
end L2

namespace L2
open PySem PySem.Spec PyProof.Rows

abbrev R2 := V → V → Hp → VK → Prop
/-- a two-place operation on values: f is binaryOp op, inplaceOp op or compareOp op -/
def OpR (X : Cx) (f : Value → Value → Sem Value) (r : R2) : Prop :=
  ∀ (pins : List (Addr × Obj)) (s : Shared) (σ : St) (H : Hp) (x y : V) (v u : Value) (Q : VK), Inv X pins σ H s → RelV x v → RelV y u → r x y H Q →
    wpAny (model X.prog X.w) X.A (f v u) (EP X pins σ Q) X.xe s
/-- a one-place operation -/
def UnR (X : Cx) (f : Value → Sem Value) (r : V → Hp → VK → Prop) : Prop :=
  ∀ (pins : List (Addr × Obj)) (s : Shared) (σ : St) (H : Hp) (x : V) (v : Value) (Q : VK), Inv X pins σ H s → RelV x v → r x H Q →
    wpAny (model X.prog X.w) X.A (f v) (EP X pins σ Q) X.xe s
/-- a call of a value that is known (a builtin, a type) with values -/
def CallR (X : Cx) (f : Value) (r : List V → Hp → VK → Prop) : Prop :=
  ∀ (pins : List (Addr × Obj)) (s : Shared) (σ : St) (H : Hp) (xs : List V) (us : List Value) (Q : VK), Inv X pins σ H s → Vals xs us → r xs H Q →
    wpAny (model X.prog X.w) X.A (call f us) (EP X pins σ Q) X.xe s
def tOp (r : R2) (ta tb : TE) : TE := fun σ H Q => ta σ H fun x H1 => tb σ H1 fun y H2 => r x y H2 Q
def tUn (r : V → Hp → VK → Prop) (ta : TE) : TE := fun σ H Q => ta σ H fun x H1 => r x H1 Q
/-- ints in, under C, and a value out -/
def rI (C : Int → Int → Prop) (g : Int → Int → V) : R2 := fun x y H Q => ∃ i j, x = .int i ∧ y = .int j ∧ C i j ∧ Q (g i j) H
def rI0 (g : Int → Int → V) : R2 := fun x y H Q => ∃ i j, x = .int i ∧ y = .int j ∧ Q (g i j) H
def rU (g : Int → V) : V → Hp → VK → Prop := fun x H Q => ∃ i, x = .int i ∧ Q (g i) H

section
variable {X : Cx} {a b c : Expr} {ta tb tc : TE} {pos : Pos}

theorem binT (ha : PE X a ta) (hb : PE X b tb) {pins : List (Addr × Obj)} {s : Shared} {σ : St} {H : Hp} {R : V → V → Hp → Prop} (I : Inv X pins σ H s)
    (h : ta σ H fun x H1 => tb σ H1 fun y H2 => R x y H2) {Q : Value → Shared → Prop} {f : Value → Value → Sem Value}
    (hf : ∀ v u s2 x y H2, Inv X pins σ H2 s2 → RelV x v → RelV y u → R x y H2 → wpAny (model X.prog X.w) X.A (f v u) Q X.xe s2) :
    wpAny (model X.prog X.w) X.A (eval a X.env) (fun v s₁ => wpAny (model X.prog X.w) X.A (eval b X.env) (fun u s₂ => wpAny (model X.prog X.w) X.A (f v u) Q X.xe s₂) X.xe s₁) X.xe s := by
  refine thn (ha pins s σ H _ I h) fun v s1 ⟨x, H1, I1, r1, q1⟩ => ?_
  refine thn (hb pins s1 σ H1 _ I1 q1) fun u s2 ⟨y, H2, I2, r2, q2⟩ => ?_
  exact hf v u s2 x y H2 I2 r1 r2 q2

theorem pe_op {op : Operator} {r : R2} (ho : OpR X (binaryOp op) r) (ha : PE X a ta) (hb : PE X b tb) : PE X (.BinOp a op b pos) (tOp r ta tb) := by
  intro pins s σ H Q I h
  exact wpAny_BinOp (binT ha hb I h fun v u s2 x y H2 I2 rx ry q => ho pins s2 σ H2 x y v u Q I2 rx ry q)
theorem pe_un {op : UnaryOp} {r : V → Hp → VK → Prop} (ho : UnR X (unaryOp op) r) (ha : PE X a ta) : PE X (.UnaryOp op a pos) (tUn r ta) := by
  intro pins s σ H Q I h
  exact UnaryOp_ (thn (ha pins s σ H _ I h) fun v s1 ⟨x, H1, I1, r1, q1⟩ => ho pins s1 σ H1 x v Q I1 r1 q1)
/-! ### ints -/
theorem opI {f : Value → Value → Sem Value} {C : Int → Int → Prop} {g : Int → Int → Int}
    (rule : ∀ (i j : Int) (t u : Tok) (s : Shared) (Q : Value → Shared → Prop) (E : Value → Shared → Prop), C i j → Q (.int (g i j) s.toks) { s with toks := s.toks + 1 } → wpAny (model X.prog X.w) X.A (f (.int i t) (.int j u)) Q E s) :
    OpR X f (rI C fun i j => .int (g i j)) := by
  intro pins s σ H x y v u Q I rx ry h
  obtain ⟨i, j, rfl, rfl, hc, q⟩ := h
  obtain ⟨t, rfl⟩ := rx
  obtain ⟨t', rfl⟩ := ry
  exact rule i j t t' s _ _ hc ⟨.int (g i j), H, I.tok _, ⟨_, rfl⟩, q⟩
theorem opI0 {f : Value → Value → Sem Value} {g : Int → Int → Int}
    (rule : ∀ (i j : Int) (t u : Tok) (s : Shared) (Q : Value → Shared → Prop) (E : Value → Shared → Prop), Q (.int (g i j) s.toks) { s with toks := s.toks + 1 } → wpAny (model X.prog X.w) X.A (f (.int i t) (.int j u)) Q E s) :
    OpR X f (rI0 fun i j => .int (g i j)) := by
  intro pins s σ H x y v u Q I rx ry h
  obtain ⟨i, j, rfl, rfl, q⟩ := h
  obtain ⟨t, rfl⟩ := rx
  obtain ⟨t', rfl⟩ := ry
  exact rule i j t t' s _ _ ⟨.int (g i j), H, I.tok _, ⟨_, rfl⟩, q⟩
theorem opB0 {f : Value → Value → Sem Value} {g : Int → Int → Bool}
    (rule : ∀ (i j : Int) (t u : Tok) (s : Shared) (Q : Value → Shared → Prop) (E : Value → Shared → Prop), Q (.bool (g i j)) s → wpAny (model X.prog X.w) X.A (f (.int i t) (.int j u)) Q E s) :
    OpR X f (rI0 fun i j => .bl (g i j)) := by
  intro pins s σ H x y v u Q I rx ry h
  obtain ⟨i, j, rfl, rfl, q⟩ := h
  obtain ⟨t, rfl⟩ := rx
  obtain ⟨t', rfl⟩ := ry
  exact rule i j t t' s _ _ ⟨.bl (g i j), H, I, rfl, q⟩

def CDiv (i j : Int) : Prop := 0 < j ∧ j < 1073741824
def CMul (i j : Int) : Prop := (-(2 ^ 64) < i ∧ i < 2 ^ 64) ∨ (-(2 ^ 64) < j ∧ j < 2 ^ 64)
theorem CMul.ok {i j : Int} (h : CMul i j) : IntMulOk i j := by
  rcases h with ⟨h1, h2⟩ | ⟨h1, h2⟩
  · exact .of_left (intBits_le_64 h1 h2)
  · exact .of_right (intBits_le_64 h1 h2)
theorem op_add : OpR X (binaryOp .Add) (rI0 fun i j => .int (i + j)) := opI0 fun _ _ _ _ _ _ _ q => add_int q
theorem op_mul : OpR X (binaryOp .Mult) (rI CMul fun i j => .int (i * j)) := opI fun _ _ _ _ _ _ _ hc q => mul_int q hc.ok
/-- // by a positive divisor -/
theorem op_fdiv : OpR X (binaryOp .FloorDiv) (rI CDiv fun i j => .int (i / j)) := opI fun i j _ _ _ _ _ hc q => by
  have h1 : (0 : Int) < j := hc.1
  have h2 : j < 1073741824 := hc.2
  exact floordiv_int (by omega) (by rw [Int.fdiv_eq_ediv_of_nonneg i (by omega)]; exact q) (.inl (PyProof.noPylong_small (by omega)))
/-- % by a positive divisor of any size -/
theorem op_mod : OpR X (binaryOp .Mod) (rI (fun _ j => 0 < j) fun i j => .int (i % j)) := opI fun i j _ _ _ _ _ hc q => by
  have h1 : (0 : Int) < j := hc
  exact mod_int' (by omega) (by rw [Int.fmod_eq_emod_of_nonneg i (by omega)]; exact q)
theorem unI {f : Value → Sem Value} {g : Int → Int}
    (rule : ∀ (i : Int) (t : Tok) (s : Shared) (Q : Value → Shared → Prop) (E : Value → Shared → Prop), Q (.int (g i) s.toks) { s with toks := s.toks + 1 } → wpAny (model X.prog X.w) X.A (f (.int i t)) Q E s) :
    UnR X f (rU fun i => .int (g i)) := by
  intro pins s σ H x v Q I rx h
  obtain ⟨i, rfl, q⟩ := h
  obtain ⟨t, rfl⟩ := rx
  exact rule i t s _ _ ⟨.int (g i), H, I.tok _, ⟨_, rfl⟩, q⟩
theorem un_neg : UnR X (unaryOp .USub) (rU fun i => .int (-i)) := unI fun _ _ _ _ _ q => neg_int q
/-! ### bools among ints: n += (a < b) -/
end

/-! ### comparisons -/
/-- the scalars that == tells apart as data does -/
def scal : V → V → Bool
  | .non, .non => true | .non, .int _ => true | .int _, .non => true | .non, .bl _ => true | .bl _, .non => true | .non, .str _ => true | .str _, .non => true
  | .int _, .int _ => true | .bl _, .bl _ => true | .str _, .str _ => true | .byt _, .byt _ => true
  | .int _, .str _ => true | .str _, .int _ => true | .bl _, .str _ => true | .str _, .bl _ => true
  | _, _ => false
def rEq : R2 := fun x y H Q => scal x y = true ∧ Q (.bl (decide (x = y))) H
def rNe : R2 := fun x y H Q => scal x y = true ∧ Q (.bl (!decide (x = y))) H

theorem dec_int {i j : Int} : decide (V.int i = V.int j) = (i == j) := by
  rw [Bool.eq_iff_iff]
  simp
theorem dec_bl {i j : Bool} : decide (V.bl i = V.bl j) = (i == j) := by
  rw [Bool.eq_iff_iff]
  simp
theorem dec_str {i j : Str} : decide (V.str i = V.str j) = (i == j) := by
  rw [Bool.eq_iff_iff]
  simp
theorem dec_byt {i j : Array UInt8} : decide (V.byt i = V.byt j) = (i.toList == j.toList) := by
  rw [Bool.eq_iff_iff]
  cases i
  cases j
  simp

section
variable {X : Cx} {a b c : Expr} {ta tb tc : TE} {pos : Pos}
theorem fin_bl {pins : List (Addr × Obj)} {σ : St} {H : Hp} {s : Shared} {Q : VK} {k k' : Bool} (I : Inv X pins σ H s) (q : Q (.bl k) H) (e : k = k') : EP X pins σ Q (.bool k') s := by
  subst e
  exact ⟨.bl k, H, I, rfl, q⟩
theorem op_eq : OpR X (compareOp .Eq) rEq := by
  intro pins s σ H x y v u Q I rx ry h
  obtain ⟨hs, q⟩ := h
  cases x with
  | non =>
    cases rx
    cases y with
    | non => cases ry; exact PySem.EqNone.eq_none_none (fin_bl I q (by simp))
    | bl j => cases ry; exact PySem.EqNone.eq_none_bool (fin_bl I q (by simp))
    | int j => obtain ⟨t', rfl⟩ := ry; exact PySem.EqNone.eq_none_int (fin_bl I q (by simp))
    | str j => obtain ⟨t', rfl⟩ := ry; exact PySem.EqNone.eq_none_str (fin_bl I q (by simp))
    | _ => exact absurd (show false = true from hs) Bool.false_ne_true
  | bl i =>
    cases rx
    cases y with
    | non => cases ry; exact PySem.EqNone.eq_bool_none (fin_bl I q (by simp))
    | bl j => cases ry; exact eq_bool (fin_bl I q dec_bl)
    | str j => obtain ⟨t', rfl⟩ := ry; exact PySem.EqMixed.eq_bool_str (fin_bl I q (by simp))
    | _ => exact absurd (show false = true from hs) Bool.false_ne_true
  | int i =>
    obtain ⟨t, rfl⟩ := rx
    cases y with
    | non => cases ry; exact PySem.EqNone.eq_int_none (fin_bl I q (by simp))
    | int j => obtain ⟨t', rfl⟩ := ry; exact eq_int (fin_bl I q dec_int)
    | str j => obtain ⟨t', rfl⟩ := ry; exact PySem.EqMixed.eq_int_str (fin_bl I q (by simp))
    | _ => exact absurd (show false = true from hs) Bool.false_ne_true
  | str i =>
    obtain ⟨t, rfl⟩ := rx
    cases y with
    | non => cases ry; exact PySem.EqNone.eq_str_none (fin_bl I q (by simp))
    | bl j => cases ry; exact PySem.EqMixed.eq_str_bool (fin_bl I q (by simp))
    | int j => obtain ⟨t', rfl⟩ := ry; exact PySem.EqMixed.eq_str_int (fin_bl I q (by simp))
    | str j => obtain ⟨t', rfl⟩ := ry; exact eq_str (fin_bl I q dec_str)
    | _ => exact absurd (show false = true from hs) Bool.false_ne_true
  | byt i =>
    obtain ⟨t, rfl⟩ := rx
    cases y with
    | byt j => obtain ⟨t', rfl⟩ := ry; exact PySem.W.eq_bytes (fin_bl I q dec_byt)
    | _ => exact absurd (show false = true from hs) Bool.false_ne_true
  | _ => cases y <;> exact absurd (show false = true from hs) Bool.false_ne_true
theorem op_ne : OpR X (compareOp .NotEq) rNe := by
  intro pins s σ H x y v u Q I rx ry h
  obtain ⟨hs, q⟩ := h
  cases x with
  | non =>
    cases rx
    cases y with
    | non => cases ry; exact PySem.EqNone.ne_none_none (fin_bl I q (by simp))
    | bl j => cases ry; exact PySem.EqNone.ne_none_bool (fin_bl I q (by simp))
    | int j => obtain ⟨t', rfl⟩ := ry; exact PySem.EqNone.ne_none_int (fin_bl I q (by simp))
    | str j => obtain ⟨t', rfl⟩ := ry; exact PySem.EqNone.ne_none_str (fin_bl I q (by simp))
    | _ => exact absurd (show false = true from hs) Bool.false_ne_true
  | bl i =>
    cases rx
    cases y with
    | non => cases ry; exact PySem.EqNone.ne_bool_none (fin_bl I q (by simp))
    | bl j => cases ry; exact ne_bool (fin_bl I q (congrArg not dec_bl))
    | str j => obtain ⟨t', rfl⟩ := ry; exact PySem.EqMixed.ne_bool_str (fin_bl I q (by simp))
    | _ => exact absurd (show false = true from hs) Bool.false_ne_true
  | int i =>
    obtain ⟨t, rfl⟩ := rx
    cases y with
    | non => cases ry; exact PySem.EqNone.ne_int_none (fin_bl I q (by simp))
    | int j => obtain ⟨t', rfl⟩ := ry; exact ne_int (fin_bl I q (congrArg not dec_int))
    | str j => obtain ⟨t', rfl⟩ := ry; exact PySem.EqMixed.ne_int_str (fin_bl I q (by simp))
    | _ => exact absurd (show false = true from hs) Bool.false_ne_true
  | str i =>
    obtain ⟨t, rfl⟩ := rx
    cases y with
    | non => cases ry; exact PySem.EqNone.ne_str_none (fin_bl I q (by simp))
    | bl j => cases ry; exact PySem.EqMixed.ne_str_bool (fin_bl I q (by simp))
    | int j => obtain ⟨t', rfl⟩ := ry; exact PySem.EqMixed.ne_str_int (fin_bl I q (by simp))
    | str j => obtain ⟨t', rfl⟩ := ry; exact ne_str (fin_bl I q (congrArg not dec_str))
    | _ => exact absurd (show false = true from hs) Bool.false_ne_true
  | byt i =>
    obtain ⟨t, rfl⟩ := rx
    cases y with
    | byt j => obtain ⟨t', rfl⟩ := ry; exact PySem.W.ne_bytes (fin_bl I q (congrArg not dec_byt))
    | _ => exact absurd (show false = true from hs) Bool.false_ne_true
  | _ => cases y <;> exact absurd (show false = true from hs) Bool.false_ne_true

theorem op_lt : OpR X (compareOp .Lt) (rI0 fun i j => .bl (decide (i < j))) := opB0 fun _ _ _ _ _ _ _ q => lt_int q
theorem op_gt : OpR X (compareOp .Gt) (rI0 fun i j => .bl (decide (j < i))) := opB0 fun _ _ _ _ _ _ _ q => gt_int q
/-- is, is not of two objects that are tracked lists or instances -/
def isObj : HO → Bool
  | .lst _ => true
  | .ins _ _ _ => true
  | _ => false
theorem nomark (b : Expr) {op : CmpOp} (h : op ≠ .In := by decide) (h2 : op ≠ .NotIn := by decide) : behindInMarks op b = false := by
  have e1 : (op == CmpOp.In) = false := by cases op <;> first | rfl | exact absurd rfl h
  have e2 : (op == CmpOp.NotIn) = false := by cases op <;> first | rfl | exact absurd rfl h2
  cases b <;> simp [behindInMarks, e1, e2]
/-- a comparison as a value; hm: nomark b, or (for in, not in) by with_unfolding_all rfl -/
theorem pe_cmpR {op : CmpOp} {r : R2} (ho : OpR X (compareOp op) r) (ha : PE X a ta) (hb : PE X b tb) (hm : behindInMarks op b = false) : PE X (.Compare a [op] [b] pos) (tOp r ta tb) := by
  intro pins s σ H Q I h
  exact wpAny_Compare1 (binT ha hb I h fun v u s2 x y H2 I2 rx ry q => ho pins s2 σ H2 x y v u Q I2 rx ry q) hm
/-- a reading of a value as a test -/
def tTest (t : TE) : TT := fun σ H Q => t σ H fun x H' => ∃ k, x = .bl k ∧ Q k H'
theorem pt_cmpR {op : CmpOp} {r : R2} (ho : OpR X (compareOp op) r) (ha : PE X a ta) (hb : PE X b tb) (hm : behindInMarks op b = false) : PT X (.Compare a [op] [b] pos) (tTest (tOp r ta tb)) := by
  intro pins s σ H Q I h
  refine wpAny_isTrue_Compare1 (thn (ha pins s σ H _ I h) fun v s1 ⟨x, H1, I1, r1, q1⟩ => thn (hb pins s1 σ H1 _ I1 q1) fun u s2 ⟨y, H2, I2, r2, q2⟩ =>
    thn (ho pins s2 σ H2 x y v u _ I2 r1 r2 q2) fun c s3 ⟨z, H3, I3, r3, k, e, q3⟩ => ?_) hm
  subst e
  cases r3
  exact wpAny_truthy_bool ⟨H3, I3, q3⟩
/-! ### truth -/
theorem line63 : (sizeLine : Nat) < 2 ^ 63 := by rw [sizeLine_eq]; decide
/-! ### strs and bytes -/
theorem op_add_str : OpR X (binaryOp .Add) (fun x y H Q => ∃ i j, x = .str i ∧ y = .str j ∧ i.length + j.length ≤ sizeLine ∧ Q (.str (i ++ j)) H) := by
  intro pins s σ H x y v u Q I rx ry h
  obtain ⟨i, j, rfl, rfl, hz, q⟩ := h
  obtain ⟨t, rfl⟩ := rx
  obtain ⟨t', rfl⟩ := ry
  exact add_str (fun t' tk => ⟨.str (i ++ j), H, I.tok _, ⟨_, rfl⟩, q⟩) hz
/-! ### scalar builtins, by CallR -/
theorem vals1 {x : V} {us : List Value} (r : Vals [x] us) : ∃ u, us = [u] ∧ RelV x u := by
  cases r with
  | cons r1 r2 => cases r2; exact ⟨_, rfl, r1⟩
theorem vals2 {x y : V} {us : List Value} (r : Vals [x, y] us) : ∃ u w', us = [u, w'] ∧ RelV x u ∧ RelV y w' := by
  cases r with
  | cons r1 r2 =>
    cases r2 with
    | cons r3 r4 => cases r4; exact ⟨_, _, rfl, r1, r3⟩
end
end L2

namespace L2
open PySem PySem.Spec PyProof.Rows

/-! ### an instance, its attributes a map -/
structure ObjM (h : Heap) (x dx C : Addr) (mA : Str → Option Value) : Prop where
  obj : h.get? x = some (PySem.W.instObj C dx)
  ns : h.Ns1 dx mA
  ne : dx ≠ x

theorem lookIn_ns {h : Heap} {dx : Addr} {mA : Str → Option Value} (n : h.Ns1 dx mA) : ∃ od, h.get? dx = some od ∧ ∀ name, PySem.W.lookIn name od = some (mA name) := by
  obtain ⟨o, es, ep, ho, hd, hk, _, hm⟩ := n
  refine ⟨o, ho, fun name => ?_⟩
  have e := hm name
  unfold nsFind findBy at e
  rw [← Array.find?_toList] at e
  unfold PySem.W.lookIn
  rw [hd]
  dsimp only
  split
  · rename_i y q
    rw [q] at e
    exact congrArg some e
  · rename_i q
    rw [q] at e
    have a : es.toList.any (·.refKey) = false := by
      rw [List.any_eq_false]
      intro y hy
      obtain ⟨z, t, hkey⟩ := hk y (Array.mem_toList_iff.mp hy)
      simp [DictEntry.refKey, hkey]
    have a' : ¬ es.toList.any (·.refKey) = true := by rw [a]; exact Bool.false_ne_true
    rw [if_neg a']
    exact congrArg some e

theorem ObjM.look {h : Heap} {x dx C : Addr} {mA : Str → Option Value} (I : ObjM h x dx C mA) : ∃ od, PySem.W.InstAt h x (PySem.W.instObj C dx) C (some od) ∧ ∀ name, PySem.W.lookIn name od = some (mA name) :=
  let ⟨od, ho, hl⟩ := lookIn_ns I.ns
  ⟨od, ⟨I.obj, rfl, rfl, ho⟩, hl⟩

section
variable {prog : Program} {w : World} {A : Around} {E : Value → Shared → Prop} {s : Shared} {K : PySem.W.Frag} {x dx C f : Addr} {mA : Str → Option Value} {name : Str} {v : Value}

theorem get_map {expr : Bool} {Q : Value → Shared → Prop} (X : K.In s.heap) (I : ObjM s.heap x dx C mA) (hg : PySem.W.plainGet K C name = true) (hh : PySem.W.hasDictIn K C = true)
    (ha : PySem.W.findIn K (.ref C) name = some none) (hv : mA name = some v) (hv' : PySem.W.handedIn v = true) (h : Q v { s with toks := s.toks + 1 }) :
    wpAny (model prog w) A (getAttr (.ref x) name expr) Q E s := by
  obtain ⟨od, J, hl⟩ := I.look
  exact PySem.W.get_value X J (PySem.W.plainGet_of hg).1 (PySem.W.findObj_own hh ha rfl (by rw [hl, hv])) hv' h

theorem get_meth {pl : Sem Bool} {Q : Value × List Value → Shared → Prop} (X : K.In s.heap) (I : ObjM s.heap x dx C mA) (hg : PySem.W.plainGet K C name = true)
    (hf : PySem.W.findIn K (.ref C) name = some (some (.ref f))) (ht : PySem.W.isFn K (.ref f) = true) (hv : mA name = none) (h : Q (.ref f, [.ref x]) s) :
    wpAny (model prog w) A (getMethod (.ref x) name pl) Q E s := by
  obtain ⟨od, J, hl⟩ := I.look
  exact PySem.W.method_fn X J (PySem.W.plainGet_of hg).1 (PySem.W.plainGet_of hg).2 hf (beq_iff_eq.mp ht) (by show (PySem.W.lookIn name od).map (·.isSome) = some false; rw [hl, hv]; rfl) h

theorem set_map {ns : List Str} {Q : Unit → Shared → Prop} (X : K.In s.heap) (I : ObjM s.heap x dx C mA)
    (hs : PySem.W.findIn K (.ref C) "__setattr__" = some (some (.builtin "object.__setattr__"))) (hp : PySem.W.plainOver K C = true) (ht : PySem.W.takerIn K C name = some none) (hh : PySem.W.hasDictIn K C = true)
    (hw : PySem.Within mA ns) (hsz : ns.length ≤ sizeLine)
    (h : ∀ h', ObjM h' x dx C (fun y => if y = name then some v else mA y) → Heap.SameBut dx s.heap h' → Q () { s with heap := h', toks := s.toks + 2 }) :
    wpAny (model prog w) A (setAttr (.ref x) name v) Q E s := by
  obtain ⟨od, J, hl⟩ := I.look
  refine PySem.W.set_plain X J hs (PySem.W.osa_open (s := { s with toks := s.toks + 1 }) (r := none) X J hp ht fun b => ?_)
  obtain ⟨cd, hc, hd'⟩ := PySem.W.any_some hh
  have hx : s.heap.get? x = some ⟨.ref C, some dx, .plain, #[]⟩ := I.obj
  refine wpAny_bind (wpAny_pure (wpAny_bind (wpAny_bind (wpAny_loadPart hx (wpAny_bind (PySem.W.Looks.here (s := { s with toks := s.toks + 1 }) (PySem.W.looks_clsIn X hc) ?_))))))
  rw [hd']
  refine wpAny_pure (a := some dx) (wpAny_bind (wpAny_pure (wpAny_bind ?_)))
  refine wpAny_nsSet1 (s := { s with toks := s.toks + 1 }) I.ns fun h' hn2 hs2 => ?_
  obtain ⟨oD, esD, epD, hoD, hdD, hcD⟩ := hn2.count (PySem.Within.cons name v hw)
  refine wpAny_bind (wpAny_lookBehind hoD (by rw [hdD]; exact pastItsLine_dict (Nat.le_trans hcD (by rw [List.length_cons]; omega))) ?_)
  exact wpAny_pure (h _ ⟨(hs2.2 _ (Ne.symm I.ne)).trans I.obj, hn2, I.ne⟩ hs2)

/-- C(..): the dict at the heap's end, the instance behind it; then its __init__ -/
theorem make_map {R : Result → Shared → Prop} {vs : List Value} {kw : List (Str × Value)} (X : K.In s.heap) (hm : PySem.W.makesIn K C = true)
    (hi : PySem.W.findIn K (.ref C) "__init__" = some (some (.ref f))) (hf : PySem.W.typeIn K (.ref f) = some (.type "function"))
    (h : codeAny (model prog w) (A.under (.builtin "type.__call__" ⟨.ref C :: vs, kw⟩)) (.call (.ref f) ⟨.ref (s.heap.objs.size + 1) :: vs, kw⟩) (PySem.W.InitBack (s.heap.objs.size + 1) R)
      { s with heap := (s.heap.push PySem.W.emptyDict).push (PySem.W.instObj C s.heap.objs.size) }) :
    codeAny (model prog w) A (.call (.ref C) ⟨vs, kw⟩) R s := by
  obtain ⟨hh, g, d, t, os⟩ := s
  exact PySem.W.make_core (PySem.W.makes_of X hm) (PySem.W.looks_findIn X hi) (fun self => PySem.W.bind_fn X self hf) (.inl rfl) h
end

/-! ### the attributes as a list of pairs -/
def putF (f : Str) (v : V) : List (Str × V) → List (Str × V)
  | [] => [(f, v)]
  | (g, x) :: r => if g = f then (g, v) :: r else (g, x) :: putF f v r
theorem lookup_putF (f g : Str) (v : V) : ∀ fs : List (Str × V), (putF f v fs).lookup g = if g = f then some v else fs.lookup g
  | [] => by
    show List.lookup g [(f, v)] = _
    by_cases h : g = f
    · have hb : (g == f) = true := beq_iff_eq.mpr h
      simp only [List.lookup, hb, if_pos h]
    · have hb : (g == f) = false := beq_eq_false_iff_ne.mpr h
      simp only [List.lookup, hb, if_neg h]
  | (k, x) :: r => by
    have ih := lookup_putF f g v r
    rw [show putF f v ((k, x) :: r) = (if k = f then (k, v) :: r else (k, x) :: putF f v r) from rfl]
    by_cases hk : k = f
    · rw [if_pos hk]
      by_cases h : g = k
      · have hb : (g == k) = true := beq_iff_eq.mpr h
        simp only [List.lookup, hb, if_pos (h.trans hk)]
      · have hb : (g == k) = false := beq_eq_false_iff_ne.mpr h
        simp only [List.lookup, hb, if_neg (fun e : g = f => h (e.trans hk.symm))]
    · rw [if_neg hk]
      by_cases h : g = k
      · have hb : (g == k) = true := beq_iff_eq.mpr h
        simp only [List.lookup, hb, if_neg (fun e : g = f => hk (h.symm.trans e))]
      · have hb : (g == k) = false := beq_eq_false_iff_ne.mpr h
        simp only [List.lookup, hb]
        exact ih
theorem keys_putF (f : Str) (v : V) : ∀ fs : List (Str × V), f ∈ (putF f v fs).map (·.1) ∧ ∀ g, g ∈ fs.map (·.1) → g ∈ (putF f v fs).map (·.1)
  | [] => ⟨by simp [putF], fun g h => by simp at h⟩
  | (k, x) :: r => by
    obtain ⟨i1, i2⟩ := keys_putF f v r
    rw [show putF f v ((k, x) :: r) = (if k = f then (k, v) :: r else (k, x) :: putF f v r) from rfl]
    by_cases hk : k = f
    · rw [if_pos hk]
      subst hk
      exact ⟨by simp, fun g h => by simpa using h⟩
    · rw [if_neg hk]
      refine ⟨?_, fun g h => ?_⟩
      · rw [List.map_cons]
        exact List.mem_cons_of_mem _ i1
      · rw [List.map_cons] at h ⊢
        rcases List.mem_cons.mp h with e | e
        · exact List.mem_cons.mpr (.inl e)
        · exact List.mem_cons_of_mem _ (i2 g e)
theorem length_putF (f : Str) (v : V) : ∀ fs : List (Str × V), (putF f v fs).length ≤ fs.length + 1
  | [] => by simp [putF]
  | (k, x) :: r => by
    have ih := length_putF f v r
    rw [show putF f v ((k, x) :: r) = (if k = f then (k, v) :: r else (k, x) :: putF f v r) from rfl]
    by_cases hk : k = f
    · rw [if_pos hk, List.length_cons, List.length_cons]; omega
    · rw [if_neg hk, List.length_cons, List.length_cons]; omega

theorem RelO.some_of {v : V} {o : Option Value} (r : RelO (some v) o) : ∃ u, o = some u ∧ RelV v u := by
  cases o with
  | none => exact (show False from r).elim
  | some u => exact ⟨u, rfl, r⟩
theorem RelO.none_of {o : Option Value} (r : RelO none o) : o = none := by
  cases o with
  | none => rfl
  | some u => exact (show False from r).elim
theorem handed_of {v : V} {u : Value} (r : RelV v u) : PySem.W.handedIn u = true := by
  cases v with
  | non => cases (show u = Value.none from r); rfl
  | bl b => cases (show u = Value.bool b from r); rfl
  | int i => obtain ⟨t, e⟩ := (show ∃ t, u = Value.int i t from r); cases e; rfl
  | str x => obtain ⟨t, e⟩ := (show ∃ t, u = Value.str x t from r); cases e; rfl
  | byt b => obtain ⟨t, e⟩ := (show ∃ t, u = Value.bytes b t from r); cases e; rfl
  | flt b => obtain ⟨t, e⟩ := (show ∃ t, u = Value.float b t from r); cases e; rfl
  | ref a => cases (show u = Value.ref a from r); rfl
  | ty n => cases (show u = Value.type n from r); rfl

section
variable {P : Program} {w : World} {H H' : Hp} {h h' : Heap} {a C dx : Addr} {fs fs' : List (Str × V)}
theorem ins_get (hok : HOk P w H h) (e : H a = some (.ins C dx fs)) : ∃ mA, ObjM h a dx C mA ∧ (∀ f, RelO (fs.lookup f) (mA f)) ∧ PySem.Within mA (fs.map (·.1)) ∧ fs.length ≤ 1000 ∧ H dx = some (.own a) := by
  obtain ⟨d, z, ne, ob, mA, n, r, q⟩ := (show ObjOk P w H h a (.ins C dx fs) from hok a _ e)
  exact ⟨mA, ⟨ob, n, ne⟩, r, q, z, d⟩
end

/-! ### what of the text a class must have -/
structure Cls (K : PySem.W.Frag) (C : Addr) : Prop where
  pg : PySem.W.plainGet K C Str.empty = true
  hd : PySem.W.hasDictIn K C = true
  po : PySem.W.plainOver K C = true
  sa : PySem.W.findIn K (.ref C) "__setattr__" = some (some (.builtin "object.__setattr__"))
theorem Cls.get {K : PySem.W.Frag} {C : Addr} (c : Cls K C) (f : Str) : PySem.W.plainGet K C f = true := c.pg
/-- no class of it has the name -/
def NoAttr (K : PySem.W.Frag) (C : Addr) (f : Str) : Prop := PySem.W.findIn K (.ref C) f = some none
theorem NoAttr.taker {K : PySem.W.Frag} {C : Addr} {f : Str} (n : NoAttr K C f) : PySem.W.takerIn K C f = some none := by
  unfold PySem.W.takerIn
  rw [show PySem.W.findIn K (.ref C) f = some none from n]
  rfl
/-- a method: a plain def of the class or of one above it -/
structure Meth (K : PySem.W.Frag) (C : Addr) (m : Str) (f : Addr) : Prop where
  at_ : PySem.W.findIn K (.ref C) m = some (some (.ref f))
  fn : PySem.W.isFn K (.ref f) = true
  kp : PySem.W.keepIn K (.ref f) = true

section
variable {X : Cx} {pins : List (Addr × Obj)} {σ : St} {H : Hp} {s : Shared} {a C dx : Addr} {fs : List (Str × V)} {f : Str} {v : V} {A : Around} {E : Value → Shared → Prop}

theorem getattr_ok {b : Bool} {Q : Value → Shared → Prop} (I : Inv X pins σ H s) (e : H a = some (.ins C dx fs)) (c : Cls X.K C) (n : NoAttr X.K C f) (l : fs.lookup f = some v)
    (h : ∀ u s', Inv X pins σ H s' → RelV v u → Q u s') : wpAny (model X.prog X.w) A (getAttr (.ref a) f b) Q E s := by
  obtain ⟨mA, O, r, _, _, _⟩ := ins_get I.hok e
  obtain ⟨u, hu, ru⟩ := RelO.some_of (v := v) (o := mA f) (by rw [← l]; exact r f)
  exact get_map I.kIn O (c.get f) c.hd n hu (handed_of ru) (h u _ (I.tok _) ru)

theorem getmeth_ok {m : Str} {g : Addr} {pl : Sem Bool} {Q : Value × List Value → Shared → Prop} (I : Inv X pins σ H s) (e : H a = some (.ins C dx fs)) (c : Cls X.K C) (k : Meth X.K C m g) (l : fs.lookup m = none)
    (h : Q (.ref g, [.ref a]) s) : wpAny (model X.prog X.w) A (getMethod (.ref a) m pl) Q E s := by
  obtain ⟨mA, O, r, _, _, _⟩ := ins_get I.hok e
  have hn : mA m = none := RelO.none_of (by rw [← l]; exact r m)
  exact get_meth I.kIn O (c.get m) k.at_ k.fn hn h

theorem setattr_ok {y : V} {u : Value} {Q : Unit → Shared → Prop} (I : Inv X pins σ H s) (e : H a = some (.ins C dx fs)) (c : Cls X.K C) (n : NoAttr X.K C f) (hl : fs.length < 1000) (ry : RelV y u)
    (h : ∀ s', Inv X pins σ (upd H a (.ins C dx (putF f y fs))) s' → Q () s') : wpAny (model X.prog X.w) A (setAttr (.ref a) f u) Q E s := by
  obtain ⟨mA, O, r, wi, _, ho⟩ := ins_get I.hok e
  have hz : (fs.map (·.1)).length ≤ sizeLine := by rw [List.length_map, sizeLine_eq]; omega
  refine set_map I.kIn O c.sa c.po n.taker c.hd wi hz fun h' O' sb => h _ ?_
  have hd : ∃ o, h'.get? dx = some o := let ⟨o, _, _, e', _⟩ := O'.ns; ⟨o, e'⟩
  refine I.write (x := a) (e := dx) (by rw [e]; exact True.intro) (.inr ho) (fun b q hb z => (sb.2 b hb).trans z) hd ?_
  refine ⟨by rw [upd_ne O.ne]; exact ho, ?_, O.ne, O'.obj, _, O'.ns, fun g => ?_, fun g hg => ?_⟩
  · have := length_putF f y fs; omega
  · show RelO ((putF f y fs).lookup g) (if g = f then some u else mA g)
    rw [lookup_putF]
    by_cases q : g = f
    · rw [if_pos q, if_pos q]; exact ry
    · rw [if_neg q, if_neg q]; exact r g
  · by_cases q : g = f
    · rw [q]; exact (keys_putF f y fs).1
    · refine (keys_putF f y fs).2 g (wi g fun z => hg ?_)
      show (if g = f then some u else mA g) = none
      rw [if_neg q]; exact z

/-- a new instance, tracked, without attributes -/
theorem Inv.made (I : Inv X pins σ H s) : Inv X pins σ (upd (upd H s.heap.objs.size (.own (s.heap.objs.size + 1))) (s.heap.objs.size + 1) (.ins C s.heap.objs.size []))
    { s with heap := (s.heap.push PySem.W.emptyDict).push (PySem.W.instObj C s.heap.objs.size) } := by
  have e1 : (s.heap.push PySem.W.emptyDict).get? s.heap.objs.size = some PySem.W.emptyDict := Heap.get?_push_size s.heap rfl
  have e2 : ((s.heap.push PySem.W.emptyDict).push (PySem.W.instObj C s.heap.objs.size)).get? (s.heap.objs.size + 1) = some (PySem.W.instObj C s.heap.objs.size) := by
    have := Heap.get?_push_size (s.heap.push PySem.W.emptyDict) (o := PySem.W.instObj C s.heap.objs.size) rfl
    rwa [Heap.size_push] at this
  have e3 : (s.heap.push PySem.W.emptyDict).Ns s.heap.objs.size (fun _ => none) := ⟨PySem.W.emptyDict, #[], _, e1, rfl, (fun e he => absurd he (by simp)), fun _ => rfl⟩
  have I1 := I.laid (a := s.heap.objs.size) (o := .own (s.heap.objs.size + 1)) (h' := s.heap.push PySem.W.emptyDict) (t' := s.toks) (fun b u q => Heap.get?_push_of_some _ q) (Nat.le_refl _) ⟨_, e1⟩
  refine I1.laid (a := s.heap.objs.size + 1) (o := .ins C s.heap.objs.size []) (t' := s.toks) (fun b u q => Heap.get?_push_of_some _ q) (Nat.le_of_eq (Heap.size_push _ _)) ?_
  have ne : s.heap.objs.size ≠ s.heap.objs.size + 1 := Nat.ne_of_lt (Nat.lt_succ_self _)
  refine ⟨by rw [upd_ne ne, upd_same], Nat.zero_le _, ne, e2, fun _ => none, (Heap.Ns1.of_empty e3).at fun o q => Heap.get?_push_of_some _ q, fun _ => True.intro, fun y hy => absurd rfl hy⟩

/-- e.f where nothing but the object is asked: through attributeBase (super) and the last hold -/
theorem attr_of {prog : Program} {w : World} {env : Env} {e : Expr} {f : Str} {pos : Pos} {s : Shared} {Q : Value → Shared → Prop} (hb : attributeBase e f env (eval e env) = eval e env)
    (h : wpAny (model prog w) A (eval e env) (fun o s₁ => wpAny (model prog w) A (getAttr o f true) Q E s₁) E s) : wpAny (model prog w) A (eval (.Attribute e f pos) env) Q E s :=
  Attribute_any_ h (by rw [arm_eval_Attribute, hb])
end

/-! ### readings and rules -/
/-- e.f, an attribute of the instance -/
def tFld (K : PySem.W.Frag) (ta : TE) (f : Str) : TE := fun σ H Q => ta σ H fun x H1 => ∃ a C dx fs v, x = .ref a ∧ H1 a = some (.ins C dx fs) ∧ Cls K C ∧ NoAttr K C f ∧ fs.lookup f = some v ∧ Q v H1
/-- e.f = value -/
def sFld (K : PySem.W.Frag) (ta tv : TE) (f : Str) : TS := fun D σ H => tv σ H fun y H1 => ta σ H1 fun x H2 => ∃ a C dx fs, x = .ref a ∧ H2 a = some (.ins C dx fs) ∧ Cls K C ∧ NoAttr K C f ∧ fs.length < 1000 ∧
  D.nx σ (upd H2 a (.ins C dx (putF f y fs)))
section
variable {X : Cx} {o e value : Expr} {f : Str} {pos pos' tpos : Pos} {ta tv : TE}
theorem pe_fld (he : PE X e ta) (hb : attributeBase e f X.env (eval e X.env) = eval e X.env) : PE X (.Attribute e f pos) (tFld X.K ta f) := by
  intro pins s σ H Q I h
  refine attr_of hb (thn (he pins s σ H _ I h) fun u s1 ⟨x, H1, I1, rx, a, C, dx, fs, v, ex, ea, c, n, l, q⟩ => ?_)
  subst ex
  obtain rfl : u = Value.ref a := rx
  exact getattr_ok I1 ea c n l fun u' s2 I2 ru => ⟨v, H1, I2, ru, q⟩
theorem ps_fld (ha : PE X o ta) (hv : PE X value tv) (hs : swapsWith value (some (.Attribute o f pos')) pos.line X.env = pure false) : PS X (.Assign [.Attribute o f pos'] value pos) (sFld X.K ta tv f) := by
  intro pins s σ H D I h
  refine plainObj_wpAny_Assign_Attribute (thn (hv pins s σ H _ I h) fun u s1 ⟨y, H1, I1, ry, q⟩ => thn (ha pins s1 σ H1 _ I1 q) fun ov s2 ⟨x, H2, I2, rx, a, C, dx, fs, ex, ea, c, n, l, q2⟩ => ?_) hs
  subst ex
  obtain rfl : ov = Value.ref a := rx
  exact setattr_ok I2 ea c n l ry fun s3 I3 => ⟨σ, _, I3, q2⟩
end

/-! ### isinstance -/
section
variable {X : Cx} {pins : List (Addr × Obj)} {σ : St} {H : Hp} {s : Shared} {A : Around} {E : Value → Shared → Prop} {Q : Value → Shared → Prop} {c : Value} {b : Bool}
/-- the type of a value, as the fragment's deciders take it; for an instance its class -/
inductive TyOf (K : PySem.W.Frag) (H : Hp) : V → Value → Prop where
  | non : TyOf K H .non (.type "NoneType")
  | bl (x : Bool) : TyOf K H (.bl x) (.type "bool")
  | int (i : Int) : TyOf K H (.int i) (.type "int")
  | str (x : Str) : TyOf K H (.str x) (.type "str")
  | flt (x : UInt64) : TyOf K H (.flt x) (.type "float")
  | lst {a : Addr} {xs : List V} (e : H a = some (.lst xs)) : TyOf K H (.ref a) (.type "list")
  | frz {a : Addr} {o : Obj} {xs : List V} (e : H a = some (.frz o (.lst xs))) : TyOf K H (.ref a) (.type "list")
  | tup {a : Addr} {xs : List V} (e : H a = some (.tup xs)) : TyOf K H (.ref a) (.type "tuple")
  | dK {a : Addr} {kvs : List (Key × V)} (e : H a = some (.dK kvs)) : TyOf K H (.ref a) (.type "dict")
  | dT {a : Addr} {kvs : List (List Key × V)} (e : H a = some (.dT kvs)) : TyOf K H (.ref a) (.type "dict")
  | ins {a C dx : Addr} {fs : List (Str × V)} (e : H a = some (.ins C dx fs)) (cl : Cls K C) (ha : PySem.W.findIn K (.ref C) "__class__" = some (some (.builtin "object.__class__")))
      (hn : PySem.W.specialIn K (.builtin "object.__class__") "__get__" = some (some (.builtin "getset_descriptor.__get__"))) (htk : PySem.W.takesIn K (.builtin "object.__class__") = some true)
      (hm : PySem.W.mroIn K C (.type "object") = some true) : TyOf K H (.ref a) (.ref C)
/-- isinstance(x, c) for one class c, a built-in or an own one: kitOne's answer -/
theorem isinst_ok {x : V} {u t : Value} (I : Inv X pins σ H s) (rx : RelV x u) (ty : TyOf X.K H x t) (e : PySem.W.kitOne X.K t c = some b) (h : ∀ tk, Q (.bool b) { s with toks := tk }) :
    wpAny (model X.prog X.w) A (call (.builtin "isinstance") [u, c]) Q E s := by
  cases ty with
  | non => cases (show u = Value.none from rx); exact PySem.W.kia_one PySem.W.kitx_none I.kIn True.intro e (fun z => nomatch z) h
  | bl y => cases (show u = Value.bool y from rx); exact PySem.W.kia_one PySem.W.kitx_bool I.kIn True.intro e (fun z => nomatch z) h
  | int i => obtain ⟨t, q⟩ := (show ∃ t, u = Value.int i t from rx); cases q; exact PySem.W.kia_one PySem.W.kitx_int I.kIn True.intro e (fun z => nomatch z) h
  | str y => obtain ⟨t, q⟩ := (show ∃ t, u = Value.str y t from rx); cases q; exact PySem.W.kia_one PySem.W.kitx_str I.kIn True.intro e (fun z => nomatch z) h
  | flt y => obtain ⟨t, q⟩ := (show ∃ t, u = Value.float y t from rx); cases q; exact PySem.W.kia_one PySem.W.kitx_float I.kIn True.intro e (fun z => nomatch z) h
  | @lst a xs ea =>
    cases (show u = Value.ref a from rx)
    obtain ⟨_, _, n, _, h1⟩ := (show ObjOk X.prog X.w H s.heap a (.lst xs) from I.hok a _ ea)
    exact PySem.W.kia_one PySem.W.kitx_list I.kIn ⟨_, h1, rfl⟩ e (fun z => nomatch z) h
  | @frz a ob xs ea =>
    cases (show u = Value.ref a from rx)
    obtain ⟨_, _, _, n, _, h1⟩ := (show ObjOk X.prog X.w H s.heap a (.frz ob (.lst xs)) from I.hok a _ ea)
    exact PySem.W.kia_one PySem.W.kitx_list I.kIn ⟨_, h1, rfl⟩ e (fun z => nomatch z) h
  | @tup a xs ea =>
    cases (show u = Value.ref a from rx)
    obtain ⟨_, _, _, p⟩ := (show ObjOk X.prog X.w H s.heap a (.tup xs) from I.hok a _ ea)
    obtain ⟨o, h1, h2, _⟩ := p
    exact PySem.W.kia_one PySem.W.kitx_tuple I.kIn ⟨o, h1, h2⟩ e (fun z => nomatch z) h
  | @dK a kvs ea =>
    cases (show u = Value.ref a from rx)
    obtain ⟨_, _, vs, _, p⟩ := (show ObjOk X.prog X.w H s.heap a (.dK kvs) from I.hok a _ ea)
    obtain ⟨o, es, ep, h1, h2, _⟩ := p
    exact PySem.W.kia_one PySem.W.kitx_dict I.kIn ⟨o, h1, h2.1⟩ e (fun z => nomatch z) h
  | @dT a kvs ea =>
    cases (show u = Value.ref a from rx)
    obtain ⟨_, _, xs, _, o, es, ep, h1, h2, _⟩ := (show ObjOk X.prog X.w H s.heap a (.dT kvs) from I.hok a _ ea)
    exact PySem.W.kia_one PySem.W.kitx_dict I.kIn ⟨o, h1, h2.1⟩ e (fun z => nomatch z) h
  | @ins a C dx fs ea cl ha hn htk hm =>
    cases (show u = Value.ref a from rx)
    obtain ⟨mA, O, _⟩ := ins_get I.hok ea
    obtain ⟨od, J, _⟩ := O.look
    exact PySem.W.kia_one (PySem.W.kitx_own (cl.get _) cl.hd ha hn htk hm) I.kIn J e (fun z => nomatch z) h
end
end L2

namespace L2
open PySem PySem.Spec PyProof.Rows

/-! ### room -/
structure Room (k : Nat) (A : Around) : Prop where
  hd : A.handled = none
  dp : A.depth + 3 * k + 5 < recursionLimit
  un : A.units + 16 * k + 200 < cLine
  gd : A.guards = some []
theorem Room.mono {j k : Nat} {A : Around} (r : Room k A) (h : j ≤ k) : Room j A := ⟨r.hd, by have := r.dp; omega, by have := r.un; omega, by first | exact r.gd | simpa [Around.under, Around.deeper, Code.guards, Code.isGuard, guardIds, pushGuards] using r.gd⟩
theorem Room.deeper {k : Nat} {A : Around} (r : Room (k + 1) A) (env : Env) : Room k (A.deeper env) :=
  ⟨r.hd, by have := r.dp; show A.depth + 1 + 3 * k + 5 < _; omega, by have := r.un; show A.units + 3 + 16 * k + 200 < _; omega, by first | exact r.gd | simpa [Around.under, Around.deeper, Code.guards, Code.isGuard, guardIds, pushGuards] using r.gd⟩
theorem make_depth {A : Around} {C : Addr} {us : List Value} {kw : List (Str × Value)} : (A.under (.builtin "type.__call__" ⟨.ref C :: us, kw⟩)).depth = A.depth + 1 := by
  first | rfl | simp [Around.under, Code.weight, Code.isCreation, Code.isGuard, Code.isCaller, Code.frames, Code.isFrame, guardIds]
theorem make_units {A : Around} {C : Addr} {us : List Value} {kw : List (Str × Value)} : (A.under (.builtin "type.__call__" ⟨.ref C :: us, kw⟩)).units = A.units + 1 := by
  first | rfl | simp [Around.under, Code.cUnits, Code.frames, Code.isFrame]
theorem Room.make {k : Nat} {A : Around} (r : Room (k + 1) A) (C : Addr) (us : List Value) (kw : List (Str × Value)) : Room k (A.under (.builtin "type.__call__" ⟨.ref C :: us, kw⟩)) :=
  ⟨r.hd, by have := r.dp; rw [make_depth]; omega, by have := r.un; rw [make_units]; omega, by first | exact r.gd | simpa [Around.under, Around.deeper, Code.guards, Code.isGuard, guardIds, pushGuards] using r.gd⟩
theorem Room.depth {k : Nat} {A : Around} (r : Room k A) : A.depth < recursionLimit := by have := r.dp; omega
theorem Room.units {k : Nat} {A : Around} (r : Room k A) : A.units + 64 < cLine := by have := r.un; omega
theorem Room.units0 {k : Nat} {A : Around} (r : Room k A) : A.units < cLine := by have := r.un; omega

/-! ### argument lists and displays -/
def tNil : TA := fun _ H Q => Q [] H
def tCons (ta : TE) (tr : TA) : TA := fun σ H Q => ta σ H fun x H1 => tr σ H1 fun xs H2 => Q (x :: xs) H2
section
variable {X : Cx} {e : Expr} {es : List Expr} {te : TE} {t : TA} {pos : Pos}
theorem pa_nil : PA X [] tNil := fun _ _ _ _ H Q I h => Calls.spliced_nil ⟨[], H, I, .nil, h⟩
theorem pa_cons (ha : PE X e te) (hr : PA X es t) (hs : starEach (e :: es) X.env = (false, eval e X.env) :: starEach es X.env := by rfl) : PA X (e :: es) (tCons te t) := by
  intro pos pins s σ H Q I h
  rw [hs]
  show wpAny _ _ (spliced ((false, eval e X.env) :: backTo pos (starEach es X.env))) _ _ s
  refine Calls.spliced_cons (thn (ha pins s σ H _ I h) fun u s1 ⟨x, H1, I1, r1, q1⟩ => ?_)
  exact thn (hr pos pins s1 σ H1 _ I1 q1) fun us s2 ⟨xs, H2, I2, r2, q2⟩ => ⟨x :: xs, H2, I2, .cons r1 r2, q2⟩

def tLst (t : TA) : TE := fun σ H Q => t σ H fun xs H1 => xs.length ≤ sizeLine ∧ ∀ p, H1 p = none → Q (.ref p) (upd H1 p (.lst xs))
theorem pe_lst (h : PA X es t) : PE X (.List es pos) (tLst t) := by
  intro pins s σ H Q I hq
  refine wpAny_List_spliced (thn (h pos pins s σ H _ I hq) fun us s1 ⟨xs, H1, I1, r, z, q⟩ => ⟨by rw [← r.length]; exact z, ?_⟩)
  have hf : H1 s1.heap.objs.size = none := I1.hok.fresh (Nat.le_refl _)
  refine ⟨.ref s1.heap.objs.size, upd H1 s1.heap.objs.size (.lst xs), I1.laid (t' := s1.toks) (fun b u e => Heap.get?_push_of_some _ e) (Nat.le_refl _) ?_, rfl, q _ hf⟩
  exact ⟨z, us, 0, r, Heap.get?_push_size _ rfl⟩
end

/-! ### what a def promises -/
/-- a def's promise: the bound arguments in the parameters' order, the heap, the wanted end, the wanted exception -/
abbrev Sp := List V → Hp → VK → XK → Prop
/-- how an exception lies behind a call (file 08 gives it): the callers' frames, abstract heap and state ahead of the call, the wish, the exception, the state -/
abbrev CXT := List Env → Hp → Shared → XK → Value → Shared → Prop

/-- the state at a call -/
structure Env0 (P : Program) (w : World) (K : PySem.W.Frag) (mg : Str → Option Value) (base : Heap) (A : Around) (outer : List Env) (s : Shared) (H : Hp) : Prop where
  frames : A.frames = some outer
  mod : Mod K mg base
  bs : ∀ b o, base.get? b = some o → s.heap.get? b = some o ∧ H b = none
  bsz : base.objs.size ≤ s.heap.objs.size
  funs : s.heap.FunFrames base outer
  frf : ∀ b ∈ frs outer, H b = none
  hok : HOk P w H s.heap
  bare : AllBare s.gens
/-- a call's end -/
def CE (outer : List Env) (P : Program) (w : World) (H : Hp) (s : Shared) (Q : VK) (u : Value) (s' : Shared) : Prop :=
  ∃ v H', s'.os = s.os ∧ AllBare s'.gens ∧ Un (frs outer) [] H H' s.heap s'.heap ∧ HOk P w H' s'.heap ∧ RelV v u ∧ Q v H'
def CR (CX : CXT) (outer : List Env) (P : Program) (w : World) (H : Hp) (s : Shared) (Q : VK) (E : XK) (r : Result) (s' : Shared) : Prop :=
  match r with
  | .ok (.ret u) => CE outer P w H s Q u s'
  | .ok _ => False
  | .error e => CX outer H s E e s'
structure FnOk (P : Program) (w : World) (K : PySem.W.Frag) (mg : Str → Option Value) (base : Heap) (CX : CXT) (k : Nat) (f : Addr) (fd : FuncData) (ps : List Str) (sp : Sp) : Prop where
  len : ∀ vs H Q E, sp vs H Q E → vs.length = ps.length
  run : ∀ (A : Around) (outer : List Env) (s : Shared) (H : Hp) (args : Args) (us : List Value) (vs : List V) (Q : VK) (E : XK), Room k A → Env0 P w K mg base A outer s H → BindsTo s fd args (ps.zip us) → Vals vs us → sp vs H Q E →
    codeAny (model P w) A (.call (.ref f) args) (CR CX outer P w H s Q E) s
/-- a weaker promise -/
theorem FnOk.imp {P : Program} {w : World} {K : PySem.W.Frag} {mg : Str → Option Value} {base : Heap} {CX : CXT} {k : Nat} {f : Addr} {fd : FuncData} {ps : List Str} {sp sp' : Sp} (F : FnOk P w K mg base CX k f fd ps sp)
    (h : ∀ vs H Q E, sp' vs H Q E → sp vs H Q E) : FnOk P w K mg base CX k f fd ps sp' :=
  ⟨fun vs H Q E q => F.len vs H Q E (h _ _ _ _ q), fun A outer s H args us vs Q E hr he hb hv hs => F.run A outer s H args us vs Q E hr he hb hv (h _ _ _ _ hs)⟩

theorem Env0.make {P : Program} {w : World} {K : PySem.W.Frag} {mg : Str → Option Value} {base : Heap} {A : Around} {outer : List Env} {s : Shared} {H : Hp} (e : Env0 P w K mg base A outer s H) (C : Addr) (us : List Value) (kw : List (Str × Value)) :
    Env0 P w K mg base (A.under (.builtin "type.__call__" ⟨.ref C :: us, kw⟩)) outer s H := ⟨by first | exact e.frames | (simpa [Around.under, Code.envs, Code.isFrame, pushEnvs] using e.frames), e.mod, e.bs, e.bsz, e.funs, e.frf, e.hok, e.bare⟩
section
variable {X : Cx} {pins : List (Addr × Obj)} {σ : St} {H : Hp} {s s' : Shared}
/-- from a body: what a callee wants -/
theorem Inv.env0 (I : Inv X pins σ H s) : Env0 X.prog X.w X.K X.mg X.base X.A X.stack s H :=
  ⟨I.ok.frames, I.ok.mod, I.bs, Nat.le_trans I.ok.bsz I.sz, I.stack, I.stkFree, I.hok, I.bare⟩
/-- behind a call -/
theorem Inv.after {Q : VK} {u : Value} (I : Inv X pins σ H s) (h : CE X.stack X.prog X.w H s Q u s') : EP X pins σ Q u s' := by
  obtain ⟨v, H', os, bare, un, hok, r, q⟩ := h
  obtain ⟨hh, g, d, t, os'⟩ := s'
  obtain rfl : os' = s.os := os
  exact ⟨v, H', I.call (h' := hh) (g' := g) (d' := d) (t' := t) (ch := []) un hok bare (fun b z => absurd z (by simp)), r, q⟩
end

/-! ### calls -/
/-- f(..): the written arguments, then the defaults dvs; E: what is wanted of an exception -/
def tCall (sp : Sp) (dvs : List V) (E : XK) (t : TA) : TE := fun σ H Q => t σ H fun vs H1 => sp (vs ++ dvs) H1 Q E
/-- o.m(..) of an instance of the class at C -/
def tMeth (C : Addr) (m : Str) (sp : Sp) (dvs : List V) (E : XK) (ta : TE) (t : TA) : TE := fun σ H Q => ta σ H fun x H1 => ∃ a dx fs, x = .ref a ∧ H1 a = some (.ins C dx fs) ∧ fs.lookup m = none ∧
  t σ H1 fun vs H2 => sp (x :: (vs ++ dvs)) H2 Q E
/-- C(..): a new instance and its dict, then __init__ -/
def tMake (C : Addr) (sp : Sp) (dvs : List V) (E : XK) (t : TA) : TE := fun σ H Q => t σ H fun vs H1 => ∀ x dx, H1 x = none → H1 dx = none → dx ≠ x →
  sp (.ref x :: (vs ++ dvs)) (upd (upd H1 dx (.own x)) x (.ins C dx [])) (fun v H2 => v = .non ∧ Q (.ref x) H2) E

/-- how the parameters are bound: us the positional arguments, kw the keywords' values by name, ds the defaults that fill up -/
def Binds (K : PySem.W.Frag) (fd : FuncData) (ps : List Str) (ds : List Value) : Prop :=
  ∀ (s : Shared) (us : List Value), K.In s.heap → (us ++ ds).length = ps.length → BindsTo s fd ⟨us, []⟩ (ps.zip (us ++ ds))
/-- every parameter is given -/
theorem Binds.all {K : PySem.W.Frag} {fd : FuncData} {ps : List Str} (h : ∀ us : List Value, us.length = ps.length → bindArgs fd ⟨us, []⟩ = pure (ps.zip us)) : Binds K fd ps [] := fun s us _ hl => by
  rw [List.append_nil] at hl ⊢
  exact .of_eq (h us hl)

/-- an exception of a callee reaches what this body wants of exceptions -/
def Passes (CX : CXT) (X : Cx) (E : XK) : Prop := ∀ (pins : List (Addr × Obj)) (σ : St) (H : Hp) (s : Shared) (e : Value) (s' : Shared), Inv X pins σ H s → CX X.stack H s E e s' → X.xe e s'

section
variable {X : Cx} {CX : CXT} {k : Nat} {f C : Addr} {fd : FuncData} {ps : List Str} {sp : Sp} {dvs : List V} {ds : List Value} {E : XK} {x m : Str} {p pos apos : Pos} {e o : Expr} {es : List Expr} {ta : TE} {t : TA}

/-- the callee runs -/
theorem run_fn {pins : List (Addr × Obj)} {σ : St} {H : Hp} {s : Shared} {Q : VK} {us : List Value} {vs : List V} (F : FnOk X.prog X.w X.K X.mg X.base CX k f fd ps sp) (hr : Room k X.A) (hb : Binds X.K fd ps ds) (hd : Vals dvs ds) (hx : Passes CX X E)
    (I : Inv X pins σ H s) (r : Vals vs us) (h : sp (vs ++ dvs) H Q E) : wpAny (model X.prog X.w) X.A (call (.ref f) us) (EP X pins σ Q) X.xe s := by
  have r2 : Vals (vs ++ dvs) (us ++ ds) := r.append hd
  have hl : (us ++ ds).length = ps.length := by rw [← r2.length]; exact F.len _ _ _ _ h
  refine wpAny_call (codeAny_mono (F.run X.A X.stack s H ⟨us, []⟩ (us ++ ds) (vs ++ dvs) Q E hr I.env0 (hb s us I.kIn hl) r2 h) fun r s' hq => ?_)
  cases r with
  | error e => exact hx pins σ H s e s' I hq
  | ok fl =>
    cases fl with
    | ret u => exact I.after hq
    | next => exact False.elim hq
    | brk => exact False.elim hq
    | cont => exact False.elim hq

theorem pe_call (F : FnOk X.prog X.w X.K X.mg X.base CX k f fd ps sp) (hr : Room k X.A) (hg : Gl X x) (hm : X.mg x = some (.ref f)) (hk : PySem.W.keepIn X.K (.ref f) = true) (hb : Binds X.K fd ps ds) (hd : Vals dvs ds) (hx : Passes CX X E)
    (ha : PA X (e :: es) t) (hdb : (x == ("__debug__" : Str)) = false := by decide) (he : starEach (e :: es) X.env = (false, eval e X.env) :: starEach es X.env := by rfl) (hpl : (backTo pos (starEach es X.env)).any (·.1) = false := by rfl) :
    PE X (.Call (.Name x p) (e :: es) [] pos) (tCall sp dvs E t) := by
  intro pins s σ H Q I h
  refine wpAny_Call_Name_kw (ld_glob I hg hm ?_ hdb)
  refine PySem.W.callWith_K (h₀ := X.base) I.ok.mod.kin hk (thn (ha pos pins s σ H _ I h) fun us s1 ⟨vs, H1, I1, r, q⟩ => ⟨I1.kIn, ?_⟩) he hpl
  exact run_fn F hr hb hd hx I1 r q
/-- o.m() -/
theorem pe_meth0 {pl : Sem Bool} (he : PE X o ta) (c : Cls X.K C) (hm : Meth X.K C m f) (F : FnOk X.prog X.w X.K X.mg X.base CX k f fd ps sp) (hr : Room k X.A) (hb : Binds X.K fd ps ds) (hd : Vals dvs ds) (hx : Passes CX X E)
    (ht : eval (.Call (.Attribute o m apos) [] [] pos) X.env = (do
      let ov ← eval o X.env
      standAt apos.atName
      let (f, first) ← holding [ov] (getMethod ov m pl)
      callWith pos f first (backTo pos (starEach [] X.env)) (backToKw pos (keywordEach [] X.env))) := by rfl) :
    PE X (.Call (.Attribute o m apos) [] [] pos) (tMeth C m sp dvs E ta tNil) := by
  intro pins s σ H Q I h
  refine PySem.W.methodCall_KW (pl := pl) (thn (he pins s σ H _ I h) fun u s1 ⟨x, H1, I1, rx, a, dx, fs, ex, ea, l, q⟩ => ?_) ht
  subst ex
  obtain rfl : u = Value.ref a := rx
  refine getmeth_ok I1 ea c hm l ?_
  exact PySem.W.callWith_K0 (first := [.ref a]) I1.kIn hm.kp (run_fn (us := [.ref a]) (vs := [.ref a]) F hr hb hd hx I1 (.cons rfl .nil) q)

/-- what a class must have to be made -/
structure Mk (K : PySem.W.Frag) (C f : Addr) : Prop where
  makes : PySem.W.makesIn K C = true
  init : PySem.W.findIn K (.ref C) "__init__" = some (some (.ref f))
  fn : PySem.W.isFn K (.ref f) = true
  kp : PySem.W.keepIn K (.ref C) = true

theorem run_make {pins : List (Addr × Obj)} {σ : St} {H : Hp} {s : Shared} {Q : VK} {us : List Value} {vs : List V} (M : Mk X.K C f) (F : FnOk X.prog X.w X.K X.mg X.base CX k f fd ps sp) (hr : Room (k + 1) X.A) (hb : Binds X.K fd ps ds) (hd : Vals dvs ds)
    (hx : Passes CX X E) (I : Inv X pins σ H s) (r : Vals vs us)
    (h : ∀ x dx, H x = none → H dx = none → dx ≠ x → sp (.ref x :: (vs ++ dvs)) (upd (upd H dx (.own x)) x (.ins C dx [])) (fun v H2 => v = .non ∧ Q (.ref x) H2) E) :
    wpAny (model X.prog X.w) X.A (call (.ref C) us) (EP X pins σ Q) X.xe s := by
  have hq := h (s.heap.objs.size + 1) s.heap.objs.size (I.hok.fresh (Nat.le_succ _)) (I.hok.fresh (Nat.le_refl _)) (Nat.ne_of_lt (Nat.lt_succ_self _))
  have I2 := Inv.made (C := C) I
  have r2 : Vals (V.ref (s.heap.objs.size + 1) :: (vs ++ dvs)) (Value.ref (s.heap.objs.size + 1) :: (us ++ ds)) := .cons rfl (r.append hd)
  have hl : (Value.ref (s.heap.objs.size + 1) :: us ++ ds).length = ps.length := by
    have e := r2.length
    rw [F.len _ _ _ _ hq] at e
    exact e.symm
  refine wpAny_call (make_map (f := f) I.kIn M.makes M.init (beq_iff_eq.mp M.fn) (codeAny_mono (F.run _ X.stack _ _ ⟨Value.ref (s.heap.objs.size + 1) :: us, []⟩ (Value.ref (s.heap.objs.size + 1) :: (us ++ ds)) _ _ E (hr.make C us [])
    (I2.env0.make C us []) (hb _ (Value.ref (s.heap.objs.size + 1) :: us) I2.kIn hl) r2 hq) fun r s' hq' => ?_))
  cases r with
  | error e => exact hx pins σ _ _ e s' I2 hq'
  | ok fl =>
    cases fl with
    | ret u =>
      obtain ⟨v, H', I3, rv, ev, q3⟩ := I2.after hq'
      subst ev
      exact ⟨rv, ⟨V.ref (s.heap.objs.size + 1), H', I3, rfl, q3⟩⟩
    | next => exact False.elim hq'
    | brk => exact False.elim hq'
    | cont => exact False.elim hq'
theorem pe_make (M : Mk X.K C f) (F : FnOk X.prog X.w X.K X.mg X.base CX k f fd ps sp) (hr : Room (k + 1) X.A) (hg : Gl X x) (hm : X.mg x = some (.ref C)) (hb : Binds X.K fd ps ds) (hd : Vals dvs ds) (hx : Passes CX X E)
    (ha : PA X (e :: es) t) (hdb : (x == ("__debug__" : Str)) = false := by decide) (he : starEach (e :: es) X.env = (false, eval e X.env) :: starEach es X.env := by rfl) (hpl : (backTo pos (starEach es X.env)).any (·.1) = false := by rfl) :
    PE X (.Call (.Name x p) (e :: es) [] pos) (tMake C sp dvs E t) := by
  intro pins s σ H Q I h
  refine wpAny_Call_Name_kw (ld_glob I hg hm ?_ hdb)
  refine PySem.W.callWith_K (h₀ := X.base) I.ok.mod.kin M.kp (thn (ha pos pins s σ H _ I h) fun us s1 ⟨vs, H1, I1, r, q⟩ => ⟨I1.kIn, ?_⟩) he hpl
  exact run_make M F hr hb hd hx I1 r q
end

/-! ### keywords -/
section
variable {X : Cx} {CX : CXT} {k : Nat} {f C : Addr} {fd : FuncData} {ps ks : List Str} {sp : Sp} {E : XK} {x m : Str} {p pos apos kpos : Pos} {e o : Expr} {es : List Expr} {kws : List Keyword} {te ta : TE} {t tk : TA} {nm : Option Str}
variable {g : List Value → List Value → List Value} {gV : List V → List V → List V}
end

/-! ### a def's body keeps its promise -/
/-- names: the parameters first -/
structure FnScope (N P : List Str) (sc : Scope) : Prop where
  kind : sc.kind = .function
  co : sc.isCoroutine = false
  gen : sc.isGenerator = false
  nd : N.Nodup
  pre : N.take P.length = P
  par : ∀ x ∈ P, sc.names.lookup x = some .local ∨ sc.names.lookup x = some .cell
  nofree : ∀ y ∈ sc.names, y.2 ≠ .free

theorem bindL_out {kindOf : Str → Option NameKind} {x : Str} : ∀ {binds : List (Str × Value)} {m : Str → Option Value}, (∀ v, (x, v) ∉ binds) → bindL kindOf binds m x = m x
  | [], _, _ => rfl
  | (n, v) :: r, m, h => by
    unfold bindL
    rw [bindL_out fun w hw => h w (List.mem_cons_of_mem _ hw)]
    split
    · have : x ≠ n := by rintro rfl; exact h v List.mem_cons_self
      simp [this]
    · rfl
theorem bindC_out {kindOf : Str → Option NameKind} {x : Str} : ∀ {binds : List (Str × Value)} {m : Str → Option Value}, (∀ v, (x, v) ∉ binds) → bindC kindOf binds m x = m x
  | [], _, _ => rfl
  | (n, v) :: r, m, h => by
    unfold bindC
    rw [bindC_out fun w hw => h w (List.mem_cons_of_mem _ hw)]
    split
    · rfl
    · have : x ≠ n := by rintro rfl; exact h v List.mem_cons_self
      simp [this]
theorem bindL_get {kindOf : Str → Option NameKind} {x : Str} {v : Value} : ∀ {P : List Str} {vs : List Value} {i : Nat} {m : Str → Option Value}, P.Nodup → P[i]? = some x → vs[i]? = some v → kindOf x = some .local →
    bindL kindOf (P.zip vs) m x = some v
  | [], _, _, _, _, h, _, _ => by simp at h
  | _ :: _, [], _, _, _, _, h, _ => by simp at h
  | p :: P, w :: vs, 0, m, nd, h1, h2, hk => by
    simp at h1 h2; subst h1; subst h2
    show bindL kindOf ((p, w) :: P.zip vs) m p = _
    unfold bindL
    rw [bindL_out fun v hv => (List.nodup_cons.mp nd).1 (List.of_mem_zip hv).1, if_pos hk]
    simp
  | p :: P, w :: vs, i + 1, m, nd, h1, h2, hk => by
    show bindL kindOf ((p, w) :: P.zip vs) m x = _
    unfold bindL
    exact bindL_get (i := i) (List.nodup_cons.mp nd).2 (by simpa using h1) (by simpa using h2) hk
theorem bindC_get {kindOf : Str → Option NameKind} {x : Str} {v : Value} : ∀ {P : List Str} {vs : List Value} {i : Nat} {m : Str → Option Value}, P.Nodup → P[i]? = some x → vs[i]? = some v → kindOf x ≠ some .local →
    bindC kindOf (P.zip vs) m x = some v
  | [], _, _, _, _, h, _, _ => by simp at h
  | _ :: _, [], _, _, _, _, h, _ => by simp at h
  | p :: P, w :: vs, 0, m, nd, h1, h2, hk => by
    simp at h1 h2; subst h1; subst h2
    show bindC kindOf ((p, w) :: P.zip vs) m p = _
    unfold bindC
    rw [bindC_out fun v hv => (List.nodup_cons.mp nd).1 (List.of_mem_zip hv).1, if_neg hk]
    simp
  | p :: P, w :: vs, i + 1, m, nd, h1, h2, hk => by
    show bindC kindOf ((p, w) :: P.zip vs) m x = _
    unfold bindC
    exact bindC_get (i := i) (List.nodup_cons.mp nd).2 (by simpa using h1) (by simpa using h2) hk

/-- the names' values at the entry -/
def start (N : List Str) (vs : List V) : St := vs.map some ++ List.replicate (N.length - vs.length) none

/-- the context of a def's body, at its entry; an exception leaves the frame, then lies as CX says -/
def cxOf (CX : CXT) (P : Program) (w : World) (K : PySem.W.Frag) (mg : Str → Option Value) (base : Heap) (N : List Str) (qual : Str) (scope : Scope) (f : Addr) (cd : Value) (A : Around) (outer : List Env) (s : Shared) (H : Hp) (E : XK) : Cx where
  prog := P
  w := w
  K := K
  mg := mg
  base := base
  A := A.deeper (envOfC qual scope s.heap.objs.size f cd)
  N := N
  s₀ := s
  H₀ := H
  env := envOfC qual scope s.heap.objs.size f cd
  outer := outer
  stack := envOfC qual scope s.heap.objs.size f cd :: outer
  ex := []
  calm := true
  fn := fun _ => true
  pn := []
  xe := fun e s' => wpAny (model P w) (A.deeper (envOfC qual scope s.heap.objs.size f cd)) (leaving (envOfC qual scope s.heap.objs.size f cd) e) (fun _ s'' => CX outer H s E e s'') (fun e' s'' => CX outer H s E e' s'') s'

theorem cell_has {sc : Scope} {n : Nat} {x : Str} (h : sc.names.lookup x = some .cell) : ∃ c, (cellsFrom n sc.names []).lookup x = some c := by
  have q := PySem.W.cellsFrom_some sc.names n [] (.inl h)
  exact Option.isSome_iff_exists.mp q

theorem inv_start {CX : CXT} {P : Program} {w : World} {K : PySem.W.Frag} {mg : Str → Option Value} {base : Heap} {N ps : List Str} {qual : Str} {scope : Scope} {f : Addr} {cd : Value} {A : Around} {outer : List Env} {s s1 : Shared} {H : Hp} {E : XK} {us : List Value} {vs : List V}
    (S : FnScope N ps scope) (hd : A.handled = none) (e0 : Env0 P w K mg base A outer s H) (hl : vs.length = ps.length) (r : Vals vs us)
    (x : InCallC s s.heap.objs.size (bindL (envOfC qual scope s.heap.objs.size f cd).kindOf (ps.zip us) fun _ => none) (cellsFrom (s.heap.objs.size + 1) scope.names []) (bindC (envOfC qual scope s.heap.objs.size f cd).kindOf (ps.zip us) fun _ => none) s1) :
    Inv (cxOf CX P w K mg base N qual scope f cd A outer s H E) [] (start N vs) H s1 := by
  have hpl : ps.length ≤ N.length := by have := congrArg List.length S.pre; rw [List.length_take] at this; omega
  obtain ⟨h1, tk, rfl, hk⟩ := x.done
  have noA : ∀ b : Addr, b ∉ (cxOf CX P w K mg base N qual scope f cd A outer s H E).ex := fun b z => absurd (show b ∈ ([] : List Addr) from z) (by simp)
  refine ⟨⟨e0.mod, S.kind, rfl, rfl, Nat.le_refl _, fun y z c h1 h2 => ?_, fun y hy => ?_, fun y c _ h => ?_, fun _ => hd, Around.frames_deeper e0.frames, .inr ⟨rfl, rfl⟩, fun b z => absurd z (noA b), e0.bs, e0.bsz, fun b _ _ => noA b, fun b z => absurd z (noA b), e0.funs, e0.frf⟩,
    rfl, e0.bare, Un.kept hk, ⟨_, x.toInCall.ns, fun i y v h1 h2 h3 => ?_⟩, fun y c h => ⟨_, x.cell y c h⟩, e0.hok.fresh (Nat.le_refl _), fun y c h => ?_, fun p hp => absurd (show p ∈ ([] : List (Addr × Obj)) from hp) (by simp), e0.hok.kept hk, ?_⟩
  · exact name_of_addr x.apart (PySem.mem_of_lookup h1) (PySem.mem_of_lookup h2)
  · have hy : scope.names.lookup y = some .cell ∨ scope.names.lookup y = some .free := hy
    rcases hy with hy | hy
    · exact cell_has hy
    · exact absurd rfl (S.nofree _ (PySem.mem_of_lookup hy))
  · exact Nat.le_of_lt (x.above y c (PySem.mem_of_lookup h))
  · have hi : i < vs.length := by
      unfold start at h2
      by_cases hi : i < vs.length
      · exact hi
      · rw [List.getElem?_append_right (by simpa using hi)] at h2
        rw [List.getElem?_replicate] at h2
        split at h2 <;> cases h2
    have ha : vs[i]? = some v := by
      unfold start at h2
      rw [List.getElem?_append_left (by simpa using hi), List.getElem?_map] at h2
      cases e : vs[i]? with
      | none => rw [e] at h2; cases h2
      | some a => rw [e] at h2; cases h2; rfl
    obtain ⟨u, hu, rv⟩ := r.get ha
    have hp : ps[i]? = some y := by
      rw [← S.pre, List.getElem?_take_of_lt (by omega)]; exact h1
    have ndP : ps.Nodup := by rw [← S.pre]; exact S.nd.sublist (List.take_sublist _ _)
    refine ⟨u, rv, ?_⟩
    rcases S.par y (List.mem_of_getElem? hp) with k | k
    · exact .inl ⟨k, bindL_get ndP hp hu k⟩
    · obtain ⟨c, e⟩ := cell_has (n := s.heap.objs.size + 1) k
      refine .inr ⟨.inl k, c, e, ?_⟩
      have q := x.cell y c e
      rw [bindC_get ndP hp hu (by show scope.names.lookup y ≠ _; rw [k]; decide)] at q
      exact q
  · exact e0.hok.fresh (Nat.le_of_lt (x.above y c (PySem.mem_of_lookup h)))
  · unfold start
    show _ = N.length
    rw [List.length_append, List.length_map, List.length_replicate]
    omega

/-- THE RULE: a def (or a method) of the text, by its body. The body's reading t is chosen for each entry; it is run at the parameters' values -/
theorem fn_of {CX : CXT} {P : Program} {w : World} {K : PySem.W.Frag} {mg : Str → Option Value} {base : Heap} {k : Nat} {f : Addr} {name qual : Str} {params : Arguments} {body : List Stmt} {scope : Scope} {dV kV doc pm cdv ct oc : Value} {an od : Option Addr}
    {osl : Array (Option Value)} {N ps : List Str} {sp : Sp} (lk : K.lookup f = some ⟨oc, od, .func (PySem.W.fnOf name qual params body scope dV kV doc pm an cdv ct), osl⟩) (hcd : PySem.W.codeIn K cdv qual = true) (S : FnScope N ps scope)
    (len : ∀ vs H Q E, sp vs H Q E → vs.length = ps.length)
    (hbody : ∀ (A : Around) (outer : List Env) (s : Shared) (H : Hp) (vs : List V) (Q : VK) (E : XK), Room k (A.deeper (envOfC qual scope s.heap.objs.size f cdv)) → sp vs H Q E →
      ∃ t, PSs (cxOf CX P w K mg base N qual scope f cdv A outer s H E) body t ∧ t { nx := fun _ H' => Q .non H', rt := Q } (start N vs) H) :
    FnOk P w K mg base CX (k + 1) f (PySem.W.fnOf name qual params body scope dV kV doc pm an cdv ct) ps sp := by
  refine ⟨len, fun A outer s H args us vs Q E hr e0 hb r hsp => ?_⟩
  have hl := len _ _ _ _ hsp
  have KX : K.In s.heap := e0.mod.kin.keeps fun b o e => (e0.bs b o e).1
  have lim : s.heap.NoLimit := e0.mod.nolimit.keeps fun b o e => (e0.bs b o e).1
  have hkind : ∀ y ∈ ps.zip us, scope.names.lookup y.1 = some .local ∨ (scope.names.lookup y.1 = some .cell ∧ ((cellsFrom (s.heap.objs.size + 1) scope.names []).lookup y.1).isSome = true) := fun ⟨n, v⟩ hy => by
    rcases S.par n (List.of_mem_zip hy).1 with q | q
    · exact .inl q
    · exact .inr ⟨q, PySem.W.cellsFrom_some _ _ _ (.inl q)⟩
  refine codeAny_call_function hr.depth (KX _ _ lk) rfl S.co S.gen rfl (PySem.W.codeRec_of KX hcd) (hb _ _ _ _ ?_)
  refine wpAny_newFunctionEnv_cells S.kind hkind fun env he s1 x => ?_
  subst he
  refine ⟨lim.keeps x.toInCall.keep, codeAny_func ?_⟩
  obtain ⟨t, ht, hq⟩ := hbody A outer s H vs Q E (hr.deeper _) hsp
  have I : Inv (cxOf CX P w K mg base N qual scope f cdv A outer s H E) [] (start N vs) H s1 := inv_start S hr.hd e0 hl r x
  refine wpAny_mono (ht [] s1 (start N vs) H _ I hq) (fun fl s' hs => ?_) fun e s' hs => hs
  have fin : ∀ {σ' : St} {H' : Hp} {v : V} {u : Value}, Inv (cxOf CX P w K mg base N qual scope f cdv A outer s H E) [] σ' H' s' → RelV v u → Q v H' → CE outer P w H s Q u s' :=
    fun {σ' H' v u} J rv q => ⟨v, H', J.os, J.bare, J.base, J.hok, rv, q⟩
  cases fl with
  | ret u =>
    obtain ⟨v, σ', H', J, rv, q⟩ := hs
    exact fin J rv q
  | next =>
    obtain ⟨σ', H', J, q⟩ := hs
    exact fin (v := V.non) (u := Value.none) J rfl q
  | brk =>
    obtain ⟨_, _, _, q⟩ := hs
    exact False.elim q
  | cont =>
    obtain ⟨_, _, _, q⟩ := hs
    exact False.elim q
end L2

namespace L2
open PySem PySem.Spec PyProof.Rows
section
variable {X : Cx} {x : Str} {p pos : Pos} {e : Expr} {es : List Expr} {t : TA} {id T : String} {r : List V → Hp → VK → Prop}

def tCB (r : List V → Hp → VK → Prop) (t : TA) : TE := fun σ H Q => t σ H fun vs H1 => r vs H1 Q
/-- f(e, ..), f a built-in function -/
theorem pe_callB (hc : CallR X (.builtin id) r) (hg : Gl X x) (hm : X.mg x = none) (hv : bootBuiltins x = some (.builtin id)) (ha : PA X (e :: es) t) (hn : x ≠ "__name__" := by decide) (hdb : (x == ("__debug__" : Str)) = false := by decide)
    (he : starEach (e :: es) X.env = (false, eval e X.env) :: starEach es X.env := by rfl) (hpl : (backTo pos (starEach es X.env)).any (·.1) = false := by rfl) : PE X (.Call (.Name x p) (e :: es) [] pos) (tCB r t) := by
  intro pins s σ H Q I h
  refine wpAny_Call_Name_kw (ld_blt I hg hm hv ?_ hn hdb)
  exact PyProof.Rows.callWith_builtin1 (thn (ha pos pins s σ H _ I h) fun us s1 ⟨vs, H1, I1, r1, q1⟩ => hc pins s1 σ H1 vs us Q I1 r1 q1) he hpl
/-- T(e, ..), T a built-in type -/
theorem pe_callTy (hc : CallR X (.type T) r) (hg : Gl X x) (hm : X.mg x = none) (hv : bootBuiltins x = some (.type T)) (ha : PA X (e :: es) t) (hn : x ≠ "__name__" := by decide) (hdb : (x == ("__debug__" : Str)) = false := by decide)
    (he : starEach (e :: es) X.env = (false, eval e X.env) :: starEach es X.env := by rfl) (hpl : (backTo pos (starEach es X.env)).any (·.1) = false := by rfl) : PE X (.Call (.Name x p) (e :: es) [] pos) (tCB r t) := by
  intro pins s σ H Q I h
  refine wpAny_Call_Name_kw (ld_blt I hg hm hv ?_ hn hdb)
  exact PyProof.Rows.callWith_type1 (thn (ha pos pins s σ H _ I h) fun us s1 ⟨vs, H1, I1, r1, q1⟩ => hc pins s1 σ H1 vs us Q I1 r1 q1) he hpl
end
end L2

namespace HT
open PySem PyProof.Rows

/-- t < u of tuples of ints -/
def lexLt : List Int → List Int → Bool
  | [], [] => false
  | [], _ :: _ => true
  | _ :: _, [] => false
  | x :: xs, y :: ys => if x = y then lexLt xs ys else decide (x < y)
theorem lexLt_cons (x y : Int) (xs ys : List Int) : lexLt (x :: xs) (y :: ys) = if x = y then lexLt xs ys else decide (x < y) := rfl
theorem lexLt_nil_nil : lexLt [] [] = false := rfl
theorem lexLt_nil_cons (y : Int) (ys : List Int) : lexLt [] (y :: ys) = true := rfl
theorem lexLt_cons_nil (x : Int) (xs : List Int) : lexLt (x :: xs) [] = false := rfl

section
open PySem.SeqAt
open PySem.AutoSeq1 (wpAny_loadPart')
open PySem.MeetsSeq PySem.MeetsSeq2 PySem.MeetsSeq3

end

section
variable {prog : Program} {w : World} {A : Around} {E : Value → Shared → Prop} {s : Shared}

/-! ### t[a:b], not the whole -/
/-- a slice's bound as a place among n (d where it is left out) -/
def sIx (n d : Nat) : Option Int → Nat
  | none => d
  | some v => if v < 0 then (v + (n : Int)).toNat else min v.toNat n
theorem sIx_none (n d : Nat) : sIx n d none = d := rfl
end
end HT

namespace L2
open PySem PySem.Spec PyProof.Rows

/-! ### the parts of a slice -/
abbrev TO := St → Hp → (Option Int → Hp → Prop) → Prop
/-- a slice's part (left out, or an int) -/
def PO (X : Cx) (e : Option Expr) (t : TO) : Prop :=
  ∀ (pins : List (Addr × Obj)) (s : Shared) (σ : St) (H : Hp) (Q : Option Int → Hp → Prop), Inv X pins σ H s → t σ H Q →
    wpAny (model X.prog X.w) X.A (evalPart e X.env) (fun u s' => ∃ o H', Inv X pins σ H' s' ∧ IsPart u o ∧ Q o H') X.xe s
def tNoPart : TO := fun _ H Q => Q none H
def tPart (t : TE) : TO := fun σ H Q => t σ H fun x H1 => ∃ i, x = .int i ∧ Q (some i) H1

theorem intsAre_of {ns : List Int} : ∀ {us : List Value}, Vals (ns.map V.int) us → IntsAre us ns := by
  induction ns with
  | nil => intro us r; rw [List.map_nil] at r; cases r; exact .nil
  | cons n ns ih =>
    intro us r
    rw [List.map_cons] at r
    cases r with
    | cons r1 r2 =>
      obtain ⟨t, e⟩ := r1
      subst e
      exact .cons n t (ih r2)

section
variable {X : Cx} {e : Expr} {te : TE} {lo hi : Option Expr} {tl th : TO} {pos p2 : Pos}

theorem po_none : PO X none tNoPart := by
  intro pins s σ H Q I h
  rw [evalPart_none]
  exact wpAny_pure ⟨none, H, I, .none, h⟩
theorem po_some (h : PE X e te) : PO X (some e) (tPart te) := by
  intro pins s σ H Q I hw
  rw [evalPart_some]
  refine thn (h pins s σ H _ I hw) fun u s1 ⟨x, H1, I1, r1, q1⟩ => ?_
  obtain ⟨i, rfl, q⟩ := q1
  obtain ⟨t, rfl⟩ := r1
  exact ⟨some i, H1, I1, .int i t, q⟩

/-- what a slice of a value is, by values: the slice object stands at sl -/
def SlR (X : Cx) (r : V → Option Int → Option Int → Hp → VK → Prop) : Prop :=
  ∀ (pins : List (Addr × Obj)) (s : Shared) (σ : St) (H : Hp) (x : V) (v vl vu : Value) (lo hi : Option Int) (sl : Addr) (Q : VK), Inv X pins σ H s → RelV x v → s.heap.IsSliceOf sl vl vu .none → IsPart vl lo → IsPart vu hi → r x lo hi H Q →
    ∃ T id, typeLookup (.type T) "__getitem__" = pure (some (.builtin id)) ∧ s.TypeIs v T ∧ wpAny (model X.prog X.w) X.A (getItem v (.ref sl)) (EP X pins σ Q) X.xe s
def tSl (r : V → Option Int → Option Int → Hp → VK → Prop) (te : TE) (tl th : TO) : TE := fun σ H Q => te σ H fun x H1 => tl σ H1 fun l H2 => th σ H2 fun u H3 => r x l u H3 Q
/-- a[lo:hi], any a -/
theorem pe_slice {r : V → Option Int → Option Int → Hp → VK → Prop} (hr : SlR X r) (he : PE X e te) (hl : PO X lo tl) (hu : PO X hi th) : PE X (.Subscript e (.Slice lo hi none p2) pos) (tSl r te tl th) := by
  intro pins s σ H Q I h
  refine Subscript_ (thn (he pins s σ H _ I h) fun v s1 ⟨x, H1, I1, r1, q1⟩ => ?_)
  refine wpAny_Slice (thn (hl pins s1 σ H1 _ I1 q1) fun vl s2 ⟨l, H2, I2, pl, q2⟩ => thn (hu pins s2 σ H2 _ I2 q2) fun vu s3 ⟨u, H3, I3, pu, q3⟩ => ?_)
  rw [evalPart_none]
  refine wpAny_pure ?_
  have I4 : Inv X pins σ H3 { s3 with heap := s3.heap.push { cls := .type "slice", data := .fields #[vl, vu, .none] } } := I3.kept (t' := s3.toks) fun b ob q => Heap.get?_push_of_some _ q
  obtain ⟨T, id, hT, ht, hg⟩ := hr pins { s3 with heap := s3.heap.push { cls := .type "slice", data := .fields #[vl, vu, .none] } } σ H3 x v vl vu l u s3.heap.objs.size Q I4 r1 (Heap.IsSliceOf.new ..) pl pu q3
  show wpAny (model X.prog X.w) X.A (subscriptTail e (.Slice lo hi none p2) v (.ref s3.heap.objs.size)) (EP X pins σ Q) X.xe { s3 with heap := s3.heap.push { cls := .type "slice", data := .fields #[vl, vu, .none] } }
  exact tail_any (ops := [.ref s3.heap.objs.size, v]) ht hT hg (by with_unfolding_all rfl)

/-- the items of xs[lo:hi] -/
def cutV (xs : List V) (lo hi : Option Int) : List V := (xs.drop (HT.sIx xs.length 0 lo)).take (HT.sIx xs.length xs.length hi - HT.sIx xs.length 0 lo)
theorem cutV_length (xs : List V) (lo hi : Option Int) : (cutV xs lo hi).length ≤ xs.length := by
  unfold cutV
  rw [List.length_take, List.length_drop]
  omega
/-! ### t < u, t + u -/
end
end L2

namespace L2
open PySem PySem.Spec PyProof.Rows

/-! ### places -/
/-- the place that an index of any sign means -/
def ixN (n : Nat) (i : Int) : Option Nat := if 0 ≤ i then (if i < n then some i.toNat else none) else if -(n : Int) ≤ i then some (i + n).toNat else none
def atI {α : Type} (xs : List α) (i : Int) : Option α := (ixN xs.length i).bind fun j => xs[j]?
theorem ixN_seq {n : Nat} {i : Int} {j : Nat} (h : ixN n i = some j) : seqIndex? i n = some j ∧ j < n ∧ -(n : Int) ≤ i ∧ i < n := by
  unfold ixN at h
  by_cases h0 : 0 ≤ i
  · rw [if_pos h0] at h
    by_cases h1 : i < n
    · rw [if_pos h1] at h
      have e : i.toNat = j := Option.some.inj h
      exact ⟨by rw [seqIndex_of h0 h1, e], by omega, by omega, h1⟩
    · rw [if_neg h1] at h; cases h
  · rw [if_neg h0] at h
    by_cases h1 : -(n : Int) ≤ i
    · rw [if_pos h1] at h
      have e : (i + n).toNat = j := Option.some.inj h
      exact ⟨by rw [seqIndex_neg (by omega) h1, e], by omega, h1, by omega⟩
    · rw [if_neg h1] at h; cases h
theorem atI_get {α : Type} {xs : List α} {i : Int} {v : α} (h : atI xs i = some v) : ∃ j, seqIndex? i xs.length = some j ∧ xs[j]? = some v ∧ j < xs.length ∧ -(xs.length : Int) ≤ i ∧ i < xs.length := by
  unfold atI at h
  cases e : ixN xs.length i with
  | none => rw [e] at h; cases h
  | some j =>
    rw [e] at h
    obtain ⟨h1, h2, h3, h4⟩ := ixN_seq e
    exact ⟨j, h1, h, h2, h3, h4⟩
theorem atI_nat {α : Type} {xs : List α} {j : Nat} {v : α} (h : xs[j]? = some v) : atI xs (j : Int) = some v := by
  have hj : j < xs.length := (List.getElem?_eq_some_iff.mp h).1
  have e : ixN xs.length (j : Int) = some j := by
    unfold ixN
    rw [if_pos (by omega), if_pos (by omega)]; simp
  unfold atI; rw [e]; exact h
/-! ### what may be subscripted -/
/-- what stands as an index of a plain subscript -/
def PlainIx (b : Expr) : Prop := ∀ o i, subscripted b false o i = operate [o, i] (getItem o i)
/-- a subscript by values -/
def IxR (X : Cx) (r : R2) : Prop :=
  ∀ (value slice : Expr) (pins : List (Addr × Obj)) (s : Shared) (σ : St) (H : Hp) (x y : V) (v u : Value) (Q : VK), Inv X pins σ H s → RelV x v → RelV y u → r x y H Q →
    subscripted slice false v u = operate [v, u] (getItem v u) → wpAny (model X.prog X.w) X.A (subscriptTail value slice v u) (EP X pins σ Q) X.xe s
/-- a call of a builtin's method by values: the receiver, the arguments -/
def MtR (X : Cx) (id : String) (r : V → List V → Hp → VK → Prop) : Prop :=
  ∀ (pins : List (Addr × Obj)) (s : Shared) (σ : St) (H : Hp) (x : V) (xs : List V) (v : Value) (us : List Value) (Q : VK), Inv X pins σ H s → RelV x v → Vals xs us → r x xs H Q →
    wpAny (model X.prog X.w) X.A (call (.builtin id) (v :: us)) (EP X pins σ Q) X.xe s
section
variable {X : Cx} {a b : Expr} {ta tb : TE} {pos : Pos}
/-- a[b] -/
theorem pe_ix {r : R2} (hr : IxR X r) (ha : PE X a ta) (hb : PE X b tb) (hs : PlainIx b) : PE X (.Subscript a b pos) (tOp r ta tb) := by
  intro pins s σ H Q I h
  exact Subscript_ (binT ha hb I h fun v u s2 x y H2 I2 rx ry q => hr a b pins s2 σ H2 x y v u Q I2 rx ry q (hs _ _))

def rIxL (K : PySem.W.Frag) : R2 := fun x y H Q => ∃ p xs i v, x = .ref p ∧ y = .int i ∧ SqL K H p xs ∧ atI xs i = some v ∧ Q v H
theorem ix_list : IxR X (rIxL X.K) := by
  intro value slice pins s σ H x y v u Q I rx ry h hs
  obtain ⟨p, xs, i, z, rfl, rfl, hq, he, q⟩ := h
  cases rx
  obtain ⟨t, rfl⟩ := ry
  obtain ⟨its, r, pl, hz⟩ := I.list hq
  obtain ⟨j, h1, h2, h3, h4, h5⟩ := atI_get he
  obtain ⟨w, ew, rw'⟩ := r.get h2
  have hl := r.length
  have hn := line63
  have fin : EP X pins σ Q w s := ⟨z, H, I, rw', q⟩
  by_cases h0 : 0 ≤ i
  · have hj : i.toNat = j := by
      rw [seqIndex_of h0 h5] at h1
      exact Option.some.inj h1
    exact item_listR pl.isList h0 (by omega) (by rw [hj]; simpa using ew) fin hs
  · have hj : (i + (its.toArray.size : Int)).toNat = j := by
      rw [seqIndex_neg (by omega) h4] at h1
      rw [List.size_toArray, ← hl]
      exact Option.some.inj h1
    exact subscriptTail_builtinR (x := w) pl.isList.typeIs slot_list_getitem.lookup
      (wpAny_getItem_list_neg (Q := fun r s' => r = w ∧ EP X pins σ Q r s') pl.isList (by omega) (by rw [List.size_toArray] <;> omega) (by omega) (by rw [hj]; simpa using ew) ⟨rfl, fin⟩) hs
/-! ### xs[i] = v, any sign -/
/-! ### slices -/
theorem slice_bounds (lo hi : Option Int) (n : Nat) : (sliceBounds lo hi none n).1 = ((HT.sIx n 0 lo : Nat) : Int) ∧ (sliceBounds lo hi none n).2.1 = ((HT.sIx n n hi : Nat) : Int) ∧ (sliceBounds lo hi none n).2.2 = 1 := by
  refine ⟨?_, ?_, rfl⟩
  · cases lo with
    | none => simp [sliceBounds, HT.sIx]
    | some i =>
      simp only [sliceBounds, HT.sIx, Option.getD_none, show (1 : Int) > 0 by decide, if_true]
      by_cases h : i < 0
      · simp only [h, if_true] <;> omega
      · simp only [h, if_false] <;> omega
  · cases hi with
    | none => simp [sliceBounds, HT.sIx]
    | some i =>
      simp only [sliceBounds, HT.sIx, Option.getD_none, show (1 : Int) > 0 by decide, if_true]
      by_cases h : i < 0
      · simp only [h, if_true] <;> omega
      · simp only [h, if_false] <;> omega
theorem slicePick_cut (its : List Value) (lo hi : Option Int) : slicePick its.toArray lo hi none = ((its.drop (HT.sIx its.length 0 lo)).take (HT.sIx its.length its.length hi - HT.sIx its.length 0 lo)).toArray := by
  obtain ⟨h1, h2, h3⟩ := slice_bounds lo hi its.toArray.size
  unfold slicePick
  rw [h1, h2, h3]
  simp only [sliceRange_one, pick_run, List.size_toArray] <;> rfl
/-- xs[lo:hi] of a list: a new list -/
def rSlL (K : PySem.W.Frag) : V → Option Int → Option Int → Hp → VK → Prop := fun x lo hi H Q => ∃ a xs, x = .ref a ∧ SqL K H a xs ∧ ∀ p, H p = none → Q (.ref p) (upd H p (.lst (cutV xs lo hi)))
theorem sl_list : SlR X (rSlL X.K) := by
  intro pins s σ H x v vl vu lo hi sl Q I rx hs pl pu h
  obtain ⟨a, xs, rfl, hx, q⟩ := h
  cases rx
  obtain ⟨its, r, ht, hz⟩ := I.list hx
  have hlen := r.length
  refine ⟨"list", _, slot_list_getitem.lookup, ht.isList.typeIs, ?_⟩
  refine wpAny_getItem_list_slice ht.isList hs pl pu .none (by simp) ?_ (by rw [List.size_toArray] <;> omega)
  rw [slicePick_cut, ← hlen]
  refine ⟨.ref s.heap.objs.size, _, I.laid (t' := s.toks) (o := .lst (cutV xs lo hi)) (fun b ob q => Heap.get?_push_of_some _ q) (Nat.le_refl _) ?_, rfl, q _ (I.hok.fresh (Nat.le_refl _))⟩
  exact ⟨Nat.le_trans (cutV_length xs lo hi) hz, _, 0, (r.drop (HT.sIx xs.length 0 lo)).take (HT.sIx xs.length xs.length hi - HT.sIx xs.length 0 lo), Heap.get?_push_size _ rfl⟩

/-! ### in, not in: flat items -/
def flatV : V → Bool
  | .non => true
  | .bl _ => true
  | .int _ => true
  | .str _ => true
  | _ => false
/-- == of flat values -/
def eqV : V → V → Bool
  | .non, .non => true
  | .bl a, .bl b => a == b
  | .bl a, .int b => (if a then 1 else 0) == b
  | .int a, .bl b => a == (if b then 1 else 0)
  | .int a, .int b => a == b
  | .str a, .str b => a == b
  | _, _ => false
theorem eqAt_V {A : Around} {s : Shared} {y x : V} {u v : Value} (ry : RelV y u) (rx : RelV x v) (fy : flatV y = true) (fx : flatV x = true) : SeqAt.EqAt A s u v (eqV y x) := by
  cases y with
  | non =>
    cases ry
    cases x with
    | non => cases rx; exact SeqAt.EqAt.same _
    | bl b => cases rx; exact SeqAt.EqAt.none_bool b
    | int b => obtain ⟨t, rfl⟩ := rx; exact SeqAt.EqAt.none_int b t
    | str b => obtain ⟨t, rfl⟩ := rx; exact SeqAt.EqAt.none_str b t
    | _ => exact absurd (show false = true from fx) Bool.false_ne_true
  | bl a =>
    cases ry
    cases x with
    | non => cases rx; exact SeqAt.EqAt.bool_none a
    | bl b => cases rx; exact SeqAt.EqAt.bool_bool a b
    | int b => obtain ⟨t, rfl⟩ := rx; exact SeqAt.EqAt.bool_int a b t
    | str b => obtain ⟨t, rfl⟩ := rx; exact SeqAt.EqAt.bool_str a b t
    | _ => exact absurd (show false = true from fx) Bool.false_ne_true
  | int a =>
    obtain ⟨t', rfl⟩ := ry
    cases x with
    | non => cases rx; exact SeqAt.EqAt.int_none a t'
    | bl b => cases rx; exact SeqAt.EqAt.int_bool a t' b
    | int b => obtain ⟨t, rfl⟩ := rx; exact SeqAt.EqAt.int_int a t' b t
    | str b => obtain ⟨t, rfl⟩ := rx; exact SeqAt.EqAt.int_str a t' b t
    | _ => exact absurd (show false = true from fx) Bool.false_ne_true
  | str a =>
    obtain ⟨t', rfl⟩ := ry
    cases x with
    | non => cases rx; exact SeqAt.EqAt.str_none a t'
    | bl b => cases rx; exact SeqAt.EqAt.str_bool a t' b
    | int b => obtain ⟨t, rfl⟩ := rx; exact SeqAt.EqAt.str_int a t' b t
    | str b => obtain ⟨t, rfl⟩ := rx; exact SeqAt.EqAt.str_str a t' b t
    | _ => exact absurd (show false = true from fx) Bool.false_ne_true
  | _ => exact absurd (show false = true from fy) Bool.false_ne_true
theorem op_notIn_str : OpR X (compareOp .NotIn) (fun x y H Q => ∃ i j, x = .str i ∧ y = .str j ∧ Q (.bl (!(!(Builtin.Str.occurrences j i 0 j.length 1).isEmpty))) H) := by
  intro pins s σ H x y v u Q I rx ry h
  obtain ⟨i, j, rfl, rfl, q⟩ := h
  obtain ⟨t, rfl⟩ := rx
  obtain ⟨t', rfl⟩ := ry
  exact notIn_str ⟨.bl _, H, I, rfl, q⟩

/-! ### len, list(x), tuple(x) of any list or tuple that is read -/
theorem call_len_seq : CallR X (.builtin "len") (fun xs H Q => ∃ p ys, xs = [.ref p] ∧ (SqL X.K H p ys ∨ SqT X.K H p ys) ∧ Q (.int ys.length) H) := by
  intro pins s σ H xs us Q I r h
  obtain ⟨p, ys, rfl, hq, q⟩ := h
  obtain ⟨u, rfl, rx⟩ := vals1 r
  cases rx
  have hn := line63
  rcases hq with hq | hq
  · obtain ⟨its, r', pl, hz⟩ := I.list hq
    have hlen := r'.length
    exact Calls.call_len_list pl.isList (by simp only [List.size_toArray] <;> omega) ⟨.int ys.length, H, I.tok _, ⟨s.toks + 1, by rw [List.size_toArray, hlen]⟩, q⟩
  · obtain ⟨its, r', pl, hz⟩ := I.tuple hq
    have hlen := r'.length
    exact len_tuple pl (by simp only [List.size_toArray] <;> omega) ⟨.int ys.length, H, I.tok _, ⟨s.toks + 1, by rw [List.size_toArray, hlen]⟩, q⟩
theorem call_len_str : CallR X (.builtin "len") (fun xs H Q => ∃ z, xs = [.str z] ∧ z.length ≤ sizeLine ∧ Q (.int z.length) H) := by
  intro pins s σ H xs us Q I r h
  obtain ⟨z, rfl, hz, q⟩ := h
  obtain ⟨u, rfl, t, rfl⟩ := vals1 r
  have hn := line63
  exact len_str (by omega) ⟨.int z.length, H, I.tok _, ⟨_, rfl⟩, q⟩
theorem call_list_of : CallR X (.type "list") (fun xs H Q => ∃ p ys, xs = [.ref p] ∧ (SqL X.K H p ys ∨ SqT X.K H p ys) ∧ ∀ l, H l = none → Q (.ref l) (upd H l (.lst ys))) := by
  intro pins s σ H xs us Q I r h
  obtain ⟨p, ys, rfl, hq, q⟩ := h
  obtain ⟨u, rfl, rx⟩ := vals1 r
  cases rx
  have fin : ∀ (its : List Value), Vals ys its → ys.length ≤ sizeLine → ∀ (h' : Heap) (c' : Nat), (∀ b o', s.heap.get? b = some o' → h'.get? b = some o') →
      h'.get? s.heap.objs.size = some { cls := .type "list", dict := none, data := .seq its.toArray c', slots := #[] } → EP X pins σ Q (.ref s.heap.objs.size) { s with heap := h' } := fun its r' hz h' c' kp e =>
    ⟨.ref s.heap.objs.size, _, I.laid (t' := s.toks) kp (Nat.le_refl _) (show ObjOk X.prog X.w _ h' _ (.lst ys) from ⟨hz, its, c', r', e⟩), rfl, q _ (I.hok.fresh (Nat.le_refl _))⟩
  rcases hq with hq | hq
  · obtain ⟨its, r', pl, hz⟩ := I.list hq
    have hlen := r'.length
    obtain ⟨o, ho, hc, n, hd⟩ := pl.isList
    exact call_list_seq p (.inl rfl) ho hc hd (fun h' c' kp e => fin its r' hz h' c' kp e) (by simp only [List.size_toArray] <;> omega)
  · obtain ⟨its, r', pl, hz⟩ := I.tuple hq
    have hlen := r'.length
    obtain ⟨o, ho, hc, n, hd⟩ := pl
    exact call_list_seq p (.inr rfl) ho hc hd (fun h' c' kp e => fin its r' hz h' c' kp e) (by simp only [List.size_toArray] <;> omega)
/-! ### the call of a builtin's method: o.m(..) -/
/-- the value is of that builtin type -/
def tyV (K : PySem.W.Frag) (T : String) (x : V) (H : Hp) : Prop := match x with
  | .str _ => T = "str"
  | .int _ => T = "int"
  | .ref p => (T = "list" ∧ ∃ xs, SqL K H p xs) ∨ (T = "tuple" ∧ ∃ o, K.lookup p = some o ∧ o.cls = .type "tuple" ∧ o.dict = none) ∨
      (T = "dict" ∧ ((∃ kvs, H p = some (.dK kvs)) ∨ ∃ kvs, H p = some (.dT kvs))) ∨ (T = "set" ∧ ∃ S n, H p = some (.set S n))
  | _ => False
theorem tyV_is {pins : List (Addr × Obj)} {σ : St} {H : Hp} {s : Shared} {T : String} {x : V} {v : Value} (I : Inv X pins σ H s) (r : RelV x v) (ty : tyV X.K T x H) :
    s.TypeIs v T ∧ ∀ a, v = .ref a → ∃ ob, s.heap.get? a = some ob ∧ ob.dict = none := by
  cases x with
  | str z =>
    obtain ⟨t, rfl⟩ := r
    cases (show T = "str" from ty)
    exact ⟨typeIs_str s z t, fun _ e => nomatch e⟩
  | int i =>
    obtain ⟨t, rfl⟩ := r
    cases (show T = "int" from ty)
    exact ⟨typeIs_int s i t, fun _ e => nomatch e⟩
  | ref p =>
    cases r
    rcases ty with ⟨rfl, xs, hq⟩ | ⟨rfl, o, hk, hc, hd⟩ | ⟨rfl, hk⟩ | ⟨rfl, S, n, hk⟩
    · obtain ⟨its, _, pl, _⟩ := I.list hq
      refine ⟨pl.isList.typeIs, fun a e => ?_⟩
      cases e
      obtain ⟨o, n, e, c, hd, _⟩ := pl
      exact ⟨o, e, hd⟩
    · refine ⟨⟨o, I.kIn p o hk, hc⟩, fun a e => ?_⟩
      cases e
      exact ⟨o, I.kIn _ o hk, hd⟩
    · have z : ∃ o, s.heap.get? p = some o ∧ o.ExactDict := by
        rcases hk with ⟨kvs, hk⟩ | ⟨kvs, hk⟩
        · obtain ⟨_, _, _, _, o, _, _, e, ex, _⟩ := I.hok p _ hk
          exact ⟨o, e, ex⟩
        · obtain ⟨_, _, _, _, o, _, _, e, ex, _⟩ := I.hok p _ hk
          exact ⟨o, e, ex⟩
      obtain ⟨o, e, ex⟩ := z
      refine ⟨⟨o, e, ex.1⟩, fun a e2 => ?_⟩
      cases e2
      exact ⟨o, e, ex.2.1⟩
    · obtain ⟨o, _, _, _, e, ex, _⟩ := I.hok p _ hk
      refine ⟨⟨o, e, ex.1⟩, fun a e2 => ?_⟩
      cases e2
      exact ⟨o, e, ex.2.1⟩
  | _ => exact False.elim ty
def tBM (K : PySem.W.Frag) (T : String) (r : V → List V → Hp → VK → Prop) (to : TE) (t : TA) : TE := fun σ H Q => to σ H fun x H1 => tyV K T x H1 ∧ t σ H1 fun xs H2 => r x xs H2 Q
variable {o e : Expr} {es : List Expr} {to : TE} {t : TA} {name : Str} {apos cpos : Pos} {T id : String} {r : V → List V → Hp → VK → Prop}
theorem pe_bm (pa : PlainAttrs T) (slot : Slot T name id) (hty : typeOf (.builtin id) = pure (.type "method_descriptor")) (hm : MtR X id r) (ho : PE X o to) (ha : PA X (e :: es) t)
    (hbase : attributeBase o name X.env (eval o X.env) = eval o X.env := by rfl)
    (hfew : ((backTo cpos (starEach (e :: es) X.env)).all (fun x => !x.1) && (backToKw cpos (keywordEach [] X.env)).all (fun x => x.1.isSome)
      && decide ((e :: es).length + ([] : List Keyword).length + (if ([] : List Keyword).isEmpty then 0 else 1) < 30)) = true := by rfl)
    (hline : (apos.endLine == cpos.line) = true := by rfl) (hs : starEach (e :: es) X.env = (false, eval e X.env) :: starEach es X.env := by rfl) (hplain : (backTo cpos (starEach es X.env)).any (·.1) = false := by rfl) :
    PE X (.Call (.Attribute o name apos) (e :: es) [] cpos) (tBM X.K T r to t) := by
  intro pins s σ H Q I h
  refine wpAny_Call_method_late hbase hfew hline rfl (thn (ho pins s σ H _ I h) fun v s1 ⟨x, H1, I1, r1, ty, q1⟩ => ?_)
  obtain ⟨h1, h2⟩ := tyV_is I1 r1 ty
  refine ⟨T, id, pa, slot, hty, h1, h2, ?_⟩
  have hA := ha cpos pins s1 σ H1 _ I1 q1
  rw [hs] at hA ⊢
  refine Calls.callWith_builtin (by show (false || (backTo cpos (starEach es X.env)).any (·.1)) = false; rw [hplain] <;> rfl) (Calls.evalArgs_plain ?_)
  exact thn hA fun us s2 ⟨vs, H2, I2, r2, q2⟩ => hm pins s2 σ H2 x vs v us Q I2 r1 r2 q2
/- xs.append(e), list.index on a module's tuple .. are MtR facts of 06m -/
end
end L2

namespace L2
open PySem PySem.Spec PyProof.Rows

def MtM (X : Cx) (id : String) (r : V → List V → Hp → VK → Prop) : Prop :=
  ∀ (pins : List (Addr × Obj)) (s : Shared) (σ : St) (H : Hp) (x : V) (xs : List V) (v : Value) (us : List Value) (Q : VK), Inv X pins σ H s → RelV x v → Vals xs us → r x xs H Q →
    wpAny (model X.prog X.w) X.A (call (.builtin id) (v :: us)) (EP X pins σ Q) X.xe s

/-! ### lists of values -/
theorem Vals.one : ∀ {x : V} {us : List Value}, Vals [x] us → ∃ u, us = [u] ∧ RelV x u
  | _, _, .cons r .nil => ⟨_, rfl, r⟩
theorem Vals.eraseIdx : ∀ {xs : List V} {us : List Value} (i : Nat), Vals xs us → Vals (xs.eraseIdx i) (us.eraseIdx i)
  | _, _, _, .nil => .nil
  | _, _, 0, .cons _ t => t
  | _, _, i + 1, .cons r t => .cons r (Vals.eraseIdx i t)
theorem len_erase {α : Type} : ∀ (l : List α) (i : Nat), (l.eraseIdx i).length ≤ l.length
  | [], _ => Nat.le_refl _
  | _ :: _, 0 => Nat.le_succ _
  | _ :: r, i + 1 => Nat.succ_le_succ (len_erase r i)
section
variable {X : Cx} {pins : List (Addr × Obj)} {σ : St} {H : Hp} {s : Shared} {l b : Addr} {xs ys zs : List V}

/-! ### the two steps: a tracked list is rewritten, a new list is laid -/
theorem Inv.lset {its its' : List Value} {n : Nat} {f : Array Value → Array Value} {t' : Nat} (I : Inv X pins σ H s) (hH : H l = some (.lst xs))
    (e : s.heap.get? l = some { cls := .type "list", data := .seq its.toArray n }) (hf : f its.toArray = its'.toArray) (hv : Vals ys its') (hz : ys.length ≤ sizeLine) :
    Inv X pins σ (upd H l (.lst ys)) { s with heap := s.heap.update l (Obj.mapSeq f), toks := t' } := by
  have q := PySem.IsL.update e f
  rw [hf] at q
  refine I.write (x := l) (e := l) (by rw [hH]; exact trivial) (.inl rfl) (fun b' u hb hu => (Heap.get?_update_other s.heap (Obj.mapSeq f) (Ne.symm hb)).trans hu) ⟨_, q⟩ ?_
  exact ⟨hz, its', _, hv, q⟩
theorem Inv.lnew {its : List Value} {t' : Nat} (I : Inv X pins σ H s) (hv : Vals ys its) (hz : ys.length ≤ sizeLine) :
    Inv X pins σ (upd H s.heap.objs.size (.lst ys)) { s with heap := s.heap.push { cls := .type "list", data := .seq its.toArray }, toks := t' } :=
  I.laid (fun _ _ q => Heap.get?_push_of_some _ q) (Nat.le_refl _) ⟨hz, its, 0, hv, Heap.get?_push_size _ rfl⟩
theorem Inv.fresh (I : Inv X pins σ H s) : H s.heap.objs.size = none := I.hok.fresh (Nat.le_refl _)
theorem Inv.lstM (I : Inv X pins σ H s) (hH : H l = some (.lst xs)) : xs.length ≤ sizeLine ∧ ∃ (its : List Value) (n : Nat), Vals xs its ∧ xs.length = its.length ∧ s.heap.get? l = some { cls := .type "list", data := .seq its.toArray n } := by
  obtain ⟨z, its, n, r, e⟩ := I.hok l _ hH
  exact ⟨z, its, n, r, r.length, e⟩

end

section
variable {X : Cx}

/-! ### methods -/
def rAppend : V → List V → Hp → VK → Prop := fun x vs H Q => ∃ l xs y, x = .ref l ∧ vs = [y] ∧ H l = some (.lst xs) ∧ xs.length < sizeLine ∧ Q .non (upd H l (.lst (xs ++ [y])))
theorem mt_append : MtM X "list.append" rAppend := by
  intro pins s σ H x vs v us Q I rx rv h
  obtain ⟨l, xs, y, rfl, rfl, hH, hz, q⟩ := h
  cases rx
  obtain ⟨u, rfl, ru⟩ := rv.one
  obtain ⟨z, its, n, r, hl, e⟩ := I.lstM hH
  refine call_meets F.slot_list_append ⟨_, e, rfl⟩ F.entry_list_append (F.args_list_append_2 _ _) (PySem.list_append l its.toArray n u (by rw [List.size_toArray]; omega)) ⟨e, ?_⟩
  refine ⟨.non, _, I.lset (its' := its ++ [u]) hH e (by simp) (r.append (.cons ru .nil)) ?_, rfl, q⟩
  rw [List.length_append, List.length_singleton]
  omega

def rPopAt : V → List V → Hp → VK → Prop := fun x vs H Q => ∃ l xs i k y, x = .ref l ∧ vs = [.int i] ∧ H l = some (.lst xs) ∧ -(2 ^ 63) ≤ i ∧ i < 2 ^ 63 ∧ seqIndex? i xs.length = some k ∧ xs[k]? = some y ∧ Q y (upd H l (.lst (xs.eraseIdx k)))
theorem mt_popAt : MtM X "list.pop" rPopAt := by
  intro pins s σ H x vs v us Q I rx rv h
  obtain ⟨l, xs, i, k, y, rfl, rfl, hH, h1, h2, hk, hy, q⟩ := h
  cases rx
  obtain ⟨u, rfl, ru⟩ := rv.one
  obtain ⟨t, rfl⟩ := ru
  obtain ⟨z, its, n, r, hl, e⟩ := I.lstM hH
  obtain ⟨w, hw, rw'⟩ := r.get hy
  refine call_meets F.slot_list_pop ⟨_, e, rfl⟩ F.entry_list_pop (F.args_list_pop_2 _ _)
    (MeetsSeq.list_pop_at l its.toArray n i t k w (fitsIndex_both h1 h2) (by rw [List.size_toArray, ← hl]; exact hk) (by rw [← Array.getElem?_toList]; exact hw) (by rw [List.size_toArray]; omega)) ⟨e, ?_⟩
  refine ⟨y, _, I.lset (its' := its.eraseIdx k) hH e ?_ (r.eraseIdx k) ?_, rw', q⟩
  · show its.toArray.eraseIdxIfInBounds k = (its.eraseIdx k).toArray
    rw [List.eraseIdxIfInBounds_toArray]
  · have := len_erase xs k
    omega

/-! ### list + list, list += list, list * int -/
def rCat : R2 := fun x y H Q => ∃ l b xs zs, x = .ref l ∧ y = .ref b ∧ H l = some (.lst xs) ∧ H b = some (.lst zs) ∧ xs.length + zs.length ≤ sizeLine ∧ ∀ p, H p = none → Q (.ref p) (upd H p (.lst (xs ++ zs)))
theorem op_cat : OpR X (binaryOp .Add) rCat := by
  intro pins s σ H x y v u Q I rx ry h
  obtain ⟨l, b, xs, zs, rfl, rfl, hH, hB, hz, q⟩ := h
  cases rx
  cases ry
  obtain ⟨z, its, n, r, hl, e⟩ := I.lstM hH
  obtain ⟨z2, its2, n2, r2, hl2, e2⟩ := I.lstM hB
  refine PySem.P.add_list e e2 ?_ (by rw [List.size_toArray, List.size_toArray]; omega)
  have ea : its.toArray ++ its2.toArray = (its ++ its2).toArray := by simp
  rw [ea]
  exact ⟨.ref _, _, I.lnew (t' := s.toks) (r.append r2) (by rw [List.length_append]; omega), rfl, q _ I.fresh⟩
/-! ### del xs[i] -/
end

/-! ### xs[a:b] = ys -/
section
variable {prog : Program} {w : World} {A : Around} {E : Value → Shared → Prop} {s : Shared}
end

section
variable {X : Cx}
end
end L2

namespace Att
open PySem PySem.W PySem.Calls PyProof.Rows

/-! ### the script -/
theorem ints_of_wellAll {P : Params} {h : Heap} : ∀ (ns : List Int) (vs : List Value), WellAll P h vs (ns.map WData.int) → IntsAre vs ns := by
  intro ns
  induction ns with
  | nil =>
    intro vs w
    rw [List.map_nil] at w
    cases w
    exact .nil
  | cons n ns ih =>
    intro vs w
    rw [List.map_cons] at w
    cases w with
    | cons a b =>
      cases a
      exact .cons _ _ (ih _ b)

theorem script_of {l : OpenLaw} {n : Nat} (hn : l.most = some n) {P : Params} {h : Heap} {args : List WData} {vals : List Value}
    (hpre : l.row.toRowW.claim.pre args = true) (hwl : WellAll P h vals args) :
    ∃ a vs ns, vals = [Value.ref a] ∧ args = [WData.list (ns.map WData.int)] ∧ h.get? a = some { cls := .type "list", data := .seq vs.toArray } ∧ IntsAre vs ns ∧ ns.length ≤ n := by
  have hsh : WShape.hasAll [] args [.list .int] = true := (pre_splitW hpre).1
  have hc : l.pre.holds [] { args := args } = true := (pre_splitW hpre).2
  obtain ⟨d, r, rfl, h1, h2⟩ := hasAllW_cons hsh
  obtain rfl := hasAllW_nil h2
  obtain ⟨xs, rfl, h3⟩ := hasW_list h1
  obtain ⟨ns, rfl⟩ := items_int h3
  have hlen : ns.length ≤ n := by
    unfold OpenLaw.pre at hc
    have h4 : (WTm.not (.lt (.lit (.int (n : Int))) (.len (.arg 0)))).holds [] { args := [.list (ns.map .int)] } = true := by
      have h4 := (holds_andW hc).1
      rw [hn] at h4
      exact h4
    have h5 := condW_of h4 (w_not (w_lt w_lit (w_len_list (w_arg rfl))))
    rw [List.length_map] at h5
    refine Nat.le_of_not_lt fun q => ?_
    have q' : (n : Int) < ((ns.length : Nat) : Int) := by omega
    first
      | (rw [decide_eq_true q'] at h5; exact absurd h5 (by decide))
      | (simp at h5; omega)
  cases hwl with
  | cons w1 w2 =>
    cases w2
    cases w1 with
    | list ho hall => exact ⟨_, _, ns, rfl, rfl, ho, ints_of_wellAll ns _ hall, hlen⟩

theorem post_true (l : OpenLaw) (args : List WData) : l.row.toRowW.claim.post args (.bool true) args = true :=
  postW_of (r := l.row.toRowW) (X := (true == true))
    (show WShape.has [] (.bool true) .bool = true by first | rfl | decide | simp [WShape.has, WShape.arms, WShape.armsAll])
    (show (WTm.eq .res (.lit (.bool true))).value [] { args := args, res := some (.bool true), after := args } = some (.bool (true == true)) from w_eq_bool (w_res rfl) w_lit) rfl

/-! ### the attachment: holds_open's last premise (the goal 'hc' behind k_head) from a wpAny of the law's body -/
/-- the same from a codeAny of the CALL (for a layer whose function contracts speak of calls) -/
theorem attach_call {l : OpenLaw} {n : Nat} {q : Program} {loose : List Str} {XP : (Str → Option Value) → Heap → Prop} {YP : World → Heap → Prop} {d : DefRec}
    (hn : l.most = some n) (hdf : d.params.defaults = [])
    (call : ∀ (w : World) (s₀ s₁ : Shared) (mg mb : Str → Option Value) (fa : Addr) (o : Obj) (pm cd doc : Value) (a : Addr) (vs : List Value) (ns : List Int),
      Ground q loose [] XP w s₀ mg mb s₁.heap → YP w s₁.heap →
      s₁.heap.get? fa = some o → o.data = .func (docDef d.name d.params d.body d.scope pm cd doc) → s₁.heap.CodeRec cd d.name → mg d.name = some (.ref fa) →
      s₁.heap.get? a = some { cls := .type "list", data := .seq vs.toArray } → IntsAre vs ns → ns.length ≤ n → s₁.gens = #[] →
      codeAny (model l.prog w) callerA (.call (.ref fa) ⟨[.ref a], []⟩) (fun r s' => r = .ok (.ret (.bool true)) ∧ OldK s₁.heap s'.heap ∧ s'.os = s₁.os ∧ AllBare s'.gens) s₁) :
    WalkO q loose XP YP l.row.toRowW d [] (fun f vs => PySem.call f vs) := by
  intro w s₀ s₁ mg mb G Y fa o pm cd doc dV kV ho hd hcd hD hmg hg args vals as hpre hlay hrd hwl hlo
  obtain rfl : dV = .none := Dflts.none hD hdf
  obtain rfl : kV = .none := Dflts.noKw hD
  obtain ⟨a, vs, ns, rfl, rfl, hobj, hints, hlen⟩ := script_of hn hpre hwl
  refine enter_call (codeAny_mono (call w s₀ s₁ mg mb fa o pm cd doc a vs ns G Y ho (fd_plain hd) hcd hmg hobj hints hlen hg) fun r s' hq => ?_)
  obtain ⟨rfl, h2, h3, h4⟩ := hq
  exact ⟨.inl ⟨.bool true, .bool true, [], rfl, fun _ => rfl, .bool true, post_true l _, fun _ => ⟨List.Pairwise.nil, fun _ hm => (nomatch hm)⟩⟩, h2, h3, h4⟩

/-! ### rules over ANY heap (no ledger) from facts about the written part K: the library's own take a ledger (News) for what they write -/
section
variable {prog : Program} {w : World} {A : Around} {E : Value → Shared → Prop} {s : Shared} {K : Frag}

/-! the whole heap as the ledger: makes every rule that writes through a ledger a rule over any heap -/
def ledger (h : Heap) (L d : Addr) : List (Addr × Obj) := (List.range h.objs.size).filterMap fun a => if a = L ∨ a = d then none else (h.get? a).map fun o => (a, o)
end
end Att

namespace L2
open PySem PySem.Spec PyProof.Rows

theorem vals_ints : ∀ {vs : List Value} {ns : List Int}, IntsAre vs ns → Vals (ns.map V.int) vs
  | _, _, .nil => .nil
  | _, _, .cons n t h => .cons ⟨t, rfl⟩ (vals_ints h)

/-- nothing is tracked but the script, known to the object (or it is an object of the module) -/
def Only (H : Hp) : Prop := ∀ b, H b = none ∨ ∃ o xs, H b = some (.frz o (.lst xs))

/-- THE HEAD: the law's promise, at the heap behind the top. F, the promise of the law's def, may use that base is part of the heap (so K.In base, base.Ns mainGlobals mg stand in Mod) -/
theorem law_call {P : Program} {w : World} {K : PySem.W.Frag} {mg mb : Str → Option Value} {CX : CXT} {k : Nat} {fa a : Addr} {fd : FuncData} {x : Str} {sp : Sp} {s₁ : Shared} {vs : List Value} {ns : List Int}
    (KX : K.In s₁.heap) (hns : s₁.heap.Ns mainGlobals mg) (hb : s₁.heap.Ns builtinsNs mb) (hbb : ∀ x : Str, x ≠ "__name__" → mb x = bootBuiltins x) (hlim : s₁.heap.NoLimit) (hg : s₁.gens = #[])
    (ha : s₁.heap.get? a = some { cls := .type "list", data := .seq vs.toArray }) (hi : IntsAre vs ns) (hl : ns.length ≤ sizeLine) (hr : Room k callerA)
    (F : ∀ base : Heap, K.In base → base.Ns mainGlobals mg → FnOk P w K mg base CX k fa fd [x] sp) (hbind : ∀ (s : Shared) (u : Value), BindsTo s fd ⟨[u], []⟩ [(x, u)])
    (hsp : ∀ H : Hp, Only H → SqL K H a (ns.map V.int) → sp [.ref a] H (fun v _ => v = .bl true) fun _ _ _ => False)
    (hCX : ∀ H e s', CX [] H s₁ (fun _ _ _ => False) e s' → False) :
    codeAny (model P w) callerA (.call (.ref fa) ⟨[.ref a], []⟩) (fun r s' => r = .ok (.ret (.bool true)) ∧ OldK s₁.heap s'.heap ∧ s'.os = s₁.os ∧ AllBare s'.gens) s₁ := by
  have rv := vals_ints hi
  have lenV := hi.length
  -- from an abstract heap in which nothing but the script may be tracked
  have core : ∀ H : Hp, Only H → SqL K H a (ns.map V.int) → HOk P w H s₁.heap → (∀ b, H b ≠ none → b = a) → (H a ≠ none → K.lookup a = none) →
      codeAny (model P w) callerA (.call (.ref fa) ⟨[.ref a], []⟩) (fun r s' => r = .ok (.ret (.bool true)) ∧ OldK s₁.heap s'.heap ∧ s'.os = s₁.os ∧ AllBare s'.gens) s₁ := by
    intro H hO hS hok hA hK
    have base_of : ∀ {b : Addr} {o : Obj}, s₁.heap.get? b = some o → H b = none → (hidT s₁.heap H).get? b = some o := fun e n => hidT_get e n
    have noA : ∀ {b : Addr} {o : Obj} {es : Array DictEntry} {ep : Nat}, s₁.heap.get? b = some o → o.data = .dict es ep → H b = none := fun {b o es ep} e d => by
      cases q : H b with
      | none => rfl
      | some u =>
        have e' : b = a := hA b (by rw [q]; simp)
        subst e'
        rw [ha] at e; cases e
        have d' : Data.seq vs.toArray _ = Data.dict es ep := d
        cases d'
    have nsK : ∀ {b : Addr} {m : Str → Option Value}, s₁.heap.Ns b m → (hidT s₁.heap H).Ns b m := fun {b m} ⟨o, es, ep, e, d, r⟩ => ⟨o, es, ep, base_of e (noA e d), d, r⟩
    have hKb : K.In (hidT s₁.heap H) := fun b o e => base_of (KX b o e) (by
      cases q : H b with
      | none => rfl
      | some u =>
        have e' : b = a := hA b (by rw [q]; simp)
        subst e'
        rw [hK (by rw [q]; simp)] at e; cases e)
    have hM : Mod K mg (hidT s₁.heap H) := ⟨hKb, nsK hns, ⟨mb, nsK hb, hbb⟩, let ⟨mc, h1, h2⟩ := hlim; ⟨mc, nsK h1, h2⟩⟩
    have e0 : Env0 P w K mg (hidT s₁.heap H) callerA [] s₁ H := ⟨rfl, hM, fun b o e => of_hidT e, Nat.le_of_eq (hidT_size _ _), trivial, fun b hb => absurd (show b ∈ ([] : List Addr) from hb) (by simp), hok, .of_eq hg⟩
    refine codeAny_mono ((F _ hKb (nsK hns)).run callerA [] s₁ H ⟨[.ref a], []⟩ [.ref a] [.ref a] _ _ hr e0 (hbind s₁ (.ref a)) (.cons rfl .nil) (hsp H hO hS)) fun r s' h => ?_
    cases r with
    | error e => exact (hCX H e s' h).elim
    | ok fl =>
      cases fl with
      | next => exact False.elim h
      | brk => exact False.elim h
      | cont => exact False.elim h
      | ret u =>
        obtain ⟨v, H', os, bare, un, hok', r', q⟩ := h
        have q' : v = .bl true := q
        subst q'
        obtain rfl : u = Value.bool true := r'
        refine ⟨rfl, OldK.of_keep fun b o e => ?_, os, bare⟩
        cases q : H b with
        | none => exact un.keep b o e q (by intro z; exact absurd (show b ∈ ([] : List Addr) from z) (by simp)) (by simp)
        | some u =>
          rcases hO b with z | ⟨ob, xs, z⟩
          · rw [q] at z; cases z
          · have z2 := un.frzs b ob _ z
            obtain ⟨e1, _⟩ := hok b _ z
            obtain ⟨e2, _⟩ := hok' b _ z2
            rw [e] at e1; cases e1
            exact e2
  cases hk : K.lookup a with
  | some o =>
    -- the script is one of the module's own objects
    have e := KX a o hk
    rw [ha] at e
    cases e
    refine core (fun _ => none) (fun _ => .inl rfl) (.inr ⟨_, vs.toArray, _, hk, rfl, rfl, rfl, by rw [List.size_toArray, lenV]; exact hl, by simpa using rv⟩) (fun b u z => by have z' : (none : Option HO) = some u := z; cases z') (fun b z => absurd rfl z) fun z => absurd rfl z
  | none =>
    refine core (fun b => if b = a then some (.frz { cls := .type "list", data := .seq vs.toArray } (.lst (ns.map V.int))) else none) (fun b => ?_) (.inl (.inr ⟨{ cls := .type "list", data := .seq vs.toArray }, if_pos rfl⟩)) (fun b u z => ?_) (fun b z => ?_) fun _ => hk
    · by_cases hb : b = a
      · exact .inr ⟨_, _, if_pos hb⟩
      · exact .inl (if_neg hb)
    · by_cases hb : b = a
      · have z' := (if_pos hb).symm.trans z
        cases z'
        subst hb
        exact ⟨ha, by rw [List.length_map]; exact hl, vs, _, rv, ha⟩
      · have z' := (if_neg hb).symm.trans z
        cases z'
    · by_cases hb : b = a
      · exact hb
      · exact absurd (if_neg hb) z
end L2

namespace L2
open PySem PySem.Spec PyProof.Rows

/-- the goal that k_head leaves (case hc), from the law's promise. F gives the function object fd (K's own) once, then the promise over every base -/
theorem walk_of {l : PySem.W.OpenLaw} {n k : Nat} {q : Program} {loose : List Str} {XP : (Str → Option Value) → Heap → Prop} {YP : World → Heap → Prop} {d : DefRec} {K : Params → PySem.W.Frag} {CX : World → CXT} {sp : World → Sp} {x : Str}
    (hn : l.most = some n) (hn2 : n ≤ sizeLine) (hdf : d.params.defaults = []) (hr : Room k callerA)
    (hY : ∀ (w : World) (h : Heap), YP w h → (K w.params).In h)
    (F : ∀ (w : World) (mg : Str → Option Value) (fa : Addr) (h : Heap), (K w.params).In h → h.Ns mainGlobals mg → mg d.name = some (.ref fa) →
      ∃ fd : FuncData, (∀ (s : Shared) (u : Value), BindsTo s fd ⟨[u], []⟩ [(x, u)]) ∧
        ∀ base : Heap, (K w.params).In base → base.Ns mainGlobals mg → FnOk l.prog w (K w.params) mg base (CX w) k fa fd [x] (sp w))
    (hsp : ∀ (w : World) (H : Hp) (a : Addr) (ns : List Int), ns.length ≤ n → Only H → SqL (K w.params) H a (ns.map V.int) → sp w [.ref a] H (fun v _ => v = .bl true) fun _ _ _ => False)
    (hCX : ∀ (w : World) (H : Hp) (s : Shared) (e : Value) (s' : Shared), CX w [] H s (fun _ _ _ => False) e s' → False) :
    PySem.W.WalkO q loose XP YP l.row.toRowW d [] (fun f vs => PySem.call f vs) := by
  refine Att.attach_call hn hdf fun w s₀ s₁ mg mb fa o pm cd doc a vs ns G Y ho hd hcd hmg hobj hints hlen hg => ?_
  have KX := hY w _ Y
  obtain ⟨fd, hb, hF⟩ := F w mg fa _ KX G.T.g hmg
  exact law_call KX G.T.g G.T.b G.T.builtins G.T.nolimit hg hobj hints (Nat.le_trans hlen hn2) hr hF hb (fun H hO hS => hsp w H a ns hlen hO hS) fun H e s' => hCX w H s₁ e s'
end L2



/-! SHORT WORDS over the layer: a def of the text, its body, what a loop and a test want. -/
namespace L2
open PySem PySem.Spec PyProof.Rows

/-! ### the text by places -/
/-- the j-th statement of a class's body -/
def inClass (s : Stmt) (j : Nat) : Stmt := match s with
  | .ClassDef _ _ _ body _ _ _ _ _ _ _ => body.getD j (.Pass ⟨0, 0, 0, 0⟩)
  | _ => .Pass ⟨0, 0, 0, 0⟩
def defArgs (s : Stmt) : Arguments := match s with
  | .FunctionDef _ a _ _ _ _ _ _ _ _ => a
  | _ => { posonlyargs := [], args := [], vararg := none, kwonlyargs := [], kw_defaults := [], kwarg := none, defaults := [] }
def defBody (s : Stmt) : List Stmt := match s with
  | .FunctionDef _ _ b _ _ _ _ _ _ _ => b
  | _ => []
def defScope (s : Stmt) : Scope := match s with
  | .FunctionDef _ _ _ _ _ _ sc _ _ _ => sc
  | _ => { kind := .function, names := [], isGenerator := false, isCoroutine := false }

/-! ### no exception leaves a def -/
abbrev E0 : XK := fun _ _ _ => False
/-! ### a def (or method) of the text as it stands behind the top -/
structure Fun (K : PySem.W.Frag) (x qual : Str) (st : Stmt) (f : Addr) (fd : FuncData) : Prop where
  ex : ∃ (oc : Value) (od : Option Addr) (kV doc pm : Value) (an : Option Addr) (cdv ct : Value) (osl : Array (Option Value)),
    fd = PySem.W.fnOf x qual (defArgs st) (defBody st) (defScope st) .none kV doc pm an cdv ct ∧ K.lookup f = some ⟨oc, od, .func fd, osl⟩ ∧ PySem.W.codeIn K cdv qual = true
  kp : PySem.W.keepIn K (.ref f) = true
section
variable {P : Program} {w : World} {K : PySem.W.Frag} {mg : Str → Option Value} {base : Heap}
/-- how its arguments bind (no defaults): h is «fun _ _ _ _ _ _ us hl => match us, hl with | [_, _], _ => rfl», one _ a parameter -/
theorem Fun.binds {x qual : Str} {st : Stmt} {f : Addr} {fd : FuncData} {ps : List Str} (F : Fun K x qual st f fd)
    (h : ∀ (kV doc pm : Value) (an : Option Addr) (cdv ct : Value) (us : List Value), us.length = ps.length → bindArgs (PySem.W.fnOf x qual (defArgs st) (defBody st) (defScope st) .none kV doc pm an cdv ct) ⟨us, []⟩ = pure (ps.zip us)) : Binds K fd ps [] := by
  obtain ⟨oc, od, kV, doc, pm, an, cdv, ct, osl, rfl, lk, hcd⟩ := F.ex
  exact .all (h kV doc pm an cdv ct)
theorem fun_mk {x qual : Str} {st : Stmt} {f : Addr} {oc : Value} {od an : Option Addr} {osl : Array (Option Value)} {kV doc pm cdv ct : Value} (l : K.lookup f = some ⟨oc, od, .func (PySem.W.fnOf x qual (defArgs st) (defBody st) (defScope st) .none kV doc pm an cdv ct), osl⟩)
    (c : PySem.W.codeIn K cdv qual = true) (k : PySem.W.keepIn K (.ref f) = true) : Fun K x qual st f (PySem.W.fnOf x qual (defArgs st) (defBody st) (defScope st) .none kV doc pm an cdv ct) := ⟨⟨oc, od, kV, doc, pm, an, cdv, ct, osl, rfl, l, c⟩, k⟩
end
/-! ### expressions in short: the name that stands in the i-th slot -/
section
variable {X : Cx}
theorem pv (i : Nat) {x : Str} {pos : Pos} (hN : X.N[i]? = some x := by rfl) (hv : Vis X.env.scope x := by first | exact Or.inl rfl | exact Or.inr (Or.inl rfl) | exact Or.inr (Or.inr rfl)) (hd : (x == ("__debug__" : Str)) = false := by decide)
    (hcd : (x == ("__classdict__" : Str)) = false := by decide) : PE X (.Name x pos) (tVar i) := pe_var hN hv hd hcd
end

/-! ### tests -/
theorem iteF {A B : Prop} (h : B) : if false = true then A else B := by
  rw [if_neg Bool.false_ne_true]
  exact h
theorem iteT {A B : Prop} (h : A) : if true = true then A else B := by
  rw [if_pos rfl]
  exact h
/-! ### heaps -/
/-- all that was tracked is as it was -/
def Same (H H' : Hp) : Prop := ∀ b o, H b = some o → H' b = some o
theorem Same.refl (H : Hp) : Same H H := fun _ _ h => h
theorem Same.trans {H H1 H2 : Hp} (a : Same H H1) (b : Same H1 H2) : Same H H2 := fun c o h => b c o (a c o h)
theorem Same.free {H H' : Hp} (e : Same H H') {l : Addr} (h : H' l = Option.none) : H l = Option.none := by
  cases q : H l with
  | none => rfl
  | some o =>
    rw [e l o q] at h
    cases h
theorem Same.seq {K : PySem.W.Frag} {H H' : Hp} {a : Addr} {xs : List V} (e : Same H H') (h : SqL K H a xs) : SqL K H' a xs := by
  rcases h with (h | ⟨o, h⟩) | h
  · exact .inl (.inl (e _ _ h))
  · exact .inl (.inr ⟨o, e _ _ h⟩)
  · exact .inr h

end L2

namespace L2
open PySem PySem.Spec PyProof.Rows

/-! ### lists of pairs as tables -/
section
variable {κ : Type} [DecidableEq κ]
def valV (kvs : List (κ × V)) (k : κ) : Option V := (kvs.find? fun kv => decide (kv.1 = k)).map (·.2)
theorem valV_nil {k : κ} : valV ([] : List (κ × V)) k = none := rfl
end


/-! ### a tracked dict, its keys ints and texts or tuples of these -/
section
variable {P : Program} {w : World} {H : Hp} {h : Heap} {a : Addr}
end

section
variable {X : Cx} {pins : List (Addr × Obj)} {σ : St} {H : Hp} {s : Shared} {a : Addr} {y v : V} {u r : Value} {o : Option V} {A : Around} {E : Value → Shared → Prop}

end

section
variable {X : Cx} {pins : List (Addr × Obj)} {σ : St} {H : Hp} {s : Shared} {a : Addr} {kvs : List (Key × V)} {k : Key} {u : Value} {A : Around} {E : Value → Shared → Prop}
end


/-! ### readings and rules -/
section
variable {X : Cx} {o i e value : Expr} {pos pos' tpos : Pos} {td ty tv : TE}
end


/-! ### displays -/
section
variable {X : Cx} {pos : Pos}
end

/-! ### methods -/
section
variable {X : Cx} {pins : List (Addr × Obj)} {σ : St} {H : Hp} {s : Shared} {a : Addr} {y d : V} {u r : Value} {o : Option V} {A : Around} {E : Value → Shared → Prop}
end

section
variable {X : Cx} {o e f : Expr} {apos cpos : Pos} {td ty tx : TE}
end

/-! ### dict(d): a copy -/
section
variable {X : Cx} {pins : List (Addr × Obj)} {σ : St} {H : Hp} {s : Shared} {a : Addr} {kvs : List (Key × V)} {A : Around} {E : Value → Shared → Prop}
end


section
variable {X : Cx} {pins : List (Addr × Obj)} {σ : St} {H : Hp} {s : Shared} {a : Addr} {y : V} {u : Value} {A : Around} {E : Value → Shared → Prop}
end
end L2

namespace L2
open PySem PySem.Spec PyProof.Rows
/-! ### a dict's pairs: keys that differ -/
section
variable {κ : Type} [DecidableEq κ]
end
end L2

set_option maxHeartbeats 4000000
/-! THE MATHEMATICS: turns of classes, walks over them. -/
namespace Kin
/-- each of 0 .. n - 1 stands just once -/
def IsTurn (n : Nat) (w : List Nat) : Prop := w.Perm (List.range n)
theorem IsTurn.len {n : Nat} {w : List Nat} (h : IsTurn n w) : w.length = n := by rw [List.Perm.length_eq h, List.length_range]
theorem IsTurn.nodup {n : Nat} {w : List Nat} (h : IsTurn n w) : w.Nodup := (List.Perm.nodup_iff h).mpr List.nodup_range
theorem IsTurn.mem {n : Nat} {w : List Nat} (h : IsTurn n w) {c : Nat} : c ∈ w ↔ c < n := by rw [List.Perm.mem_iff h, List.mem_range]
/-- the class to which the turn leads from c -/
def fw (w : List Nat) (c : Nat) : Nat := w.getD c 0
/-- the class from which it leads to c -/
def bw (w : List Nat) (c : Nat) : Nat := w.idxOf c
def inv (w : List Nat) : List Nat := (List.range w.length).map (bw w)
section
variable {n : Nat} {w : List Nat} (h : IsTurn n w) {c : Nat} (hc : c < n)
include h hc
end
/-! letters by their codes: f 102, m 109, s 115, d 100, p 112, b 98, z 122; a sex: man = true -/
def IsL (l : Nat) : Prop := l = 102 ∨ l = 109 ∨ l = 115 ∨ l = 100 ∨ l = 112 ∨ l = 98 ∨ l = 122
instance (l : Nat) : Decidable (IsL l) := by unfold IsL; infer_instance
def stS (m : Bool) (l : Nat) : Bool := if l = 112 then !m else (l == 102 || l == 115 || l == 98)
def stC (w h : List Nat) (m : Bool) (c : Nat) (l : Nat) : Nat :=
  if l = 102 then bw h c else if l = 109 then fw w (bw h c) else if l = 112 then (if m then fw w c else bw w c)
  else if l = 115 ∨ l = 100 then fw h (if m then c else bw w c) else c
def step (w h : List Nat) (s : Bool × Nat) (l : Nat) : Bool × Nat := (stS s.1 l, stC w h s.1 s.2 l)
def led (w h : List Nat) (s : Bool × Nat) (ls : List Nat) : Bool × Nat := ls.foldl (step w h) s
def endS (m : Bool) (ls : List Nat) : Bool := ls.foldl stS m
section
variable {n : Nat} {w h : List Nat} (tw : IsTurn n w) (th : IsTurn n h)
include tw th
/-- the letter that leads back to a person of the sex ahead -/
def bkL (m : Bool) (l : Nat) : Nat :=
  if l = 102 ∨ l = 109 then (if m then 115 else 100) else if l = 115 ∨ l = 100 then (if m then 102 else 109) else if l = 112 then 112 else (if m then 98 else 122)
omit tw th in
/-- its way back -/
def back (m : Bool) : List Nat → List Nat
  | [] => []
  | l :: r => back (stS m l) r ++ [bkL m l]
omit tw th in
end
theorem erase_perm : ∀ (l : List Nat) (k x : Nat), l[k]? = some x → (x :: l.eraseIdx k).Perm l
  | [], k, x, h => by simp at h
  | a :: r, 0, x, h => by simp at h; subst h; exact List.Perm.refl _
  | a :: r, k + 1, x, h => by
    have ih := erase_perm r k x (by simpa using h)
    rw [List.eraseIdx_cons_succ]
    exact (List.Perm.swap a x _).trans (List.Perm.cons a ih)
theorem perm_pick {rest out : List Nat} {n k x : Nat} (h : (rest ++ out).Perm (List.range n)) (hk : rest[k]? = some x) : (rest.eraseIdx k ++ (out ++ [x])).Perm (List.range n) := by
  refine List.Perm.trans ?_ h
  have e1 : (x :: rest.eraseIdx k).Perm rest := erase_perm rest k x hk
  have e2 : (rest.eraseIdx k ++ (out ++ [x])).Perm (rest.eraseIdx k ++ (x :: out)) := List.Perm.append_left _ (List.perm_append_singleton x out)
  refine e2.trans ?_
  have e3 : (rest.eraseIdx k ++ x :: out).Perm (x :: (rest.eraseIdx k ++ out)) := List.perm_middle
  refine e3.trans ?_
  exact List.Perm.append_right out e1
/-- a rising list of different numbers below n, all of them, is the list of them -/
theorem sorted_unique : ∀ {a b : List Int}, a.Perm b → a.Pairwise (· ≤ ·) → b.Pairwise (· ≤ ·) → a = b := fun {a b} h ha hb => by
  exact List.Perm.eq_of_pairwise (fun x y _ _ h1 h2 => Int.le_antisymm h1 h2) ha hb h
def intL (w : List Nat) : List Int := w.map fun (k : Nat) => (k : Int)
theorem intL_len (w : List Nat) : (intL w).length = w.length := by unfold intL; rw [List.length_map]
theorem range_sorted (n : Nat) : (intL (List.range n)).Pairwise (· ≤ ·) := by
  unfold intL
  refine List.pairwise_map.mpr ?_
  exact List.Pairwise.imp (fun {a b} (h : a < b) => by omega) List.pairwise_lt_range
end Kin

namespace Kin
theorem endS_cons (m : Bool) (a : Nat) (r : List Nat) : endS m (a :: r) = endS (stS m a) r := rfl
end Kin

/-! COMPREHENSIONS: [elt for x in iter], no tests, one clause; no exception leaves the block. -/
namespace L2
open PySem PySem.Spec PyProof.Rows

/-- the context of a comprehension's block -/
abbrev blk (X : Cx) (N : List Str) (scope : Scope) (cl : List (Str × Addr)) (s₀ : Shared) (H₀ : Hp) (ex : List Addr) (E : Value → Shared → Prop) : Cx :=
  { X with N := N, s₀ := s₀, H₀ := H₀, env := compEnvC scope cl s₀.heap.objs.size X.env, outer := X.stack, stack := X.stack, ex := ex, fn := fun _ => false, pn := [], xe := E }
/-- the outer names that the block reads: each with its slot outside -/
def FreeOk (X : Cx) (scope : Scope) (cl : List (Str × Addr)) : List (Str × Nat) → Prop
  | [] => True
  | p :: r => (X.N[p.2]? = some p.1 ∧ (X.env.kindOf p.1 = some .cell ∨ X.env.kindOf p.1 = some .free) ∧ ((relabel scope X.env).names.lookup p.1 = some .cell ∨ (relabel scope X.env).names.lookup p.1 = some .free) ∧ cl.lookup p.1 = X.env.cells.lookup p.1) ∧ FreeOk X scope cl r
structure CompOk (X : Cx) (x : Str) (fv : List (Str × Nat)) (scope : Scope) (cl : List (Str × Addr)) : Prop where
  clos : closureFor scope X.env = pure cl
  nocell : ∀ y ∈ scope.names, y.2 ≠ .cell
  kind : scope.kind = .function
  names : ∀ y ∈ scope.names, y.2 = .local → scope.names.lookup y.1 = some .local
  here : scope.names.lookup x = some .local
  nd : (x :: fv.map (·.1)).Nodup
  free : FreeOk X scope cl fv
  cls : cl.map (·.1) = (fv.map (·.1)).reverse
  fr : ((relabel scope X.env).names.filter fun p => p.2 == .cell || p.2 == .free).map (·.1) = fv.map (·.1)
section
variable {X : Cx} {x : Str} {fv : List (Str × Nat)} {scope : Scope} {cl : List (Str × Addr)}
theorem FreeOk.mem : ∀ {fv : List (Str × Nat)}, FreeOk X scope cl fv → ∀ y, y ∈ fv.map (·.1) → (X.env.kindOf y = some .cell ∨ X.env.kindOf y = some .free) ∧ cl.lookup y = X.env.cells.lookup y
  | [], _, y, h => by simp at h
  | p :: r, f, y, h => by
    rw [List.map_cons] at h
    rcases List.mem_cons.mp h with e | h
    · subst e; exact ⟨f.1.2.1, f.1.2.2.2⟩
    · exact FreeOk.mem f.2 y h
theorem FreeOk.at : ∀ {fv : List (Str × Nat)}, FreeOk X scope cl fv → ∀ (i : Nat) y, (fv.map (·.1))[i]? = some y → ∃ j, fv[i]? = some (y, j) ∧ X.N[j]? = some y ∧ (X.env.kindOf y = some .cell ∨ X.env.kindOf y = some .free) ∧
    ((relabel scope X.env).names.lookup y = some .cell ∨ (relabel scope X.env).names.lookup y = some .free) ∧ cl.lookup y = X.env.cells.lookup y
  | [], _, i, y, h => by simp at h
  | p :: r, f, 0, y, h => by
    simp at h; subst h
    exact ⟨p.2, rfl, f.1⟩
  | p :: r, f, i + 1, y, h => by
    obtain ⟨j, h1, h2⟩ := FreeOk.at f.2 i y (by simpa using h)
    exact ⟨j, by simpa using h1, h2⟩
theorem mem_of_lk : ∀ {l : List (Str × Addr)} {y : Str} {c : Addr}, l.lookup y = some c → y ∈ l.map (·.1) := fun {l y c} h => List.mem_map.mpr ⟨(y, c), PySem.mem_of_lookup h, rfl⟩
theorem CompOk.sub (ok : CompOk X x fv scope cl) {y : Str} {c : Addr} (h : cl.lookup y = some c) : X.env.cells.lookup y = some c := by
  have m : y ∈ fv.map (·.1) := by
    have := mem_of_lk h
    rw [ok.cls] at this
    exact List.mem_reverse.mp this
  rw [← (ok.free.mem y m).2]; exact h
theorem CompOk.has (ok : CompOk X x fv scope cl) (hx : X.Ok) {y : Str} (h : (relabel scope X.env).names.lookup y = some .cell ∨ (relabel scope X.env).names.lookup y = some .free) : ∃ c, cl.lookup y = some c := by
  have m : y ∈ fv.map (·.1) := by
    rw [← ok.fr]
    rcases h with h | h
    · exact List.mem_map.mpr ⟨(y, .cell), List.mem_filter.mpr ⟨PySem.mem_of_lookup h, rfl⟩, rfl⟩
    · exact List.mem_map.mpr ⟨(y, .free), List.mem_filter.mpr ⟨PySem.mem_of_lookup h, rfl⟩, rfl⟩
  obtain ⟨k, e⟩ := ok.free.mem y m
  rw [e]
  exact hx.has y k
variable {pins : List (Addr × Obj)} {σ : St} {H : Hp} {s : Shared} {fp : List Addr} {E : Value → Shared → Prop} {N : List Str}
theorem blk_ok (I : Inv X pins σ H s) (ok : CompOk X x fv scope cl) (hf : ∀ b ∈ fp, FpOk X pins H b) (ho : ∀ b ∈ fp, b < s.heap.objs.size) : (blk X N scope cl s H fp E).Ok where
  mod := I.ok.mod
  kind := ok.kind
  glob := I.ok.glob
  blt := I.ok.blt
  above := Nat.le_refl _
  inj := fun y z c h1 h2 => I.ok.inj y z c (ok.sub h1) (ok.sub h2)
  has := fun y hy => ok.has I.ok hy
  cab := fun _ _ h => by cases h
  hd := I.ok.hd
  frames := I.ok.frames
  stk := .inl rfl
  exf := fun b hb => ⟨Nat.ne_of_lt (ho b hb), fun y c h => (hf b hb).2.2.2.2.1 y c (ok.sub h)⟩
  bs := fun b o e => I.bs b o e
  bsz := Nat.le_trans I.ok.bsz I.sz
  noex := fun b o e hb => by
    rcases (hf b hb).2.2.2.1 with h4 | h4
    · exact I.ok.noex b o e h4
    · exact absurd (Nat.lt_of_lt_of_le (Heap.lt_size e) (Nat.le_trans I.ok.bsz h4)) (Nat.lt_irrefl _)
  exfs := fun b hb z => by
    rcases List.mem_cons.mp (I.stkSub b z) with e | e
    · exact (hf b hb).2.1 e
    · exact (hf b hb).2.2.1 e
  funs := I.stack
  frf := I.stkFree
/-- the block's names at its start -/
def blkS (fv : List (Str × Nat)) (σ : St) (o : Option V) : St := o :: fv.map fun p => (σ[p.2]?).join
theorem blkS_set (fv : List (Str × Nat)) (σ : St) (o : Option V) (v : V) : (blkS fv σ o).set 0 (some v) = blkS fv σ (some v) := rfl
theorem blk_start (I : Inv X pins σ H s) (ok : CompOk X x fv scope cl) (hf : ∀ b ∈ fp, FpOk X pins H b) (ho : ∀ b ∈ fp, b < s.heap.objs.size) {h₁ : Heap} {m₁ : Str → Option Value} (hn : h₁.Ns s.heap.objs.size m₁)
    (hk : ∀ b o, s.heap.get? b = some o → h₁.get? b = some o) (tk : Nat) : Inv (blk X (x :: fv.map (·.1)) scope cl s H fp E) [] (blkS fv σ none) H { s with heap := h₁, toks := tk } := by
  refine ⟨blk_ok I ok hf ho, rfl, I.bare, Un.kept hk, ⟨m₁, hn, fun i y v h1 h2 h3 => ?_⟩, fun y c h => ?_, I.hok.fresh (Nat.le_refl _), fun y c h => I.freeC y c (ok.sub h), fun p hp => ?_, I.hok.kept hk, ?_⟩
  · cases i with
    | zero =>
      have h2' : (none : Option V) = some v := by simpa [blkS] using h2
      cases h2'
    | succ i =>
      have h1' : (fv.map (·.1))[i]? = some y := by simpa using h1
      obtain ⟨j, e1, e2, k1, k2, e3⟩ := ok.free.at i y h1'
      have h2' : (σ[j]?).join = some v := by
        have q : (fv.map fun p => (σ[p.2]?).join)[i]? = some (some v) := by simpa [blkS] using h2
        rw [List.getElem?_map, e1] at q
        exact Option.some.inj q
      have h2'' : σ[j]? = some (some v) := by
        cases e : σ[j]? with
        | none => rw [e] at h2'; cases h2'
        | some o => rw [e] at h2'; exact congrArg some h2'
      obtain ⟨m, _, hl⟩ := I.loc
      obtain ⟨u, r, l⟩ := hl j y v e2 h2'' (by
        rcases k1 with k | k
        · exact .inr (.inl k)
        · exact .inr (.inr k))
      refine ⟨u, r, .inr ⟨k2, ?_⟩⟩
      rcases l with ⟨k, _⟩ | ⟨_, c, ec, o, z1, z2⟩
      · rcases k1 with k' | k' <;> (rw [k] at k'; cases k')
      · exact ⟨c, e3.trans ec, o, hk _ _ z1, z2⟩
  · obtain ⟨v, o, z1, z2⟩ := I.cell y c (ok.sub h)
    exact ⟨v, o, hk _ _ z1, z2⟩
  · exact absurd (show p ∈ ([] : List (Addr × Obj)) from hp) (by simp)
  · show (blkS fv σ none).length = _
    simp [blkS]
end
section
variable {prog : Program} {w : World} {A : Around} {R : Result → Shared → Prop} {s : Shared}
theorem codeAny_compLoop_L {elt target iter : Expr} {scope : Scope} {pos : Pos} {it acc : Value} {env : Env} (I : Nat → Shared → Prop)
    (turn : ∀ n s, I n s → wpAny (model prog w) A (pyNext it) (fun r s₁ => match r with
      | none => R (.ok .next) s₁
      | some v => wpAny (model prog w) A (letOwnedTupleGo target it v) (fun _ s₂ => wpAny (model prog w) A (assign target env v) (fun _ s₂ => wpAny (model prog w) A (eval elt env) (fun x s₃ =>
          wpAny (model prog w) A (call (.builtin "list.append") [acc, x]) (fun _ s₄ => ∃ m, m < n ∧ I m s₄) (notedBy (model prog w) A env fun e s' => R (.error e) s') s₃)
          (notedBy (model prog w) A env fun e s' => R (.error e) s') s₂) (notedBy (model prog w) A env fun e s' => R (.error e) s') s₂) (notedBy (model prog w) A env fun e s' => R (.error e) s') s₁) (notedBy (model prog w) A env fun e s' => R (.error e) s') s)
    (n : Nat) (h : I n s) :
    codeAny (model prog w) A (.compLoop (.ListComp elt [⟨target, iter, [], 0⟩] scope pos) 0 it acc env) R s := by
  refine codeAny_loop rfl I (fun n s hI => ?_) n h
  show wpAny _ _ ((compTurn (.ListComp elt [⟨target, iter, [], 0⟩] scope pos) 0 it acc env).onRaise (fun x => do noteFrame x env; theTreesLotGoes x)) _ _ s
  refine wpAny_noted ?_
  rw [compTurn_list1]
  refine wpAny_bind (wpAny_standAt (wpAny_bind (wpAny_mono (turn n s hI) (fun r s₁ h₁ => ?_) fun _ _ h' => h')))
  cases r with
  | none => exact wpAny_pure h₁
  | some v =>
    refine wpAny_bind (wpAny_mono h₁ (fun _ s₂ h₂ => ?_) fun _ _ h' => h')
    exact wpAny_bind (wpAny_mono h₂ (fun _ s₂ h₂ => wpAny_bind (wpAny_bind (wpAny_mono h₂ (fun x s₃ h₃ => wpAny_bind (wpAny_mono h₃
      (fun _ s₄ h₄ => wpAny_pure (wpAny_pure ⟨rfl, h₄⟩)) fun _ _ h' => h')) fun _ _ h' => h'))) fun _ _ h' => h')
end
/-- what is wanted of a comprehension over the iterator J: W the invariant by the turn, a measure, the items so far -/
abbrev TEB := Shared → Hp → List Addr → TE
def tCompJ (fv : List (Str × Nat)) (te : TEB) (σ : St) (J : It) (H1 : Hp) (Q : VK) : Prop :=
  ∀ D, H1 D = none → ∃ W : Nat → Nat → List V → Hp → Prop, (∃ m, W 0 m [] (upd H1 D (.lst []))) ∧
    ∀ i m ys H, W i m ys H → H D = some (.lst ys) ∧ ((J.stop i H ∧ Q (.ref D) H) ∨ (J.go i H ∧ ys.length < sizeLine ∧ ∀ x H', J.yld i H x H' →
      ∀ s₀ H₀ ex, te s₀ H₀ ex (blkS fv σ (some x)) H' fun v H2 => H2 D = some (.lst ys) ∧ ∃ m', m' < m ∧ W (i + 1) m' (ys ++ [v]) (upd H2 D (.lst (ys ++ [v])))))
def tComp (wi : TI) (fv : List (Str × Nat)) (te : TEB) : TE := fun σ H Q => wi σ H fun J H1 => tCompJ fv te σ J H1 Q
section
variable {X : Cx} {x : Str} {fv : List (Str × Nat)} {scope : Scope} {cl : List (Str × Addr)} {pins : List (Addr × Obj)} {σ : St} {px pos : Pos} {iter elt : Expr} {te : TEB}
abbrev NoX : Value → Shared → Prop := fun _ _ => False
theorem comp_block {s2 : Shared} {H2 : Hp} {it : Addr} {fp : List Addr} {tn : Nat → Heap → Prop} {J : It} (ok : CompOk X x fv scope cl) (hc : X.calm = true)
    (he : ∀ s₀ H₀ ex, PE (blk X (x :: fv.map (·.1)) scope cl s₀ H₀ ex NoX) elt (te s₀ H₀ ex)) (I2 : Inv X pins σ H2 s2) (T : Turn X.prog X.w X.K (.Name x px) J fp it tn) (st2 : tn 0 s2.heap) (f2 : ∀ b ∈ fp, FpOk X pins H2 b)
    {Qv : VK} (hQ : tCompJ fv te σ J H2 Qv) {RR : Value → Addr → Result → Shared → Prop}
    (hRR : ∀ D C m' H' s', Inv X pins σ H' s' → s'.heap.Ns C m' → FpOk X pins H' C → Qv (.ref D) H' → RR (.ref D) C (.ok .next) s') :
    wpAny (model X.prog X.w) X.A (newList []) (fun acc s₃ => wpAny (model X.prog X.w) X.A (newFunctionEnv scope X.env.globals cl [] X.env.qual none .none (some X.env)) (fun cenv s₄ =>
      codeAny (model X.prog X.w) X.A (.compStart (.ListComp elt [⟨.Name x px, iter, [], 0⟩] scope pos) 0 (.ref it) acc { cenv with scope := relabel scope X.env }) (RR acc cenv.locals) s₄) X.xe s₃) X.xe s2 := by
  refine wpAny_newObj_type (wpAny_newFunctionEnv ok.nocell (by intro y hy; simp at hy) (fun h₁ hns₁ hsb₁ => ?_) ok.kind)
  dsimp only at hns₁ hsb₁ ⊢
  have I3 : Inv X pins σ (upd H2 s2.heap.objs.size (.lst [])) { s2 with heap := s2.heap.push { cls := .type "list", dict := none, data := .seq ([] : List Value).toArray } } :=
    I2.laid (t' := s2.toks) (fun b o e => Heap.get?_push_of_some _ e) (Nat.le_refl _) ⟨Nat.zero_le _, [], 0, .nil, Heap.get?_push_size _ rfl⟩
  have hD : H2 s2.heap.objs.size = none := I2.hok.fresh (Nat.le_refl _)
  generalize hs3 : ({ s2 with heap := s2.heap.push { cls := .type "list", dict := none, data := .seq ([] : List Value).toArray } } : Shared) = s3 at I3
  have eh : s2.heap.push { cls := .type "list", dict := none, data := .seq ([] : List Value).toArray } = s3.heap := by rw [← hs3]
  rw [eh] at hns₁ hsb₁ ⊢
  have fl : ∀ b ∈ fp, b < s2.heap.objs.size := fun b hb => by
    obtain ⟨o, e, _⟩ := T.obj _ _ st2 b hb
    exact Heap.lt_size e
  have sz3 : s3.heap.objs.size = s2.heap.objs.size + 1 := by rw [← eh, Heap.size_push]
  have f3 : ∀ b ∈ fp, FpOk X pins (upd H2 s2.heap.objs.size (.lst [])) b := fun b hb => ⟨by rw [upd_ne (Nat.ne_of_lt (fl b hb))]; exact (f2 b hb).1, (f2 b hb).2⟩
  have fl3 : ∀ b ∈ fp, b < s3.heap.objs.size := fun b hb => by rw [sz3]; exact Nat.lt_succ_of_lt (fl b hb)
  have old3 : ∀ b o, s3.heap.get? b = some o → h₁.get? b = some o := fun b o e => hsb₁.extBut b o (Nat.ne_of_lt (Heap.lt_size e)) (Heap.get?_push_of_some _ e)
  have old2 : ∀ b o, s2.heap.get? b = some o → h₁.get? b = some o := fun b o e => old3 b o (by rw [← eh]; exact Heap.get?_push_of_some _ e)
  have st1 : tn 0 h₁ := T.keep _ _ _ st2 fun b _ o e => old2 b o e
  have IY := blk_start (E := NoX) I3 ok f3 fl3 hns₁ old3 (s3.toks + ([] : List (Str × Value)).length)
  obtain ⟨W, ⟨m0, w0⟩, turn⟩ := hQ s2.heap.objs.size hD
  have loop : ∀ s4 : Shared, s4 = { s3 with heap := h₁, toks := s3.toks + ([] : List (Str × Value)).length } →
      codeAny (model X.prog X.w) X.A (.compLoop (.ListComp elt [⟨.Name x px, iter, [], 0⟩] scope pos) 0 (.ref it) (.ref s2.heap.objs.size) (compEnvC scope cl s3.heap.objs.size X.env)) (RR (.ref s2.heap.objs.size) s3.heap.objs.size) s4 := by
    rintro s4 rfl
    have stat : ∀ {H' : Hp}, (∀ b ∈ fp, H' b = none) → ∀ b ∈ fp, FpOk (blk X (x :: fv.map (·.1)) scope cl s3 (upd H2 s2.heap.objs.size (.lst [])) fp NoX) [] H' b := fun hn b hb =>
      ⟨hn b hb, Nat.ne_of_lt (fl3 b hb), fun z => by
        rcases List.mem_cons.mp (I3.stkSub b z) with e | e
        · exact (f2 b hb).2.1 e
        · exact (f2 b hb).2.2.1 e, .inl hb, fun y c h => (f2 b hb).2.2.2.2.1 y c (ok.sub h), fun p hp => absurd (show p ∈ ([] : List (Addr × Obj)) from hp) (by simp)⟩
    refine codeAny_compLoop_L (fun n s' => ∃ i o H' ys, Inv (blk X (x :: fv.map (·.1)) scope cl s3 (upd H2 s2.heap.objs.size (.lst [])) fp NoX) [] (blkS fv σ o) H' s' ∧ tn i s'.heap ∧ (∀ b ∈ fp, H' b = none) ∧ W i n ys H') ?_ m0
      ⟨0, none, _, [], IY, st1, fun b hb => (f3 b hb).1, w0⟩
    rintro n s5 ⟨i, o, H5, ys, I5, st5, fr5, w5⟩
    obtain ⟨hD5, w5⟩ := turn i n ys H5 w5
    rcases w5 with ⟨stop, qn⟩ | ⟨go, hsz, step⟩
    · refine wpAny_mono (T.done (blk X (x :: fv.map (·.1)) scope cl s3 (upd H2 s2.heap.objs.size (.lst [])) fp NoX) rfl rfl rfl hc i [] s5 _ H5 NoX I5 (stat fr5) st5 stop) (fun r s6 ⟨hr, I6⟩ => ?_) fun _ _ z => z.elim
      subst hr
      obtain ⟨m', hm', _⟩ := I6.loc
      have I7 : Inv X pins σ H5 s6 := I3.call' (ch := fp) (by rw [I6.os]) I6.base I6.hok I6.bare fun b hb => ⟨(f2 b hb).2.2.2.1, (f2 b hb).2.1, (f2 b hb).2.2.2.2.1, (f2 b hb).2.2.2.2.2⟩
      exact hRR _ _ m' H5 s6 I7 hm' (I3.fpOk (Nat.le_refl _) I6.free) qn
    · refine wpAny_mono (T.item (blk X (x :: fv.map (·.1)) scope cl s3 (upd H2 s2.heap.objs.size (.lst [])) fp NoX) rfl rfl rfl hc i [] s5 _ H5 NoX I5 (stat fr5) st5 go) (fun r s6 ⟨u, hr, h6⟩ => ?_) fun _ _ z => z.elim
      subst hr
      refine wpAny_mono h6 (fun _ s7 ⟨v, H7, I7, r7, y7, st7, fr7⟩ => ?_) fun _ _ z => z.elim
      have I7' := I7.pinned (stat fr7) (T.obj _ _ st7)
      have hx : Loc (blk X (x :: fv.map (·.1)) scope cl s3 (upd H2 s2.heap.objs.size (.lst [])) fp NoX).env.scope x := .inl (lookup_relabel_local ok.here)
      refine wpAny_assign_Name (store_ok (X := blk X (x :: fv.map (·.1)) scope cl s3 (upd H2 s2.heap.objs.size (.lst [])) fp NoX) (i := 0) I7' ok.nd rfl hx r7 (fun s8 I8 => ?_) (.inr (lookup_relabel_local ok.here)))
      refine wpAny_mono (he s3 _ fp _ s8 (blkS fv σ (some v)) H7 _ I8 (step v H7 y7 _ _ _)) (fun u9 s9 ⟨v9, H9, I9, r9, hD9, m', hm', w9⟩ => ?_) fun _ _ z => z.elim
      refine wpAny_mono (mt_append (X := blk X (x :: fv.map (·.1)) scope cl s3 (upd H2 s2.heap.objs.size (.lst [])) fp NoX) _ s9 _ H9 (.ref s2.heap.objs.size) [v9] (.ref s2.heap.objs.size) [u9]
        (fun _ H10 => H10 = upd H9 s2.heap.objs.size (.lst (ys ++ [v9]))) I9 rfl (.cons r9 .nil) ⟨_, ys, v9, rfl, rfl, hD9, hsz, rfl⟩) (fun _ s10 ⟨_, H10, I10, _, e10⟩ => ?_) fun _ _ z => z.elim
      subst e10
      refine ⟨m', hm', i + 1, some v, _, ys ++ [v9], I10.unpinned, T.keep _ _ _ st7 fun b hb o e => (I10.pin (b, o) (List.mem_append_right _ (List.mem_append_right _ (mem_pinsAt hb e)))).1, fun b hb => ?_, w9⟩
      obtain ⟨o, e, d⟩ := T.obj _ _ st7 b hb
      exact (I10.pin (b, o) (List.mem_append_right _ (List.mem_append_right _ (mem_pinsAt hb e)))).2.1
  exact codeAny_compStart_list (loop _ (by rw [← hs3])) (T.self _ 0 _ _ _ st1 (loop _ (by rw [← hs3])))
/-- [elt for x in iter] as a value -/
theorem pe_comp {wi : TI} (ok : CompOk X x fv scope cl) (hc : X.calm = true) (hi : PI X (.Name x px) iter wi) (he : ∀ s₀ H₀ ex, PE (blk X (x :: fv.map (·.1)) scope cl s₀ H₀ ex NoX) elt (te s₀ H₀ ex))
    (hs : ∀ v, foldedSetIterable iter X.env v = pure v := by intro _; rfl) : PE X (.ListComp elt [⟨.Name x px, iter, [], 0⟩] scope pos) (tComp wi fv te) := by
  intro pins s σ H Q I h
  rw [eval_ListComp]
  refine wpAny_comprehension_free (use := none) rfl hs ok.clos ok.kind ok.names (thn (hi pins s σ H _ I h) fun v s1 h1 => thn h1 fun itv s2 h2 => ?_)
  obtain ⟨it, fp, tn, J, H2, rfl, I2, T, st2, f2, hQ⟩ := h2
  refine comp_block (RR := fun acc C => compPost (model X.prog X.w) X.A X.xe none (EP X pins σ Q) acc C) ok hc he I2 T st2 f2 hQ ?_
  intro D C m' H' s' I' hn fC q
  exact ⟨m', hn, fun h' hs' => ⟨.ref D, H', I'.turned (t' := s'.toks) (fun b o hb e => hs'.extBut b o hb e) fC.1 fC.2.1 fC.2.2.2.1 fC.2.2.2.2.1 fC.2.2.2.2.2, rfl, q⟩⟩
/-- y = [elt for x in iter], stored within the block -/
theorem ps_setComp {wi : TI} {i : Nat} {y : Str} {py spos : Pos} (hN : X.N.Nodup) (hiy : X.N[i]? = some y) (hy : Loc X.env.scope y) (ok : CompOk X x fv scope cl) (hc : X.calm = true) (hi : PI X (.Name x px) iter wi) (he : ∀ s₀ H₀ ex, PE (blk X (x :: fv.map (·.1)) scope cl s₀ H₀ ex NoX) elt (te s₀ H₀ ex))
    (hsw : swapsWith (.ListComp elt [⟨.Name x px, iter, [], 0⟩] scope pos) (some (.Name y py)) spos.line X.env = pure true := by rfl)
    (hs : ∀ v, foldedSetIterable iter X.env v = pure v := by intro _; rfl) (hf : X.fn y = true ∨ X.env.scope.names.lookup y = some .local := by first | exact .inl rfl | exact .inr rfl | assumption) :
    PS X (.Assign [.Name y py] (.ListComp elt [⟨.Name x px, iter, [], 0⟩] scope pos) spos) (tAsg (tComp wi fv te) (gName i)) := by
  intro pins s σ H D I h
  rw [exec_Assign_Name_used _ _ _ _ hsw]
  refine wpAny_bind (wpAny_standAt (wpAny_bind ?_))
  show wpAny _ _ (do let _ ← comprehension (.ListComp elt [⟨.Name x px, iter, [], 0⟩] scope pos) scope X.env _ (newList []) false (eval iter X.env) (some (assign (.Name y py) X.env))) _ _ s
  refine wpAny_bind (wpAny_mono (wpAny_comprehension_free (use := some (assign (.Name y py) X.env)) (Q := fun _ s' => SP X pins D .next s') rfl hs ok.clos ok.kind ok.names
    (thn (hi pins s σ H _ I h) fun v s1 h1 => thn h1 fun itv s2 h2 => ?_)) (fun _ s' hq => wpAny_pure (wpAny_pure hq)) fun _ _ e => e)
  obtain ⟨it, fp, tn, J, H2, rfl, I2, T, st2, f2, hQ⟩ := h2
  refine comp_block (RR := fun acc C => compPost (model X.prog X.w) X.A X.xe (some (assign (.Name y py) X.env)) (fun _ s' => SP X pins D .next s') acc C) ok hc he I2 T st2 f2 hQ ?_
  intro D' C m' H' s' I' hn fC q
  show wpAny _ _ (assign (.Name y py) X.env (.ref D')) _ _ _
  refine wpAny_assign_Name (store_ok2 (v := .ref D') I' hN hiy hy rfl (fun s'' I'' hab => ?_) hf)
  obtain ⟨a, hsb, ha⟩ := hab
  have haC : C ≠ a := by
    rcases ha with e | e
    · rw [e]; exact fC.2.1
    · exact (fC.2.2.2.2.1 y a e).symm
  exact ⟨m', hn.sameBut hsb haC, fun h' hs' => ⟨_, H', I''.turned (t' := s''.toks) (fun b o hb e => hs'.extBut b o hb e) fC.1 fC.2.1 fC.2.2.2.1 fC.2.2.2.2.1 fC.2.2.2.2.2, q⟩⟩
/-- over a range, when the elements only lay new things: the i-th element is f i -/
theorem comp_range {lo : Int} {n : Nat} {H1 : Hp} {Q : VK} (f : Nat → V) (hn : n ≤ sizeLine)
    (el : ∀ (i : Nat) (H' : Hp) (R : VK), i < n → Same H1 H' → (∀ H2, Same H' H2 → R (f i) H2) → ∀ s₀ H₀ ex, te s₀ H₀ ex (blkS fv σ (some (.int (lo + i)))) H' R)
    (fin : ∀ D H2, H1 D = none → Same H1 H2 → H2 D = some (.lst ((List.range n).map f)) → Q (.ref D) H2) : tCompJ fv te σ (Itr lo n) H1 Q := by
  intro D hD
  have sd : ∀ {H2 : Hp} {o : HO}, Same H1 H2 → Same H1 (upd H2 D o) := fun {H2 o} s b u e => by
    rw [upd_ne (ne_of_none e hD)]; exact s b u e
  refine ⟨fun i m ys H => m = n - i ∧ i ≤ n ∧ ys = (List.range i).map f ∧ Same H1 H ∧ H D = some (.lst ys), ⟨n, by simp, Nat.zero_le _, rfl, sd (Same.refl H1), upd_same⟩, ?_⟩
  rintro i m ys H ⟨rfl, hi, rfl, sm, hDi⟩
  refine ⟨hDi, ?_⟩
  by_cases hlt : i < n
  · refine .inr ⟨hlt, by simpa using Nat.lt_of_lt_of_le hlt hn, fun x H' y => ?_⟩
    obtain ⟨e, y⟩ := y
    subst e y
    refine fun s₀ H₀ ex => el i _ _ hlt sm (fun H2 s2 => ⟨s2 D _ hDi, n - (i + 1), by omega, rfl, hlt, ?_, sd (sm.trans s2), upd_same⟩) s₀ H₀ ex
    rw [List.range_succ, List.map_append]
    rfl
  · have e : i = n := by omega
    subst e
    exact .inl ⟨Nat.le_refl _, fin D H hD sm hDi⟩
/-- over a list that stays -/
theorem comp_list {K : PySem.W.Frag} {a : Addr} {xs : List V} {H1 : Hp} {Q : VK} (f : Nat → V) (hq : SqL K H1 a xs) (hn : xs.length ≤ sizeLine)
    (el : ∀ (i : Nat) (x : V) (H' : Hp) (R : VK), xs[i]? = some x → Same H1 H' → (∀ H2, Same H' H2 → R (f i) H2) → ∀ s₀ H₀ ex, te s₀ H₀ ex (blkS fv σ (some x)) H' R)
    (fin : ∀ D H2, H1 D = none → Same H1 H2 → H2 D = some (.lst ((List.range xs.length).map f)) → Q (.ref D) H2) : tCompJ fv te σ (Itl K a) H1 Q := by
  intro D hD
  have sd : ∀ {H2 : Hp} {o : HO}, Same H1 H2 → Same H1 (upd H2 D o) := fun {H2 o} s b u e => by
    rw [upd_ne (ne_of_none e hD)]; exact s b u e
  refine ⟨fun i m ys H => m = xs.length - i ∧ i ≤ xs.length ∧ ys = (List.range i).map f ∧ Same H1 H ∧ H D = some (.lst ys), ⟨xs.length, by simp, Nat.zero_le _, rfl, sd (Same.refl H1), upd_same⟩, ?_⟩
  rintro i m ys H ⟨rfl, hi, rfl, sm, hDi⟩
  refine ⟨hDi, ?_⟩
  have hqi := sm.seq hq
  by_cases hlt : i < xs.length
  · refine .inr ⟨⟨xs, xs[i], hqi, by simp [hlt]⟩, by simpa using Nat.lt_of_lt_of_le hlt hn, fun x H' y => ?_⟩
    obtain ⟨e, y⟩ := y
    subst e
    refine fun s₀ H₀ ex => el i x _ _ (y xs hqi) sm (fun H2 s2 => ⟨s2 D _ hDi, xs.length - (i + 1), by omega, rfl, hlt, ?_, sd (sm.trans s2), upd_same⟩) s₀ H₀ ex
    rw [List.range_succ, List.map_append]
    rfl
  · have e : i = xs.length := by omega
    subst e
    exact .inl ⟨⟨xs, hqi, Nat.le_refl _⟩, fin D H hD sm hDi⟩
end
end L2

/-! MORE BUILT-INS: sorted, ranges as objects, list(range), index, isinstance, == and != of flat lists and tuples, texts walked and cut, range downwards. -/
namespace L2
open PySem PySem.Spec PyProof.Rows

theorem vals_of_get : ∀ {xs : List V} {us : List Value}, xs.length = us.length → (∀ (i : Nat) x u, xs[i]? = some x → us[i]? = some u → RelV x u) → Vals xs us
  | [], [], _, _ => .nil
  | [], _ :: _, h, _ => by simp at h
  | _ :: _, [], h, _ => by simp at h
  | x :: xs, u :: us, h, f => .cons (f 0 x u rfl rfl) (vals_of_get (by simpa using h) fun i y v h1 h2 => f (i + 1) y v (by simpa using h1) (by simpa using h2))
section
variable {X : Cx} {pos p : Pos} {a b c : Expr} {ta : TA}
/-- sorted(xs) of fewer than 64 intL -/
theorem call_sorted : CallR X (.builtin "sorted") (fun xs H Q => ∃ (p : Addr) (ns : List Int), xs = [.ref p] ∧ SqL X.K H p (ns.map V.int) ∧ ns.length < 64 ∧ ∀ (l : Addr) (ns' : List Int), H l = none → ns'.Perm ns → ns'.Pairwise (· ≤ ·) → Q (.ref l) (upd H l (.lst (ns'.map V.int)))) := by
  intro pins s σ H xs us Q I r h
  obtain ⟨p, ns, rfl, hq, hl, q⟩ := h
  obtain ⟨u, rfl, rx⟩ := vals1 r
  cases rx
  obtain ⟨its, r', pl, hz⟩ := I.list hq
  have hi : IntsAre its ns := intsAre_of r'
  have hlen := r'.length
  rw [List.length_map] at hlen hz
  refine sorted_ints pl.isList hi (by omega) fun out ns' a1 a2 a3 => ?_
  obtain ⟨e, he⟩ := sortedAll_at s.heap its out
  have fresh : H (s.heap.objs.size + 1) = none := I.hok.fresh (Nat.le_succ _)
  refine ⟨.ref (s.heap.objs.size + 1), _, I.laid (t' := s.toks) (o := .lst (ns'.map V.int)) (fun b o e => sortedAll_old e) (Nat.le_succ _) ?_, rfl, q _ ns' fresh a2 a3⟩
  exact ⟨by rw [List.length_map, a2.length_eq]; exact hz, out.toList, e, vals_ints a1, by simpa using he⟩
/-- range(j) as an object -/
def tRng1 (ta : TA) : TE := fun σ H Q => ta σ H fun vs H1 => ∃ j : Int, vs = [.int j] ∧ ∀ p, H1 p = none → Q (.ref p) (upd H1 p (.rng 0 j))
theorem pe_rng1 (hg : Gl X "range") (hm : X.mg "range" = none) (ha : PA X [a] ta) (hs : starEach [a] X.env = [(false, eval a X.env)] := by rfl) : PE X (.Call (.Name "range" p) [a] [] pos) (tRng1 ta) := by
  intro pins s σ H Q I h
  refine Call_ (ld_blt I hg hm boot_range (PyProof.Rows.callWith_type1 (thn (ha pos pins s σ H _ I h) fun us s1 ⟨vs, H1, I1, r1, q1⟩ => ?_) hs rfl))
  obtain ⟨j, e, q⟩ := q1
  subst e
  cases r1 with
  | cons r rr =>
    cases rr
    obtain ⟨t, rfl⟩ := r
    exact call_range_1 ⟨.ref s1.heap.objs.size, _, I1.laid (o := .rng 0 j) (fun b o e => Heap.get?_push_of_some _ e) (Nat.le_refl _) ⟨_, _, _, Heap.get?_push_size _ rfl⟩, rfl, q _ (I1.hok.fresh (Nat.le_refl _))⟩
def rngV (lo hi : Int) : List V := (List.range (hi - lo).toNat).map fun i => V.int (lo + (i : Nat))
/-- list(range object) -/
theorem call_list_rng (hc : X.calm = true) : CallR X (.type "list") (fun xs H Q => ∃ p lo hi, xs = [.ref p] ∧ H p = some (.rng lo hi) ∧ -(2 ^ 62) ≤ lo ∧ lo < 2 ^ 62 ∧ -(2 ^ 62) ≤ hi ∧ hi < 2 ^ 62 ∧ (hi - lo).toNat ≤ 1000 ∧ ∀ l, H l = none → Q (.ref l) (upd H l (.lst (rngV lo hi)))) := by
  intro pins s σ H xs us Q I r h
  obtain ⟨p, lo, hi, rfl, hp, h1, h2, h3, h4, h5, q⟩ := h
  obtain ⟨u, rfl, rx⟩ := vals1 r
  cases rx
  obtain ⟨t, u, v, e⟩ := I.hok p _ hp
  have hn : Builtin.Range.rangeSize lo hi 1 = (((hi - lo).toNat : Nat) : Int) := by rw [rangeSize_one]; split <;> omega
  refine call_list_range (I.ok.hd hc) e (small_one h1 h2 h3 h4) hn (Nat.le_trans h5 (by decide)) fun h' tk acc' c' hk hS' hacc => ?_
  refine ⟨.ref s.heap.objs.size, _, I.laid (t' := tk) (o := .lst (rngV lo hi)) hk (Nat.le_refl _) ?_, rfl, q _ (I.hok.fresh (Nat.le_refl _))⟩
  have hlen : (rngV lo hi).length = (hi - lo).toNat := by unfold rngV; rw [List.length_map, List.length_range]
  refine ⟨by rw [hlen]; exact Nat.le_trans h5 (by decide), acc'.toList, c', vals_of_get (by rw [hlen, Array.length_toList]; exact hacc.1.symm) fun i x w e1 e2 => ?_, by simpa using hS'⟩
  obtain ⟨tk', ew⟩ := hacc.2 i w (by simpa using e2)
  have hi' : i < (hi - lo).toNat := by rw [← hlen]; exact (List.getElem?_eq_some_iff.mp e1).1
  have ex : x = V.int (lo + (i : Nat)) := by
    unfold rngV at e1
    rw [List.getElem?_map, List.getElem?_range hi'] at e1
    exact (Option.some.inj e1).symm
  subst ex
  exact ⟨tk', by rw [ew, Int.mul_one]⟩
/-- xs.index(k) of a list of intL, there -/
def rIndex (K : PySem.W.Frag) : V → List V → Hp → VK → Prop := fun x vs H Q => ∃ (l : Addr) (ns : List Int) (k : Int), x = .ref l ∧ vs = [.int k] ∧ SqL K H l (ns.map V.int) ∧ k ∈ ns ∧ Q (.int (ns.idxOf k : Nat)) H
theorem mt_index : MtR X "list.index" (rIndex X.K) := by
  intro pins s σ H x vs v us Q I rx rv h
  obtain ⟨l, ns, k, rfl, rfl, hq, hk, q⟩ := h
  cases rx
  obtain ⟨u, rfl, t, rfl⟩ := rv.one
  obtain ⟨its, r', pl, hz⟩ := I.list hq
  have hi : IntsAre its ns := intsAre_of r'
  have hlen := r'.length
  rw [List.length_map] at hlen hz
  have hn := line63
  have hl := pl.isList
  obtain ⟨⟨cls, dd, data, sl⟩, ho, hc, n, hd⟩ := id hl
  simp only at hc hd
  subst hc hd
  have hj : ns.idxOf k < ns.length := List.idxOf_lt_length_iff.mpr hk
  refine call_meets PySem.F.slot_list_index ⟨_, ho, rfl⟩ PySem.F.entry_list_index (PySem.F.args_list_index_2 _ _)
    (SeqAt.list_indexAt l its.toArray n dd sl (.int k t) (isInt k) (ns.idxOf k) (by rw [List.size_toArray, ← hlen]; exact hj) (by omega) ?_ ?_) ⟨ho, fun y hy => (eq_isInt k t hi y (by simpa using hy)).at _ _, ⟨.int (ns.idxOf k : Nat), H, I.tok _, ⟨_, rfl⟩, q⟩⟩
  · show isInt k its[ns.idxOf k] = true
    rw [isInt_at k hi _ (by omega) hj]
    simpa using List.getElem_idxOf hj
  · intro j hjs hlt
    show isInt k its[j] = false
    rw [isInt_at k hi j (by simpa using hjs) (by rw [hlen]; simpa using hjs)]
    exact ne_of_lt_idxOf hlt _
/-- isinstance(x, T), T a built-in type by its name -/
theorem call_isinst : CallR X (.builtin "isinstance") (fun xs H Q => ∃ x T t b, xs = [x, .ty T] ∧ TyOf X.K H x t ∧ PySem.W.kitOne X.K t (.type T) = some b ∧ Q (.bl b) H) := by
  intro pins s σ H xs us Q I r h
  obtain ⟨x, T, t, b, rfl, ty, e, q⟩ := h
  obtain ⟨u, w', rfl, r1, r2⟩ := vals2 r
  cases (show w' = Value.type T from r2)
  exact isinst_ok I r1 ty e fun tk => ⟨.bl b, H, I.tok tk, rfl, q⟩
end

/-! ### == of flat lists and tuples -/
def eqVs : List V → List V → Bool
  | [], [] => true
  | x :: xs, y :: ys => eqV x y && eqVs xs ys
  | _, _ => false
def eAt (xs ys : List V) (j : Nat) : Bool := match xs[j]?, ys[j]? with
  | some x, some y => eqV x y
  | _, _ => false
theorem eAt_all : ∀ {xs ys : List V}, xs.length = ys.length → (List.range xs.length).all (eAt xs ys) = eqVs xs ys
  | [], [], _ => rfl
  | [], _ :: _, h => by simp at h
  | _ :: _, [], h => by simp at h
  | x :: xs, y :: ys, h => by
    have h' : xs.length = ys.length := by simpa using h
    rw [List.length_cons, List.range_succ_eq_map, List.all_cons, List.all_map]
    show (eqV x y && (List.range xs.length).all (eAt xs ys)) = _
    rw [eAt_all h']
    rfl
theorem eqVs_len : ∀ {xs ys : List V}, xs.length ≠ ys.length → eqVs xs ys = false
  | [], [], h => absurd rfl h
  | [], _ :: _, _ => rfl
  | _ :: _, [], _ => rfl
  | x :: xs, y :: ys, h => by
    show (eqV x y && eqVs xs ys) = false
    rw [eqVs_len (xs := xs) (ys := ys) (by simpa using h), Bool.and_false]
theorem eqVs_intL : ∀ (a b : List Int), eqVs (a.map V.int) (b.map V.int) = decide (a = b)
  | [], [] => rfl
  | [], _ :: _ => rfl
  | _ :: _, [] => rfl
  | x :: a, y :: b => by
    show ((x == y) && eqVs (a.map V.int) (b.map V.int)) = _
    rw [eqVs_intL a b]
    by_cases h1 : x = y <;> by_cases h2 : a = b <;> simp [h1, h2]
theorem all_get {p : V → Bool} {xs : List V} {i : Nat} {x : V} (h : xs.all p = true) (e : xs[i]? = some x) : p x = true := List.all_eq_true.mp h x (List.mem_of_getElem? e)
theorem eAt_at {A : Around} {s : Shared} {xs ys : List V} {us ws : List Value} (r1 : Vals xs us) (r2 : Vals ys ws) (f1 : xs.all flatV = true) (f2 : ys.all flatV = true) (j : Nat) (h1 : j < us.toArray.size) (h2 : j < ws.toArray.size) :
    SeqAt.EqAt A s us.toArray[j] ws.toArray[j] (eAt xs ys j) := by
  have l1 := r1.length
  have l2 := r2.length
  rw [List.size_toArray] at h1 h2
  have e1 : xs[j]? = some xs[j] := by simp
  have e2 : ys[j]? = some ys[j] := by simp
  obtain ⟨u, eu, ru⟩ := r1.get e1
  obtain ⟨w, ew, rw'⟩ := r2.get e2
  have q1 : us.toArray[j] = u := by
    have : us[j] = u := by rw [List.getElem?_eq_getElem h1] at eu; exact Option.some.inj eu
    simpa using this
  have q2 : ws.toArray[j] = w := by
    have : ws[j] = w := by rw [List.getElem?_eq_getElem h2] at ew; exact Option.some.inj ew
    simpa using this
  have q3 : eAt xs ys j = eqV xs[j] ys[j] := by unfold eAt; rw [e1, e2]
  rw [q1, q2, q3]
  exact eqAt_V ru rw' (all_get f1 e1) (all_get f2 e2)
section
variable {X : Cx}
def rEqL (K : PySem.W.Frag) (neg : Bool) : R2 := fun x y H Q => ∃ a b xs ys, x = .ref a ∧ y = .ref b ∧ SqL K H a xs ∧ SqL K H b ys ∧ xs.all flatV = true ∧ ys.all flatV = true ∧ Q (.bl (if neg then !eqVs xs ys else eqVs xs ys)) H
theorem op_eqL (hu : X.A.units < cLine) : OpR X (compareOp .Eq) (rEqL X.K false) := by
  intro pins s σ H x y v u Q I rx ry h
  obtain ⟨a, b, xs, ys, rfl, rfl, h1, h2, f1, f2, q⟩ := h
  cases rx
  cases ry
  obtain ⟨us, r1, p1, _⟩ := I.list h1
  obtain ⟨ws, r2, p2, _⟩ := I.list h2
  have l1 := r1.length
  have l2 := r2.length
  by_cases e : xs.length = ys.length
  · refine SeqAt.eq_listAt (e := eAt xs ys) p1.isList p2.isList (by simp only [List.size_toArray] <;> omega) hu (fun j k1 k2 => eAt_at r1 r2 f1 f2 j k1 k2) ⟨.bl _, H, I, ?_, q⟩
    rw [List.size_toArray, ← l1, eAt_all e]
    rfl
  · refine SeqAt.eq_list_lengthsAt p1.isList p2.isList (by simp only [List.size_toArray, bne_iff_ne, ne_eq] <;> omega) hu ⟨.bl _, H, I, ?_, q⟩
    rw [eqVs_len e]
    rfl
theorem op_neL (hu : X.A.units < cLine) : OpR X (compareOp .NotEq) (rEqL X.K true) := by
  intro pins s σ H x y v u Q I rx ry h
  obtain ⟨a, b, xs, ys, rfl, rfl, h1, h2, f1, f2, q⟩ := h
  cases rx
  cases ry
  obtain ⟨us, r1, p1, _⟩ := I.list h1
  obtain ⟨ws, r2, p2, _⟩ := I.list h2
  have l1 := r1.length
  have l2 := r2.length
  by_cases e : xs.length = ys.length
  · refine SeqAt.RcNeAt.lists (e := eAt xs ys) p1.isList p2.isList (by simp only [List.size_toArray] <;> omega) hu (fun j k1 k2 => eAt_at r1 r2 f1 f2 j k1 k2) _ _ _ _ ⟨.bl _, H, I, ?_, q⟩
    rw [List.size_toArray, ← l1, eAt_all e]
    rfl
  · refine SeqAt.RcNeAt.lists_lengths p1.isList p2.isList (by simp only [List.size_toArray, bne_iff_ne, ne_eq] <;> omega) hu _ _ _ _ ⟨.bl _, H, I, ?_, q⟩
    rw [eqVs_len e]
    rfl
end

/-! ### a text, sign by sign -/
section
variable {X : Cx} {tg : Expr}
end
/-- a text from its codes -/
abbrev txt (l : List Nat) : Str := ⟨l.toArray⟩
/-! ### slices of a text -/
section
variable {X : Cx}
def rSlS : V → Option Int → Option Int → Hp → VK → Prop := fun x lo hi H Q => ∃ z, x = .str z ∧ z.length ≤ sizeLine ∧ Q (.str (Txt.slice z lo hi)) H
theorem sl_str : SlR X rSlS := by
  intro pins s σ H x v vl vu lo hi sl Q I rx hs pl pu h
  obtain ⟨z, rfl, hz, q⟩ := h
  obtain ⟨t, rfl⟩ := rx
  have fin : ∀ t' k, EP X pins σ Q (.str (Txt.slice z lo hi) t') { s with toks := k } := fun t' k => ⟨.str _, H, I.tok _, ⟨t', rfl⟩, q⟩
  refine ⟨"str", _, F.slot_str_getitem.lookup, typeIs_str _ _ _, ?_⟩
  cases pl with
  | none =>
    cases pu with
    | none => exact wpAny_getItem_str_slice (l := none) (u := none) (st := none) hs rfl (post_val_or_str ⟨Nat.le_trans (Txt.slice_le z _ _) hz, fun t' k => fin t' k⟩)
    | int j tj => exact wpAny_getItem_str_slice (l := none) (u := some (j, tj)) (st := none) hs rfl (post_val_or_str ⟨Nat.le_trans (Txt.slice_le z _ _) hz, fun t' k => fin t' k⟩)
  | int i ti =>
    cases pu with
    | none => exact wpAny_getItem_str_slice (l := some (i, ti)) (u := none) (st := none) hs rfl (post_val_or_str ⟨Nat.le_trans (Txt.slice_le z _ _) hz, fun t' k => fin t' k⟩)
    | int j tj => exact wpAny_getItem_str_slice (l := some (i, ti)) (u := some (j, tj)) (st := none) hs rfl (post_val_or_str ⟨Nat.le_trans (Txt.slice_le z _ _) hz, fun t' k => fin t' k⟩)
end

/-! ### range(a, b, -1) -/
section
variable {X : Cx} {tg : Expr}
end
end L2

namespace L2
open PySem PySem.Spec PyProof.Rows
theorem slice_run (l : List Nat) (i j : Nat) (hij : i ≤ j) (hj : j ≤ l.length) {lo hi : Option Int} (h : Builtin.Str.strSliceIndices lo hi 1 l.length = sliceRange (i : Int) (j : Int) 1) : Txt.slice (⟨l.toArray⟩ : Str) lo hi = ⟨((l.drop i).take (j - i)).toArray⟩ := by
  unfold Txt.slice
  have hl : (⟨l.toArray⟩ : Str).length = l.length := by show l.toArray.size = _; simp
  rw [hl, h, sliceRange_one]
  by_cases e : (((List.range (j - i)).map (i + ·)).length == l.length) = true
  · rw [if_pos (by rw [e]; rfl)]
    have e' := beq_iff_eq.mp e
    rw [List.length_map, List.length_range] at e'
    have hi0 : i = 0 := by omega
    have hjl : j = l.length := by omega
    subst hi0 hjl
    simp
  · rw [if_neg (by simpa using e)]
    congr 2
    exact pick_run l.toArray i (j - i)
end L2

/-! DEFS IN ONE WORD: what a call of a def, a method, a class wants, as one hypothesis. -/
namespace L2
open PySem PySem.Spec PyProof.Rows
/-- no exception meets the wish that is False -/
structure NoE (CX : CXT) : Prop where
  no : ∀ outer H s e s', CX outer H s E0 e s' → False
theorem NoE.pass {CX : CXT} (h : NoE CX) {X : Cx} : Passes CX X E0 := fun _ _ _ _ _ _ _ z => (h.no _ _ _ _ _ z).elim
section
variable {P : Program} {w : World} {K : PySem.W.Frag} {mg : Str → Option Value} {base : Heap} {CX : CXT}
/-- a def from whose body no exception comes -/
theorem Fun.okN {x qual : Str} {st : Stmt} {f : Addr} {fd : FuncData} {N ps : List Str} {k : Nat} {sp : Sp} (F : Fun K x qual st f fd) (S : FnScope N ps (defScope st)) (len : ∀ vs H Q E, sp vs H Q E → vs.length = ps.length)
    (hbody : ∀ (cdv : Value) (A : Around) (outer : List Env) (s : Shared) (H : Hp) (vs : List V) (Q : VK) (E : XK), Room k (A.deeper (envOfC qual (defScope st) s.heap.objs.size f cdv)) → sp vs H Q E →
      ∃ t, PSs (cxOf CX P w K mg base N qual (defScope st) f cdv A outer s H E).nox (defBody st) t ∧ t { nx := fun _ H' => Q .non H', rt := Q } (start N vs) H) : FnOk P w K mg base CX (k + 1) f fd ps sp := by
  obtain ⟨oc, od, kV, doc, pm, an, cdv, ct, osl, rfl, lk, hcd⟩ := F.ex
  refine fn_of lk hcd S len fun A outer s H vs Q E hr hsp => ?_
  obtain ⟨t, h, q⟩ := hbody cdv A outer s H vs Q E hr hsp
  exact ⟨t, h.nox, q⟩
structure Def (P : Program) (w : World) (K : PySem.W.Frag) (mg : Str → Option Value) (base : Heap) (CX : CXT) (x : Str) (k : Nat) (ps : List Str) (sp : Sp) : Prop where
  ex : ∃ (f : Addr) (fd : FuncData), mg x = some (.ref f) ∧ PySem.W.keepIn K (.ref f) = true ∧ Binds K fd ps [] ∧ FnOk P w K mg base CX k f fd ps sp
structure MDef (P : Program) (w : World) (K : PySem.W.Frag) (mg : Str → Option Value) (base : Heap) (CX : CXT) (C : Addr) (m : Str) (k : Nat) (ps : List Str) (sp : Sp) : Prop where
  ex : ∃ (f : Addr) (fd : FuncData), Meth K C m f ∧ Binds K fd ps [] ∧ FnOk P w K mg base CX k f fd ps sp
structure CDef (P : Program) (w : World) (K : PySem.W.Frag) (mg : Str → Option Value) (base : Heap) (CX : CXT) (x : Str) (C : Addr) (k : Nat) (ps : List Str) (sp : Sp) : Prop where
  ex : ∃ (f : Addr) (fd : FuncData), mg x = some (.ref C) ∧ Mk K C f ∧ Binds K fd ps [] ∧ FnOk P w K mg base CX k f fd ps sp
end
section
variable {X : Cx} {CX : CXT} {k j : Nat} {C : Addr} {ps : List Str} {sp : Sp} {x m : Str} {p pos apos : Pos} {e o : Expr} {es : List Expr} {ta : TE} {t : TA}
theorem pe_callD (D : Def X.prog X.w X.K X.mg X.base CX x k ps sp) (hE : NoE CX) (hr : Room j X.A) (hg : Gl X x) (ha : PA X (e :: es) t) (hj : k ≤ j := by decide) (hdb : (x == ("__debug__" : Str)) = false := by decide)
    (he : starEach (e :: es) X.env = (false, eval e X.env) :: starEach es X.env := by rfl) (hpl : (backTo pos (starEach es X.env)).any (·.1) = false := by rfl) : PE X (.Call (.Name x p) (e :: es) [] pos) (tCall sp [] E0 t) := by
  obtain ⟨f, fd, hm, hk, hb, F⟩ := D.ex
  exact pe_call F (hr.mono hj) hg hm hk hb .nil hE.pass ha hdb he hpl
theorem pe_methD0 {pl : Sem Bool} (he : PE X o ta) (c : Cls X.K C) (D : MDef X.prog X.w X.K X.mg X.base CX C m k ps sp) (hE : NoE CX) (hr : Room j X.A) (hj : k ≤ j := by decide)
    (ht : eval (.Call (.Attribute o m apos) [] [] pos) X.env = (do
      let ov ← eval o X.env
      standAt apos.atName
      let (f, first) ← holding [ov] (getMethod ov m pl)
      callWith pos f first (backTo pos (starEach [] X.env)) (backToKw pos (keywordEach [] X.env))) := by rfl) :
    PE X (.Call (.Attribute o m apos) [] [] pos) (tMeth C m sp [] E0 ta tNil) := by
  obtain ⟨f, fd, hm, hb, F⟩ := D.ex
  exact pe_meth0 he c hm F (hr.mono hj) hb .nil hE.pass ht
theorem pe_makeD (D : CDef X.prog X.w X.K X.mg X.base CX x C k ps sp) (hE : NoE CX) (hr : Room j X.A) (hg : Gl X x) (ha : PA X (e :: es) t) (hj : k + 1 ≤ j := by decide) (hdb : (x == ("__debug__" : Str)) = false := by decide)
    (he : starEach (e :: es) X.env = (false, eval e X.env) :: starEach es X.env := by rfl) (hpl : (backTo pos (starEach es X.env)).any (·.1) = false := by rfl) : PE X (.Call (.Name x p) (e :: es) [] pos) (tMake C sp [] E0 t) := by
  obtain ⟨f, fd, hm, M, hb, F⟩ := D.ex
  exact pe_make M F (hr.mono hj) hg hm hb .nil hE.pass ha hdb he hpl
/-- a constant of the module -/
theorem pe_globE {v : V} (hg : Gl X x) (h : ∃ u, X.mg x = some u ∧ RelV v u) (hd : (x == ("__debug__" : Str)) = false := by decide) : PE X (.Name x pos) (tC v) := by
  obtain ⟨u, hm, r⟩ := h
  exact pe_glob hg hm r hd
end
theorem iteD {c A B : Prop} [Decidable c] (hc : c) (h : A) : if decide c = true then A else B := by rw [if_pos (decide_eq_true hc)]; exact h
theorem iteDn {c A B : Prop} [Decidable c] (hc : ¬ c) (h : B) : if decide c = true then A else B := by rw [if_neg (by rw [decide_eq_false hc]; exact Bool.false_ne_true)]; exact h
theorem iteD2 {c A B : Prop} [Decidable c] (h1 : c → A) (h2 : ¬ c → B) : if decide c = true then A else B := by
  by_cases hc : c
  · exact iteD hc (h1 hc)
  · exact iteDn hc (h2 hc)
abbrev nat (k : Nat) : V := .int (k : Int)
def natL (w : List Nat) : List V := w.map fun (k : Nat) => V.int (k : Int)
theorem natL_len (w : List Nat) : (natL w).length = w.length := by unfold natL; rw [List.length_map]
theorem natL_get {w : List Nat} {i c : Nat} (h : w[i]? = some c) : (natL w)[i]? = some (nat c) := by unfold natL; rw [List.getElem?_map, h]; rfl
theorem bt_int : bootBuiltins "int" = some (.type "int") := by decide +kernel
theorem bt_bool : bootBuiltins "bool" = some (.type "bool") := by decide +kernel
theorem bt_str : bootBuiltins "str" = some (.type "str") := by decide +kernel
theorem bt_list : bootBuiltins "list" = some (.type "list") := by decide +kernel
theorem bt_sorted : bootBuiltins "sorted" = some (.builtin "sorted") := by decide +kernel
theorem bt_isinstance : bootBuiltins "isinstance" = some (.builtin "isinstance") := by decide +kernel
end L2
namespace L2
open PySem PySem.Spec PyProof.Rows
theorem comp_range0 {fv : List (Str × Nat)} {σ : St} {te : TEB} {n : Nat} {H1 : Hp} {Q : VK} (f : Nat → V) (hn : n ≤ sizeLine)
    (el : ∀ (i : Nat) (H' : Hp) (R : VK), i < n → Same H1 H' → (∀ H2, Same H' H2 → R (f i) H2) → ∀ s₀ H₀ ex, te s₀ H₀ ex (blkS fv σ (some (nat i))) H' R)
    (fin : ∀ D H2, H1 D = none → Same H1 H2 → H2 D = some (.lst ((List.range n).map f)) → Q (.ref D) H2) : tCompJ fv te σ (Itr 0 n) H1 Q :=
  comp_range f hn (fun i H' R hi sm kk => by rw [Int.zero_add]; exact el i H' R hi sm kk) fin
theorem for_range0 {n : Nat} {g : TG} {tb : TS} {D : Ends} {σ : St} {H : Hp} (Pv : Nat → St → Hp → Prop) (h0 : Pv 0 σ H)
    (hs : ∀ i σ H, i < n → Pv i σ H → g (nat i) σ H fun σ2 H2 => tb { D with nx := Pv (i + 1), ct := Pv (i + 1), bk := D.nx } σ2 H2) (hd : ∀ σ H, Pv n σ H → D.nx σ H) :
    ∃ W : Nat → Nat → St → Hp → Prop, (∃ m, W 0 m σ H) ∧ ∀ i m σ H, W i m σ H →
      ((Itr 0 n).stop i H ∧ D.nx σ H) ∨ ((Itr 0 n).go i H ∧ ∃ N : St → Hp → Prop, (∀ σ' H', N σ' H' → ∃ m', m' < m ∧ W (i + 1) m' σ' H') ∧ ∀ x H', (Itr 0 n).yld i H x H' → g x σ H' fun σ2 H2 => tb { D with nx := N, ct := N, bk := D.nx } σ2 H2) :=
  for_range Pv h0 (fun i σ H hi p => by rw [Int.zero_add]; exact hs i σ H hi p) hd
theorem same_upd {H H' : Hp} {t : Addr} {o : HO} (s : Same H H') (ht : H t = none) : Same H (upd H' t o) := fun b u e => by rw [upd_ne (ne_of_none e ht)]; exact s b u e
theorem same_new {H : Hp} {t : Addr} {o : HO} (ht : H t = none) : Same H (upd H t o) := same_upd (Same.refl H) ht
theorem txt_len (l : List Nat) : (txt l).length = l.length := by show l.toArray.size = _; simp
theorem kit_same {K : PySem.W.Frag} {T : String} : PySem.W.kitOne K (.type T) (.type T) = some true := by
  unfold PySem.W.kitOne
  rw [if_pos (beq_self_eq_true _)]
theorem kit_ib {K : PySem.W.Frag} : PySem.W.kitOne K (.type "int") (.type "bool") = some false := by
  unfold PySem.W.kitOne
  rw [if_neg (by decide)]
  unfold PySem.W.kitCls PySem.W.subIn
  with_unfolding_all rfl
end L2

/-! what a step leaves of the third cell of an exception -/
namespace L2
open PySem PySem.Spec PyProof.Rows
def C2 (e : Addr) (h : Heap) : Prop := ∃ o vs, h.get? e = some o ∧ o.data = .fields vs ∧ vs[2]? = some Value.none
structure Kp (e : Addr) {α : Type} (t : Sem α) : Prop where
  at_ : ∀ (M : Model) (G : PySem.Ctx) (R : α → Pos → Shared → Prop) (Z : Value → Pos → Shared → Prop) (p : Pos) (s : Shared), Sem.wp M G t R Z p s → C2 e s.heap → Sem.wp M G t (fun a p s => R a p s ∧ C2 e s.heap) (fun v p s => Z v p s ∧ C2 e s.heap) p s
namespace Kp
variable {e : Addr} {α β : Type}
theorem ret (a : α) : Kp e (Pure.pure a : Sem α) := ⟨fun _ _ _ _ _ _ h c => ⟨h, c⟩⟩
theorem uns (w : String) : Kp e (PySem.unsupported w : Sem α) := ⟨fun _ _ _ _ _ _ h _ => h.elim⟩
theorem thn {m : Sem α} {f : α → Sem β} (hm : Kp e m) (hf : ∀ a, Kp e (f a)) : Kp e (m >>= f) := ⟨fun M G R Z p s h c => by
  rw [Sem.wp_bind'] at h ⊢
  exact Sem.wp_mono M G m (fun a q t z => (hf a).at_ M G R Z q t z.1 z.2) (fun _ _ _ z => z) p s (hm.at_ M G _ Z p s h c)⟩
theorem cond {c : Prop} [Decidable c] {t u : Sem α} (ht : Kp e t) (hu : Kp e u) : Kp e (if c then t else u) := by split <;> assumption
theorem look (a : Addr) : Kp e (PySem.load a) := ⟨fun _ _ _ _ _ _ ⟨o, h1, h2⟩ c => ⟨o, h1, h2, c⟩⟩
theorem stk : Kp e PySem.stack := ⟨fun M G R Z p s h c => by
  unfold PySem.stack at h ⊢
  rw [Sem.wp_stack] at h ⊢
  exact ⟨h, c⟩⟩
theorem new (o : Obj) : Kp e (PySem.alloc o) := ⟨fun _ _ _ _ _ _ h ⟨ob, vs, a, b, c⟩ => ⟨h, ob, vs, Heap.get?_push_of_some _ a, b, c⟩⟩
theorem c2_upd {h : Heap} {a : Addr} {f : Obj → Obj} (hf : ∀ o vs, o.data = .fields vs → vs[2]? = some Value.none → ∃ ws, (f o).data = .fields ws ∧ ws[2]? = some Value.none) (c : C2 e h) : C2 e (h.update a f) := by
  obtain ⟨o, vs, x, y, z⟩ := c
  by_cases q : a = e
  · subst q
    obtain ⟨ws, y2, z2⟩ := hf o vs y z
    exact ⟨_, ws, Heap.get?_update_self _ x (Obj.isFreed_of_fields y2), y2, z2⟩
  · exact ⟨o, vs, (Heap.get?_update_other _ _ q).trans x, y, z⟩
theorem upd {a : Addr} {f : Obj → Obj} (hf : ∀ o, (f o).data = o.data) : Kp e (PySem.update a f) := ⟨fun _ _ _ _ _ _ ⟨h1, h2⟩ c => ⟨h1, h2, c2_upd (fun o vs y z => ⟨vs, (hf o).trans y, z⟩) c⟩⟩
theorem fld (v : Value) (i : Nat) : Kp e (PySem.field v i) := ⟨fun M G R Z p s h c => by
  obtain ⟨a, o, vs, x, h1, h2, h3, h4, h5⟩ := (wp_field_iff G v i R Z p s).mp h
  exact (wp_field_iff G v i _ _ p s).mpr ⟨a, o, vs, x, h1, h2, h3, h4, h5, c⟩⟩
theorem sfl (v : Value) (i : Nat) (x : Value) (hi : i ≠ 2) : Kp e (PySem.setField v i x) := ⟨fun M G R Z p s h c => by
  obtain ⟨a, o, vs, h1, h2, h3, h4, h5⟩ := (wp_setField_iff G v i x R Z p s).mp h
  refine (wp_setField_iff G v i x _ _ p s).mpr ⟨a, o, vs, h1, h2, h3, h4, h5, c2_upd (fun o ws y z => ⟨_, Obj.data_mapFields y _, ?_⟩) c⟩
  rw [Array.getElem?_setIfInBounds_ne hi]
  exact z⟩
end Kp
section
variable {e : Addr}
theorem kp_import (env : Env) (outer : List Env) : Kp e (behindIsImport env outer) := by
  unfold behindIsImport
  repeat' first | exact Kp.ret _ | exact Kp.fld _ _ | apply Kp.cond | (apply Kp.thn; rotate_left; intro _) | split
theorem kp_claim : Kp e underTheClaimsCaller := by
  unfold underTheClaimsCaller
  exact Kp.thn Kp.stk fun _ => Kp.ret _
theorem kp_back (env : Env) (i : Bool) (l : List Env) : Kp e (keptBack env i l) := by
  cases l with
  | nil =>
    unfold keptBack
    exact Kp.cond (Kp.ret _) (Kp.thn kp_claim fun _ => Kp.ret _)
  | cons c l => unfold keptBack; exact Kp.ret _
theorem kp_ready : ∀ l : List Env, Kp e (readyFrames l)
  | [] => Kp.ret _
  | env :: outer => by
    have ih := kp_ready outer
    unfold readyFrames
    split
    · refine Kp.thn (Kp.look _) fun o => Kp.cond (Kp.ret _) ?_
      exact Kp.thn (kp_import env outer) fun i => Kp.thn (kp_back env i outer) fun b => Kp.thn (Kp.upd fun _ => rfl) fun _ => ih
    · exact Kp.uns _
theorem kp_fobj (l : List Env) : Kp e (frameObject l) := by
  cases l with
  | nil => exact Kp.ret _
  | cons c l => unfold frameObject; exact Kp.thn (kp_ready _) fun _ => Kp.ret _
theorem kp_frame (env : Env) : Kp e (PySem.frameOf env) := by
  unfold PySem.frameOf frameEnvs
  refine Kp.thn (Kp.thn Kp.stk fun _ => Kp.ret _) fun l => Kp.thn (kp_fobj _) fun r => ?_
  split
  · exact Kp.ret _
  · exact Kp.uns _
theorem kp_place (f : Addr) (b : Bool) : Kp e (entryPlaceOf f b) := by
  unfold entryPlaceOf
  refine Kp.thn Kp.stk fun l => ?_
  split
  · exact Kp.ret _
  · exact Kp.ret _
theorem kp_entry (a b c d f : Value) (l : List Value) : Kp e (EntryCells.newEntry a b c d f l) := by
  unfold EntryCells.newEntry newFields newObj
  repeat' first | exact Kp.ret _ | exact Kp.uns _ | exact Kp.new _ | apply Kp.cond | (apply Kp.thn; rotate_left; intro _) | split
theorem kp_flight (v : Value) (f : Option Addr) : Kp e (setFlight v f) := by
  unfold setFlight
  exact Kp.thn (Kp.fld _ _) fun x => Kp.cond (Kp.sfl _ _ _ (by decide)) (Kp.ret _)
theorem kp_note (v : Value) (env : Env) : Kp e (noteFrame v env) := by
  unfold noteFrame
  split
  · rename_i f _
    refine Kp.thn (Kp.fld _ _) fun hd => ?_
    have tl : Kp e (do PySem.setField v 1 (← EntryCells.newEntry hd (← PySem.frameOf env) .none (rawInt f) .none (← entryPlaceOf f (hd != .none)))) := Kp.thn (kp_frame env) fun a => Kp.thn (kp_place _ _) fun b => Kp.thn (kp_entry _ _ _ _ _ _) fun c => Kp.sfl _ _ _ (by decide)
    refine Kp.cond ?_ tl
    exact Kp.thn (Kp.fld _ _) fun x => Kp.cond (Kp.ret _) (Kp.thn (Kp.sfl _ _ _ (by decide)) fun _ => tl)
  · exact Kp.uns _
theorem kp_leave (v : Value) (env : Env) : Kp e (leaving env v) := by
  unfold leaving
  exact Kp.thn (kp_note v env) fun _ => kp_flight v none
theorem wpAny_kp {α : Type} {M : Model} {A : Around} {t : Sem α} {Q : α → Shared → Prop} {E : Value → Shared → Prop} {s : Shared} (k : Kp e t) (c : C2 e s.heap) (h : wpAny M A t Q E s) : wpAny M A t (fun a s => Q a s ∧ C2 e s.heap) (fun v s => E v s ∧ C2 e s.heap) s := fun G p hG => k.at_ M G _ _ p s (h G p hG) c
end
end L2

/-! EXCEPTIONS: how one lies behind a call, a raise, a try with one clause. -/
namespace L2
open PySem PySem.Spec PyProof.Rows
/-- what B, the heap that stays while an exception flies, holds of h: all but the frames -/
structure UnB (fs : List Addr) (H H' : Hp) (h B : Heap) : Prop where
  keep : ∀ b o, h.get? b = some o → H b = none → b ∉ fs → B.get? b = some o
  free : ∀ b o, h.get? b = some o → H b = none → H' b = none
  there : ∀ b o, h.get? b = some o → b ∉ fs → ∃ o', B.get? b = some o'
  tups : ∀ b xs, H b = some (.tup xs) → H' b = some (.tup xs)
  frzs : ∀ b o u, H b = some (.frz o u) → H' b = some (.frz o u)
  tbls : ∀ b ps, H b = some (.tbl ps) → ∃ more, H' b = some (.tbl (ps ++ more))
def Slots (fs : List Addr) (h h' : Heap) : Prop := ∀ b ∈ fs, ∀ o, h.get? b = some o → (∀ vs, o.data ≠ .fields vs) → ∃ sl, h'.get? b = some { o with slots := sl }
theorem Slots.up {fs : List Addr} {h h1 h2 : Heap} (a : Slots fs h h1) (b : h1.UpToSlots h2) : Slots fs h h2 := fun c hc o e d => by
  obtain ⟨sl, e1⟩ := a c hc o e d
  obtain ⟨sl2, e2⟩ := b c _ e1 d
  exact ⟨sl2, e2⟩
theorem UnB.un {fs : List Addr} {H H' : Hp} {h B h' : Heap} (u : UnB fs H H' h B) (st : B.StaysIn h') (sl : Slots fs h h') (hfs : ∀ b ∈ fs, ∃ o, h.get? b = some o ∧ ∀ vs, o.data ≠ .fields vs) : Un fs [] H H' h h' where
  keep := fun b o e n hb _ => st b o (u.keep b o e n hb)
  slot := fun b o e n hb _ => by
    obtain ⟨o2, e2, d⟩ := hfs b hb
    rw [e] at e2; cases e2
    exact sl b hb o e d
  free := fun b o e n _ => u.free b o e n
  there := fun b o e _ => by
    by_cases hb : b ∈ fs
    · obtain ⟨o2, e2, d⟩ := hfs b hb
      rw [e] at e2; cases e2
      obtain ⟨s2, e3⟩ := sl b hb o e d
      exact ⟨_, e3⟩
    · obtain ⟨o2, e2⟩ := u.there b o e hb
      exact ⟨o2, st b o2 e2⟩
  tups := u.tups
  frzs := u.frzs
  tbls := u.tbls
/-- an exception at a, of the class cls, flies to the frames of outer; s, H ahead of the call, H' the abstract heap now -/
structure Fly (P : Program) (w : World) (outer : List Env) (H : Hp) (s : Shared) (a : Addr) (cls : Value) (H' : Hp) (s' : Shared) : Prop where
  ex : ∃ B a0, UnB (frs outer) H H' s.heap B ∧ HOk P w H' B ∧ Heap.FlyingW B outer a cls a0 s'.heap
  os : s'.os = s.os
  bare : AllBare s'.gens
  slot : Slots (frs outer) s.heap s'.heap
def CXR (P : Program) (w : World) : CXT := fun outer H s E e s' => ∃ a cls H' d, e = .ref a ∧ Fly P w outer H s a cls H' s' ∧ (d ≠ none → C2 a s'.heap) ∧ E cls d H'
theorem noER {P : Program} {w : World} : NoE (CXR P w) := ⟨fun _ _ _ _ _ ⟨_, _, _, _, _, _, _, z⟩ => z⟩
/-- an exception of a callee, one made here, reach what is wanted -/
structure Exits (CX : CXT) (X : Cx) (E : XK) : Prop where
  pass : Passes CX X E
  made : ∀ (pins : List (Addr × Obj)) (σ : St) (H : Hp) (s : Shared) (h' : Heap) (e : Addr) (cls : Value) (vs : List Value) {d : Option Addr}, Inv X pins σ H s → Heap.MadeExcOf s.heap h' e cls vs → E cls d H → X.xe (.ref e) { s with heap := h' }
section
variable {P : Program} {w : World} {K : PySem.W.Frag} {mg : Str → Option Value} {base : Heap} {N : List Str} {qual : Str} {scope : Scope} {f : Addr} {cd : Value} {A : Around} {outer : List Env} {s0 : Shared} {H0 : Hp} {E : XK}
theorem frs_cons {env : Env} {L : Addr} {l : List Env} (h : env.frame = some L) : frs (env :: l) = L :: frs l := by unfold frs; rw [List.filterMap_cons, h]
theorem frs_frame {l : List Env} : ∀ env ∈ l, ∀ b, env.frame = some b → b ∈ frs l := fun env he b hb => List.mem_filterMap.mpr ⟨env, he, hb⟩
section
variable {CX : CXT} {pins : List (Addr × Obj)} {σ : St} {H H' : Hp} {s : Shared} {B : Heap}
theorem unb_out (I : Inv (cxOf CX P w K mg base N qual scope f cd A outer s0 H0 E) pins σ H s) (U : UnB (frs (envOfC qual scope s0.heap.objs.size f cd :: outer)) H H' s.heap B) : UnB (frs outer) H0 H' s0.heap B := by
  have ub := I.base
  have nex : ∀ b : Addr, b ∉ (cxOf CX P w K mg base N qual scope f cd A outer s0 H0 E).ex := fun b z => by cases z
  have fr : frs (envOfC qual scope s0.heap.objs.size f cd :: outer) = s0.heap.objs.size :: frs outer := frs_cons rfl
  have nl : ∀ b o, s0.heap.get? b = some o → b ∉ frs outer → b ∉ frs (envOfC qual scope s0.heap.objs.size f cd :: outer) := fun b o e hb z => by
    rw [fr] at z
    rcases List.mem_cons.mp z with z | z
    · exact Nat.ne_of_lt (Heap.lt_size e) z
    · exact hb z
  refine ⟨fun b o e n hb => ?_, fun b o e n => ?_, fun b o e hb => ?_, fun b xs e => U.tups b xs (ub.tups b xs e), fun b o u e => U.frzs b o u (ub.frzs b o u e), fun b ps e => ?_⟩
  · exact U.keep b o (ub.keep b o e n hb (nex b)) (ub.free b o e n (nex b)) (nl b o e hb)
  · obtain ⟨o2, e2⟩ := ub.there b o e (nex b)
    exact U.free b o2 e2 (ub.free b o e n (nex b))
  · obtain ⟨o2, e2⟩ := ub.there b o e (nex b)
    exact U.there b o2 e2 (nl b o e hb)
  · obtain ⟨m1, e1⟩ := ub.tbls b ps e
    obtain ⟨m2, e2⟩ := U.tbls b _ e1
    exact ⟨m1 ++ m2, by rw [e2, Array.append_assoc]⟩
theorem slots_out (I : Inv (cxOf CX P w K mg base N qual scope f cd A outer s0 H0 E) pins σ H s) {h' : Heap} (S : Slots (frs (envOfC qual scope s0.heap.objs.size f cd :: outer)) s.heap h') : Slots (frs outer) s0.heap h' := fun b hb o e d => by
  have nex : b ∉ (cxOf CX P w K mg base N qual scope f cd A outer s0 H0 E).ex := fun z => by cases z
  obtain ⟨sl, e1⟩ := I.base.slot b o e (I.ok.frf b hb) hb nex
  obtain ⟨sl2, e2⟩ := S b (by rw [frs_cons (L := s0.heap.objs.size) rfl]; exact List.mem_cons_of_mem _ hb) _ e1 d
  exact ⟨sl2, e2⟩
end
theorem exitsR : Exits (CXR P w) (cxOf (CXR P w) P w K mg base N qual scope f cd A outer s0 H0 E) E where
  pass := by
    rintro pins σ H s e s' I ⟨a, cls, H', d, rfl, F, hd, hE⟩
    obtain ⟨B, a0, U, ok, fl⟩ := F.ex
    by_cases cd : d = none
    · exact wpAny_leaves_onW I.ok.frames rfl fl fun h2 fl2 up => ⟨a, cls, H', d, rfl, ⟨⟨B, a0, unb_out I U, ok, fl2⟩, F.os.trans I.os, F.bare, slots_out I (F.slot.up up)⟩, fun z => absurd cd z, hE⟩
    refine wpAny_mono (wpAny_kp (kp_leave (.ref a) _) (hd cd) (wpAny_leaves_onW (Q := fun _ s2 => ∃ h2, s2 = { s' with heap := h2 } ∧ Heap.FlyingW B outer a cls a0 h2 ∧ s'.heap.UpToSlots h2) (E := fun _ _ => False) I.ok.frames rfl fl fun h2 fl2 up => ⟨h2, rfl, fl2, up⟩)) (fun _ s2 z => ?_) fun _ _ z => z.1.elim
    obtain ⟨⟨h2, rfl, fl2, up⟩, c⟩ := z
    exact ⟨a, cls, H', d, rfl, ⟨⟨B, a0, unb_out I U, ok, fl2⟩, F.os.trans I.os, F.bare, slots_out I (F.slot.up up)⟩, fun _ => c, hE⟩
  made := by
    intro pins σ H s h' e cls vs d I hm hE
    have hst := I.stack
    have nf : ∀ b u, H b = some u → b ∉ frs (envOfC qual scope s0.heap.objs.size f cd :: outer) := fun b u hb z => by
      have := I.stkFree b z
      rw [hb] at this; cases this
    have ok : HOk P w H (PySem.W.hideAll s.heap (frs (envOfC qual scope s0.heap.objs.size f cd :: outer))) := fun b u hb =>
      (I.hok b u hb).stay (fun c v hc q => PySem.W.hideAll_get _ q (by
        rcases hc with rfl | hc
        · exact nf _ _ hb
        · exact nf _ _ hc)) (fun _ q => q) fun _ _ q => q
    have U : UnB (frs (envOfC qual scope s0.heap.objs.size f cd :: outer)) H H s.heap (PySem.W.hideAll s.heap (frs (envOfC qual scope s0.heap.objs.size f cd :: outer))) :=
      ⟨fun b o q _ hb => PySem.W.hideAll_get _ q hb, fun _ _ _ n => n, fun b o q hb => ⟨o, PySem.W.hideAll_get _ q hb⟩, fun _ _ q => q, fun _ _ _ q => q, fun _ ps q => ⟨#[], by rw [q]; simp⟩⟩
    have c0 : C2 e h' := by
      obtain ⟨t, ht, _, _⟩ := hm.there
      exact ⟨_, _, ht, rfl, rfl⟩
    refine wpAny_mono (wpAny_kp (s := { s with heap := h' }) (kp_leave (.ref e) _) c0 (wpAny_leaves_madeW (Q := fun _ s2 => ∃ h2 t, s2 = { s with heap := h2 } ∧ Heap.FlyingW (PySem.W.hideAll s.heap (frs (envOfC qual scope s0.heap.objs.size f cd :: outer))) outer e cls (.ref t) h2 ∧ h'.UpToSlots h2) (E := fun _ _ => False) (h := s.heap) I.ok.frames rfl (fun b o q => PySem.W.of_hideAll _ q) (PySem.W.funFrames_hide hst frs_frame) hm fun h2 t fl tp tn up => ⟨h2, t, rfl, fl, up⟩)) (fun _ s2 z => ?_) fun _ _ z => z.1.elim
    obtain ⟨⟨h2, t, rfl, fl, up⟩, c2⟩ := z
    refine ⟨e, cls, H, d, rfl, ⟨⟨_, _, unb_out I U, ok, fl⟩, I.os, I.bare, slots_out I fun b hb o q dd => ?_⟩, fun _ => c2, hE⟩
    obtain ⟨sl, e2⟩ := up b o (hm.keeps b o q) dd
    exact ⟨sl, e2⟩
end
end L2

namespace L2
open PySem PySem.Spec PyProof.Rows
section
variable {X : Cx} {CX : CXT} {E : XK} {x : Str} {C : Addr} {j : Nat} {p pos cpos np : Pos} {e : Expr} {es : List Expr} {t : TA} {te : TE}
/-! ### raise C(e, ..) -/
def tRaise (C : Addr) (E : XK) (t : TA) : TS := fun _ σ H => t σ H fun vs H1 => vs.length ≤ sizeLine ∧ E (.ref C) none H1
theorem ps_raise {bm : List Value} {B newId initId : String} (hx : Exits CX X E) (O : OwnCls x C bm newId X.mg X.base) (FB : ExcBaseFacts B newId initId bm) (hr : Room j X.A) (hg : Gl X x) (ha : PA X (e :: es) t)
    (hdb : (x == ("__debug__" : Str)) = false := by decide) (he : starEach (e :: es) X.env = (false, eval e X.env) :: starEach es X.env := by rfl) (hpl : (backTo cpos (starEach es X.env)).any (·.1) = false := by rfl) :
    PS X (.Raise (some (.Call (.Name x np) (e :: es) [] cpos)) none pos) (tRaise C E t) := by
  intro pins s σ H D I h
  obtain ⟨tl, ns, nm, qn, bs, hdct, sn, sub, ab, col, dd, k0, k1, k2, k3, k5, mN, hC, hN, hni, T⟩ := O.obj
  have pl : (backTo cpos (starEach (e :: es) X.env)).any (·.1) = false := by
    rw [he]
    show (false || (backTo cpos (starEach es X.env)).any (·.1)) = false
    rw [hpl]; rfl
  refine wpAny_Raise_call_subT (nm := nm) (q := qn) (N := ns) (bs := bs) (bm := tl) (hdct := hdct) (sn := sn) (sub := sub) (ab := ab) (col := col) (dd := dd) (k0 := k0) (k1 := k1) (k2 := k2) (k3 := k3) (k5 := k5) FB (mN := mN) (T.hasType FB.hasBase) hr.hd pl hni
    (ld_glob I hg O.bound ⟨rfl, ?_⟩ hdb)
  have go := ha cpos pins s σ H _ I h
  rw [he] at go ⊢
  exact Calls.evalArgs_plain (thn go fun us s2 ⟨vs, H1, I1, r, z, q⟩ => ⟨rfl, by rw [← r.length]; exact z, I1.bk _ _ hC, hN.keeps I1.bk, T.keeps I1.bk, fun h' a hm => hx.made pins σ H1 s2 h' a _ _ I1 hm q⟩)
def tRaiseK (C : Addr) (E : XK) (t : TA) : TS := fun _ σ H => t σ H fun vs H1 => vs.length ≤ sizeLine ∧ E (.ref C) (some 1) H1
theorem ps_raiseK {bm : List Value} {B newId initId : String} (hx : Exits CX X E) (O : OwnCls x C bm newId X.mg X.base) (FB : ExcBaseFacts B newId initId bm) (hr : Room j X.A) (hg : Gl X x) (ha : PA X (e :: es) t)
    (hdb : (x == ("__debug__" : Str)) = false := by decide) (he : starEach (e :: es) X.env = (false, eval e X.env) :: starEach es X.env := by rfl) (hpl : (backTo cpos (starEach es X.env)).any (·.1) = false := by rfl) :
    PS X (.Raise (some (.Call (.Name x np) (e :: es) [] cpos)) none pos) (tRaiseK C E t) := by
  intro pins s σ H D I h
  obtain ⟨tl, ns, nm, qn, bs, hdct, sn, sub, ab, col, dd, k0, k1, k2, k3, k5, mN, hC, hN, hni, T⟩ := O.obj
  have pl : (backTo cpos (starEach (e :: es) X.env)).any (·.1) = false := by
    rw [he]
    show (false || (backTo cpos (starEach es X.env)).any (·.1)) = false
    rw [hpl]; rfl
  refine wpAny_Raise_call_subT (nm := nm) (q := qn) (N := ns) (bs := bs) (bm := tl) (hdct := hdct) (sn := sn) (sub := sub) (ab := ab) (col := col) (dd := dd) (k0 := k0) (k1 := k1) (k2 := k2) (k3 := k3) (k5 := k5) FB (mN := mN) (T.hasType FB.hasBase) hr.hd pl hni
    (ld_glob I hg O.bound ⟨rfl, ?_⟩ hdb)
  have go := ha cpos pins s σ H _ I h
  rw [he] at go ⊢
  exact Calls.evalArgs_plain (thn go fun us s2 ⟨vs, H1, I1, r, z, q⟩ => ⟨rfl, by rw [← r.length]; exact z, I1.bk _ _ hC, hN.keeps I1.bk, T.keeps I1.bk, fun h' a hm => hx.made pins σ H1 s2 h' a _ _ I1 hm q⟩)
/-! ### f-strings, whose words nobody asks; n: the text by now has at most n signs -/
abbrev TJ := St → Hp → Nat → (Hp → Prop) → Prop
def PJ (X : Cx) (es : List Expr) (t : TJ) : Prop :=
  ∀ (pins : List (Addr × Obj)) (s : Shared) (σ : St) (H : Hp) (acc : Str) (n : Nat) (R : Hp → Prop), Inv X pins σ H s → acc.length ≤ n → t σ H n R →
    Joins (model X.prog X.w) X.A X.xe (evalEach es X.env) acc (fun out s1 => out.length ≤ sizeLine ∧ ∃ H1, Inv X pins σ H1 s1 ∧ R H1) s
def tjNil : TJ := fun _ H n R => n ≤ sizeLine ∧ R H
theorem pj_nil : PJ X [] tjNil := fun _ s σ H acc n R I hl h => ⟨Nat.le_trans hl h.1, H, I, h.2⟩
/-- a written part; an int; a text; the repr of a text -/
def tjC (m : Nat) (tj : TJ) : TJ := fun σ H n R => n + m ≤ sizeLine ∧ tj σ H (n + m) R
def tjI (te : TE) (tj : TJ) : TJ := fun σ H n R => te σ H fun x H1 => ∃ i : Int, x = .int i ∧ i.natAbs.log2 < 1920 ∧ n + 1921 ≤ sizeLine ∧ tj σ H1 (n + 1921) R
def tjS (te : TE) (tj : TJ) : TJ := fun σ H n R => te σ H fun x H1 => ∃ y : Str, x = .str y ∧ y.length ≤ 1000 ∧ n + 1000 ≤ sizeLine ∧ tj σ H1 (n + 1000) R
def tjR (te : TE) (tj : TJ) : TJ := fun σ H n R => te σ H fun x H1 => ∃ y : Str, x = .str y ∧ y.length ≤ 1000 ∧ (∀ c ∈ y.cps.toList, c < 16 ^ 8) ∧ n + 10002 ≤ sizeLine ∧ tj σ H1 (n + 10002) R
section
variable {tj : TJ}
/-- a part is told: the rest goes on -/
theorem pj_on (hr : PJ X es tj) {pins : List (Addr × Obj)} {s : Shared} {σ : St} {H : Hp} {acc y : Str} {n m : Nat} {R : Hp → Prop} {tk : Tok} (I : Inv X pins σ H s) (hl : acc.length ≤ n) (hy : y.length ≤ m) (hz : n + m ≤ sizeLine) (q : tj σ H (n + m) R) :
    ∃ y' t, Value.str y tk = .str y' t ∧ (acc ++ y').length ≤ sizeLine ∧ Joins (model X.prog X.w) X.A X.xe (evalEach es X.env) (acc ++ y') (fun out s1 => out.length ≤ sizeLine ∧ ∃ H1, Inv X pins σ H1 s1 ∧ R H1) s := by
  have el : (acc ++ y).length = acc.length + y.length := strLen_append ..
  exact ⟨y, tk, rfl, by rw [el]; omega, hr pins s σ H (acc ++ y) (n + m) R I (by rw [el]; omega) q⟩
theorem pj_cst {x : Str} {kk} (hr : PJ X es tj) (hx : x.length ≤ 1000 := by decide +kernel) (hs : evalEach (.Constant (.str x) kk pos :: es) X.env = eval (.Constant (.str x) kk pos) X.env :: evalEach es X.env := by rfl) : PJ X (.Constant (.str x) kk pos :: es) (tjC 1000 tj) := by
  intro pins s σ H acc n R I hl hq
  rw [hs]
  exact Calls.Constant_str (pj_on hr (I.tok _) hl hx hq.1 hq.2)
theorem pj_int (h : PE X e te) (hr : PJ X es tj) (hs : evalEach (.FormattedValue e (-1) none pos :: es) X.env = eval (.FormattedValue e (-1) none pos) X.env :: evalEach es X.env := by rfl) : PJ X (.FormattedValue e (-1) none pos :: es) (tjI te tj) := by
  intro pins s σ H acc n R I hl hq
  rw [hs]
  refine wpAny_FormattedValue_plain (thn (h pins s σ H _ I hq) fun u s1 ⟨x, H1, I1, r, i, ex, hb, hz, k⟩ => ?_)
  subst ex
  obtain ⟨tk, rfl⟩ := r
  exact wpAny_formatField_int hb (pj_on hr (I1.tok _) hl (int_text_len_1921 hb) hz k)
theorem pj_str (h : PE X e te) (hr : PJ X es tj) (hs : evalEach (.FormattedValue e (-1) none pos :: es) X.env = eval (.FormattedValue e (-1) none pos) X.env :: evalEach es X.env := by rfl) : PJ X (.FormattedValue e (-1) none pos :: es) (tjS te tj) := by
  intro pins s σ H acc n R I hl hq
  rw [hs]
  refine wpAny_FormattedValue_plain (thn (h pins s σ H _ I hq) fun u s1 ⟨x, H1, I1, r, y, ex, hb, hz, k⟩ => ?_)
  subst ex
  obtain ⟨tk, rfl⟩ := r
  have big : 2000000 ≤ sizeLine := by decide
  exact formatField_str (fun t' tk => pj_on hr (I1.tok _) hl hb hz k) (by omega)
theorem pj_rep (h : PE X e te) (hr : PJ X es tj) (hs : evalEach (.FormattedValue e 114 none pos :: es) X.env = eval (.FormattedValue e 114 none pos) X.env :: evalEach es X.env := by rfl) : PJ X (.FormattedValue e 114 none pos :: es) (tjR te tj) := by
  intro pins s σ H acc n R I hl hq
  rw [hs]
  refine wpAny_FormattedValue_repr (thn (h pins s σ H _ I hq) fun u s1 ⟨x, H1, I1, r, y, ex, hb, hc, hz, k⟩ => ?_)
  subst ex
  obtain ⟨tk, rfl⟩ := r
  have len := StrLaws.reprText_len y hc
  have big : 2000000 ≤ sizeLine := by decide
  have fit : (reprText y).length ≤ sizeLine := by omega
  exact pyReprObj_str (formatField_str (fun t' tk => pj_on hr (I1.tok _) hl (by omega) hz k) fit) fit
end
def tJoin (tj : TJ) : TE := fun σ H Q => tj σ H 0 fun H1 => ∀ y, Q (.str y) H1
theorem pe_join {e2 : Expr} {tj : TJ} (h : PJ X (e :: e2 :: es) tj) : PE X (.JoinedStr (e :: e2 :: es) pos) (tJoin tj) := by
  intro pins s σ H Q I hq
  refine wpAny_JoinedStr (joins_mono (h pins s σ H Str.empty 0 _ I (Nat.le_refl _) hq) fun out s1 ⟨hl, H1, I1, q⟩ => ⟨hl, .str out, H1, I1.tok _, ⟨_, rfl⟩, q out⟩)
where
  joins_mono {M : Model} {A : Around} {E : Value → Shared → Prop} : ∀ {l : List (Sem Value)} {acc : Str} {Q Q' : Str → Shared → Prop} {s : Shared}, Joins M A E l acc Q s → (∀ o s, Q o s → Q' o s) → Joins M A E l acc Q' s
    | [], _, _, _, _, h, f => f _ _ h
    | _ :: _, _, _, _, _, h, f => thn h fun _ _ ⟨y, t, e, z, r⟩ => ⟨y, t, e, z, joins_mono r f⟩
end
end L2

namespace L2
open PySem PySem.Spec PyProof.Rows
/-- an exception of a callee, called where the names are σ -/
structure ExitsS (CX : CXT) (X : Cx) (E : St → XK) : Prop where
  pass : ∀ (pins : List (Addr × Obj)) (σ : St) (H : Hp) (s : Shared) (e : Value) (s' : Shared), Inv X pins σ H s → CX X.stack H s (E σ) e s' → X.xe e s'
theorem Exits.s {CX : CXT} {X : Cx} {E : XK} (h : Exits CX X E) : ExitsS CX X fun _ => E := ⟨h.pass⟩
def tCallX (sp : Sp) (E : St → XK) (t : TA) : TE := fun σ H Q => t σ H fun vs H1 => sp vs H1 Q (E σ)
def tMakeX (C : Addr) (sp : Sp) (E : St → XK) (t : TA) : TE := fun σ H Q => t σ H fun vs H1 => ∀ x dx, H1 x = none → H1 dx = none → dx ≠ x →
  sp (.ref x :: vs) (upd (upd H1 dx (.own x)) x (.ins C dx [])) (fun v H2 => v = .non ∧ Q (.ref x) H2) (E σ)
section
variable {X : Cx} {CX : CXT} {k j : Nat} {f C : Addr} {fd : FuncData} {ps : List Str} {sp : Sp} {E : St → XK} {x m : Str} {p pos apos : Pos} {e o : Expr} {es : List Expr} {ta : TE} {t : TA}
theorem run_fnX {pins : List (Addr × Obj)} {σ : St} {H : Hp} {s : Shared} {Q : VK} {us : List Value} {vs : List V} (F : FnOk X.prog X.w X.K X.mg X.base CX k f fd ps sp) (hr : Room k X.A) (hb : Binds X.K fd ps []) (hx : ExitsS CX X E)
    (I : Inv X pins σ H s) (r : Vals vs us) (h : sp vs H Q (E σ)) : wpAny (model X.prog X.w) X.A (call (.ref f) us) (EP X pins σ Q) X.xe s := by
  have hl : (us ++ []).length = ps.length := by rw [List.append_nil, ← r.length]; exact F.len _ _ _ _ h
  have hb' := hb s us I.kIn hl
  rw [List.append_nil] at hb'
  refine wpAny_call (codeAny_mono (F.run X.A X.stack s H ⟨us, []⟩ us vs Q (E σ) hr I.env0 hb' r h) fun res s' hq => ?_)
  cases res with
  | error e => exact hx.pass pins σ H s e s' I hq
  | ok fl =>
    cases fl with
    | ret u => exact I.after hq
    | next => cases hq
    | brk => cases hq
    | cont => cases hq
theorem pe_callX (D : Def X.prog X.w X.K X.mg X.base CX x k ps sp) (hx : ExitsS CX X E) (hr : Room j X.A) (hg : Gl X x) (ha : PA X (e :: es) t) (hj : k ≤ j := by decide) (hdb : (x == ("__debug__" : Str)) = false := by decide)
    (he : starEach (e :: es) X.env = (false, eval e X.env) :: starEach es X.env := by rfl) (hpl : (backTo pos (starEach es X.env)).any (·.1) = false := by rfl) : PE X (.Call (.Name x p) (e :: es) [] pos) (tCallX sp E t) := by
  obtain ⟨f, fd, hm, hk, hb, F⟩ := D.ex
  intro pins s σ H Q I h
  refine wpAny_Call_Name_kw (ld_glob I hg hm ?_ hdb)
  refine PySem.W.callWith_K (h₀ := X.base) I.ok.mod.kin hk (thn (ha pos pins s σ H _ I h) fun us s1 z => ?_) he hpl
  obtain ⟨vs, H1, I1, r, q⟩ := z
  exact ⟨I1.kIn, run_fnX F (hr.mono hj) hb hx I1 r q⟩
theorem pe_makeX (D : CDef X.prog X.w X.K X.mg X.base CX x C k ps sp) (hx : ExitsS CX X E) (hr : Room j X.A) (hg : Gl X x) (ha : PA X (e :: es) t) (hj : k + 1 ≤ j := by decide) (hdb : (x == ("__debug__" : Str)) = false := by decide)
    (he : starEach (e :: es) X.env = (false, eval e X.env) :: starEach es X.env := by rfl) (hpl : (backTo pos (starEach es X.env)).any (·.1) = false := by rfl) :
    PE X (.Call (.Name x p) (e :: es) [] pos) (tMakeX C sp E t) := by
  obtain ⟨f, fd, hm, M, hb, F⟩ := D.ex
  intro pins s σ H Q I h
  refine wpAny_Call_Name_kw (ld_glob I hg hm ?_ hdb)
  refine PySem.W.callWith_K (h₀ := X.base) I.ok.mod.kin M.kp (thn (ha pos pins s σ H _ I h) fun us s1 z => ?_) he hpl
  obtain ⟨vs, H1, I1, r, q⟩ := z
  refine ⟨I1.kIn, ?_⟩
  have hq := q (s1.heap.objs.size + 1) s1.heap.objs.size (I1.hok.fresh (Nat.le_succ _)) (I1.hok.fresh (Nat.le_refl _)) (Nat.ne_of_lt (Nat.lt_succ_self _))
  have I2 := Inv.made (C := C) I1
  have r2 : Vals (V.ref (s1.heap.objs.size + 1) :: vs) (Value.ref (s1.heap.objs.size + 1) :: us) := .cons rfl r
  have hl : (Value.ref (s1.heap.objs.size + 1) :: us ++ []).length = ps.length := by
    have e1 := r2.length
    rw [F.len _ _ _ _ hq] at e1
    rw [List.append_nil]; exact e1.symm
  have hb' := hb _ (Value.ref (s1.heap.objs.size + 1) :: us) I2.kIn hl
  rw [List.append_nil] at hb'
  have hr' : Room (k + 1) X.A := hr.mono hj
  refine wpAny_call (make_map (f := f) I1.kIn M.makes M.init (beq_iff_eq.mp M.fn) (codeAny_mono (F.run _ X.stack _ _ ⟨Value.ref (s1.heap.objs.size + 1) :: us, []⟩ _ _ _ (E σ) (hr'.make C us []) (I2.env0.make C us []) hb' r2 hq) fun res s' hq' => ?_))
  cases res with
  | error e1 => exact hx.pass pins σ _ _ e1 s' I2 hq'
  | ok fl =>
    cases fl with
    | ret u =>
      obtain ⟨v, H', I3, rv, ev, q3⟩ := I2.after hq'
      subst ev
      exact ⟨rv, ⟨V.ref (s1.heap.objs.size + 1), H', I3, rfl, q3⟩⟩
    | next => cases hq'
    | brk => cases hq'
    | cont => cases hq'
end
/-! ### try: .. except K as n: .. -/
/-- within the try: what every state bears; an exception of a callee -/
abbrev Cx.tryX (X : Cx) (pins : List (Addr × Obj)) (E : St → XK) : Cx := { X with pn := X.pn ++ pins, xe := fun e s' => ∃ σ H s, Inv X pins σ H s ∧ CXR X.prog X.w X.stack H s (E σ) e s' }
/-- within the clause -/
abbrev Cx.markX (X : Cx) (a : Addr) : Cx := { X with A := X.A.mark (some (.ref a)), calm := false, xe := fun _ _ => False }
section
variable {X : Cx} {pins pins' : List (Addr × Obj)} {σ : St} {H H' : Hp} {s : Shared} {E : St → XK} {a : Addr}
theorem Inv.toTry (I : Inv X pins σ H s) : Inv (X.tryX pins E) [] σ H s :=
  ⟨⟨I.ok.mod, I.ok.kind, I.ok.glob, I.ok.blt, I.ok.above, I.ok.inj, I.ok.has, I.ok.cab, I.ok.hd, I.ok.frames, I.ok.stk, I.ok.exf, I.ok.bs, I.ok.bsz, I.ok.noex, I.ok.exfs, I.ok.funs, I.ok.frf⟩, I.os, I.bare, I.base, I.loc, I.cell, I.free, I.freeC,
    fun p hp => I.pin p (by rw [List.append_nil] at hp; exact hp), I.hok, I.len⟩
theorem Inv.ofTry (I : Inv (X.tryX pins E) pins' σ H s) : Inv X pins σ H s :=
  ⟨⟨I.ok.mod, I.ok.kind, I.ok.glob, I.ok.blt, I.ok.above, I.ok.inj, I.ok.has, I.ok.cab, I.ok.hd, I.ok.frames, I.ok.stk, I.ok.exf, I.ok.bs, I.ok.bsz, I.ok.noex, I.ok.exfs, I.ok.funs, I.ok.frf⟩, I.os, I.bare, I.base, I.loc, I.cell, I.free, I.freeC,
    fun p hp => I.pin p (List.mem_append_left _ hp), I.hok, I.len⟩
theorem Inv.mark (I : Inv X pins σ H s) : Inv (X.markX a) pins σ H s :=
  ⟨⟨I.ok.mod, I.ok.kind, I.ok.glob, I.ok.blt, I.ok.above, I.ok.inj, I.ok.has, I.ok.cab, (fun z => by cases z), I.ok.frames, I.ok.stk, I.ok.exf, I.ok.bs, I.ok.bsz, I.ok.noex, I.ok.exfs, I.ok.funs, I.ok.frf⟩, I.os, I.bare, I.base, I.loc, I.cell, I.free, I.freeC, I.pin, I.hok, I.len⟩
theorem Inv.unmark (I : Inv (X.markX a) pins σ H s) (hd : X.calm = true → X.A.handled = none) : Inv X pins σ H s :=
  ⟨⟨I.ok.mod, I.ok.kind, I.ok.glob, I.ok.blt, I.ok.above, I.ok.inj, I.ok.has, I.ok.cab, hd, I.ok.frames, I.ok.stk, I.ok.exf, I.ok.bs, I.ok.bsz, I.ok.noex, I.ok.exfs, I.ok.funs, I.ok.frf⟩, I.os, I.bare, I.base, I.loc, I.cell, I.free, I.freeC, I.pin, I.hok, I.len⟩
theorem exitsT {P : Program} {w : World} (hP : X.prog = P := by rfl) (hw : X.w = w := by rfl) : ExitsS (CXR P w) (X.tryX pins E) E := by
  subst hP hw
  exact ⟨fun _ σ H s _ _ I z => ⟨σ, H, s, I.ofTry, z⟩⟩
theorem SP.ofTry {D : Ends} {f : Flow} {s' : Shared} (h : SP (X.tryX pins E) pins' D f s') : SP X pins D f s' := by
  cases f with
  | next => obtain ⟨σ', H', I, q⟩ := h; exact ⟨σ', H', I.ofTry, q⟩
  | brk => obtain ⟨σ', H', I, q⟩ := h; exact ⟨σ', H', I.ofTry, q⟩
  | cont => obtain ⟨σ', H', I, q⟩ := h; exact ⟨σ', H', I.ofTry, q⟩
  | ret u => obtain ⟨v, σ', H', I, r, q⟩ := h; exact ⟨v, σ', H', I.ofTry, r, q⟩
/-- the exception, as a thing that is told of by its class alone -/
def excO (a : Addr) (cls : Value) : HO := .ext fun h => ∃ o, h.get? a = some o ∧ o.cls = cls ∧ PySem.W.notCls o = true
theorem ObjOk.has {P : Program} {w : World} {h : Heap} {o : HO} (x : ObjOk P w H h a o) : ∃ ob, h.get? a = some ob := by
  cases o with
  | lst xs => obtain ⟨_, _, _, _, e⟩ := x; exact ⟨_, e⟩
  | tup xs => obtain ⟨_, _, _, ob, e, _⟩ := x; exact ⟨_, e⟩
  | dK kvs => obtain ⟨_, _, _, _, o, _, _, e, _⟩ := x; exact ⟨_, e⟩
  | dT kvs => obtain ⟨_, _, _, _, o, _, _, e, _⟩ := x; exact ⟨_, e⟩
  | set S n => obtain ⟨o, _, _, _, e, _⟩ := x; exact ⟨_, e⟩
  | ins C dx fs => obtain ⟨_, _, _, e, _⟩ := x; exact ⟨_, e⟩
  | own y => exact x
  | xd fs => obtain ⟨_, ⟨_, _, _, e, _⟩, _⟩ := x; exact ⟨_, e⟩
  | rng lo hi => obtain ⟨_, _, _, e⟩ := x; exact ⟨_, e⟩
  | frz ob u => obtain ⟨e, _⟩ := x; exact ⟨_, e⟩
  | tbl ps => exact ⟨_, (show h.get? a = some _ from x)⟩
  | met f y => exact ⟨_, (show h.get? a = some _ from x)⟩
  | ext φ => obtain ⟨_, e, _⟩ := x; exact e
/-- a name is forgotten -/
theorem Inv.goes {i : Nat} {n : Str} {m : Str → Option Value} {h' : Heap} {v : Option Value} {t' : Nat} (I : Inv X pins σ H s) (nd : X.N.Nodup) (hi : X.N[i]? = some n)
    (hlk : ∀ (i : Nat) (x : Str) (v : V), X.N[i]? = some x → σ[i]? = some (some v) → Vis X.env.scope x → ∃ u, RelV v u ∧ Look X.env s.heap m x u) (hn : h'.Ns X.env.locals (fun x => if x = n then v else m x)) (hs : Heap.SameBut X.env.locals s.heap h') :
    Inv X pins (σ.set i none) H { s with heap := h', toks := t' } := by
  have cne := I.cne
  have low : ∀ b o, X.s₀.heap.get? b = some o → b ≠ X.env.locals := fun b o e => Nat.ne_of_lt (Nat.lt_of_lt_of_le (Heap.lt_size e) I.ok.above)
  refine ⟨I.ok, I.os, I.bare, ⟨fun b o e n hb hx => (hs.2 b (low b o e)).trans (I.base.keep b o e n hb hx), fun b o e n hb hx => ?_, I.base.free, fun b o e hx => ?_, I.base.tups, I.base.frzs, I.base.tbls⟩, ⟨_, hn, fun j y v' e1 e2 e3 => ?_⟩, fun y c e => ?_, I.free, I.freeC, fun p hp => ?_, fun b ob e => ?_, by simpa using I.len⟩
  · obtain ⟨sl, e1⟩ := I.base.slot b o e n hb hx
    exact ⟨sl, (hs.2 b (low b o e)).trans e1⟩
  · obtain ⟨o', e1⟩ := I.base.there b o e hx
    exact ⟨o', (hs.2 b (low b o e)).trans e1⟩
  · have hj : j ≠ i := by
      rintro rfl
      rw [List.getElem?_set] at e2
      simp only [if_true] at e2
      split at e2 <;> cases e2
    rw [List.getElem?_set_ne (Ne.symm hj)] at e2
    obtain ⟨u, r, q⟩ := hlk j y v' e1 e2 e3
    refine ⟨u, r, ?_⟩
    rcases q with ⟨k, e⟩ | ⟨k, c, e, z⟩
    · refine .inl ⟨k, ?_⟩
      have ne : y ≠ n := fun e => hj (nodup_ix nd e1 (e ▸ hi))
      simp [ne, e]
    · exact .inr ⟨k, c, e, z.sameBut hs (cne y c e)⟩
  · obtain ⟨w', z⟩ := I.cell y c e
    exact ⟨w', z.sameBut hs (cne y c e)⟩
  · obtain ⟨e, n, ne, nf, d⟩ := I.pin p hp
    exact ⟨(hs.2 p.1 ne).trans e, n, ne, nf, d⟩
  · refine (I.hok b ob e).stay (fun c w' hc q => (hs.2 c ?_).trans q) (fun _ q => q) fun _ _ q => q
    rintro rfl
    rcases hc with rfl | hc
    · rw [I.free] at e; cases e
    · rw [I.free] at hc; cases hc
end
end L2

namespace L2
open PySem PySem.Spec PyProof.Rows
section
variable {X : Cx} {x n : Str} {i : Nat} {KE : Addr} {np hpos pos : Pos} {b0 : Stmt} {body suite : List Stmt} {tb : List (Addr × Obj) → (St → XK) → TS} {ts : Addr → TS}
/-- behind the clause its name is forgotten -/
def Ends.less (D : Ends) (i : Nat) : Ends := { nx := fun σ H => D.nx (σ.set i none) H, rt := D.rt, bk := fun σ H => D.bk (σ.set i none) H, ct := fun σ H => D.ct (σ.set i none) H }
def tTry (K : PySem.W.Frag) (KE : Addr) (i : Nat) (tb : List (Addr × Obj) → (St → XK) → TS) (ts : Addr → TS) : TS := fun D σ H => ∀ pins,
  tb pins (fun σ' cls _ H' => PySem.W.exmOne K cls (.ref KE) = some true ∧ ∀ a, H' a = none → ts a (D.less i) (σ'.set i (some (.ref a))) (upd H' a (excO a cls))) D σ H
theorem ps_try (nd : X.N.Nodup) (hi : X.N[i]? = some n) (hl : X.env.scope.names.lookup n = some .local) (hm : X.mg x = some (.ref KE)) (hg : Gl X x) (hb : ∀ (pins : List (Addr × Obj)) (E : St → XK), PSs (X.tryX pins E) body (tb pins E)) (hs : ∀ a : Addr, PSs (X.markX a) (b0 :: suite) (ts a))
    (hst : X.stack = X.env :: X.outer := by rfl) (hfr : X.env.frame = some X.env.locals := by rfl) (hdb : (x == ("__debug__" : Str)) = false := by decide) :
    PS X (.Try body [.ExceptHandler (some (.Name x np)) (some n) (b0 :: suite) hpos] [] [] pos) (tTry X.K KE i tb ts) := by
  intro pins s σ H D I h
  have calm := I.ok.hd
  refine wpAny_Try_except (wpAny_mono (hb pins _ [] s σ H D I.toTry (h pins)) (fun f s1 q => ?_) fun e s1 q => ?_)
  · have q' : SP X pins D f s1 := SP.ofTry q
    cases f with
    | next => obtain ⟨σ', H', I', z⟩ := q'; exact wpAny_execs_nil ⟨σ', H', I', z⟩
    | brk => exact q'
    | cont => exact q'
    | ret u => exact q'
  obtain ⟨σ1, H1, s2, I1, a, cls, H', d, rfl, F, _, hcls, hsu⟩ := q
  obtain ⟨B, a0, U, ok, fl⟩ := F.ex
  have fl' : Heap.FlyingW B (X.env :: X.outer) a cls a0 s1.heap := by rw [← hst]; exact fl
  have frames : X.A.frames = some (X.env :: X.outer) := by rw [← hst]; exact I.ok.frames
  have hfs : ∀ b ∈ frs X.stack, ∃ o, s2.heap.get? b = some o ∧ ∀ vs, o.data ≠ .fields vs := fun b hb => (I1.stack.mem hb).2
  have un : ∀ h', B.StaysIn h' → s1.heap.UpToSlots h' → Un (frs X.stack) [] H1 H' s2.heap h' := fun h' st up => U.un st (F.slot.up up) hfs
  have back : ∀ h', B.StaysIn h' → s1.heap.UpToSlots h' → Inv X pins σ1 H' { s1 with heap := h' } := fun h' st up =>
    I1.call' (s' := { s1 with heap := h' }) (ch := []) F.os (un h' st up) (ok.kept st) F.bare fun b z => by cases z
  refine wpAny_looks_onW frames hfr fl' fun h4 held4 up4 => wpAny_landsW held4 fun h5 fl5 up5 => ?_
  have I5 := back h5 fl5.1 (up4.trans up5)
  obtain ⟨ob, hob, hobc⟩ := fl5.there
  have typ : PySem.W.Looks (model X.prog X.w) h5 (typeOf (.ref a)) cls := hobc ▸ (PySem.W.Looks.ld hob).andThen .now
  refine wpAny_handleBy_cons (codeAny_handlers_test (ld_glob (X := X.markX a) I5.mark hg hm ?_ hdb)) (fun z => by cases z)
  refine (PySem.W.exm_one I5.kIn typ hcls).here ?_
  refine codeAny_handlers_suite_as (lands_againW fl5 fun h6 fl6 up6 => ?_)
  have up06 := (up4.trans up5).trans up6
  -- the exception's own object is new
  obtain ⟨oe, vs, hoe, hoec, hoed, _⟩ := fl6.first
  have na : s2.heap.get? a = none := by
    cases q : s2.heap.get? a with
    | none => rfl
    | some o =>
      by_cases hb : a ∈ frs X.stack
      · obtain ⟨o2, e2, d⟩ := hfs a hb
        rw [q] at e2; cases e2
        obtain ⟨sl, e3⟩ := (F.slot.up up06) a hb o q d
        rw [hoe] at e3; cases e3
        exact absurd hoed (d vs)
      · obtain ⟨o2, e2⟩ := U.there a o q hb
        rw [fl'.2.1] at e2; cases e2
  have nH : H' a = none := by
    cases q : H' a with
    | none => rfl
    | some u =>
      obtain ⟨ob2, e2⟩ := (ok a u q).has
      rw [fl'.2.1] at e2; cases e2
  have nc : PySem.W.notCls oe = true := by unfold PySem.W.notCls; rw [hoed]
  have ok6 : HOk X.prog X.w (upd H' a (excO a cls)) h6 := fun b u e => by
    by_cases hb : b = a
    · subst hb
      rw [upd_same] at e; cases e
      exact ⟨⟨oe, hoe, hoec, nc⟩, ⟨oe, hoe⟩, fun g1 g2 ⟨o, q1, q2, q3⟩ kk => ⟨o, kk o q1, q2, q3⟩⟩
    · rw [upd_ne hb] at e
      exact (ok b u e).stay (fun c v _ q => fl6.1 c v q) (fun c q => by rw [upd_ne (ne_of_none q nH)]; exact q) fun c xs q => by rw [upd_ne (ne_of_none q nH)]; exact q
  have un6 := un h6 fl6.1 up06
  have un6' : Un (frs X.stack) [] H1 (upd H' a (excO a cls)) s2.heap h6 := by
    refine ⟨un6.keep, un6.slot, fun b o e nn hx => ?_, un6.there, fun b xs e => ?_, fun b o u e => ?_, fun b ps e => ?_⟩
    · rw [upd_ne (fun z => by rw [z, na] at e; cases e)]
      exact un6.free b o e nn hx
    · have := un6.tups b xs e
      rw [upd_ne (ne_of_none this nH)]; exact this
    · have := un6.frzs b o u e
      rw [upd_ne (ne_of_none this nH)]; exact this
    · obtain ⟨more, e2⟩ := un6.tbls b ps e
      exact ⟨more, by rw [upd_ne (ne_of_none e2 nH)]; exact e2⟩
  have I6 : Inv X pins σ1 (upd H' a (excO a cls)) { s1 with heap := h6 } := I1.call' (s' := { s1 with heap := h6 }) (ch := []) F.os un6' ok6 F.bare fun b z => by cases z
  refine store_ok (X := X.markX a) (v := .ref a) I6.mark nd hi (.inl hl) rfl (fun s7 I7 => ?_) (.inr hl)
  refine wpAny_mono (hs a pins s7 _ _ _ I7 (hsu a nH)) (fun f s8 q8 => ?_) fun _ _ z => z.elim
  have hcls2 : (X.env.scope.kind == .class || (X.env.scope.kind == .module && X.env.locals != X.env.globals)) = false := by rw [I.ok.kind]; rfl
  have done : ∀ {σ' : St} {H2 : Hp} {R : Unit → Shared → Prop}, Inv (X.markX a) pins σ' H2 s8 → (∀ s9, Inv X pins (σ'.set i none) H2 s9 → R () s9) → wpAny (model X.prog X.w) X.A (do bindName X.env n .none; unbindBehindTheSuite X.env n hpos) R X.xe s8 := fun {σ' H2 R} I8 kk => by
    have I8' := I8.unmark calm
    obtain ⟨m, hn, hlk⟩ := I8'.loc
    exact wpAny_nameGoes_keeps hl hn hcls2 fun h9 v hn9 same => kk _ (I8'.goes nd hi hlk hn9 same)
  cases f with
  | next => obtain ⟨σ', H2, I8, z⟩ := q8; exact done I8 fun s9 I9 => ⟨_, H2, I9, z⟩
  | brk => obtain ⟨σ', H2, I8, z⟩ := q8; exact done I8 fun s9 I9 => ⟨_, H2, I9, z⟩
  | cont => obtain ⟨σ', H2, I8, z⟩ := q8; exact done I8 fun s9 I9 => ⟨_, H2, I9, z⟩
  | ret u => obtain ⟨v, σ', H2, I8, r, z⟩ := q8; exact done I8 fun s9 I9 => ⟨v, _, H2, I9, r, z⟩
end
/-! ### isinstance(e, C) of a caught exception -/
section
open Builtin Builtin.ObjectAttr Builtin.Getset_descriptor PySem.Calls
variable {K : PySem.W.Frag}
theorem looks_dd {M : Model} {h : Heap} {a C : Addr} {nm : Str} {d g : Value} (X : K.In h) (ha : PySem.W.findIn K (.ref C) nm = some (some d)) (hg : PySem.W.specialIn K d "__get__" = some (some g)) (ht : PySem.W.takesIn K d = some true) :
    PySem.W.Looks M h (find (.ref a) (.ref C) nm) (.bind g d) :=
  (PySem.W.looks_findIn X ha).andThen ((show PySem.W.Looks M h (getOf (some d)) (some g) from PySem.W.looks_specialIn X hg).andThen
    ((show PySem.W.Looks M h (dataDescriptor? (some d) (some g)) (some (g, d)) from (PySem.W.looks_takesIn X ht).andThen .now).andThen (PySem.W.Looks.tag .now)))
/-- what is known of an own class of exceptions -/
structure ExcCls (K : PySem.W.Frag) (D : Addr) : Prop where
  cls : PySem.W.isClsIn K D = true
  ga : PySem.W.findIn K (.ref D) "__getattribute__" = some (some (.builtin "BaseException.__getattribute__"))
  gt : PySem.W.findIn K (.ref D) "__getattr__" = some none
  ca : PySem.W.findIn K (.ref D) "__class__" = some (some (.builtin "object.__class__"))
  gs : PySem.W.specialIn K (.builtin "object.__class__") "__get__" = some (some (.builtin "getset_descriptor.__get__"))
  tk : PySem.W.takesIn K (.builtin "object.__class__") = some true
  ob : PySem.W.mroIn K D (.type "object") = some true
  bx : PySem.W.mroIn K D (.type "BaseException") = some true
abbrev ExcAtφ (a : Addr) (cls : Value) : Heap → Prop := fun h => ∃ o, h.get? a = some o ∧ o.cls = cls ∧ PySem.W.notCls o = true
variable {D a : Addr} {prog : Program} {w : World} {A : Around} {E : Value → Shared → Prop} {s : Shared}
theorem exc_ty {M : Model} {h : Heap} {c : Value} (p : ExcAtφ a c h) : PySem.W.Looks M h (typeOf (.ref a)) c := by
  obtain ⟨o, h1, h2, _⟩ := p
  exact h2 ▸ (PySem.W.Looks.ld h1).andThen .now
theorem exc_get {R : Result → Shared → Prop} {tp : Value} (C : ExcCls K D) (X : K.In s.heap) (p : ExcAtφ a (.ref D) s.heap) (h : R (.ok (.ret (.ref D))) s) :
    codeAny (model prog w) A (.call (.builtin "getset_descriptor.__get__") ⟨[.builtin "object.__class__", .ref a, tp], []⟩) R s := by
  obtain ⟨hp, gn, dr, tk, os⟩ := s
  have ty := exc_ty (M := model prog w) p
  have mr := PySem.W.looks_mroIn (M := model prog w) X C.ob
  refine codeAny_call_builtin PySem.W.KF.slot_gs.plain PySem.W.KF.entry_gs
    (PySem.W.KF.slot_gs.check _ _ _ _ _ _ _ _ PySem.W.KF.type_class (PySem.W.KF.args_gs _ _ _) ?_)
  unfold Builtin.«getset_descriptor.__get__» descrGet
  rw [PySem.W.dga_obj]
  refine wpAny_bind (wpAny_pure ?go)
  unfold descrGetter descrCheckInstance descrNameAndClass isInstance
  simp only [PySem.W.KF.owner_class]
  repeat lk
  refine ⟨Code.quiet_builtin _ (by decide +kernel), ?gg⟩
  refine codeAny_builtin PySem.W.KF.entry_class ?_
  unfold Builtin.«object.__class__» shownTypeOf
  repeat lk
  exact h
theorem bexc_split : splitId "BaseException.__getattribute__" = some ("BaseException", "__getattribute__") := by decide +kernel
theorem bexc_kind : (Manifest.find? "BaseException").bind (·.attrs.lookup "__getattribute__") = some .slot ∨ (Manifest.find? "BaseException").bind (·.attrs.lookup "__getattribute__") = some .method := by
  first | exact .inl (by decide +kernel) | exact .inr (by decide +kernel)
theorem exc_check {M : Model} {rest : List Value} {Q : Unit → Shared → Prop} (C : ExcCls K D) (X : K.In s.heap) (p : ExcAtφ a (.ref D) s.heap) (ha : argsOk "BaseException.__getattribute__" ⟨.ref a :: rest, []⟩) (h : Q () s) :
    wpAny M A (checkBuiltinCall "BaseException.__getattribute__" ⟨.ref a :: rest, []⟩) Q E s := by
  have isi : PySem.W.Looks M s.heap (isInstance (.ref a) (.type "BaseException")) true := (exc_ty p).andThen (PySem.W.looks_mroIn X C.bx)
  have kind : builtinKind "BaseException.__getattribute__" = (Manifest.find? "BaseException").bind (·.attrs.lookup "__getattribute__") := by simp only [builtinKind, bexc_split]
  rcases bexc_kind with q | q
  all_goals
    simp only [checkBuiltinCall, kind, q, bexc_split]
    refine wpAny_bind (isi.here ?_)
    simp only [Bool.not_true, Bool.false_eq_true, if_false]
    cases sg : Manifest.signature? "BaseException.__getattribute__" with
    | none => exact wpAny_pure h
    | some sig =>
      simp only [argsOk, sg] at ha
      have ha' : Bind.checkArgs "BaseException.__getattribute__" sig ⟨.ref a :: rest, []⟩ = pure () := ha
      show wpAny M A (Bind.checkArgs "BaseException.__getattribute__" sig ⟨.ref a :: rest, []⟩) Q E s
      rw [ha']
      exact wpAny_pure h
theorem exc_class {Q : Option Value → Shared → Prop} (C : ExcCls K D) (X : K.In s.heap) (p : ExcAtφ a (.ref D) s.heap) (h : Q (some (.ref D)) { s with toks := s.toks + 1 }) : wpAny (model prog w) A (getAttr? (.ref a) "__class__") Q E s := by
  obtain ⟨hp, gn, dr, tk, os⟩ := s
  have ty := exc_ty (M := model prog w) p
  have l1 := PySem.W.looks_findIn (M := model prog w) X C.ga
  have l2 := looks_dd (M := model prog w) (a := a) X C.ca C.gs C.tk
  have l3 := PySem.W.looks_findIn (M := model prog w) X C.gt
  unfold getAttr? getAttrBy? getAttrBy
  refine wpAny_bind (wpAny_mkText (wpAny_bind (wpAny_attempt (wpAny_holding (wpAny_bind (ty.at ?z))))))
  refine wpAny_bind (l1.at ?_)
  show wpAny _ _ (getAttrByItsOwn _ _ _ _ _ _) _ _ _
  unfold getAttrByItsOwn hookBefore
  refine wpAny_bind (l3.at ?_)
  refine wpAny_bind (wpAny_attempt (wpAny_holding ?_))
  show wpAny _ _ (boundAndCalled _ _ _) _ _ _
  unfold boundAndCalled
  refine wpAny_bind ?_
  rw [F.excAttr_ValueError.ga.bind (.ref a)]
  refine wpAny_pure (wpAny_call ?_)
  refine codeAny_call_builtin F.excAttr_ValueError.ga.plain F.entry_bexc_ga (exc_check (s := ⟨hp, gn, dr, tk + 1, os⟩) C X p (F.args_bexc_ga _ _) ?_)
  unfold Builtin.«object.__getattribute__»
  refine wpAny_bind (wpAny_pure (wpAny_bind (wpAny_pure (wpAny_bind (ty.at (wpAny_bind (l2.at ?_)))))))
  show wpAny _ _ (bindTo (.builtin "getset_descriptor.__get__") (.builtin "object.__class__") (.ref a) (.ref D)) _ _ _
  unfold bindTo
  show wpAny _ _ (holding [.builtin "object.__class__"] (call (.builtin "getset_descriptor.__get__") [.builtin "object.__class__", .ref a, .ref D]) >>= ret) _ _ _
  refine wpAny_bind (wpAny_holding (wpAny_call (exc_get (s := ⟨hp, gn, dr, tk + 1, os⟩) C X p ?_)))
  exact wpAny_pure (PySem.W.handed_on rfl (wpAny_pure h))
theorem kitx_exc (C : ExcCls K D) : PySem.W.KitX K (.ref a) (.ref D) (ExcAtφ a (.ref D)) where
  ty := fun _ _ _ p => exc_ty p
  it := fun _ _ X _ => by
    obtain ⟨cd, hc⟩ := Option.isSome_iff_exists.mp C.cls
    unfold PySem.W.clsIn at hc
    split at hc
    · rename_i ho
      intro A' Q' E' s' kk q
      unfold isType loadHead
      exact wpAny_bind (wpAny_loadPart (kk _ _ (X _ _ ho)) (wpAny_pure q))
    · cases hc
  ne := fun h tp dd its n sl X htp => by
    obtain ⟨cd, hc⟩ := Option.isSome_iff_exists.mp C.cls
    refine Bool.eq_false_iff.mpr fun q => ?_
    cases Value.ref.inj (beq_iff_eq.mp q)
    unfold PySem.W.clsIn at hc
    split at hc
    · rename_i ho
      cases (X _ _ ho).symm.trans htp
    · cases hc
  ca := fun X p k => exc_class C X p k
end
section
variable {X : Cx}
/-- isinstance(e, C): e caught, C an own class or a built-in one -/
theorem call_isinstX : CallR X (.builtin "isinstance") (fun xs H Q => ∃ a y c cD b, xs = [.ref a, y] ∧ H a = some (excO a (.ref cD)) ∧ RelV y c ∧ ExcCls X.K cD ∧ PySem.W.kitOne X.K (.ref cD) c = some b ∧ Q (.bl b) H) := by
  intro pins s σ H xs us Q I r h
  obtain ⟨a, y, c, cD, b, rfl, ha, ry, hc, e, q⟩ := h
  obtain ⟨u, w', rfl, r1, r2⟩ := vals2 r
  cases (show u = Value.ref a from r1)
  have ew : w' = c := relV_uniq ry r2 hc e
  subst ew
  obtain ⟨p, _, _⟩ := (show ObjOk X.prog X.w H s.heap a (excO a (.ref cD)) from I.hok a _ ha)
  exact PySem.W.kia_one (kitx_exc hc) I.kIn p e (fun z => nomatch z) fun tk => ⟨.bl b, H, I.tok tk, rfl, q⟩
where
  relV_uniq {K : PySem.W.Frag} {y : V} {c w' : Value} {cD : Addr} {b : Bool} (ry : RelV y c) (r2 : RelV y w') (_ : ExcCls K cD) (e : PySem.W.kitOne K (.ref cD) c = some b) : w' = c := by
    cases y with
    | ref q => exact (show w' = _ from r2).trans (show c = _ from ry).symm
    | ty q => exact (show w' = _ from r2).trans (show c = _ from ry).symm
    | non => exact (show w' = _ from r2).trans (show c = _ from ry).symm
    | bl q => exact (show w' = _ from r2).trans (show c = _ from ry).symm
    | int q => obtain ⟨t, rfl⟩ := ry; unfold PySem.W.kitOne PySem.W.kitCls at e; split at e <;> simp at *
    | str q => obtain ⟨t, rfl⟩ := ry; unfold PySem.W.kitOne PySem.W.kitCls at e; split at e <;> simp at *
    | byt q => obtain ⟨t, rfl⟩ := ry; unfold PySem.W.kitOne PySem.W.kitCls at e; split at e <;> simp at *
    | flt q => obtain ⟨t, rfl⟩ := ry; unfold PySem.W.kitOne PySem.W.kitCls at e; split at e <;> simp at *
end
end L2

/-! AN EXCEPTION OUT OF A COMPREHENSION -/
namespace L2
open PySem PySem.Spec PyProof.Rows
/-- an exception on its way, whatever its mark -/
def Air (base : Heap) (l : List Env) (e : Addr) (cls a0 fl : Value) (h : Heap) : Prop := base.StaysIn h ∧ base.get? e = none ∧ h.FunFrames base l ∧ h.TracedAtW base e cls a0 fl
section
variable {M : Model} {A : Around} {E : Value → Shared → Prop} {s : Shared} {base : Heap} {l : List Env} {e : Addr} {cls a0 fl : Value}
theorem note_same {env env' : Env} (h : env.frame = env'.frame) (v : Value) : noteFrame v env = noteFrame v env' := by
  unfold noteFrame PySem.frameOf
  rw [h]
/-- the mark is set anew -/
theorem mark_air {Q : Unit → Shared → Prop} (f : Option Addr) (x : Air base l e cls a0 fl s.heap)
    (h : ∀ h', Air base l e cls a0 (f.elim Value.none fun q => rawInt q) h' → s.heap.UpToSlots h' → Q () { s with heap := h' }) : wpAny M A (setFlight (.ref e) f) Q E s := by
  obtain ⟨x1, x2, x3, oe, vs, T, oT, ts, he, hc, hd, h1, hn, hTe, hT, hdT, h3⟩ := x
  have sz : 3 < ts.size := (Array.getElem?_eq_some_iff.mp h3).1
  have oth : ∀ b, b ≠ T → (s.heap.update T (Obj.mapFields (·.setIfInBounds 3 (f.elim Value.none fun q => rawInt q)))).get? b = s.heap.get? b := fun b hb => Heap.get?_update_other _ _ (Ne.symm hb)
  have rec' : ∀ b o, s.heap.get? b = some o → (∀ vs, o.data ≠ .fields vs) → b ≠ T := fun b o hb hnf q => by
    rw [q, hT] at hb
    cases hb
    exact hnf ts hdT
  unfold setFlight
  refine wpAny_bind (wpAny_field he hd h1 ?_)
  rw [if_pos (by simp)]
  refine wpAny_setField hT hdT sz (h _ ⟨fun b o hb => (oth b fun q => by rw [q, hn] at hb; cases hb).trans (x1 b o hb), x2, x3.of_keeps fun b o hb hnf => ⟨o, (oth b (rec' b o hb hnf)).trans hb, rfl⟩, ?_⟩ fun b o hb hnf => ⟨o.slots, (oth b (rec' b o hb hnf)).trans hb⟩)
  exact ⟨oe, vs, T, _, _, (oth e (Ne.symm hTe)).trans he, hc, hd, h1, hn, hTe, Heap.get?_update_self _ hT (Obj.isFreed_of_fields (Obj.data_mapFields hdT _)), Obj.data_mapFields hdT _, by simp [sz]⟩
theorem leave_air {env : Env} {outer : List Env} {L : Addr} {Q : Unit → Shared → Prop} (hfr : A.frames = some (env :: outer)) (hf : env.frame = some L) (x : Air base (env :: outer) e cls a0 fl s.heap)
    (h : ∀ h', Heap.FlyingW base outer e cls a0 h' → s.heap.UpToSlots h' → Q () { s with heap := h' }) : wpAny M A (leaving env (.ref e)) Q E s := by
  by_cases hl : fl = rawInt L
  · subst hl
    unfold leaving
    refine wpAny_bind (wpAny_noteFrame_againW hf x.2.2.2 (wpAny_landsW (L := L) x fun h' ⟨y1, y2, y3, y4⟩ up => h h' ⟨y1, y2, y3.2.2, y4⟩ up))
  · obtain ⟨x1, x2, x3, oe, vs, T, oT, ts, he, ⟨hc, h0⟩, hd, h1, hn, hTe, hT, hdT, h3⟩ := x
    subst hc
    have oth : ∀ b, b ≠ T → (s.heap.update T (Obj.mapFields (·.setIfInBounds 3 Value.none))).get? b = s.heap.get? b := fun b hb => Heap.get?_update_other _ _ (Ne.symm hb)
    have rec' : ∀ b o, s.heap.get? b = some o → (∀ vs, o.data ≠ .fields vs) → b ≠ T := fun b o hb hnf q => by
      rw [q, hT] at hb
      cases hb
      exact hnf ts hdT
    unfold leaving noteFrame
    simp only [hf]
    refine wpAny_bind (wpAny_bind (wpAny_field he hd h1 ?_))
    rw [if_pos (by simp)]
    refine wpAny_bind (wpAny_field hT hdT h3 ?_)
    rw [if_neg (by simpa using hl)]
    refine wpAny_bind (wpAny_setField hT hdT (Array.getElem?_eq_some_iff.mp h3).1 ?_)
    refine wpAny_newEntryW hfr (x3.of_keeps fun b o hb hnf => ⟨o, (oth b (rec' b o hb hnf)).trans hb, rfl⟩) hf ((oth e (Ne.symm hTe)).trans he)
      (fun b o hb => (oth b fun q => by rw [q, hn] at hb; cases hb).trans (x1 b o hb)) x2 hd (Array.getElem?_eq_some_iff.mp h1).1 h0 fun h' z => ?_
    obtain ⟨z1, z2, z3, z4⟩ := z
    exact h h' ⟨z1, x2, z2.2.2, z3⟩ fun b o hb hnf => z4 b o ((oth b (rec' b o hb hnf)).trans hb) hnf
theorem pass_air {α : Type} {what : String} {env : Env} {Q : α → Shared → Prop} (x : Air base l e cls a0 fl s.heap) (h : ∀ h' fl', Air base l e cls a0 fl' h' → s.heap.UpToSlots h' → E (.ref e) { s with heap := h' }) : wpAny M A (PySem.passOn what (.ref e) env) Q E s := by
  have x' := x
  obtain ⟨_, _, _, oe, vs, T, oT, ts, he, hc, hd, h1, _⟩ := x'
  unfold PySem.passOn
  refine wpAny_bind (wpAny_field he hd h1 ?_)
  rw [if_neg (by simp)]
  first
    | exact wpAny_bind (wpAny_pure (wpAny_bind (mark_air env.frame x fun h' y up => wpAny_throw (h h' _ y up))))
    | exact wpAny_bind (mark_air env.frame x fun h' y up => wpAny_throw (h h' _ y up))
/-- an object of the heap that stays is changed: the rest stays -/
theorem Air.but {h h' : Heap} {C : Addr} {o : Obj} (x : Air base l e cls a0 fl h) (hC : base.get? C = some o) (hs : Heap.SameBut C h h') : Air (PySem.W.hideAll base [C]) l e cls a0 fl h' := by
  obtain ⟨x1, x2, x3, oe, vs, T, oT, ts, he, hc, hd, h1, hn, hTe, hT, hdT, h3⟩ := x
  have ne : ∀ {b : Addr}, base.get? b = none → b ≠ C := fun hb z => by rw [z, hC] at hb; cases hb
  have hid : ∀ {b : Addr}, base.get? b = none → (PySem.W.hideAll base [C]).get? b = none := fun {b} hb => by
    cases q : (PySem.W.hideAll base [C]).get? b with
    | none => rfl
    | some o => rw [PySem.W.of_hideAll _ q] at hb; cases hb
  refine ⟨fun b o hb => ?_, hid x2, ?_, oe, vs, T, oT, ts, (hs.2 e (ne x2)).trans he, hc, hd, h1, hid hn, hTe, (hs.2 T (ne hn)).trans hT, hdT, h3⟩
  · have nb : b ≠ C := fun z => by rw [z, PySem.W.hideAll_none [C] (List.mem_singleton.mpr rfl)] at hb; cases hb
    exact (hs.2 b nb).trans (x1 b o (PySem.W.of_hideAll _ hb))
  · clear he hT hn x2
    induction l with
    | nil => trivial
    | cons env r ih =>
      obtain ⟨k1, ⟨L, oL, q1, q2, q3, q4⟩, k2⟩ := x3
      exact ⟨k1, ⟨L, oL, q1, hid q2, (hs.2 L (ne q2)).trans q3, q4⟩, ih k2⟩
end
end L2


namespace L2
open PySem PySem.Spec PyProof.Rows
/-- an exception on its way reaches what is wanted; C: the block's own names, which go -/
structure ExitsA (X : Cx) (E : XK) : Prop where
  air : ∀ (pins : List (Addr × Obj)) (σ : St) (H : Hp) (s : Shared) (H' : Hp) (B : Heap) (C a : Addr) (cls a0 fl : Value) (s' : Shared), Inv X pins σ H s → UnB (frs X.stack) H H' s.heap B → HOk X.prog X.w H' B → X.s₀.heap.objs.size ≤ C → H' C = none →
    Air (PySem.W.hideAll B [C]) X.stack a cls a0 fl s'.heap → s'.os = s.os → AllBare s'.gens → Slots (frs X.stack) s.heap s'.heap → E cls none H' → X.xe (.ref a) s'
theorem exitsA {P : Program} {w : World} {K : PySem.W.Frag} {mg : Str → Option Value} {base : Heap} {N : List Str} {qual : Str} {scope : Scope} {f : Addr} {cd : Value} {A : Around} {outer : List Env} {s0 : Shared} {H0 : Hp} {E : XK} :
    ExitsA (cxOf (CXR P w) P w K mg base N qual scope f cd A outer s0 H0 E) E where
  air := by
    intro pins σ H s H' B C a cls a0 fl s' I U ok hC nC air os bare sl hE
    have U0 := unb_out I U
    have lt : ∀ b o, s0.heap.get? b = some o → b ∉ [C] := fun b o e z => by
      rw [List.mem_singleton.mp z] at e
      exact absurd (Nat.lt_of_lt_of_le (Heap.lt_size e) hC) (Nat.lt_irrefl _)
    have U1 : UnB (frs outer) H0 H' s0.heap (PySem.W.hideAll B [C]) := ⟨fun b o e n hb => PySem.W.hideAll_get _ (U0.keep b o e n hb) (lt b o e), U0.free, fun b o e hb => by
      obtain ⟨o2, e2⟩ := U0.there b o e hb
      exact ⟨o2, PySem.W.hideAll_get _ e2 (lt b o e)⟩, U0.tups, U0.frzs, U0.tbls⟩
    have ok1 : HOk P w H' (PySem.W.hideAll B [C]) := fun b u e => (ok b u e).stay (fun c v hc q => PySem.W.hideAll_get _ q fun z => by
      have hz : H' c = none := by rw [List.mem_singleton.mp z]; exact nC
      rcases hc with rfl | hc
      · rw [hz] at e; cases e
      · rw [hz] at hc; cases hc) (fun _ q => q) fun _ _ q => q
    exact leave_air I.ok.frames rfl air fun h2 fl2 up => ⟨a, cls, H', none, rfl, ⟨⟨_, _, U1, ok1, fl2⟩, os.trans I.os, bare, slots_out I (sl.up up)⟩, fun z => absurd rfl z, hE⟩
/-- what is wanted of an exception within a block -/
def blkE (X : Cx) (N : List Str) (scope : Scope) (cl : List (Str × Addr)) (E : XK) (s₀ : Shared) (H₀ : Hp) (ex : List Addr) : Value → Shared → Prop := fun e s' => ∃ pins σ H s, Inv (blk X N scope cl s₀ H₀ ex NoX) pins σ H s ∧ CXR X.prog X.w X.stack H s (fun c _ => E c none) e s'
theorem exitsB {P : Program} {w : World} {X : Cx} {N : List Str} {scope : Scope} {cl : List (Str × Addr)} {E : XK} {s₀ : Shared} {H₀ : Hp} {ex : List Addr} (hP : X.prog = P := by rfl) (hw : X.w = w := by rfl) :
    ExitsS (CXR P w) (blk X N scope cl s₀ H₀ ex (blkE X N scope cl E s₀ H₀ ex)) fun _ c _ => E c none := by
  subst hP hw
  exact ⟨fun pins σ H s _ _ I z => ⟨pins, σ, H, s, Inv.unwish (X := blk X N scope cl s₀ H₀ ex NoX) I, z⟩⟩
section
variable {X : Cx} {x : Str} {fv : List (Str × Nat)} {scope : Scope} {cl : List (Str × Addr)} {pins : List (Addr × Obj)} {σ : St} {px pos : Pos} {iter elt : Expr} {te : TEB}
theorem comp_blockX {E : XK} {s2 : Shared} {H2 : Hp} {it : Addr} {fp : List Addr} {tn : Nat → Heap → Prop} {J : It} (ok : CompOk X x fv scope cl) (hc : X.calm = true)
    (hA : ExitsA X E) (hst : X.stack = X.env :: X.outer) (hfr : X.env.frame = some X.env.locals) (he : ∀ s₀ H₀ ex, PE (blk X (x :: fv.map (·.1)) scope cl s₀ H₀ ex (blkE X (x :: fv.map (·.1)) scope cl E s₀ H₀ ex)) elt (te s₀ H₀ ex)) (I2 : Inv X pins σ H2 s2) (T : Turn X.prog X.w X.K (.Name x px) J fp it tn) (st2 : tn 0 s2.heap) (f2 : ∀ b ∈ fp, FpOk X pins H2 b)
    {Qv : VK} (hQ : tCompJ fv te σ J H2 Qv) {RR : Value → Addr → Result → Shared → Prop}
    (hRE : ∀ acc C m e s', s'.heap.Ns C m → (∀ h', Heap.SameBut C s'.heap h' → ∀ cenv : Env, cenv.locals = C → wpAny (model X.prog X.w) X.A (PySem.passOn "comprehension.variables-let-go" e cenv : Sem Value) (fun _ _ => False) X.xe { s' with heap := h' }) → RR acc C (.error e) s')
    (hRR : ∀ D C m' H' s', Inv X pins σ H' s' → s'.heap.Ns C m' → FpOk X pins H' C → Qv (.ref D) H' → RR (.ref D) C (.ok .next) s') :
    wpAny (model X.prog X.w) X.A (newList []) (fun acc s₃ => wpAny (model X.prog X.w) X.A (newFunctionEnv scope X.env.globals cl [] X.env.qual none .none (some X.env)) (fun cenv s₄ =>
      codeAny (model X.prog X.w) X.A (.compStart (.ListComp elt [⟨.Name x px, iter, [], 0⟩] scope pos) 0 (.ref it) acc { cenv with scope := relabel scope X.env }) (RR acc cenv.locals) s₄) X.xe s₃) X.xe s2 := by
  refine wpAny_newObj_type (wpAny_newFunctionEnv ok.nocell (by intro y hy; simp at hy) (fun h₁ hns₁ hsb₁ => ?_) ok.kind)
  dsimp only at hns₁ hsb₁ ⊢
  have I3 : Inv X pins σ (upd H2 s2.heap.objs.size (.lst [])) { s2 with heap := s2.heap.push { cls := .type "list", dict := none, data := .seq ([] : List Value).toArray } } :=
    I2.laid (t' := s2.toks) (fun b o e => Heap.get?_push_of_some _ e) (Nat.le_refl _) ⟨Nat.zero_le _, [], 0, .nil, Heap.get?_push_size _ rfl⟩
  have hD : H2 s2.heap.objs.size = none := I2.hok.fresh (Nat.le_refl _)
  generalize hs3 : ({ s2 with heap := s2.heap.push { cls := .type "list", dict := none, data := .seq ([] : List Value).toArray } } : Shared) = s3 at I3
  have eh : s2.heap.push { cls := .type "list", dict := none, data := .seq ([] : List Value).toArray } = s3.heap := by rw [← hs3]
  rw [eh] at hns₁ hsb₁ ⊢
  have fl : ∀ b ∈ fp, b < s2.heap.objs.size := fun b hb => by
    obtain ⟨o, e, _⟩ := T.obj _ _ st2 b hb
    exact Heap.lt_size e
  have sz3 : s3.heap.objs.size = s2.heap.objs.size + 1 := by rw [← eh, Heap.size_push]
  have f3 : ∀ b ∈ fp, FpOk X pins (upd H2 s2.heap.objs.size (.lst [])) b := fun b hb => ⟨by rw [upd_ne (Nat.ne_of_lt (fl b hb))]; exact (f2 b hb).1, (f2 b hb).2⟩
  have fl3 : ∀ b ∈ fp, b < s3.heap.objs.size := fun b hb => by rw [sz3]; exact Nat.lt_succ_of_lt (fl b hb)
  have old3 : ∀ b o, s3.heap.get? b = some o → h₁.get? b = some o := fun b o e => hsb₁.extBut b o (Nat.ne_of_lt (Heap.lt_size e)) (Heap.get?_push_of_some _ e)
  have old2 : ∀ b o, s2.heap.get? b = some o → h₁.get? b = some o := fun b o e => old3 b o (by rw [← eh]; exact Heap.get?_push_of_some _ e)
  have st1 : tn 0 h₁ := T.keep _ _ _ st2 fun b _ o e => old2 b o e
  have IY := blk_start (E := NoX) I3 ok f3 fl3 hns₁ old3 (s3.toks + ([] : List (Str × Value)).length)
  obtain ⟨W, ⟨m0, w0⟩, turn⟩ := hQ s2.heap.objs.size hD
  have loop : ∀ s4 : Shared, s4 = { s3 with heap := h₁, toks := s3.toks + ([] : List (Str × Value)).length } →
      codeAny (model X.prog X.w) X.A (.compLoop (.ListComp elt [⟨.Name x px, iter, [], 0⟩] scope pos) 0 (.ref it) (.ref s2.heap.objs.size) (compEnvC scope cl s3.heap.objs.size X.env)) (RR (.ref s2.heap.objs.size) s3.heap.objs.size) s4 := by
    rintro s4 rfl
    have stat : ∀ {H' : Hp}, (∀ b ∈ fp, H' b = none) → ∀ b ∈ fp, FpOk (blk X (x :: fv.map (·.1)) scope cl s3 (upd H2 s2.heap.objs.size (.lst [])) fp NoX) [] H' b := fun hn b hb =>
      ⟨hn b hb, Nat.ne_of_lt (fl3 b hb), fun z => by
        rcases List.mem_cons.mp (I3.stkSub b z) with e | e
        · exact (f2 b hb).2.1 e
        · exact (f2 b hb).2.2.1 e, .inl hb, fun y c h => (f2 b hb).2.2.2.2.1 y c (ok.sub h), fun p hp => absurd (show p ∈ ([] : List (Addr × Obj)) from hp) (by simp)⟩
    refine codeAny_compLoop_L (fun n s' => ∃ i o H' ys, Inv (blk X (x :: fv.map (·.1)) scope cl s3 (upd H2 s2.heap.objs.size (.lst [])) fp NoX) [] (blkS fv σ o) H' s' ∧ tn i s'.heap ∧ (∀ b ∈ fp, H' b = none) ∧ W i n ys H') ?_ m0
      ⟨0, none, _, [], IY, st1, fun b hb => (f3 b hb).1, w0⟩
    rintro n s5 ⟨i, o, H5, ys, I5, st5, fr5, w5⟩
    obtain ⟨hD5, w5⟩ := turn i n ys H5 w5
    rcases w5 with ⟨stop, qn⟩ | ⟨go, hsz, step⟩
    · refine wpAny_mono (T.done (blk X (x :: fv.map (·.1)) scope cl s3 (upd H2 s2.heap.objs.size (.lst [])) fp NoX) rfl rfl rfl hc i [] s5 _ H5 NoX I5 (stat fr5) st5 stop) (fun r s6 ⟨hr, I6⟩ => ?_) fun _ _ z => z.elim
      subst hr
      obtain ⟨m', hm', _⟩ := I6.loc
      have I7 : Inv X pins σ H5 s6 := I3.call' (ch := fp) (by rw [I6.os]) I6.base I6.hok I6.bare fun b hb => ⟨(f2 b hb).2.2.2.1, (f2 b hb).2.1, (f2 b hb).2.2.2.2.1, (f2 b hb).2.2.2.2.2⟩
      exact hRR _ _ m' H5 s6 I7 hm' (I3.fpOk (Nat.le_refl _) I6.free) qn
    · refine wpAny_mono (T.item (blk X (x :: fv.map (·.1)) scope cl s3 (upd H2 s2.heap.objs.size (.lst [])) fp NoX) rfl rfl rfl hc i [] s5 _ H5 NoX I5 (stat fr5) st5 go) (fun r s6 ⟨u, hr, h6⟩ => ?_) fun _ _ z => z.elim
      subst hr
      refine wpAny_mono h6 (fun _ s7 ⟨v, H7, I7, r7, y7, st7, fr7⟩ => ?_) fun _ _ z => z.elim
      have I7' := I7.pinned (stat fr7) (T.obj _ _ st7)
      have hx : Loc (blk X (x :: fv.map (·.1)) scope cl s3 (upd H2 s2.heap.objs.size (.lst [])) fp NoX).env.scope x := .inl (lookup_relabel_local ok.here)
      refine wpAny_assign_Name (store_ok (X := blk X (x :: fv.map (·.1)) scope cl s3 (upd H2 s2.heap.objs.size (.lst [])) fp NoX) (i := 0) I7' ok.nd rfl hx r7 (fun s8 I8 => ?_) (.inr (lookup_relabel_local ok.here)))
      refine wpAny_mono (he s3 _ fp _ s8 (blkS fv σ (some v)) H7 _ (I8.wish (blkE X (x :: fv.map (·.1)) scope cl E s3 (upd H2 s2.heap.objs.size (.lst [])) fp)) (step v H7 y7 _ _ _)) (fun u9 s9 q9 => ?_) fun e9 s9 z9 => ?err
      case err =>
        obtain ⟨pb, σb, Hb, sb, Ib, a, cls, H', d, rfl, F, _, hE⟩ := z9
        have IX : Inv X pins σ Hb sb := I3.call' (ch := fp) (by rw [Ib.os]) Ib.base Ib.hok Ib.bare fun b hb => ⟨(f2 b hb).2.2.2.1, (f2 b hb).2.1, (f2 b hb).2.2.2.2.1, (f2 b hb).2.2.2.2.2⟩
        obtain ⟨B, a0, U, ok', fl⟩ := F.ex
        obtain ⟨mC, hnC, _⟩ := Ib.loc
        obtain ⟨oC, esC, epC, hoC, restC⟩ := id hnC
        have fC : Hb s3.heap.objs.size = none := Ib.free
        have nfC : s3.heap.objs.size ∉ frs X.stack := fun z => by
          obtain ⟨_, o, ho, _⟩ := I3.stack.mem z
          exact Nat.lt_irrefl _ (Heap.lt_size ho)
        have hBC := U.keep _ _ hoC fC nfC
        have fC' := U.free _ _ hoC fC
        rw [show notedBy (model X.prog X.w) X.A (compEnvC scope cl s3.heap.objs.size X.env) = notedBy (model X.prog X.w) X.A X.env by unfold notedBy; funext E' v s'; rw [note_same (show (compEnvC scope cl s3.heap.objs.size X.env).frame = X.env.frame from rfl)]]
        have fl' : Heap.FlyingW B (X.env :: X.outer) a cls a0 s9.heap := by rw [← hst]; exact fl
        have frames : X.A.frames = some (X.env :: X.outer) := by rw [← hst]; exact I2.ok.frames
        refine wpAny_looks_onW frames hfr fl' fun h4 held4 up4 => ?_
        have hC4 : h4.Ns s3.heap.objs.size mC := ⟨oC, esC, epC, held4.1 _ _ hBC, restC⟩
        refine hRE _ _ mC _ _ hC4 fun h5 same cenv _ => ?_
        have air5 : Air (PySem.W.hideAll B [s3.heap.objs.size]) X.stack a cls a0 (rawInt X.env.locals) h5 := Air.but (by rw [hst]; exact held4) hBC same
        have sl5 : Slots (frs X.stack) sb.heap h5 := fun b hb o q d => by
          obtain ⟨sl, e1⟩ := (F.slot.up up4) b hb o q d
          exact ⟨sl, (same.2 b fun z => nfC (z ▸ hb)).trans e1⟩
        refine pass_air (s := { s9 with heap := h5 }) air5 fun h6 fl6 air6 up6 => ?_
        exact hA.air pins σ Hb sb H' B s3.heap.objs.size a cls a0 fl6 { s9 with heap := h6 } IX U ok' (Nat.le_trans I3.sz (Nat.le_refl _)) fC' air6 F.os F.bare (sl5.up up6) hE
      obtain ⟨v9, H9, I9', r9, hD9, m', hm', w9⟩ := q9
      have I9 := Inv.unwish (X := blk X (x :: fv.map (·.1)) scope cl s3 (upd H2 s2.heap.objs.size (.lst [])) fp NoX) I9'
      refine wpAny_mono (mt_append (X := blk X (x :: fv.map (·.1)) scope cl s3 (upd H2 s2.heap.objs.size (.lst [])) fp NoX) _ s9 _ H9 (.ref s2.heap.objs.size) [v9] (.ref s2.heap.objs.size) [u9]
        (fun _ H10 => H10 = upd H9 s2.heap.objs.size (.lst (ys ++ [v9]))) I9 rfl (.cons r9 .nil) ⟨_, ys, v9, rfl, rfl, hD9, hsz, rfl⟩) (fun _ s10 ⟨_, H10, I10, _, e10⟩ => ?_) fun _ _ z => z.elim
      subst e10
      refine ⟨m', hm', i + 1, some v, _, ys ++ [v9], I10.unpinned, T.keep _ _ _ st7 fun b hb o e => (I10.pin (b, o) (List.mem_append_right _ (List.mem_append_right _ (mem_pinsAt hb e)))).1, fun b hb => ?_, w9⟩
      obtain ⟨o, e, d⟩ := T.obj _ _ st7 b hb
      exact (I10.pin (b, o) (List.mem_append_right _ (List.mem_append_right _ (mem_pinsAt hb e)))).2.1
  exact codeAny_compStart_list (loop _ (by rw [← hs3])) (T.self _ 0 _ _ _ st1 (loop _ (by rw [← hs3])))
/-- [elt for x in iter] as a value -/
theorem pe_compX {E : XK} {wi : TI} (ok : CompOk X x fv scope cl) (hc : X.calm = true) (hi : PI X (.Name x px) iter wi) (hA : ExitsA X E) (he : ∀ s₀ H₀ ex, PE (blk X (x :: fv.map (·.1)) scope cl s₀ H₀ ex (blkE X (x :: fv.map (·.1)) scope cl E s₀ H₀ ex)) elt (te s₀ H₀ ex))
    (hs : ∀ v, foldedSetIterable iter X.env v = pure v := by intro _; rfl) (hst : X.stack = X.env :: X.outer := by rfl) (hfr : X.env.frame = some X.env.locals := by rfl) : PE X (.ListComp elt [⟨.Name x px, iter, [], 0⟩] scope pos) (tComp wi fv te) := by
  intro pins s σ H Q I h
  rw [eval_ListComp]
  refine wpAny_comprehension_free (use := none) rfl hs ok.clos ok.kind ok.names (thn (hi pins s σ H _ I h) fun v s1 h1 => thn h1 fun itv s2 h2 => ?_)
  obtain ⟨it, fp, tn, J, H2, rfl, I2, T, st2, f2, hQ⟩ := h2
  refine comp_blockX (RR := fun acc C => compPost (model X.prog X.w) X.A X.xe none (EP X pins σ Q) acc C) ok hc hA hst hfr he I2 T st2 f2 hQ (fun _ _ m _ _ hn k => ⟨m, hn, k⟩) ?_
  intro D C m' H' s' I' hn fC q
  exact ⟨m', hn, fun h' hs' => ⟨.ref D, H', I'.turned (t' := s'.toks) (fun b o hb e => hs'.extBut b o hb e) fC.1 fC.2.1 fC.2.2.2.1 fC.2.2.2.2.1 fC.2.2.2.2.2, rfl, q⟩⟩
end
end L2

/-! OWN ERROR CLASSES, DEFS THAT RAISE -/
namespace L2
open PySem PySem.Spec PyProof.Rows
abbrev bmVE : List Value := [.type "ValueError", .type "Exception", .type "BaseException", .type "object"]
theorem own_mk {K : PySem.W.Frag} {h : Heap} {mg : Str → Option Value} {x : Str} {C : Addr} {bm : List Value} {nid : String} (X : K.In h) (hm : mg x = some (.ref C)) (q : PySem.W.excIn K C bm nid = true) : OwnCls x C bm nid mg h := by
  refine ⟨hm, ?_⟩
  unfold PySem.W.excIn at q
  split at q
  · rename_i d1 c1 s1 look
    split at q
    · rename_i C1 tl j0 j1 j2 j3 nn j5 em es
      simp only [Bool.and_eq_true, beq_iff_eq, Bool.not_eq_true'] at q
      obtain ⟨⟨⟨⟨⟨rfl, rfl⟩, del⟩, tail⟩, isn⟩, noi⟩ := q
      obtain ⟨f1, f2, f3, f4, f5, f6, f7, f8, f9, f10, f11⟩ := c1
      dsimp only at em del isn noi
      subst em del
      have es' : s1 = #[j0, j1, j2, j3, some (.builtin nn), j5] := by
        obtain ⟨l⟩ := s1
        simp only at es
        rw [es]
      subst es'
      exact ⟨tl, f4, f1, f5, f2, f6, f7, f8, f9, f10, d1, j0, j1, j2, j3, j5, _, X _ _ look, .of_isNs (PySem.W.isNs_of_in X isn), PySem.W.nsMap_none_of_in X isn noi, PySem.W.tail_of_in X tail⟩
    · cases q
  · cases q
section
variable {X : Cx} {CX : CXT} {E : XK} {x : Str} {C : Addr} {j : Nat} {pos cpos np : Pos} {e : Expr} {es : List Expr} {t : TA}
theorem ps_rais (hx : Exits CX X E) (hm : X.mg x = some (.ref C)) (hq : PySem.W.excIn X.K C bmVE "ValueError.__new__" = true) (hr : Room j X.A) (hg : Gl X x) (ha : PA X (e :: es) t)
    (hdb : (x == ("__debug__" : Str)) = false := by decide) (he : starEach (e :: es) X.env = (false, eval e X.env) :: starEach es X.env := by rfl) (hpl : (backTo cpos (starEach es X.env)).any (·.1) = false := by rfl) :
    PS X (.Raise (some (.Call (.Name x np) (e :: es) [] cpos)) none pos) (tRaise C E t) :=
  fun pins s σ H D I h => ps_raise hx (own_mk I.ok.mod.kin hm hq) PySem.F.excBase_ValueError hr hg ha hdb he hpl pins s σ H D I h
end
section
variable {P : Program} {w : World} {K : PySem.W.Frag} {mg : Str → Option Value} {base : Heap}
/-- a def from whose body exceptions may come -/
theorem Fun.okX {x qual : Str} {st : Stmt} {f : Addr} {fd : FuncData} {N ps : List Str} {k : Nat} {sp : Sp} (F : Fun K x qual st f fd) (S : FnScope N ps (defScope st)) (len : ∀ vs H Q E, sp vs H Q E → vs.length = ps.length)
    (hbody : ∀ (cdv : Value) (A : Around) (outer : List Env) (s : Shared) (H : Hp) (vs : List V) (Q : VK) (E : XK), Room k (A.deeper (envOfC qual (defScope st) s.heap.objs.size f cdv)) →
      Exits (CXR P w) (cxOf (CXR P w) P w K mg base N qual (defScope st) f cdv A outer s H E) E → sp vs H Q E →
      ∃ t, PSs (cxOf (CXR P w) P w K mg base N qual (defScope st) f cdv A outer s H E) (defBody st) t ∧ t { nx := fun _ H' => Q .non H', rt := Q } (start N vs) H) : FnOk P w K mg base (CXR P w) (k + 1) f fd ps sp := by
  obtain ⟨oc, od, kV, doc, pm, an, cdv, ct, osl, rfl, lk, hcd⟩ := F.ex
  exact fn_of lk hcd S len fun A outer s H vs Q E hr hsp => hbody cdv A outer s H vs Q E hr exitsR hsp
end
end L2

/-! WEAKER PROMISES -/
namespace L2
open PySem
section
variable {P : Program} {w : World} {K : PySem.W.Frag} {mg : Str → Option Value} {base : Heap} {CX : CXT} {x m : Str} {C : Addr} {k : Nat} {ps : List Str} {sp sp' : Sp}
theorem CDef.imp (D : CDef P w K mg base CX x C k ps sp) (h : ∀ vs H Q E, sp' vs H Q E → sp vs H Q E) : CDef P w K mg base CX x C k ps sp' :=
  let ⟨f, fd, a, b, c, F⟩ := D.ex; ⟨f, fd, a, b, c, F.imp h⟩
end
theorem pe_globC {X : Cx} {x : Str} {C : Addr} {pos : Pos} (hg : Gl X x) (hm : X.mg x = some (.ref C)) (hd : (x == ("__debug__" : Str)) = false := by decide) : PE X (.Name x pos) (tC (.ref C)) := pe_glob hg hm rfl hd
theorem one_fits {v : V} : [v].length ≤ sizeLine := by show 1 ≤ sizeLine; decide
theorem bt_ValueError : bootBuiltins "ValueError" = some (.type "ValueError") := by decide +kernel
end L2

/-! A SIGN, SEVERAL TIMES -/
namespace L2
open PySem PySem.Spec PyProof.Rows
end L2

/-! THE REPR OF A LIST OF INTS, WITHIN AN F-STRING -/
namespace L2
open PySem PySem.Spec PyProof.Rows
theorem textFrom_le {B : Nat} : ∀ (ts : List Str) (k : Nat) (acc : Str), (∀ t ∈ ts, t.length ≤ B) → (textFrom k acc ts).length ≤ acc.length + ts.length * (B + 2)
  | [], _, acc, _ => by show acc.length ≤ acc.length + 0 * (B + 2); omega
  | t :: r, k, acc, h => by
    have ih := textFrom_le r (k + 1) (acc ++ (if k > 0 then ", " else "" : String) ++ t) fun x hx => h x (List.mem_cons_of_mem _ hx)
    have ht := h t List.mem_cons_self
    have e : (acc ++ (if k > 0 then ", " else "" : String) ++ t).length = acc.length + (if k > 0 then 2 else 0) + t.length := by
      rw [strLen_append, strLen_append]
      congr 2
      split <;> rfl
    have e2 : (if k > 0 then 2 else 0) ≤ 2 := by split <;> decide
    show (textFrom (k + 1) (acc ++ (if k > 0 then ", " else "" : String) ++ t) r).length ≤ acc.length + (r.length + 1) * (B + 2)
    rw [Nat.add_mul, Nat.one_mul]
    omega
theorem shown_ints_le (ns : List Int) (hn : ns.length ≤ 64) (hb : ∀ i ∈ ns, i.natAbs.log2 < 1920) : (PyData.list (ns.map .int)).shown.length ≤ 130000 := by
  have all : ∀ ms : List Int, PyData.shownAll (ms.map .int) = ms.map fun i => (Str.ofString (toString i)) := fun ms => by
    induction ms with
    | nil => simp only [List.map_nil, PyData.shownAll]
    | cons x r ih => simp only [List.map_cons, PyData.shownAll, ih, PyData.shown]
  simp only [PyData.shown]
  unfold listText
  rw [all, strLen_append]
  have := textFrom_le (B := 1921) (ns.map fun i => (Str.ofString (toString i))) 0 "[" fun t ht => by
    obtain ⟨i, hi, rfl⟩ := List.mem_map.mp ht
    exact int_text_len_1921 (hb i hi)
  rw [List.length_map] at this
  have e1 : ("[" : Str).length = 1 := rfl
  have e2 : ("]" : Str).length = 1 := rfl
  omega
theorem showable_ints : ∀ ns : List Int, (∀ i ∈ ns, i.natAbs.log2 < 1920) → PyData.showableAll (ns.map .int) = true
  | [], _ => by simp only [List.map_nil, PyData.showableAll]
  | x :: r, h => by
    have ih := showable_ints r fun i hi => h i (List.mem_cons_of_mem _ hi)
    have hx := h x List.mem_cons_self
    simp only [List.map_cons, PyData.showableAll, PyData.showable, ih, decide_eq_true hx, Bool.and_self]
theorem noDict_ints : ∀ ns : List Int, PyData.hasDictAll (ns.map .int) = false
  | [] => by simp only [List.map_nil, PyData.hasDictAll]
  | x :: r => by simp only [List.map_cons, PyData.hasDictAll, PyData.hasDict, noDict_ints r, Bool.or_self]
theorem depth_ints : ∀ ns : List Int, PyData.depthAll (ns.map .int) ≤ 1
  | [] => by simp only [List.map_nil, PyData.depthAll]; omega
  | x :: r => by
    have := depth_ints r
    simp only [List.map_cons, PyData.depthAll, PyData.depth]
    omega
theorem reads_ints {h : Heap} : ∀ {ns : List Int} {its : List Value}, Vals (ns.map V.int) its → ReadsAll h its (ns.map .int) []
  | [], [], _ => .nil
  | [], _ :: _, r => by cases r
  | _ :: _, [], r => by cases r
  | x :: ns, u :: us, r => by
    cases r with
    | cons r1 r2 =>
      obtain ⟨t, rfl⟩ := r1
      exact .cons (as := []) (bs := []) (.int x t) (reads_ints r2)
section
variable {X : Cx} {pos : Pos} {e : Expr} {es : List Expr} {te : TE} {tj : TJ} {j : Nat}
def tjL (K : PySem.W.Frag) (te : TE) (tj : TJ) : TJ := fun σ H n R => te σ H fun x H1 => ∃ (a : Addr) (ns : List Int), x = .ref a ∧ SqL K H1 a (ns.map V.int) ∧ ns.length ≤ 64 ∧ (∀ i ∈ ns, i.natAbs.log2 < 1920) ∧ n + 130000 ≤ sizeLine ∧ tj σ H1 (n + 130000) R
theorem pj_lst (rm : Room j X.A) (h : PE X e te) (hr : PJ X es tj) (hs : evalEach (.FormattedValue e 114 none pos :: es) X.env = eval (.FormattedValue e 114 none pos) X.env :: evalEach es X.env := by rfl) : PJ X (.FormattedValue e 114 none pos :: es) (tjL X.K te tj) := by
  intro pins s σ H acc n R I hl hq
  rw [hs]
  refine wpAny_FormattedValue_repr (thn (h pins s σ H _ I hq) fun u s1 ⟨x, H1, I1, r, a, ns, ex, hL, hn, hb, hz, k⟩ => ?_)
  subst ex
  cases (show u = Value.ref a from r)
  obtain ⟨its, r', pl, _⟩ := I1.list hL
  obtain ⟨ob, ho, hc, nn, hd⟩ := id pl.isList
  have big : 2000000 ≤ sizeLine := by decide
  have len := shown_ints_le ns hn hb
  have rr : Reads s1.heap (.ref a) (.list (ns.map .int)) [a] := .list (as := []) ho hc hd (by simpa using reads_ints r')
  have dp : (PyData.list (ns.map .int)).depth ≤ 2 := by
    have := depth_ints ns
    simp only [PyData.depth]
    omega
  have hu := rm.units
  refine pyReprObj_of_reads rr (by simp only [PyData.showable]; exact showable_ints ns hb) (PyData.noDict_hsm (by simp only [PyData.hasDict]; exact noDict_ints ns)) rm.gd (by omega) (fun _ _ e => e) (fun h' u tk kk => ?_) (by omega)
  have I2 : Inv X pins σ H1 { s1 with heap := h', toks := tk } := I1.kept (t' := tk) kk
  exact formatField_str (fun t' tk' => pj_on hr (I2.tok _) hl len hz k) (by omega)
end
end L2

/-! list(reversed(xs)) -/
namespace L2
open PySem PySem.Spec PyProof.Rows
section
variable {prog : Program} {w : World} {A : Around} {E : Value → Shared → Prop} {s : Shared}
end
section
variable {X : Cx} {e : Expr} {te : TE} {p p' pos pos' : Pos}
end
end L2

/-! min of a list of ints, sorted(d) of a dict keyed by ints, == of lists of lists of ints -/
namespace L2
open PySem PySem.Spec PyProof.Rows
section
variable {prog : Program} {w : World} {A : Around} {E : Value → Shared → Prop} {s : Shared}
end
section
variable {X : Cx}
end
end L2

/-! == of two lists of lists of ints, the same lists -/
namespace L2
open PySem PySem.Spec PyProof.Rows
section
variable {X : Cx}
end
end L2

/-! list comprehensions with one test: [elt for x in iter if cnd] -/
namespace L2
open PySem PySem.Spec PyProof.Rows
section
variable {prog : Program} {w : World} {A : Around} {R : Result → Shared → Prop} {s : Shared}
end
abbrev TTB := Shared → Hp → List Addr → TT
section
variable {X : Cx} {x : Str} {fv : List (Str × Nat)} {scope : Scope} {cl : List (Str × Addr)} {pins : List (Addr × Obj)} {σ : St} {px pos : Pos} {iter elt cnd : Expr} {te : TEB} {tc : TTB}
end
/-! == and != of two lists of the very same things -/
section
variable {X : Cx}
end
end L2

namespace L2
open PySem PySem.Spec PyProof.Rows
/-! ### enumerate(a list), walked by two names -/
section
variable {X : Cx} {pins : List (Addr × Obj)} {σ : St} {H : Hp} {s : Shared} {h' : Heap}
end
section
variable {X : Cx}
end
end L2

/-! a flat tuple in a list of flat tuples -/
namespace L2
open PySem PySem.Spec PyProof.Rows
section
variable {X : Cx}
end
end L2
namespace L2
open PySem PySem.Spec PyProof.Rows
section
variable {X : Cx} {x : Str} {C : Addr} {k j : Nat} {ps : List Str} {sp : Sp} {CX : CXT} {p pos : Pos}
end
end L2

/-! set(a list of ints), its len -/
namespace L2
open PySem PySem.Spec PyProof.Rows
section
variable {X : Cx}
end
end L2

/-! the table of a set of small ints: what is laid where -/
namespace L2
open PySem
abbrev Rise (xs : List Nat) : Prop := xs.Pairwise (· < ·)
end L2

namespace L2
open PySem
/-! ### a clean table -/
theorem fmS (v : Nat) (r : List (Option Nat)) : (some v :: r).filterMap id = v :: r.filterMap id := rfl
theorem fmN (r : List (Option Nat)) : (none :: r).filterMap id = r.filterMap id := rfl
end L2

namespace L2
open PySem
/-! ### a table laid anew -/
end L2

namespace L2
open PySem
/-! ### a free slot of a standing table -/
structure TOK (t : SetTable) (n : Nat) (led : Bool) : Prop where
  ms : t.mask = 7 ∨ t.mask = 31 ∨ t.mask = 127
  du : t.dummies = #[]
  pl : t.plain = true
  ld : t.led = led
  ri : Rise t.place.toList
  sz : t.place.size = n
  fu : n * 5 < t.mask * 3
end L2

namespace L2
open PySem
/-! ### one more element -/
end L2

namespace L2
open PySem PySem.Spec PyProof.Rows
/-! ### a set of small ints in the heap, its table known -/
def Small (es : Array (Int × Value)) : Prop := ∀ e ∈ es.toList, ∃ (m : Nat) (tk : Tok), e = ((m : Int), Value.int (m : Int) tk) ∧ m < 64
def SetW (h : Heap) (a : Addr) (ks : List Nat) (led : Bool) : Prop :=
  ∃ (o : Obj) (es : Array (Int × Value)) (ep : Nat) (t : SetTable), h.get? a = some o ∧ o.ExactSet ∧ o.data = .set es ep t ∧ TOK t es.size led ∧ Small es ∧ (es.toList.map (·.1)).Perm (ks.map fun (k : Nat) => (k : Int)) ∧ ks.Nodup
section
variable {prog : Program} {w : World} {A : Around} {E : Value → Shared → Prop} {s : Shared}
end
end L2

namespace L2
open PySem PySem.Spec PyProof.Rows
/-! ### set(a list of small ints), its table known -/
section
variable {prog : Program} {w : World} {A : Around} {R : Result → Shared → Prop} {I : Addr} {fp wr : List Addr} {G : Array GenState → Array GenState → Prop} {n : Nat} {P : Nat → Value → Prop} {St : Nat → Shared → Prop}
end
end L2

namespace L2
open PySem PySem.Spec PyProof.Rows
section
variable {prog : Program} {w : World} {A : Around} {E : Value → Shared → Prop} {s : Shared}
end
end L2

namespace L2
open PySem PySem.Spec PyProof.Rows
/-! ### walking such a set -/
section
variable {prog : Program} {w : World} {A : Around} {E : Value → Shared → Prop} {s : Shared} {a : Addr} {o : Obj} {es : Array (Int × Value)} {ep : Nat} {t : SetTable}
end
end L2

namespace L2
open PySem PySem.Spec PyProof.Rows
section
variable {prog : Program} {w : World} {A : Around} {E : Value → Shared → Prop} {s : Shared} {a I : Addr} {o : Obj} {es : Array (Int × Value)} {ep : Nat} {t : SetTable}
end
end L2

namespace L2
open PySem PySem.Spec PyProof.Rows
/-! ### sorted(set(xs)) -/
def SetO (w : World) (a : Addr) (ks : List Nat) : HO := .ext fun h => SetW h a ks (!w.params.followText "set-order")
section
variable {X : Cx}
end
end L2

/-! a text's index of a sign -/
namespace L2
open PySem PySem.Spec PyProof.Rows
section
variable {X : Cx}
end
end L2

/-! sum(a list of lists, start=[]) -/
namespace L2
open PySem PySem.Spec PyProof.Rows
section
variable {prog : Program} {w : World} {A : Around} {R : Result → Shared → Prop} {I : Addr} {fp wr : List Addr} {G : Array GenState → Array GenState → Prop} {n : Nat} {P : Nat → Value → Prop} {St : Nat → Shared → Prop}
end
section
variable {prog : Program} {w : World} {A : Around} {E : Value → Shared → Prop} {s : Shared}
end
section
variable {X : Cx} {te ts : TE} {e st : Expr} {p pos kp : Pos}
end
end L2

local macro_rules | `(tactic| walk_at "ns") => `(tactic| try dsimp only [List.set_cons_zero, List.set_cons_succ, _root_.L2.start, _root_.L2.gName, List.map_cons, List.map_nil, List.length_cons, List.length_nil, List.replicate_succ, List.replicate_zero, List.cons_append, List.nil_append, Nat.reduceSub, Nat.reduceAdd])
namespace Prf
open PySem L2 Kin
def top (i : Nat) : PySem.Stmt := PySem.Challenge.pw_kinturns_k15_a_table_written.main.body.getD i (.Pass ⟨0, 0, 0, 0⟩)
structure Ad where
  KinError : Addr
  NoTable : Addr
  BadNote : Addr
structure Txt (K : PySem.W.Frag) (mg : Str → Option Value) (C : Addr) (e : Ad) : Prop where
  m_Table : mg "Table" = some (.ref C)
  cl_Table : Cls K C
  n_wife_turn : NoAttr K C "wife_turn"
  n_heir_turn : NoAttr K C "heir_turn"
  n_husband_turn : NoAttr K C "husband_turn"
  n_father_turn : NoAttr K C "father_turn"
  z_ValueError : mg "ValueError" = none
  z_bool : mg "bool" = none
  z_int : mg "int" = none
  z_isinstance : mg "isinstance" = none
  z_len : mg "len" = none
  z_list : mg "list" = none
  z_range : mg "range" = none
  z_sorted : mg "sorted" = none
  z_str : mg "str" = none
  g_MOST_CLASSES : ∃ u, mg "MOST_CLASSES" = some u ∧ RelV (.int 8) u
  g_FIGURES : ∃ u, mg "FIGURES" = some u ∧ RelV (.str "0123456789") u
  kd : PySem.W.specialIn K (.builtin "object.__class__") "__get__" = some (some (.builtin "getset_descriptor.__get__")) ∧ PySem.W.takesIn K (.builtin "object.__class__") = some true
  m_KinError : mg "KinError" = some (.ref e.KinError)
  m_NoTable : mg "NoTable" = some (.ref e.NoTable)
  x_NoTable : PySem.W.excIn K e.NoTable bmVE "ValueError.__new__" = true
  c_NoTable : ExcCls K e.NoTable
  w_NoTable : PySem.W.exmOne K (.ref e.NoTable) (.ref e.KinError) = some true
  r_NoTable : PySem.W.exmOne K (.ref e.NoTable) (.ref e.NoTable) = some true
  v_NoTable : PySem.W.kitOne K (.ref e.NoTable) (.type "ValueError") = some true
  k_NoTable_NoTable : PySem.W.kitOne K (.ref e.NoTable) (.ref e.NoTable) = some true
  k_NoTable_BadNote : PySem.W.kitOne K (.ref e.NoTable) (.ref e.BadNote) = some false
  m_BadNote : mg "BadNote" = some (.ref e.BadNote)
  x_BadNote : PySem.W.excIn K e.BadNote bmVE "ValueError.__new__" = true
  c_BadNote : ExcCls K e.BadNote
  w_BadNote : PySem.W.exmOne K (.ref e.BadNote) (.ref e.KinError) = some true
  v_BadNote : PySem.W.kitOne K (.ref e.BadNote) (.type "ValueError") = some true
  k_BadNote_NoTable : PySem.W.kitOne K (.ref e.BadNote) (.ref e.NoTable) = some false
  k_BadNote_BadNote : PySem.W.kitOne K (.ref e.BadNote) (.ref e.BadNote) = some true
/-! what all laws share -/
theorem emod_nat (z : Int) {k : Nat} (hk : 0 < k) : ∃ q : Nat, z % (k : Int) = (q : Int) ∧ q < k :=
  ⟨(z % (k : Int)).toNat, by have := Int.emod_nonneg z (show (k : Int) ≠ 0 by omega); omega, by have := Int.emod_lt_of_pos z (show (0 : Int) < k by omega); have := Int.emod_nonneg z (show (k : Int) ≠ 0 by omega); omega⟩
theorem log_small {n : Nat} (h : n < 10 ^ 9) : n.log2 < 1920 := by
  by_cases z : n = 0
  · subst z; decide
  · exact (Nat.log2_lt z).mpr (Nat.lt_trans h (Nat.lt_of_lt_of_le (by decide : 10 ^ 9 < 2 ^ 30) (Nat.pow_le_pow_right (by decide) (by decide))))
--CUT
/-! an exception told of as one with nothing behind it -/
section
variable {X : Cx} {CX : CXT} {E : XK} {x : Str} {C : Addr} {j : Nat} {pos cpos np : Pos} {e : Expr} {es : List Expr} {t : TA}
theorem ps_raisK (hx : Exits CX X E) (hm : X.mg x = some (.ref C)) (hq : PySem.W.excIn X.K C bmVE "ValueError.__new__" = true) (hr : Room j X.A) (hg : Gl X x) (ha : PA X (e :: es) t)
    (hdb : (x == ("__debug__" : Str)) = false := by decide) (he : starEach (e :: es) X.env = (false, eval e X.env) :: starEach es X.env := by rfl) (hpl : (backTo cpos (starEach es X.env)).any (·.1) = false := by rfl) :
    PS X (.Raise (some (.Call (.Name x np) (e :: es) [] cpos)) none pos) (tRaiseK C E t) :=
  fun pins s σ H D I h => ps_raiseK hx (own_mk I.ok.mod.kin hm hq) PySem.F.excBase_ValueError hr hg ha hdb he hpl pins s σ H D I h
end


--CUT
/-! THE PROGRAM'S DEFS: tables and walks, each by its promise. -/
/-! ### what a table looks like -/
theorem s12 : ¬ (("wife_turn" : Str) = "heir_turn") := by decide +kernel
theorem s13 : ¬ (("wife_turn" : Str) = "husband_turn") := by decide +kernel
theorem s14 : ¬ (("wife_turn" : Str) = "father_turn") := by decide +kernel
theorem s23 : ¬ (("heir_turn" : Str) = "husband_turn") := by decide +kernel
theorem s24 : ¬ (("heir_turn" : Str) = "father_turn") := by decide +kernel
def flds (a b c d : Addr) : List (Str × V) := putF "father_turn" (.ref d) (putF "husband_turn" (.ref c) (putF "heir_turn" (.ref b) (putF "wife_turn" (.ref a) [])))
theorem flds_w (a b c d : Addr) : (flds a b c d).lookup ("wife_turn" : Str) = some (.ref a) := by
  unfold flds
  rw [lookup_putF, if_neg s14, lookup_putF, if_neg s13, lookup_putF, if_neg s12, lookup_putF, if_pos rfl]
theorem flds_h (a b c d : Addr) : (flds a b c d).lookup ("heir_turn" : Str) = some (.ref b) := by
  unfold flds
  rw [lookup_putF, if_neg s24, lookup_putF, if_neg s23, lookup_putF, if_pos rfl]
theorem flds_no (a b c d : Addr) {m : Str} (h1 : ¬ m = "father_turn") (h2 : ¬ m = "husband_turn") (h3 : ¬ m = "heir_turn") (h4 : ¬ m = "wife_turn") : (flds a b c d).lookup m = none := by
  unfold flds
  rw [lookup_putF, if_neg h1, lookup_putF, if_neg h2, lookup_putF, if_neg h3, lookup_putF, if_neg h4]
  all_goals rfl
structure TableAt (C : Addr) (H : Hp) (p : Addr) (n : Nat) (w h : List Nat) : Prop where
  tw : IsTurn n w
  th : IsTurn n h
  n1 : 1 ≤ n
  n8 : n ≤ 8
  ob : ∃ dx a b c d, H p = some (.ins C dx (flds a b c d)) ∧ H a = some (.lst (natL w)) ∧ H b = some (.lst (natL h)) ∧ H c = some (.lst (natL (inv w))) ∧ H d = some (.lst (natL (inv h)))
theorem TableAt.same {C : Addr} {H H' : Hp} {p : Addr} {n : Nat} {w h : List Nat} (T : TableAt C H p n w h) (s : Same H H') : TableAt C H' p n w h := by
  obtain ⟨tw, th, n1, n8, dx, a, b, c, d, e1, e2, e3, e4, e5⟩ := T
  exact ⟨tw, th, n1, n8, dx, a, b, c, d, s _ _ e1, s _ _ e2, s _ _ e3, s _ _ e4, s _ _ e5⟩
/-! ### the promises -/
def spSize (C : Addr) : Sp := fun vs H Q _ => ∃ p n w h, vs = [.ref p] ∧ TableAt C H p n w h ∧ Q (nat n) H
def spIsTurn : Sp := fun vs H Q _ => ∃ (a : Addr) (xs : List Int) (n : Nat), vs = [.ref a, nat n] ∧ H a = some (.lst (xs.map V.int)) ∧ xs.length < 64 ∧ n ≤ 8 ∧ ∀ H', Same H H' → Q (.bl (decide (xs.Perm (intL (List.range n))))) H'
def spTurnedBack : Sp := fun vs H Q _ => ∃ a w n, vs = [.ref a] ∧ H a = some (.lst (natL w)) ∧ IsTurn n w ∧ n ≤ 8 ∧ ∀ D H', H D = none → Same H H' → H' D = some (.lst (natL (inv w))) → Q (.ref D) H'
def spInit (C : Addr) : Sp := fun vs H Q _ => ∃ x dx a b w h n, vs = [.ref x, .ref a, .ref b] ∧ H x = some (.ins C dx []) ∧ H a = some (.lst (natL w)) ∧ H b = some (.lst (natL h)) ∧ IsTurn n w ∧ IsTurn n h ∧ 1 ≤ n ∧ n ≤ 8 ∧
  ∀ H', (∀ c o, H c = some o → c ≠ x → H' c = some o) → TableAt C H' x n w h → Q .non H'
section
variable {P : Program} {w : World} {K : PySem.W.Frag} {mg : Str → Option Value} {base : Heap} {CX : CXT} {C : Addr} {e : Ad}
/-! ### small facts -/
/-! ### size -/
theorem sc_size : FnScope ["self"] ["self"] (defScope (inClass (top 9) 1)) := ⟨rfl, rfl, rfl, by decide +kernel, rfl, by decide +kernel, by decide +kernel⟩
theorem ok_size {f : Addr} {fd : FuncData} (F : Fun K "size" "Table.size" (inClass (top 9) 1) f fd) (T : Txt K mg C e) : FnOk P w K mg base CX 1 f fd ["self"] (spSize C) := by
  refine F.okN sc_size (fun vs H Q E h => ?_) (fun cdv A outer s H vs Q E hr h => ?_)
  · obtain ⟨p, n, w, h, rfl, _⟩ := h; rfl
  · obtain ⟨p, n, w', h', rfl, TA, k⟩ := h
    obtain ⟨dx, a, b, c, d, e1, e2, e3, e4, e5⟩ := TA.ob
    refine ⟨_, (pss_one (ps_ret (pe_callB call_len_seq rfl T.z_len PySem.boot_len (pa_cons (pe_fld (pv 0) rfl) pa_nil)))), ?_⟩
    refine ⟨_, rfl, p, C, dx, _, _, rfl, e1, T.cl_Table, T.n_wife_turn, flds_w .., a, _, rfl, .inl (SqL.of e2), ?_⟩
    rw [natL_len, TA.tw.len]
    exact k
/-! ### the four -/
/-! ### is_turn, turned_back, __init__ -/
theorem rngV_intL (n : Nat) : rngV 0 (n : Int) = (intL (List.range n)).map V.int := by
  unfold rngV intL
  rw [List.map_map]
  have e : ((n : Int) - 0).toNat = n := by omega
  rw [e]
  exact List.map_congr_left fun i _ => by simp
theorem intL_flat (xs : List Int) : (xs.map V.int).all flatV = true := by
  rw [List.all_map]
  exact List.all_eq_true.mpr fun _ _ => rfl
theorem natL_intL (w : List Nat) : natL w = (intL w).map V.int := by
  unfold natL intL
  rw [List.map_map]
  rfl
theorem sc_isturn : FnScope ["row", "many"] ["row", "many"] (defScope (top 7)) := ⟨rfl, rfl, rfl, by decide +kernel, rfl, by decide +kernel, by decide +kernel⟩
theorem ok_isturn {f : Addr} {fd : FuncData} (F : Fun K "is_turn" "is_turn" (top 7) f fd) (T : Txt K mg C e) : FnOk P w K mg base CX 1 f fd ["row", "many"] spIsTurn := by
  refine F.okN sc_isturn (fun vs H Q E h => ?_) (fun cdv A outer s H vs Q E hr h => ?_)
  · obtain ⟨a, xs, n, rfl, _⟩ := h; rfl
  · obtain ⟨a, xs, n, rfl, ha, hl, hn, k⟩ := h
    have hu := hr.units0
    refine ⟨_, (pss_one (ps_ret (pe_cmpR (op_eqL hu) (pe_callB call_sorted rfl T.z_sorted bt_sorted (pa_cons (pv 0) pa_nil)) (pe_callTy (call_list_rng rfl) rfl T.z_list bt_list (pa_cons (pe_rng1 rfl T.z_range (pa_cons (pv 1) pa_nil)) pa_nil)) (nomark _)))), ?_⟩
    refine ⟨_, rfl, a, xs, rfl, SqL.of ha, hl, fun l ns' hl' hp hs => ?_⟩
    refine ⟨_, rfl, _, rfl, fun r hr' => ?_⟩
    have hlr : l ≠ r := ne_of_none upd_same hr'
    refine ⟨r, 0, _, rfl, upd_same, by decide, by decide, by omega, by omega, by omega, fun g hg => ?_⟩
    have hlg : l ≠ g := ne_of_none (show (upd (upd H l (.lst (ns'.map V.int))) r (.rng 0 (n : Int))) l = some (.lst (ns'.map V.int)) by rw [upd_ne hlr, upd_same]) hg
    refine ⟨l, g, ns'.map V.int, rngV 0 (n : Int), rfl, rfl, SqL.of (by rw [upd_ne hlg, upd_ne hlr, upd_same]), SqL.of upd_same, intL_flat _, by rw [rngV_intL]; exact intL_flat _, ?_⟩
    have e : eqVs (ns'.map V.int) (rngV 0 (n : Int)) = decide (xs.Perm (intL (List.range n))) := by
      rw [rngV_intL, eqVs_intL]
      by_cases q : xs.Perm (intL (List.range n))
      · rw [decide_eq_true q, decide_eq_true (sorted_unique (hp.trans q) hs (range_sorted n))]
      · rw [decide_eq_false q, decide_eq_false fun z => q (by rw [← z]; exact hp.symm)]
    show Q (.bl (eqVs (ns'.map V.int) (rngV 0 (n : Int)))) _
    rw [e]
    refine k _ fun b o hb => ?_
    have h1 : b ≠ l := ne_of_none hb hl'
    have h2 : (upd H l (.lst (ns'.map V.int))) b = some o := by rw [upd_ne h1]; exact hb
    have h3 : b ≠ r := ne_of_none h2 hr'
    have h4 : (upd (upd H l (.lst (ns'.map V.int))) r (.rng 0 (n : Int))) b = some o := by rw [upd_ne h3]; exact h2
    rw [upd_ne (ne_of_none h4 hg)]
    exact h4
theorem sc_tback : FnScope ["turn"] ["turn"] (defScope (top 8)) := ⟨rfl, rfl, rfl, by decide +kernel, rfl, by decide +kernel, by decide +kernel⟩
theorem idx_intL : ∀ (w : List Nat) (c : Nat), (intL w).idxOf (c : Int) = w.idxOf c
  | [], _ => rfl
  | a :: r, c => by
    show List.idxOf (c : Int) ((a : Int) :: intL r) = _
    rw [List.idxOf_cons, List.idxOf_cons, idx_intL r c]
    have e : ((a : Int) == (c : Int)) = (a == c) := by
      by_cases q : a = c
      · subst q; simp
      · rw [beq_eq_false_iff_ne.mpr q, beq_eq_false_iff_ne.mpr (by omega)]
    rw [e]
theorem mem_intL {w : List Nat} {c : Nat} (h : c ∈ w) : (c : Int) ∈ intL w := List.mem_map.mpr ⟨c, h, rfl⟩
theorem ok_tback {f : Addr} {fd : FuncData} (F : Fun K "turned_back" "turned_back" (top 8) f fd) (T : Txt K mg C e) : FnOk P w K mg base CX 1 f fd ["turn"] spTurnedBack := by
  refine F.okN sc_tback (fun vs H Q E h => ?_) (fun cdv A outer s H vs Q E hr h => ?_)
  · obtain ⟨a, w, n, rfl, _⟩ := h; rfl
  · obtain ⟨a, w', n, rfl, ha, tw, hn, k⟩ := h
    refine ⟨_, (pss_one (ps_ret (pe_comp (fv := [("turn", 0)]) ⟨rfl, by decide +kernel, rfl, by decide +kernel, rfl, by decide +kernel, ⟨⟨rfl, Or.inl rfl, Or.inl rfl, rfl⟩, trivial⟩, rfl, rfl⟩ rfl (pi_range1 rfl T.z_range (pa_cons (pe_callB call_len_seq rfl T.z_len PySem.boot_len (pa_cons (pv 0) pa_nil)) pa_nil)) (fun _ _ _ => (pe_bm PySem.F.plainAttrs_list PySem.F.slot_list_index PySem.F.type_list_index mt_index (pv 1) (pa_cons (pv 0) pa_nil)))))), ?_⟩
    refine ⟨_, rfl, a, _, rfl, .inl (SqL.of ha), _, rfl, by rw [natL_len, tw.len]; omega, by rw [natL_len, tw.len]; omega, ?_⟩
    have e : (((natL w').length : Nat) : Int).toNat = n := by rw [natL_len, tw.len]; omega
    rw [e]
    refine comp_range (fun i => nat (bw w' i)) (by have := (show 8 ≤ sizeLine by decide); omega) (fun i H' R hi sm kk _ _ _ => ?_) fun D H2 hD sm hl => ?_
    · refine ⟨_, rfl, .inl ⟨rfl, _, SqL.of (sm _ _ ha)⟩, _, rfl, a, intL w', ((0 : Int) + (i : Nat)), rfl, rfl, SqL.of (by rw [← natL_intL]; exact sm _ _ ha), ?_, ?_⟩
      · rw [Int.zero_add]; exact mem_intL (tw.mem.mpr hi)
      · rw [Int.zero_add, idx_intL]; exact kk H' (Same.refl _)
    · refine k D H2 hD sm ?_
      rw [hl]
      unfold natL inv
      rw [tw.len, List.map_map]
      rfl
end


--CUT
/-! __init__, both ways; wives, heirs -/
def Good (xs ys : List Int) : Prop := ∃ n w h, xs = intL w ∧ ys = intL h ∧ IsTurn n w ∧ IsTurn n h ∧ 1 ≤ n ∧ n ≤ 8
abbrev Sm (xs : List Int) : Prop := xs.length < 64 ∧ ∀ i ∈ xs, i.natAbs.log2 < 1920
def spInitX (C : Addr) (e : Ad) : Sp := fun vs H Q E => ∃ (x dx a b : Addr) (xs ys : List Int), vs = [.ref x, .ref a, .ref b] ∧ H x = some (.ins C dx []) ∧ H a = some (.lst (xs.map V.int)) ∧ H b = some (.lst (ys.map V.int)) ∧ Sm xs ∧ Sm ys ∧
  (∀ n w h, xs = intL w → ys = intL h → IsTurn n w → IsTurn n h → 1 ≤ n → n ≤ 8 → ∀ H', (∀ c o, H c = some o → c ≠ x → H' c = some o) → (∀ H'', (∀ c o, H' c = some o → H c = none ∨ c = x → H'' c = some o) → TableAt C H'' x n w h) → Q .non H') ∧ (¬ Good xs ys → ∀ H', Same H H' → E (.ref e.NoTable) (some 1) H')
theorem turn_sm {n : Nat} {w : List Nat} (h : IsTurn n w) (n8 : n ≤ 8) : Sm (intL w) := by
  refine ⟨by rw [intL_len, h.len]; omega, fun i hi => ?_⟩
  obtain ⟨c, hc, rfl⟩ := List.mem_map.mp hi
  have := h.mem.mp hc
  have p9 : (8 : Nat) < 10 ^ 9 := by decide
  exact log_small (by show ((c : Nat) : Int).natAbs < 10 ^ 9; omega)
theorem intL_inj : ∀ {a b : List Nat}, intL a = intL b → a = b
  | [], [], _ => rfl
  | [], _ :: _, h => by cases h
  | _ :: _, [], h => by cases h
  | x :: a, y :: b, h => by
    have h1 : (x : Int) = (y : Int) := (List.cons.inj h).1
    have h2 : intL a = intL b := (List.cons.inj h).2
    rw [intL_inj h2, Int.ofNat.inj h1]
theorem initN {C : Addr} {e : Ad} : ∀ vs H Q E, spInit C vs H Q E → spInitX C e vs H Q E := by
  rintro vs H Q E ⟨x, dx, a, b, w, h, n, rfl, hx, ha, hb, tw, th, n1, n8, k⟩
  refine ⟨x, dx, a, b, intL w, intL h, rfl, hx, by rw [← natL_intL]; exact ha, by rw [← natL_intL]; exact hb, turn_sm tw n8, turn_sm th n8, fun m w2 h2 e1 e2 t1 t2 _ _ => ?_, fun z => absurd ⟨n, w, h, rfl, rfl, tw, th, n1, n8⟩ z⟩
  cases intL_inj e1
  cases intL_inj e2
  have : m = n := by rw [← t1.len, tw.len]
  subst this
  exact fun H' kp TT => k H' kp (TT H' fun c o h _ => h)
theorem perm_turn {xs : List Int} {n : Nat} (h : xs.Perm (intL (List.range n))) : ∃ w, xs = intL w ∧ IsTurn n w := by
  have nn : ∀ i ∈ xs, 0 ≤ i := fun i hi => by
    obtain ⟨c, _, rfl⟩ := List.mem_map.mp (h.mem_iff.mp hi)
    exact Int.natCast_nonneg c
  refine ⟨xs.map Int.toNat, ?_, ?_⟩
  · unfold intL
    rw [List.map_map]
    conv => lhs; rw [← List.map_id xs]
    exact List.map_congr_left fun i hi => (Int.toNat_of_nonneg (nn i hi)).symm
  · have q := h.map Int.toNat
    unfold intL at q
    rw [List.map_map] at q
    have e : (List.range n).map (Int.toNat ∘ fun c : Nat => (c : Int)) = List.range n := by
      conv => rhs; rw [← List.map_id (List.range n)]
      exact List.map_congr_left fun i _ => Int.toNat_natCast i
    unfold IsTurn
    rw [← e]
    exact q
theorem bad_of {xs ys : List Int} (h : ¬ (1 ≤ xs.length ∧ xs.length ≤ 8 ∧ xs.Perm (intL (List.range xs.length)) ∧ ys.Perm (intL (List.range xs.length)))) : ¬ Good xs ys := by
  rintro ⟨n, w, h', rfl, rfl, tw, th, n1, n8⟩
  refine h ?_
  rw [intL_len, tw.len]
  exact ⟨n1, n8, List.Perm.map _ tw, List.Perm.map _ th⟩
section
variable {P : Program} {w : World} {K : PySem.W.Frag} {mg : Str → Option Value} {base : Heap} {CX : CXT} {C : Addr} {e : Ad}
theorem sc_init : FnScope ["self", "wives", "heirs", "many"] ["self", "wives", "heirs"] (defScope (inClass (top 9) 0)) := ⟨rfl, rfl, rfl, by decide +kernel, rfl, by decide +kernel, by decide +kernel⟩
theorem ok_init {f : Addr} {fd : FuncData} (F : Fun K "__init__" "Table.__init__" (inClass (top 9) 0) f fd) (T : Txt K mg C e) (D_is_turn : Def P w K mg base (CXR P w) "is_turn" 1 ["row", "many"] spIsTurn) (D_turned_back : Def P w K mg base (CXR P w) "turned_back" 1 ["turn"] spTurnedBack) :
    FnOk P w K mg base (CXR P w) 2 f fd ["self", "wives", "heirs"] (spInitX C e) := by
  refine F.okX sc_init (fun vs H Q E h => ?_) (fun cdv A outer s H vs Q E hr hx h => ?_)
  · obtain ⟨x, dx, a, b, xs, ys, rfl, _⟩ := h; rfl
  · obtain ⟨x, dx, a, b, xs, ys, rfl, hxx, ha, hb, sx, sy, k, kE⟩ := h
    have nd := sc_init.nd
    have p9 : (64 : Nat) < 10 ^ 9 := by decide
    have s8 : ((8 : Int)).natAbs.log2 < 1920 := by decide
    have sl : ((xs.length : Int)).natAbs.log2 < 1920 := log_small (by have := sx.1; show ((xs.length : Nat) : Int).natAbs < 10 ^ 9; omega)
    refine ⟨_, (pss_cons (ps_set (i := 3) nd rfl (Or.inl rfl) (pe_callB call_len_seq rfl T.z_len PySem.boot_len (pa_cons (pv 1) pa_nil)))
      (pss_cons (ps_if (PW.pt (pw_or (pt_cmpR op_lt (pv 3) pe_int (nomark _)) (pw_or1 (pt_cmpR op_gt (pv 3) (pe_globE rfl T.g_MOST_CLASSES) (nomark _))))) (pss_one (ps_raisK hx T.m_NoTable T.x_NoTable hr rfl (pa_cons (pe_join (pj_cst (pj_int (pe_globE rfl T.g_MOST_CLASSES) (pj_cst (pj_int (pv 3) pj_nil))))) pa_nil))) pss_nil)
      (pss_cons (ps_if (PW.pt (pw_or (pt_not (pt_val (pe_callX D_is_turn hx.s hr rfl (pa_cons (pv 1) (pa_cons (pv 3) pa_nil))))) (pw_or1 (pt_not (pt_val (pe_callX D_is_turn hx.s hr rfl (pa_cons (pv 2) (pa_cons (pv 3) pa_nil)))))))) (pss_one (ps_raisK hx T.m_NoTable T.x_NoTable hr rfl (pa_cons (pe_join (pj_cst (pj_int (pv 3) (pj_cst (pj_lst hr (pv 1) (pj_cst (pj_lst hr (pv 2) pj_nil))))))) pa_nil))) pss_nil)
      (pss_cons (ps_fld (pv 0) (pe_callTy call_list_of rfl T.z_list bt_list (pa_cons (pv 1) pa_nil)) rfl)
      (pss_cons (ps_fld (pv 0) (pe_callTy call_list_of rfl T.z_list bt_list (pa_cons (pv 2) pa_nil)) rfl)
      (pss_cons (ps_fld (pv 0) (pe_callX D_turned_back hx.s hr rfl (pa_cons (pv 1) pa_nil)) rfl)
      (pss_one (ps_fld (pv 0) (pe_callX D_turned_back hx.s hr rfl (pa_cons (pv 2) pa_nil)) rfl)))))))), ?_⟩
    -- many = len(wives)
    refine ⟨_, rfl, a, _, rfl, .inl (SqL.of ha), ?_⟩
    rw [List.length_map]
    -- if many < 1 or many > MOST_CLASSES
    have no1 : ∀ z : ¬ (1 ≤ xs.length ∧ xs.length ≤ 8), E (.ref e.NoTable) (some 1) H := fun z => kE (bad_of fun q => z ⟨q.1, q.2.1⟩) H (Same.refl _)
    refine ⟨_, rfl, _, _, rfl, rfl, _, rfl, iteD2 (fun q => ?_) (fun q => ?_)⟩
    · exact iteT ⟨by decide, _, rfl, s8, by decide, by decide, _, rfl, _, rfl, sl, by decide, by decide, fun _ => ⟨one_fits, no1 (by omega)⟩⟩
    refine ⟨_, rfl, _, _, rfl, rfl, _, rfl, iteD2 (fun q' => ?_) (fun q' => ?_)⟩
    · exact ⟨by decide, _, rfl, s8, by decide, by decide, _, rfl, _, rfl, sl, by decide, by decide, fun _ => ⟨one_fits, no1 (by omega)⟩⟩
    have n1 : 1 ≤ xs.length := by omega
    have n8 : xs.length ≤ 8 := by omega
    clear no1
    -- is_turn twice
    have rai : ∀ H2, Same H H2 → ¬ (xs.Perm (intL (List.range xs.length)) ∧ ys.Perm (intL (List.range xs.length))) → E (.ref e.NoTable) (some 1) H2 := fun H2 s2 z => kE (bad_of fun q => z q.2.2) H2 s2
    have ra : ∀ H2, Same H H2 → SqL K H2 a (xs.map V.int) := fun H2 s2 => SqL.of (s2 _ _ ha)
    have rb : ∀ H2, Same H H2 → SqL K H2 b (ys.map V.int) := fun H2 s2 => SqL.of (s2 _ _ hb)
    have lx : xs.length ≤ 64 := by have := sx.1; omega
    have ly : ys.length ≤ 64 := by have := sy.1; omega
    refine ⟨_, rfl, _, rfl, a, xs, xs.length, rfl, ha, sx.1, n8, fun H1 s1 => ⟨_, rfl, ?_⟩⟩
    by_cases pw : xs.Perm (intL (List.range xs.length))
    rotate_left
    · rw [decide_eq_false pw]
      refine iteT ?_
      exact ⟨by decide, _, rfl, _, rfl, sl, by decide, by decide, _, rfl, a, xs, rfl, ra _ s1, lx, sx.2, by decide, by decide, _, rfl, b, ys, rfl, rb _ s1, ly, sy.2, by decide, by decide, fun _ => ⟨one_fits, rai _ s1 fun z => pw z.1⟩⟩
    rw [decide_eq_true pw]
    refine iteF ?_
    refine ⟨_, rfl, _, rfl, b, ys, xs.length, rfl, s1 _ _ hb, sy.1, n8, fun H2 s2 => ⟨_, rfl, ?_⟩⟩
    by_cases ph : ys.Perm (intL (List.range xs.length))
    rotate_left
    · rw [decide_eq_false ph]
      refine iteT ?_
      exact ⟨by decide, _, rfl, _, rfl, sl, by decide, by decide, _, rfl, a, xs, rfl, ra _ (s1.trans s2), lx, sx.2, by decide, by decide, _, rfl, b, ys, rfl, rb _ (s1.trans s2), ly, sy.2, by decide, by decide, fun _ => ⟨one_fits, rai _ (s1.trans s2) fun z => ph z.2⟩⟩
    rw [decide_eq_true ph]
    refine iteF ?_
    obtain ⟨n, hn⟩ : ∃ n, xs.length = n := ⟨_, rfl⟩
    rw [hn] at n1 n8 pw ph
    obtain ⟨w', ew, tw⟩ := perm_turn pw
    obtain ⟨h', eh, th⟩ := perm_turn ph
    clear lx ly ra rb rai kE s8 sl p9 pw ph sx sy
    have k := k n w' h' ew eh tw th n1 n8
    have hx' := hx
    have hx := hxx
    rw [ew, ← natL_intL] at ha
    rw [eh, ← natL_intL] at hb
    have s12' : Same H H2 := s1.trans s2
    -- self.wife_turn = list(wives)
    refine ⟨_, rfl, a, _, rfl, .inl (SqL.of (s12' _ _ ha)), fun l1 hl1 => ?_⟩
    have ne1 : x ≠ l1 := ne_of_none (s12' _ _ hx) hl1
    have nxa : x ≠ a := ne_of hx ha (by intro z; cases z)
    have nxb : x ≠ b := ne_of hx hb (by intro z; cases z)
    refine ⟨_, rfl, x, C, dx, [], rfl, (by rw [upd_ne ne1]; exact s12' _ _ hx), T.cl_Table, T.n_wife_turn, (by show 0 < 1000; decide), ?_⟩
    -- self.heir_turn = list(heirs)
    have k1 : ∀ c o, H c = some o → c ≠ x → (upd (upd H2 l1 (.lst (natL w'))) x (.ins C dx (putF "wife_turn" (.ref l1) []))) c = some o := fun c o hc hcx => by
      rw [upd_ne hcx, upd_ne (ne_of_none (s12' _ _ hc) hl1)]; exact s12' _ _ hc
    refine ⟨_, rfl, b, _, rfl, .inl (SqL.of (k1 b _ hb (Ne.symm nxb))), fun l2 hl2 => ?_⟩
    have ne2 : x ≠ l2 := ne_of_none upd_same hl2
    refine ⟨_, rfl, x, C, dx, _, rfl, (by rw [upd_ne ne2]; exact upd_same), T.cl_Table, T.n_heir_turn, (by show 1 < 1000; decide), ?_⟩
    have k2 : ∀ c o, (upd (upd H2 l1 (.lst (natL w'))) x (.ins C dx (putF "wife_turn" (.ref l1) []))) c = some o → c ≠ x → ∀ u, (upd (upd (upd (upd H2 l1 (.lst (natL w'))) x (.ins C dx (putF "wife_turn" (.ref l1) []))) l2 (.lst (natL h'))) x u) c = some o := fun c o hc hcx u => by
      rw [upd_ne hcx, upd_ne (ne_of_none hc hl2)]; exact hc
    generalize hH3 : upd (upd (upd (upd H2 l1 (.lst (natL w'))) x (.ins C dx (putF "wife_turn" (.ref l1) []))) l2 (.lst (natL h'))) x (.ins C dx (putF "heir_turn" (.ref l2) (putF "wife_turn" (.ref l1) []))) = H3
    have f1 : H3 l1 = some (.lst (natL w')) := by rw [← hH3]; exact k2 l1 _ (by rw [upd_ne (Ne.symm ne1), upd_same]) (Ne.symm ne1) _
    have f2 : H3 l2 = some (.lst (natL h')) := by rw [← hH3, upd_ne (Ne.symm ne2), upd_same]
    have f3 : H3 x = some (.ins C dx (putF "heir_turn" (.ref l2) (putF "wife_turn" (.ref l1) []))) := by rw [← hH3, upd_same]
    have f4 : ∀ c o, H c = some o → c ≠ x → H3 c = some o := fun c o hc hcx => by rw [← hH3]; exact k2 c o (k1 c o hc hcx) hcx _
    -- self.husband_turn = turned_back(wives)
    refine ⟨_, rfl, a, w', n, rfl, f4 a _ ha (Ne.symm nxa), tw, n8, fun D1 H4 hD1 s4 hl4 => ?_⟩
    refine ⟨_, rfl, x, C, dx, _, rfl, s4 _ _ f3, T.cl_Table, T.n_husband_turn, (by show 2 < 1000; decide), ?_⟩
    have nxD1 : x ≠ D1 := ne_of_none f3 hD1
    have g4 : ∀ c o u, H3 c = some o → c ≠ x → (upd H4 x u) c = some o := fun c o u hc hcx => by rw [upd_ne hcx]; exact s4 _ _ hc
    -- self.father_turn = turned_back(heirs)
    refine ⟨_, rfl, b, h', n, rfl, g4 b _ _ (f4 b _ hb (Ne.symm nxb)) (Ne.symm nxb), th, n8, fun D2 H5 hD2 s5 hl5 => ?_⟩
    refine ⟨_, rfl, x, C, dx, _, rfl, s5 _ _ upd_same, T.cl_Table, T.n_father_turn, (by show 3 < 1000; decide), ?_⟩
    have nxD2 : x ≠ D2 := ne_of_none upd_same hD2
    have g5 : ∀ c o u, H3 c = some o → c ≠ x → (upd H5 x u) c = some o := fun c o u hc hcx => by rw [upd_ne hcx]; exact s5 _ _ (g4 c o _ hc hcx)
    have fr : ∀ c, c ≠ x → H3 c = none → H c = none := fun c hcx hc => by
      cases q : H c with
      | none => rfl
      | some o => rw [f4 c o q hcx] at hc; cases hc
    have r1 : H l1 = none := s12'.free hl1
    have r2 : H l2 = none := by
      cases q : H l2 with
      | none => rfl
      | some o => rw [k1 l2 o q (Ne.symm ne2)] at hl2; cases hl2
    have r3 : H D1 = none := fr D1 (Ne.symm nxD1) hD1
    have r4 : H D2 = none := by
      cases q : H D2 with
      | none => rfl
      | some o => rw [g4 D2 o _ (f4 D2 o q (Ne.symm nxD2)) (Ne.symm nxD2)] at hD2; cases hD2
    refine k _ (fun c o hc hcx => g5 c o _ (f4 c o hc hcx) hcx) fun H6 k6 => ⟨tw, th, n1, n8, dx, l1, l2, D1, D2, k6 _ _ upd_same (.inr rfl), k6 _ _ (g5 _ _ _ f1 (Ne.symm ne1)) (.inl r1), k6 _ _ (g5 _ _ _ f2 (Ne.symm ne2)) (.inl r2), k6 _ _ ?_ (.inl r3), k6 _ _ ?_ (.inl r4)⟩
    · rw [upd_ne (Ne.symm nxD1)]
      exact s5 _ _ (by rw [upd_ne (Ne.symm nxD1)]; exact hl4)
    · rw [upd_ne (Ne.symm nxD2)]; exact hl5
def spList (C : Addr) (g : List Nat → List Nat → List Nat) : Sp := fun vs H Q _ => ∃ p n w h, vs = [.ref p] ∧ TableAt C H p n w h ∧ ∀ l, H l = none → Q (.ref l) (upd H l (.lst (natL (g w h))))
theorem sc_wives : FnScope ["self"] ["self"] (defScope (inClass (top 9) 7)) := ⟨rfl, rfl, rfl, by decide +kernel, rfl, by decide +kernel, by decide +kernel⟩
theorem ok_wives {f : Addr} {fd : FuncData} (F : Fun K "wives" "Table.wives" (inClass (top 9) 7) f fd) (T : Txt K mg C e) : FnOk P w K mg base CX 1 f fd ["self"] (spList C fun w _ => w) := by
  refine F.okN sc_wives (fun vs H Q E h => ?_) (fun cdv A outer s H vs Q E hr h => ?_)
  · obtain ⟨p, n, w, h, rfl, _⟩ := h; rfl
  · obtain ⟨p, n, w', h', rfl, TA, k⟩ := h
    obtain ⟨dx, a, b, c, d, e1, e2, e3, e4, e5⟩ := TA.ob
    refine ⟨_, (pss_one (ps_ret (pe_callTy call_list_of rfl T.z_list bt_list (pa_cons (pe_fld (pv 0) rfl) pa_nil)))), ?_⟩
    exact ⟨_, rfl, p, C, dx, _, _, rfl, e1, T.cl_Table, T.n_wife_turn, flds_w .., a, _, rfl, .inl (SqL.of e2), k⟩
theorem sc_heirs : FnScope ["self"] ["self"] (defScope (inClass (top 9) 8)) := ⟨rfl, rfl, rfl, by decide +kernel, rfl, by decide +kernel, by decide +kernel⟩
theorem ok_heirs {f : Addr} {fd : FuncData} (F : Fun K "heirs" "Table.heirs" (inClass (top 9) 8) f fd) (T : Txt K mg C e) : FnOk P w K mg base CX 1 f fd ["self"] (spList C fun _ h => h) := by
  refine F.okN sc_heirs (fun vs H Q E h => ?_) (fun cdv A outer s H vs Q E hr h => ?_)
  · obtain ⟨p, n, w, h, rfl, _⟩ := h; rfl
  · obtain ⟨p, n, w', h', rfl, TA, k⟩ := h
    obtain ⟨dx, a, b, c, d, e1, e2, e3, e4, e5⟩ := TA.ob
    refine ⟨_, (pss_one (ps_ret (pe_callTy call_list_of rfl T.z_list bt_list (pa_cons (pe_fld (pv 0) rfl) pa_nil)))), ?_⟩
    exact ⟨_, rfl, p, C, dx, _, _, rfl, e1, T.cl_Table, T.n_heir_turn, flds_h .., b, _, rfl, .inl (SqL.of e3), k⟩
end


--CUT
/-! the law's own helpers -/
def spCellAt (K : PySem.W.Frag) : Sp := fun vs H Q _ => ∃ (a : Addr) (ns : List Int) (k : Nat), vs = [.ref a, nat k] ∧ SqL K H a (ns.map V.int) ∧ ∀ z, Q (.int z) H
def spWhole : Sp := fun vs H Q _ => ∃ i, vs = [.int i] ∧ Q (.bl true) H
def spTurnBy : Sp := fun vs H Q _ => ∃ z n, vs = [.int z, nat n] ∧ n ≤ 8 ∧ ∀ w D H', IsTurn n w → H D = none → Same H H' → H' D = some (.lst (natL w)) → Q (.ref D) H'
def spLaw (K : PySem.W.Frag) : Sp := fun vs H Q _ => ∃ (a : Addr) (ns : List Int), vs = [.ref a] ∧ ns.length ≤ 63 ∧ SqL K H a (ns.map V.int) ∧ ∀ H', Q (.bl true) H'
def spSameN : Sp := fun vs H Q _ => ∃ (a b : Addr) (ns ms : List Int), vs = [.ref a, .ref b] ∧ H a = some (.lst (ns.map V.int)) ∧ H b = some (.lst (ms.map V.int)) ∧ ms.length ≤ 1000 ∧ Q (.bl (decide (ns = ms))) H
section
variable {P : Program} {w : World} {K : PySem.W.Frag} {mg : Str → Option Value} {base : Heap} {CX : CXT} {C : Addr} {e : Ad}
theorem sc_cell : FnScope ["script", "k"] ["script", "k"] (defScope (top 18)) := ⟨rfl, rfl, rfl, by decide +kernel, rfl, by decide +kernel, by decide +kernel⟩
theorem ok_cell {f : Addr} {fd : FuncData} (F : Fun K "_law_cell_at" "_law_cell_at" (top 18) f fd) (T : Txt K mg C e) : FnOk P w K mg base CX 1 f fd ["script", "k"] (spCellAt K) := by
  refine F.okN sc_cell (fun vs H Q E h => ?_) (fun cdv A outer s H vs Q E hr h => ?_)
  · obtain ⟨a, ns, k, rfl, _⟩ := h; rfl
  · obtain ⟨a, ns, c, rfl, hS, k⟩ := h
    refine ⟨_, (pss_cons (ps_if (pt_cmpR op_lt (pv 1) (pe_callB call_len_seq rfl T.z_len PySem.boot_len (pa_cons (pv 0) pa_nil)) (nomark _)) (pss_one (ps_ret (pe_ix ix_list (pv 0) (pv 1) (fun _ _ => rfl)))) pss_nil)
      (pss_one (ps_ret pe_int))), ?_⟩
    refine ⟨_, rfl, _, rfl, a, _, rfl, .inl hS, _, _, rfl, rfl, _, rfl, iteD2 (fun e => ?_) (fun _ => k 0)⟩
    rw [List.length_map] at e
    have hlt : c < ns.length := by omega
    exact ⟨_, rfl, _, rfl, a, _, _, V.int ns[c], rfl, rfl, hS, atI_nat (by rw [List.getElem?_map, List.getElem?_eq_getElem hlt]; rfl), k _⟩
theorem sc_whole : FnScope ["found"] ["found"] (defScope (top 19)) := ⟨rfl, rfl, rfl, by decide +kernel, rfl, by decide +kernel, by decide +kernel⟩
theorem ok_whole {f : Addr} {fd : FuncData} (F : Fun K "_law_whole" "_law_whole" (top 19) f fd) (T : Txt K mg C e) : FnOk P w K mg base CX 1 f fd ["found"] spWhole := by
  refine F.okN sc_whole (fun vs H Q E h => ?_) (fun cdv A outer s H vs Q E hr h => ?_)
  · obtain ⟨i, rfl, _⟩ := h; rfl
  · obtain ⟨i, rfl, k⟩ := h
    refine ⟨_, (pss_one (ps_ret (pe_and (pe_callB call_isinst rfl T.z_isinstance bt_isinstance (pa_cons (pv 0) (pa_cons (pe_bltn (v := .ty "int") rfl T.z_int bt_int rfl) pa_nil))) (pe_one (pe_not (pe_callB call_isinst rfl T.z_isinstance bt_isinstance (pa_cons (pv 0) (pa_cons (pe_bltn (v := .ty "bool") rfl T.z_bool bt_bool rfl) pa_nil)))))))), ?_⟩
    refine ⟨_, rfl, V.int i, "int", _, true, rfl, TyOf.int i, kit_same, _, rfl, iteT ?_⟩
    exact ⟨_, rfl, V.int i, "bool", _, false, rfl, TyOf.int i, kit_ib, _, rfl, k⟩
theorem natL_erase : ∀ (l : List Nat) (k : Nat), (natL l).eraseIdx k = natL (l.eraseIdx k)
  | [], _ => rfl
  | _ :: _, 0 => rfl
  | a :: r, k + 1 => by
    show (nat a :: natL r).eraseIdx (k + 1) = _
    rw [List.eraseIdx_cons_succ, natL_erase r k]
    rfl
theorem natL_snoc (l : List Nat) (x : Nat) : natL l ++ [nat x] = natL (l ++ [x]) := by unfold natL; rw [List.map_append]; rfl
theorem sc_turnby : FnScope ["cell", "many", "rest", "out"] ["cell", "many"] (defScope (top 20)) := ⟨rfl, rfl, rfl, by decide +kernel, rfl, by decide +kernel, by decide +kernel⟩
theorem ok_turnby {f : Addr} {fd : FuncData} (F : Fun K "_law_turn_by" "_law_turn_by" (top 20) f fd) (T : Txt K mg C e) : FnOk P w K mg base CX 1 f fd ["cell", "many"] spTurnBy := by
  refine F.okN sc_turnby (fun vs H Q E h => ?_) (fun cdv A outer s H vs Q E hr h => ?_)
  · obtain ⟨z, n, rfl, _⟩ := h; rfl
  · obtain ⟨z, n, rfl, n8, k⟩ := h
    have nd := sc_turnby.nd
    refine ⟨_, (pss_cons (ps_setComp (i := 2) nd rfl (Or.inl rfl) (fv := []) ⟨rfl, by decide +kernel, rfl, by decide +kernel, rfl, by decide +kernel, trivial, rfl, rfl⟩ rfl (pi_range1 rfl T.z_range (pa_cons (pv 1) pa_nil)) (fun _ _ _ => (pv 0)))
      (pss_cons (ps_set (i := 3) nd rfl (Or.inl rfl) (pe_lst pa_nil))
      (pss_cons (ps_while PassesOwn.never (pt_cmpR op_gt (pe_callB call_len_seq rfl T.z_len PySem.boot_len (pa_cons (pv 2) pa_nil)) pe_int (nomark _)) (pss_cons (ps_set (i := 0) nd rfl (Or.inl rfl) (pe_op op_mod (pe_op op_add (pe_op op_mul (pv 0) pe_int) pe_int) pe_int))
      (pss_one (ps_expr (pe_bm PySem.F.plainAttrs_list PySem.F.slot_list_append PySem.F.type_list_append mt_append (pv 3) (pa_cons (pe_bm PySem.F.plainAttrs_list PySem.F.slot_list_pop PySem.F.type_list_pop mt_popAt (pv 2) (pa_cons (pe_op op_mod (pe_op op_fdiv (pv 0) pe_int) (pe_callB call_len_seq rfl T.z_len PySem.boot_len (pa_cons (pv 2) pa_nil))) pa_nil)) pa_nil))))))
      (pss_one (ps_ret (pv 3)))))), ?_⟩
    -- rest = [c for c in range(many)]
    refine ⟨_, rfl, _, rfl, by omega, by omega, ?_⟩
    rw [Int.toNat_natCast]
    refine comp_range0 (fun i => nat i) (Nat.le_trans n8 (by decide)) (fun i H' R hi sm kk _ _ _ => ⟨_, rfl, kk H' (Same.refl _)⟩) fun r H1 hr1 s1 hl1 => ?_
    -- out = []
    refine ⟨by decide, fun o ho => ?_⟩
    have nro : r ≠ o := ne_of_none hl1 ho
    have hoH : H o = none := s1.free ho
    -- while len(rest) > 0
    refine ⟨fun m σ H2 => ∃ (z' : Int) (rest out : List Nat), m = rest.length ∧ σ = [some (.int z'), some (nat n), some (.ref r), some (.ref o)] ∧ Same H H2 ∧ H2 r = some (.lst (natL rest)) ∧ H2 o = some (.lst (natL out)) ∧ (rest ++ out).Perm (List.range n),
      ⟨_, z, List.range n, [], rfl, rfl, same_upd s1 hoH, by rw [upd_ne nro]; exact hl1, upd_same, by rw [List.append_nil]⟩, ?_⟩
    rintro m σ H2 ⟨z', rest, out, rfl, rfl, s2, hr2, ho2, pm⟩
    have hlen := pm.length_eq
    rw [List.length_append, List.length_range] at hlen
    refine ⟨_, rfl, r, _, rfl, .inl (SqL.of hr2), _, _, rfl, rfl, _, rfl, ?_⟩
    rw [natL_len]
    refine iteD2 (fun hpos => ?_) (fun hz => ?_)
    · refine ⟨fun σ' H' => ∃ (z' : Int) (rest' out : List Nat), rest'.length + 1 = rest.length ∧ σ' = [some (.int z'), some (nat n), some (.ref r), some (.ref o)] ∧ Same H H' ∧ H' r = some (.lst (natL rest')) ∧ H' o = some (.lst (natL out)) ∧ (rest' ++ out).Perm (List.range n),
        fun σ' H' ⟨z', rest', out, h1, h2⟩ => ⟨rest'.length, by omega, z', rest', out, rfl, h2⟩, ?_⟩
      refine ⟨_, rfl, _, _, rfl, rfl, .inr ⟨by decide, by decide⟩, _, _, rfl, rfl, _, _, rfl, rfl, (show (0 : Int) < 2147483647 by decide), ?_⟩
      refine ⟨_, rfl, .inl ⟨rfl, _, SqL.of ho2⟩, _, rfl, .inl ⟨rfl, _, SqL.of hr2⟩, _, rfl, _, _, rfl, rfl, ⟨by decide, by decide⟩, _, rfl, r, _, rfl, .inl (SqL.of hr2), _, _, rfl, rfl, by rw [natL_len]; exact hpos, ?_⟩
      rw [natL_len]
      dsimp only
      generalize hq : ((z' * 48271 + 29) % 2147483647 / 3 % (rest.length : Int)) = q
      have q0 : 0 ≤ q := by rw [← hq]; exact Int.emod_nonneg _ (by omega)
      have q1 : q < rest.length := by rw [← hq]; exact Int.emod_lt_of_pos _ hpos
      have qn : q.toNat < rest.length := by omega
      have hx : rest[q.toNat]? = some rest[q.toNat] := List.getElem?_eq_getElem qn
      refine ⟨r, _, q, q.toNat, nat rest[q.toNat], rfl, rfl, hr2, by omega, by omega, by rw [natL_len]; exact seqIndex_of q0 q1, natL_get hx, ?_⟩
      refine ⟨o, _, _, rfl, rfl, by rw [upd_ne (Ne.symm nro)]; exact ho2, by rw [natL_len]; have : 8 < sizeLine := by decide
                                                                             omega, ?_⟩
      refine ⟨_, rest.eraseIdx q.toNat, out ++ [rest[q.toNat]], ?_, rfl, ?_, ?_, ?_, perm_pick pm hx⟩
      · rw [List.length_eraseIdx, if_pos qn]; omega
      · exact same_upd (same_upd s2 hr1) hoH
      · rw [upd_ne nro, upd_same, natL_erase]
      · rw [upd_same, natL_snoc]
    · have hz' : rest = [] := List.length_eq_zero_iff.mp (by omega)
      subst hz'
      exact ⟨_, rfl, k out o H2 pm hoH s2 ho2⟩
theorem sc_samen : FnScope ["found", "due", "k"] ["found", "due"] (defScope (top 21)) := ⟨rfl, rfl, rfl, by decide +kernel, rfl, by decide +kernel, by decide +kernel⟩
theorem ok_samen {f : Addr} {fd : FuncData} (F : Fun K "_law_same_numbers" "_law_same_numbers" (top 21) f fd) (T : Txt K mg C e) (hE : NoE CX) (D__law_whole : Def P w K mg base CX "_law_whole" 1 ["found"] spWhole) : FnOk P w K mg base CX 2 f fd ["found", "due"] spSameN := by
  refine F.okN sc_samen (fun vs H Q E h => ?_) (fun cdv A outer s H vs Q E hr h => ?_)
  · obtain ⟨a, b, ns, ms, rfl, _⟩ := h; rfl
  · obtain ⟨a, b, ns, ms, rfl, ha, hb, hl, k⟩ := h
    have nd := sc_samen.nd
    refine ⟨_, (pss_cons (ps_if (PW.pt (pw_or (pt_not (pt_val (pe_callB call_isinst rfl T.z_isinstance bt_isinstance (pa_cons (pv 0) (pa_cons (pe_bltn (v := .ty "list") rfl T.z_list bt_list rfl) pa_nil))))) (pw_or1 (pt_cmpR op_ne (pe_callB call_len_seq rfl T.z_len PySem.boot_len (pa_cons (pv 0) pa_nil)) (pe_callB call_len_seq rfl T.z_len PySem.boot_len (pa_cons (pv 1) pa_nil)) (nomark _))))) (pss_one (ps_ret pe_bl)) pss_nil)
      (pss_cons (ps_for PassesOwn.never rfl (pi_range1 rfl T.z_range (pa_cons (pe_callB call_len_seq rfl T.z_len PySem.boot_len (pa_cons (pv 1) pa_nil)) pa_nil)) (pg_name (i := 2) nd rfl (Or.inl rfl)) (pss_one (ps_if (PW.pt (pw_or (pt_not (pt_val (pe_callD D__law_whole hE hr rfl (pa_cons (pe_ix ix_list (pv 0) (pv 2) (fun _ _ => rfl)) pa_nil)))) (pw_or1 (pt_cmpR op_ne (pe_ix ix_list (pv 0) (pv 2) (fun _ _ => rfl)) (pe_ix ix_list (pv 1) (pv 2) (fun _ _ => rfl)) (nomark _))))) (pss_one (ps_ret pe_bl)) pss_nil)))
      (pss_one (ps_ret pe_bl)))), ?_⟩
    refine ⟨_, rfl, .ref a, "list", _, true, rfl, TyOf.lst ha, kit_same, _, rfl, iteF ?_⟩
    refine ⟨_, rfl, a, _, rfl, .inl (SqL.of ha), _, rfl, b, _, rfl, .inl (SqL.of hb), rfl, _, rfl, ?_⟩
    rw [List.length_map, List.length_map]
    have el : (!decide (V.int (ns.length : Int) = V.int (ms.length : Int))) = !decide (ns.length = ms.length) := by
      rw [dec_int]
      by_cases q : ns.length = ms.length
      · rw [q]; simp
      · rw [decide_eq_false q, beq_eq_false_iff_ne.mpr (by omega)]
    rw [el]
    by_cases q : ns.length = ms.length
    · rw [decide_eq_true q]
      refine iteF ⟨_, rfl, b, _, rfl, .inl (SqL.of hb), _, rfl, by rw [List.length_map]; omega, by rw [List.length_map]; omega, ?_⟩
      rw [List.length_map, Int.toNat_natCast]
      refine for_range0 (fun i σ H2 => (∃ o, σ = [some (.ref a), some (.ref b), o]) ∧ H2 = H ∧ ns.take i = ms.take i) ⟨⟨none, rfl⟩, rfl, rfl⟩ ?_ ?_
      · rintro i σ H2 hi ⟨⟨o, rfl⟩, rfl, ht⟩
        have hi' : i < ns.length := by omega
        have ga : atI (ns.map V.int) (i : Int) = some (V.int ns[i]) := atI_nat (by rw [List.getElem?_map, List.getElem?_eq_getElem hi']; rfl)
        have gb : atI (ms.map V.int) (i : Int) = some (V.int ms[i]) := atI_nat (by rw [List.getElem?_map, List.getElem?_eq_getElem hi]; rfl)
        refine ⟨_, rfl, _, rfl, a, _, _, _, rfl, rfl, SqL.of ha, ga, _, rfl, _, rfl, iteF ?_⟩
        refine ⟨_, rfl, _, rfl, a, _, _, _, rfl, rfl, SqL.of ha, ga, _, rfl, _, rfl, b, _, _, _, rfl, rfl, SqL.of hb, gb, rfl, _, rfl, ?_⟩
        rw [dec_int]
        by_cases z : ns[i] = ms[i]
        · rw [z, beq_self_eq_true]
          refine iteF ⟨⟨_, rfl⟩, rfl, ?_⟩
          rw [List.take_add_one, List.take_add_one, ht, List.getElem?_eq_getElem hi', List.getElem?_eq_getElem hi, z]
        · rw [beq_eq_false_iff_ne.mpr z]
          refine iteT ?_
          have ne : ns ≠ ms := fun zz => z (by subst zz; rfl)
          rw [decide_eq_false ne] at k
          exact k
      · rintro σ H2 ⟨⟨o, rfl⟩, rfl, ht⟩
        rw [List.take_length, ← q, List.take_length] at ht
        rw [decide_eq_true ht] at k
        exact k
    · rw [decide_eq_false q]
      refine iteT ?_
      have ne : ns ≠ ms := fun zz => q (by rw [zz])
      rw [decide_eq_false ne] at k
      exact k
end


--CUT
/-! texts joined, cut, and numbers as texts -/
def glueL (sep : List Nat) : List (List Nat) → List Nat
  | [] => []
  | [l] => l
  | l :: r => l ++ sep ++ glueL sep r
def posFrom (c : Nat) : Nat → List Nat → List Nat
  | _, [] => []
  | k, x :: r => if x = c then k :: posFrom c (k + 1) r else posFrom c (k + 1) r
def splitL (c : Nat) : List Nat → List (List Nat)
  | [] => [[]]
  | x :: r => if x = c then [] :: splitL c r else match splitL c r with
    | [] => [[x]]
    | h :: t => (x :: h) :: t
theorem splitL_ne (c : Nat) : ∀ l, ∃ h t, splitL c l = h :: t
  | [] => ⟨[], [], rfl⟩
  | x :: r => by
    unfold splitL
    by_cases e : x = c
    · rw [if_pos e]; exact ⟨_, _, rfl⟩
    · rw [if_neg e]
      obtain ⟨h, t, eq⟩ := splitL_ne c r
      rw [eq]; exact ⟨_, _, rfl⟩
theorem txt_list (l : List Nat) : (txt l).cps.toList = l := by show l.toArray.toList = l; simp
theorem str_ext {x y : Str} (h : x.cps.toList = y.cps.toList) : x = y := by
  cases x; cases y
  congr 1
  exact Array.ext' h
theorem glued_txt (sep : List Nat) (ls : List (List Nat)) : Builtin.Str.glued (txt sep) (ls.map txt) = txt (glueL sep ls) := by
  refine str_ext ?_
  rw [txt_list]
  unfold Builtin.Str.glued
  have key : ∀ (r : List (List Nat)) (acc : Array Nat), ((r.map txt).foldl (fun acc p => acc ++ (txt sep).cps ++ p.cps) acc).toList = acc.toList ++ (r.map fun l => sep ++ l).flatten := fun r => by
    induction r with
    | nil => intro acc; simp
    | cons l r ih =>
      intro acc
      rw [List.map_cons, List.foldl_cons, ih, List.map_cons, List.flatten_cons]
      simp [txt_list, List.append_assoc]
  have g2 : ∀ (l : List Nat) (r : List (List Nat)), glueL sep (l :: r) = l ++ (r.map fun l => sep ++ l).flatten := fun l r => by
    induction r generalizing l with
    | nil => unfold glueL; simp
    | cons l2 r ih =>
      show l ++ sep ++ glueL sep (l2 :: r) = _
      rw [ih, List.map_cons, List.flatten_cons]
      simp [List.append_assoc]
  cases ls with
  | nil => rfl
  | cons l r =>
    rw [List.map_cons, List.drop_succ_cons, List.drop_zero, List.headD_cons, key, g2, txt_list]
open Builtin.Str PySem.StrLaws in
theorem occ_one (l : List Nat) (c : Nat) : occurrences (txt l) ⟨#[c]⟩ 0 (txt l).length ((txt l).length + 1) = posFrom c 0 l := by
  rw [occ_eq, txt_len]
  have key : ∀ (r : List Nat) (k : Nat) (acc : Array Nat) (free : Nat), l.drop k = r → k ≤ l.length → free ≤ k → acc.size ≤ k → (forIn (List.range' k (r.length + 1)) (acc, free) (occBody (txt l) ⟨#[c]⟩ l.length (l.length + 1))).run.fst.toList = acc.toList ++ posFrom c k r := fun r => by
    induction r with
    | nil =>
      intro k acc free hd hk hf ha
      have hk' : l.length ≤ k := List.drop_eq_nil_iff.mp hd
      rw [show List.range' k (([] : List Nat).length + 1) = [k] from rfl, List.forIn_cons]
      unfold occBody
      rw [if_neg (fun z => by have := z.1.2; have e1 : (⟨#[c]⟩ : Str).length = 1 := rfl; omega)]
      simp [posFrom]
    | cons x r ih =>
      intro k acc free hd hk hf ha
      have hlt : k < l.length := by
        rcases Nat.lt_or_ge k l.length with z | z
        · exact z
        · rw [List.drop_eq_nil_iff.mpr z] at hd; cases hd
      have hx : l[k]? = some x := by
        have := List.getElem?_drop (xs := l) (i := k) (j := 0)
        rw [hd, Nat.add_zero] at this
        exact this.symm
      have hd2 : l.drop (k + 1) = r := by
        have := congrArg (List.drop 1) hd
        rw [List.drop_drop] at this
        exact this
      rw [show List.range' k ((x :: r).length + 1) = k :: List.range' (k + 1) (r.length + 1) from rfl, List.forIn_cons]
      unfold posFrom occBody
      by_cases e : x = c
      · have h1 := (subAt_one (txt l) c k).mpr (by rw [txt_list, hx, e])
        rw [txt_len] at h1
        rw [if_pos ⟨⟨⟨by show acc.size < _; omega, hf⟩, h1.1⟩, h1.2⟩, if_pos e]
        have := ih (k + 1) (acc.push k) (k + 1) hd2 hlt (Nat.le_refl _) (by rw [Array.size_push]; omega)
        rw [Array.toList_push] at this
        refine Eq.trans this ?_
        simp [List.append_assoc]
      · rw [if_neg (fun z => e ?_), if_neg e]
        · exact ih (k + 1) acc free hd2 hlt (by omega) (by omega)
        · have h2 := (subAt_one (txt l) c k).mp ⟨by rw [txt_len]; exact z.1.2, z.2⟩
          rw [txt_list, hx] at h2
          exact Option.some.inj h2
  have := key l 0 #[] 0 rfl (Nat.zero_le _) (Nat.le_refl _) (Nat.le_refl _)
  rw [show l.length + 1 - 0 = l.length + 1 from rfl]
  refine Eq.trans this ?_
  simp
theorem sub_txt (l : List Nat) (i j : Nat) : Builtin.Str.strSub (txt l) i j = txt ((l.drop i).take (j - i)) := by
  refine str_ext ?_
  rw [txt_list]
  show ((txt l).cps.extract i j).toList = _
  rw [Array.toList_extract, txt_list]
  try simp [List.extract_eq_drop_take]
open Builtin.Str in
theorem parts_txt (l : List Nat) (c : Nat) : partsBetween (txt l) (posFrom c 0 l) 1 = (splitL c l).map txt := by
  have key : ∀ (r : List Nat) (k a : Nat), l.drop k = r → k ≤ l.length → a ≤ k → ∀ h t, splitL c r = h :: t → ((a :: (posFrom c k r).map (· + 1)).zip (posFrom c k r ++ [l.length])).map (fun (i, j) => strSub (txt l) i j) = txt ((l.drop a).take (k - a) ++ h) :: t.map txt := fun r => by
    induction r with
    | nil =>
      intro k a hd hk ha h t e
      have hk' : l.length ≤ k := List.drop_eq_nil_iff.mp hd
      have e : [[]] = h :: t := e
      cases e
      show [strSub (txt l) a l.length] = [txt _]
      rw [sub_txt, List.append_nil, show l.length = k by omega]
    | cons x r ih =>
      intro k a hd hk ha h t e
      have hlt : k < l.length := by
        rcases Nat.lt_or_ge k l.length with z | z
        · exact z
        · rw [List.drop_eq_nil_iff.mpr z] at hd; cases hd
      have hd2 : l.drop (k + 1) = r := by
        have := congrArg (List.drop 1) hd
        rw [List.drop_drop] at this
        exact this
      obtain ⟨h', t', e'⟩ := splitL_ne c r
      unfold posFrom
      unfold splitL at e
      by_cases q : x = c
      · rw [if_pos q] at e ⊢
        rw [e'] at e
        cases e
        rw [List.map_cons, List.cons_append, List.zip_cons_cons, List.map_cons, ih (k + 1) (k + 1) hd2 hlt (Nat.le_refl _) h' t' e', Nat.sub_self, List.take_zero, List.nil_append, List.append_nil]
        show strSub (txt l) a k :: _ = _
        rw [sub_txt]
        rfl
      · rw [if_neg q] at e ⊢
        rw [e'] at e
        cases e
        rw [ih (k + 1) a hd2 hlt (by omega) h' t e']
        congr 2
        have hx : (l.drop a)[k - a]? = some x := by
          rw [List.getElem?_drop, show a + (k - a) = k by omega]
          have := List.getElem?_drop (xs := l) (i := k) (j := 0)
          rw [hd, Nat.add_zero] at this
          exact this.symm
        rw [show k + 1 - a = (k - a) + 1 by omega, List.take_add_one, hx, List.append_assoc]
        rfl
  obtain ⟨h, t, e⟩ := splitL_ne c l
  have := key l 0 0 rfl (Nat.zero_le _) (Nat.le_refl _) h t e
  unfold partsBetween
  rw [txt_len, e]
  refine Eq.trans this ?_
  simp
def rJoin : V → List V → Hp → VK → Prop := fun x vs H Q => ∃ (sep : List Nat) (a : Addr) (ls : List (List Nat)), x = .str (txt sep) ∧ vs = [.ref a] ∧ H a = some (.lst (ls.map fun l => V.str (txt l))) ∧ (ls.map fun l => l.length + sep.length).sum ≤ 3000 ∧ Q (.str (txt (glueL sep ls))) H
theorem strVals : ∀ {ss : List Str} {its : List Value}, Vals (ss.map V.str) its → ∃ l : List (Str × Tok), its = strValues l ∧ l.map (·.1) = ss
  | [], _, .nil => ⟨[], rfl, rfl⟩
  | s :: ss, _, .cons h r => by
    obtain ⟨t, rfl⟩ := h
    obtain ⟨l, rfl, e⟩ := strVals r
    exact ⟨(s, t) :: l, rfl, by rw [List.map_cons, e]⟩
theorem glue_len (sep : List Nat) : ∀ ls : List (List Nat), (glueL sep ls).length ≤ (ls.map fun l => l.length + sep.length).sum
  | [] => Nat.le_refl _
  | [l] => by simp [glueL]
  | l :: l2 :: r => by
    have ih := glue_len sep (l2 :: r)
    show (l ++ sep ++ glueL sep (l2 :: r)).length ≤ ((l :: l2 :: r).map fun l => l.length + sep.length).sum
    rw [List.map_cons, List.sum_cons, List.length_append, List.length_append]
    omega
theorem fold_len (sep : List Nat) (ls : List (List Nat)) : (ls.map txt).toArray.foldl (· + ·.length + (txt sep).length) 0 = (ls.map fun l => l.length + sep.length).sum := by
  have key : ∀ (r : List (List Nat)) (a : Nat), (r.map txt).foldl (· + ·.length + (txt sep).length) a = a + (r.map fun l => l.length + sep.length).sum := fun r => by
    induction r with
    | nil => intro a; simp
    | cons l r ih =>
      intro a
      rw [List.map_cons, List.foldl_cons, ih, List.map_cons, List.sum_cons, txt_len, txt_len]
      omega
  have := key ls 0
  rw [Nat.zero_add] at this
  rw [← this]
  simp
open PySem.Spec PyProof.Rows in
theorem mt_join {X : Cx} : MtR X "str.join" rJoin := by
  intro pins s σ H x vs v us Q I rx rv h
  obtain ⟨sep, a, ls, rfl, rfl, ha, hz, q⟩ := h
  obtain ⟨t, rfl⟩ := rx
  obtain ⟨u, rfl, ru⟩ := rv.one
  cases ru
  have big : 3000 ≤ sizeLine := by decide
  have ea : (ls.map fun l => V.str (txt l)) = (ls.map txt).map V.str := by rw [List.map_map]; rfl
  rw [ea] at ha
  obtain ⟨its, r, pl, hsz⟩ := I.list (SqL.of ha)
  obtain ⟨l, rfl, e⟩ := strVals r
  have gl := glue_len sep ls
  have hl : Builtin.Str.tooLong ((l.map (·.1)).toArray.foldl (· + ·.length + (txt sep).length) 0) = false := by
    rw [e, fold_len]
    exact decide_eq_false (by omega)
  refine call_meets PySem.F.slot_str_join (typeIs_str _ _ _) PySem.F.entry_str_join (PySem.F.args_str_join_2 _ _) (meets_str_join_list (txt sep) t a l hl) ⟨pl.isList, ?_⟩
  have fin : ∀ z : Str, z = Builtin.Str.glued (txt sep) (ls.map txt) → z.length ≤ sizeLine ∧ ∀ (t' : Tok) s', Inv X pins σ H s' → EP X pins σ Q (.str z t') s' := fun z e => by
    rw [glued_txt] at e
    subst e
    exact ⟨by rw [txt_len]; omega, fun t' s' I' => ⟨.str _, H, I', ⟨t', rfl⟩, q⟩⟩
  match l, e with
  | [], e => exact ⟨(fin _ (by rw [← e])).1, (fin _ (by rw [← e])).2 _ _ (I.tok _)⟩
  | [p], e => exact (fin _ (by rw [← e]; rfl)).2 _ _ I
  | p :: p2 :: l, e => exact ⟨(fin _ (by rw [← e])).1, (fin _ (by rw [← e])).2 _ _ (I.tok _)⟩
def rSplit : V → List V → Hp → VK → Prop := fun x vs H Q => ∃ (l : List Nat) (c : Nat), x = .str (txt l) ∧ vs = [.str ⟨#[c]⟩] ∧ c < 256 ∧ l.length ≤ 3000 ∧ ∀ D, H D = none → Q (.ref D) (upd H D (.lst ((splitL c l).map fun p => V.str (txt p))))
theorem pos_nil {c : Nat} : ∀ {k : Nat} {l : List Nat}, posFrom c k l = [] → splitL c l = [l]
  | _, [], _ => rfl
  | k, x :: r, h => by
    unfold posFrom at h
    unfold splitL
    by_cases e : x = c
    · rw [if_pos e] at h; cases h
    · rw [if_neg e] at h ⊢
      rw [pos_nil h]
theorem strs_vals : ∀ (ps : List (List Nat)) (tk : Nat), Vals (ps.map fun p => V.str (txt p)) (strsFrom tk (ps.map txt))
  | [], _ => .nil
  | p :: ps, tk => .cons ⟨tk, rfl⟩ (strs_vals ps (tk + 1))
theorem split_len {c : Nat} : ∀ (l : List Nat), (splitL c l).length ≤ l.length + 1
  | [] => Nat.le_refl _
  | x :: r => by
    have ih := split_len (c := c) r
    obtain ⟨h, t, e⟩ := splitL_ne c r
    unfold splitL
    split
    · exact Nat.succ_le_succ ih
    · rw [e] at ih ⊢
      exact Nat.le_succ_of_le ih
open PySem.Spec PyProof.Rows in
theorem mt_split {X : Cx} : MtR X "str.split" rSplit := by
  intro pins s σ H x vs v us Q I rx rv h
  obtain ⟨l, c, rfl, rfl, c256, hl, q⟩ := h
  obtain ⟨t, rfl⟩ := rx
  obtain ⟨u, rfl, t', rfl⟩ := rv.one
  have big : 4000 ≤ sizeLine := by decide
  have k1 : Builtin.Str.strKind ⟨#[c]⟩ = 1 := by
    unfold Builtin.Str.strKind
    rw [if_pos (by simp [c256])]
  have k2 : ¬ Builtin.Str.strKind (txt l) < Builtin.Str.strKind ⟨#[c]⟩ := by
    rw [k1]
    unfold Builtin.Str.strKind
    split
    · decide
    · split <;> decide
  have sl := split_len (c := c) l
  have c1 : (⟨#[c]⟩ : Str).length = 1 := rfl
  by_cases hn : l = []
  · subst hn
    have h1 : (decide ((txt []).length < (⟨#[c]⟩ : Str).length) || decide (Builtin.Str.strKind (txt []) < Builtin.Str.strKind ⟨#[c]⟩)) = true := by
      rw [decide_eq_true (show (txt []).length < (⟨#[c]⟩ : Str).length by rw [txt_len]; exact Nat.zero_lt_one)]; rfl
    refine call_meets PySem.F.slot_str_split (typeIs_str _ _ _) PySem.F.entry_str_split (PySem.F.args_str_split_2 _ _) (meets_str_split_cannot_occur (txt []) ⟨#[c]⟩ t t' h1) ?_
    exact ⟨.ref _, _, I.lnew (t' := s.toks) (ys := [V.str (txt [])]) (its := [Value.str (txt []) t]) (.cons ⟨t, rfl⟩ .nil) (show 1 ≤ sizeLine by omega), rfl, q _ I.fresh⟩
  · have hpos : 0 < l.length := List.length_pos_iff.mpr hn
    have h1 : (decide ((txt l).length < (⟨#[c]⟩ : Str).length) || decide (Builtin.Str.strKind (txt l) < Builtin.Str.strKind ⟨#[c]⟩)) = false := by
      rw [decide_eq_false k2, decide_eq_false (by rw [txt_len, c1]; omega)]; rfl
    have hy : ((⟨#[c]⟩ : Str).length == 0) = false := rfl
    have eo := occ_one l c
    by_cases hf : posFrom c 0 l = []
    · refine call_meets PySem.F.slot_str_split (typeIs_str _ _ _) PySem.F.entry_str_split (PySem.F.args_str_split_2 _ _) (meets_str_split_not_found (txt l) ⟨#[c]⟩ t t' h1 hy (by rw [eo, hf]; rfl)) ?_
      have q' := q _ I.fresh
      rw [pos_nil hf] at q'
      exact ⟨.ref _, _, I.lnew (t' := s.toks) (ys := [V.str (txt l)]) (its := [Value.str (txt l) t]) (.cons ⟨t, rfl⟩ .nil) (show 1 ≤ sizeLine by omega), rfl, q'⟩
    · have ne : (Builtin.Str.occurrences (txt l) ⟨#[c]⟩ 0 (txt l).length ((txt l).length + 1)).isEmpty = false := by
        rw [eo]
        cases hp : posFrom c 0 l with
        | nil => exact absurd hp hf
        | cons _ _ => rfl
      have ep : Builtin.Str.partsBetween (txt l) (Builtin.Str.occurrences (txt l) ⟨#[c]⟩ 0 (txt l).length ((txt l).length + 1)) (⟨#[c]⟩ : Str).length = (splitL c l).map txt := by rw [eo, c1, parts_txt]
      refine call_meets PySem.F.slot_str_split (typeIs_str _ _ _) PySem.F.entry_str_split (PySem.F.args_str_split_2 _ _) (meets_str_split_sep (txt l) ⟨#[c]⟩ t t' h1 hy ne (by rw [txt_len]; omega) (by rw [ep, List.length_map]; omega)) ?_
      rw [ep]
      exact ⟨.ref _, _, I.lnew (t' := s.toks + ((splitL c l).map txt).length) (strs_vals (splitL c l) s.toks) (by rw [List.length_map]; omega), rfl, q _ I.fresh⟩
theorem fig_txt : ∀ d : Nat, d < 10 → (Str.ofString (toString ((d : Nat) : Int))) = txt [48 + d]
  | 0, _ | 1, _ | 2, _ | 3, _ | 4, _ | 5, _ | 6, _ | 7, _ | 8, _ | 9, _ => by decide +kernel
  | n + 10, h => by omega
theorem fig_int : ∀ d : Nat, d < 10 → PySem.intText? (txt [48 + d]) = some ((d : Nat) : Int)
  | 0, _ | 1, _ | 2, _ | 3, _ | 4, _ | 5, _ | 6, _ | 7, _ | 8, _ | 9, _ => by decide +kernel
  | n + 10, h => by omega
open PySem.Spec PyProof.Rows in
theorem call_strI {X : Cx} : CallR X (.type "str") (fun xs H Q => ∃ d : Nat, xs = [nat d] ∧ d < 10 ∧ Q (.str (txt [48 + d])) H) := by
  intro pins s σ H xs us Q I r h
  obtain ⟨d, rfl, hd, q⟩ := h
  obtain ⟨u, rfl, t, rfl⟩ := vals1 r
  have p9 : (100 : Nat) < 10 ^ 9 := by decide
  refine PySem.P.str_of_int (log_small (by show ((d : Nat) : Int).natAbs < 10 ^ 9; omega)) ?_
  rw [fig_txt d hd]
  exact ⟨.str (txt [48 + d]), H, I.tok _, ⟨_, rfl⟩, q⟩
open PySem.Spec PyProof.Rows in
theorem call_intS {X : Cx} : CallR X (.type "int") (fun xs H Q => ∃ d : Nat, xs = [.str (txt [48 + d])] ∧ d < 10 ∧ Q (nat d) H) := by
  intro pins s σ H xs us Q I r h
  obtain ⟨d, rfl, hd, q⟩ := h
  obtain ⟨u, rfl, t, rfl⟩ := vals1 r
  exact PySem.W.KIN.call_text (fig_int d hd) (by rw [txt_len]; show 1 ≤ 640; decide) ⟨nat d, H, I.tok _, ⟨_, rfl⟩, q⟩


--CUT
/-! raise C(..) from e, within the clause that caught e -/
namespace RF
open PySem.Spec PyProof.Rows
theorem entry_uc : entryFor table "proto.unchain" = some Builtin.«proto.unchain» := entryFor_of_fast (by kernel_rfl)
section
variable {prog : Program} {w : World} {A : Around} {E : Value → Shared → Prop} {env : Env}
variable {nm q nm' q' : Str} {C N D N' : Addr} {bs bm bs' bm' : List Value} {hdct hdct' : Bool} {sn sn' : List Str} {sub sub' : List Value} {ab ab' : Bool} {col col' : Option Bool} {dd dd' : Option Addr} {k0 k1 k2 k3 k5 j0 j1 j2 j3 j5 : Option Value} {newId newId' : String}
/-- the chain behind the caught one ends at once -/
theorem unchain {s : Shared} {e a : Addr} {o : Obj} {vs : Array Value} {Q : Value → Shared → Prop} (ha : s.heap.get? a = some o) (hd : o.data = .fields vs) (h2 : vs[2]? = some Value.none) (h : Q .none s) :
    wpAny (model prog w) A (runValue (.builtin "proto.unchain" ⟨[.ref e, .ref a, .ref a, .bool false], []⟩)) Q E s := by
  refine wpAny_runValue (codeAny_builtin entry_uc ?_)
  unfold Builtin.«proto.unchain»
  refine wpAny_bind (wpAny_field ha hd h2 ?_)
  rw [if_pos (by decide)]
  exact wpAny_pure h
theorem raise_new {α : Type} {s : Shared} {e a : Addr} {o oe : Obj} {vs ws : Array Value} {Q : α → Shared → Prop} (hh : A.handled = some (.ref a)) (ne : a ≠ e) (ha : s.heap.get? a = some o) (hd : o.data = .fields vs) (h2 : vs[2]? = some Value.none)
    (he : s.heap.get? e = some oe) (hde : oe.data = .fields ws) (h3 : 2 < ws.size) (h : E (.ref e) { s with heap := s.heap.update e (Obj.mapFields (·.setIfInBounds 2 (.ref a))) }) : wpAny (model prog w) A (raiseNew (.ref e) : Sem α) Q E s := by
  unfold raiseNew
  refine wpAny_bind (wpAny_handled ?_)
  rw [hh]
  have nq : (Value.ref a != Value.ref e) = true := by simpa using ne
  dsimp only
  rw [if_pos nq]
  refine wpAny_bind (wpAny_holding (unchain ha hd h2 ?_))
  refine wpAny_bind ?_
  unfold updateField
  refine wpAny_bind (wpAny_load he ?_)
  rw [hde]
  dsimp only
  rw [if_pos h3]
  exact wpAny_update he (wpAny_throw h)
/-- what is left at e when the three cells are written -/
theorem three {h : Heap} {e : Addr} {a t : Addr} {o : Obj} (he : h.get? e = some o) (hd : o.data = .fields #[.ref t, .none, .none, .none, .bool false, .none]) :
    (∀ b, b ≠ e → (((h.update e (Obj.mapFields (·.setIfInBounds 3 (.ref a)))).update e (Obj.mapFields (·.setIfInBounds 4 (.bool true)))).update e (Obj.mapFields (·.setIfInBounds 2 (.ref a)))).get? b = h.get? b) ∧
    ∃ o' vs, (((h.update e (Obj.mapFields (·.setIfInBounds 3 (.ref a)))).update e (Obj.mapFields (·.setIfInBounds 4 (.bool true)))).update e (Obj.mapFields (·.setIfInBounds 2 (.ref a)))).get? e = some o' ∧ o'.cls = o.cls ∧ o'.data = .fields vs ∧ vs[0]? = some (.ref t) ∧ vs[1]? = some Value.none := by
  refine ⟨fun b hb => ?_, ?_⟩
  · rw [Heap.get?_update_other _ _ (Ne.symm hb), Heap.get?_update_other _ _ (Ne.symm hb), Heap.get?_update_other _ _ (Ne.symm hb)]
  · have d1 := Obj.data_mapFields hd (·.setIfInBounds 3 (.ref a))
    have e1 := Heap.get?_update_self (Obj.mapFields (·.setIfInBounds 3 (.ref a))) he (Obj.isFreed_of_fields d1)
    have d2 := Obj.data_mapFields d1 (·.setIfInBounds 4 (.bool true))
    have e2 := Heap.get?_update_self (Obj.mapFields (·.setIfInBounds 4 (.bool true))) e1 (Obj.isFreed_of_fields d2)
    have d3 := Obj.data_mapFields d2 (·.setIfInBounds 2 (.ref a))
    have e3 := Heap.get?_update_self (Obj.mapFields (·.setIfInBounds 2 (.ref a))) e2 (Obj.isFreed_of_fields d3)
    exact ⟨_, _, e3, by rw [Obj.cls_mapFields, Obj.cls_mapFields, Obj.cls_mapFields], d3, rfl, rfl⟩
theorem stmt_from {s : Shared} {x c : Sem Value} {a : Addr} {Q : Flow → Shared → Prop} (hbC : bm.contains (.type "BaseException") = true) (hbD : bm'.contains (.type "BaseException") = true) (hh : A.handled = some (.ref a))
    (h : wpAny (model prog w) A x (fun v s1 => ∃ e t, v = .ref e ∧ s1.heap.get? C = some (excClassObj nm q C N bs bm hdct sn sub ab col dd k0 k1 k2 k3 k5 newId) ∧ s1.heap.get? D = some (excClassObj nm' q' D N' bs' bm' hdct' sn' sub' ab' col' dd' j0 j1 j2 j3 j5 newId') ∧ a ≠ e ∧
      s1.heap.get? e = some { cls := .ref C, data := .fields #[.ref t, .none, .none, .none, .bool false, .none] } ∧ (∃ dct vs sl, s1.heap.get? a = some ⟨.ref D, dct, .fields vs, sl⟩ ∧ vs[2]? = some Value.none) ∧
      wpAny (model prog w) A c (fun v s2 => v = .ref a ∧ s2 = s1 ∧ ∀ h' o vs, (∀ b, b ≠ e → h'.get? b = s1.heap.get? b) → h'.get? e = some o → o.cls = .ref C → o.data = .fields vs → vs[0]? = some (.ref t) → vs[1]? = some Value.none → E (.ref e) { s1 with heap := h' }) E s1) E s) :
    wpAny (model prog w) A (raiseStmt env (some x) (some c)) Q E s := by
  have hcC : (Value.ref C :: bm).contains (.type "BaseException") = true := by rw [List.contains_cons, hbC, Bool.or_true]
  have hcD : (Value.ref D :: bm').contains (.type "BaseException") = true := by rw [List.contains_cons, hbD, Bool.or_true]
  unfold raiseStmt
  refine wpAny_bind (wpAny_mono h (fun v s1 h1 => ?_) fun _ _ z => z)
  obtain ⟨e, t, rfl, hC, hD, ne, he, ⟨dct, vs, sl, ha, h2⟩, hc⟩ := h1
  refine wpAny_bind (wpAny_holding (wpAny_mono hc (fun v2 s2 z => ?_) fun _ _ z => z))
  obtain ⟨rfl, rfl, hE⟩ := z
  obtain ⟨hp, g, d, tk, os⟩ := s2
  dsimp only at hC hD he ha
  refine wpAny_bind (wpAny_pure ?_)
  refine wpAny_bind (wpAny_holding ?_)
  have fe : ∀ {R : Value → Shared → Prop} {cm : String}, R (.ref e) ⟨hp, g, d, tk, os⟩ → wpAny (model prog w) A (excFromValue (.ref e) cm) R E ⟨hp, g, d, tk, os⟩ := fun {R cm} hr => by
    unfold excFromValue isExcClass
    repeat (first | exact hr | with_reducible refine wpAny_loadPart_at he ?_ | with_reducible refine wpAny_loadPart_at hC ?_ | (with_reducible refine wpAny_isSubtype_exc hC ?_; rw [hcC]) | wp_step)
  have fa : ∀ {R : Value → Shared → Prop} {cm : String}, R (.ref a) ⟨hp, g, d, tk, os⟩ → wpAny (model prog w) A (excFromValue (.ref a) cm) R E ⟨hp, g, d, tk, os⟩ := fun {R cm} hr => by
    unfold excFromValue isExcClass
    repeat (first | exact hr | with_reducible refine wpAny_loadPart_at ha ?_ | with_reducible refine wpAny_loadPart_at hD ?_ | (with_reducible refine wpAny_isSubtype_exc hD ?_; rw [hcD]) | wp_step)
  refine fe ?_
  dsimp only
  rw [if_neg (by simp)]
  refine wpAny_bind (wpAny_holding (fa ?_))
  have nC : C ≠ e := fun z => by
    rw [z, he] at hC
    have := congrArg Obj.data (Option.some.inj hC)
    cases this
  have f1 := Obj.data_mapFields (o := { cls := .ref C, data := .fields #[.ref t, .none, .none, .none, .bool false, .none] }) rfl (·.setIfInBounds 3 (.ref a))
  have e1 := Heap.get?_update_self (Obj.mapFields (·.setIfInBounds 3 (.ref a))) he (Obj.isFreed_of_fields f1)
  have f2 := Obj.data_mapFields f1 (·.setIfInBounds 4 (.bool true))
  have e2 := Heap.get?_update_self (Obj.mapFields (·.setIfInBounds 4 (.bool true))) e1 (Obj.isFreed_of_fields f2)
  have g2 : ∀ b, b ≠ e → ((hp.update e (Obj.mapFields (·.setIfInBounds 3 (.ref a)))).update e (Obj.mapFields (·.setIfInBounds 4 (.bool true)))).get? b = hp.get? b := fun b hb => by
    rw [Heap.get?_update_other _ _ (Ne.symm hb), Heap.get?_update_other _ _ (Ne.symm hb)]
  obtain ⟨g3, o', vs', e3, c3, d3, z0, z1⟩ := three (a := a) he rfl
  refine wpAny_bind (wpAny_setField he rfl (by simp) ?_)
  refine wpAny_bind (wpAny_setField e1 f1 (by simp) ?_)
  have hC2 := (g2 C nC).trans hC
  have ha2 := (g2 a ne).trans ha
  generalize hG : (hp.update e (Obj.mapFields (·.setIfInBounds 3 (.ref a)))).update e (Obj.mapFields (·.setIfInBounds 4 (.bool true))) = G at e2 g3 e3 hC2 ha2 ⊢
  have c2 : (Obj.mapFields (·.setIfInBounds 4 (.bool true)) (Obj.mapFields (·.setIfInBounds 3 (.ref a)) { cls := .ref C, data := .fields #[.ref t, .none, .none, .none, .bool false, .none] })).cls = .ref C := by rw [Obj.cls_mapFields, Obj.cls_mapFields]
  generalize Obj.mapFields (·.setIfInBounds 4 (.bool true)) (Obj.mapFields (·.setIfInBounds 3 (.ref a)) { cls := .ref C, data := .fields #[.ref t, .none, .none, .none, .bool false, .none] }) = o2 at e2 f2 c2
  have tye : ∀ {R : Value → Shared → Prop}, R (.ref C) ⟨G, g, d, tk, os⟩ → wpAny (model prog w) A (typeOf (.ref e)) R E ⟨G, g, d, tk, os⟩ := fun {R} hr => by
    refine wpAny_bind (wpAny_loadPart e2 (wpAny_pure ?_))
    rw [c2]
    exact hr
  have tyC : ∀ {R : Value → Shared → Prop}, R (.type "type") ⟨G, g, d, tk, os⟩ → wpAny (model prog w) A (typeOf (.ref C)) R E ⟨G, g, d, tk, os⟩ := fun {R} hr => by
    exact wpAny_bind (wpAny_loadPart hC2 (wpAny_pure hr))
  refine wpAny_bind (m := isType (.ref e)) ?_
  refine wpAny_bind (wpAny_loadPart e2 (wpAny_pure ?_))
  rw [f2]
  dsimp only
  rw [if_neg (by decide)]
  refine wpAny_bind (m := raisedInstance (.ref e)) ?_
  unfold raisedInstance
  refine wpAny_bind (tye (wpAny_bind (tyC ?_)))
  rw [if_pos (by decide)]
  refine wpAny_pure ?_
  refine wpAny_bind (m := setFlight (.ref e) none) ?_
  unfold setFlight
  refine wpAny_bind (wpAny_field e2 f2 (x := Value.none) (by simp) ?_)
  rw [if_neg (by simp)]
  refine wpAny_pure ?_
  exact raise_new hh ne ha2 rfl h2 e2 f2 (by simp) (hE _ o' vs' g3 e3 c3 d3 z0 z1)
end
end RF

/-! the way out of a clause that raises -/
section
open PySem.Spec PyProof.Rows
structure ExitsT (X : Cx) (E : XK) : Prop where
  air : ∀ (pins : List (Addr × Obj)) (σ : L2.St) (H : Hp) (s : Shared) (B : Heap) (a : Addr) (cls a0 fl : Value) (s' : Shared), L2.Inv X pins σ H s → UnB (frs X.stack) H H s.heap B → HOk X.prog X.w H B →
    Air B X.stack a cls a0 fl s'.heap → s'.os = s.os → AllBare s'.gens → (∀ b ∈ frs X.outer, b ≠ X.env.locals → ∀ o, s.heap.get? b = some o → (∀ vs, o.data ≠ .fields vs) → ∃ sl, s'.heap.get? b = some { o with slots := sl }) → E cls none H → X.xe (.ref a) s'
theorem exitsT' {P : Program} {w : World} {K : PySem.W.Frag} {mg : Str → Option Value} {base : Heap} {N : List Str} {qual : Str} {scope : Scope} {f : Addr} {cd : Value} {A : Around} {outer : List Env} {s0 : Shared} {H0 : Hp} {E : XK} :
    ExitsT (cxOf (CXR P w) P w K mg base N qual scope f cd A outer s0 H0 E) E where
  air := by
    intro pins σ H s B a cls a0 fl s' I U ok air os bare sl hE
    refine leave_air I.ok.frames rfl air fun h2 fl2 up => ⟨a, cls, H, none, rfl, ⟨⟨B, a0, unb_out I U, ok, fl2⟩, os.trans I.os, bare, fun b hb o e d => ?_⟩, fun z => absurd rfl z, hE⟩
    have nex : b ∉ (cxOf (CXR P w) P w K mg base N qual scope f cd A outer s0 H0 E).ex := fun z => by cases z
    obtain ⟨sl1, e1⟩ := I.base.slot b o e (I.ok.frf b hb) hb nex
    obtain ⟨sl2, e2⟩ := sl b hb (Nat.ne_of_lt (Heap.lt_size e)) _ e1 d
    obtain ⟨sl3, e3⟩ := up b _ e2 d
    exact ⟨sl3, e3⟩
/-- a caught exception with nothing behind it -/
def excO2 (a : Addr) (cls : Value) : HO := .ext fun h => ∃ o vs, h.get? a = some o ∧ o.cls = cls ∧ o.data = .fields vs ∧ vs[2]? = some Value.none
variable {X : Cx} {x y n : Str} {i j : Nat} {KE C : Addr} {E : XK} {np np2 np3 hpos pos cpos rpos : Pos} {e0 : Expr} {es : List Expr} {body : List Stmt} {tb : List (Addr × Obj) → (L2.St → XK) → TS} {ta : Addr → TA}
theorem ld_var {E' : Value → Shared → Prop} {pins : List (Addr × Obj)} {s : Shared} {σ : L2.St} {H : Hp} {i : Nat} {x : Str} {v : V} {pos : Pos} {Q : Value → Shared → Prop} (I : L2.Inv X pins σ H s) (hN : X.N[i]? = some x) (e : σ[i]? = some (some v)) (hv : Vis X.env.scope x) (h : ∀ u, RelV v u → Q u s)
    (hd : (x == ("__debug__" : Str)) = false) (hcd : (x == ("__classdict__" : Str)) = false) : wpAny (model X.prog X.w) X.A (eval (.Name x pos) X.env) Q E' s := by
  obtain ⟨m, hn, hl⟩ := I.loc
  obtain ⟨u, r, l⟩ := hl i x v hN e hv
  have fin := h u r
  rcases l with ⟨hk, hm⟩ | ⟨hk | hk, c, hc, hcell⟩
  · exact wpAny_Name (wpAny_loadName_local I.ok.kind hk hn hm fin) hd
  · exact wpAny_Name (wpAny_loadName_cell I.ok.kind hk hc hcell fin) hd
  · exact wpAny_Name (wpAny_loadName_free I.ok.kind hk hc hcell fin hcd) hd
def tTryR (C KE : Addr) (K : PySem.W.Frag) (E : XK) (i : Nat) (tb : List (Addr × Obj) → (L2.St → XK) → TS) (ta : Addr → TA) : TS := fun D σ H => ∀ pins,
  tb pins (fun σ' cls d H' => cls = .ref KE ∧ d ≠ none ∧ PySem.W.exmOne K (.ref KE) (.ref KE) = some true ∧ i < σ'.length ∧ ∀ a, H' a = none → ta a (σ'.set i (some (.ref a))) (upd H' a (excO2 a (.ref KE))) fun vs H1 => vs.length ≤ sizeLine ∧ H1 a = some (excO2 a (.ref KE)) ∧ E (.ref C) none H1) D σ H
/-- the object of the frame, a name of which went -/
theorem Air.own {base h h' : Heap} {l : List Env} {e L : Addr} {cls a0 fl : Value} {m : Str → Option Value} (x : Air base l e cls a0 fl h) (hL : base.get? L = none) (hn : h.Ns L m) (hs : Heap.SameBut L h h') {m' : Str → Option Value} (hn' : h'.Ns L m') : Air base l e cls a0 fl h' := by
  obtain ⟨x1, x2, x3, oe, vs, T, oT, ts, he, hc, hd, h1, hT0, hTe, hT, hdT, h3⟩ := x
  obtain ⟨oL, es, ep, gL, dL, _⟩ := hn
  obtain ⟨oL', es', ep', gL', dL', _⟩ := hn'
  have ne : ∀ {b : Addr} {o : Obj} {ws : Array Value}, h.get? b = some o → o.data = .fields ws → b ≠ L := fun {b o ws} q1 q2 z => by
    rw [z, gL] at q1
    cases q1
    rw [dL] at q2
    cases q2
  refine ⟨fun b o hb => (hs.2 b fun z => by rw [z, hL] at hb; cases hb).trans (x1 b o hb), x2, ?_, oe, vs, T, oT, ts, (hs.2 e (ne he hd)).trans he, hc, hd, h1, hT0, hTe, (hs.2 T (ne hT hdT)).trans hT, hdT, h3⟩
  clear he hT x1 x2
  induction l with
  | nil => trivial
  | cons env r ih =>
    obtain ⟨q1, ⟨L2, o2, q2, q3, q4, q5⟩, q6⟩ := x3
    refine ⟨q1, ?_, ih q6⟩
    by_cases z : L2 = L
    · subst z
      exact ⟨L2, oL', q2, q3, gL', fun ws q => by rw [dL'] at q; cases q⟩
    · exact ⟨L2, o2, q2, q3, (hs.2 L2 z).trans q4, q5⟩
theorem note_new {M : Model} {A : Around} {E' : Value → Shared → Prop} {s : Shared} {base : Heap} {env : Env} {outer : List Env} {L e : Addr} {o : Obj} {vs : Array Value} {a0 : Value} {Q : Unit → Shared → Prop}
    (hfr : A.frames = some (env :: outer)) (hl : s.heap.FunFrames base (env :: outer)) (hf : env.frame = some L) (he : s.heap.get? e = some o) (hkb : base.StaysIn s.heap) (hen : base.get? e = none) (hd : o.data = .fields vs) (h0 : vs[0]? = some a0) (h1 : vs[1]? = some Value.none)
    (h : ∀ h', Air base (env :: outer) e o.cls a0 (rawInt L) h' → s.heap.UpToSlots h' → Q () { s with heap := h' }) : wpAny M A (noteFrame (.ref e) env) Q E' s := by
  unfold noteFrame
  simp only [hf]
  refine wpAny_bind (wpAny_field he hd h1 ?_)
  rw [if_neg (by decide)]
  exact wpAny_entryW hfr hl hf he hkb hen hd (Array.getElem?_eq_some_iff.mp h1).1 h0 fun h' z => h h' ⟨z.1, hen, z.2.1, z.2.2.1⟩ z.2.2.2
theorem ps_tryR (nd : X.N.Nodup) (hi : X.N[i]? = some n) (hl : X.env.scope.names.lookup n = some .local) (hmD : X.mg x = some (.ref KE)) (hg : Gl X x) (hqD : PySem.W.excIn X.K KE bmVE "ValueError.__new__" = true) (hmC : X.mg y = some (.ref C)) (hqC : PySem.W.excIn X.K C bmVE "ValueError.__new__" = true)
    (hT : ExitsT X E) (hgC : Gl X y) (hb : ∀ (pins : List (Addr × Obj)) (E : L2.St → XK), PSs (X.tryX pins E) body (tb pins E)) (hs : ∀ a : Addr, PA (X.markX a) (e0 :: es) (ta a))
    (hst : X.stack = X.env :: X.outer := by rfl) (hfr : X.env.frame = some X.env.locals := by rfl) (hdb : (x == ("__debug__" : Str)) = false := by decide) (hdb2 : (y == ("__debug__" : Str)) = false := by decide) (hdb3 : (n == ("__debug__" : Str)) = false := by decide) (hcd : (n == ("__classdict__" : Str)) = false := by decide)
    (he : starEach (e0 :: es) X.env = (false, eval e0 X.env) :: starEach es X.env := by rfl) (hpl : (backTo cpos (starEach es X.env)).any (·.1) = false := by rfl) :
    PS X (.Try body [.ExceptHandler (some (.Name x np)) (some n) [.Raise (some (.Call (.Name y np2) (e0 :: es) [] cpos)) (some (.Name n np3)) rpos] hpos] [] [] pos) (tTryR C KE X.K E i tb ta) := by
  intro pins s σ H D I h
  have calm := I.ok.hd
  refine wpAny_Try_except (wpAny_mono (hb pins _ [] s σ H D I.toTry (h pins)) (fun f s1 q => ?_) fun e s1 q => ?_)
  · have q' : SP X pins D f s1 := SP.ofTry q
    cases f with
    | next => obtain ⟨σ', H', I', z⟩ := q'; exact wpAny_execs_nil ⟨σ', H', I', z⟩
    | brk => exact q'
    | cont => exact q'
    | ret u => exact q'
  obtain ⟨σ1, H1, s2, I1, a, cls, H', d, rfl, F, hC2, rfl, hdn, hcls, hlen, hsu⟩ := q
  have c1 : C2 a s1.heap := hC2 hdn
  obtain ⟨B, a0, U, ok, fl⟩ := F.ex
  have fl' : Heap.FlyingW B (X.env :: X.outer) a (.ref KE) a0 s1.heap := by rw [← hst]; exact fl
  have frames : X.A.frames = some (X.env :: X.outer) := by rw [← hst]; exact I.ok.frames
  have hfs : ∀ b ∈ frs X.stack, ∃ o, s2.heap.get? b = some o ∧ ∀ vs, o.data ≠ .fields vs := fun b hb => (I1.stack.mem hb).2
  have un : ∀ h', B.StaysIn h' → s1.heap.UpToSlots h' → Un (frs X.stack) [] H1 H' s2.heap h' := fun h' st up => U.un st (F.slot.up up) hfs
  have back : ∀ h', B.StaysIn h' → s1.heap.UpToSlots h' → L2.Inv X pins σ1 H' { s1 with heap := h' } := fun h' st up =>
    I1.call' (s' := { s1 with heap := h' }) (ch := []) F.os (un h' st up) (ok.kept st) F.bare fun b z => by cases z
  refine wpAny_mono (wpAny_kp (kp_note (.ref a) X.env) c1 (wpAny_looks_onW (Q := fun _ t => ∃ h4, t = { s1 with heap := h4 } ∧ Heap.HeldW B (X.env :: X.outer) a (.ref KE) a0 X.env.locals h4 ∧ s1.heap.UpToSlots h4) (E := fun _ _ => False) frames hfr fl' fun h4 held4 up4 => ⟨h4, rfl, held4, up4⟩)) (fun _ t z => ?_) fun _ _ z => z.1.elim
  obtain ⟨⟨h4, rfl, held4, up4⟩, c4⟩ := z
  refine wpAny_mono (wpAny_kp (kp_flight (.ref a) none) c4 (wpAny_landsW (s := { s1 with heap := h4 }) (Q := fun _ t => ∃ h5, t = { s1 with heap := h5 } ∧ Heap.FlyingW B (X.env :: X.outer) a (.ref KE) a0 h5 ∧ h4.UpToSlots h5) (E := fun _ _ => False) held4 fun h5 fl5 up5 => ⟨h5, rfl, fl5, up5⟩)) (fun _ t z => ?_) fun _ _ z => z.1.elim
  obtain ⟨⟨h5, rfl, fl5, up5⟩, c5⟩ := z
  have I5 := back h5 fl5.1 (up4.trans up5)
  obtain ⟨ob, hob, hobc⟩ := fl5.there
  have typ : PySem.W.Looks (model X.prog X.w) h5 (typeOf (.ref a)) (.ref KE) := hobc ▸ (PySem.W.Looks.ld hob).andThen .now
  refine wpAny_handleBy_cons (codeAny_handlers_test (ld_glob (X := X.markX a) I5.mark hg hmD ?_ hdb)) (fun z => by cases z)
  refine (PySem.W.exm_one I5.kIn typ hcls).here ?_
  refine codeAny_handlers_suite_as (wpAny_mono (wpAny_kp (kp_flight (.ref a) none) c5 (lands_againW (s := { s1 with heap := h5 }) (Q := fun _ t => ∃ h6, t = { s1 with heap := h6 } ∧ Heap.FlyingW B (X.env :: X.outer) a (.ref KE) a0 h6 ∧ h5.UpToSlots h6) (E := fun _ _ => False) fl5 fun h6 fl6 up6 => ⟨h6, rfl, fl6, up6⟩)) (fun _ t z => ?_) fun _ _ z => z.1.elim)
  obtain ⟨⟨h6, rfl, fl6, up6⟩, c6⟩ := z
  have up06 := (up4.trans up5).trans up6
  obtain ⟨oe, vs, hoe, hoec, hoed, _⟩ := fl6.first
  have v2 : vs[2]? = some Value.none := by
    obtain ⟨o2, vs2, q1, q2, q3⟩ := c6
    rw [hoe] at q1; cases q1
    rw [hoed] at q2; cases q2
    exact q3
  have na : s2.heap.get? a = none := by
    cases q : s2.heap.get? a with
    | none => rfl
    | some o =>
      by_cases hb : a ∈ frs X.stack
      · obtain ⟨o2, e2, dn⟩ := hfs a hb
        rw [q] at e2; cases e2
        obtain ⟨sl, e3⟩ := (F.slot.up up06) a hb o q dn
        rw [hoe] at e3; cases e3
        exact absurd hoed (dn vs)
      · obtain ⟨o2, e2⟩ := U.there a o q hb
        rw [fl'.2.1] at e2; cases e2
  have nH : H' a = none := by
    cases q : H' a with
    | none => rfl
    | some u =>
      obtain ⟨ob2, e2⟩ := (ok a u q).has
      rw [fl'.2.1] at e2; cases e2
  have ok6 : HOk X.prog X.w (upd H' a (excO2 a (.ref KE))) h6 := fun b u e => by
    by_cases hb : b = a
    · subst hb
      rw [upd_same] at e; cases e
      exact ⟨⟨oe, vs, hoe, hoec, hoed, v2⟩, ⟨oe, hoe⟩, fun g1 g2 ⟨o, ws, q1, q2, q3, q4⟩ kk => ⟨o, ws, kk o q1, q2, q3, q4⟩⟩
    · rw [upd_ne hb] at e
      exact (ok b u e).stay (fun c v _ q => fl6.1 c v q) (fun c q => by rw [upd_ne (ne_of_none q nH)]; exact q) fun c xs q => by rw [upd_ne (ne_of_none q nH)]; exact q
  have un6 := un h6 fl6.1 up06
  have un6' : Un (frs X.stack) [] H1 (upd H' a (excO2 a (.ref KE))) s2.heap h6 := by
    refine ⟨un6.keep, un6.slot, fun b o e nn hx => ?_, un6.there, fun b xs e => ?_, fun b o u e => ?_, fun b ps e => ?_⟩
    · rw [upd_ne (fun z => by rw [z, na] at e; cases e)]
      exact un6.free b o e nn hx
    · have := un6.tups b xs e
      rw [upd_ne (ne_of_none this nH)]; exact this
    · have := un6.frzs b o u e
      rw [upd_ne (ne_of_none this nH)]; exact this
    · obtain ⟨more, e2⟩ := un6.tbls b ps e
      exact ⟨more, by rw [upd_ne (ne_of_none e2 nH)]; exact e2⟩
  have I6 : L2.Inv X pins σ1 (upd H' a (excO2 a (.ref KE))) { s1 with heap := h6 } := I1.call' (s' := { s1 with heap := h6 }) (ch := []) F.os un6' ok6 F.bare fun b z => by cases z
  refine store_ok (X := X.markX a) (v := .ref a) I6.mark nd hi (.inl hl) rfl (fun s7 I7 => ?_) (.inr hl)
  -- the clause
  refine wpAny_execs_cons ?_
  rw [arm_exec_Raise]
  refine wpAny_bind (wpAny_standAt ?_)
  obtain ⟨tl, ns, nm, qn, bs, hdct, sn, sub, ab, col, dd, k0, k1, k2, k3, k5, mN, hC, hN, hni, TT⟩ := (own_mk I.ok.mod.kin hmC hqC).obj
  obtain ⟨tl', ns', nm', qn', bs', hdct', sn', sub', ab', col', dd', j0, j1, j2, j3, j5, mN', hC', hN', hni', TT'⟩ := (own_mk I.ok.mod.kin hmD hqD).obj
  have FB := PySem.F.excBase_ValueError
  have lo : (σ1.set i (some (V.ref a)))[i]? = some (some (V.ref a)) := by rw [List.getElem?_set_self hlen]
  have pl : (backTo cpos (starEach (e0 :: es) X.env)).any (·.1) = false := by
    rw [he]
    show (false || (backTo cpos (starEach es X.env)).any (·.1)) = false
    rw [hpl]; rfl
  show wpAny _ _ (raiseStmt X.env (some (do let v ← eval (.Call (.Name y np2) (e0 :: es) [] cpos) X.env; standAt rpos; pure v)) (some (do let v ← eval (.Name n np3) X.env; standAt rpos; pure v))) _ _ s7
  refine RF.stmt_from (a := a) (C := C) (D := KE) (nm := nm) (q := qn) (N := ns) (bs := bs) (bm := tl) (hdct := hdct) (sn := sn) (sub := sub) (ab := ab) (col := col) (dd := dd) (k0 := k0) (k1 := k1) (k2 := k2) (k3 := k3) (k5 := k5) (newId := "ValueError.__new__")
    (nm' := nm') (q' := qn') (N' := ns') (bs' := bs') (bm' := tl') (hdct' := hdct') (sn' := sn') (sub' := sub') (ab' := ab') (col' := col') (dd' := dd') (j0 := j0) (j1 := j1) (j2 := j2) (j3 := j3) (j5 := j5) (newId' := "ValueError.__new__") (TT.hasType FB.hasBase) (TT'.hasType FB.hasBase) rfl
    (wpAny_bind (wpAny_mono (wpAny_Call_ofName (ld_glob (X := X.markX a) I7 hgC hmC ?_ hdb2)) (fun v s3 h3 => wpAny_bind (wpAny_standAt (wpAny_pure h3))) fun _ _ z => z))
  unfold callWith
  have go := hs a cpos pins s7 _ _ _ I7 (hsu a nH)
  refine wpAny_bind (wpAny_holding ?_)
  rw [he] at go pl ⊢
  refine Calls.evalArgs_plain (wpAny_mono go (fun us s3 z => ?_) fun _ _ z => z.elim)
  obtain ⟨vs3, H3, I3, r3, len3, ha3, hE3⟩ := z
  refine wpAny_bind (wpAny_standAt ?_)
  have hC3 := I3.bk _ _ hC
  obtain ⟨hp, g, dr, tk, os⟩ := s3
  simp only [pl]
  refine wpAny_bind (wpAny_keeperOf_exc hC3 ?_)
  refine wpAny_bind (wpAny_call_exc_subT (hrest := by rw [List.nil_append, ← r3.length]; exact len3) FB (TT.keeps I3.bk) hC3 (hN.keeps I3.bk) hni fun h' e2 hm => wpAny_bind (wpAny_holding (wpAny_point (wpAny_pure ?_))))
  obtain ⟨t, ht, htn, htt⟩ := hm.there
  have I4 : L2.Inv (X.markX a) pins (σ1.set i (some (V.ref a))) H3 ⟨h', g, dr, tk, os⟩ := I3.kept (t' := tk) hm.keeps
  obtain ⟨⟨ob0, _, gb0, _⟩, _, _⟩ := I3.hok a _ ha3
  have ne : a ≠ e2 := fun z => by
    have := hm.new
    rw [← z] at this
    rw [show hp.get? a = some ob0 from gb0] at this
    cases this
  obtain ⟨⟨⟨ca, dct, da, sla⟩, wa, ga, rfl, rfl, z2⟩, _, _⟩ := I4.hok a _ ha3
  refine ⟨e2, t, rfl, hm.keeps _ _ hC3, hm.keeps _ _ (I3.bk _ _ hC'), ne, ht, ⟨dct, wa, sla, ga, z2⟩, wpAny_bind (ld_var (X := X.markX a) I4 hi lo (.inl hl) (fun u ru => ?_) hdb3 hcd)⟩
  cases (show u = Value.ref a from ru)
  refine wpAny_bind (wpAny_standAt (wpAny_pure ⟨rfl, rfl, fun h7 o7 vs7 k7 g7 c7 d7 z0 z1 => ?_⟩))
  -- on its way
  have IX : L2.Inv X pins (σ1.set i (some (V.ref a))) H3 ⟨hp, g, dr, tk, os⟩ := I3.unmark calm
  have nf : ∀ b u, H3 b = some u → b ∉ frs X.stack := fun b u hb z => by
    have := IX.stkFree b z
    rw [hb] at this; cases this
  have okB : HOk X.prog X.w H3 (PySem.W.hideAll hp (frs X.stack)) := fun b u hb =>
    (IX.hok b u hb).stay (fun c v hc q => PySem.W.hideAll_get _ q (by
      rcases hc with rfl | hc
      · exact nf _ _ hb
      · exact nf _ _ hc)) (fun _ q => q) fun _ _ q => q
  have UB : UnB (frs X.stack) H3 H3 hp (PySem.W.hideAll hp (frs X.stack)) :=
    ⟨fun b o q _ hb => PySem.W.hideAll_get _ q hb, fun _ _ _ n => n, fun b o q hb => ⟨o, PySem.W.hideAll_get _ q hb⟩, fun _ _ q => q, fun _ _ _ q => q, fun _ ps q => ⟨#[], by rw [q]; simp⟩⟩
  have kp7 : ∀ b o, hp.get? b = some o → h7.get? b = some o := fun b o hb => (k7 b fun z => by
    have := hm.new
    rw [← z, hb] at this
    cases this).trans (hm.keeps b o hb)
  have stay7 : (PySem.W.hideAll hp (frs X.stack)).StaysIn h7 := fun b o hb => kp7 b o (PySem.W.of_hideAll _ hb)
  have ff : hp.FunFrames (PySem.W.hideAll hp (frs X.stack)) (X.env :: X.outer) := by
    have := PySem.W.funFrames_hide (as := frs X.stack) IX.stack frs_frame
    rw [hst] at this ⊢
    exact this
  have ff7 : h7.FunFrames (PySem.W.hideAll hp (frs X.stack)) (X.env :: X.outer) := ff.of_keeps fun b o hb _ => ⟨o, kp7 b o hb, rfl⟩
  have enb : (PySem.W.hideAll hp (frs X.stack)).get? e2 = none := by
    cases q : (PySem.W.hideAll hp (frs X.stack)).get? e2 with
    | none => rfl
    | some o =>
      have := hm.new
      rw [PySem.W.of_hideAll _ q] at this
      cases this
  have lin : X.env.locals ∈ frs X.stack := by rw [hst, frs_cons hfr]; exact List.mem_cons_self
  have hLn : (PySem.W.hideAll hp (frs X.stack)).get? X.env.locals = none := PySem.W.hideAll_none _ lin
  refine note_new (s := ⟨h7, g, dr, tk, os⟩) frames ff7 hfr g7 stay7 enb d7 z0 z1 fun h8 air8 up8 => ?_
  rw [c7] at air8
  obtain ⟨m, hn, hlk⟩ := IX.loc
  have hn8 := up8.ns (hn.keeps kp7)
  have hcls2 : (X.env.scope.kind == .class || (X.env.scope.kind == .module && X.env.locals != X.env.globals)) = false := by rw [I.ok.kind]; rfl
  refine wpAny_nameGoes_keeps hl hn8 hcls2 fun h9 v9 hn9 same => ?_
  have air9 := Air.own air8 hLn hn8 same hn9
  have el : (X.env.frame.elim Value.none fun q => rawInt q) = rawInt X.env.locals := by rw [hfr]; rfl
  obtain ⟨_, _, _, oe9, vs9, T9, _, _, he9, _, hd9, t9, _⟩ := id air9
  unfold PySem.passOn
  refine wpAny_bind (wpAny_field he9 hd9 t9 ?_)
  rw [if_neg (by simp)]
  have mid : wpAny (model X.prog X.w) (X.A.mark (some (Value.ref a))) (do PySem.setFlight (.ref e2) X.env.frame; throw (Value.ref e2) : Sem Flow) (fun _ _ => False) (notedBy (model X.prog X.w) (X.A.mark (some (Value.ref a))) X.env fun x s' => cameBackBy (model X.prog X.w) X.A X.env X.xe x s') ⟨h9, g, dr, tk + 1, os⟩ := by
    refine wpAny_bind (mark_air (s := ⟨h9, g, dr, tk + 1, os⟩) X.env.frame air9 fun h10 air10 up10 => wpAny_throw ?_)
    rw [el] at air10
    refine wpAny_noteFrame_againW (s := ⟨h10, g, dr, tk + 1, os⟩) hfr air10.2.2.2 ?_
    obtain ⟨_, _, _, oe10, vs10, T10, _, _, he10, _, hd10, t10, _⟩ := id air10
    unfold cameBackBy
    refine wpAny_bind (wpAny_field he10 hd10 t10 ?_)
    rw [if_neg (by simp)]
    refine mark_air (s := ⟨h10, g, dr, tk + 1, os⟩) X.env.frame air10 fun h11 air11 up11 => ?_
    refine hT.air pins _ H3 ⟨hp, g, dr, tk, os⟩ (PySem.W.hideAll hp (frs X.stack)) e2 (.ref C) (.ref t) _ ⟨h11, g, dr, tk + 1, os⟩ IX UB okB (by rw [hst]; rw [hst] at air11; exact air11) rfl IX.bare (fun b hb nb o q dn => ?_) hE3
    obtain ⟨sl8, e8⟩ := up8 b o (kp7 b o q) dn
    have e9 := (same.2 b nb).trans e8
    obtain ⟨sl10, e10⟩ := up10 b _ e9 dn
    obtain ⟨sl11, e11⟩ := up11 b _ e10 dn
    exact ⟨sl11, e11⟩
  first
    | exact mid
    | exact wpAny_bind (wpAny_pure mid)
end


--CUT
/-! texts of tables: lines, words, figures -/
theorem splitL_app {c : Nat} : ∀ {l : List Nat} (r : List Nat), c ∉ l → splitL c (l ++ c :: r) = l :: splitL c r
  | [], r, _ => by show splitL c (c :: r) = _; rw [splitL, if_pos rfl]
  | x :: l, r, h => by
    show splitL c (x :: (l ++ c :: r)) = _
    rw [splitL, if_neg (fun z => h (by rw [z]; exact List.mem_cons_self)), splitL_app r (fun z => h (List.mem_cons_of_mem _ z))]
theorem splitL_one {c : Nat} : ∀ {l : List Nat}, c ∉ l → splitL c l = [l]
  | [], _ => rfl
  | x :: l, h => by
    rw [splitL, if_neg (fun z => h (by rw [z]; exact List.mem_cons_self)), splitL_one (fun z => h (List.mem_cons_of_mem _ z))]
theorem glue_cons (sep l : List Nat) : ∀ r : List (List Nat), glueL sep (l :: r) = l ++ (r.map fun x => sep ++ x).flatten
  | [] => by simp [glueL]
  | x :: r => by
    show l ++ sep ++ glueL sep (x :: r) = _
    rw [glue_cons sep x r, List.map_cons, List.flatten_cons, List.append_assoc, List.append_assoc]
theorem glue_nil : ∀ ls : List (List Nat), glueL [] ls = ls.flatten
  | [] => rfl
  | l :: r => by rw [glue_cons, List.flatten_cons]; simp
theorem split_glue {c : Nat} : ∀ (l : List Nat) (r : List (List Nat)), (∀ x ∈ l :: r, c ∉ x) → splitL c (glueL [c] (l :: r)) = l :: r
  | l, [], h => by show splitL c l = _; exact splitL_one (h l List.mem_cons_self)
  | l, x :: r, h => by
    show splitL c (l ++ [c] ++ glueL [c] (x :: r)) = _
    rw [List.append_assoc]
    show splitL c (l ++ c :: glueL [c] (x :: r)) = _
    rw [splitL_app _ (h l List.mem_cons_self), split_glue x r fun y hy => h y (List.mem_cons_of_mem _ hy)]
/-- one figure -/
def numOf : List Nat → Option Nat
  | [c] => if 48 ≤ c ∧ c ≤ 57 then some (c - 48) else none
  | _ => none
def nums : List (List Nat) → Option (List Nat)
  | [] => some []
  | x :: r => match numOf x, nums r with
    | some d, some ds => some (d :: ds)
    | _, _ => none
def behind (nm l : List Nat) : Option (List Nat) := match splitL 32 l with
  | [] => none
  | h :: t => if h = nm then nums t else none
abbrev cCl : List Nat := [99, 108, 97, 115, 115, 101, 115]
abbrev cWi : List Nat := [119, 105, 118, 101, 115]
abbrev cHe : List Nat := [104, 101, 105, 114, 115]
/-- what the text tells -/
def Tells (l w h : List Nat) : Prop := ∃ a b c, splitL 10 l = [a, b, c, []] ∧ behind cCl a = some [w.length] ∧ behind cWi b = some w ∧ behind cHe c = some h
def GoodT (w h : List Nat) : Prop := ∃ n, IsTurn n w ∧ IsTurn n h ∧ 1 ≤ n ∧ n ≤ 8
def Note (l w h : List Nat) : Prop := Tells l w h ∧ GoodT w h
def fig (d : Nat) : List Nat := [48 + d]
/-- the words of a row, and the row without and with its end -/
def wordsL (nm : List Nat) (ds : List Nat) : List Nat := glueL [32] (nm :: ds.map fig)
def rowL (nm : List Nat) (ds : List Nat) : List Nat := wordsL nm ds ++ [10]
theorem numOf_fig {d : Nat} (h : d < 10) : numOf (fig d) = some d := by
  show (if 48 ≤ 48 + d ∧ 48 + d ≤ 57 then some (48 + d - 48) else none) = some d
  rw [if_pos (by omega), Nat.add_sub_cancel_left]
theorem nums_fig : ∀ {ds : List Nat}, (∀ d ∈ ds, d < 10) → nums (ds.map fig) = some ds
  | [], _ => rfl
  | d :: ds, h => by
    rw [List.map_cons, nums, numOf_fig (h d List.mem_cons_self), nums_fig fun x hx => h x (List.mem_cons_of_mem _ hx)]
theorem fig_no {c : Nat} (hc : c < 48) {ds : List Nat} {nm : List Nat} (hn : c ∉ nm) : ∀ x ∈ nm :: ds.map fig, c ∉ x := by
  intro x hx
  rcases List.mem_cons.mp hx with rfl | hx
  · exact hn
  · obtain ⟨d, _, rfl⟩ := List.mem_map.mp hx
    intro z
    have := List.mem_singleton.mp z
    omega
theorem split_words {nm ds : List Nat} (hn : 32 ∉ nm) : splitL 32 (wordsL nm ds) = nm :: ds.map fig := split_glue _ _ (fig_no (by decide) hn)
theorem behind_words {nm ds : List Nat} (hn : 32 ∉ nm) (h : ∀ d ∈ ds, d < 10) : behind nm (wordsL nm ds) = some ds := by
  unfold behind
  rw [split_words hn]
  show (if nm = nm then nums (ds.map fig) else none) = _
  rw [if_pos rfl, nums_fig h]
theorem behind_other {nm nm' ds : List Nat} (hn : 32 ∉ nm) (ne : nm ≠ nm') : behind nm' (wordsL nm ds) = none := by
  unfold behind
  rw [split_words hn]
  show (if nm = nm' then nums (ds.map fig) else none) = _
  rw [if_neg ne]
theorem no_end {nm ds : List Nat} (hn : 10 ∉ nm) : 10 ∉ wordsL nm ds := by
  unfold wordsL
  rw [glue_cons]
  intro z
  rcases List.mem_append.mp z with z | z
  · exact hn z
  · obtain ⟨x, hx, hz⟩ := List.mem_flatten.mp z
    obtain ⟨y, hy, rfl⟩ := List.mem_map.mp hx
    rcases List.mem_append.mp hz with q | q
    · exact absurd (List.mem_singleton.mp q) (by decide)
    · exact fig_no (show 10 < 48 by decide) hn y (List.mem_cons_of_mem _ hy) q
theorem words_len (nm ds : List Nat) : (wordsL nm ds).length = nm.length + 2 * ds.length := by
  unfold wordsL
  rw [glue_cons, List.length_append]
  congr 1
  induction ds with
  | nil => rfl
  | cons d ds ih =>
    rw [List.map_cons, List.map_cons, List.flatten_cons, List.length_append, ih]
    show 2 + _ = _
    rw [List.length_cons]; omega
theorem words_snoc (nm ds : List Nat) (d : Nat) : wordsL nm (ds ++ [d]) = wordsL nm ds ++ [32, 48 + d] := by
  unfold wordsL
  rw [glue_cons, glue_cons, List.map_append, List.map_append, List.flatten_append, ← List.append_assoc]
  rfl
/-- lines, each with its end -/
theorem split_lines : ∀ {ls : List (List Nat)}, (∀ l ∈ ls, 10 ∉ l) → splitL 10 ((ls.map fun l => l ++ [10]).flatten) = ls ++ [[]]
  | [], _ => rfl
  | l :: ls, h => by
    rw [List.map_cons, List.flatten_cons, List.append_assoc]
    show splitL 10 (l ++ 10 :: (ls.map fun l => l ++ [10]).flatten) = _
    rw [splitL_app _ (h l List.mem_cons_self), split_lines fun x hx => h x (List.mem_cons_of_mem _ hx)]
    rfl
/-- what a text of three such lines tells -/
theorem tells_iff {a b c w h : List Nat} (ha : 10 ∉ a) (hb : 10 ∉ b) (hc : 10 ∉ c) : Tells ((a ++ [10]) ++ (b ++ [10]) ++ (c ++ [10])) w h ↔ behind cCl a = some [w.length] ∧ behind cWi b = some w ∧ behind cHe c = some h := by
  have e : splitL 10 ((a ++ [10]) ++ (b ++ [10]) ++ (c ++ [10])) = [a, b, c, []] := by
    have := split_lines (ls := [a, b, c]) (by
      intro l hl
      simp only [List.mem_cons, List.not_mem_nil, or_false] at hl
      rcases hl with rfl | rfl | rfl <;> assumption)
    simpa [List.append_assoc] using this
  unfold Tells
  rw [e]
  constructor
  · rintro ⟨a', b', c', q, r⟩
    cases q
    exact r
  · exact fun r => ⟨a, b, c, rfl, r⟩
theorem not_lines {ls : List (List Nat)} {w h : List Nat} (hl : ∀ l ∈ ls, 10 ∉ l) (n3 : ls.length ≠ 3) : ¬ Tells ((ls.map fun l => l ++ [10]).flatten) w h := by
  rintro ⟨a, b, c, q, _⟩
  rw [split_lines hl] at q
  have := congrArg List.length q
  simp only [List.length_append, List.length_cons, List.length_nil] at this
  omega
theorem not_ended {a b c w h : List Nat} (ha : 10 ∉ a) (hb : 10 ∉ b) (hc : 10 ∉ c) : ¬ Tells ((a ++ [10]) ++ (b ++ [10]) ++ c) w h := by
  rintro ⟨a', b', c', q, _⟩
  have e : (a ++ [10]) ++ (b ++ [10]) ++ c = a ++ 10 :: (b ++ 10 :: c) := by simp
  rw [e, splitL_app _ ha, splitL_app _ hb, splitL_one hc] at q
  cases q
/-- the three rows -/
abbrev row1 (n : Nat) : List Nat := wordsL cCl [n]
abbrev row2 (w : List Nat) : List Nat := wordsL cWi w
abbrev row3 (h : List Nat) : List Nat := wordsL cHe h
def noteL (w h : List Nat) : List Nat := (row1 w.length ++ [10]) ++ (row2 w ++ [10]) ++ (row3 h ++ [10])
section
variable {n : Nat} {w h : List Nat} (tw : IsTurn n w) (th : IsTurn n h) (n1 : 1 ≤ n) (n8 : n ≤ 8)
include n8
theorem turn_fig {w : List Nat} (tw : IsTurn n w) : ∀ d ∈ w, d < 10 := fun d hd => by have := tw.mem.mp hd; omega
theorem bh1 : behind cCl (row1 n) = some [n] := behind_words (by decide) (fun d hd => by rw [List.mem_singleton.mp hd]; omega)
omit n8 in
theorem en1 : 10 ∉ row1 n := no_end (by decide)
omit n8 in
theorem en2 : 10 ∉ row2 w := no_end (by decide)
omit n8 in
theorem en3 : 10 ∉ row3 h := no_end (by decide)
include tw
theorem bh2 : behind cWi (row2 w) = some w := behind_words (by decide) (turn_fig n8 tw)
theorem bh3 : behind cHe (row3 w) = some w := behind_words (by decide) (turn_fig n8 tw)
include th n1
theorem note_good : Note (noteL w h) w h := by
  refine ⟨?_, n, tw, th, n1, n8⟩
  unfold noteL
  rw [tells_iff en1 en2 en3]
  exact ⟨by rw [tw.len]; exact bh1 n8, bh2 tw n8, bh3 th n8⟩
end
/-- the lines that are no row of a table -/
def badL : List (List Nat) := [[], [99, 108, 97, 115, 115, 101, 115], [119, 105, 118, 101, 115], [104, 101, 105, 114, 115], [99, 108, 97, 115, 115, 101, 115, 32, 48], [99, 108, 97, 115, 115, 101, 115, 32, 57], [119, 105, 118, 101, 115, 32, 48, 32, 48], [104, 101, 105, 114, 115, 32, 48, 32, 57], [119, 105, 118, 101, 115, 32, 45, 49], [119, 105, 118, 101, 115, 32, 48, 48], [104, 101, 105, 114, 115, 32, 49, 32], [32, 119, 105, 118, 101, 115, 32, 48], [104, 101, 105, 114, 115, 32, 32, 48], [87, 105, 118, 101, 115, 32, 48], [119, 105, 118, 101, 115, 32, 48, 44, 49], [99, 108, 97, 115, 115, 101, 115, 32, 120], [104, 101, 105, 114, 115, 32, 48, 32, 49, 32, 50, 32, 51, 32, 52, 32, 53, 32, 54, 32, 55, 32, 56]]
theorem bad_end : ∀ l ∈ badL, 10 ∉ l := by decide
theorem bad1 : ∀ l ∈ badL, ∀ k, 1 ≤ k → k ≤ 8 → behind cCl l ≠ some [k] := by
  have : ∀ l ∈ badL, behind cCl l = none ∨ behind cCl l = some [] ∨ behind cCl l = some [0] ∨ behind cCl l = some [9] := by decide
  intro l hl k k1 k8 e
  rcases this l hl with z | z | z | z <;> rw [z] at e <;> cases e <;> omega
theorem bad2 : ∀ l ∈ badL, ∀ n w, 1 ≤ n → IsTurn n w → behind cWi l ≠ some w := by
  have : ∀ l ∈ badL, behind cWi l = none ∨ behind cWi l = some [] ∨ behind cWi l = some [0, 0] := by decide
  intro l hl n w n1 tw e
  rcases this l hl with z | z | z <;> rw [z] at e <;> cases e
  · have : 0 = n := tw.len
    omega
  · exact absurd tw.nodup (by decide)
theorem bad3 : ∀ l ∈ badL, ∀ n w, 1 ≤ n → n ≤ 8 → IsTurn n w → behind cHe l ≠ some w := by
  have : ∀ l ∈ badL, behind cHe l = none ∨ behind cHe l = some [] ∨ behind cHe l = some [0, 9] ∨ behind cHe l = some [0, 1, 2, 3, 4, 5, 6, 7, 8] := by decide
  intro l hl n w n1 n8 tw e
  rcases this l hl with z | z | z | z <;> rw [z] at e <;> cases e
  · have : 0 = n := tw.len
    omega
  · have := tw.mem.mp (show 9 ∈ [0, 9] by decide)
    have : 2 = n := tw.len
    omega
  · have : 9 = n := tw.len
    omega
abbrev NoNote (l : List Nat) : Prop := ∀ w h, ¬ Note l w h
section
variable {n : Nat} {w h : List Nat} (tw : IsTurn n w) (th : IsTurn n h) (n1 : 1 ≤ n) (n8 : n ≤ 8)
/-- a bad line in the place of the first, the second, the third -/
theorem sp01 {l : List Nat} (hl : l ∈ badL) : NoNote ((l ++ [10]) ++ (row2 w ++ [10]) ++ (row3 h ++ [10])) := by
  rintro w' h' ⟨t, m, tw', th', m1, m8⟩
  rw [tells_iff (bad_end l hl) en2 en3] at t
  exact bad1 l hl _ (by rw [tw'.len]; exact m1) (by rw [tw'.len]; exact m8) t.1
theorem sp02 {l : List Nat} (hl : l ∈ badL) : NoNote ((row1 n ++ [10]) ++ (l ++ [10]) ++ (row3 h ++ [10])) := by
  rintro w' h' ⟨t, m, tw', th', m1, m8⟩
  rw [tells_iff en1 (bad_end l hl) en3] at t
  exact bad2 l hl _ _ m1 tw' t.2.1
theorem sp03 {l : List Nat} (hl : l ∈ badL) : NoNote ((row1 n ++ [10]) ++ (row2 w ++ [10]) ++ (l ++ [10])) := by
  rintro w' h' ⟨t, m, tw', th', m1, m8⟩
  rw [tells_iff en1 en2 (bad_end l hl)] at t
  exact bad3 l hl _ _ m1 m8 th' t.2.2
theorem sp4 : NoNote ((row2 w ++ [10]) ++ (row1 n ++ [10]) ++ (row3 h ++ [10])) := by
  rintro w' h' ⟨t, _⟩
  rw [tells_iff en2 en1 en3] at t
  have := t.1
  rw [behind_other (by decide) (by decide)] at this
  cases this
include n8
/-- one number more -/
theorem sp51 {d : Nat} (hd : d < 10) : NoNote ((wordsL cCl [n, d] ++ [10]) ++ (row2 w ++ [10]) ++ (row3 h ++ [10])) := by
  rintro w' h' ⟨t, _⟩
  rw [tells_iff (no_end (by decide)) en2 en3] at t
  have := t.1
  rw [behind_words (by decide) (by intro x hx; simp only [List.mem_cons, List.not_mem_nil, or_false] at hx; rcases hx with rfl | rfl <;> omega)] at this
  cases this
include tw
theorem sp52 {d : Nat} (hd : d < 10) : NoNote ((row1 n ++ [10]) ++ (wordsL cWi (w ++ [d]) ++ [10]) ++ (row3 h ++ [10])) := by
  rintro w' h' ⟨t, _⟩
  rw [tells_iff en1 (no_end (by decide)) en3] at t
  have q := t.2.1
  rw [behind_words (by decide) (by
    intro x hx
    rcases List.mem_append.mp hx with z | z
    · exact turn_fig n8 tw x z
    · rw [List.mem_singleton.mp z]; exact hd)] at q
  cases q
  have q := t.1
  rw [bh1 n8, List.length_append, tw.len] at q
  have : n = n + 1 := (List.cons.inj (Option.some.inj q)).1
  omega
include th
theorem sp53 {d : Nat} (hd : d < 10) : NoNote ((row1 n ++ [10]) ++ (row2 w ++ [10]) ++ (wordsL cHe (h ++ [d]) ++ [10])) := by
  rintro w' h' ⟨t, m, tw', th', m1, m8⟩
  rw [tells_iff en1 en2 (no_end (by decide))] at t
  have q := t.2.2
  rw [behind_words (by decide) (by
    intro x hx
    rcases List.mem_append.mp hx with z | z
    · exact turn_fig n8 th x z
    · rw [List.mem_singleton.mp z]; exact hd)] at q
  cases q
  have q := t.2.1
  rw [bh2 tw n8] at q
  cases q
  have l1 := tw'.len
  have l2 := th'.len
  rw [List.length_append, th.len] at l2
  rw [tw.len] at l1
  have : n + 1 = m := l2
  omega
omit th
include n1
/-- the last number left out -/
theorem sp61 : NoNote ((row1 n ++ [10]) ++ (wordsL cWi w.dropLast ++ [10]) ++ (row3 h ++ [10])) := by
  rintro w' h' ⟨t, _⟩
  rw [tells_iff en1 (no_end (by decide)) en3] at t
  have q := t.2.1
  rw [behind_words (by decide) fun x hx => turn_fig n8 tw x (List.dropLast_subset _ hx)] at q
  cases q
  have q := t.1
  rw [bh1 n8, List.length_dropLast, tw.len] at q
  have : n = n - 1 := (List.cons.inj (Option.some.inj q)).1
  omega
omit tw n1 n8 in
theorem sp62 {ds : List Nat} : NoNote ((row1 n ++ [10]) ++ (wordsL cHe ds ++ [10]) ++ (row3 h ++ [10])) := by
  rintro w' h' ⟨t, _⟩
  rw [tells_iff en1 (no_end (by decide)) en3] at t
  have := t.2.1
  rw [behind_other (by decide) (by decide)] at this
  cases this
end
/-- four rows, or two -/
theorem sp1 {a b c d : List Nat} (ha : 10 ∉ a) (hb : 10 ∉ b) (hc : 10 ∉ c) (hd : 10 ∉ d) : NoNote ((a ++ [10]) ++ (b ++ [10]) ++ (c ++ [10]) ++ (d ++ [10])) := by
  rintro w h ⟨t, _⟩
  refine not_lines (ls := [a, b, c, d]) (w := w) (h := h) ?_ (by simp) (by simpa [List.append_assoc] using t)
  intro l hl
  simp only [List.mem_cons, List.not_mem_nil, or_false] at hl
  rcases hl with rfl | rfl | rfl | rfl <;> assumption
theorem sp2 {a b : List Nat} (ha : 10 ∉ a) (hb : 10 ∉ b) : NoNote ((a ++ [10]) ++ (b ++ [10])) := by
  rintro w h ⟨t, _⟩
  refine not_lines (ls := [a, b]) (w := w) (h := h) ?_ (by simp) (by simpa [List.append_assoc] using t)
  intro l hl
  simp only [List.mem_cons, List.not_mem_nil, or_false] at hl
  rcases hl with rfl | rfl <;> assumption
theorem sp3 {a b c : List Nat} (ha : 10 ∉ a) (hb : 10 ∉ b) (hc : 10 ∉ c) : NoNote ((a ++ [10]) ++ (b ++ [10]) ++ c) := fun _ _ t => not_ended ha hb hc t.1
theorem glue_split (c : Nat) : ∀ l, glueL [c] (splitL c l) = l
  | [] => rfl
  | x :: r => by
    have ih := glue_split c r
    obtain ⟨h, t, e⟩ := splitL_ne c r
    rw [e] at ih
    rw [splitL]
    by_cases q : x = c
    · rw [if_pos q, e]
      show [] ++ [c] ++ glueL [c] (h :: t) = _
      rw [ih, q]; rfl
    · rw [if_neg q, e]
      show glueL [c] ((x :: h) :: t) = _
      rw [glue_cons] at ih ⊢
      rw [List.cons_append, ih]
theorem nums_inv : ∀ {ws : List (List Nat)} {ds : List Nat}, nums ws = some ds → ws = ds.map fig ∧ ∀ d ∈ ds, d < 10
  | [], ds, h => by cases h; exact ⟨rfl, fun d z => by cases z⟩
  | x :: r, ds, h => by
    unfold nums at h
    cases q1 : numOf x with
    | none => rw [q1] at h; cases h
    | some d =>
      cases q2 : nums r with
      | none => rw [q1, q2] at h; cases h
      | some es =>
        rw [q1, q2] at h
        cases h
        obtain ⟨l, g⟩ := nums_inv q2
        match x, q1 with
        | [c], q1 =>
          have q1 : (if 48 ≤ c ∧ c ≤ 57 then some (c - 48) else none) = some d := q1
          by_cases q : 48 ≤ c ∧ c ≤ 57
          · rw [if_pos q] at q1
            cases q1
            refine ⟨?_, fun z hz => ?_⟩
            · rw [l, List.map_cons]
              congr 1
              show [c] = [48 + (c - 48)]
              congr 1; omega
            · rcases List.mem_cons.mp hz with rfl | hz
              · omega
              · exact g z hz
          · rw [if_neg q] at q1; cases q1
theorem behind_inv {nm l ds : List Nat} (h : behind nm l = some ds) : l = wordsL nm ds ∧ ∀ d ∈ ds, d < 10 := by
  obtain ⟨w0, ws, e⟩ := splitL_ne 32 l
  unfold behind at h
  rw [e] at h
  have h : (if w0 = nm then nums ws else none) = some ds := h
  by_cases q : w0 = nm
  · rw [if_pos q] at h
    obtain ⟨g, b⟩ := nums_inv h
    refine ⟨?_, b⟩
    unfold wordsL
    rw [← g, ← q, ← e, glue_split]
  · rw [if_neg q] at h; cases h


--CUT
/-! notes: written and read -/
theorem t_app (a b : List Nat) : txt a ++ txt b = txt (a ++ b) := by
  show (⟨a.toArray ++ b.toArray⟩ : Str) = ⟨(a ++ b).toArray⟩
  congr 1
  simp
theorem t_nil : ("" : Str) = txt [] := by decide +kernel
theorem t_bl : (" " : Str) = txt [32] := by decide +kernel
theorem t_nl : ("\n" : Str) = txt [10] := by decide +kernel
theorem s_bl : (" " : Str) = ⟨#[32]⟩ := by decide +kernel
theorem s_nl : ("\n" : Str) = ⟨#[10]⟩ := by decide +kernel
theorem t_cl : ("classes" : Str) = txt cCl := by decide +kernel
theorem t_wi : ("wives" : Str) = txt cWi := by decide +kernel
theorem t_he : ("heirs" : Str) = txt cHe := by decide +kernel
theorem txt_inj {a b : List Nat} (h : txt a = txt b) : a = b := by
  have := congrArg (fun s : Str => s.cps.toList) h
  simpa [txt_list] using this
abbrev SgT (l : List Nat) : Prop := ∀ x ∈ l, x < 16 ^ 8
theorem range_get {α : Type} (g : α → V) {f : Nat → V} : ∀ {xs : List α}, (∀ (j : Nat) y, xs[j]? = some y → f j = g y) → (List.range xs.length).map f = xs.map g := by
  intro xs h
  refine List.ext_getElem? fun j => ?_
  rw [List.getElem?_map, List.getElem?_map]
  by_cases hj : j < xs.length
  · rw [List.getElem?_range hj, List.getElem?_eq_getElem hj]
    show some (f j) = some (g xs[j])
    rw [h j xs[j] (List.getElem?_eq_getElem hj)]
  · rw [List.getElem?_eq_none (by rw [List.length_range]; omega), List.getElem?_eq_none (by omega)]
    rfl
theorem cutd (xs : List V) (k : Nat) (hk : k ≤ xs.length) : cutV xs (some (k : Int)) none = xs.drop k := by
  have sIx : HT.sIx xs.length 0 (some (k : Int)) = k := by
    unfold HT.sIx
    simp only
    split <;> omega
  unfold cutV
  rw [sIx, show HT.sIx xs.length xs.length none = xs.length from rfl]
  exact List.take_of_length_le (by rw [List.length_drop]; exact Nat.le_refl _)
/-- over a list of which one element raises, the ones before it don't -/
theorem comp_list_k {te : TEB} {fv : List (Str × Nat)} {σ : St} {K : PySem.W.Frag} {a : Addr} {xs : List V} {H1 : Hp} {Q : VK} (f : Nat → V) (k : Nat) (hk : k < xs.length) (hq : SqL K H1 a xs) (hn : xs.length ≤ sizeLine)
    (el : ∀ (i : Nat) (x : V) (H' : Hp) (R : VK), i < k → xs[i]? = some x → Same H1 H' → (∀ H2, Same H' H2 → R (f i) H2) → ∀ s₀ H₀ ex, te s₀ H₀ ex (blkS fv σ (some x)) H' R)
    (fin : ∀ (x : V) (H' : Hp) (R : VK), xs[k]? = some x → Same H1 H' → ∀ s₀ H₀ ex, te s₀ H₀ ex (blkS fv σ (some x)) H' R) : tCompJ fv te σ (Itl K a) H1 Q := by
  intro D hD
  have sd : ∀ {H2 : Hp} {o : HO}, Same H1 H2 → Same H1 (upd H2 D o) := fun {H2 o} s b u e => by
    rw [upd_ne (ne_of_none e hD)]; exact s b u e
  refine ⟨fun i m ys H => m = xs.length - i ∧ i ≤ k ∧ ys = (List.range i).map f ∧ Same H1 H ∧ H D = some (.lst ys), ⟨xs.length, by simp, Nat.zero_le _, rfl, sd (Same.refl H1), upd_same⟩, ?_⟩
  rintro i m ys H ⟨rfl, hi, rfl, sm, hDi⟩
  refine ⟨hDi, ?_⟩
  have hqi := sm.seq hq
  have hlt : i < xs.length := by omega
  refine .inr ⟨⟨xs, xs[i], hqi, by simp [hlt]⟩, by simpa using Nat.lt_of_lt_of_le hlt hn, fun x H' y => ?_⟩
  obtain ⟨e, y⟩ := y
  subst e
  by_cases hik : i = k
  · subst hik
    exact fun s₀ H₀ ex => fin x _ _ (y xs hqi) sm s₀ H₀ ex
  refine fun s₀ H₀ ex => el i x _ _ (by omega) (y xs hqi) sm (fun H2 s2 => ⟨s2 D _ hDi, xs.length - (i + 1), by omega, rfl, by omega, ?_, sd (sm.trans s2), upd_same⟩) s₀ H₀ ex
  rw [List.range_succ, List.map_append]
  rfl
theorem split_in {c : Nat} : ∀ {l x : List Nat}, x ∈ splitL c l → x.length ≤ l.length ∧ ∀ y ∈ x, y ∈ l
  | [], x, h => by
    have : x = [] := List.mem_singleton.mp h
    subst this
    exact ⟨Nat.le_refl _, fun y hy => hy⟩
  | z :: r, x, h => by
    obtain ⟨hd, t, e⟩ := splitL_ne c r
    unfold splitL at h
    by_cases q : z = c
    · rw [if_pos q] at h
      rcases List.mem_cons.mp h with rfl | h
      · exact ⟨Nat.zero_le _, fun y hy => by cases hy⟩
      · obtain ⟨h1, h2⟩ := split_in h
        exact ⟨Nat.le_succ_of_le h1, fun y hy => List.mem_cons_of_mem _ (h2 y hy)⟩
    · rw [if_neg q, e] at h
      rcases List.mem_cons.mp h with rfl | h
      · obtain ⟨h1, h2⟩ := split_in (c := c) (l := r) (x := hd) (by rw [e]; exact List.mem_cons_self)
        exact ⟨Nat.succ_le_succ h1, fun y hy => by
          rcases List.mem_cons.mp hy with rfl | hy
          · exact List.mem_cons_self
          · exact List.mem_cons_of_mem _ (h2 y hy)⟩
      · obtain ⟨h1, h2⟩ := split_in (c := c) (l := r) (x := x) (by rw [e]; exact List.mem_cons_of_mem _ h)
        exact ⟨Nat.le_succ_of_le h1, fun y hy => List.mem_cons_of_mem _ (h2 y hy)⟩
theorem nums_some : ∀ {ws : List (List Nat)} {ds : List Nat}, nums ws = some ds → ws.length = ds.length ∧ ∀ (j : Nat) x, ws[j]? = some x → ∃ d, ds[j]? = some d ∧ numOf x = some d
  | [], ds, h => by cases h; exact ⟨rfl, fun j x z => by cases z⟩
  | x :: r, ds, h => by
    unfold nums at h
    cases q1 : numOf x with
    | none => rw [q1] at h; cases h
    | some d =>
      cases q2 : nums r with
      | none => rw [q1, q2] at h; cases h
      | some es =>
        rw [q1, q2] at h
        cases h
        obtain ⟨l, g⟩ := nums_some q2
        refine ⟨congrArg Nat.succ l, fun j y z => ?_⟩
        cases j with
        | zero => cases z; exact ⟨d, rfl, q1⟩
        | succ j => exact g j y z
theorem nums_none : ∀ {ws : List (List Nat)}, nums ws = none → ∃ k x, ws[k]? = some x ∧ numOf x = none ∧ ∀ (i : Nat) y, i < k → ws[i]? = some y → ∃ d, numOf y = some d
  | [], h => by cases h
  | x :: r, h => by
    unfold nums at h
    cases q1 : numOf x with
    | none => exact ⟨0, x, rfl, q1, fun i y z => by omega⟩
    | some d =>
      cases q2 : nums r with
      | some es => rw [q1, q2] at h; cases h
      | none =>
        obtain ⟨k, y, e, n, b⟩ := nums_none q2
        refine ⟨k + 1, y, e, n, fun i z hi hz => ?_⟩
        cases i with
        | zero => cases hz; exact ⟨d, q1⟩
        | succ i => exact b i z (by omega) hz
theorem in_figs (c : Nat) : (!(!(Builtin.Str.occurrences ("0123456789" : Str) ⟨#[c]⟩ 0 ("0123456789" : Str).length 1).isEmpty)) = !decide (48 ≤ c ∧ c ≤ 57) := by
  rw [StrLaws.found_one]
  have e : ("0123456789" : Str).cps.toList = [48, 49, 50, 51, 52, 53, 54, 55, 56, 57] := by decide +kernel
  rw [e]
  congr 1
  rw [Bool.eq_iff_iff]
  simp only [decide_eq_true_eq, List.mem_cons, List.not_mem_nil, or_false]
  omega
def spRow : Sp := fun vs H Q _ => ∃ (nm ds : List Nat) (a : Addr), vs = [.str (txt nm), .ref a] ∧ H a = some (.lst (natL ds)) ∧ (∀ d ∈ ds, d < 10) ∧ nm.length ≤ 100 ∧ ds.length ≤ 20 ∧ ∀ H', Same H H' → Q (.str (txt (rowL nm ds))) H'
def spShown (C : Addr) : Sp := fun vs H Q _ => ∃ (p : Addr) (n : Nat) (w h : List Nat), vs = [.ref p] ∧ TableAt C H p n w h ∧ ∀ H', Same H H' → Q (.str (txt (noteL w h))) H'
def spNumber (e : Ad) : Sp := fun vs H Q E => ∃ l : List Nat, vs = [.str (txt l)] ∧ l.length ≤ 500 ∧ SgT l ∧ (∀ d, numOf l = some d → Q (nat d) H) ∧ (numOf l = none → E (.ref e.BadNote) none H)
def spBehind (e : Ad) : Sp := fun vs H Q E => ∃ nm l : List Nat, vs = [.str (txt nm), .str (txt l)] ∧ nm.length ≤ 100 ∧ l.length ≤ 500 ∧ SgT l ∧
  (∀ ds, behind nm l = some ds → ∀ D H', H D = none → Same H H' → H' D = some (.lst (natL ds)) → Q (.ref D) H') ∧ (behind nm l = none → ∀ H', Same H H' → E (.ref e.BadNote) none H')
def spRead (C : Addr) (e : Ad) : Sp := fun vs H Q E => ∃ l : List Nat, vs = [.str (txt l)] ∧ l.length ≤ 120 ∧ SgT l ∧
  (∀ w h, Note l w h → ∀ x H', H x = none → Same H H' → TableAt C H' x w.length w h → Q (.ref x) H') ∧ (NoNote l → ∀ H', Same H H' → E (.ref e.BadNote) none H')
section
variable {P : Program} {w : World} {K : PySem.W.Frag} {mg : Str → Option Value} {base : Heap} {CX : CXT} {C : Addr} {e : Ad}
theorem sc_lineof : FnScope ["name", "numbers"] ["name", "numbers"] (defScope (top 12)) := ⟨rfl, rfl, rfl, by decide +kernel, rfl, by decide +kernel, by decide +kernel⟩
theorem ok_lineof {f : Addr} {fd : FuncData} (F : Fun K "line_of" "line_of" (top 12) f fd) (T : Txt K mg C e) : FnOk P w K mg base CX 1 f fd ["name", "numbers"] spRow := by
  refine F.okN sc_lineof (fun vs H Q E h => ?_) (fun cdv A outer s H vs Q E hr h => ?_)
  · obtain ⟨nm, ds, a, rfl, _⟩ := h; rfl
  · obtain ⟨nm, ds, a, rfl, ga, d10, nl, dl, k⟩ := h
    have big : 4000 ≤ sizeLine := by decide
    refine ⟨_, (pss_one (ps_ret (pe_op op_add_str (pe_bm PySem.F.plainAttrs_str PySem.F.slot_str_join PySem.F.type_str_join mt_join pe_str (pa_cons (pe_op op_cat (pe_lst (pa_cons (pv 0) pa_nil)) (pe_comp (fv := []) ⟨rfl, by decide +kernel, rfl, by decide +kernel, rfl, by decide +kernel, trivial, rfl, rfl⟩ rfl (pi_list (pv 1)) (fun _ _ _ => (pe_callTy call_strI rfl T.z_str bt_str (pa_cons (pv 0) pa_nil))))) pa_nil)) pe_str))), ?_⟩
    refine ⟨rfl, _, rfl, one_fits, fun p hp => ?_⟩
    have s1 := same_new (o := .lst [V.str (txt nm)]) hp
    have g1 : (upd H p (.lst [V.str (txt nm)])) p = some (.lst [V.str (txt nm)]) := upd_same
    generalize upd H p (.lst [V.str (txt nm)]) = H1 at s1 g1
    refine ⟨_, rfl, a, rfl, ⟨_, SqL.of (s1 _ _ ga)⟩, ?_⟩
    refine comp_list (fun j => match ds[j]? with
      | some y => V.str (txt (fig y))
      | none => .non) (SqL.of (s1 _ _ ga)) (by rw [natL_len]; omega) (fun j v H' R hj sm kk _ _ _ => ?_) fun D3 H3 hD3 s3 g3 => ?_
    · obtain ⟨y, hy, rfl⟩ : ∃ y, ds[j]? = some y ∧ v = nat y := by
        unfold natL at hj
        rw [List.getElem?_map] at hj
        obtain ⟨y, hy, rfl⟩ := Option.map_eq_some_iff.mp hj
        exact ⟨y, hy, rfl⟩
      rw [hy] at kk
      exact ⟨_, rfl, y, rfl, d10 y (List.mem_of_getElem? hy), kk _ (Same.refl _)⟩
    rw [natL_len, range_get (fun y => V.str (txt (fig y))) (fun j y hy => by rw [hy])] at g3
    refine ⟨p, D3, _, _, rfl, rfl, s3 _ _ g1, g3, by rw [List.length_map]; show 1 + ds.length ≤ _; omega, fun D hD => ?_⟩
    refine ⟨[32], D, nm :: ds.map fig, congrArg V.str t_bl, rfl, ?_, ?_, ?_⟩
    · rw [upd_same, List.map_cons, List.map_map]; rfl
    · rw [List.map_cons, List.sum_cons, List.map_map]
      have : ∀ r : List Nat, (r.map ((fun l : List Nat => l.length + [32].length) ∘ fig)).sum = 2 * r.length := fun r => by
        induction r with
        | nil => rfl
        | cons x r ih => rw [List.map_cons, List.sum_cons, ih]; show 2 + 2 * r.length = 2 * (r.length + 1); omega
      rw [this]
      show nm.length + 1 + _ ≤ _
      omega
    · refine ⟨_, _, rfl, rfl, ?_, ?_⟩
      · rw [t_nl, txt_len, txt_len]
        have := words_len nm ds
        unfold wordsL at this
        rw [this]
        show _ + 1 ≤ _
        omega
      · rw [t_nl, t_app]
        exact k _ (s1.trans (s3.trans (same_new hD)))
theorem sc_shown : FnScope ["table"] ["table"] (defScope (top 13)) := ⟨rfl, rfl, rfl, by decide +kernel, rfl, by decide +kernel, by decide +kernel⟩
theorem ok_shown {f : Addr} {fd : FuncData} (F : Fun K "shown" "shown" (top 13) f fd) (T : Txt K mg C e) (hE : NoE CX) (D_line_of : Def P w K mg base CX "line_of" 1 ["name", "numbers"] spRow) (D_size : MDef P w K mg base CX C "size" 1 ["self"] (spSize C))
    (D_wives : MDef P w K mg base CX C "wives" 1 ["self"] (spList C fun w _ => w)) (D_heirs : MDef P w K mg base CX C "heirs" 1 ["self"] (spList C fun _ h => h)) : FnOk P w K mg base CX 2 f fd ["table"] (spShown C) := by
  refine F.okN sc_shown (fun vs H Q E h => ?_) (fun cdv A outer s H vs Q E hr h => ?_)
  · obtain ⟨p, n, w, h, rfl, _⟩ := h; rfl
  · obtain ⟨p, n, w', h', rfl, TA, k⟩ := h
    have big : 4000 ≤ sizeLine := by decide
    have n8 := TA.n8
    have wl := TA.tw.len
    have hl := TA.th.len
    obtain ⟨dx, a1, b1, c1, d1, e1, -, -, -, -⟩ := TA.ob
    have f1 : (flds a1 b1 c1 d1).lookup ("size" : Str) = none := flds_no _ _ _ _ (by decide +kernel) (by decide +kernel) (by decide +kernel) (by decide +kernel)
    have f2 : (flds a1 b1 c1 d1).lookup ("wives" : Str) = none := flds_no _ _ _ _ (by decide +kernel) (by decide +kernel) (by decide +kernel) (by decide +kernel)
    have f3 : (flds a1 b1 c1 d1).lookup ("heirs" : Str) = none := flds_no _ _ _ _ (by decide +kernel) (by decide +kernel) (by decide +kernel) (by decide +kernel)
    refine ⟨_, (pss_one (ps_ret (pe_op op_add_str (pe_op op_add_str (pe_callD D_line_of hE hr rfl (pa_cons pe_str (pa_cons (pe_lst (pa_cons (pe_methD0 (pv 0) T.cl_Table D_size hE hr) pa_nil)) pa_nil))) (pe_callD D_line_of hE hr rfl (pa_cons pe_str (pa_cons (pe_methD0 (pv 0) T.cl_Table D_wives hE hr) pa_nil)))) (pe_callD D_line_of hE hr rfl (pa_cons pe_str (pa_cons (pe_methD0 (pv 0) T.cl_Table D_heirs hE hr) pa_nil)))))), ?_⟩
    refine ⟨_, rfl, p, dx, _, rfl, e1, f1, p, n, w', h', rfl, TA, one_fits, fun L1 hL1 => ?_⟩
    have s1 := same_new (o := .lst [nat n]) hL1
    have g1 : (upd H L1 (.lst [nat n])) L1 = some (.lst (natL [n])) := upd_same
    generalize upd H L1 (.lst [nat n]) = H1 at s1 g1
    refine ⟨cCl, [n], L1, by rw [← t_cl]; rfl, g1, fun d hd => by rw [List.mem_singleton.mp hd]; omega, by decide, by show 1 ≤ 20; decide, fun H2 s2 => ?_⟩
    have s02 := s1.trans s2
    refine ⟨_, rfl, p, dx, _, rfl, s02 _ _ e1, f2, p, n, w', h', rfl, TA.same s02, fun L2 hL2 => ?_⟩
    have s3 := same_new (o := .lst (natL w')) hL2
    have g3 : (upd H2 L2 (.lst (natL w'))) L2 = some (.lst (natL w')) := upd_same
    generalize upd H2 L2 (.lst (natL w')) = H3 at s3 g3
    refine ⟨cWi, w', L2, by rw [← t_wi]; rfl, g3, turn_fig n8 TA.tw, by decide, by omega, fun H4 s4 => ?_⟩
    have s04 := s02.trans (s3.trans s4)
    refine ⟨_, _, rfl, rfl, ?_, ?_⟩
    · rw [txt_len, txt_len]
      unfold rowL
      rw [List.length_append, List.length_append, words_len, words_len, wl]
      show 7 + 2 * 1 + 1 + (5 + 2 * n + 1) ≤ _
      omega
    refine ⟨_, rfl, p, dx, _, rfl, s04 _ _ e1, f3, p, n, w', h', rfl, TA.same s04, fun L3 hL3 => ?_⟩
    have s5 := same_new (o := .lst (natL h')) hL3
    have g5 : (upd H4 L3 (.lst (natL h'))) L3 = some (.lst (natL h')) := upd_same
    generalize upd H4 L3 (.lst (natL h')) = H5 at s5 g5
    refine ⟨cHe, h', L3, by rw [← t_he]; rfl, g5, turn_fig n8 TA.th, by decide, by omega, fun H6 s6 => ?_⟩
    refine ⟨_, _, rfl, rfl, ?_, ?_⟩
    · rw [t_app, txt_len, txt_len, List.length_append]
      unfold rowL
      rw [List.length_append, List.length_append, List.length_append, words_len, words_len, words_len, wl, hl]
      show 7 + 2 * 1 + 1 + (5 + 2 * n + 1) + (5 + 2 * n + 1) ≤ _
      omega
    rw [t_app, t_app]
    have := k _ (s04.trans (s5.trans s6))
    unfold noteL at this
    rw [wl] at this
    exact this
theorem sc_number : FnScope ["word"] ["word"] (defScope (top 14)) := ⟨rfl, rfl, rfl, by decide +kernel, rfl, by decide +kernel, by decide +kernel⟩
theorem ok_number {f : Addr} {fd : FuncData} (F : Fun K "number_of" "number_of" (top 14) f fd) (T : Txt K mg C e) : FnOk P w K mg base (CXR P w) 1 f fd ["word"] (spNumber e) := by
  refine F.okX sc_number (fun vs H Q E h => ?_) (fun cdv A outer s H vs Q E hr hx h => ?_)
  · obtain ⟨l, rfl, _⟩ := h; rfl
  · obtain ⟨l, rfl, hl, hs, k, kE⟩ := h
    have big : 2000000 ≤ sizeLine := by decide
    have rai : numOf l = none → _ := fun z => kE z
    refine ⟨_, (pss_cons (ps_if (PW.pt (pw_or (pt_cmpR op_ne (pe_callB call_len_str rfl T.z_len PySem.boot_len (pa_cons (pv 0) pa_nil)) pe_int (nomark _)) (pw_or1 (pt_cmpR op_notIn_str (pv 0) (pe_globE rfl T.g_FIGURES) (by with_unfolding_all rfl))))) (pss_one (ps_rais hx T.m_BadNote T.x_BadNote hr rfl (pa_cons (pe_join (pj_cst (pj_rep (pv 0) pj_nil))) pa_nil))) pss_nil)
      (pss_one (ps_ret (pe_callTy call_intS rfl T.z_int bt_int (pa_cons (pv 0) pa_nil))))), ?_⟩
    refine ⟨_, rfl, txt l, rfl, by rw [txt_len]; omega, rfl, _, rfl, ?_⟩
    rw [txt_len]
    by_cases h1 : l.length = 1
    rotate_left
    · have e1 : (!decide (V.int (l.length : Int) = V.int 1)) = true := by
        rw [decide_eq_false (fun z => h1 (by injection z with z; omega))]; rfl
      rw [e1]
      refine iteT (iteT ?_)
      exact ⟨by decide, _, rfl, _, rfl, by rw [txt_len]; omega, by rw [txt_list]; exact hs, by decide, by decide, fun _ => ⟨one_fits, kE (by match l, h1 with | [], _ => rfl | [_], z => exact absurd rfl z | _ :: _ :: _, _ => rfl)⟩⟩
    obtain ⟨c, rfl⟩ : ∃ c, l = [c] := List.length_eq_one_iff.mp h1
    refine iteF ?_
    refine ⟨_, rfl, _, _, rfl, rfl, _, rfl, ?_⟩
    have ef : (txt [c]) = (⟨#[c]⟩ : Str) := rfl
    rw [ef, in_figs]
    by_cases hc : 48 ≤ c ∧ c ≤ 57
    · rw [decide_eq_true hc]
      refine iteF ?_
      have q : numOf [c] = some (c - 48) := by
        show (if 48 ≤ c ∧ c ≤ 57 then some (c - 48) else none) = _
        rw [if_pos hc]
      exact ⟨_, rfl, c - 48, by show [V.str (txt [c])] = [V.str (txt [48 + (c - 48)])]; rw [show 48 + (c - 48) = c by omega], by omega, k _ q⟩
    · rw [decide_eq_false hc]
      refine iteT ?_
      exact ⟨by decide, _, rfl, _, rfl, by show 1 ≤ 1000; decide, by rw [txt_list]; exact hs, by decide, by decide, fun _ => ⟨one_fits, kE (by show (if 48 ≤ c ∧ c ≤ 57 then some (c - 48) else none) = _; rw [if_neg hc])⟩⟩
theorem sc_behind : FnScope ["name", "line", "words"] ["name", "line"] (defScope (top 15)) := ⟨rfl, rfl, rfl, by decide +kernel, rfl, by decide +kernel, by decide +kernel⟩
theorem ok_behind {f : Addr} {fd : FuncData} (F : Fun K "numbers_behind" "numbers_behind" (top 15) f fd) (T : Txt K mg C e) (D_number_of : Def P w K mg base (CXR P w) "number_of" 1 ["word"] (spNumber e)) : FnOk P w K mg base (CXR P w) 2 f fd ["name", "line"] (spBehind e) := by
  refine F.okX sc_behind (fun vs H Q E h => ?_) (fun cdv A outer s H vs Q E hr hx h => ?_)
  · obtain ⟨nm, l, rfl, _⟩ := h; rfl
  · obtain ⟨nm, l, rfl, nl, ll, hs, k, kE⟩ := h
    have nd := sc_behind.nd
    have big : 2000000 ≤ sizeLine := by decide
    refine ⟨_, (pss_cons (ps_set (i := 2) nd rfl (Or.inl rfl) (pe_bm PySem.F.plainAttrs_str PySem.F.slot_str_split PySem.F.type_str_split mt_split (pv 1) (pa_cons pe_str pa_nil)))
      (pss_cons (ps_if (pt_cmpR op_ne (pe_ix ix_list (pv 2) pe_int (fun _ _ => rfl)) (pv 0) (nomark _)) (pss_one (ps_rais hx T.m_BadNote T.x_BadNote hr rfl (pa_cons (pe_join (pj_cst (pj_str (pv 0) (pj_cst (pj_rep (pv 1) pj_nil))))) pa_nil))) pss_nil)
      (pss_one (ps_ret (pe_compX (fv := []) ⟨rfl, by decide +kernel, rfl, by decide +kernel, rfl, by decide +kernel, trivial, rfl, rfl⟩ rfl (pi_list (pe_slice sl_list (pv 2) (po_some pe_int) po_none)) exitsA (fun _ _ _ => (pe_callX D_number_of exitsB hr rfl (pa_cons (pv 0) pa_nil)))))))), ?_⟩
    refine ⟨_, rfl, rfl, l, 32, rfl, by rw [s_bl], by decide, by omega, fun D1 hD1 => ?_⟩
    obtain ⟨w0, ws, ew⟩ := splitL_ne 32 l
    have eb : behind nm l = if w0 = nm then nums ws else none := by unfold behind; rw [ew]
    have win : ∀ x ∈ ws, x.length ≤ 500 ∧ SgT x := fun x hx => by
      obtain ⟨h1, h2⟩ := split_in (c := 32) (l := l) (x := x) (by rw [ew]; exact List.mem_cons_of_mem _ hx)
      exact ⟨by omega, fun y hy => hs y (h2 y hy)⟩
    have wsl : ws.length ≤ 500 := by
      have := split_len (c := 32) l
      rw [ew, List.length_cons] at this
      omega
    rw [ew]
    have s1 := same_new (o := .lst ((w0 :: ws).map fun p => V.str (txt p))) hD1
    have g1 : (upd H D1 (.lst ((w0 :: ws).map fun p => V.str (txt p)))) D1 = some (.lst ((w0 :: ws).map fun p => V.str (txt p))) := upd_same
    generalize upd H D1 (.lst ((w0 :: ws).map fun p => V.str (txt p))) = H1 at s1 g1
    walk_at "ns"
    refine ⟨_, rfl, D1, _, 0, V.str (txt w0), rfl, rfl, SqL.of g1, atI_nat (j := 0) rfl, _, rfl, rfl, _, rfl, ?_⟩
    by_cases hn : w0 = nm
    rotate_left
    · have e1 : (!decide (V.str (txt w0) = V.str (txt nm))) = true := by
        rw [decide_eq_false (fun z => hn (txt_inj (by injection z)))]; rfl
      rw [e1]
      refine iteT ?_
      exact ⟨by decide, _, rfl, _, rfl, by rw [txt_len]; omega, by decide, by decide, _, rfl, _, rfl, by rw [txt_len]; omega, by rw [txt_list]; exact hs, by decide, by decide, fun _ => ⟨one_fits, kE (by rw [eb, if_neg hn]) _ s1⟩⟩
    subst hn
    have e1 : (!decide (V.str (txt w0) = V.str (txt w0))) = false := by rw [decide_eq_true rfl]; rfl
    rw [e1]
    rw [if_pos rfl] at eb
    refine iteF ?_
    refine ⟨_, rfl, _, rfl, D1, _, rfl, SqL.of g1, fun p hp => ?_⟩
    rw [show cutV ((w0 :: ws).map fun p => V.str (txt p)) (some 1) none = ws.map fun p => V.str (txt p) from cutd _ 1 (by rw [List.length_map, List.length_cons]; omega)]
    have s2 := s1.trans (same_new (o := .lst (ws.map fun p => V.str (txt p))) hp)
    have g2 : (upd H1 p (.lst (ws.map fun p => V.str (txt p)))) p = some (.lst (ws.map fun p => V.str (txt p))) := upd_same
    generalize upd H1 p (.lst (ws.map fun p => V.str (txt p))) = H2 at s2 g2
    refine ⟨p, rfl, ⟨_, SqL.of g2⟩, ?_⟩
    have get : ∀ {j : Nat} {v : V}, (ws.map fun p => V.str (txt p))[j]? = some v → ∃ y, ws[j]? = some y ∧ v = V.str (txt y) := fun {j v} hj => by
      rw [List.getElem?_map] at hj
      obtain ⟨y, hy, rfl⟩ := Option.map_eq_some_iff.mp hj
      exact ⟨y, hy, rfl⟩
    cases en : nums ws with
    | some ds =>
      obtain ⟨dl, dg⟩ := nums_some en
      refine comp_list (fun j => match ds[j]? with
        | some y => nat y
        | none => .non) (SqL.of g2) (by rw [List.length_map]; omega) (fun j v H' R hj sm kk _ _ _ => ?_) fun D3 H3 hD3 s3 g3 => ?_
      · obtain ⟨y, hy, rfl⟩ := get hj
        obtain ⟨d, hd, ny⟩ := dg j y hy
        rw [hd] at kk
        have wy := win y (List.mem_of_getElem? hy)
        exact ⟨_, rfl, y, rfl, wy.1, wy.2, fun d' hd' => by rw [ny] at hd'; cases hd'; exact kk _ (Same.refl _), fun z => by rw [ny] at z; cases z⟩
      · rw [List.length_map, dl, range_get nat (fun j y hy => by rw [hy])] at g3
        exact k ds (by rw [eb, en]) D3 _ (s2.free hD3) (s2.trans s3) g3
    | none =>
      obtain ⟨kk, x, hx', nx, bef⟩ := nums_none en
      have hk : kk < ws.length := (List.getElem?_eq_some_iff.mp hx').1
      refine comp_list_k (fun j => match ws[j]? with
        | some y => (match numOf y with | some d => nat d | none => .non)
        | none => .non) kk (by rw [List.length_map]; exact hk) (SqL.of g2) (by rw [List.length_map]; omega) (fun j v H' R hjk hj sm kx _ _ _ => ?_) fun v H' R hj sm _ _ _ => ?_
      · obtain ⟨y, hy, rfl⟩ := get hj
        obtain ⟨d, ny⟩ := bef j y hjk hy
        rw [hy] at kx
        simp only [ny] at kx
        have wy := win y (List.mem_of_getElem? hy)
        exact ⟨_, rfl, y, rfl, wy.1, wy.2, fun d' hd' => by rw [ny] at hd'; cases hd'; exact kx _ (Same.refl _), fun z => by rw [ny] at z; cases z⟩
      · obtain ⟨y, hy, rfl⟩ := get hj
        rw [hx'] at hy
        cases hy
        have wy := win x (List.mem_of_getElem? hx')
        exact ⟨_, rfl, x, rfl, wy.1, wy.2, (fun d' hd' => by rw [nx] at hd'; cases hd'), fun _ => kE (by rw [eb, en]) _ (s2.trans sm)⟩
theorem sc_read : FnScope ["text", "lines", "many", "wives", "heirs", "e"] ["text"] (defScope (top 16)) := ⟨rfl, rfl, rfl, by decide +kernel, rfl, by decide +kernel, by decide +kernel⟩
theorem ok_read {f : Addr} {fd : FuncData} (F : Fun K "read" "read" (top 16) f fd) (T : Txt K mg C e) (D_numbers_behind : Def P w K mg base (CXR P w) "numbers_behind" 2 ["name", "line"] (spBehind e)) (D_Table : CDef P w K mg base (CXR P w) "Table" C 2 ["self", "wives", "heirs"] (spInitX C e)) : FnOk P w K mg base (CXR P w) 4 f fd ["text"] (spRead C e) := by
  refine F.okX sc_read (fun vs H Q E h => ?_) (fun cdv A outer s H vs Q E hr hx h => ?_)
  · obtain ⟨l, rfl, _⟩ := h; rfl
  · obtain ⟨l, rfl, ll, hs, k, kE⟩ := h
    have nd := sc_read.nd
    have hu := hr.units0
    have big : 2000000 ≤ sizeLine := by decide
    refine ⟨_, (pss_cons (ps_set (i := 1) nd rfl (Or.inl rfl) (pe_bm PySem.F.plainAttrs_str PySem.F.slot_str_split PySem.F.type_str_split mt_split (pv 0) (pa_cons pe_str pa_nil)))
      (pss_cons (ps_if (PW.pt (pw_or (pt_cmpR op_ne (pe_callB call_len_seq rfl T.z_len PySem.boot_len (pa_cons (pv 1) pa_nil)) pe_int (nomark _)) (pw_or1 (pt_cmpR op_ne (pe_ix ix_list (pv 1) pe_int (fun _ _ => rfl)) pe_str (nomark _))))) (pss_one (ps_rais hx T.m_BadNote T.x_BadNote hr rfl (pa_cons (pe_join (pj_cst (pj_rep (pv 0) pj_nil))) pa_nil))) pss_nil)
      (pss_cons (ps_set (i := 2) nd rfl (Or.inl rfl) (pe_callX D_numbers_behind hx.s hr rfl (pa_cons pe_str (pa_cons (pe_ix ix_list (pv 1) pe_int (fun _ _ => rfl)) pa_nil))))
      (pss_cons (ps_set (i := 3) nd rfl (Or.inl rfl) (pe_callX D_numbers_behind hx.s hr rfl (pa_cons pe_str (pa_cons (pe_ix ix_list (pv 1) pe_int (fun _ _ => rfl)) pa_nil))))
      (pss_cons (ps_set (i := 4) nd rfl (Or.inl rfl) (pe_callX D_numbers_behind hx.s hr rfl (pa_cons pe_str (pa_cons (pe_ix ix_list (pv 1) pe_int (fun _ _ => rfl)) pa_nil))))
      (pss_cons (ps_if (pt_cmpR (op_neL hu) (pv 2) (pe_lst (pa_cons (pe_callB call_len_seq rfl T.z_len PySem.boot_len (pa_cons (pv 3) pa_nil)) pa_nil)) (nomark _)) (pss_one (ps_rais hx T.m_BadNote T.x_BadNote hr rfl (pa_cons (pe_join (pj_cst (pj_rep (pv 0) pj_nil))) pa_nil))) pss_nil)
      (pss_one (ps_tryR (i := 5) nd rfl rfl T.m_NoTable rfl T.x_NoTable T.m_BadNote T.x_BadNote exitsT' rfl (fun _ _ => (pss_one (ps_ret (pe_makeX D_Table exitsT hr rfl (pa_cons (pv 3) (pa_cons (pv 4) pa_nil)))))) (fun _ => (pa_cons (pe_join (pj_cst (pj_rep (pv 0) pj_nil))) pa_nil)))))))))), ?_⟩
    refine ⟨_, rfl, rfl, l, 10, rfl, by rw [s_nl], by decide, by omega, fun D1 hD1 => ?_⟩
    have slen := split_len (c := 10) l
    have win : ∀ x ∈ splitL 10 l, x.length ≤ 120 ∧ SgT x := fun x hx => by
      obtain ⟨h1, h2⟩ := split_in hx
      exact ⟨by omega, fun y hy => hs y (h2 y hy)⟩
    generalize es : splitL 10 l = ls at slen win
    have s1 := same_new (o := .lst (ls.map fun p => V.str (txt p))) hD1
    have g1 : (upd H D1 (.lst (ls.map fun p => V.str (txt p)))) D1 = some (.lst (ls.map fun p => V.str (txt p))) := upd_same
    generalize upd H D1 (.lst (ls.map fun p => V.str (txt p))) = H1 at s1 g1
    walk_at "ns"
    refine ⟨_, rfl, D1, _, rfl, .inl (SqL.of g1), rfl, _, rfl, ?_⟩
    rw [List.length_map]
    by_cases h4 : ls.length = 4
    rotate_left
    · have e1 : (!decide (V.int (ls.length : Int) = V.int 4)) = true := by
        rw [decide_eq_false (fun z => h4 (by injection z with z; omega))]; rfl
      rw [e1]
      refine iteT (iteT ?_)
      refine ⟨by decide, _, rfl, _, rfl, by rw [txt_len]; omega, by rw [txt_list]; exact hs, by decide, by decide, fun _ => ⟨one_fits, kE ?_ _ s1⟩⟩
      rintro w h ⟨⟨a, b, c, q, _⟩, _⟩
      rw [es] at q
      rw [q] at h4
      exact h4 rfl
    obtain ⟨la, lb, lc, ld, rfl⟩ : ∃ a b c d, ls = [a, b, c, d] := by
      match ls, h4 with
      | [a, b, c, d], _ => exact ⟨a, b, c, d, rfl⟩
    refine iteF ?_
    refine ⟨_, rfl, D1, _, 3, V.str (txt ld), rfl, rfl, SqL.of g1, atI_nat (j := 3) rfl, rfl, _, rfl, ?_⟩
    by_cases h0 : ld = []
    rotate_left
    · have e1 : (!decide (V.str (txt ld) = V.str ("" : Str))) = true := by
        rw [decide_eq_false (fun z => h0 (txt_inj (by rw [t_nil] at z; injection z)))]; rfl
      rw [e1]
      refine iteT ?_
      refine ⟨by decide, _, rfl, _, rfl, by rw [txt_len]; omega, by rw [txt_list]; exact hs, by decide, by decide, fun _ => ⟨one_fits, kE ?_ _ s1⟩⟩
      rintro w h ⟨⟨a, b, c, q, _⟩, _⟩
      rw [es] at q
      cases q
      exact h0 rfl
    subst h0
    have e1 : (!decide (V.str (txt []) = V.str ("" : Str))) = false := by rw [t_nil, decide_eq_true rfl]; rfl
    rw [e1]
    refine iteF ?_
    have wa := win la (by simp)
    have wb := win lb (by simp)
    have wc := win lc (by simp)
    have no : ∀ {w h : List Nat}, Tells l w h → behind cCl la = some [w.length] ∧ behind cWi lb = some w ∧ behind cHe lc = some h := by
      rintro w h ⟨a, b, c, q, r⟩
      rw [es] at q
      cases q
      exact r
    -- the three lines
    refine ⟨_, rfl, D1, _, 0, V.str (txt la), rfl, rfl, SqL.of g1, atI_nat (j := 0) rfl, cCl, la, by rw [← t_cl], by decide, Nat.le_trans wa.1 (by decide), wa.2, fun ms em D2 H2 hD2 s2 g2 => ?_, fun z H2 s2 => kE ?_ _ (s1.trans s2)⟩
    rotate_left
    · rintro w h ⟨t, _⟩
      have := (no t).1
      rw [z] at this; cases this
    have g1 := s2 _ _ g1
    have s2 := s1.trans s2
    walk_at "ns"
    refine ⟨_, rfl, D1, _, 1, V.str (txt lb), rfl, rfl, SqL.of g1, atI_nat (j := 1) rfl, cWi, lb, by rw [← t_wi], by decide, Nat.le_trans wb.1 (by decide), wb.2, fun ws ewv D3 H3 hD3 s3 g3 => ?_, fun z H3 s3 => kE ?_ _ (s2.trans s3)⟩
    rotate_left
    · rintro w h ⟨t, _⟩
      have := (no t).2.1
      rw [z] at this; cases this
    have g1 := s3 _ _ g1
    have g2 := s3 _ _ g2
    have s3 := s2.trans s3
    walk_at "ns"
    refine ⟨_, rfl, D1, _, 2, V.str (txt lc), rfl, rfl, SqL.of g1, atI_nat (j := 2) rfl, cHe, lc, by rw [← t_he], by decide, Nat.le_trans wc.1 (by decide), wc.2, fun hv ehv D4 H4 hD4 s4 g4 => ?_, fun z H4 s4 => kE ?_ _ (s3.trans s4)⟩
    rotate_left
    · rintro w h ⟨t, _⟩
      have := (no t).2.2
      rw [z] at this; cases this
    have g2 := s4 _ _ g2
    have g3 := s4 _ _ g3
    have s4 := s3.trans s4
    walk_at "ns"
    -- many != [len(wives)]
    refine ⟨_, rfl, _, rfl, D3, _, rfl, .inl (SqL.of g3), one_fits, fun p hp => ?_⟩
    rw [natL_len]
    have s5 := same_new (o := .lst [V.int (ws.length : Int)]) hp
    have g5 : (upd H4 p (.lst [V.int (ws.length : Int)])) p = some (.lst (natL [ws.length])) := upd_same
    generalize upd H4 p (.lst [V.int (ws.length : Int)]) = H5 at s5 g5
    have fl : ∀ w : List Nat, (natL w).all flatV = true := fun w => by unfold natL; rw [List.all_map]; exact List.all_eq_true.mpr fun _ _ => rfl
    refine ⟨D2, p, _, _, rfl, rfl, SqL.of (s5 _ _ g2), SqL.of g5, fl _, fl _, _, rfl, ?_⟩
    rw [natL_intL, natL_intL, eqVs_intL]
    have g3 := s5 _ _ g3
    have g4 := s5 _ _ g4
    have s5 := s4.trans s5
    by_cases hm : ms = [ws.length]
    rotate_left
    · rw [decide_eq_false (fun z => hm (intL_inj z))]
      refine iteT ?_
      refine ⟨by decide, _, rfl, _, rfl, by rw [txt_len]; omega, by rw [txt_list]; exact hs, by decide, by decide, fun _ => ⟨one_fits, kE ?_ _ s5⟩⟩
      rintro w h ⟨t, _⟩
      have q := no t
      rw [em, ewv] at q
      cases q.2.1
      exact hm (Option.some.inj q.1)
    subst hm
    rw [decide_eq_true rfl]
    refine iteF ?_
    have sm : ∀ {x y : List Nat} {nm}, behind nm y = some x → y.length ≤ 120 → Sm (intL x) := fun {x y nm} q yl => by
      obtain ⟨h1, h2⟩ := behind_inv q
      have h3 := words_len nm x
      rw [← h1] at h3
      refine ⟨by rw [intL_len]; omega, fun i hi => ?_⟩
      obtain ⟨c, hc, rfl⟩ := List.mem_map.mp hi
      have := h2 c hc
      have p9 : (10 : Nat) < 10 ^ 9 := by decide
      exact log_small (by show ((c : Nat) : Int).natAbs < 10 ^ 9; omega)
    intro pins
    refine ⟨_, rfl, _, rfl, fun x dx nx ndx nex => ?_⟩
    have sx : Same H5 (upd (upd H5 dx (.own x)) x (.ins C dx [])) := same_upd (same_new ndx) nx
    refine ⟨x, dx, D3, D4, intL ws, intL hv, rfl, upd_same, by rw [← natL_intL]; exact sx _ _ g3, by rw [← natL_intL]; exact sx _ _ g4, sm ewv wb.1, sm ehv wc.1, fun n w1 h1 ew1 eh1 tw th n1 n8 H6 kp TA => ⟨rfl, ?_⟩, fun ng H6 s6 => ⟨rfl, by decide, T.r_NoTable, by show 5 < 6; decide, fun a ha => ?_⟩⟩
    · cases intL_inj ew1
      cases intL_inj eh1
      have s6 : Same H5 H6 := fun b o q => kp b o (sx b o q) (ne_of_none q nx)
      have := TA H6 (fun c o q _ => q)
      exact k ws hv ⟨⟨la, lb, lc, es, em, ewv, ehv⟩, n, tw, th, n1, n8⟩ x H6 (s5.free nx) (s5.trans s6) (by rw [tw.len]; exact this)
    · have s7 := s5.trans (sx.trans (s6.trans (same_new ha (o := excO2 a (.ref e.NoTable)))))
      refine ⟨by decide, _, rfl, _, rfl, by rw [txt_len]; omega, by rw [txt_list]; exact hs, by decide, by decide, fun _ => ⟨one_fits, upd_same, kE ?_ _ s7⟩⟩
      rintro w h ⟨t, n, tw, th, n1, n8⟩
      have q := no t
      rw [ewv, ehv] at q
      cases q.2.1
      cases q.2.2
      exact ng ⟨n, _, _, rfl, rfl, tw, th, n1, n8⟩
end


--CUT
/-! the law's rows, spoiled in seven ways -/
abbrev TL (ls : List (List Nat)) : List V := ls.map fun l => V.str (txt l)
abbrev FR (l : List Nat) : Prop := l.length ≤ 26 ∧ SgT l
theorem words_in {nm ds : List Nat} {x : Nat} (h : x ∈ wordsL nm ds) : x ∈ nm ∨ x = 32 ∨ ∃ d ∈ ds, x = 48 + d := by
  unfold wordsL at h
  rw [glue_cons] at h
  rcases List.mem_append.mp h with z | z
  · exact .inl z
  · obtain ⟨y, hy, hz⟩ := List.mem_flatten.mp z
    obtain ⟨u, hu, rfl⟩ := List.mem_map.mp hy
    rcases List.mem_append.mp hz with q | q
    · exact .inr (.inl (List.mem_singleton.mp q))
    · obtain ⟨d, hd, rfl⟩ := List.mem_map.mp hu
      exact .inr (.inr ⟨d, hd, List.mem_singleton.mp q⟩)
theorem sg_words {nm ds : List Nat} (hn : ∀ x ∈ nm, x < 200) (hd : ∀ d ∈ ds, d < 10) : SgT (wordsL nm ds) := fun x hx => by
  have p : (200 : Nat) < 16 ^ 8 := by decide
  rcases words_in hx with z | z | ⟨d, z, q⟩
  · have := hn x z; omega
  · omega
  · have := hd d z; omega
theorem fr_row {nm ds : List Nat} (hn : ∀ x ∈ nm, x < 200) (nl : nm.length ≤ 7) (hd : ∀ d ∈ ds, d < 10) (dl : ds.length ≤ 9) : FR (rowL nm ds) := by
  have p : (200 : Nat) < 16 ^ 8 := by decide
  refine ⟨?_, fun x hx => ?_⟩
  · unfold rowL
    rw [List.length_append, words_len]
    show _ + 1 ≤ _
    omega
  · rcases List.mem_append.mp hx with z | z
    · exact sg_words hn hd x z
    · rw [List.mem_singleton.mp z]; omega
theorem fr_bad : ∀ l ∈ badL, FR (l ++ [10]) := by
  have h : ∀ l ∈ badL, (l ++ [10]).length ≤ 26 ∧ ∀ x ∈ l ++ [10], x < 200 := by decide
  have p : (200 : Nat) < 16 ^ 8 := by decide
  exact fun l hl => ⟨(h l hl).1, fun x hx => by have := (h l hl).2 x hx; omega⟩
theorem fit_sum : ∀ {ls : List (List Nat)}, (∀ l ∈ ls, FR l) → (ls.map fun l => l.length + ([] : List Nat).length).sum ≤ 26 * ls.length ∧ ls.flatten.length ≤ 26 * ls.length
  | [], _ => ⟨Nat.le_refl _, Nat.le_refl _⟩
  | l :: ls, h => by
    obtain ⟨a, b⟩ := fit_sum fun x hx => h x (List.mem_cons_of_mem _ hx)
    have := (h l List.mem_cons_self).1
    rw [List.map_cons, List.sum_cons, List.flatten_cons, List.length_append, List.length_cons]
    constructor
    · show l.length + 0 + _ ≤ _; omega
    · omega
theorem fit_sg {ls : List (List Nat)} (h : ∀ l ∈ ls, FR l) : SgT ls.flatten := fun x hx => by
  obtain ⟨l, hl, hz⟩ := List.mem_flatten.mp hx
  exact (h l hl).2 x hz
theorem cuTk (ls : List (List Nat)) (k : Nat) (hk : k ≤ ls.length) : cutV (TL ls) none (some (k : Int)) = TL (ls.take k) := by
  have sIx : HT.sIx (TL ls).length (TL ls).length (some (k : Int)) = k := by
    have : (TL ls).length = ls.length := List.length_map ..
    rw [this]
    unfold HT.sIx
    simp only
    split <;> omega
  unfold cutV
  rw [sIx, show HT.sIx (TL ls).length 0 none = 0 from rfl, List.drop_zero, Nat.sub_zero]
  exact (List.map_take ..).symm
theorem cuDr (ls : List (List Nat)) (k : Nat) (hk : k ≤ ls.length) : cutV (TL ls) (some (k : Int)) none = TL (ls.drop k) := by
  rw [cutd _ k (by rw [List.length_map]; exact hk)]
  exact (List.map_drop ..).symm
theorem sliceN (l : List Nat) (k : Nat) (k1 : 1 ≤ k) (hk : k ≤ l.length) : Txt.slice (txt l) none (some (-(k : Int))) = txt (l.take (l.length - k)) := by
  have h : Builtin.Str.strSliceIndices none (some (-(k : Int))) 1 l.length = sliceRange ((0 : Nat) : Int) ((l.length - k : Nat) : Int) 1 := by
    unfold Builtin.Str.strSliceIndices
    simp only [show (1 : Int) > 0 by decide, if_true]
    have e1 : -(k : Int) < 0 := by omega
    simp only [e1, if_true]
    congr 1
    omega
  have := slice_run l 0 (l.length - k) (Nat.zero_le _) (Nat.sub_le _ _) h
  rw [List.drop_zero, Nat.sub_zero] at this
  exact this
theorem cut1 (l : List Nat) : Txt.slice (txt (l ++ [10])) none (some (-1)) = txt l := by
  have := sliceN (l ++ [10]) 1 (Nat.le_refl _) (by rw [List.length_append]; exact Nat.le_add_left ..)
  have e : (l ++ [10]).length - 1 = l.length := by rw [List.length_append]; rfl
  rw [e, List.take_left' rfl] at this
  exact this
theorem cut3 (nm ds : List Nat) (hd : ds ≠ []) : Txt.slice (txt (rowL nm ds)) none (some (-3)) = txt (wordsL nm ds.dropLast) := by
  obtain ⟨r, d, rfl⟩ : ∃ r d, ds = r ++ [d] := ⟨ds.dropLast, ds.getLast hd, (List.dropLast_concat_getLast hd).symm⟩
  have e : rowL nm (r ++ [d]) = wordsL nm r ++ [32, 48 + d, 10] := by
    unfold rowL
    rw [words_snoc, List.append_assoc]; rfl
  rw [e, List.dropLast_concat]
  have := sliceN (wordsL nm r ++ [32, 48 + d, 10]) 3 (by decide) (by rw [List.length_append]; exact Nat.le_add_left ..)
  have e3 : (wordsL nm r ++ [32, 48 + d, 10]).length - 3 = (wordsL nm r).length := by rw [List.length_append]; rfl
  rw [e3, List.take_left' rfl] at this
  exact this
/-- the rows of a table -/
abbrev rows3 (n : Nat) (w h : List Nat) : List (List Nat) := [rowL cCl [n], rowL cWi w, rowL cHe h]
theorem flat2 {a b : List Nat} : (a ++ [10]) ++ (b ++ [10]) = [a ++ [10], b ++ [10]].flatten := by simp
theorem flat3 {a b c : List Nat} : (a ++ [10]) ++ (b ++ [10]) ++ (c ++ [10]) = [a ++ [10], b ++ [10], c ++ [10]].flatten := by simp
theorem flat4 {a b c d : List Nat} : (a ++ [10]) ++ (b ++ [10]) ++ (c ++ [10]) ++ (d ++ [10]) = [a ++ [10], b ++ [10], c ++ [10], d ++ [10]].flatten := by simp
/-- a text tells one table -/
theorem note_one {l w h w' h' : List Nat} (x : Note l w h) (y : Note l w' h') : w = w' ∧ h = h' := by
  obtain ⟨⟨a, b, c, q, _, r1, r2⟩, _⟩ := x
  obtain ⟨⟨a', b', c', q', _, r1', r2'⟩, _⟩ := y
  rw [q] at q'
  cases q'
  exact ⟨Option.some.inj (r1.symm.trans r1'), Option.some.inj (r2.symm.trans r2')⟩
def spBadLine : Sp := fun vs H Q _ => ∃ z : Int, vs = [.int z] ∧ ∀ b ∈ badL, ∀ H', Same H H' → Q (.str (txt (b ++ [10]))) H'
def spSpoiled : Sp := fun vs H Q _ => ∃ (a : Addr) (n : Nat) (w h : List Nat) (z : Int), vs = [.ref a, nat n, .int z] ∧ H a = some (.lst (TL (rows3 n w h))) ∧ IsTurn n w ∧ IsTurn n h ∧ 1 ≤ n ∧ n ≤ 8 ∧
  ∀ l H', NoNote l → l.length ≤ 120 → SgT l → Same H H' → Q (.str (txt l)) H'
def spRefusedN : Sp := fun vs H Q _ => ∃ l : List Nat, vs = [.str (txt l)] ∧ NoNote l ∧ l.length ≤ 120 ∧ SgT l ∧ ∀ H', Same H H' → Q (.bl true) H'
section
variable {P : Program} {w : World} {K : PySem.W.Frag} {mg : Str → Option Value} {base : Heap} {CX : CXT} {C : Addr} {e : Ad}
theorem sc_lrow : FnScope ["word", "numbers"] ["word", "numbers"] (defScope (top 22)) := ⟨rfl, rfl, rfl, by decide +kernel, rfl, by decide +kernel, by decide +kernel⟩
theorem ok_lrow {f : Addr} {fd : FuncData} (F : Fun K "_law_row" "_law_row" (top 22) f fd) (T : Txt K mg C e) : FnOk P w K mg base CX 1 f fd ["word", "numbers"] spRow := by
  refine F.okN sc_lrow (fun vs H Q E h => ?_) (fun cdv A outer s H vs Q E hr h => ?_)
  · obtain ⟨nm, ds, a, rfl, _⟩ := h; rfl
  · obtain ⟨nm, ds, a, rfl, ga, d10, nl, dl, k⟩ := h
    have big : 4000 ≤ sizeLine := by decide
    refine ⟨_, (pss_one (ps_ret (pe_op op_add_str (pe_bm PySem.F.plainAttrs_str PySem.F.slot_str_join PySem.F.type_str_join mt_join pe_str (pa_cons (pe_op op_cat (pe_lst (pa_cons (pv 0) pa_nil)) (pe_comp (fv := []) ⟨rfl, by decide +kernel, rfl, by decide +kernel, rfl, by decide +kernel, trivial, rfl, rfl⟩ rfl (pi_list (pv 1)) (fun _ _ _ => (pe_callTy call_strI rfl T.z_str bt_str (pa_cons (pv 0) pa_nil))))) pa_nil)) pe_str))), ?_⟩
    refine ⟨rfl, _, rfl, one_fits, fun p hp => ?_⟩
    have s1 := same_new (o := .lst [V.str (txt nm)]) hp
    have g1 : (upd H p (.lst [V.str (txt nm)])) p = some (.lst [V.str (txt nm)]) := upd_same
    generalize upd H p (.lst [V.str (txt nm)]) = H1 at s1 g1
    refine ⟨_, rfl, a, rfl, ⟨_, SqL.of (s1 _ _ ga)⟩, ?_⟩
    refine comp_list (fun j => match ds[j]? with
      | some y => V.str (txt (fig y))
      | none => .non) (SqL.of (s1 _ _ ga)) (by rw [natL_len]; omega) (fun j v H' R hj sm kk _ _ _ => ?_) fun D3 H3 hD3 s3 g3 => ?_
    · obtain ⟨y, hy, rfl⟩ : ∃ y, ds[j]? = some y ∧ v = nat y := by
        unfold natL at hj
        rw [List.getElem?_map] at hj
        obtain ⟨y, hy, rfl⟩ := Option.map_eq_some_iff.mp hj
        exact ⟨y, hy, rfl⟩
      rw [hy] at kk
      exact ⟨_, rfl, y, rfl, d10 y (List.mem_of_getElem? hy), kk _ (Same.refl _)⟩
    rw [natL_len, range_get (fun y => V.str (txt (fig y))) (fun j y hy => by rw [hy])] at g3
    refine ⟨p, D3, _, _, rfl, rfl, s3 _ _ g1, g3, by rw [List.length_map]; show 1 + ds.length ≤ _; omega, fun D hD => ?_⟩
    refine ⟨[32], D, nm :: ds.map fig, congrArg V.str t_bl, rfl, ?_, ?_, ?_⟩
    · rw [upd_same, List.map_cons, List.map_map]; rfl
    · rw [List.map_cons, List.sum_cons, List.map_map]
      have : ∀ r : List Nat, (r.map ((fun l : List Nat => l.length + [32].length) ∘ fig)).sum = 2 * r.length := fun r => by
        induction r with
        | nil => rfl
        | cons x r ih => rw [List.map_cons, List.sum_cons, ih]; show 2 + 2 * r.length = 2 * (r.length + 1); omega
      rw [this]
      show nm.length + 1 + _ ≤ _
      omega
    · refine ⟨_, _, rfl, rfl, ?_, ?_⟩
      · rw [t_nl, txt_len, txt_len]
        have := words_len nm ds
        unfold wordsL at this
        rw [this]
        show _ + 1 ≤ _
        omega
      · rw [t_nl, t_app]
        exact k _ (s1.trans (s3.trans (same_new hD)))
theorem sc_badline : FnScope ["cell", "some"] ["cell"] (defScope (top 24)) := ⟨rfl, rfl, rfl, by decide +kernel, rfl, by decide +kernel, by decide +kernel⟩
theorem ok_badline {f : Addr} {fd : FuncData} (F : Fun K "_law_bad_line" "_law_bad_line" (top 24) f fd) (T : Txt K mg C e) : FnOk P w K mg base CX 1 f fd ["cell"] spBadLine := by
  refine F.okN sc_badline (fun vs H Q E h => ?_) (fun cdv A outer s H vs Q E hr h => ?_)
  · obtain ⟨z, rfl, _⟩ := h; rfl
  · obtain ⟨z, rfl, k⟩ := h
    have nd := sc_badline.nd
    have big : 4000 ≤ sizeLine := by decide
    refine ⟨_, (pss_cons (ps_set (i := 1) nd rfl (Or.inl rfl) (pe_lst (pa_cons pe_str (pa_cons pe_str (pa_cons pe_str (pa_cons pe_str (pa_cons pe_str (pa_cons pe_str (pa_cons pe_str (pa_cons pe_str pa_nil))))))))))
      (pss_cons (ps_set (i := 1) nd rfl (Or.inl rfl) (pe_op op_cat (pv 1) (pe_lst (pa_cons pe_str (pa_cons pe_str (pa_cons pe_str (pa_cons pe_str (pa_cons pe_str (pa_cons pe_str (pa_cons pe_str pa_nil))))))))))
      (pss_cons (ps_set (i := 1) nd rfl (Or.inl rfl) (pe_op op_cat (pv 1) (pe_lst (pa_cons pe_str (pa_cons pe_str pa_nil)))))
      (pss_one (ps_ret (pe_op op_add_str (pe_ix ix_list (pv 1) (pe_op op_mod (pv 0) (pe_callB call_len_seq rfl T.z_len PySem.boot_len (pa_cons (pv 1) pa_nil))) (fun _ _ => rfl)) pe_str)))))), ?_⟩
    refine ⟨by show 8 ≤ sizeLine; omega, fun p1 h1 => ?_⟩
    walk_at "ns"
    refine ⟨_, rfl, by show 7 ≤ sizeLine; omega, fun p2 h2 => ⟨p1, p2, _, _, rfl, rfl, by rw [upd_ne (ne_of_none upd_same h2), upd_same], upd_same, by show 8 + 7 ≤ sizeLine; omega, fun p3 h3 => ?_⟩⟩
    walk_at "ns"
    refine ⟨_, rfl, by show 2 ≤ sizeLine; omega, fun p4 h4 => ⟨p3, p4, _, _, rfl, rfl, by rw [upd_ne (ne_of_none upd_same h4), upd_same], upd_same, by show 15 + 2 ≤ sizeLine; omega, fun p5 h5 => ?_⟩⟩
    walk_at "ns"
    refine ⟨_, rfl, _, rfl, _, rfl, p5, _, rfl, .inl (SqL.of upd_same), ?_⟩
    obtain ⟨q, hq, q17⟩ := emod_nat z (show 0 < 17 by decide)
    have hb : q < badL.length := q17
    refine ⟨_, _, rfl, rfl, (show (0 : Int) < 17 by decide), p5, _, _, V.str (txt badL[q]), rfl, rfl, SqL.of upd_same, ?_, ?_⟩
    · show atI _ (z % 17) = _
      rw [show z % 17 = (q : Int) from hq]
      refine Eq.trans (congrArg (fun l => atI l (q : Int)) (show _ = TL badL by decide +kernel)) (atI_nat ?_)
      rw [List.getElem?_map, List.getElem?_eq_getElem hb]; rfl
    · refine ⟨_, _, rfl, rfl, ?_, ?_⟩
      · have := (fr_bad _ (List.getElem_mem hb)).1
        rw [t_nl, txt_len, txt_len]
        rw [List.length_append] at this
        omega
      · rw [t_nl, t_app]
        exact k _ (List.getElem_mem hb) _ ((same_new h1).trans ((same_new h2).trans ((same_new h3).trans ((same_new h4).trans (same_new h5)))))
end


--CUT
/-! spoiled -/
section
variable {P : Program} {w : World} {K : PySem.W.Frag} {mg : Str → Option Value} {base : Heap} {CX : CXT} {C : Addr} {e : Ad}
theorem sc_spoiled : FnScope ["rows", "many", "cell", "at", "way", "longer"] ["rows", "many", "cell"] (defScope (top 25)) := ⟨rfl, rfl, rfl, by decide +kernel, rfl, by decide +kernel, by decide +kernel⟩
theorem ok_spoiled {f : Addr} {fd : FuncData} (F : Fun K "_law_spoiled" "_law_spoiled" (top 25) f fd) (T : Txt K mg C e) (hE : NoE CX) (D__law_bad_line : Def P w K mg base CX "_law_bad_line" 1 ["cell"] spBadLine) : FnOk P w K mg base CX 2 f fd ["rows", "many", "cell"] spSpoiled := by
  refine F.okN sc_spoiled (fun vs H Q E h => ?_) (fun cdv A outer s H vs Q E hr h => ?_)
  · obtain ⟨a, n, w, h, z, rfl, _⟩ := h; rfl
  · obtain ⟨a, n, w', h', z, rfl, ga, tw, th, n1, n8, k⟩ := h
    have nd := sc_spoiled.nd
    have big : 4000 ≤ sizeLine := by decide
    have wl := tw.len
    have hl := th.len
    have f1 : FR (rowL cCl [n]) := fr_row (by decide) (by decide) (fun d hd => by rw [List.mem_singleton.mp hd]; omega) (by show 1 ≤ 9; decide)
    have f2 : FR (rowL cWi w') := fr_row (by decide) (by decide) (turn_fig n8 tw) (by omega)
    have f3 : FR (rowL cHe h') := fr_row (by decide) (by decide) (turn_fig n8 th) (by omega)
    have f2' : FR (rowL cWi w'.dropLast) := fr_row (by decide) (by decide) (fun x hx => turn_fig n8 tw x (List.dropLast_subset _ hx)) (by rw [List.length_dropLast]; omega)
    have f3' : FR (rowL cHe h'.dropLast) := fr_row (by decide) (by decide) (fun x hx => turn_fig n8 th x (List.dropLast_subset _ hx)) (by rw [List.length_dropLast]; omega)
    have wne : w' ≠ [] := fun z => by rw [z] at wl; have : 0 = n := wl; omega
    have hne : h' ≠ [] := fun z => by rw [z] at hl; have : 0 = n := hl; omega
    have J : ∀ (D : Addr) (ls : List (List Nat)) (H' : Hp), H' D = some (.lst (TL ls)) → Same H H' → (∀ l ∈ ls, FR l) → ls.length ≤ 4 → NoNote ls.flatten → rJoin (.str "") [.ref D] H' Q := fun D ls H' g s f l4 no => by
      obtain ⟨b1, b2⟩ := fit_sum f
      refine ⟨[], D, ls, congrArg V.str t_nil, rfl, g, by omega, ?_⟩
      rw [glue_nil]
      exact k _ _ no (by omega) (fit_sg f) s
    refine ⟨_, (pss_cons (ps_set (i := 3) nd rfl (Or.inl rfl) (pe_op op_mod (pe_op op_fdiv (pv 2) pe_int) pe_int))
      (pss_cons (ps_set (i := 4) nd rfl (Or.inl rfl) (pe_op op_mod (pv 2) pe_int))
      (pss_cons (ps_if (pt_cmpR op_eq (pv 4) pe_int (nomark _)) (pss_one (ps_ret (pe_bm PySem.F.plainAttrs_str PySem.F.slot_str_join PySem.F.type_str_join mt_join pe_str (pa_cons (pe_op op_cat (pe_op op_cat (pe_slice sl_list (pv 0) po_none (po_some (pv 3))) (pe_lst (pa_cons (pe_callD D__law_bad_line hE hr rfl (pa_cons (pe_op op_fdiv (pv 2) pe_int) pa_nil)) pa_nil))) (pe_slice sl_list (pv 0) (po_some (pe_op op_add (pv 3) pe_int)) po_none)) pa_nil)))) pss_nil)
      (pss_cons (ps_if (pt_cmpR op_eq (pv 4) pe_int (nomark _)) (pss_one (ps_ret (pe_bm PySem.F.plainAttrs_str PySem.F.slot_str_join PySem.F.type_str_join mt_join pe_str (pa_cons (pe_op op_cat (pe_op op_cat (pe_slice sl_list (pv 0) po_none (po_some (pv 3))) (pe_lst (pa_cons (pe_ix ix_list (pv 0) (pv 3) (fun _ _ => rfl)) pa_nil))) (pe_slice sl_list (pv 0) (po_some (pv 3)) po_none)) pa_nil)))) pss_nil)
      (pss_cons (ps_if (pt_cmpR op_eq (pv 4) pe_int (nomark _)) (pss_one (ps_ret (pe_bm PySem.F.plainAttrs_str PySem.F.slot_str_join PySem.F.type_str_join mt_join pe_str (pa_cons (pe_op op_cat (pe_slice sl_list (pv 0) po_none (po_some (pv 3))) (pe_slice sl_list (pv 0) (po_some (pe_op op_add (pv 3) pe_int)) po_none)) pa_nil)))) pss_nil)
      (pss_cons (ps_if (pt_cmpR op_eq (pv 4) pe_int (nomark _)) (pss_one (ps_ret (pe_slice sl_str (pe_bm PySem.F.plainAttrs_str PySem.F.slot_str_join PySem.F.type_str_join mt_join pe_str (pa_cons (pv 0) pa_nil)) po_none (po_some (pe_un un_neg pe_int))))) pss_nil)
      (pss_cons (ps_if (pt_cmpR op_eq (pv 4) pe_int (nomark _)) (pss_one (ps_ret (pe_bm PySem.F.plainAttrs_str PySem.F.slot_str_join PySem.F.type_str_join mt_join pe_str (pa_cons (pe_lst (pa_cons (pe_ix ix_list (pv 0) pe_int (fun _ _ => rfl)) (pa_cons (pe_ix ix_list (pv 0) pe_int (fun _ _ => rfl)) (pa_cons (pe_ix ix_list (pv 0) pe_int (fun _ _ => rfl)) pa_nil)))) pa_nil)))) pss_nil)
      (pss_cons (ps_if (pt_cmpR op_eq (pv 4) pe_int (nomark _)) (pss_cons (ps_set (i := 5) nd rfl (Or.inl rfl) (pe_op op_add_str (pe_op op_add_str (pe_op op_add_str (pe_slice sl_str (pe_ix ix_list (pv 0) (pv 3) (fun _ _ => rfl)) po_none (po_some (pe_un un_neg pe_int))) pe_str) (pe_callTy call_strI rfl T.z_str bt_str (pa_cons (pe_op op_mod (pe_op op_fdiv (pv 2) pe_int) pe_int) pa_nil))) pe_str))
      (pss_one (ps_ret (pe_bm PySem.F.plainAttrs_str PySem.F.slot_str_join PySem.F.type_str_join mt_join pe_str (pa_cons (pe_op op_cat (pe_op op_cat (pe_slice sl_list (pv 0) po_none (po_some (pv 3))) (pe_lst (pa_cons (pv 5) pa_nil))) (pe_slice sl_list (pv 0) (po_some (pe_op op_add (pv 3) pe_int)) po_none)) pa_nil))))) pss_nil)
      (pss_one (ps_ret (pe_bm PySem.F.plainAttrs_str PySem.F.slot_str_join PySem.F.type_str_join mt_join pe_str (pa_cons (pe_lst (pa_cons (pe_ix ix_list (pv 0) pe_int (fun _ _ => rfl)) (pa_cons (pe_op op_add_str (pe_slice sl_str (pe_ix ix_list (pv 0) (pe_op op_add (pe_op op_mod (pv 3) pe_int) pe_int) (fun _ _ => rfl)) po_none (po_some (pe_un un_neg pe_int))) pe_str) (pa_cons (pe_ix ix_list (pv 0) pe_int (fun _ _ => rfl)) pa_nil)))) pa_nil)))))))))))), ?_⟩
    refine ⟨_, rfl, _, _, rfl, rfl, ⟨by decide, by decide⟩, _, _, rfl, rfl, (show (0 : Int) < 3 by decide), ?_⟩
    dsimp only
    obtain ⟨q, hq, q3⟩ : ∃ q : Nat, z / 7 % 3 = (q : Int) ∧ q < 3 := emod_nat (z / 7) (by decide)
    rw [hq]
    walk_at "ns"
    refine ⟨_, rfl, _, _, rfl, rfl, (show (0 : Int) < 7 by decide), ?_⟩
    dsimp only
    generalize z % 7 = wy
    walk_at "ns"
    have hat : ∃ nm ds, (rows3 n w' h')[q]? = some (rowL nm ds) ∧ FR (rowL nm ds) ∧ ((q = 0 ∧ nm = cCl ∧ ds = [n]) ∨ (q = 1 ∧ nm = cWi ∧ ds = w') ∨ (q = 2 ∧ nm = cHe ∧ ds = h')) := by
      have : q = 0 ∨ q = 1 ∨ q = 2 := by omega
      rcases this with rfl | rfl | rfl
      · exact ⟨_, _, rfl, f1, .inl ⟨rfl, rfl, rfl⟩⟩
      · exact ⟨_, _, rfl, f2, .inr (.inl ⟨rfl, rfl, rfl⟩)⟩
      · exact ⟨_, _, rfl, f3, .inr (.inr ⟨rfl, rfl, rfl⟩)⟩
    obtain ⟨nm, ds, hr', fr, er⟩ := hat
    generalize hrow : rowL nm ds = r at hr' fr
    have atq : atI (TL (rows3 n w' h')) (q : Int) = some (V.str (txt r)) := atI_nat (by rw [List.getElem?_map, hr']; rfl)
    have mem : ∀ {l : List Nat}, l ∈ rows3 n w' h' → FR l := fun {l} hl => by
      simp only [List.mem_cons, List.not_mem_nil, or_false] at hl
      rcases hl with rfl | rfl | rfl <;> assumption
    have add1 : (q : Int) + 1 = ((q + 1 : Nat) : Int) := by rw [Int.natCast_add]; rfl
    have l3 : (rows3 n w' h').length = 3 := rfl
    -- a bad line
    refine ⟨_, rfl, rfl, _, rfl, iteD2 (fun _ => ?_) (fun _ => ?_)⟩
    · refine ⟨rfl, _, rfl, _, rfl, _, rfl, a, _, rfl, SqL.of ga, fun p1 hp1 => ?_⟩
      rw [cuTk _ q (by omega)]
      have s1 := same_new (o := .lst (TL ((rows3 n w' h').take q))) hp1
      have g1 : (upd H p1 (.lst (TL ((rows3 n w' h').take q)))) p1 = some (.lst (TL ((rows3 n w' h').take q))) := upd_same
      generalize upd H p1 (.lst (TL ((rows3 n w' h').take q))) = H1 at s1 g1
      refine ⟨_, rfl, _, _, rfl, rfl, ⟨by decide, by decide⟩, _, rfl, fun b hb H2 s2 => ⟨one_fits, fun p2 hp2 => ?_⟩⟩
      have s3 := same_new (o := .lst [V.str (txt (b ++ [10]))]) hp2
      have g3 : (upd H2 p2 (.lst [V.str (txt (b ++ [10]))])) p2 = some (.lst (TL [b ++ [10]])) := upd_same
      generalize upd H2 p2 (.lst [V.str (txt (b ++ [10]))]) = H3 at s3 g3
      refine ⟨p1, p2, _, _, rfl, rfl, s3 _ _ (s2 _ _ g1), g3, by simp only [List.length_map, List.length_take]; show _ + 1 ≤ _; omega, fun p3 hp3 => ?_⟩
      rw [show TL ((rows3 n w' h').take q) ++ TL [b ++ [10]] = TL ((rows3 n w' h').take q ++ [b ++ [10]]) from (List.map_append ..).symm]
      have s4 := same_new (o := .lst (TL ((rows3 n w' h').take q ++ [b ++ [10]]))) hp3
      have g4 : (upd H3 p3 (.lst (TL ((rows3 n w' h').take q ++ [b ++ [10]])))) p3 = some (.lst (TL ((rows3 n w' h').take q ++ [b ++ [10]]))) := upd_same
      generalize upd H3 p3 (.lst (TL ((rows3 n w' h').take q ++ [b ++ [10]]))) = H4 at s4 g4
      have s04 := s1.trans (s2.trans (s3.trans s4))
      refine ⟨_, rfl, _, rfl, _, _, rfl, rfl, _, rfl, a, _, rfl, SqL.of (s04 _ _ ga), fun p4 hp4 => ?_⟩
      rw [add1, cuDr _ (q + 1) (by omega)]
      refine ⟨p3, p4, _, _, rfl, rfl, by rw [upd_ne (ne_of_none g4 hp4)]; exact g4, upd_same, by simp only [List.length_map, List.length_append, List.length_take, List.length_drop]; show _ + 1 + _ ≤ _; omega, fun p5 hp5 => J p5 ((rows3 n w' h').take q ++ [b ++ [10]] ++ (rows3 n w' h').drop (q + 1)) _ (by rw [upd_same]; exact congrArg (fun l => some (HO.lst l)) (List.map_append ..).symm) (s04.trans ((same_new hp4).trans (same_new hp5))) ?_ ?_ ?_⟩
      · intro l hl
        rcases List.mem_append.mp hl with x | x
        · rcases List.mem_append.mp x with x | x
          · exact mem (List.mem_of_mem_take x)
          · rw [List.mem_singleton.mp x]; exact fr_bad b hb
        · exact mem (List.mem_of_mem_drop x)
      · simp only [List.length_append, List.length_take, List.length_drop]
        show _ + 1 + _ ≤ _
        omega
      · have : q = 0 ∨ q = 1 ∨ q = 2 := by omega
        rcases this with rfl | rfl | rfl
        · exact flat3 ▸ sp01 hb
        · exact flat3 ▸ sp02 hb
        · exact flat3 ▸ sp03 hb
    -- a row twice
    refine ⟨_, rfl, rfl, _, rfl, iteD2 (fun _ => ?_) (fun _ => ?_)⟩
    · refine ⟨rfl, _, rfl, _, rfl, _, rfl, a, _, rfl, SqL.of ga, fun p1 hp1 => ?_⟩
      rw [cuTk _ q (by omega)]
      have s1 := same_new (o := .lst (TL ((rows3 n w' h').take q))) hp1
      have g1 : (upd H p1 (.lst (TL ((rows3 n w' h').take q)))) p1 = some (.lst (TL ((rows3 n w' h').take q))) := upd_same
      generalize upd H p1 (.lst (TL ((rows3 n w' h').take q))) = H1 at s1 g1
      refine ⟨_, rfl, _, rfl, a, _, _, _, rfl, rfl, SqL.of (s1 _ _ ga), atq, one_fits, fun p2 hp2 => ?_⟩
      have s3 := same_new (o := .lst [V.str (txt r)]) hp2
      have g3 : (upd H1 p2 (.lst [V.str (txt r)])) p2 = some (.lst (TL [r])) := upd_same
      generalize upd H1 p2 (.lst [V.str (txt r)]) = H3 at s3 g3
      refine ⟨p1, p2, _, _, rfl, rfl, s3 _ _ g1, g3, by simp only [List.length_map, List.length_take]; show _ + 1 ≤ _; omega, fun p3 hp3 => ?_⟩
      rw [show TL ((rows3 n w' h').take q) ++ TL [r] = TL ((rows3 n w' h').take q ++ [r]) from (List.map_append ..).symm]
      have s4 := same_new (o := .lst (TL ((rows3 n w' h').take q ++ [r]))) hp3
      have g4 : (upd H3 p3 (.lst (TL ((rows3 n w' h').take q ++ [r])))) p3 = some (.lst (TL ((rows3 n w' h').take q ++ [r]))) := upd_same
      generalize upd H3 p3 (.lst (TL ((rows3 n w' h').take q ++ [r]))) = H4 at s4 g4
      have s04 := s1.trans (s3.trans s4)
      refine ⟨_, rfl, _, rfl, _, rfl, a, _, rfl, SqL.of (s04 _ _ ga), fun p4 hp4 => ?_⟩
      rw [cuDr _ q (by omega)]
      refine ⟨p3, p4, _, _, rfl, rfl, by rw [upd_ne (ne_of_none g4 hp4)]; exact g4, upd_same, by simp only [List.length_map, List.length_append, List.length_take, List.length_drop]; show _ + 1 + _ ≤ _; omega, fun p5 hp5 => J p5 ((rows3 n w' h').take q ++ [r] ++ (rows3 n w' h').drop q) _ (by rw [upd_same]; exact congrArg (fun l => some (HO.lst l)) (List.map_append ..).symm) (s04.trans ((same_new hp4).trans (same_new hp5))) ?_ ?_ ?_⟩
      · intro l hl
        rcases List.mem_append.mp hl with x | x
        · rcases List.mem_append.mp x with x | x
          · exact mem (List.mem_of_mem_take x)
          · rw [List.mem_singleton.mp x]; exact fr
        · exact mem (List.mem_of_mem_drop x)
      · simp only [List.length_append, List.length_take, List.length_drop]
        show _ + 1 + _ ≤ _
        omega
      · have : q = 0 ∨ q = 1 ∨ q = 2 := by omega
        rcases this with rfl | rfl | rfl <;> cases hr'
        · exact flat4 ▸ sp1 en1 en1 en2 en3
        · exact flat4 ▸ sp1 en1 en2 en2 en3
        · exact flat4 ▸ sp1 en1 en2 en3 en3
    -- a row less
    refine ⟨_, rfl, rfl, _, rfl, iteD2 (fun _ => ?_) (fun _ => ?_)⟩
    · refine ⟨rfl, _, rfl, _, rfl, _, rfl, a, _, rfl, SqL.of ga, fun p1 hp1 => ?_⟩
      rw [cuTk _ q (by omega)]
      have s1 := same_new (o := .lst (TL ((rows3 n w' h').take q))) hp1
      have g1 : (upd H p1 (.lst (TL ((rows3 n w' h').take q)))) p1 = some (.lst (TL ((rows3 n w' h').take q))) := upd_same
      generalize upd H p1 (.lst (TL ((rows3 n w' h').take q))) = H1 at s1 g1
      refine ⟨_, rfl, _, rfl, _, _, rfl, rfl, _, rfl, a, _, rfl, SqL.of (s1 _ _ ga), fun p4 hp4 => ?_⟩
      rw [add1, cuDr _ (q + 1) (by omega)]
      refine ⟨p1, p4, _, _, rfl, rfl, by rw [upd_ne (ne_of_none g1 hp4)]; exact g1, upd_same, by simp only [List.length_map, List.length_take, List.length_drop]; omega, fun p5 hp5 => J p5 ((rows3 n w' h').take q ++ (rows3 n w' h').drop (q + 1)) _ (by rw [upd_same]; exact congrArg (fun l => some (HO.lst l)) (List.map_append ..).symm) (s1.trans ((same_new hp4).trans (same_new hp5))) ?_ ?_ ?_⟩
      · intro l hl
        rcases List.mem_append.mp hl with x | x
        · exact mem (List.mem_of_mem_take x)
        · exact mem (List.mem_of_mem_drop x)
      · simp only [List.length_append, List.length_take, List.length_drop]
        omega
      · have : q = 0 ∨ q = 1 ∨ q = 2 := by omega
        rcases this with rfl | rfl | rfl
        · exact flat2 ▸ sp2 en2 en3
        · exact flat2 ▸ sp2 en1 en3
        · exact flat2 ▸ sp2 en1 en2
    -- no end at the end
    refine ⟨_, rfl, rfl, _, rfl, iteD2 (fun _ => ?_) (fun _ => ?_)⟩
    · obtain ⟨b1, b2⟩ := fit_sum (ls := rows3 n w' h') fun l hl => mem hl
      have eT : (rows3 n w' h').flatten = (row1 n ++ [10] ++ (row2 w' ++ [10]) ++ row3 h') ++ [10] := by simp [rowL, List.append_assoc]
      have sg := fit_sg (ls := rows3 n w' h') fun l hl => mem hl
      refine ⟨rfl, _, rfl, [], a, rows3 n w' h', congrArg V.str t_nil, rfl, ga, by omega, _, rfl, _, rfl, _, rfl, ?_, ?_⟩
      · rw [txt_len, glue_nil]; omega
      · rw [glue_nil, eT]
        show Q (.str (Txt.slice (txt _) none (some (-1)))) H
        rw [cut1]
        rw [eT] at b2 sg
        rw [List.length_append] at b2
        exact k _ _ (sp3 en1 en2 en3) (by omega) (fun x hx => sg x (List.mem_append_left _ hx)) (Same.refl _)
    -- two rows exchanged
    refine ⟨_, rfl, rfl, _, rfl, iteD2 (fun _ => ?_) (fun _ => ?_)⟩
    · refine ⟨rfl, _, rfl, a, _, 1, _, rfl, rfl, SqL.of ga, atI_nat (j := 1) rfl, _, rfl, a, _, 0, _, rfl, rfl, SqL.of ga, atI_nat (j := 0) rfl, _, rfl, a, _, 2, _, rfl, rfl, SqL.of ga, atI_nat (j := 2) rfl, by show 3 ≤ sizeLine; omega, fun p hp => J p [rowL cWi w', rowL cCl [n], rowL cHe h'] _ upd_same (same_new hp) ?_ (by show 3 ≤ 4; decide) (flat3 ▸ sp4)⟩
      intro l hl
      simp only [List.mem_cons, List.not_mem_nil, or_false] at hl
      rcases hl with rfl | rfl | rfl <;> assumption
    -- a number more
    refine ⟨_, rfl, rfl, _, rfl, iteD2 (fun _ => ?_) (fun _ => ?_)⟩
    · subst hrow
      refine ⟨_, rfl, _, rfl, a, _, _, _, rfl, rfl, SqL.of ga, atq, _, rfl, _, rfl, _, rfl, by rw [txt_len]; have := fr.1; omega, ?_⟩
      rw [show Txt.slice (txt (rowL nm ds)) none (some (-1)) = txt (wordsL nm ds) from cut1 _]
      have len := fr.1
      unfold rowL at len
      rw [List.length_append] at len
      refine ⟨_, _, rfl, rfl, by rw [t_bl, txt_len, txt_len]; show _ + 1 ≤ _; omega, ?_⟩
      rw [t_bl, t_app]
      obtain ⟨d, hd, d10⟩ : ∃ d : Nat, z / 21 % 10 = (d : Int) ∧ d < 10 := emod_nat (z / 21) (by decide)
      refine ⟨_, rfl, _, _, rfl, rfl, ⟨by decide, by decide⟩, _, _, rfl, rfl, (show (0 : Int) < 10 by decide), d, by show [V.int (z / 21 % 10)] = [nat d]; rw [hd], d10, ?_⟩
      refine ⟨_, _, rfl, rfl, by rw [txt_len, txt_len, List.length_append]; show _ + 1 + 1 ≤ _; omega, ?_⟩
      rw [t_app]
      refine ⟨_, _, rfl, rfl, by rw [t_nl, txt_len, txt_len, List.length_append, List.length_append]; show _ + 1 + 1 + 1 ≤ _; omega, ?_⟩
      rw [t_nl, t_app]
      have eR : wordsL nm ds ++ [32] ++ [48 + d] ++ [10] = rowL nm (ds ++ [d]) := by
        unfold rowL
        rw [words_snoc]; simp
      rw [eR]
      walk_at "ns"
      refine ⟨rfl, _, rfl, _, rfl, _, rfl, a, _, rfl, SqL.of ga, fun p1 hp1 => ?_⟩
      rw [cuTk _ q (by omega)]
      have s1 := same_new (o := .lst (TL ((rows3 n w' h').take q))) hp1
      have g1 : (upd H p1 (.lst (TL ((rows3 n w' h').take q)))) p1 = some (.lst (TL ((rows3 n w' h').take q))) := upd_same
      generalize upd H p1 (.lst (TL ((rows3 n w' h').take q))) = H1 at s1 g1
      refine ⟨_, rfl, one_fits, fun p2 hp2 => ?_⟩
      have s3 := same_new (o := .lst [V.str (txt (rowL nm (ds ++ [d])))]) hp2
      have g3 : (upd H1 p2 (.lst [V.str (txt (rowL nm (ds ++ [d])))])) p2 = some (.lst (TL [rowL nm (ds ++ [d])])) := upd_same
      generalize upd H1 p2 (.lst [V.str (txt (rowL nm (ds ++ [d])))]) = H3 at s3 g3
      refine ⟨p1, p2, _, _, rfl, rfl, s3 _ _ g1, g3, by simp only [List.length_map, List.length_take]; show _ + 1 ≤ _; omega, fun p3 hp3 => ?_⟩
      rw [show TL ((rows3 n w' h').take q) ++ TL [rowL nm (ds ++ [d])] = TL ((rows3 n w' h').take q ++ [rowL nm (ds ++ [d])]) from (List.map_append ..).symm]
      have s4 := same_new (o := .lst (TL ((rows3 n w' h').take q ++ [rowL nm (ds ++ [d])]))) hp3
      have g4 : (upd H3 p3 (.lst (TL ((rows3 n w' h').take q ++ [rowL nm (ds ++ [d])])))) p3 = some (.lst (TL ((rows3 n w' h').take q ++ [rowL nm (ds ++ [d])]))) := upd_same
      generalize upd H3 p3 (.lst (TL ((rows3 n w' h').take q ++ [rowL nm (ds ++ [d])]))) = H4 at s4 g4
      have s04 := s1.trans (s3.trans s4)
      refine ⟨_, rfl, _, rfl, _, _, rfl, rfl, _, rfl, a, _, rfl, SqL.of (s04 _ _ ga), fun p4 hp4 => ?_⟩
      rw [add1, cuDr _ (q + 1) (by omega)]
      have more : FR (rowL nm (ds ++ [d])) ∧ NoNote ((rows3 n w' h').take q ++ [rowL nm (ds ++ [d])] ++ (rows3 n w' h').drop (q + 1)).flatten := by
        have dd : ∀ {v : List Nat}, (∀ x ∈ v, x < 10) → ∀ x ∈ v ++ [d], x < 10 := fun {v} hv x hx => by
          rcases List.mem_append.mp hx with y | y
          · exact hv x y
          · rw [List.mem_singleton.mp y]; exact d10
        rcases er with ⟨rfl, rfl, rfl⟩ | ⟨rfl, rfl, rfl⟩ | ⟨rfl, rfl, rfl⟩
        · exact ⟨fr_row (by decide) (by decide) (dd fun x hx => by rw [List.mem_singleton.mp hx]; omega) (by show 2 ≤ 9; decide), flat3 ▸ sp51 n8 d10⟩
        · exact ⟨fr_row (by decide) (by decide) (dd (turn_fig n8 tw)) (by rw [List.length_append]; show _ + 1 ≤ 9; omega), flat3 ▸ sp52 tw n8 d10⟩
        · exact ⟨fr_row (by decide) (by decide) (dd (turn_fig n8 th)) (by rw [List.length_append]; show _ + 1 ≤ 9; omega), flat3 ▸ sp53 tw th n8 d10⟩
      refine ⟨p3, p4, _, _, rfl, rfl, by rw [upd_ne (ne_of_none g4 hp4)]; exact g4, upd_same, by simp only [List.length_map, List.length_append, List.length_take, List.length_drop]; show _ + 1 + _ ≤ _; omega, fun p5 hp5 => J p5 ((rows3 n w' h').take q ++ [rowL nm (ds ++ [d])] ++ (rows3 n w' h').drop (q + 1)) _ (by rw [upd_same]; exact congrArg (fun l => some (HO.lst l)) (List.map_append ..).symm) (s04.trans ((same_new hp4).trans (same_new hp5))) ?_ ?_ more.2⟩
      · intro l hl
        rcases List.mem_append.mp hl with x | x
        · rcases List.mem_append.mp x with x | x
          · exact mem (List.mem_of_mem_take x)
          · rw [List.mem_singleton.mp x]; exact more.1
        · exact mem (List.mem_of_mem_drop x)
      · simp only [List.length_append, List.length_take, List.length_drop]
        show _ + 1 + _ ≤ _
        omega
    -- a number less, or the heirs' row in the wives' place
    have lst : ∃ (j : Nat) (nm ds : List Nat), (q : Int) % 2 + 1 = (j : Int) ∧ (rows3 n w' h')[j]? = some (rowL nm ds) ∧ ds ≠ [] ∧ FR (rowL nm ds) ∧ FR (rowL nm ds.dropLast) ∧ NoNote [rowL cCl [n], rowL nm ds.dropLast, rowL cHe h'].flatten := by
      have : q = 0 ∨ q = 1 ∨ q = 2 := by omega
      rcases this with rfl | rfl | rfl
      · exact ⟨1, cWi, w', rfl, rfl, wne, f2, f2', flat3 ▸ sp61 tw n1 n8⟩
      · exact ⟨2, cHe, h', rfl, rfl, hne, f3, f3', flat3 ▸ sp62⟩
      · exact ⟨1, cWi, w', rfl, rfl, wne, f2, f2', flat3 ▸ sp61 tw n1 n8⟩
    obtain ⟨j, nm2, ds2, hj, hj2, dne, fj, fj', noj⟩ := lst
    have lenj := fj'.1
    unfold rowL at lenj
    rw [List.length_append] at lenj
    refine ⟨rfl, _, rfl, a, _, 0, _, rfl, rfl, SqL.of ga, atI_nat (j := 0) rfl, _, rfl, _, rfl, _, _, rfl, rfl, (show (0 : Int) < 2 by decide), _, _, rfl, rfl, a, _, _, V.str (txt (rowL nm2 ds2)), rfl, rfl, SqL.of ga, ?_, _, rfl, _, rfl, _, rfl, by rw [txt_len]; have := fj.1; omega, ?_⟩
    · show atI _ ((q : Int) % 2 + 1) = _
      rw [hj]
      exact atI_nat (by rw [List.getElem?_map, hj2]; rfl)
    rw [show Txt.slice (txt (rowL nm2 ds2)) none (some (-3)) = txt (wordsL nm2 ds2.dropLast) from cut3 _ _ dne]
    refine ⟨_, _, rfl, rfl, by rw [t_nl, txt_len, txt_len]; show _ + 1 ≤ _; omega, ?_⟩
    rw [t_nl, t_app]
    refine ⟨_, rfl, a, _, 2, _, rfl, rfl, SqL.of ga, atI_nat (j := 2) rfl, by show 3 ≤ sizeLine; omega, fun p hp => J p [rowL cCl [n], rowL nm2 ds2.dropLast, rowL cHe h'] _ upd_same (same_new hp) ?_ (by show 3 ≤ 4; decide) noj⟩
    intro l hl
    simp only [List.mem_cons, List.not_mem_nil, or_false] at hl
    rcases hl with rfl | rfl | rfl <;> assumption
end


--CUT
/-! the law -/
section
variable {P : Program} {w : World} {K : PySem.W.Frag} {mg : Str → Option Value} {base : Heap} {CX : CXT} {C : Addr} {e : Ad}
theorem sc_refusedn : FnScope ["text", "marks", "e"] ["text"] (defScope (top 23)) := ⟨rfl, rfl, rfl, by decide +kernel, rfl, by decide +kernel, by decide +kernel⟩
theorem ok_refusedn {f : Addr} {fd : FuncData} (F : Fun K "_law_refused" "_law_refused" (top 23) f fd) (T : Txt K mg C e) (D_read : Def P w K mg base (CXR P w) "read" 4 ["text"] (spRead C e)) : FnOk P w K mg base (CXR P w) 5 f fd ["text"] spRefusedN := by
  refine F.okN sc_refusedn (fun vs H Q E h => ?_) (fun cdv A outer s H vs Q E hr h => ?_)
  · obtain ⟨l, rfl, _⟩ := h; rfl
  · obtain ⟨l, rfl, no, ll, hs, k⟩ := h
    have nd := sc_refusedn.nd
    have hu := hr.units0
    refine ⟨_, (pss_cons (ps_set (i := 1) nd rfl (Or.inl rfl) (pe_lst pa_nil))
      (pss_cons (ps_try (i := 2) nd rfl rfl T.m_KinError rfl (fun _ _ => (pss_one (ps_expr (pe_callX D_read exitsT hr rfl (pa_cons (pv 0) pa_nil))))) (fun _ => (pss_one (ps_set (i := 1) nd rfl (Or.inl rfl) (pe_lst (pa_cons (pe_callB call_isinstX rfl T.z_isinstance bt_isinstance (pa_cons (pv 2) (pa_cons (pe_globC rfl T.m_BadNote) pa_nil))) (pa_cons (pe_callB call_isinstX rfl T.z_isinstance bt_isinstance (pa_cons (pv 2) (pa_cons (pe_bltn (v := .ty "ValueError") rfl T.z_ValueError bt_ValueError rfl) pa_nil))) (pa_cons (pe_callB call_isinstX rfl T.z_isinstance bt_isinstance (pa_cons (pv 2) (pa_cons (pe_globC rfl T.m_NoTable) pa_nil))) pa_nil))))))))
      (pss_one (ps_ret (pe_cmpR (op_eqL hu) (pv 1) (pe_lst (pa_cons pe_bl (pa_cons pe_bl (pa_cons pe_bl pa_nil)))) (nomark _)))))), ?_⟩
    refine ⟨by decide, fun D0 hD0 => ?_⟩
    have s0 : Same H (upd H D0 (.lst [])) := same_new hD0
    generalize upd H D0 (.lst []) = H0 at s0
    intro _
    refine ⟨_, rfl, l, rfl, ll, hs, fun w h z => absurd z (no w h), fun _ H1 s1 => ⟨T.w_BadNote, fun a ha => ?_⟩⟩
    exact ⟨_, rfl, a, _, _, _, _, rfl, upd_same, rfl, T.c_BadNote, T.k_BadNote_BadNote, _, rfl, a, _, _, _, _, rfl, upd_same, rfl, T.c_BadNote, T.v_BadNote, _, rfl, a, _, _, _, _, rfl, upd_same, rfl, T.c_BadNote, T.k_BadNote_NoTable, by decide, fun D hD => ⟨_, rfl, by decide, fun p hp => ⟨D, p, [.bl true, .bl true, .bl false], _, rfl, rfl, SqL.of (by rw [upd_ne (ne_of_none upd_same hp), upd_same]), SqL.of upd_same, rfl, rfl, k _ (s0.trans (s1.trans ((same_new ha).trans ((same_new hD).trans (same_new hp)))))⟩⟩⟩
/-! ### the law -/
theorem sc_law : FnScope ["script", "many", "wives", "heirs", "rows", "found", "cell", "again"] ["script"] (defScope (top 26)) := ⟨rfl, rfl, rfl, by decide +kernel, rfl, by decide +kernel, by decide +kernel⟩
theorem ok_law {f : Addr} {fd : FuncData} (F : Fun K "law" "law" (top 26) f fd) (T : Txt K mg C e) (hE : NoE (CXR P w))
    (D__law_cell_at : Def P w K mg base (CXR P w) "_law_cell_at" 1 ["script", "k"] (spCellAt K)) (D__law_turn_by : Def P w K mg base (CXR P w) "_law_turn_by" 1 ["cell", "many"] spTurnBy) (D__law_row : Def P w K mg base (CXR P w) "_law_row" 1 ["word", "numbers"] spRow)
    (D_shown : Def P w K mg base (CXR P w) "shown" 2 ["table"] (spShown C)) (D_Table : CDef P w K mg base (CXR P w) "Table" C 2 ["self", "wives", "heirs"] (spInitX C e)) (D__law_refused : Def P w K mg base (CXR P w) "_law_refused" 5 ["text"] spRefusedN) (D__law_spoiled : Def P w K mg base (CXR P w) "_law_spoiled" 2 ["rows", "many", "cell"] spSpoiled)
    (D_read : Def P w K mg base (CXR P w) "read" 4 ["text"] (spRead C e)) (D__law_same_numbers : Def P w K mg base (CXR P w) "_law_same_numbers" 2 ["found", "due"] spSameN)
    (D_wives : MDef P w K mg base (CXR P w) C "wives" 1 ["self"] (spList C fun w _ => w)) (D_heirs : MDef P w K mg base (CXR P w) C "heirs" 1 ["self"] (spList C fun _ h => h)) :
    FnOk P w K mg base (CXR P w) 6 f fd ["script"] (spLaw K) := by
  refine F.okN sc_law (fun vs H Q E h => ?_) (fun cdv A outer s H vs Q E hr h => ?_)
  · obtain ⟨a, ns, rfl, _⟩ := h; rfl
  · obtain ⟨a, ns, rfl, _, hS, k⟩ := h
    have nd := sc_law.nd
    have hu := hr.units0
    have big : 4000 ≤ sizeLine := by decide
    have D_Table := D_Table.imp (initN (e := e))
    refine ⟨_, (pss_cons (ps_set (i := 1) nd rfl (Or.inl rfl) (pe_op op_add pe_int (pe_op op_mod (pe_callD D__law_cell_at hE hr rfl (pa_cons (pv 0) (pa_cons pe_int pa_nil))) pe_int)))
      (pss_cons (ps_set (i := 2) nd rfl (Or.inl rfl) (pe_callD D__law_turn_by hE hr rfl (pa_cons (pe_callD D__law_cell_at hE hr rfl (pa_cons (pv 0) (pa_cons pe_int pa_nil))) (pa_cons (pv 1) pa_nil))))
      (pss_cons (ps_set (i := 3) nd rfl (Or.inl rfl) (pe_callD D__law_turn_by hE hr rfl (pa_cons (pe_callD D__law_cell_at hE hr rfl (pa_cons (pv 0) (pa_cons pe_int pa_nil))) (pa_cons (pv 1) pa_nil))))
      (pss_cons (ps_set (i := 4) nd rfl (Or.inl rfl) (pe_lst (pa_cons (pe_callD D__law_row hE hr rfl (pa_cons pe_str (pa_cons (pe_lst (pa_cons (pv 1) pa_nil)) pa_nil))) (pa_cons (pe_callD D__law_row hE hr rfl (pa_cons pe_str (pa_cons (pv 2) pa_nil))) (pa_cons (pe_callD D__law_row hE hr rfl (pa_cons pe_str (pa_cons (pv 3) pa_nil))) pa_nil)))))
      (pss_cons (ps_set (i := 5) nd rfl (Or.inl rfl) (pe_callD D_shown hE hr rfl (pa_cons (pe_makeD D_Table hE hr rfl (pa_cons (pv 2) (pa_cons (pv 3) pa_nil))) pa_nil)))
      (pss_cons (ps_if (PW.pt (pw_or (pt_not (pt_val (pe_callB call_isinst rfl T.z_isinstance bt_isinstance (pa_cons (pv 5) (pa_cons (pe_bltn (v := .ty "str") rfl T.z_str bt_str rfl) pa_nil))))) (pw_or1 (pt_cmpR op_ne (pv 5) (pe_bm PySem.F.plainAttrs_str PySem.F.slot_str_join PySem.F.type_str_join mt_join pe_str (pa_cons (pv 4) pa_nil)) (nomark _))))) (pss_one (ps_ret pe_bl)) pss_nil)
      (pss_cons (ps_set (i := 6) nd rfl (Or.inl rfl) (pe_callD D__law_cell_at hE hr rfl (pa_cons (pv 0) (pa_cons pe_int pa_nil))))
      (pss_cons (ps_if (pt_cmpR op_eq (pe_op op_mod (pv 6) pe_int) pe_int (nomark _)) (pss_one (ps_ret (pe_callD D__law_refused hE hr rfl (pa_cons (pe_callD D__law_spoiled hE hr rfl (pa_cons (pv 4) (pa_cons (pv 1) (pa_cons (pe_op op_fdiv (pv 6) pe_int) pa_nil)))) pa_nil)))) pss_nil)
      (pss_cons (ps_set (i := 7) nd rfl (Or.inl rfl) (pe_callD D_read hE hr rfl (pa_cons (pe_bm PySem.F.plainAttrs_str PySem.F.slot_str_join PySem.F.type_str_join mt_join pe_str (pa_cons (pv 4) pa_nil)) pa_nil)))
      (pss_one (ps_ret (pe_and (pe_callD D__law_same_numbers hE hr rfl (pa_cons (pe_methD0 (pv 7) T.cl_Table D_wives hE hr) (pa_cons (pv 2) pa_nil))) (pe_one (pe_callD D__law_same_numbers hE hr rfl (pa_cons (pe_methD0 (pv 7) T.cl_Table D_heirs hE hr) (pa_cons (pv 3) pa_nil)))))))))))))))), ?_⟩
    -- many
    refine ⟨_, rfl, a, ns, 0, rfl, hS, fun z0 => ⟨_, _, rfl, rfl, (show (0 : Int) < 8 by decide), _, _, rfl, rfl, ?_⟩⟩
    dsimp only
    obtain ⟨n, hn, n1, n8⟩ : ∃ n : Nat, 1 + z0 % 8 = (n : Int) ∧ 1 ≤ n ∧ n ≤ 8 := ⟨(1 + z0 % 8).toNat, by omega, by omega, by omega⟩
    rw [hn]
    walk_at "ns"
    -- wives, heirs
    refine ⟨_, rfl, a, ns, 1, rfl, hS, fun z1 => ⟨_, rfl, z1, n, rfl, n8, fun wv D1 H1 tw hD1 s1 hl1 => ?_⟩⟩
    refine ⟨_, rfl, a, ns, 2, rfl, s1.seq hS, fun z2 => ⟨_, rfl, z2, n, rfl, n8, fun hv D2 H2 th hD2 s2 hl2 => ?_⟩⟩
    have s02 := s1.trans s2
    have hl12 := s2 _ _ hl1
    have wl := tw.len
    have hl := th.len
    walk_at "ns"
    -- rows
    refine ⟨_, rfl, one_fits, fun L1 hL1 => ?_⟩
    have t1 := same_new (o := .lst [nat n]) hL1
    have u1 : (upd H2 L1 (.lst [nat n])) L1 = some (.lst (natL [n])) := upd_same
    generalize upd H2 L1 (.lst [nat n]) = G1 at t1 u1
    refine ⟨cCl, [n], L1, by rw [← t_cl]; rfl, u1, fun d hd => by rw [List.mem_singleton.mp hd]; omega, by decide, by show 1 ≤ 20; decide, fun G2 t2 => ?_⟩
    refine ⟨_, rfl, cWi, wv, D1, by rw [← t_wi]; rfl, t2 _ _ (t1 _ _ hl12), turn_fig n8 tw, by decide, by omega, fun G3 t3 => ?_⟩
    refine ⟨_, rfl, cHe, hv, D2, by rw [← t_he]; rfl, t3 _ _ (t2 _ _ (t1 _ _ hl2)), turn_fig n8 th, by decide, by omega, fun G4 t4 => ⟨by show 3 ≤ sizeLine; omega, fun R hR => ?_⟩⟩
    have t5 := same_new (o := .lst [V.str (txt (rowL cCl [n])), V.str (txt (rowL cWi wv)), V.str (txt (rowL cHe hv))]) hR
    have u5 : (upd G4 R (.lst [V.str (txt (rowL cCl [n])), V.str (txt (rowL cWi wv)), V.str (txt (rowL cHe hv))])) R = some (.lst (TL (rows3 n wv hv))) := upd_same
    have s2R : Same H2 (upd G4 R (.lst [V.str (txt (rowL cCl [n])), V.str (txt (rowL cWi wv)), V.str (txt (rowL cHe hv))])) := t1.trans (t2.trans (t3.trans (t4.trans t5)))
    generalize upd G4 R (.lst [V.str (txt (rowL cCl [n])), V.str (txt (rowL cWi wv)), V.str (txt (rowL cHe hv))]) = H3 at u5 s2R
    walk_at "ns"
    -- found
    refine ⟨_, rfl, _, rfl, ?_⟩
    intro x dx nx ndx nex
    have sx : Same H3 (upd (upd H3 dx (.own x)) x (.ins C dx [])) := same_upd (same_new ndx) nx
    refine ⟨x, dx, D1, D2, wv, hv, n, rfl, upd_same, sx _ _ (s2R _ _ hl12), sx _ _ (s2R _ _ hl2), tw, th, n1, n8, fun H4 kp TA => ⟨rfl, x, n, wv, hv, rfl, TA, fun H5 s5 => ?_⟩⟩
    have s3 : Same H3 H4 := fun b o e => kp b o (sx b o e) (ne_of_none e nx)
    have s35 := s3.trans s5
    have u5 := s35 _ _ u5
    have s05 := s02.trans (s2R.trans s35)
    have w5 := s35 _ _ (s2R _ _ hl12)
    have h5 := s35 _ _ (s2R _ _ hl2)
    have f1 : FR (rowL cCl [n]) := fr_row (by decide) (by decide) (fun d hd => by rw [List.mem_singleton.mp hd]; omega) (by show 1 ≤ 9; decide)
    have f2 : FR (rowL cWi wv) := fr_row (by decide) (by decide) (turn_fig n8 tw) (by omega)
    have f3 : FR (rowL cHe hv) := fr_row (by decide) (by decide) (turn_fig n8 th) (by omega)
    have mem : ∀ l ∈ rows3 n wv hv, FR l := fun l hl => by
      simp only [List.mem_cons, List.not_mem_nil, or_false] at hl
      rcases hl with rfl | rfl | rfl <;> assumption
    obtain ⟨b1, b2⟩ := fit_sum mem
    have sg := fit_sg mem
    have l3 : (rows3 n wv hv).length = 3 := rfl
    have eN : (rows3 n wv hv).flatten = noteL wv hv := by
      unfold noteL
      rw [wl]
      simp [rowL, List.append_assoc]
    walk_at "ns"
    -- if not isinstance(found, str) or found != "".join(rows)
    refine ⟨_, rfl, V.str _, "str", _, true, rfl, TyOf.str _, kit_same, _, rfl, iteF ?_⟩
    refine ⟨_, rfl, rfl, _, rfl, [], R, rows3 n wv hv, congrArg V.str t_nil, rfl, u5, by omega, rfl, _, rfl, ?_⟩
    rw [glue_nil, eN]
    have e1 : (!decide (V.str (txt (noteL wv hv)) = V.str (txt (noteL wv hv)))) = false := by rw [decide_eq_true rfl]; rfl
    rw [e1]
    refine iteF ?_
    -- cell
    refine ⟨_, rfl, a, ns, 3, rfl, s05.seq hS, fun z => ?_⟩
    walk_at "ns"
    refine ⟨_, rfl, _, _, rfl, rfl, (show (0 : Int) < 2 by decide), rfl, _, rfl, iteD2 (fun _ => ?_) (fun _ => ?_)⟩
    · exact ⟨_, rfl, _, rfl, _, rfl, _, _, rfl, rfl, ⟨by decide, by decide⟩, R, n, wv, hv, _, rfl, u5, tw, th, n1, n8, fun l H6 no ll ls s6 => ⟨l, rfl, no, ll, ls, fun H7 _ => k H7⟩⟩
    refine ⟨rfl, _, rfl, [], R, rows3 n wv hv, congrArg V.str t_nil, rfl, u5, by omega, ?_⟩
    rw [glue_nil]
    have ng := note_good tw th n1 n8
    refine ⟨_, rfl, by omega, sg, fun w2 h2 nt y H6 hy s6 TA6 => ?_, fun no => absurd (by rw [eN]; exact ng) (no wv hv)⟩
    rw [eN] at nt
    obtain ⟨rfl, rfl⟩ : w2 = wv ∧ h2 = hv := note_one nt ng
    rw [wl] at TA6
    obtain ⟨dy, a1, b1, c1, d1, e1, -, -, -, -⟩ := TA6.ob
    have g5 : (flds a1 b1 c1 d1).lookup ("wives" : Str) = none := flds_no _ _ _ _ (by decide +kernel) (by decide +kernel) (by decide +kernel) (by decide +kernel)
    have g6 : (flds a1 b1 c1 d1).lookup ("heirs" : Str) = none := flds_no _ _ _ _ (by decide +kernel) (by decide +kernel) (by decide +kernel) (by decide +kernel)
    walk_at "ns"
    refine ⟨_, rfl, y, dy, _, rfl, e1, g5, y, n, w2, h2, rfl, TA6, fun P1 hP1 => ?_⟩
    have v1 := same_new (o := .lst (natL w2)) hP1
    have x1 : (upd H6 P1 (.lst (natL w2))) P1 = some (.lst (natL w2)) := upd_same
    generalize upd H6 P1 (.lst (natL w2)) = H7 at v1 x1
    have s67 := s6.trans v1
    refine ⟨_, rfl, P1, D1, intL w2, intL w2, rfl, by rw [← natL_intL]; exact x1, by rw [← natL_intL]; exact s67 _ _ w5, by rw [intL_len]; omega, _, rfl, ?_⟩
    rw [decide_eq_true rfl]
    refine iteT ?_
    refine ⟨_, rfl, y, dy, _, rfl, v1 _ _ e1, g6, y, n, w2, h2, rfl, TA6.same v1, fun P2 hP2 => ?_⟩
    have v2 := same_new (o := .lst (natL h2)) hP2
    have x2 : (upd H7 P2 (.lst (natL h2))) P2 = some (.lst (natL h2)) := upd_same
    generalize upd H7 P2 (.lst (natL h2)) = H8 at v2 x2
    refine ⟨_, rfl, P2, D2, intL h2, intL h2, rfl, by rw [← natL_intL]; exact x2, by rw [← natL_intL]; exact v2 _ _ (s67 _ _ h5), by rw [intL_len]; omega, ?_⟩
    rw [decide_eq_true rfl]
    exact k _
end


set_option maxHeartbeats 0 in
theorem all_mk {l : PySem.W.OpenLaw} {w : World} {K : PySem.W.Frag} {h : Heap} {mg : Str → Option Value} {fa : Addr} (X : K.In h) (G : h.Ns mainGlobals mg) (hfa : mg "law" = some (.ref fa))
    {a_KinError : Addr}
    {a_NoTable : Addr}
    {a_BadNote : Addr}
    {a_Table : Addr}
    {oc_d__law_cell_at kV_d__law_cell_at dc_d__law_cell_at pm_d__law_cell_at cd_d__law_cell_at ct_d__law_cell_at : Value} {od_d__law_cell_at an_d__law_cell_at : Option Addr} {sl_d__law_cell_at : Array (Option Value)} {f_d__law_cell_at : Addr}
    {oc_d__law_turn_by kV_d__law_turn_by dc_d__law_turn_by pm_d__law_turn_by cd_d__law_turn_by ct_d__law_turn_by : Value} {od_d__law_turn_by an_d__law_turn_by : Option Addr} {sl_d__law_turn_by : Array (Option Value)} {f_d__law_turn_by : Addr}
    {oc_d__law_row kV_d__law_row dc_d__law_row pm_d__law_row cd_d__law_row ct_d__law_row : Value} {od_d__law_row an_d__law_row : Option Addr} {sl_d__law_row : Array (Option Value)} {f_d__law_row : Addr}
    {oc_d_line_of kV_d_line_of dc_d_line_of pm_d_line_of cd_d_line_of ct_d_line_of : Value} {od_d_line_of an_d_line_of : Option Addr} {sl_d_line_of : Array (Option Value)} {f_d_line_of : Addr}
    {oc_m_size kV_m_size dc_m_size pm_m_size cd_m_size ct_m_size : Value} {od_m_size an_m_size : Option Addr} {sl_m_size : Array (Option Value)} {f_m_size : Addr}
    {oc_m_wives kV_m_wives dc_m_wives pm_m_wives cd_m_wives ct_m_wives : Value} {od_m_wives an_m_wives : Option Addr} {sl_m_wives : Array (Option Value)} {f_m_wives : Addr}
    {oc_m_heirs kV_m_heirs dc_m_heirs pm_m_heirs cd_m_heirs ct_m_heirs : Value} {od_m_heirs an_m_heirs : Option Addr} {sl_m_heirs : Array (Option Value)} {f_m_heirs : Addr}
    {oc_d_shown kV_d_shown dc_d_shown pm_d_shown cd_d_shown ct_d_shown : Value} {od_d_shown an_d_shown : Option Addr} {sl_d_shown : Array (Option Value)} {f_d_shown : Addr}
    {oc_d_is_turn kV_d_is_turn dc_d_is_turn pm_d_is_turn cd_d_is_turn ct_d_is_turn : Value} {od_d_is_turn an_d_is_turn : Option Addr} {sl_d_is_turn : Array (Option Value)} {f_d_is_turn : Addr}
    {oc_d_turned_back kV_d_turned_back dc_d_turned_back pm_d_turned_back cd_d_turned_back ct_d_turned_back : Value} {od_d_turned_back an_d_turned_back : Option Addr} {sl_d_turned_back : Array (Option Value)} {f_d_turned_back : Addr}
    {oc_m_Table___init__ kV_m_Table___init__ dc_m_Table___init__ pm_m_Table___init__ cd_m_Table___init__ ct_m_Table___init__ : Value} {od_m_Table___init__ an_m_Table___init__ : Option Addr} {sl_m_Table___init__ : Array (Option Value)} {f_m_Table___init__ : Addr}
    {oc_d_number_of kV_d_number_of dc_d_number_of pm_d_number_of cd_d_number_of ct_d_number_of : Value} {od_d_number_of an_d_number_of : Option Addr} {sl_d_number_of : Array (Option Value)} {f_d_number_of : Addr}
    {oc_d_numbers_behind kV_d_numbers_behind dc_d_numbers_behind pm_d_numbers_behind cd_d_numbers_behind ct_d_numbers_behind : Value} {od_d_numbers_behind an_d_numbers_behind : Option Addr} {sl_d_numbers_behind : Array (Option Value)} {f_d_numbers_behind : Addr}
    {oc_d_read kV_d_read dc_d_read pm_d_read cd_d_read ct_d_read : Value} {od_d_read an_d_read : Option Addr} {sl_d_read : Array (Option Value)} {f_d_read : Addr}
    {oc_d__law_refused kV_d__law_refused dc_d__law_refused pm_d__law_refused cd_d__law_refused ct_d__law_refused : Value} {od_d__law_refused an_d__law_refused : Option Addr} {sl_d__law_refused : Array (Option Value)} {f_d__law_refused : Addr}
    {oc_d__law_bad_line kV_d__law_bad_line dc_d__law_bad_line pm_d__law_bad_line cd_d__law_bad_line ct_d__law_bad_line : Value} {od_d__law_bad_line an_d__law_bad_line : Option Addr} {sl_d__law_bad_line : Array (Option Value)} {f_d__law_bad_line : Addr}
    {oc_d__law_spoiled kV_d__law_spoiled dc_d__law_spoiled pm_d__law_spoiled cd_d__law_spoiled ct_d__law_spoiled : Value} {od_d__law_spoiled an_d__law_spoiled : Option Addr} {sl_d__law_spoiled : Array (Option Value)} {f_d__law_spoiled : Addr}
    {oc_d__law_whole kV_d__law_whole dc_d__law_whole pm_d__law_whole cd_d__law_whole ct_d__law_whole : Value} {od_d__law_whole an_d__law_whole : Option Addr} {sl_d__law_whole : Array (Option Value)} {f_d__law_whole : Addr}
    {oc_d__law_same_numbers kV_d__law_same_numbers dc_d__law_same_numbers pm_d__law_same_numbers cd_d__law_same_numbers ct_d__law_same_numbers : Value} {od_d__law_same_numbers an_d__law_same_numbers : Option Addr} {sl_d__law_same_numbers : Array (Option Value)} {f_d__law_same_numbers : Addr}
    {oc_d_law kV_d_law dc_d_law pm_d_law cd_d_law ct_d_law : Value} {od_d_law an_d_law : Option Addr} {sl_d_law : Array (Option Value)} {f_d_law : Addr}
    {t_MOST_CLASSES : Tok}
    {t_FIGURES : Tok}
    (b_KinError : PySem.W.nsIn K mainGlobals "KinError" = some (some (.ref a_KinError)))
    (b_NoTable : PySem.W.nsIn K mainGlobals "NoTable" = some (some (.ref a_NoTable)))
    (b_BadNote : PySem.W.nsIn K mainGlobals "BadNote" = some (some (.ref a_BadNote)))
    (b_Table : PySem.W.nsIn K mainGlobals "Table" = some (some (.ref a_Table)))
    (pg_Table : PySem.W.plainGet K a_Table Str.empty = true)
    (hd_Table : PySem.W.hasDictIn K a_Table = true)
    (po_Table : PySem.W.plainOver K a_Table = true)
    (sa_Table : PySem.W.findIn K (.ref a_Table) "__setattr__" = some (some (.builtin "object.__setattr__")))
    (mk_Table : PySem.W.makesIn K a_Table = true)
    (kc_Table : PySem.W.keepIn K (.ref a_Table) = true)
    (n_wife_turn : PySem.W.findIn K (.ref a_Table) "wife_turn" = some none)
    (n_heir_turn : PySem.W.findIn K (.ref a_Table) "heir_turn" = some none)
    (n_husband_turn : PySem.W.findIn K (.ref a_Table) "husband_turn" = some none)
    (n_father_turn : PySem.W.findIn K (.ref a_Table) "father_turn" = some none)
    (kd1 : PySem.W.specialIn K (.builtin "object.__class__") "__get__" = some (some (.builtin "getset_descriptor.__get__")))
    (kd2 : PySem.W.takesIn K (.builtin "object.__class__") = some true)
    (x_NoTable : PySem.W.excIn K a_NoTable bmVE "ValueError.__new__" = true)
    (c1_NoTable : PySem.W.isClsIn K a_NoTable = true)
    (c2_NoTable : PySem.W.findIn K (.ref a_NoTable) "__getattribute__" = some (some (.builtin "BaseException.__getattribute__")))
    (c3_NoTable : PySem.W.findIn K (.ref a_NoTable) "__getattr__" = some none)
    (c4_NoTable : PySem.W.findIn K (.ref a_NoTable) "__class__" = some (some (.builtin "object.__class__")))
    (c5_NoTable : PySem.W.mroIn K a_NoTable (.type "object") = some true)
    (c6_NoTable : PySem.W.mroIn K a_NoTable (.type "BaseException") = some true)
    (w_NoTable : PySem.W.exmOne K (.ref a_NoTable) (.ref a_KinError) = some true)
    (v_NoTable : PySem.W.kitOne K (.ref a_NoTable) (.type "ValueError") = some true)
    (r_NoTable : PySem.W.exmOne K (.ref a_NoTable) (.ref a_NoTable) = some true)
    (k_NoTable_NoTable : PySem.W.kitOne K (.ref a_NoTable) (.ref a_NoTable) = some true)
    (k_NoTable_BadNote : PySem.W.kitOne K (.ref a_NoTable) (.ref a_BadNote) = some false)
    (x_BadNote : PySem.W.excIn K a_BadNote bmVE "ValueError.__new__" = true)
    (c1_BadNote : PySem.W.isClsIn K a_BadNote = true)
    (c2_BadNote : PySem.W.findIn K (.ref a_BadNote) "__getattribute__" = some (some (.builtin "BaseException.__getattribute__")))
    (c3_BadNote : PySem.W.findIn K (.ref a_BadNote) "__getattr__" = some none)
    (c4_BadNote : PySem.W.findIn K (.ref a_BadNote) "__class__" = some (some (.builtin "object.__class__")))
    (c5_BadNote : PySem.W.mroIn K a_BadNote (.type "object") = some true)
    (c6_BadNote : PySem.W.mroIn K a_BadNote (.type "BaseException") = some true)
    (w_BadNote : PySem.W.exmOne K (.ref a_BadNote) (.ref a_KinError) = some true)
    (v_BadNote : PySem.W.kitOne K (.ref a_BadNote) (.type "ValueError") = some true)
    (k_BadNote_NoTable : PySem.W.kitOne K (.ref a_BadNote) (.ref a_NoTable) = some false)
    (k_BadNote_BadNote : PySem.W.kitOne K (.ref a_BadNote) (.ref a_BadNote) = some true)
    (a_d__law_cell_at : PySem.W.nsIn K mainGlobals "_law_cell_at" = some (some (.ref f_d__law_cell_at)))
    (l_d__law_cell_at : K.lookup f_d__law_cell_at = some ⟨oc_d__law_cell_at, od_d__law_cell_at, .func (PySem.W.fnOf "_law_cell_at" "_law_cell_at" (defArgs (top 18)) (defBody (top 18)) (defScope (top 18)) .none kV_d__law_cell_at dc_d__law_cell_at pm_d__law_cell_at an_d__law_cell_at cd_d__law_cell_at ct_d__law_cell_at), sl_d__law_cell_at⟩)
    (cc_d__law_cell_at : PySem.W.codeIn K cd_d__law_cell_at "_law_cell_at" = true)
    (kk_d__law_cell_at : PySem.W.keepIn K (.ref f_d__law_cell_at) = true)
    (a_d__law_turn_by : PySem.W.nsIn K mainGlobals "_law_turn_by" = some (some (.ref f_d__law_turn_by)))
    (l_d__law_turn_by : K.lookup f_d__law_turn_by = some ⟨oc_d__law_turn_by, od_d__law_turn_by, .func (PySem.W.fnOf "_law_turn_by" "_law_turn_by" (defArgs (top 20)) (defBody (top 20)) (defScope (top 20)) .none kV_d__law_turn_by dc_d__law_turn_by pm_d__law_turn_by an_d__law_turn_by cd_d__law_turn_by ct_d__law_turn_by), sl_d__law_turn_by⟩)
    (cc_d__law_turn_by : PySem.W.codeIn K cd_d__law_turn_by "_law_turn_by" = true)
    (kk_d__law_turn_by : PySem.W.keepIn K (.ref f_d__law_turn_by) = true)
    (a_d__law_row : PySem.W.nsIn K mainGlobals "_law_row" = some (some (.ref f_d__law_row)))
    (l_d__law_row : K.lookup f_d__law_row = some ⟨oc_d__law_row, od_d__law_row, .func (PySem.W.fnOf "_law_row" "_law_row" (defArgs (top 22)) (defBody (top 22)) (defScope (top 22)) .none kV_d__law_row dc_d__law_row pm_d__law_row an_d__law_row cd_d__law_row ct_d__law_row), sl_d__law_row⟩)
    (cc_d__law_row : PySem.W.codeIn K cd_d__law_row "_law_row" = true)
    (kk_d__law_row : PySem.W.keepIn K (.ref f_d__law_row) = true)
    (a_d_line_of : PySem.W.nsIn K mainGlobals "line_of" = some (some (.ref f_d_line_of)))
    (l_d_line_of : K.lookup f_d_line_of = some ⟨oc_d_line_of, od_d_line_of, .func (PySem.W.fnOf "line_of" "line_of" (defArgs (top 12)) (defBody (top 12)) (defScope (top 12)) .none kV_d_line_of dc_d_line_of pm_d_line_of an_d_line_of cd_d_line_of ct_d_line_of), sl_d_line_of⟩)
    (cc_d_line_of : PySem.W.codeIn K cd_d_line_of "line_of" = true)
    (kk_d_line_of : PySem.W.keepIn K (.ref f_d_line_of) = true)
    (a_m_size : PySem.W.findIn K (.ref a_Table) "size" = some (some (.ref f_m_size)))
    (i_m_size : PySem.W.isFn K (.ref f_m_size) = true)
    (l_m_size : K.lookup f_m_size = some ⟨oc_m_size, od_m_size, .func (PySem.W.fnOf "size" "Table.size" (defArgs (inClass (top 9) 1)) (defBody (inClass (top 9) 1)) (defScope (inClass (top 9) 1)) .none kV_m_size dc_m_size pm_m_size an_m_size cd_m_size ct_m_size), sl_m_size⟩)
    (cc_m_size : PySem.W.codeIn K cd_m_size "Table.size" = true)
    (kk_m_size : PySem.W.keepIn K (.ref f_m_size) = true)
    (a_m_wives : PySem.W.findIn K (.ref a_Table) "wives" = some (some (.ref f_m_wives)))
    (i_m_wives : PySem.W.isFn K (.ref f_m_wives) = true)
    (l_m_wives : K.lookup f_m_wives = some ⟨oc_m_wives, od_m_wives, .func (PySem.W.fnOf "wives" "Table.wives" (defArgs (inClass (top 9) 7)) (defBody (inClass (top 9) 7)) (defScope (inClass (top 9) 7)) .none kV_m_wives dc_m_wives pm_m_wives an_m_wives cd_m_wives ct_m_wives), sl_m_wives⟩)
    (cc_m_wives : PySem.W.codeIn K cd_m_wives "Table.wives" = true)
    (kk_m_wives : PySem.W.keepIn K (.ref f_m_wives) = true)
    (a_m_heirs : PySem.W.findIn K (.ref a_Table) "heirs" = some (some (.ref f_m_heirs)))
    (i_m_heirs : PySem.W.isFn K (.ref f_m_heirs) = true)
    (l_m_heirs : K.lookup f_m_heirs = some ⟨oc_m_heirs, od_m_heirs, .func (PySem.W.fnOf "heirs" "Table.heirs" (defArgs (inClass (top 9) 8)) (defBody (inClass (top 9) 8)) (defScope (inClass (top 9) 8)) .none kV_m_heirs dc_m_heirs pm_m_heirs an_m_heirs cd_m_heirs ct_m_heirs), sl_m_heirs⟩)
    (cc_m_heirs : PySem.W.codeIn K cd_m_heirs "Table.heirs" = true)
    (kk_m_heirs : PySem.W.keepIn K (.ref f_m_heirs) = true)
    (a_d_shown : PySem.W.nsIn K mainGlobals "shown" = some (some (.ref f_d_shown)))
    (l_d_shown : K.lookup f_d_shown = some ⟨oc_d_shown, od_d_shown, .func (PySem.W.fnOf "shown" "shown" (defArgs (top 13)) (defBody (top 13)) (defScope (top 13)) .none kV_d_shown dc_d_shown pm_d_shown an_d_shown cd_d_shown ct_d_shown), sl_d_shown⟩)
    (cc_d_shown : PySem.W.codeIn K cd_d_shown "shown" = true)
    (kk_d_shown : PySem.W.keepIn K (.ref f_d_shown) = true)
    (a_d_is_turn : PySem.W.nsIn K mainGlobals "is_turn" = some (some (.ref f_d_is_turn)))
    (l_d_is_turn : K.lookup f_d_is_turn = some ⟨oc_d_is_turn, od_d_is_turn, .func (PySem.W.fnOf "is_turn" "is_turn" (defArgs (top 7)) (defBody (top 7)) (defScope (top 7)) .none kV_d_is_turn dc_d_is_turn pm_d_is_turn an_d_is_turn cd_d_is_turn ct_d_is_turn), sl_d_is_turn⟩)
    (cc_d_is_turn : PySem.W.codeIn K cd_d_is_turn "is_turn" = true)
    (kk_d_is_turn : PySem.W.keepIn K (.ref f_d_is_turn) = true)
    (a_d_turned_back : PySem.W.nsIn K mainGlobals "turned_back" = some (some (.ref f_d_turned_back)))
    (l_d_turned_back : K.lookup f_d_turned_back = some ⟨oc_d_turned_back, od_d_turned_back, .func (PySem.W.fnOf "turned_back" "turned_back" (defArgs (top 8)) (defBody (top 8)) (defScope (top 8)) .none kV_d_turned_back dc_d_turned_back pm_d_turned_back an_d_turned_back cd_d_turned_back ct_d_turned_back), sl_d_turned_back⟩)
    (cc_d_turned_back : PySem.W.codeIn K cd_d_turned_back "turned_back" = true)
    (kk_d_turned_back : PySem.W.keepIn K (.ref f_d_turned_back) = true)
    (a_m_Table___init__ : PySem.W.findIn K (.ref a_Table) "__init__" = some (some (.ref f_m_Table___init__)))
    (i_m_Table___init__ : PySem.W.isFn K (.ref f_m_Table___init__) = true)
    (l_m_Table___init__ : K.lookup f_m_Table___init__ = some ⟨oc_m_Table___init__, od_m_Table___init__, .func (PySem.W.fnOf "__init__" "Table.__init__" (defArgs (inClass (top 9) 0)) (defBody (inClass (top 9) 0)) (defScope (inClass (top 9) 0)) .none kV_m_Table___init__ dc_m_Table___init__ pm_m_Table___init__ an_m_Table___init__ cd_m_Table___init__ ct_m_Table___init__), sl_m_Table___init__⟩)
    (cc_m_Table___init__ : PySem.W.codeIn K cd_m_Table___init__ "Table.__init__" = true)
    (kk_m_Table___init__ : PySem.W.keepIn K (.ref f_m_Table___init__) = true)
    (a_d_number_of : PySem.W.nsIn K mainGlobals "number_of" = some (some (.ref f_d_number_of)))
    (l_d_number_of : K.lookup f_d_number_of = some ⟨oc_d_number_of, od_d_number_of, .func (PySem.W.fnOf "number_of" "number_of" (defArgs (top 14)) (defBody (top 14)) (defScope (top 14)) .none kV_d_number_of dc_d_number_of pm_d_number_of an_d_number_of cd_d_number_of ct_d_number_of), sl_d_number_of⟩)
    (cc_d_number_of : PySem.W.codeIn K cd_d_number_of "number_of" = true)
    (kk_d_number_of : PySem.W.keepIn K (.ref f_d_number_of) = true)
    (a_d_numbers_behind : PySem.W.nsIn K mainGlobals "numbers_behind" = some (some (.ref f_d_numbers_behind)))
    (l_d_numbers_behind : K.lookup f_d_numbers_behind = some ⟨oc_d_numbers_behind, od_d_numbers_behind, .func (PySem.W.fnOf "numbers_behind" "numbers_behind" (defArgs (top 15)) (defBody (top 15)) (defScope (top 15)) .none kV_d_numbers_behind dc_d_numbers_behind pm_d_numbers_behind an_d_numbers_behind cd_d_numbers_behind ct_d_numbers_behind), sl_d_numbers_behind⟩)
    (cc_d_numbers_behind : PySem.W.codeIn K cd_d_numbers_behind "numbers_behind" = true)
    (kk_d_numbers_behind : PySem.W.keepIn K (.ref f_d_numbers_behind) = true)
    (a_d_read : PySem.W.nsIn K mainGlobals "read" = some (some (.ref f_d_read)))
    (l_d_read : K.lookup f_d_read = some ⟨oc_d_read, od_d_read, .func (PySem.W.fnOf "read" "read" (defArgs (top 16)) (defBody (top 16)) (defScope (top 16)) .none kV_d_read dc_d_read pm_d_read an_d_read cd_d_read ct_d_read), sl_d_read⟩)
    (cc_d_read : PySem.W.codeIn K cd_d_read "read" = true)
    (kk_d_read : PySem.W.keepIn K (.ref f_d_read) = true)
    (a_d__law_refused : PySem.W.nsIn K mainGlobals "_law_refused" = some (some (.ref f_d__law_refused)))
    (l_d__law_refused : K.lookup f_d__law_refused = some ⟨oc_d__law_refused, od_d__law_refused, .func (PySem.W.fnOf "_law_refused" "_law_refused" (defArgs (top 23)) (defBody (top 23)) (defScope (top 23)) .none kV_d__law_refused dc_d__law_refused pm_d__law_refused an_d__law_refused cd_d__law_refused ct_d__law_refused), sl_d__law_refused⟩)
    (cc_d__law_refused : PySem.W.codeIn K cd_d__law_refused "_law_refused" = true)
    (kk_d__law_refused : PySem.W.keepIn K (.ref f_d__law_refused) = true)
    (a_d__law_bad_line : PySem.W.nsIn K mainGlobals "_law_bad_line" = some (some (.ref f_d__law_bad_line)))
    (l_d__law_bad_line : K.lookup f_d__law_bad_line = some ⟨oc_d__law_bad_line, od_d__law_bad_line, .func (PySem.W.fnOf "_law_bad_line" "_law_bad_line" (defArgs (top 24)) (defBody (top 24)) (defScope (top 24)) .none kV_d__law_bad_line dc_d__law_bad_line pm_d__law_bad_line an_d__law_bad_line cd_d__law_bad_line ct_d__law_bad_line), sl_d__law_bad_line⟩)
    (cc_d__law_bad_line : PySem.W.codeIn K cd_d__law_bad_line "_law_bad_line" = true)
    (kk_d__law_bad_line : PySem.W.keepIn K (.ref f_d__law_bad_line) = true)
    (a_d__law_spoiled : PySem.W.nsIn K mainGlobals "_law_spoiled" = some (some (.ref f_d__law_spoiled)))
    (l_d__law_spoiled : K.lookup f_d__law_spoiled = some ⟨oc_d__law_spoiled, od_d__law_spoiled, .func (PySem.W.fnOf "_law_spoiled" "_law_spoiled" (defArgs (top 25)) (defBody (top 25)) (defScope (top 25)) .none kV_d__law_spoiled dc_d__law_spoiled pm_d__law_spoiled an_d__law_spoiled cd_d__law_spoiled ct_d__law_spoiled), sl_d__law_spoiled⟩)
    (cc_d__law_spoiled : PySem.W.codeIn K cd_d__law_spoiled "_law_spoiled" = true)
    (kk_d__law_spoiled : PySem.W.keepIn K (.ref f_d__law_spoiled) = true)
    (a_d__law_whole : PySem.W.nsIn K mainGlobals "_law_whole" = some (some (.ref f_d__law_whole)))
    (l_d__law_whole : K.lookup f_d__law_whole = some ⟨oc_d__law_whole, od_d__law_whole, .func (PySem.W.fnOf "_law_whole" "_law_whole" (defArgs (top 19)) (defBody (top 19)) (defScope (top 19)) .none kV_d__law_whole dc_d__law_whole pm_d__law_whole an_d__law_whole cd_d__law_whole ct_d__law_whole), sl_d__law_whole⟩)
    (cc_d__law_whole : PySem.W.codeIn K cd_d__law_whole "_law_whole" = true)
    (kk_d__law_whole : PySem.W.keepIn K (.ref f_d__law_whole) = true)
    (a_d__law_same_numbers : PySem.W.nsIn K mainGlobals "_law_same_numbers" = some (some (.ref f_d__law_same_numbers)))
    (l_d__law_same_numbers : K.lookup f_d__law_same_numbers = some ⟨oc_d__law_same_numbers, od_d__law_same_numbers, .func (PySem.W.fnOf "_law_same_numbers" "_law_same_numbers" (defArgs (top 21)) (defBody (top 21)) (defScope (top 21)) .none kV_d__law_same_numbers dc_d__law_same_numbers pm_d__law_same_numbers an_d__law_same_numbers cd_d__law_same_numbers ct_d__law_same_numbers), sl_d__law_same_numbers⟩)
    (cc_d__law_same_numbers : PySem.W.codeIn K cd_d__law_same_numbers "_law_same_numbers" = true)
    (kk_d__law_same_numbers : PySem.W.keepIn K (.ref f_d__law_same_numbers) = true)
    (a_d_law : PySem.W.nsIn K mainGlobals "law" = some (some (.ref f_d_law)))
    (l_d_law : K.lookup f_d_law = some ⟨oc_d_law, od_d_law, .func (PySem.W.fnOf "law" "law" (defArgs (top 26)) (defBody (top 26)) (defScope (top 26)) .none kV_d_law dc_d_law pm_d_law an_d_law cd_d_law ct_d_law), sl_d_law⟩)
    (cc_d_law : PySem.W.codeIn K cd_d_law "law" = true)
    (kk_d_law : PySem.W.keepIn K (.ref f_d_law) = true)
    (g_MOST_CLASSES : PySem.W.nsIn K mainGlobals "MOST_CLASSES" = some (some (.int 8 t_MOST_CLASSES)))
    (g_FIGURES : PySem.W.nsIn K mainGlobals "FIGURES" = some (some (.str "0123456789" t_FIGURES)))
    (z_ValueError : PySem.W.nsIn K mainGlobals "ValueError" = some none)
    (z_bool : PySem.W.nsIn K mainGlobals "bool" = some none)
    (z_int : PySem.W.nsIn K mainGlobals "int" = some none)
    (z_isinstance : PySem.W.nsIn K mainGlobals "isinstance" = some none)
    (z_len : PySem.W.nsIn K mainGlobals "len" = some none)
    (z_list : PySem.W.nsIn K mainGlobals "list" = some none)
    (z_range : PySem.W.nsIn K mainGlobals "range" = some none)
    (z_sorted : PySem.W.nsIn K mainGlobals "sorted" = some none)
    (z_str : PySem.W.nsIn K mainGlobals "str" = some none) :
    ∃ fd : FuncData, (∀ (s : Shared) (v : Value), BindsTo s fd ⟨[v], []⟩ [("script", v)]) ∧ ∀ base : Heap, K.In base → base.Ns mainGlobals mg → FnOk l.prog w K mg base (CXR l.prog w) 6 fa fd ["script"] (spLaw K) := by
  have ee := hfa.symm.trans (PySem.W.mg_of X G a_d_law)
  cases ee
  have T : Txt K mg a_Table ⟨a_KinError, a_NoTable, a_BadNote⟩ := ⟨PySem.W.mg_of X G b_Table, ⟨pg_Table, hd_Table, po_Table, sa_Table⟩, n_wife_turn, n_heir_turn, n_husband_turn, n_father_turn, PySem.W.mg_none_of X G z_ValueError, PySem.W.mg_none_of X G z_bool, PySem.W.mg_none_of X G z_int, PySem.W.mg_none_of X G z_isinstance, PySem.W.mg_none_of X G z_len, PySem.W.mg_none_of X G z_list, PySem.W.mg_none_of X G z_range, PySem.W.mg_none_of X G z_sorted, PySem.W.mg_none_of X G z_str, ⟨_, PySem.W.mg_of X G g_MOST_CLASSES, ⟨_, rfl⟩⟩, ⟨_, PySem.W.mg_of X G g_FIGURES, ⟨_, rfl⟩⟩, ⟨kd1, kd2⟩, PySem.W.mg_of X G b_KinError, PySem.W.mg_of X G b_NoTable, x_NoTable, ⟨c1_NoTable, c2_NoTable, c3_NoTable, c4_NoTable, kd1, kd2, c5_NoTable, c6_NoTable⟩, w_NoTable, r_NoTable, v_NoTable, k_NoTable_NoTable, k_NoTable_BadNote, PySem.W.mg_of X G b_BadNote, x_BadNote, ⟨c1_BadNote, c2_BadNote, c3_BadNote, c4_BadNote, kd1, kd2, c5_BadNote, c6_BadNote⟩, w_BadNote, v_BadNote, k_BadNote_NoTable, k_BadNote_BadNote⟩
  have hE : NoE (CXR l.prog w) := noER
  have F_d__law_cell_at := fun_mk (st := (top 18)) l_d__law_cell_at cc_d__law_cell_at kk_d__law_cell_at
  have b_d__law_cell_at := F_d__law_cell_at.binds (ps := ["script", "k"]) fun _ _ _ _ _ _ us hl => match us, hl with | [_, _], _ => rfl
  have F_d__law_turn_by := fun_mk (st := (top 20)) l_d__law_turn_by cc_d__law_turn_by kk_d__law_turn_by
  have b_d__law_turn_by := F_d__law_turn_by.binds (ps := ["cell", "many"]) fun _ _ _ _ _ _ us hl => match us, hl with | [_, _], _ => rfl
  have F_d__law_row := fun_mk (st := (top 22)) l_d__law_row cc_d__law_row kk_d__law_row
  have b_d__law_row := F_d__law_row.binds (ps := ["word", "numbers"]) fun _ _ _ _ _ _ us hl => match us, hl with | [_, _], _ => rfl
  have F_d_line_of := fun_mk (st := (top 12)) l_d_line_of cc_d_line_of kk_d_line_of
  have b_d_line_of := F_d_line_of.binds (ps := ["name", "numbers"]) fun _ _ _ _ _ _ us hl => match us, hl with | [_, _], _ => rfl
  have F_m_size := fun_mk (st := (inClass (top 9) 1)) l_m_size cc_m_size kk_m_size
  have b_m_size := F_m_size.binds (ps := ["self"]) fun _ _ _ _ _ _ us hl => match us, hl with | [_], _ => rfl
  have F_m_wives := fun_mk (st := (inClass (top 9) 7)) l_m_wives cc_m_wives kk_m_wives
  have b_m_wives := F_m_wives.binds (ps := ["self"]) fun _ _ _ _ _ _ us hl => match us, hl with | [_], _ => rfl
  have F_m_heirs := fun_mk (st := (inClass (top 9) 8)) l_m_heirs cc_m_heirs kk_m_heirs
  have b_m_heirs := F_m_heirs.binds (ps := ["self"]) fun _ _ _ _ _ _ us hl => match us, hl with | [_], _ => rfl
  have F_d_shown := fun_mk (st := (top 13)) l_d_shown cc_d_shown kk_d_shown
  have b_d_shown := F_d_shown.binds (ps := ["table"]) fun _ _ _ _ _ _ us hl => match us, hl with | [_], _ => rfl
  have F_d_is_turn := fun_mk (st := (top 7)) l_d_is_turn cc_d_is_turn kk_d_is_turn
  have b_d_is_turn := F_d_is_turn.binds (ps := ["row", "many"]) fun _ _ _ _ _ _ us hl => match us, hl with | [_, _], _ => rfl
  have F_d_turned_back := fun_mk (st := (top 8)) l_d_turned_back cc_d_turned_back kk_d_turned_back
  have b_d_turned_back := F_d_turned_back.binds (ps := ["turn"]) fun _ _ _ _ _ _ us hl => match us, hl with | [_], _ => rfl
  have F_m_Table___init__ := fun_mk (st := (inClass (top 9) 0)) l_m_Table___init__ cc_m_Table___init__ kk_m_Table___init__
  have b_m_Table___init__ := F_m_Table___init__.binds (ps := ["self", "wives", "heirs"]) fun _ _ _ _ _ _ us hl => match us, hl with | [_, _, _], _ => rfl
  have F_d_number_of := fun_mk (st := (top 14)) l_d_number_of cc_d_number_of kk_d_number_of
  have b_d_number_of := F_d_number_of.binds (ps := ["word"]) fun _ _ _ _ _ _ us hl => match us, hl with | [_], _ => rfl
  have F_d_numbers_behind := fun_mk (st := (top 15)) l_d_numbers_behind cc_d_numbers_behind kk_d_numbers_behind
  have b_d_numbers_behind := F_d_numbers_behind.binds (ps := ["name", "line"]) fun _ _ _ _ _ _ us hl => match us, hl with | [_, _], _ => rfl
  have F_d_read := fun_mk (st := (top 16)) l_d_read cc_d_read kk_d_read
  have b_d_read := F_d_read.binds (ps := ["text"]) fun _ _ _ _ _ _ us hl => match us, hl with | [_], _ => rfl
  have F_d__law_refused := fun_mk (st := (top 23)) l_d__law_refused cc_d__law_refused kk_d__law_refused
  have b_d__law_refused := F_d__law_refused.binds (ps := ["text"]) fun _ _ _ _ _ _ us hl => match us, hl with | [_], _ => rfl
  have F_d__law_bad_line := fun_mk (st := (top 24)) l_d__law_bad_line cc_d__law_bad_line kk_d__law_bad_line
  have b_d__law_bad_line := F_d__law_bad_line.binds (ps := ["cell"]) fun _ _ _ _ _ _ us hl => match us, hl with | [_], _ => rfl
  have F_d__law_spoiled := fun_mk (st := (top 25)) l_d__law_spoiled cc_d__law_spoiled kk_d__law_spoiled
  have b_d__law_spoiled := F_d__law_spoiled.binds (ps := ["rows", "many", "cell"]) fun _ _ _ _ _ _ us hl => match us, hl with | [_, _, _], _ => rfl
  have F_d__law_whole := fun_mk (st := (top 19)) l_d__law_whole cc_d__law_whole kk_d__law_whole
  have b_d__law_whole := F_d__law_whole.binds (ps := ["found"]) fun _ _ _ _ _ _ us hl => match us, hl with | [_], _ => rfl
  have F_d__law_same_numbers := fun_mk (st := (top 21)) l_d__law_same_numbers cc_d__law_same_numbers kk_d__law_same_numbers
  have b_d__law_same_numbers := F_d__law_same_numbers.binds (ps := ["found", "due"]) fun _ _ _ _ _ _ us hl => match us, hl with | [_, _], _ => rfl
  have F_d_law := fun_mk (st := (top 26)) l_d_law cc_d_law kk_d_law
  have b_d_law := F_d_law.binds (ps := ["script"]) fun _ _ _ _ _ _ us hl => match us, hl with | [_], _ => rfl
  refine ⟨PySem.W.fnOf "law" "law" (defArgs (top 26)) (defBody (top 26)) (defScope (top 26)) .none kV_d_law dc_d_law pm_d_law an_d_law cd_d_law ct_d_law, fun s v => .of_eq rfl, fun base _ _ => ?_⟩
  have D__law_cell_at : Def l.prog w K mg base (CXR l.prog w) "_law_cell_at" 1 ["script", "k"] (spCellAt K) := ⟨_, _, PySem.W.mg_of X G a_d__law_cell_at, kk_d__law_cell_at, b_d__law_cell_at, ok_cell F_d__law_cell_at T⟩
  have D__law_turn_by : Def l.prog w K mg base (CXR l.prog w) "_law_turn_by" 1 ["cell", "many"] spTurnBy := ⟨_, _, PySem.W.mg_of X G a_d__law_turn_by, kk_d__law_turn_by, b_d__law_turn_by, ok_turnby F_d__law_turn_by T⟩
  have D__law_row : Def l.prog w K mg base (CXR l.prog w) "_law_row" 1 ["word", "numbers"] spRow := ⟨_, _, PySem.W.mg_of X G a_d__law_row, kk_d__law_row, b_d__law_row, ok_lrow F_d__law_row T⟩
  have D_line_of : Def l.prog w K mg base (CXR l.prog w) "line_of" 1 ["name", "numbers"] spRow := ⟨_, _, PySem.W.mg_of X G a_d_line_of, kk_d_line_of, b_d_line_of, ok_lineof F_d_line_of T⟩
  have D_size : MDef l.prog w K mg base (CXR l.prog w) a_Table "size" 1 ["self"] (spSize a_Table) := ⟨_, _, ⟨a_m_size, i_m_size, kk_m_size⟩, b_m_size, ok_size F_m_size T⟩
  have D_wives : MDef l.prog w K mg base (CXR l.prog w) a_Table "wives" 1 ["self"] (spList a_Table fun w _ => w) := ⟨_, _, ⟨a_m_wives, i_m_wives, kk_m_wives⟩, b_m_wives, ok_wives F_m_wives T⟩
  have D_heirs : MDef l.prog w K mg base (CXR l.prog w) a_Table "heirs" 1 ["self"] (spList a_Table fun _ h => h) := ⟨_, _, ⟨a_m_heirs, i_m_heirs, kk_m_heirs⟩, b_m_heirs, ok_heirs F_m_heirs T⟩
  have D_shown : Def l.prog w K mg base (CXR l.prog w) "shown" 2 ["table"] (spShown a_Table) := ⟨_, _, PySem.W.mg_of X G a_d_shown, kk_d_shown, b_d_shown, ok_shown F_d_shown T hE D_line_of D_size D_wives D_heirs⟩
  have D_is_turn : Def l.prog w K mg base (CXR l.prog w) "is_turn" 1 ["row", "many"] spIsTurn := ⟨_, _, PySem.W.mg_of X G a_d_is_turn, kk_d_is_turn, b_d_is_turn, ok_isturn F_d_is_turn T⟩
  have D_turned_back : Def l.prog w K mg base (CXR l.prog w) "turned_back" 1 ["turn"] spTurnedBack := ⟨_, _, PySem.W.mg_of X G a_d_turned_back, kk_d_turned_back, b_d_turned_back, ok_tback F_d_turned_back T⟩
  have D_Table : CDef l.prog w K mg base (CXR l.prog w) "Table" a_Table 2 ["self", "wives", "heirs"] (spInitX a_Table (⟨a_KinError, a_NoTable, a_BadNote⟩ : Ad)) := ⟨_, _, PySem.W.mg_of X G b_Table, ⟨mk_Table, a_m_Table___init__, i_m_Table___init__, kc_Table⟩, b_m_Table___init__, ok_init F_m_Table___init__ T D_is_turn D_turned_back⟩
  have D_number_of : Def l.prog w K mg base (CXR l.prog w) "number_of" 1 ["word"] (spNumber (⟨a_KinError, a_NoTable, a_BadNote⟩ : Ad)) := ⟨_, _, PySem.W.mg_of X G a_d_number_of, kk_d_number_of, b_d_number_of, ok_number F_d_number_of T⟩
  have D_numbers_behind : Def l.prog w K mg base (CXR l.prog w) "numbers_behind" 2 ["name", "line"] (spBehind (⟨a_KinError, a_NoTable, a_BadNote⟩ : Ad)) := ⟨_, _, PySem.W.mg_of X G a_d_numbers_behind, kk_d_numbers_behind, b_d_numbers_behind, ok_behind F_d_numbers_behind T D_number_of⟩
  have D_read : Def l.prog w K mg base (CXR l.prog w) "read" 4 ["text"] (spRead a_Table (⟨a_KinError, a_NoTable, a_BadNote⟩ : Ad)) := ⟨_, _, PySem.W.mg_of X G a_d_read, kk_d_read, b_d_read, ok_read F_d_read T D_numbers_behind D_Table⟩
  have D__law_refused : Def l.prog w K mg base (CXR l.prog w) "_law_refused" 5 ["text"] spRefusedN := ⟨_, _, PySem.W.mg_of X G a_d__law_refused, kk_d__law_refused, b_d__law_refused, ok_refusedn F_d__law_refused T D_read⟩
  have D__law_bad_line : Def l.prog w K mg base (CXR l.prog w) "_law_bad_line" 1 ["cell"] spBadLine := ⟨_, _, PySem.W.mg_of X G a_d__law_bad_line, kk_d__law_bad_line, b_d__law_bad_line, ok_badline F_d__law_bad_line T⟩
  have D__law_spoiled : Def l.prog w K mg base (CXR l.prog w) "_law_spoiled" 2 ["rows", "many", "cell"] spSpoiled := ⟨_, _, PySem.W.mg_of X G a_d__law_spoiled, kk_d__law_spoiled, b_d__law_spoiled, ok_spoiled F_d__law_spoiled T hE D__law_bad_line⟩
  have D__law_whole : Def l.prog w K mg base (CXR l.prog w) "_law_whole" 1 ["found"] spWhole := ⟨_, _, PySem.W.mg_of X G a_d__law_whole, kk_d__law_whole, b_d__law_whole, ok_whole F_d__law_whole T⟩
  have D__law_same_numbers : Def l.prog w K mg base (CXR l.prog w) "_law_same_numbers" 2 ["found", "due"] spSameN := ⟨_, _, PySem.W.mg_of X G a_d__law_same_numbers, kk_d__law_same_numbers, b_d__law_same_numbers, ok_samen F_d__law_same_numbers T hE D__law_whole⟩
  exact ok_law F_d_law T hE D__law_cell_at D__law_turn_by D__law_row D_shown D_Table D__law_refused D__law_spoiled D_read D__law_same_numbers D_wives D_heirs
theorem walk {l : PySem.W.OpenLaw} {q : Program} {loose : List Str} {XP : (Str → Option Value) → Heap → Prop} {YP : World → Heap → Prop} {d : DefRec} {K : Params → PySem.W.Frag} (hn : l.most = some 63) (hdf : d.params.defaults = [])
    (hY : ∀ (w : World) (h : Heap), YP w h → (K w.params).In h)
    (F : ∀ (w : World) (mg : Str → Option Value) (fa : Addr) (h : Heap), (K w.params).In h → h.Ns mainGlobals mg → mg d.name = some (.ref fa) →
      ∃ fd : FuncData, (∀ (s : Shared) (u : Value), BindsTo s fd ⟨[u], []⟩ [("script", u)]) ∧ ∀ base : Heap, (K w.params).In base → base.Ns mainGlobals mg → FnOk l.prog w (K w.params) mg base (CXR l.prog w) 6 fa fd ["script"] (spLaw (K w.params))) :
    PySem.W.WalkO q loose XP YP l.row.toRowW d [] (fun f vs => PySem.call f vs) :=
  L2.walk_of (n := 63) (k := 6) (x := "script") (CX := fun w => CXR l.prog w) (sp := fun w => spLaw (K w.params)) hn (by decide) hdf ⟨rfl, by decide, by decide, rfl⟩ hY F (fun _ _ a ns hl _ hS => ⟨a, ns, rfl, hl, hS, fun _ => rfl⟩) fun _ _ _ _ _ ⟨_, _, _, _, _, z⟩ => z.2.2
end Prf
def PySem.W.Fast.tw8734282798839717712 : Unit := ()
def PySem.W.Fast.tw3267487193669718342 : Unit := ()
def PySem.W.Fast.tw595245113584113803 : Unit := ()
def PySem.W.Fast.tw16446965251373216006 : Unit := ()
def PySem.W.Fast.tw6344807603759143239 : Unit := ()
def PySem.W.Fast.tw7808717934366331933 : Unit := ()
def PySem.W.Fast.tw4841428747114301063 : Unit := ()
def PySem.W.Fast.tw2925979475409320988 : Unit := ()
def PySem.W.Fast.tw17016435447013171402 : Unit := ()
def PySem.W.Fast.tw18115551379646623000 : Unit := ()
def PySem.W.Fast.tw1387716214463311470 : Unit := ()
def PySem.W.Fast.tw9872941367707268590 : Unit := ()
def PySem.W.Fast.tw5430472144561483490 : Unit := ()
open PySem PySem.W PyProof.Rows
set_option maxRecDepth 100000 in
set_option maxHeartbeats 0 in
theorem PySem.Challenge.cw_kinturns_k15_a_table_written_holds : PySem.Challenge.rw_kinturns_k15_a_table_written.Holds := by
  w_on; o_law; k_head; (case hw => w_witness2)
  k_fill
  refine Prf.walk (l := PySem.Challenge.rw_kinturns_k15_a_table_written) rfl rfl (fun w h Y => PySem.W.kIn_of Y) ?F
  case F =>
    intro w mg fa h KX G hmg
    refine' Prf.all_mk KX G hmg ?b_KinError ?b_NoTable ?b_BadNote ?b_Table ?pg_Table ?hd_Table ?po_Table ?sa_Table ?mk_Table ?kc_Table ?n_wife_turn ?n_heir_turn ?n_husband_turn ?n_father_turn ?kd1 ?kd2 ?x_NoTable ?c1_NoTable ?c2_NoTable ?c3_NoTable ?c4_NoTable ?c5_NoTable ?c6_NoTable ?w_NoTable ?v_NoTable ?r_NoTable ?k_NoTable_NoTable ?k_NoTable_BadNote ?x_BadNote ?c1_BadNote ?c2_BadNote ?c3_BadNote ?c4_BadNote ?c5_BadNote ?c6_BadNote ?w_BadNote ?v_BadNote ?k_BadNote_NoTable ?k_BadNote_BadNote ?a_d__law_cell_at ?l_d__law_cell_at ?cc_d__law_cell_at ?kk_d__law_cell_at ?a_d__law_turn_by ?l_d__law_turn_by ?cc_d__law_turn_by ?kk_d__law_turn_by ?a_d__law_row ?l_d__law_row ?cc_d__law_row ?kk_d__law_row ?a_d_line_of ?l_d_line_of ?cc_d_line_of ?kk_d_line_of ?a_m_size ?i_m_size ?l_m_size ?cc_m_size ?kk_m_size ?a_m_wives ?i_m_wives ?l_m_wives ?cc_m_wives ?kk_m_wives ?a_m_heirs ?i_m_heirs ?l_m_heirs ?cc_m_heirs ?kk_m_heirs ?a_d_shown ?l_d_shown ?cc_d_shown ?kk_d_shown ?a_d_is_turn ?l_d_is_turn ?cc_d_is_turn ?kk_d_is_turn ?a_d_turned_back ?l_d_turned_back ?cc_d_turned_back ?kk_d_turned_back ?a_m_Table___init__ ?i_m_Table___init__ ?l_m_Table___init__ ?cc_m_Table___init__ ?kk_m_Table___init__ ?a_d_number_of ?l_d_number_of ?cc_d_number_of ?kk_d_number_of ?a_d_numbers_behind ?l_d_numbers_behind ?cc_d_numbers_behind ?kk_d_numbers_behind ?a_d_read ?l_d_read ?cc_d_read ?kk_d_read ?a_d__law_refused ?l_d__law_refused ?cc_d__law_refused ?kk_d__law_refused ?a_d__law_bad_line ?l_d__law_bad_line ?cc_d__law_bad_line ?kk_d__law_bad_line ?a_d__law_spoiled ?l_d__law_spoiled ?cc_d__law_spoiled ?kk_d__law_spoiled ?a_d__law_whole ?l_d__law_whole ?cc_d__law_whole ?kk_d__law_whole ?a_d__law_same_numbers ?l_d__law_same_numbers ?cc_d__law_same_numbers ?kk_d__law_same_numbers ?a_d_law ?l_d_law ?cc_d_law ?kk_d_law ?g_MOST_CLASSES ?g_FIGURES ?z_ValueError ?z_bool ?z_int ?z_isinstance ?z_len ?z_list ?z_range ?z_sorted ?z_str
    (case b_KinError => k_is)
    (case b_NoTable => k_is)
    (case b_BadNote => k_is)
    (case b_Table => k_is)
    (case pg_Table => k_is)
    (case hd_Table => k_is)
    (case po_Table => k_is)
    (case sa_Table => k_is)
    (case mk_Table => k_is)
    (case kc_Table => k_is)
    (case n_wife_turn => k_is)
    (case n_heir_turn => k_is)
    (case n_husband_turn => k_is)
    (case n_father_turn => k_is)
    (case kd1 => k_is)
    (case kd2 => k_is)
    (case x_NoTable => k_exc)
    (case c1_NoTable => k_is)
    (case c2_NoTable => k_is)
    (case c3_NoTable => k_is)
    (case c4_NoTable => k_is)
    (case c5_NoTable => k_is)
    (case c6_NoTable => k_is)
    (case w_NoTable => kts_exm)
    (case v_NoTable => kit_is)
    (case r_NoTable => kts_exm)
    (case k_NoTable_NoTable => kit_is)
    (case k_NoTable_BadNote => kit_is)
    (case x_BadNote => k_exc)
    (case c1_BadNote => k_is)
    (case c2_BadNote => k_is)
    (case c3_BadNote => k_is)
    (case c4_BadNote => k_is)
    (case c5_BadNote => k_is)
    (case c6_BadNote => k_is)
    (case w_BadNote => kts_exm)
    (case v_BadNote => kit_is)
    (case k_BadNote_NoTable => kit_is)
    (case k_BadNote_BadNote => kit_is)
    (case a_d__law_cell_at => k_is)
    (case l_d__law_cell_at => k_is)
    (case cc_d__law_cell_at => k_is)
    (case kk_d__law_cell_at => k_is)
    (case a_d__law_turn_by => k_is)
    (case l_d__law_turn_by => k_is)
    (case cc_d__law_turn_by => k_is)
    (case kk_d__law_turn_by => k_is)
    (case a_d__law_row => k_is)
    (case l_d__law_row => k_is)
    (case cc_d__law_row => k_is)
    (case kk_d__law_row => k_is)
    (case a_d_line_of => k_is)
    (case l_d_line_of => k_is)
    (case cc_d_line_of => k_is)
    (case kk_d_line_of => k_is)
    (case a_m_size => k_is)
    (case i_m_size => k_is)
    (case l_m_size => k_is)
    (case cc_m_size => k_is)
    (case kk_m_size => k_is)
    (case a_m_wives => k_is)
    (case i_m_wives => k_is)
    (case l_m_wives => k_is)
    (case cc_m_wives => k_is)
    (case kk_m_wives => k_is)
    (case a_m_heirs => k_is)
    (case i_m_heirs => k_is)
    (case l_m_heirs => k_is)
    (case cc_m_heirs => k_is)
    (case kk_m_heirs => k_is)
    (case a_d_shown => k_is)
    (case l_d_shown => k_is)
    (case cc_d_shown => k_is)
    (case kk_d_shown => k_is)
    (case a_d_is_turn => k_is)
    (case l_d_is_turn => k_is)
    (case cc_d_is_turn => k_is)
    (case kk_d_is_turn => k_is)
    (case a_d_turned_back => k_is)
    (case l_d_turned_back => k_is)
    (case cc_d_turned_back => k_is)
    (case kk_d_turned_back => k_is)
    (case a_m_Table___init__ => k_is)
    (case i_m_Table___init__ => k_is)
    (case l_m_Table___init__ => k_is)
    (case cc_m_Table___init__ => k_is)
    (case kk_m_Table___init__ => k_is)
    (case a_d_number_of => k_is)
    (case l_d_number_of => k_is)
    (case cc_d_number_of => k_is)
    (case kk_d_number_of => k_is)
    (case a_d_numbers_behind => k_is)
    (case l_d_numbers_behind => k_is)
    (case cc_d_numbers_behind => k_is)
    (case kk_d_numbers_behind => k_is)
    (case a_d_read => k_is)
    (case l_d_read => k_is)
    (case cc_d_read => k_is)
    (case kk_d_read => k_is)
    (case a_d__law_refused => k_is)
    (case l_d__law_refused => k_is)
    (case cc_d__law_refused => k_is)
    (case kk_d__law_refused => k_is)
    (case a_d__law_bad_line => k_is)
    (case l_d__law_bad_line => k_is)
    (case cc_d__law_bad_line => k_is)
    (case kk_d__law_bad_line => k_is)
    (case a_d__law_spoiled => k_is)
    (case l_d__law_spoiled => k_is)
    (case cc_d__law_spoiled => k_is)
    (case kk_d__law_spoiled => k_is)
    (case a_d__law_whole => k_is)
    (case l_d__law_whole => k_is)
    (case cc_d__law_whole => k_is)
    (case kk_d__law_whole => k_is)
    (case a_d__law_same_numbers => k_is)
    (case l_d__law_same_numbers => k_is)
    (case cc_d__law_same_numbers => k_is)
    (case kk_d__law_same_numbers => k_is)
    (case a_d_law => k_is)
    (case l_d_law => k_is)
    (case cc_d_law => k_is)
    (case kk_d_law => k_is)
    (case g_MOST_CLASSES => k_is)
    (case g_FIGURES => k_is)
    (case z_ValueError => k_is)
    (case z_bool => k_is)
    (case z_int => k_is)
    (case z_isinstance => k_is)
    (case z_len => k_is)
    (case z_list => k_is)
    (case z_range => k_is)
    (case z_sorted => k_is)
    (case z_str => k_is)
#print axioms PySem.Challenge.cw_kinturns_k15_a_table_written_holds
