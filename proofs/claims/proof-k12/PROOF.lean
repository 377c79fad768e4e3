import PyProof.Rows.All
import Wide.All
import OpenK.AllK
import Wide.FinOn
import Lean
import PyProof.EqAt
import PyProof.EqKinds
import PyProof.NeKinds
import PyProof.TupleCall
import PySem.Challenge.RW_kinturns_k12_whole_fitting
set_option Elab.async false
set_option linter.all false
set_option maxRecDepth 100000
/-! THE HAND LAYER, for ints, bools, texts, own classes, LISTS and tuples (index, slices, in, append, pop ..), calls, loops. Paste it whole ahead of your own text; what your proof does not reach may be deleted. -/
namespace L2
open PySem PySem.Spec PyProof.Rows

/-- a key: an int or a str -/
abbrev Key := Sum Int Str
def keyIs : Key → Value → Bool
  | .inl k, v => Value.isInt k v
  | .inr x, v => Value.isStrOf x v
def keyH (w : World) : Key → Int
  | .inl k => hashInt k
  | .inr x => hashStr w x
theorem keyIs_shape : ∀ {k : Key} {v : Value}, keyIs k v = true → (∃ i t, k = Sum.inl i ∧ v = Value.int i t) ∨ (∃ x t, k = Sum.inr x ∧ v = Value.str x t)
  | .inl i, v, h => by
    obtain ⟨t, e⟩ := Value.isInt_shape (k := i) (v := v) h
    exact .inl ⟨i, t, rfl, e⟩
  | .inr x, v, h => by
    obtain ⟨t, e⟩ := Value.isStrOf_shape (x := x) (v := v) h
    exact .inr ⟨x, t, rfl, e⟩
theorem keyIs_int (i : Int) (t : Tok) : keyIs (.inl i) (.int i t) = true := by simp [keyIs, Value.isInt]
theorem keyIs_str (x : Str) (t : Tok) : keyIs (.inr x) (.str x t) = true := by simp [keyIs, Value.isStrOf]
theorem key_ll (a b : Int) : decide ((Sum.inl a : Key) = Sum.inl b) = (a == b) := by
  by_cases e : a = b
  · subst e; simp
  · have h : ¬ (Sum.inl a : Key) = Sum.inl b := fun q => e (Sum.inl.inj q)
    rw [decide_eq_false h]
    exact (beq_eq_false_iff_ne.mpr e).symm
theorem key_rr (a b : Str) : decide ((Sum.inr a : Key) = Sum.inr b) = decide (a = b) := by
  by_cases e : a = b
  · subst e; simp
  · have h : ¬ (Sum.inr a : Key) = Sum.inr b := fun q => e (Sum.inr.inj q)
    rw [decide_eq_false h, decide_eq_false e]
theorem key_lr (a : Int) (b : Str) : decide ((Sum.inl a : Key) = Sum.inr b) = false := decide_eq_false (fun q => nomatch q)
theorem key_rl (a : Str) (b : Int) : decide ((Sum.inr a : Key) = Sum.inl b) = false := decide_eq_false (fun q => nomatch q)

def mixKind (prog : Program) (w : World) : PySem.KeyKind prog w Key where
  is := keyIs
  hash := keyH w
  inj := fun v a b ha hb => by
    rcases keyIs_shape ha with ⟨i, t, rfl, rfl⟩ | ⟨x, t, rfl, rfl⟩
    · rcases keyIs_shape hb with ⟨j, u, rfl, e⟩ | ⟨y, u, rfl, e⟩
      · injection e with e1 _; rw [e1]
      · exact nomatch e
    · rcases keyIs_shape hb with ⟨j, u, rfl, e⟩ | ⟨y, u, rfl, e⟩
      · exact nomatch e
      · injection e with e1 _; rw [e1]
  byValue := fun k v h => by
    rcases keyIs_shape h with ⟨i, t, rfl, rfl⟩ | ⟨x, t, rfl, rfl⟩ <;> rfl
  pyHash := fun hv h => by
    rcases keyIs_shape hv with ⟨i, t, rfl, rfl⟩ | ⟨x, t, rfl, rfl⟩
    · exact wpAny_pyHash_int h
    · exact wpAny_pyHash_str h
  eqBool := fun hu hv h => by
    rcases keyIs_shape hu with ⟨i, t, rfl, rfl⟩ | ⟨x, t, rfl, rfl⟩
    · rcases keyIs_shape hv with ⟨j, u, rfl, rfl⟩ | ⟨y, u, rfl, rfl⟩
      · rw [key_ll] at h; exact wpAny_eqBool_int h
      · rw [key_lr] at h; exact SeqAt.EqAt.int_str i t y u _ _ _ _ h
    · rcases keyIs_shape hv with ⟨j, u, rfl, rfl⟩ | ⟨y, u, rfl, rfl⟩
      · rw [key_rl] at h; exact SeqAt.EqAt.str_int x t j u _ _ _ _ h
      · rw [key_rr] at h; exact wpAny_eqBool_str h
  «strs» := fun k x t v h => by
    rcases keyIs_shape h with ⟨i, u, rfl, e⟩ | ⟨y, u, rfl, e⟩
    · exact nomatch e
    · injection e with e1 _
      subst e1
      cases v <;> rfl

theorem mixKind_is (prog : Program) (w : World) (k : Key) (v : Value) : (mixKind prog w).is k v = keyIs k v := rfl
theorem mixKind_int (prog : Program) (w : World) (i : Int) (t : Tok) : (mixKind prog w).is (.inl i) (.int i t) = true := keyIs_int i t
theorem mixKind_str (prog : Program) (w : World) (x : Str) (t : Tok) : (mixKind prog w).is (.inr x) (.str x t) = true := keyIs_str x t
end L2

namespace L2
open PySem PySem.Spec PyProof.Rows

/-- a value, without the heap -/
inductive V where
  | non | bl (b : Bool) | int (i : Int) | str (x : Str) | byt (b : Array UInt8) | flt (b : UInt64) | ref (a : Addr) | ty (n : String)
  deriving DecidableEq

def RelV : V → Value → Prop
  | .non, u => u = Value.none
  | .bl b, u => u = Value.bool b
  | .int i, u => ∃ t, u = Value.int i t
  | .str x, u => ∃ t, u = Value.str x t
  | .byt b, u => ∃ t, u = Value.bytes b t
  | .flt b, u => ∃ t, u = Value.float b t
  | .ref a, u => u = Value.ref a
  | .ty n, u => u = Value.type n

abbrev Vals : List V → List Value → Prop := Paired RelV
theorem Vals.length {xs : List V} {us : List Value} (r : Vals xs us) : xs.length = us.length := Paired.length r
theorem Vals.get : ∀ {xs : List V} {us : List Value} {i : Nat} {x : V}, Vals xs us → xs[i]? = some x → ∃ u, us[i]? = some u ∧ RelV x u
  | _, _, _, _, .nil, e => by simp at e
  | _, _, 0, _, .cons r _, e => by simp at e; subst e; exact ⟨_, rfl, r⟩
  | _, _, i + 1, x, .cons _ t, e => by
    obtain ⟨u, h1, h2⟩ := Vals.get (i := i) (x := x) t (by simpa using e)
    exact ⟨u, by simpa using h1, h2⟩
theorem Vals.set {x : V} {u : Value} (r : RelV x u) : ∀ {xs : List V} {us : List Value} (i : Nat), Vals xs us → Vals (xs.set i x) (us.set i u)
  | _, _, _, .nil => .nil
  | _, _, 0, .cons _ t => .cons r t
  | _, _, i + 1, .cons q t => .cons q (Vals.set r i t)
theorem Vals.append : ∀ {xs ys : List V} {us ws : List Value}, Vals xs us → Vals ys ws → Vals (xs ++ ys) (us ++ ws)
  | _, _, _, _, .nil, s => s
  | _, _, _, _, .cons r t, s => .cons r (Vals.append t s)
theorem Vals.take : ∀ {xs : List V} {us : List Value} (n : Nat), Vals xs us → Vals (xs.take n) (us.take n)
  | _, _, 0, _ => .nil
  | _, _, _ + 1, .nil => .nil
  | _, _, n + 1, .cons r t => .cons r (Vals.take n t)
theorem Vals.drop : ∀ {xs : List V} {us : List Value} (n : Nat), Vals xs us → Vals (xs.drop n) (us.drop n)
  | _, _, 0, r => r
  | _, _, _ + 1, .nil => .nil
  | _, _, n + 1, .cons _ t => Vals.drop n t
def RelO : Option V → Option Value → Prop
  | some v, some u => RelV v u
  | none, none => True
  | _, _ => False
def KV {κ : Type} : List (κ × V) → List (κ × Value) → Prop := Paired fun (p : κ × V) (q : κ × Value) => p.1 = q.1 ∧ RelV p.2 q.2

/-- a key of a dict (00_mix): an int or a text -/
def kV : Key → V
  | .inl i => .int i
  | .inr x => .str x

/-- what stands at a tracked address -/
inductive HO where
  /-- a list -/
  | lst (xs : List V)
  /-- a tuple (never changes) -/
  | tup (xs : List V)
  /-- a dict whose keys are ints and texts; one whose keys are tuples of ints and texts (the empty one is both) -/
  | dK (kvs : List (Key × V)) | dT (kvs : List (List Key × V))
  /-- a set of ints: its members, its size -/
  | set (S : Int → Bool) (n : Nat)
  /-- an instance of the class at C, its dict at dx, its attributes -/
  | ins (C dx : Addr) (fs : List (Str × V))
  /-- the dict of the instance at x -/
  | own (x : Addr)
  /-- the dict of an exception -/
  | xd (fs : List (Str × V))
  /-- a bound method, f of x -/
  | met (f x : Addr)
  /-- a range object lo, lo + 1, .. below hi -/
  | rng (lo hi : Int)
  /-- a thing that is known to the object (the script; a dict while a loop walks it): read, never written while it is so -/
  | frz (o : Obj) (u : HO)
  /-- a code object's table -/
  | tbl (ps : Array Value)
  /-- any other thing, by what is true of its one object (a def of one's own: SetO a S n := HO.ext fun h => ..) -/
  | ext (φ : Heap → Prop)

abbrev Hp := Addr → Option HO
def upd (H : Hp) (a : Addr) (o : HO) : Hp := fun b => if b = a then some o else H b
theorem upd_same {H : Hp} {a : Addr} {o : HO} : upd H a o a = some o := by unfold upd; rw [if_pos rfl]
theorem upd_ne {H : Hp} {a b : Addr} {o : HO} (h : b ≠ a) : upd H a o b = H b := by unfold upd; rw [if_neg h]
/-- two objects of different content stand apart -/
theorem ne_of {H : Hp} {a b : Addr} {o u : HO} (h : H a = some o) (h' : H b = some u) (d : o ≠ u) : a ≠ b := by
  intro e; subst e; rw [h] at h'; exact d (Option.some.inj h')
theorem ne_of_none {H : Hp} {a b : Addr} {o : HO} (h : H a = some o) (h' : H b = none) : a ≠ b := by
  intro e; subst e; rw [h] at h'; cases h'

section
variable (P : Program) (w : World)
def ObjOk (H : Hp) (h : Heap) (a : Addr) : HO → Prop
  | .lst xs => xs.length ≤ sizeLine ∧ ∃ (its : List Value) (n : Nat), Vals xs its ∧ h.get? a = some { cls := .type "list", data := .seq its.toArray n }
  | .tup xs => xs.length ≤ sizeLine ∧ ∃ its : List Value, Vals xs its ∧ IsTup h a its.toArray
  | .dK kvs => kvs.length ≤ sizeLine ∧ (a == sysModules) = false ∧ ∃ vs, KV kvs vs ∧ h.DictOf (mixKind P w) a vs
  | .dT kvs => kvs.length ≤ sizeLine ∧ (a == sysModules) = false ∧ ∃ xs : List (List Key × Addr × Value),
      Paired (fun (p : List Key × V) (q : List Key × Addr × Value) => p.1 = q.1 ∧ H q.2.1 = some (.tup (p.1.map kV)) ∧ RelV p.2 q.2.2) kvs xs ∧
      ∃ o es ep, h.get? a = some o ∧ o.ExactDict ∧ o.data = .dict es ep ∧ es.toList = xs.map (entryOfKey (tupleKind (mixKind P w))) ∧ (xs.map (·.1)).Nodup
  | .set S n => h.SetOf (intKind P w) a S n
  | .ins C dx fs => H dx = some (.own a) ∧ fs.length ≤ 1000 ∧ dx ≠ a ∧ h.get? a = some (PySem.W.instObj C dx) ∧
      ∃ mA, h.Ns1 dx mA ∧ (∀ f, RelO (fs.lookup f) (mA f)) ∧ PySem.Within mA (fs.map (·.1))
  | .own _ => ∃ o, h.get? a = some o
  | .xd fs => ∃ mA, h.Ns1 a mA ∧ ∀ f, RelO (fs.lookup f) (mA f)
  | .rng lo hi => ∃ t u v, h.get? a = some { cls := .type "range", data := .fields #[.int lo t, .int hi u, .int 1 v] }
  | .frz o u => h.get? a = some o ∧ ObjOk H h a u
  | .tbl ps => h.get? a = some { cls := .none, data := .fields ps }
  | .met f x => h.get? a = some (PySem.W.methodObj (.ref f) (.ref x))
  | .ext φ => φ h ∧ (∃ o, h.get? a = some o) ∧ ∀ h1 h2 : Heap, φ h1 → (∀ o, h1.get? a = some o → h2.get? a = some o) → φ h2
/-- the abstract heap is held -/
def HOk (H : Hp) (h : Heap) : Prop := ∀ a o, H a = some o → ObjOk P w H h a o
end

section
variable {P : Program} {w : World} {H H' : Hp} {h h' : Heap} {a : Addr} {o : HO}
theorem ObjOk.lt (x : ObjOk P w H h a o) : a < h.objs.size := by
  cases o with
  | lst xs => obtain ⟨_, _, _, _, e⟩ := x; exact Heap.lt_size e
  | tup xs => obtain ⟨_, _, _, p⟩ := x; exact p.lt
  | dK kvs => obtain ⟨_, _, _, _, o, _, _, e, _⟩ := x; exact Heap.lt_size e
  | dT kvs => obtain ⟨_, _, _, _, o, _, _, e, _⟩ := x; exact Heap.lt_size e
  | set S n => obtain ⟨o, _, _, _, e, _⟩ := x; exact Heap.lt_size e
  | ins C dx fs => obtain ⟨_, _, _, e, _⟩ := x; exact Heap.lt_size e
  | own y => obtain ⟨_, e⟩ := x; exact Heap.lt_size e
  | xd fs => obtain ⟨_, ⟨_, _, _, e, _⟩, _⟩ := x; exact Heap.lt_size e
  | rng lo hi => obtain ⟨_, _, _, e⟩ := x; exact Heap.lt_size e
  | frz ob u => obtain ⟨e, _⟩ := x; exact Heap.lt_size e
  | tbl ps => exact Heap.lt_size (show h.get? a = some _ from x)
  | met f y => exact Heap.lt_size (show h.get? a = some _ from x)
  | ext φ => obtain ⟨_, ⟨_, e⟩, _⟩ := x; exact Heap.lt_size e
theorem Paired.mapP {α β : Type} {F G : α → β → Prop} : ∀ {l₁ : List α} {l₂ : List β}, Paired F l₁ l₂ → (∀ a b, F a b → G a b) → Paired G l₁ l₂
  | _, _, .nil, _ => .nil
  | _, _, .cons r t, f => .cons (f _ _ r) (Paired.mapP t f)
/-- what an object's description leans on: its own object, its own dict, the tuples -/
theorem ObjOk.stay (x : ObjOk P w H h a o) (k : ∀ b u, (b = a ∨ H b = some (.own a)) → h.get? b = some u → h'.get? b = some u)
    (ho : ∀ b, H b = some (.own a) → H' b = some (.own a)) (ht : ∀ b xs, H b = some (.tup xs) → H' b = some (.tup xs)) : ObjOk P w H' h' a o := by
  induction o with
  | lst xs => obtain ⟨z, its, n, r, e⟩ := x; exact ⟨z, its, n, r, k _ _ (.inl rfl) e⟩
  | tup xs => obtain ⟨z, its, r, ob, e, c⟩ := x; exact ⟨z, its, r, ob, k _ _ (.inl rfl) e, c⟩
  | dK kvs => obtain ⟨z, y, vs, r, ob, es, ep, e, c⟩ := x; exact ⟨z, y, vs, r, ob, es, ep, k _ _ (.inl rfl) e, c⟩
  | dT kvs =>
    obtain ⟨z, y, xs, r, ob, es, ep, e, c⟩ := x
    exact ⟨z, y, xs, Paired.mapP r fun p q z => ⟨z.1, ht _ _ z.2.1, z.2.2⟩, ob, es, ep, k _ _ (.inl rfl) e, c⟩
  | set S n => obtain ⟨ob, es, ep, t, e, c⟩ := x; exact ⟨ob, es, ep, t, k _ _ (.inl rfl) e, c⟩
  | ins C dx fs =>
    obtain ⟨d, z, ne, e, mA, ⟨od, es, ep, e2, c⟩, r⟩ := x
    exact ⟨ho _ d, z, ne, k _ _ (.inl rfl) e, mA, ⟨od, es, ep, k _ _ (.inr d) e2, c⟩, r⟩
  | own y => obtain ⟨ob, e⟩ := x; exact ⟨ob, k _ _ (.inl rfl) e⟩
  | xd fs => obtain ⟨mA, ⟨od, es, ep, e, c⟩, r⟩ := x; exact ⟨mA, ⟨od, es, ep, k _ _ (.inl rfl) e, c⟩, r⟩
  | rng lo hi => obtain ⟨t, u, v, e⟩ := x; exact ⟨t, u, v, k _ _ (.inl rfl) e⟩
  | frz ob u ih => obtain ⟨e, q⟩ := x; exact ⟨k _ _ (.inl rfl) e, ih q⟩
  | tbl ps =>
    have e : h.get? a = some { cls := .none, data := .fields ps } := x
    show h'.get? a = some { cls := .none, data := .fields ps }
    exact k a _ (.inl rfl) e
  | met f y =>
    have e : h.get? a = some (PySem.W.methodObj (.ref f) (.ref y)) := x
    show h'.get? a = some (PySem.W.methodObj (.ref f) (.ref y))
    exact k a _ (.inl rfl) e
  | ext φ => obtain ⟨p, ⟨o, e⟩, st⟩ := x; exact ⟨st _ _ p fun o q => k _ _ (.inl rfl) q, ⟨o, k _ _ (.inl rfl) e⟩, st⟩
theorem HOk.lt (x : HOk P w H h) (e : H a = some o) : a < h.objs.size := (x a o e).lt
theorem HOk.fresh (x : HOk P w H h) (e : h.objs.size ≤ a) : H a = none := by
  cases q : H a with
  | none => rfl
  | some u => exact absurd (Nat.lt_of_lt_of_le (x.lt q) e) (Nat.lt_irrefl _)
/-- every object of the heap is kept -/
theorem HOk.kept (x : HOk P w H h) (k : ∀ b u, h.get? b = some u → h'.get? b = some u) : HOk P w H h' := fun a o e =>
  (x a o e).stay (fun b u _ q => k b u q) (fun _ q => q) fun _ _ q => q
/-- a new object is laid and tracked -/
theorem HOk.laid (x : HOk P w H h) (k : ∀ b u, h.get? b = some u → h'.get? b = some u) (hp : h.objs.size ≤ a) (new : ObjOk P w (upd H a o) h' a o) : HOk P w (upd H a o) h' := fun b u e => by
  have hn := x.fresh hp
  by_cases hb : b = a
  · subst hb; rw [upd_same] at e; cases e; exact new
  · rw [upd_ne hb] at e
    exact (x b u e).stay (fun c v _ q => k c v q) (fun c q => by rw [upd_ne (ne_of_none q hn)]; exact q) fun c xs q => by rw [upd_ne (ne_of_none q hn)]; exact q
end

/-- what may be read as u: it is u, or a known u -/
def Rd (H : Hp) (a : Addr) (u : HO) : Prop := H a = some u ∨ ∃ o, H a = some (.frz o u)
theorem Rd.ok {P : Program} {w : World} {H : Hp} {h : Heap} {a : Addr} {u : HO} (r : Rd H a u) (x : HOk P w H h) : ObjOk P w H h a u := by
  rcases r with r | ⟨o, r⟩
  · exact x a u r
  · obtain ⟨_, q⟩ := x a _ r
    exact q
/-- what may be written -/
def Mut : Option HO → Prop
  | some (.lst _) => True
  | some (.dK _) => True
  | some (.dT _) => True
  | some (.set _ _) => True
  | some (.ins _ _ _) => True
  | some (.ext _) => True
  | _ => False
section
variable {P : Program} {w : World} {H : Hp} {h h' : Heap} {x e : Addr} {o' : HO}
/-- the object at e is changed: x itself, or the dict of the instance x -/
theorem HOk.write (ok : HOk P w H h) (mu : Mut (H x)) (he : e = x ∨ H e = some (.own x)) (k : ∀ b u, b ≠ e → h.get? b = some u → h'.get? b = some u) (heo : ∃ u, h'.get? e = some u)
    (new : ObjOk P w (upd H x o') h' x o') : HOk P w (upd H x o') h' := fun b u q => by
  have nown : ∀ c y, H c = some (.own y) → c ≠ x := fun c y r z => by subst z; rw [r] at mu; exact mu
  have ntup : ∀ c xs, H c = some (.tup xs) → c ≠ x := fun c xs r z => by subst z; rw [r] at mu; exact mu
  by_cases hb : b = x
  · subst hb; rw [upd_same] at q; cases q; exact new
  · rw [upd_ne hb] at q
    by_cases hbe : b = e
    · have q' : H b = some (.own x) := by
        rcases he with z | z
        · exact absurd (hbe.trans z) hb
        · rw [hbe]; exact z
      rw [q] at q'; cases q'
      obtain ⟨v, hv⟩ := heo
      exact ⟨v, by rw [hbe]; exact hv⟩
    · refine (ok b u q).stay (fun c v hc r => k c v ?_ r) (fun c r => by rw [upd_ne (nown c b r)]; exact r) fun c xs r => by rw [upd_ne (ntup c xs r)]; exact r
      rcases hc with rfl | hc
      · exact hbe
      · rintro rfl
        rcases he with z | z
        · exact nown c b hc z
        · rw [hc] at z; cases z; exact hb rfl
end

/-! ### kept unless tracked; of the frames at fs (the callers') the slots may change (an exception that passes writes there); of the records at ex (iterators) nothing is said -/
structure Un (fs ex : List Addr) (H H' : Hp) (h h' : Heap) : Prop where
  keep : ∀ b o, h.get? b = some o → H b = none → b ∉ fs → b ∉ ex → h'.get? b = some o
  slot : ∀ b o, h.get? b = some o → H b = none → b ∈ fs → b ∉ ex → ∃ sl, h'.get? b = some { o with slots := sl }
  free : ∀ b o, h.get? b = some o → H b = none → b ∉ ex → H' b = none
  there : ∀ b o, h.get? b = some o → b ∉ ex → ∃ o', h'.get? b = some o'
  tups : ∀ b xs, H b = some (.tup xs) → H' b = some (.tup xs)
  frzs : ∀ b o u, H b = some (.frz o u) → H' b = some (.frz o u)
  tbls : ∀ b ps, H b = some (.tbl ps) → ∃ more, H' b = some (.tbl (ps ++ more))
section
variable {fs fs' ex ex' : List Addr} {H H1 H2 : Hp} {h h1 h2 h' : Heap} {a x e : Addr} {o : HO}
theorem Un.any (u : Un fs ex H H1 h h1) {b : Addr} {ob : Obj} (q : h.get? b = some ob) (n : H b = none) (hx : b ∉ ex) : ∃ sl, h1.get? b = some { ob with slots := sl } := by
  by_cases hb : b ∈ fs
  · exact u.slot b ob q n hb hx
  · exact ⟨ob.slots, u.keep b ob q n hb hx⟩
theorem Un.kept (k : ∀ b u, h.get? b = some u → h'.get? b = some u) : Un fs ex H H h h' :=
  ⟨fun b ob q _ _ _ => k b ob q, fun b ob q _ _ _ => ⟨ob.slots, k b ob q⟩, fun _ _ _ n _ => n, fun b ob q _ => ⟨ob, k b ob q⟩, fun _ _ q => q, fun _ _ _ q => q, fun _ ps q => ⟨#[], by rw [q]; simp⟩⟩
theorem Un.refl : Un fs ex H H h h := Un.kept fun _ _ q => q
theorem Un.laid (k : ∀ b u, h.get? b = some u → h'.get? b = some u) (hp : h.objs.size ≤ a) (hn : H a = none) : Un fs ex H (upd H a o) h h' where
  keep := fun b u q _ _ _ => k b u q
  slot := fun b u q _ _ _ => ⟨u.slots, k b u q⟩
  free := fun b u q n _ => by rw [upd_ne (Nat.ne_of_lt (Nat.lt_of_lt_of_le (Heap.lt_size q) hp))]; exact n
  there := fun b u q _ => ⟨u, k b u q⟩
  tups := fun b xs q => by rw [upd_ne (ne_of_none q hn)]; exact q
  frzs := fun b u xs q => by rw [upd_ne (ne_of_none q hn)]; exact q
  tbls := fun b ps q => ⟨#[], by rw [upd_ne (ne_of_none q hn), q]; simp⟩
theorem Un.write (mu : Mut (H x)) (he : e = x ∨ H e = some (.own x)) (k : ∀ b u, b ≠ e → h.get? b = some u → h'.get? b = some u) (heo : ∃ u, h'.get? e = some u) : Un fs ex H (upd H x o) h h' := by
  have hx : ∀ b, H b = none → b ≠ x := fun b n z => by subst z; rw [n] at mu; exact mu
  have hb : ∀ b, H b = none → b ≠ e := fun b n z => by
    subst z
    rcases he with r | r
    · exact hx b n r
    · rw [n] at r; cases r
  have hm : ∀ b u, H b = some u → ¬ Mut (some u) → b ≠ x := fun b u q nm z => by subst z; rw [q] at mu; exact nm mu
  refine ⟨fun b u q n _ _ => k b u (hb b n) q, fun b u q n _ _ => ⟨u.slots, k b u (hb b n) q⟩, fun b u q n _ => by rw [upd_ne (hx b n)]; exact n, fun b u q _ => ?_,
    fun b xs q => by rw [upd_ne (hm b _ q fun z => z)]; exact q, fun b u xs q => by rw [upd_ne (hm b _ q fun z => z)]; exact q, fun b ps q => ⟨#[], by rw [upd_ne (hm b _ q fun z => z), q]; simp⟩⟩
  by_cases hbe : b = e
  · subst hbe; exact heo
  · exact ⟨u, k b u hbe q⟩
end

/-! ### the heap without what is tracked -/
def trk (h : Heap) (H : Hp) : List Addr := (List.range h.objs.size).filter fun a => (H a).isSome
def hidT (h : Heap) (H : Hp) : Heap := PySem.W.hideAll h (trk h H)
theorem hidT_size (h : Heap) (H : Hp) : (hidT h H).objs.size = h.objs.size := PySem.W.hideAll_size _ _
theorem hidT_get {h : Heap} {H : Hp} {b : Addr} {o : Obj} (e : h.get? b = some o) (n : H b = none) : (hidT h H).get? b = some o :=
  PySem.W.hideAll_get _ e fun hm => by
    have q : (H b).isSome = true := (List.mem_filter.mp hm).2
    rw [n] at q; simp at q
theorem of_hidT {h : Heap} {H : Hp} {b : Addr} {o : Obj} (e : (hidT h H).get? b = some o) : h.get? b = some o ∧ H b = none := by
  have e' : h.get? b = some o := PySem.W.of_hideAll (trk h H) e
  refine ⟨e', ?_⟩
  cases q : H b with
  | none => rfl
  | some x =>
    have hm : b ∈ trk h H := List.mem_filter.mpr ⟨List.mem_range.mpr (Heap.lt_size e'), by simp [q]⟩
    have z : (hidT h H).get? b = none := PySem.W.hideAll_none (trk h H) hm
    rw [z] at e; cases e

/-! ### OpenK's ledger, filled with every new object but one -/
def allNews (g h : Heap) (L : Addr) : List (Addr × Obj) := (List.range h.objs.size).filterMap fun a => if a = L ∨ (g.get? a).isSome = true then none else (h.get? a).map fun o => (a, o)
def rest (g h : Heap) (L d : Addr) : List (Addr × Obj) := (allNews g h L).filter fun p => decide (p.1 ≠ d)
end L2

namespace L2
open PySem PySem.Spec PyProof.Rows

/-- the module's facts, over the base: the heap at the law's entry without what is tracked there -/
structure Mod (K : PySem.W.Frag) (mg : Str → Option Value) (base : Heap) : Prop where
  kin : K.In base
  glob : base.Ns mainGlobals mg
  blt : ∃ mb, base.Ns builtinsNs mb ∧ ∀ x : Str, x ≠ "__name__" → mb x = bootBuiltins x
  nolimit : base.NoLimit

/-- the context: a def's body (or a comprehension's block) running. base: fixed through the whole law; s₀, H₀: the entry; outer: the frames whose slots others may change (a def's callers); stack: all frames that run;
   ex: iterators that were made ahead of the entry and are walked here (a comprehension's); fn: the names whose cells were made at the entry (a def: all; a comprehension's block: its own); calm: not within an except suite; pn: pins that every state bears; xe: what is wanted of an exception that leaves the code -/
structure Cx where
  prog : Program
  w : World
  K : PySem.W.Frag
  mg : Str → Option Value
  base : Heap
  A : Around
  N : List Str
  s₀ : Shared
  H₀ : Hp
  env : Env
  outer : List Env
  stack : List Env
  ex : List Addr
  fn : Str → Bool
  calm : Bool
  pn : List (Addr × Obj)
  xe : Value → Shared → Prop
/-- the callers' frames -/
def frs (l : List Env) : List Addr := l.filterMap (·.frame)
abbrev Cx.fs (X : Cx) : List Addr := frs X.outer

def Vis (sc : Scope) (x : Str) : Prop := sc.names.lookup x = some .local ∨ sc.names.lookup x = some .cell ∨ sc.names.lookup x = some .free
def Loc (sc : Scope) (x : Str) : Prop := sc.names.lookup x = some .local ∨ sc.names.lookup x = some .cell
def Look (env : Env) (h : Heap) (m : Str → Option Value) (x : Str) (u : Value) : Prop :=
  (env.kindOf x = some .local ∧ m x = some u) ∨ ((env.kindOf x = some .cell ∨ env.kindOf x = some .free) ∧ ∃ c, env.cells.lookup x = some c ∧ h.IsCell c (some u))

structure Cx.Ok (X : Cx) : Prop where
  mod : Mod X.K X.mg X.base
  kind : X.env.scope.kind = .function
  glob : X.env.globals = mainGlobals
  blt : X.env.builtins = builtinsNs
  above : X.s₀.heap.objs.size ≤ X.env.locals
  inj : ∀ x y c, X.env.cells.lookup x = some c → X.env.cells.lookup y = some c → x = y
  has : ∀ x, (X.env.kindOf x = some .cell ∨ X.env.kindOf x = some .free) → ∃ c, X.env.cells.lookup x = some c
  cab : ∀ x c, X.fn x = true → X.env.cells.lookup x = some c → X.s₀.heap.objs.size ≤ c
  hd : X.calm = true → X.A.handled = none
  frames : X.A.frames = some X.stack
  stk : X.stack = X.outer ∨ (X.stack = X.env :: X.outer ∧ X.env.frame = some X.env.locals)
  exf : ∀ b ∈ X.ex, b ≠ X.env.locals ∧ ∀ x c, X.env.cells.lookup x = some c → c ≠ b
  bs : ∀ b o, X.base.get? b = some o → X.s₀.heap.get? b = some o ∧ X.H₀ b = none
  bsz : X.base.objs.size ≤ X.s₀.heap.objs.size
  noex : ∀ b o, X.base.get? b = some o → b ∉ X.ex
  exfs : ∀ b ∈ X.ex, b ∉ X.fs
  funs : X.s₀.heap.FunFrames X.base X.outer
  frf : ∀ b ∈ X.fs, X.H₀ b = none

structure Inv (X : Cx) (pins : List (Addr × Obj)) (σ : List (Option V)) (H : Hp) (s : Shared) : Prop where
  ok : X.Ok
  os : s.os = X.s₀.os
  bare : AllBare s.gens
  base : Un X.fs X.ex X.H₀ H X.s₀.heap s.heap
  loc : ∃ m, s.heap.Ns X.env.locals m ∧ ∀ (i : Nat) (x : Str) (v : V), X.N[i]? = some x → σ[i]? = some (some v) → Vis X.env.scope x → ∃ u, RelV v u ∧ Look X.env s.heap m x u
  cell : ∀ x c, X.env.cells.lookup x = some c → ∃ v, s.heap.IsCell c v
  free : H X.env.locals = none
  freeC : ∀ x c, X.env.cells.lookup x = some c → H c = none
  pin : ∀ p ∈ X.pn ++ pins, s.heap.get? p.1 = some p.2 ∧ H p.1 = none ∧ p.1 ≠ X.env.locals ∧ p.1 ∉ X.fs ∧ ∀ v, p.2.data ≠ .cell v
  hok : HOk X.prog X.w H s.heap
  len : σ.length = X.N.length

section
variable {X : Cx} {pins : List (Addr × Obj)} {σ : List (Option V)} {H H' : Hp} {s : Shared} {h' : Heap}

theorem Cx.Ok.nofr (ok : X.Ok) {b : Addr} {o : Obj} (e : X.base.get? b = some o) : b ∉ X.fs := fun hb => by
  have := (ok.funs.mem hb).1
  rw [e] at this; cases this
theorem Inv.bs (I : Inv X pins σ H s) : ∀ b o, X.base.get? b = some o → s.heap.get? b = some o ∧ H b = none := fun b o e =>
  ⟨I.base.keep b o (I.ok.bs b o e).1 (I.ok.bs b o e).2 (I.ok.nofr e) (I.ok.noex b o e), I.base.free b o (I.ok.bs b o e).1 (I.ok.bs b o e).2 (I.ok.noex b o e)⟩
theorem Inv.bk (I : Inv X pins σ H s) : ∀ b o, X.base.get? b = some o → s.heap.get? b = some o := fun b o e => (I.bs b o e).1
theorem Inv.mod (I : Inv X pins σ H s) : Mod X.K X.mg X.base := I.ok.mod
theorem Inv.kIn (I : Inv X pins σ H s) : X.K.In s.heap := I.ok.mod.kin.keeps I.bk
theorem Inv.lt (I : Inv X pins σ H s) : X.env.locals < s.heap.objs.size := let ⟨_, hn, _⟩ := I.loc; hn.lt
theorem Inv.sz (I : Inv X pins σ H s) : X.s₀.heap.objs.size ≤ s.heap.objs.size := Nat.le_trans I.ok.above (Nat.le_of_lt I.lt)
theorem Inv.nofs (I : Inv X pins σ H s) {a : Addr} (h : s.heap.objs.size ≤ a) : a ∉ X.fs := fun hb => by
  obtain ⟨_, o, ho, _⟩ := I.ok.funs.mem hb
  exact absurd (Nat.lt_of_lt_of_le (Heap.lt_size ho) (Nat.le_trans I.sz h)) (Nat.lt_irrefl _)
theorem Inv.cne (I : Inv X pins σ H s) : ∀ x c, X.env.cells.lookup x = some c → c ≠ X.env.locals := fun x c e z => by
  obtain ⟨v, o, ho, hd⟩ := I.cell x c e
  obtain ⟨m, ⟨o', es, ep, ho', hd', _⟩, _⟩ := I.loc
  rw [z, ho'] at ho; cases ho; rw [hd'] at hd; cases hd
theorem Inv.funs (I : Inv X pins σ H s) : s.heap.FunFrames X.base X.outer := by
  have all : ∀ (l : List Env), (∀ b ∈ frs l, b ∈ X.fs) → X.s₀.heap.FunFrames X.base l → s.heap.FunFrames X.base l := by
    intro l
    induction l with
    | nil => intro _ _; trivial
    | cons env r ih =>
      intro hs hl
      obtain ⟨hk, ⟨L, o, hf, hn, ho, hd⟩, hr⟩ := hl
      have hL : L ∈ X.fs := hs L (by unfold frs; rw [List.filterMap_cons, hf]; exact List.mem_cons_self)
      obtain ⟨sl, e⟩ := I.base.slot L o ho (I.ok.frf L hL) hL fun z => I.ok.exfs L z hL
      exact ⟨hk, ⟨L, _, hf, hn, e, hd⟩, ih (fun b hb => hs b (by unfold frs; rw [List.filterMap_cons, hf]; exact List.mem_cons_of_mem _ hb)) hr⟩
  exact all X.outer (fun _ hb => hb) I.ok.funs

/-- the frames that run, for a call -/
theorem Inv.stack (I : Inv X pins σ H s) : s.heap.FunFrames X.base X.stack := by
  rcases I.ok.stk with e | ⟨e, hf⟩
  · rw [e]; exact I.funs
  · rw [e]
    obtain ⟨m, hn, _⟩ := I.loc
    refine .cons (by rw [I.ok.kind]; decide) hf hn ?_ I.funs
    exact Heap.get?_none_of_le (Nat.le_trans I.ok.bsz I.ok.above)
theorem Inv.stkSub (I : Inv X pins σ H s) : ∀ b ∈ frs X.stack, b ∈ X.env.locals :: X.fs := fun b hb => by
  rcases I.ok.stk with e | ⟨e, hf⟩
  · rw [e] at hb; exact List.mem_cons_of_mem _ hb
  · rw [e] at hb
    unfold frs at hb
    rw [List.filterMap_cons, hf] at hb
    exact hb
theorem Inv.stkFree (I : Inv X pins σ H s) : ∀ b ∈ frs X.stack, H b = none := fun b hb => by
  rcases List.mem_cons.mp (I.stkSub b hb) with e | hb
  · rw [e]; exact I.free
  · obtain ⟨_, o, ho, _⟩ := I.ok.funs.mem hb
    exact I.base.free b o ho (I.ok.frf b hb) fun z => I.ok.exfs b z hb

/-- THE STEP: the untracked objects but the frame and the records at ch are kept (the callers' frames up to slots), the frame's map is kept, the new abstract heap is held -/
theorem Inv.step {g' : Array GenState} {t' : Nat} {d' : Drawn} {ch : List Addr} (I : Inv X pins σ H s)
    (hch : ∀ b ∈ ch, (b ∈ X.ex ∨ X.s₀.heap.objs.size ≤ b) ∧ b ≠ X.env.locals ∧ (∀ x c, X.env.cells.lookup x = some c → c ≠ b) ∧ ∀ p ∈ X.pn ++ pins, p.1 ≠ b)
    (keep : ∀ b o, b ≠ X.env.locals → b ∉ X.fs → b ∉ ch → s.heap.get? b = some o → H b = none → h'.get? b = some o)
    (slot : ∀ b o, b ≠ X.env.locals → b ∈ X.fs → b ∉ ch → s.heap.get? b = some o → H b = none → ∃ sl, h'.get? b = some { o with slots := sl }) (free : ∀ b o, b ∉ ch → s.heap.get? b = some o → H b = none → H' b = none)
    (there : ∀ b o, b ∉ ch → s.heap.get? b = some o → ∃ o', h'.get? b = some o')
    (tups : ∀ b xs, H b = some (.tup xs) → H' b = some (.tup xs)) (frzs : ∀ b o u, H b = some (.frz o u) → H' b = some (.frz o u)) (tbls : ∀ b ps, H b = some (.tbl ps) → ∃ more, H' b = some (.tbl (ps ++ more)))
    (ns : ∀ m, s.heap.Ns X.env.locals m → h'.Ns X.env.locals m) (hok : HOk X.prog X.w H' h') (hg : AllBare g') :
    Inv X pins σ H' { s with heap := h', gens := g', drawn := d', toks := t' } := by
  have neL : ∀ b o, X.s₀.heap.get? b = some o → b ≠ X.env.locals := fun b o e => Nat.ne_of_lt (Nat.lt_of_lt_of_le (Heap.lt_size e) I.ok.above)
  have neC : ∀ b o, X.s₀.heap.get? b = some o → b ∉ X.ex → b ∉ ch := fun b o e hx hb => by
    rcases (hch b hb).1 with z | z
    · exact hx z
    · exact absurd (Nat.lt_of_lt_of_le (Heap.lt_size e) z) (Nat.lt_irrefl _)
  have cellK : ∀ x c, X.env.cells.lookup x = some c → ∀ v, s.heap.IsCell c v → h'.IsCell c v := fun x c e v ⟨o, ho, hd⟩ => by
    have nch : c ∉ ch := fun z => (hch c z).2.2.1 x c e rfl
    by_cases hc : c ∈ X.fs
    · obtain ⟨sl, q⟩ := slot c o (I.cne x c e) hc nch ho (I.freeC x c e)
      exact ⟨_, q, hd⟩
    · exact ⟨o, keep c o (I.cne x c e) hc nch ho (I.freeC x c e), hd⟩
  refine ⟨I.ok, I.os, hg, ⟨fun b o e n hb hx => ?_, fun b o e n hb hx => ?_, fun b o e n hx => ?_, fun b o e hx => ?_, fun b xs e => tups b xs (I.base.tups b xs e), fun b o xs e => frzs b o xs (I.base.frzs b o xs e), fun b ps e => ?_⟩, ?_, fun x c e => ?_, ?_, fun x c e => ?_, fun p hp => ?_, hok, I.len⟩
  · exact keep b o (neL b o e) hb (neC b o e hx) (I.base.keep b o e n hb hx) (I.base.free b o e n hx)
  · obtain ⟨sl, e1⟩ := I.base.slot b o e n hb hx
    obtain ⟨sl', e2⟩ := slot b _ (neL b o e) hb (neC b o e hx) e1 (I.base.free b o e n hx)
    exact ⟨sl', e2⟩
  · obtain ⟨o', e1⟩ := I.base.there b o e hx
    exact free b o' (neC b o e hx) e1 (I.base.free b o e n hx)
  · obtain ⟨o', e1⟩ := I.base.there b o e hx
    exact there b o' (neC b o e hx) e1
  · obtain ⟨m1, e1⟩ := I.base.tbls b ps e
    obtain ⟨m2, e2⟩ := tbls b _ e1
    exact ⟨m1 ++ m2, by rw [e2, Array.append_assoc]⟩
  · obtain ⟨m, hn, hl⟩ := I.loc
    refine ⟨m, ns m hn, fun i x v e1 e2 e3 => ?_⟩
    obtain ⟨u, r, l⟩ := hl i x v e1 e2 e3
    refine ⟨u, r, ?_⟩
    rcases l with l | ⟨k, c, e, z⟩
    · exact .inl l
    · exact .inr ⟨k, c, e, cellK x c e _ z⟩
  · obtain ⟨v, z⟩ := I.cell x c e
    exact ⟨v, cellK x c e v z⟩
  · obtain ⟨m, ⟨o, _, _, ho, _⟩, _⟩ := I.loc
    exact free _ o (fun z => (hch _ z).2.1 rfl) ho I.free
  · obtain ⟨v, o, ho, hd⟩ := I.cell x c e
    exact free c o (fun z => (hch c z).2.2.1 x c e rfl) ho (I.freeC x c e)
  · obtain ⟨e, n, ne, nf, d⟩ := I.pin p hp
    have nch : p.1 ∉ ch := fun z => (hch p.1 z).2.2.2 p hp rfl
    exact ⟨keep p.1 p.2 ne nf nch e n, free p.1 p.2 nch e n, ne, nf, d⟩
/-- .. where the frame's own object is kept too -/
theorem Inv.un {t' : Nat} (I : Inv X pins σ H s) (u : Un X.fs [] H H' s.heap h') (hok : HOk X.prog X.w H' h') : Inv X pins σ H' { s with heap := h', toks := t' } := by
  obtain ⟨m, ⟨o, es, ep, ho, r⟩, _⟩ := id I.loc
  obtain ⟨sl, hL⟩ := u.any ho I.free (by simp)
  exact I.step (g' := s.gens) (d' := s.drawn) (ch := []) (fun _ z => nomatch z) (fun b o _ hb _ e n => u.keep b o e n hb (by simp)) (fun b o _ hb _ e n => u.slot b o e n hb (by simp)) (fun b o _ e n => u.free b o e n (by simp)) (fun b o _ e => u.there b o e (by simp)) u.tups u.frzs u.tbls (fun m' hm => by
    obtain ⟨o', es', ep', ho', r'⟩ := hm
    rw [ho] at ho'; cases ho'
    exact ⟨_, es', ep', hL, r'⟩) hok I.bare
/-- behind a call (or a comprehension's block): the slots of this frame may have changed too, the records at ch may have turned -/
theorem Inv.call {g' : Array GenState} {t' : Nat} {d' : Drawn} {ch : List Addr} (I : Inv X pins σ H s) (u : Un (frs X.stack) ch H H' s.heap h') (hok : HOk X.prog X.w H' h') (hg : AllBare g')
    (hch : ∀ b ∈ ch, (b ∈ X.ex ∨ X.s₀.heap.objs.size ≤ b) ∧ b ≠ X.env.locals ∧ (∀ x c, X.env.cells.lookup x = some c → c ≠ b) ∧ ∀ p ∈ X.pn ++ pins, p.1 ≠ b) :
    Inv X pins σ H' { s with heap := h', gens := g', drawn := d', toks := t' } := by
  obtain ⟨m, ⟨o, es, ep, ho, r⟩, _⟩ := id I.loc
  obtain ⟨sl, hL⟩ := u.any ho I.free fun z => (hch _ z).2.1 rfl
  exact I.step (ch := ch) hch (fun b o hL hb hc e n => u.keep b o e n (fun z => (List.mem_cons.mp (I.stkSub b z)).elim hL hb) hc) (fun b o _ _ hc e n => u.any e n hc) (fun b o hc e n => u.free b o e n hc) (fun b o hc e => u.there b o e hc) u.tups u.frzs u.tbls (fun m' hm => by
    obtain ⟨o', es', ep', ho', r'⟩ := hm
    rw [ho] at ho'; cases ho'
    exact ⟨_, es', ep', hL, r'⟩) hok hg
/-- an untracked record of ours (an iterator) has turned -/
theorem Inv.turned {t' : Nat} {it : Addr} (I : Inv X pins σ H s) (k : ∀ b o, b ≠ it → s.heap.get? b = some o → h'.get? b = some o) (hn : H it = none) (hL : it ≠ X.env.locals)
    (h1 : it ∈ X.ex ∨ X.s₀.heap.objs.size ≤ it) (h2 : ∀ x c, X.env.cells.lookup x = some c → c ≠ it) (h3 : ∀ p ∈ X.pn ++ pins, p.1 ≠ it) : Inv X pins σ H { s with heap := h', toks := t' } := by
  have nit : ∀ b u, H b = some u → b ≠ it := fun b u e z => by rw [z, hn] at e; cases e
  refine I.step (g' := s.gens) (d' := s.drawn) (ch := [it]) (fun b hb => ?_) (fun b o _ _ hc e _ => k b o (fun z => hc (by simp [z])) e) (fun b o _ _ hc e _ => ⟨o.slots, k b o (fun z => hc (by simp [z])) e⟩) (fun _ _ _ _ n => n)
    (fun b o hc e => ⟨o, k b o (fun z => hc (by simp [z])) e⟩) (fun _ _ e => e) (fun _ _ _ e => e) (fun b ps e => ⟨#[], by rw [e]; simp⟩) (fun m hm => ?_) (fun b u e => ?_) I.bare
  · have e : b = it := by simpa using hb
    subst e
    exact ⟨h1, hL, h2, h3⟩
  · obtain ⟨o, es, ep, ho, r⟩ := hm
    exact ⟨o, es, ep, k _ o (Ne.symm hL) ho, r⟩
  · refine (I.hok b u e).stay (fun c v hc q => k c v ?_ q) (fun _ q => q) fun _ _ q => q
    rcases hc with z | z
    · rw [z]; exact nit b u e
    · exact nit c _ z
theorem Inv.tok (I : Inv X pins σ H s) (t : Nat) : Inv X pins σ H { s with toks := t } := I.un (h' := s.heap) (t' := t) Un.refl I.hok
/-- all objects kept -/
theorem Inv.kept {t' : Nat} (I : Inv X pins σ H s) (k : ∀ b u, s.heap.get? b = some u → h'.get? b = some u) : Inv X pins σ H { s with heap := h', toks := t' } := I.un (Un.kept k) (I.hok.kept k)
/-- a new object laid and tracked -/
theorem Inv.laid {a : Addr} {o : HO} {t' : Nat} (I : Inv X pins σ H s) (k : ∀ b u, s.heap.get? b = some u → h'.get? b = some u) (hp : s.heap.objs.size ≤ a) (new : ObjOk X.prog X.w (upd H a o) h' a o) :
    Inv X pins σ (upd H a o) { s with heap := h', toks := t' } := I.un (Un.laid k hp (I.hok.fresh hp)) (I.hok.laid k hp new)
/-- an object written -/
theorem Inv.write {x e : Addr} {o : HO} {t' : Nat} (I : Inv X pins σ H s) (mu : Mut (H x)) (he : e = x ∨ H e = some (.own x)) (k : ∀ b u, b ≠ e → s.heap.get? b = some u → h'.get? b = some u) (heo : ∃ u, h'.get? e = some u)
    (new : ObjOk X.prog X.w (upd H x o) h' x o) : Inv X pins σ (upd H x o) { s with heap := h', toks := t' } := I.un (Un.write mu he k heo) (I.hok.write mu he k heo new)
theorem Inv.pins_of {pins' : List (Addr × Obj)} (I : Inv X pins σ H s) (h : ∀ p ∈ pins', s.heap.get? p.1 = some p.2 ∧ H p.1 = none ∧ p.1 ≠ X.env.locals ∧ p.1 ∉ X.fs ∧ ∀ v, p.2.data ≠ .cell v) : Inv X pins' σ H s :=
  ⟨I.ok, I.os, I.bare, I.base, I.loc, I.cell, I.free, I.freeC, fun p hp => (List.mem_append.mp hp).elim (fun z => I.pin p (List.mem_append_left _ z)) (h p), I.hok, I.len⟩

theorem nodup_ix {N : List Str} (hN : N.Nodup) {i j : Nat} {x : Str} (a : N[i]? = some x) (b : N[j]? = some x) : i = j := by
  obtain ⟨h1, e1⟩ := List.getElem?_eq_some_iff.mp a
  obtain ⟨h2, e2⟩ := List.getElem?_eq_some_iff.mp b
  exact (List.getElem_inj hN).mp (e1.trans e2.symm)

/-- a name is stored; what changed -/
theorem store_ok2 {M : Model} {A : Around} {E : Value → Shared → Prop} {i : Nat} {x : Str} {v : V} {u : Value} {Q : Unit → Shared → Prop} (I : Inv X pins σ H s) (hN : X.N.Nodup) (hi : X.N[i]? = some x) (hx : Loc X.env.scope x) (r : RelV v u)
    (h : ∀ s', Inv X pins (σ.set i (some v)) H s' → (∃ a, Heap.SameBut a s.heap s'.heap ∧ (a = X.env.locals ∨ X.env.cells.lookup x = some a)) → Q () s') (hf : X.fn x = true ∨ X.env.scope.names.lookup x = some .local := by first | exact .inl rfl | exact .inr rfl | assumption) : wpAny M A (storeName X.env x u) Q E s := by
  obtain ⟨m, hn, hl⟩ := id I.loc
  have hcls : (X.env.scope.kind == .class || (X.env.scope.kind == .module && X.env.locals != X.env.globals)) = false := by rw [I.ok.kind]; rfl
  have hiσ : i < σ.length := by rw [I.len]; exact (List.getElem?_eq_some_iff.mp hi).1
  have cne := I.cne
  have tracked : ∀ {a : Addr} {h' : Heap}, (∃ o, s.heap.get? a = some o ∧ H a = none) → Heap.SameBut a s.heap h' → HOk X.prog X.w H h' := fun {a h'} ha hs b ob e => by
    obtain ⟨_, _, hfree⟩ := ha
    refine (I.hok b ob e).stay (fun c w' hc q => (hs.2 c ?_).trans q) (fun _ q => q) fun _ _ q => q
    rintro rfl
    rcases hc with rfl | hc
    · rw [hfree] at e; cases e
    · rw [hfree] at hc; cases hc
  rcases hx with hk | hk
  · refine wpAny_storeName_local hk hn (fun h' hn' hs => ?_) hcls
    obtain ⟨oL, _, _, hoL, _⟩ := id hn
    refine h _ ⟨I.ok, I.os, I.bare, ⟨fun b o e n hb hx => ?_, fun b o e n hb hx => ?_, I.base.free, fun b o e hx => ?_, I.base.tups, I.base.frzs, I.base.tbls⟩, ⟨_, hn', fun j y v' e1 e2 e3 => ?_⟩, fun y c e => ?_, I.free, I.freeC, fun p hp => ?_, tracked ⟨oL, hoL, I.free⟩ hs, by simpa using I.len⟩ ⟨_, hs, .inl rfl⟩
    · exact (hs.2 b (Nat.ne_of_lt (Nat.lt_of_lt_of_le (Heap.lt_size e) I.ok.above))).trans (I.base.keep b o e n hb hx)
    · obtain ⟨sl, e1⟩ := I.base.slot b o e n hb hx
      exact ⟨sl, (hs.2 b (Nat.ne_of_lt (Nat.lt_of_lt_of_le (Heap.lt_size e) I.ok.above))).trans e1⟩
    · obtain ⟨o', e1⟩ := I.base.there b o e hx
      exact ⟨o', (hs.2 b (Nat.ne_of_lt (Nat.lt_of_lt_of_le (Heap.lt_size e) I.ok.above))).trans e1⟩
    · by_cases hj : j = i
      · subst hj
        rw [hi] at e1; cases e1
        rw [List.getElem?_set_self hiσ] at e2
        cases e2
        exact ⟨u, r, .inl ⟨hk, by simp⟩⟩
      · rw [List.getElem?_set_ne (Ne.symm hj)] at e2
        obtain ⟨u', r', q⟩ := hl j y v' e1 e2 e3
        refine ⟨u', r', ?_⟩
        rcases q with ⟨k, e⟩ | ⟨k, c, e, z⟩
        · refine .inl ⟨k, ?_⟩
          have : y ≠ x := fun e => hj (nodup_ix hN e1 (e ▸ hi))
          simp [this, e]
        · exact .inr ⟨k, c, e, z.sameBut hs (cne y c e)⟩
    · obtain ⟨w', z⟩ := I.cell y c e
      exact ⟨w', z.sameBut hs (cne y c e)⟩
    · obtain ⟨e, n, ne, nf, d⟩ := I.pin p hp
      exact ⟨(hs.2 p.1 ne).trans e, n, ne, nf, d⟩
  · have hfn : X.fn x = true := by
      rcases hf with z | z
      · exact z
      · rw [z] at hk; cases hk
    obtain ⟨c, hc⟩ := I.ok.has x (.inl hk)
    obtain ⟨w', z⟩ := I.cell x c hc
    refine wpAny_storeName_cell I.ok.kind hk hc z (fun h' hc' hs => ?_)
    obtain ⟨oc, hoc, hocd⟩ := id z
    refine h { s with heap := h' } ⟨I.ok, I.os, I.bare, ⟨fun b o e n hb hx => ?_, fun b o e n hb hx => ?_, I.base.free, fun b o e hx => ?_, I.base.tups, I.base.frzs, I.base.tbls⟩, ⟨m, hn.sameBut hs (Ne.symm (cne x c hc)), fun j y v' e1 e2 e3 => ?_⟩, fun y c' e => ?_, I.free, I.freeC, fun p hp => ?_, tracked ⟨oc, hoc, I.freeC x c hc⟩ hs, by simpa using I.len⟩ ⟨c, hs, .inr hc⟩
    · exact (hs.2 b (Nat.ne_of_lt (Nat.lt_of_lt_of_le (Heap.lt_size e) (I.ok.cab x c hfn hc)))).trans (I.base.keep b o e n hb hx)
    · obtain ⟨sl, e1⟩ := I.base.slot b o e n hb hx
      exact ⟨sl, (hs.2 b (Nat.ne_of_lt (Nat.lt_of_lt_of_le (Heap.lt_size e) (I.ok.cab x c hfn hc)))).trans e1⟩
    · obtain ⟨o', e1⟩ := I.base.there b o e hx
      exact ⟨o', (hs.2 b (Nat.ne_of_lt (Nat.lt_of_lt_of_le (Heap.lt_size e) (I.ok.cab x c hfn hc)))).trans e1⟩
    · by_cases hj : j = i
      · subst hj
        rw [hi] at e1; cases e1
        rw [List.getElem?_set_self hiσ] at e2
        cases e2
        exact ⟨u, r, .inr ⟨.inl hk, c, hc, hc'⟩⟩
      · rw [List.getElem?_set_ne (Ne.symm hj)] at e2
        obtain ⟨u', r', q⟩ := hl j y v' e1 e2 e3
        refine ⟨u', r', ?_⟩
        rcases q with q | ⟨k, c', e, z'⟩
        · exact .inl q
        · refine .inr ⟨k, c', e, z'.sameBut hs ?_⟩
          rintro rfl
          exact hj (nodup_ix hN e1 (I.ok.inj _ _ _ e hc ▸ hi))
    · by_cases hcc : c' = c
      · subst hcc; exact ⟨_, hc'⟩
      · obtain ⟨w2, z2⟩ := I.cell y c' e
        exact ⟨w2, z2.sameBut hs hcc⟩
    · obtain ⟨e, n, ne, nf, d⟩ := I.pin p hp
      refine ⟨(hs.2 p.1 ?_).trans e, n, ne, nf, d⟩
      intro q
      rw [q, hoc] at e
      have q' : oc = p.2 := Option.some.inj e
      exact d w' (by rw [← q']; exact hocd)
theorem store_ok {M : Model} {A : Around} {E : Value → Shared → Prop} {i : Nat} {x : Str} {v : V} {u : Value} {Q : Unit → Shared → Prop} (I : Inv X pins σ H s) (hN : X.N.Nodup) (hi : X.N[i]? = some x) (hx : Loc X.env.scope x) (r : RelV v u)
    (h : ∀ s', Inv X pins (σ.set i (some v)) H s' → Q () s') (hf : X.fn x = true ∨ X.env.scope.names.lookup x = some .local := by first | exact .inl rfl | exact .inr rfl | assumption) : wpAny M A (storeName X.env x u) Q E s :=
  store_ok2 I hN hi hx r (fun s' I' _ => h s' I') hf
/-- behind a call or a block, the state as it is -/
theorem Inv.call' {s' : Shared} {ch : List Addr} (I : Inv X pins σ H s) (ho : s'.os = s.os) (u : Un (frs X.stack) ch H H' s.heap s'.heap) (hok : HOk X.prog X.w H' s'.heap) (hg : AllBare s'.gens)
    (hch : ∀ b ∈ ch, (b ∈ X.ex ∨ X.s₀.heap.objs.size ≤ b) ∧ b ≠ X.env.locals ∧ (∀ x c, X.env.cells.lookup x = some c → c ≠ b) ∧ ∀ p ∈ X.pn ++ pins, p.1 ≠ b) : Inv X pins σ H' s' := by
  obtain ⟨h', g', d', t', o'⟩ := s'
  have e : o' = s.os := ho
  subst e
  exact I.call (g' := g') (t' := t') (d' := d') u hok hg hch
end

/-! ### the judgements -/
/-- an exception: its class, its own dict's address (where it has one), the abstract heap behind it -/
abbrev XK := Value → Option Addr → Hp → Prop
abbrev St := List (Option V)
abbrev VK := V → Hp → Prop
/-- an expression's reading; a test's; an argument list's -/
abbrev TE := St → Hp → VK → Prop
abbrev TT := St → Hp → (Bool → Hp → Prop) → Prop
abbrev TA := St → Hp → (List V → Hp → Prop) → Prop
/-- what is wanted behind a statement -/
structure Ends where
  nx : St → Hp → Prop
  rt : VK
  bk : St → Hp → Prop := fun _ _ => False
  ct : St → Hp → Prop := fun _ _ => False
abbrev TS := Ends → St → Hp → Prop

def EP (X : Cx) (pins : List (Addr × Obj)) (σ : St) (Q : VK) (u : Value) (s' : Shared) : Prop := ∃ v H', Inv X pins σ H' s' ∧ RelV v u ∧ Q v H'
def TP (X : Cx) (pins : List (Addr × Obj)) (σ : St) (Q : Bool → Hp → Prop) (b : Bool) (s' : Shared) : Prop := ∃ H', Inv X pins σ H' s' ∧ Q b H'
def AP (X : Cx) (pins : List (Addr × Obj)) (σ : St) (Q : List V → Hp → Prop) (us : List Value) (s' : Shared) : Prop := ∃ vs H', Inv X pins σ H' s' ∧ Vals vs us ∧ Q vs H'
def SP (X : Cx) (pins : List (Addr × Obj)) (D : Ends) (f : Flow) (s' : Shared) : Prop :=
  match f with
  | .next => ∃ σ' H', Inv X pins σ' H' s' ∧ D.nx σ' H'
  | .brk => ∃ σ' H', Inv X pins σ' H' s' ∧ D.bk σ' H'
  | .cont => ∃ σ' H', Inv X pins σ' H' s' ∧ D.ct σ' H'
  | .ret u => ∃ v σ' H', Inv X pins σ' H' s' ∧ RelV v u ∧ D.rt v H'

def PE (X : Cx) (e : Expr) (t : TE) : Prop :=
  ∀ (pins : List (Addr × Obj)) (s : Shared) (σ : St) (H : Hp) (Q : VK), Inv X pins σ H s → t σ H Q → wpAny (model X.prog X.w) X.A (eval e X.env) (EP X pins σ Q) X.xe s
def PT (X : Cx) (e : Expr) (t : TT) : Prop :=
  ∀ (pins : List (Addr × Obj)) (s : Shared) (σ : St) (H : Hp) (Q : Bool → Hp → Prop), Inv X pins σ H s → t σ H Q → wpAny (model X.prog X.w) X.A (isTrue e X.env (eval e X.env)) (TP X pins σ Q) X.xe s
/-- a test whatever its 'whole' is (and, or) -/
def PW (X : Cx) (e : Expr) (t : TT) : Prop :=
  ∀ (whole : Sem Value) (pins : List (Addr × Obj)) (s : Shared) (σ : St) (H : Hp) (Q : Bool → Hp → Prop), Inv X pins σ H s → t σ H Q → wpAny (model X.prog X.w) X.A (isTrue e X.env whole) (TP X pins σ Q) X.xe s
theorem PW.pt {X : Cx} {e : Expr} {t : TT} (h : PW X e t) : PT X e t := h _
/-- an argument list (no star), from the left -/
def PA (X : Cx) (es : List Expr) (t : TA) : Prop :=
  ∀ (pos : Pos) (pins : List (Addr × Obj)) (s : Shared) (σ : St) (H : Hp) (Q : List V → Hp → Prop), Inv X pins σ H s → t σ H Q → wpAny (model X.prog X.w) X.A (spliced (backTo pos (starEach es X.env))) (AP X pins σ Q) X.xe s
def PS (X : Cx) (st : Stmt) (t : TS) : Prop :=
  ∀ (pins : List (Addr × Obj)) (s : Shared) (σ : St) (H : Hp) (D : Ends), Inv X pins σ H s → t D σ H → wpAny (model X.prog X.w) X.A (exec st X.env) (SP X pins D) X.xe s
def PSs (X : Cx) (st : List Stmt) (t : TS) : Prop :=
  ∀ (pins : List (Addr × Obj)) (s : Shared) (σ : St) (H : Hp) (D : Ends), Inv X pins σ H s → t D σ H → wpAny (model X.prog X.w) X.A (execs st X.env) (SP X pins D) X.xe s
/-- weaken the end -/
theorem thn {α : Type} {t : Sem α} {Q Q' : α → Shared → Prop} {M : Model} {A : Around} {E : Value → Shared → Prop} {s : Shared} (h : wpAny M A t Q E s) (hQ : ∀ a s, Q a s → Q' a s) : wpAny M A t Q' E s := wpAny_mono h hQ fun _ _ x => x
end L2

namespace L2
open PySem PySem.Spec PyProof.Rows
section
variable {X : Cx}

/-! ### names and constants -/
def tVar (i : Nat) : TE := fun σ H Q => ∃ v, σ[i]? = some (some v) ∧ Q v H
def tC (v : V) : TE := fun _ H Q => Q v H
theorem pe_var {i : Nat} {x : Str} {pos : Pos} (hN : X.N[i]? = some x) (hv : Vis X.env.scope x) (hd : (x == ("__debug__" : Str)) = false := by decide) (hcd : (x == ("__classdict__" : Str)) = false := by decide) : PE X (.Name x pos) (tVar i) := by
  intro pins s σ H Q I h
  obtain ⟨v, e, h⟩ := h
  obtain ⟨m, hn, hl⟩ := I.loc
  obtain ⟨u, r, l⟩ := hl i x v hN e hv
  have fin : EP X pins σ Q u s := ⟨v, H, I, r, h⟩
  rcases l with ⟨hk, hm⟩ | ⟨hk, c, hc, hcell⟩
  · exact wpAny_Name (wpAny_loadName_local I.ok.kind hk hn hm fin) hd
  · rcases hk with hk | hk
    · exact wpAny_Name (wpAny_loadName_cell I.ok.kind hk hc hcell fin) hd
    · exact wpAny_Name (wpAny_loadName_free I.ok.kind hk hc hcell fin hcd) hd
theorem pe_int {i j pos} : PE X (.Constant (.int i) j pos) (tC (.int i)) := fun _ _ _ H _ I h => wpAny_Constant_int ⟨.int i, H, I.tok _, ⟨_, rfl⟩, h⟩
theorem pe_bl {b j pos} : PE X (.Constant (.bool b) j pos) (tC (.bl b)) := fun _ _ _ H _ I h => Constant_bool ⟨.bl b, H, I, rfl, h⟩
theorem pe_non {j pos} : PE X (.Constant .none j pos) (tC .non) := fun _ _ _ H _ I h => Constant_none ⟨.non, H, I, rfl, h⟩
theorem pe_str {x j pos} : PE X (.Constant (.str x) j pos) (tC (.str x)) := fun _ _ _ H _ I h => Calls.Constant_str ⟨.str x, H, I.tok _, ⟨_, rfl⟩, h⟩

/-- a global name of the def -/
def Gl (X : Cx) (x : Str) : Prop := X.env.kindOf x = some .globalImplicit
theorem ld_glob {E : Value → Shared → Prop} {pins : List (Addr × Obj)} {s : Shared} {σ : St} {H : Hp} {x : Str} {u : Value} {pos : Pos} {Q : Value → Shared → Prop} (I : Inv X pins σ H s) (hg : Gl X x) (hm : X.mg x = some u) (h : Q u s)
    (hd : (x == ("__debug__" : Str)) = false := by decide) : wpAny (model X.prog X.w) X.A (eval (.Name x pos) X.env) Q E s :=
  Calls.Name_function_global I.ok.kind hg (Calls.loadGlobal_global (by rw [I.ok.glob]; exact I.mod.glob.keeps I.bk) hm h) hd
theorem ld_blt {E : Value → Shared → Prop} {pins : List (Addr × Obj)} {s : Shared} {σ : St} {H : Hp} {x : Str} {u : Value} {pos : Pos} {Q : Value → Shared → Prop} (I : Inv X pins σ H s) (hg : Gl X x) (hm : X.mg x = none) (hv : bootBuiltins x = some u) (h : Q u s)
    (hn : x ≠ "__name__" := by decide) (hd : (x == ("__debug__" : Str)) = false := by decide) : wpAny (model X.prog X.w) X.A (eval (.Name x pos) X.env) Q E s := by
  obtain ⟨mb, h1, h2⟩ := I.mod.blt
  exact Calls.Name_function_global I.ok.kind hg (Calls.loadGlobal_builtin (by rw [I.ok.glob]; exact I.mod.glob.keeps I.bk) hm (by rw [I.ok.blt]; exact h1.keeps I.bk) ((h2 x hn).trans hv) h) hd
/-- a module's constant, a class, a function, as a value -/
theorem pe_glob {x : Str} {v : V} {u : Value} {pos : Pos} (hg : Gl X x) (hm : X.mg x = some u) (r : RelV v u) (hd : (x == ("__debug__" : Str)) = false := by decide) : PE X (.Name x pos) (tC v) :=
  fun _ _ _ H _ I h => ld_glob I hg hm ⟨v, H, I, r, h⟩ hd
theorem pe_bltn {x : Str} {v : V} {u : Value} {pos : Pos} (hg : Gl X x) (hm : X.mg x = none) (hv : bootBuiltins x = some u) (r : RelV v u) (hn : x ≠ "__name__" := by decide) (hd : (x == ("__debug__" : Str)) = false := by decide) : PE X (.Name x pos) (tC v) :=
  fun _ _ _ H _ I h => ld_blt I hg hm hv ⟨v, H, I, r, h⟩ hn hd

/-! ### arithmetic -/
/-- two ints -/
def t2I (ta tb : TE) (k : Int → Int → Hp → Prop) : St → Hp → Prop := fun σ H => ta σ H fun x H1 => tb σ H1 fun y H2 => ∃ i j, x = .int i ∧ y = .int j ∧ k i j H2
def tAdd (ta tb : TE) : TE := fun σ H Q => t2I ta tb (fun i j H2 => Q (.int (i + j)) H2) σ H
def tSub (ta tb : TE) : TE := fun σ H Q => t2I ta tb (fun i j H2 => Q (.int (i - j)) H2) σ H
/-- the left factor below 2^64 -/
def tMul (ta tb : TE) : TE := fun σ H Q => t2I ta tb (fun i j H2 => (-(2 ^ 64) < i ∧ i < 2 ^ 64) ∧ Q (.int (i * j)) H2) σ H
variable {a b : Expr} {ta tb : TE} {pos : Pos}
/-! ### comparisons -/
def PC (X : Cx) (op : CmpOp) (a b : Expr) (t : TE) : Prop :=
  ∀ (pins : List (Addr × Obj)) (s : Shared) (σ : St) (H : Hp) (Q : VK), Inv X pins σ H s → t σ H Q →
    wpAny (model X.prog X.w) X.A (eval a X.env) (fun v s₁ => wpAny (model X.prog X.w) X.A (eval b X.env) (fun u s₂ => wpAny (model X.prog X.w) X.A (compareOp op v u) (EP X pins σ Q) X.xe s₂) X.xe s₁) X.xe s
def tCmp (p : Int → Int → Bool) (ta tb : TE) : TE := fun σ H Q => t2I ta tb (fun i j H2 => Q (.bl (p i j)) H2) σ H
abbrev tLt : TE → TE → TE := tCmp fun i j => decide (i < j)
abbrev tLe : TE → TE → TE := tCmp fun i j => decide (i ≤ j)
abbrev tGt : TE → TE → TE := tCmp fun i j => decide (j < i)
abbrev tGe : TE → TE → TE := tCmp fun i j => decide (j ≤ i)
abbrev tEqI : TE → TE → TE := tCmp fun i j => decide (i = j)
abbrev tNeI : TE → TE → TE := tCmp fun i j => !decide (i = j)
/-- is None -/
def tIsN (ta : TE) : TE := fun σ H Q => ta σ H fun x H1 => Q (.bl (decide (x = .non))) H1
def tNotN (ta : TE) : TE := fun σ H Q => ta σ H fun x H1 => Q (.bl (!decide (x = .non))) H1
/-- a comparison as a value, as a test -/
def tB (t : TE) : TT := fun σ H Q => t σ H fun x H1 => ∃ c, x = .bl c ∧ Q c H1
theorem pt_cmp {op : CmpOp} {t : TE} (h : PC X op a b t) (h1 : behindInMarks op b = false := by first | exact nobehind _ (by decide) (by decide) | rfl) : PT X (.Compare a [op] [b] pos) (tB t) := by
  intro pins s σ H Q I hw
  refine wpAny_isTrue_Compare1 (thn (h pins s σ H _ I hw) fun v s1 h1 => thn h1 fun u s2 h2 => thn h2 fun c s3 ⟨x, H1, I1, r1, q1⟩ => ?_) h1
  obtain ⟨d, rfl, q⟩ := q1
  cases r1
  exact wpAny_truthy_bool ⟨H1, I1, q⟩
/-- an expression whose value is a bool, as a test -/
theorem pt_val {e : Expr} {t : TE} (h : PE X e t) (he : ∀ whole, isTrue e X.env whole = (do let v ← whole; standAt e.pos; holding [v] (truthy v)) := by intro _; rfl) : PT X e (tB t) := by
  intro pins s σ H Q I hw
  refine isTrue_plain (thn (h pins s σ H _ I hw) fun v s1 ⟨x, H1, I1, r1, q1⟩ => ?_) (he _)
  obtain ⟨d, rfl, q⟩ := q1
  cases r1
  exact wpAny_truthy_bool ⟨H1, I1, q⟩

/-! ### and, or, not -/
variable {tA tB' : TT} {rest : List Expr}
def tAnd (t u : TT) : TT := fun σ H Q => t σ H fun c H1 => if c = true then u σ H1 Q else Q false H1
def tOr (t u : TT) : TT := fun σ H Q => t σ H fun c H1 => if c = true then Q true H1 else u σ H1 Q
def tNot (t : TT) : TT := fun σ H Q => t σ H fun c H1 => Q (!c) H1
theorem pw_and1 (ha : PT X a tA) : PW X (.BoolOp .And [a] pos) tA := by
  intro wh pins s σ H Q I h
  refine isTrue_and (thn (ha pins s σ H Q I h) fun c s1 e => ?_)
  cases c with
  | true => exact isTrue_and_nil e
  | false => exact e
theorem pw_or1 (ha : PT X a tA) : PW X (.BoolOp .Or [a] pos) tA := by
  intro wh pins s σ H Q I h
  refine isTrue_or (thn (ha pins s σ H Q I h) fun c s1 e => ?_)
  cases c with
  | false => exact isTrue_or_nil e
  | true => exact e
theorem pw_and (ha : PT X a tA) (hb : PW X (.BoolOp .And (b :: rest) pos) tB') : PW X (.BoolOp .And (a :: b :: rest) pos) (tAnd tA tB') := by
  intro wh pins s σ H Q I h
  refine isTrue_and (thn (ha pins s σ H _ I h) fun c s1 ⟨H1, I1, q1⟩ => ?_)
  cases c with
  | true => exact hb wh pins s1 σ H1 Q I1 q1
  | false => exact ⟨H1, I1, q1⟩
theorem pw_or (ha : PT X a tA) (hb : PW X (.BoolOp .Or (b :: rest) pos) tB') : PW X (.BoolOp .Or (a :: b :: rest) pos) (tOr tA tB') := by
  intro wh pins s σ H Q I h
  refine isTrue_or (thn (ha pins s σ H _ I h) fun c s1 ⟨H1, I1, q1⟩ => ?_)
  cases c with
  | true => exact ⟨H1, I1, q1⟩
  | false => exact hb wh pins s1 σ H1 Q I1 q1
theorem pt_not (ha : PT X a tA) : PT X (.UnaryOp .Not a pos) (tNot tA) := by
  intro pins s σ H Q I h
  exact isTrue_not (ha pins s σ H (fun c H1 => Q (!c) H1) I h)
/-- .. as values (bools) -/
def tAndV (ta tb : TE) : TE := fun σ H Q => ta σ H fun x H1 => ∃ c, x = .bl c ∧ if c = true then tb σ H1 Q else Q (.bl false) H1
def tOrV (ta tb : TE) : TE := fun σ H Q => ta σ H fun x H1 => ∃ c, x = .bl c ∧ if c = true then Q (.bl true) H1 else tb σ H1 Q
def tNotV (ta : TE) : TE := fun σ H Q => ta σ H fun x H1 => ∃ c, x = .bl c ∧ Q (.bl (!c)) H1
theorem pe_one {op} {t : TE} (h : PE X a t) : PE X (.BoolOp op [a] pos) t := fun pins s σ H Q I hw => BoolOp_one (h pins s σ H Q I hw)
theorem pe_and (ha : PE X a ta) (hb : PE X (.BoolOp .And (b :: rest) pos) tb) : PE X (.BoolOp .And (a :: b :: rest) pos) (tAndV ta tb) := by
  intro pins s σ H Q I h
  refine BoolOp_and (thn (ha pins s σ H _ I h) fun v s1 ⟨x, H1, I1, r1, q1⟩ => ?_)
  obtain ⟨c, rfl, q1⟩ := q1
  cases r1
  refine wpAny_truthy_bool ?_
  cases c with
  | true => exact hb pins s1 σ H1 Q I1 q1
  | false => exact ⟨.bl false, H1, I1, rfl, q1⟩
theorem pe_not (ha : PE X a ta) : PE X (.UnaryOp .Not a pos) (tNotV ta) := by
  intro pins s σ H Q I h
  refine UnaryOp_ (thn (ha pins s σ H _ I h) fun v s1 ⟨x, H1, I1, r1, q1⟩ => ?_)
  obtain ⟨c, rfl, q1⟩ := q1
  cases r1
  exact not_of (wpAny_truthy_bool ⟨.bl (!c), H1, I1, rfl, q1⟩)
/-- a if t else b -/
def tIf (t : TT) (ta tb : TE) : TE := fun σ H Q => t σ H fun c H1 => if c = true then ta σ H1 Q else tb σ H1 Q
theorem pe_ifExp {c : Expr} (hc : PT X c tA) (ha : PE X a ta) (hb : PE X b tb) : PE X (.IfExp c a b pos) (tIf tA ta tb) := by
  intro pins s σ H Q I h
  refine wpAny_IfExp (thn (hc pins s σ H _ I h) fun d s1 ⟨H1, I1, q1⟩ => ?_)
  cases d with
  | true => exact ha pins s1 σ H1 Q I1 q1
  | false => exact hb pins s1 σ H1 Q I1 q1
end
end L2

namespace L2
open PySem PySem.Spec PyProof.Rows

/-! ### a list, a tuple that is read: tracked, frozen, or an object of the module -/
def SqL (K : PySem.W.Frag) (H : Hp) (a : Addr) (xs : List V) : Prop :=
  Rd H a (.lst xs) ∨
    ∃ (o : Obj) (its : Array Value) (n : Nat), K.lookup a = some o ∧ o.cls = .type "list" ∧ o.dict = none ∧ o.data = .seq its n ∧ its.size ≤ sizeLine ∧ Vals xs its.toList
def SqT (K : PySem.W.Frag) (H : Hp) (a : Addr) (xs : List V) : Prop :=
  Rd H a (.tup xs) ∨
    ∃ (o : Obj) (its : Array Value) (n : Nat), K.lookup a = some o ∧ o.cls = .type "tuple" ∧ o.data = .seq its n ∧ its.size ≤ sizeLine ∧ Vals xs its.toList
def absV : Value → Option V
  | .none => some .non
  | .bool b => some (.bl b)
  | .int i _ => some (.int i)
  | .str x _ => some (.str x)
  | .bytes b _ => some (.byt b)
  | .float b _ => some (.flt b)
  | .ref a => some (.ref a)
  | .type n => some (.ty n)
  | _ => none
theorem RelV.abs {x : V} {u : Value} (r : RelV x u) : absV u = some x := by
  cases x with
  | non => cases r; rfl
  | bl _ => cases r; rfl
  | int _ => obtain ⟨t, rfl⟩ := r; rfl
  | str _ => obtain ⟨t, rfl⟩ := r; rfl
  | byt _ => obtain ⟨t, rfl⟩ := r; rfl
  | flt _ => obtain ⟨t, rfl⟩ := r; rfl
  | ref _ => cases r; rfl
  | ty _ => cases r; rfl
theorem RelV.inj {x y : V} {u : Value} (r : RelV x u) (q : RelV y u) : x = y := Option.some.inj (r.abs.symm.trans q.abs)
theorem Vals.inj : ∀ {xs ys : List V} {us : List Value}, Vals xs us → Vals ys us → xs = ys
  | _, _, _, .nil, .nil => rfl
  | _, _, _, .cons r t, .cons r' t' => by rw [r.inj r', Vals.inj t t']
section
variable {X : Cx} {pins : List (Addr × Obj)} {σ : St} {H : Hp} {s : Shared} {a : Addr} {xs ys : List V}
theorem SqL.of {K : PySem.W.Frag} (h : H a = some (.lst xs)) : SqL K H a xs := .inl (.inl h)
theorem SqT.of {K : PySem.W.Frag} (h : H a = some (.tup xs)) : SqT K H a xs := .inl (.inl h)
theorem Inv.list (I : Inv X pins σ H s) (h : SqL X.K H a xs) : ∃ its : List Value, Vals xs its ∧ PlainL s.heap a its.toArray ∧ xs.length ≤ sizeLine := by
  rcases h with h | ⟨o, its, n, hk, hc, hd, hs, hz, r⟩
  · obtain ⟨z, its, n, r, e⟩ := h.ok I.hok
    exact ⟨its, r, ⟨_, n, e, rfl, rfl, rfl⟩, z⟩
  · refine ⟨its.toList, r, ⟨o, n, I.kIn a o hk, hc, hd, by simpa using hs⟩, ?_⟩
    have e := r.length
    simp only [Array.length_toList] at e
    omega
theorem Inv.tuple (I : Inv X pins σ H s) (h : SqT X.K H a xs) : ∃ its : List Value, Vals xs its ∧ IsTup s.heap a its.toArray ∧ xs.length ≤ sizeLine := by
  rcases h with h | ⟨o, its, n, hk, hc, hs, hz, r⟩
  · obtain ⟨z, its, r, p⟩ := h.ok I.hok
    exact ⟨its, r, p, z⟩
  · refine ⟨its.toList, r, ⟨o, I.kIn a o hk, hc, n, by simpa using hs⟩, ?_⟩
    have e := r.length
    simp only [Array.length_toList] at e
    omega
theorem Inv.list_inj (I : Inv X pins σ H s) (h : SqL X.K H a xs) (h' : SqL X.K H a ys) : xs = ys := by
  obtain ⟨its, r, ⟨o, n, e, _, _, d⟩, _⟩ := I.list h
  obtain ⟨its', r', ⟨o', n', e', _, _, d'⟩, _⟩ := I.list h'
  rw [e] at e'; cases e'
  rw [d] at d'
  injection d' with d1 _
  have : its = its' := by simpa using congrArg Array.toList d1
  subst this
  exact r.inj r'
theorem Inv.tuple_inj (I : Inv X pins σ H s) (h : SqT X.K H a xs) (h' : SqT X.K H a ys) : xs = ys := by
  obtain ⟨its, r, ⟨o, e, _, n, d⟩, _⟩ := I.tuple h
  obtain ⟨its', r', ⟨o', e', _, n', d'⟩, _⟩ := I.tuple h'
  rw [e] at e'; cases e'
  rw [d] at d'
  injection d' with d1 _
  have : its = its' := by simpa using congrArg Array.toList d1
  subst this
  exact r.inj r'
end

/-! ### another wish about exceptions -/
abbrev Cx.wish (X : Cx) (E : Value → Shared → Prop) : Cx := { X with xe := E }
/-- no exception leaves -/
abbrev Cx.nox (X : Cx) : Cx := X.wish fun _ _ => False
theorem Cx.Ok.wish {X : Cx} (ok : X.Ok) (E : Value → Shared → Prop) : (X.wish E).Ok :=
  ⟨ok.mod, ok.kind, ok.glob, ok.blt, ok.above, ok.inj, ok.has, ok.cab, ok.hd, ok.frames, ok.stk, ok.exf, ok.bs, ok.bsz, ok.noex, ok.exfs, ok.funs, ok.frf⟩
theorem Cx.Ok.unwish {X : Cx} {E : Value → Shared → Prop} (ok : (X.wish E).Ok) : X.Ok :=
  ⟨ok.mod, ok.kind, ok.glob, ok.blt, ok.above, ok.inj, ok.has, ok.cab, ok.hd, ok.frames, ok.stk, ok.exf, ok.bs, ok.bsz, ok.noex, ok.exfs, ok.funs, ok.frf⟩
section
variable {X : Cx} {pins : List (Addr × Obj)} {σ : St} {H : Hp} {s : Shared} {E : Value → Shared → Prop}
theorem Inv.wish (I : Inv X pins σ H s) (E : Value → Shared → Prop) : Inv (X.wish E) pins σ H s := ⟨I.ok.wish E, I.os, I.bare, I.base, I.loc, I.cell, I.free, I.freeC, I.pin, I.hok, I.len⟩
theorem Inv.unwish (I : Inv (X.wish E) pins σ H s) : Inv X pins σ H s := ⟨I.ok.unwish, I.os, I.bare, I.base, I.loc, I.cell, I.free, I.freeC, I.pin, I.hok, I.len⟩
theorem SP.unwish {D : Ends} {f : Flow} {s' : Shared} (h : SP (X.wish E) pins D f s') : SP X pins D f s' := by
  cases f with
  | next => obtain ⟨σ', H', I, q⟩ := h; exact ⟨σ', H', I.unwish, q⟩
  | brk => obtain ⟨σ', H', I, q⟩ := h; exact ⟨σ', H', I.unwish, q⟩
  | cont => obtain ⟨σ', H', I, q⟩ := h; exact ⟨σ', H', I.unwish, q⟩
  | ret u => obtain ⟨v, σ', H', I, r, q⟩ := h; exact ⟨v, σ', H', I.unwish, r, q⟩
theorem PSs.nox {st : List Stmt} {t : TS} (h : PSs X.nox st t) : PSs X st t := fun pins s σ H D I hw =>
  wpAny_mono (h pins s σ H D (I.wish _) hw) (fun _ _ q => q.unwish) fun _ _ z => False.elim z
end

/-! ### blocks and small statements -/
section
variable {X : Cx} {st : Stmt} {rest : List Stmt} {t u : TS} {e : Expr} {te : TE} {pos : Pos}
def tNext : TS := fun D σ H => D.nx σ H
def tSeq (t u : TS) : TS := fun D σ H => t { D with nx := u D } σ H
theorem pss_nil : PSs X [] tNext := fun _ _ σ H _ I h => wpAny_execs_nil ⟨σ, H, I, h⟩
theorem pss_cons (h1 : PS X st t) (h2 : PSs X rest u) : PSs X (st :: rest) (tSeq t u) := by
  intro pins s σ H D I h
  refine wpAny_execs_cons (thn (h1 pins s σ H { D with nx := u D } I h) fun f s1 q => ?_)
  cases f with
  | next =>
    obtain ⟨σ', H', I', q⟩ := q
    exact h2 pins s1 σ' H' D I' q
  | ret v => exact q
  | brk => exact q
  | cont => exact q
theorem pss_one (h1 : PS X st t) : PSs X [st] t := by
  intro pins s σ H D I h
  refine wpAny_execs_cons (thn (h1 pins s σ H D I h) fun f s1 q => ?_)
  cases f with
  | next => exact wpAny_execs_nil q
  | ret v => exact q
  | brk => exact q
  | cont => exact q
def tBreak : TS := fun D σ H => D.bk σ H
def tCont : TS := fun D σ H => D.ct σ H
/-- in a def's body nothing is shown -/
theorem Inv.quiet {pins : List (Addr × Obj)} {σ : St} {H : Hp} {s : Shared} (I : Inv X pins σ H s) : interactive X.env = false := by simp [interactive, I.ok.kind]
/-- an expression whose value is dropped -/
def tDrop (te : TE) : TS := fun D σ H => te σ H fun _ H1 => D.nx σ H1
theorem ps_expr (he : PE X e te) (hs : swapsWith e none pos.line X.env = pure false := by rfl) : PS X (.Expr e pos) (tDrop te) := by
  intro pins s σ H D I h
  exact wpAny_Expr_any (thn (he pins s σ H _ I h) fun v s1 ⟨x, H1, I1, r1, q1⟩ => ⟨σ, H1, I1, q1⟩) I.quiet hs
def tRet (te : TE) : TS := fun D σ H => te σ H D.rt
theorem ps_ret (he : PE X e te) : PS X (.Return (some e) pos) (tRet te) := by
  intro pins s σ H D I h
  exact wpAny_Return_some (thn (he pins s σ H _ I h) fun v s1 ⟨x, H1, I1, r1, q1⟩ => ⟨x, σ, H1, I1, r1, q1⟩)
def tRetN : TS := fun D _ H => D.rt .non H
def tIfS (c : TT) (t u : TS) : TS := fun D σ H => c σ H fun b H1 => if b = true then t D σ H1 else u D σ H1
theorem ps_if {c : Expr} {a b : List Stmt} {tc : TT} (hc : PT X c tc) (ha : PSs X a t) (hb : PSs X b u) : PS X (.If c a b pos) (tIfS tc t u) := by
  intro pins s σ H D I h
  refine wpAny_If (thn (hc pins s σ H _ I h) fun d s1 ⟨H1, I1, q1⟩ => ?_)
  cases d with
  | true => exact ha pins s1 σ H1 D I1 q1
  | false => exact hb pins s1 σ H1 D I1 q1
/-- code that the proof never comes to -/
def tNever : TS := fun _ _ _ => False
end

/-! ### targets -/
abbrev TG := V → St → Hp → (St → Hp → Prop) → Prop
abbrev TGs := List V → St → Hp → (St → Hp → Prop) → Prop
def PG (X : Cx) (target : Expr) (t : TG) : Prop :=
  ∀ (pins : List (Addr × Obj)) (s : Shared) (σ : St) (H : Hp) (v : V) (u : Value) (Q : St → Hp → Prop), Inv X pins σ H s → RelV v u → t v σ H Q →
    wpAny (model X.prog X.w) X.A (assign target X.env u) (fun _ s' => ∃ σ' H', Inv X pins σ' H' s' ∧ Q σ' H') X.xe s
/-- several targets, one after another -/
def PGs (X : Cx) (ts : List Expr) (t : TGs) : Prop :=
  ∀ (pins : List (Addr × Obj)) (s : Shared) (σ : St) (H : Hp) (vs : List V) (us : List Value) (Q : St → Hp → Prop), Inv X pins σ H s → Vals vs us → t vs σ H Q →
    wpAny (model X.prog X.w) X.A (assignInOrder ((assignEach ts X.env).map (·.2)) us) (fun _ s' => ∃ σ' H', Inv X pins σ' H' s' ∧ Q σ' H') X.xe s
/-- o[i] = v, by values -/
abbrev TSet := V → V → V → Hp → (Hp → Prop) → Prop
def PSet (X : Cx) (t : TSet) : Prop :=
  ∀ (pins : List (Addr × Obj)) (s : Shared) (σ : St) (H : Hp) (o i v : V) (ov iv u : Value) (Q : Hp → Prop), Inv X pins σ H s → RelV o ov → RelV i iv → RelV v u → t o i v H Q →
    wpAny (model X.prog X.w) X.A (setItem ov iv u) (fun _ s' => ∃ H', Inv X pins σ H' s' ∧ Q H') X.xe s
/-- a op= b, by values -/
abbrev TIp := V → V → Hp → VK → Prop
def PIp (X : Cx) (op : Operator) (t : TIp) : Prop :=
  ∀ (pins : List (Addr × Obj)) (s : Shared) (σ : St) (H : Hp) (x y : V) (v u : Value) (Q : VK), Inv X pins σ H s → RelV x v → RelV y u → t x y H Q →
    wpAny (model X.prog X.w) X.A (inplaceOp op v u) (EP X pins σ Q) X.xe s
section
variable {X : Cx} {pos : Pos}
def gName (i : Nat) : TG := fun v σ H Q => Q (σ.set i (some v)) H
theorem pg_name {i : Nat} {x : Str} (hN : X.N.Nodup) (hi : X.N[i]? = some x) (hx : Loc X.env.scope x) (hf : X.fn x = true ∨ X.env.scope.names.lookup x = some .local := by first | exact .inl rfl | exact .inr rfl | assumption) : PG X (.Name x pos) (gName i) := by
  intro pins s σ H v u Q I r h
  exact wpAny_assign_Name (store_ok I hN hi hx r (fun s' I' => ⟨_, H, I', h⟩) hf)
def gNil : TGs := fun vs σ H Q => vs = [] ∧ Q σ H
def gCons (t : TG) (u : TGs) : TGs := fun vs σ H Q => ∃ v r, vs = v :: r ∧ t v σ H fun σ' H' => u r σ' H' Q
theorem pgs_nil : PGs X [] gNil := by
  intro pins s σ H vs us Q I r h
  obtain ⟨e, h⟩ := h
  subst e
  cases r
  exact assignInOrder_nil ⟨σ, H, I, h⟩
theorem pgs_cons {e : Expr} {es : List Expr} {t : TG} {u : TGs} (h1 : PG X e t) (h2 : PGs X es u)
    (hs : (assignEach (e :: es) X.env).map (·.2) = assign e X.env :: (assignEach es X.env).map (·.2) := by rfl) : PGs X (e :: es) (gCons t u) := by
  intro pins s σ H vs us Q I r h
  obtain ⟨v, vr, e1, h⟩ := h
  subst e1
  cases r with
  | cons r rr =>
    rw [hs]
    refine assignInOrder_cons (thn (h1 pins s σ H _ _ _ I r h) fun _ s1 ⟨σ1, H1, I1, q1⟩ => ?_)
    exact h2 pins s1 σ1 H1 _ _ Q I1 rr q1
/-- (a, b, ..) = a tuple of that length -/
def gTup (K : PySem.W.Frag) (n : Nat) (t : TGs) : TG := fun v σ H Q => ∃ a xs, v = .ref a ∧ SqT K H a xs ∧ xs.length = n ∧ t xs σ H Q
theorem pg_tup {es : List Expr} {k : Nat} {t : TGs} {n : Nat} (hc : X.calm = true) (h : PGs X es t)
    (hn : (assignEach es X.env).length = n := by rfl) (hst : (assignEach es X.env).findIdx? (·.1) = none := by rfl) : PG X (.Tuple es k pos) (gTup X.K n t) := by
  intro pins s σ H v u Q I r hw
  obtain ⟨a, xs, e1, hq, hl, hw⟩ := hw
  subst e1
  cases r
  obtain ⟨its, rv, ht, hz⟩ := I.tuple hq
  refine assign_Tuple_tuple (I.ok.hd hc) ht (by simp [hn, ← hl, rv.length]) hst fun h' hx => ?_
  have I1 : Inv X pins σ H { s with heap := h' } := I.kept (t' := s.toks) fun b o e => hx b o (Nat.ne_of_lt (Heap.lt_size e)) e
  exact h pins _ σ H xs _ Q I1 (by simpa using rv) hw
/-- o[i] = .. -/
def gSub (to ti : TE) (t : TSet) : TG := fun v σ H Q => to σ H fun o H1 => ti σ H1 fun i H2 => t o i v H2 fun H3 => Q σ H3
theorem pg_sub {o i : Expr} {to ti : TE} {t : TSet} (ho : PE X o to) (hi : PE X i ti) (hs : PSet X t)
    (ha : ∀ v, assign (.Subscript o i pos) X.env v = (do
      let ov ← holding [v] (eval o X.env)
      let iv ← holding [v, ov] (eval i X.env)
      standAt pos
      holding [v, ov, iv] (setItem ov iv v)
      release [v, ov, iv] []) := by intro _; rfl) : PG X (.Subscript o i pos) (gSub to ti t) := by
  intro pins s σ H v u Q I r h
  rw [ha]
  refine wpAny_bind (wpAny_holding (thn (ho pins s σ H _ I h) fun ov s1 ⟨x, H1, I1, r1, q1⟩ => ?_))
  refine wpAny_bind (wpAny_holding (thn (hi pins s1 σ H1 _ I1 q1) fun iv s2 ⟨y, H2, I2, r2, q2⟩ => ?_))
  refine wpAny_bind (wpAny_standAt (wpAny_bind (wpAny_holding (thn (hs pins s2 σ H2 x y v ov iv u _ I2 r1 r2 r q2) fun _ s3 ⟨H3, I3, q3⟩ => ?_))))
  exact wpAny_release ⟨σ, H3, I3, q3⟩
/-- target = value -/
def tAsg (te : TE) (g : TG) : TS := fun D σ H => te σ H fun x H1 => g x σ H1 D.nx
theorem ps_asg {tg e : Expr} {te : TE} {g : TG} (he : PE X e te) (hg : PG X tg g) (hs : swapsWithSole [tg] e pos.line X.env = pure false := by rfl) (hw : swappedStores [tg] e X.env = pure none := by rfl)
    (h1 : (assignEach [tg] X.env).map (·.2) = [assign tg X.env] := by rfl) : PS X (.Assign [tg] e pos) (tAsg te g) := by
  intro pins s σ H D I h
  refine wpAny_Assign_stores (thn (he pins s σ H _ I h) fun v s1 ⟨x, H1, I1, r1, q1⟩ => ?_) hs hw
  rw [h1]
  exact thn (hg pins s1 σ H1 x v _ I1 r1 q1) fun _ s2 q => q
/-- name = value -/
theorem ps_set {i : Nat} {x : Str} {e : Expr} {te : TE} {pos' : Pos} (hN : X.N.Nodup) (hi : X.N[i]? = some x) (hx : Loc X.env.scope x) (he : PE X e te) (hs : swapsWith e (some (.Name x pos')) pos.line X.env = pure false := by rfl) (hf : X.fn x = true ∨ X.env.scope.names.lookup x = some .local := by first | exact .inl rfl | exact .inr rfl | assumption) :
    PS X (.Assign [.Name x pos'] e pos) (tAsg te (gName i)) := by
  intro pins s σ H D I h
  refine wpAny_Assign_Name (thn (he pins s σ H _ I h) fun v s1 ⟨y, H1, I1, r1, q1⟩ => ?_) hs
  exact store_ok I1 hN hi hx r1 (fun s2 I2 => ⟨_, H1, I2, q1⟩) hf
/-- a, b = x, y with plain local names: stored from the right; the pair itself is not tracked (the opening rows as in PyProof/Rows/TupAssign.lean:23) -/
def tPar (i j : Nat) (ta : TA) : TS := fun D σ H => ta σ H fun vs H1 => ∃ v w, vs = [v, w] ∧ D.nx ((σ.set i (some v)).set j (some w)) H1
/-- name op= e -/
def tAug (i : Nat) (te : TE) (ti : TIp) : TS := fun D σ H => ∃ x, σ[i]? = some (some x) ∧ te σ H fun y H1 => ti x y H1 fun z H2 => D.nx (σ.set i (some z)) H2
/-- o[i] op= e -/
def tAugS (to ti te : TE) (tget : V → V → Hp → VK → Prop) (tip : TIp) (tset : TSet) : TS := fun D σ H => to σ H fun o H1 => ti σ H1 fun i H2 => tget o i H2 fun x H3 => te σ H3 fun y H4 => tip x y H4 fun z H5 => tset o i z H5 fun H6 => D.nx σ H6
/-- o[i], by values -/
def PGet (X : Cx) (t : V → V → Hp → VK → Prop) : Prop :=
  ∀ (pins : List (Addr × Obj)) (s : Shared) (σ : St) (H : Hp) (o i : V) (ov iv : Value) (Q : VK), Inv X pins σ H s → RelV o ov → RelV i iv → t o i H Q →
    wpAny (model X.prog X.w) X.A (getItem ov iv) (EP X pins σ Q) X.xe s
/-- ints -/
def ipI (f : Int → Int → Int) : TIp := fun x y H Q => ∃ i j, x = .int i ∧ y = .int j ∧ Q (.int (f i j)) H
end

/-! ### while -/
section
variable {X : Cx} {pos : Pos}
/-- the invariant W with its measure -/
def tWhile (c : TT) (tb : TS) : TS := fun D σ H => ∃ W : Nat → St → Hp → Prop, (∃ m, W m σ H) ∧ ∀ m σ H, W m σ H →
  c σ H fun b H1 => if b = true then ∃ N : St → Hp → Prop, (∀ σ' H', N σ' H' → ∃ m', m' < m ∧ W m' σ' H') ∧ tb { D with nx := N, ct := N, bk := D.nx } σ H1 else D.nx σ H1
theorem ps_while {c : Expr} {body : List Stmt} {tc : TT} {tb : TS} (hp : PassesOwn (model X.prog X.w) X.A X.env X.xe) (hc : PT X c tc) (hb : PSs X body tb) : PS X (.While c body [] pos) (tWhile tc tb) := by
  intro pins s σ H D I h
  obtain ⟨W, ⟨m0, w0⟩, turn⟩ := h
  refine wpAny_While (codeAny_whileLoop (fun n s' => ∃ σ' H', Inv X pins σ' H' s' ∧ W n σ' H') ?_ m0 ⟨σ, H, I, w0⟩)
  rintro n s1 ⟨σ1, H1, I1, w1⟩
  refine wpAny_passesOwn hp (thn (hc pins s1 σ1 H1 _ I1 (turn n σ1 H1 w1)) fun b s2 ⟨H2, I2, q2⟩ => ?_)
  cases b with
  | true =>
    obtain ⟨N, hN, q2⟩ := q2
    rw [if_pos rfl]
    refine wpAny_passesOwn hp (thn (hb pins s2 σ1 H2 _ I2 q2) fun f s3 q3 => ?_)
    cases f with
    | next =>
      obtain ⟨σ3, H3, I3, n3⟩ := q3
      obtain ⟨m', hm, w3⟩ := hN σ3 H3 n3
      exact ⟨m', hm, σ3, H3, I3, w3⟩
    | cont =>
      obtain ⟨σ3, H3, I3, n3⟩ := q3
      obtain ⟨m', hm, w3⟩ := hN σ3 H3 n3
      exact ⟨m', hm, σ3, H3, I3, w3⟩
    | brk => exact q3
    | ret v => exact q3
  | false =>
    rw [if_neg Bool.false_ne_true]
    exact wpAny_execs_nil ⟨σ1, H2, I2, q2⟩
end

/-! ### what a loop or a comprehension walks -/
/-- at turn i: it yields x (the heap may grow), or it stops -/
structure It where
  go : Nat → Hp → Prop
  yld : Nat → Hp → V → Hp → Prop
  stop : Nat → Hp → Prop
/-- the iterator's own objects may turn: they are not the frame's, not pinned, younger than the entry (or a comprehension's own) -/
def FpOk (X : Cx) (pins : List (Addr × Obj)) (H : Hp) (b : Addr) : Prop :=
  H b = none ∧ b ≠ X.env.locals ∧ b ∉ X.fs ∧ (b ∈ X.ex ∨ X.s₀.heap.objs.size ≤ b) ∧ (∀ x c, X.env.cells.lookup x = some c → c ≠ b) ∧ ∀ p ∈ X.pn ++ pins, p.1 ≠ b
theorem Inv.fpOk {X : Cx} {pins : List (Addr × Obj)} {σ : St} {H H' : Hp} {s : Shared} {b : Addr} (I : Inv X pins σ H s) (hb : s.heap.objs.size ≤ b) (hn : H' b = none) : FpOk X pins H' b := by
  refine ⟨hn, Nat.ne_of_gt (Nat.lt_of_lt_of_le I.lt hb), I.nofs hb, .inr (Nat.le_trans I.sz hb), fun x c e z => ?_, fun p hp z => ?_⟩
  · obtain ⟨v, q⟩ := I.cell x c e
    exact absurd (Nat.lt_of_lt_of_le q.lt (by rw [z]; exact hb)) (Nat.lt_irrefl _)
  · exact absurd (Nat.lt_of_lt_of_le (Heap.lt_size (I.pin p hp).1) (by rw [z]; exact hb)) (Nat.lt_irrefl _)
structure Turn (P : Program) (w : World) (K : PySem.W.Frag) (tg : Expr) (J : It) (fp : List Addr) (it : Addr) (tn : Nat → Heap → Prop) : Prop where
  mem : it ∈ fp
  obj : ∀ i h, tn i h → ∀ b ∈ fp, ∃ o, h.get? b = some o ∧ ∀ v, o.data ≠ .cell v
  keep : ∀ i h h', tn i h → (∀ b ∈ fp, ∀ o, h.get? b = some o → h'.get? b = some o) → tn i h'
  item : ∀ (X : Cx), X.prog = P → X.w = w → X.K = K → X.calm = true → ∀ (i : Nat) (pins : List (Addr × Obj)) (s : Shared) (σ : St) (H : Hp) (E : Value → Shared → Prop), Inv X pins σ H s → (∀ b ∈ fp, FpOk X pins H b) → tn i s.heap → J.go i H →
    wpAny (model P w) X.A (pyNext (.ref it)) (fun r s1 => ∃ u, r = some u ∧
      wpAny (model P w) X.A (letOwnedTupleGo tg (.ref it) u) (fun _ s2 => ∃ x H', Inv X pins σ H' s2 ∧ RelV x u ∧ J.yld i H x H' ∧ tn (i + 1) s2.heap ∧ ∀ b ∈ fp, H' b = none) E s1) E s
  done : ∀ (X : Cx), X.prog = P → X.w = w → X.K = K → X.calm = true → ∀ (i : Nat) (pins : List (Addr × Obj)) (s : Shared) (σ : St) (H : Hp) (E : Value → Shared → Prop), Inv X pins σ H s → (∀ b ∈ fp, FpOk X pins H b) → tn i s.heap → J.stop i H →
    wpAny (model P w) X.A (pyNext (.ref it)) (fun r s1 => r = none ∧ Inv X pins σ H s1) E s
  self : ∀ (A : Around) (i : Nat) (s : Shared) (Q : Value → Shared → Prop) (E : Value → Shared → Prop), tn i s.heap → Q (.ref it) s → wpAny (model P w) A (pyIter (.ref it)) Q E s
abbrev TI := St → Hp → (It → Hp → Prop) → Prop
/-- an iterator has come -/
def PIE (X : Cx) (pins : List (Addr × Obj)) (σ : St) (tg : Expr) (R : It → Hp → Prop) (itv : Value) (s2 : Shared) : Prop :=
  ∃ (it : Addr) (fp : List Addr) (tn : Nat → Heap → Prop) (J : It) (H' : Hp), itv = .ref it ∧ Inv X pins σ H' s2 ∧ Turn X.prog X.w X.K tg J fp it tn ∧ tn 0 s2.heap ∧ (∀ b ∈ fp, FpOk X pins H' b) ∧ R J H'
def PI (X : Cx) (tg iter : Expr) (wi : TI) : Prop :=
  ∀ (pins : List (Addr × Obj)) (s : Shared) (σ : St) (H : Hp) (R : It → Hp → Prop), Inv X pins σ H s → wi σ H R →
    wpAny (model X.prog X.w) X.A (eval iter X.env) (fun v s1 => wpAny (model X.prog X.w) X.A (pyIter v) (PIE X pins σ tg R) X.xe s1) X.xe s

/-- the step ahead of the store is nothing for an iterator that keeps no tuple -/
theorem go_of {M : Model} {A : Around} {E : Value → Shared → Prop} {s : Shared} {tg : Expr} {it : Addr} {u : Value} {o : Obj} {n : String} {vs : Array Value} {Q : Unit → Shared → Prop} (ho : s.heap.get? it = some o) (hc : o.cls = .type n) (hd : o.data = .fields vs)
    (hn : ["enumerate", "zip", "dict_itemiterator", "dict_reverseitemiterator", "odict_iterator", "itertools.zip_longest", "itertools.pairwise"].contains n = false) (hQ : Q () s) : wpAny M A (letOwnedTupleGo tg (.ref it) u) Q E s := by
  unfold letOwnedTupleGo
  cases tg <;> first
    | exact wpAny_pure hQ
    | (cases u <;> first
        | exact wpAny_pure hQ
        | (refine wpAny_bind (wpAny_load ho ?_)
           rw [hc, hd]
           show wpAny M A (if (["enumerate", "zip", "dict_itemiterator", "dict_reverseitemiterator", "odict_iterator", "itertools.zip_longest", "itertools.pairwise"].contains n && vs[0]? == some (rawInt _)) = true then _ else _) Q E s
           rw [if_neg (by intro h; rw [hn, Bool.false_and] at h; cases h)]
           exact wpAny_pure hQ))

/-- the list at a, as it stands at each turn (a loop may append to it) -/
def Itl (K : PySem.W.Frag) (a : Addr) : It :=
  ⟨fun i H => ∃ xs x, SqL K H a xs ∧ xs[i]? = some x, fun i H x H' => H' = H ∧ ∀ xs, SqL K H a xs → xs[i]? = some x, fun i H => ∃ xs, SqL K H a xs ∧ xs.length ≤ i⟩
def Itt (K : PySem.W.Frag) (a : Addr) : It :=
  ⟨fun i H => ∃ xs x, SqT K H a xs ∧ xs[i]? = some x, fun i H x H' => H' = H ∧ ∀ xs, SqT K H a xs → xs[i]? = some x, fun i H => ∃ xs, SqT K H a xs ∧ xs.length ≤ i⟩
/-- lo, lo + 1, .. (n of them) -/
def Itr (lo : Int) (n : Nat) : It := ⟨fun i _ => i < n, fun i H x H' => H' = H ∧ x = .int (lo + i), fun i _ => n ≤ i⟩
theorem turn_list {P : Program} {w : World} {K : PySem.W.Frag} {tg : Expr} (a it : Addr) : Turn P w K tg (Itl K a) [it] it (fun i h => h.IsListIter it a i) where
  mem := by simp
  obj := fun i h st b hb => by
    have e : b = it := by simpa using hb
    subst e
    obtain ⟨o, e, c, d⟩ := st
    exact ⟨o, e, fun v z => by rw [d] at z; cases z⟩
  keep := fun i h h' st k => st.at fun o e => k it (by simp) o e
  item := by
    intro X hP hw hK hc i pins s σ H E I hf st hg
    subst hP hw hK
    obtain ⟨xs, x, hq, hx⟩ := hg
    obtain ⟨its, rv, p, hz⟩ := I.list hq
    obtain ⟨u, hu, ru⟩ := rv.get hx
    obtain ⟨f0, f1, f2, f3, f4, f5⟩ := hf it (by simp)
    refine wpAny_pyNext_list_item st p.isList (x := u) (by simpa using hu) fun h' st' sb => ?_
    have I1 : Inv X pins σ H { s with heap := h' } := I.turned (t' := s.toks) (fun b o hb e => (sb.2 b hb).trans e) f0 f1 f3 f4 f5
    obtain ⟨o, e, c, d⟩ := id st'
    exact ⟨u, rfl, go_of (s := { s with heap := h' }) e c d (by decide) ⟨x, H, I1, ru, ⟨rfl, fun ys hy => by rw [I.list_inj hy hq]; exact hx⟩, st', fun b hb => (hf b hb).1⟩⟩
  done := by
    intro X hP hw hK hc i pins s σ H E I hf st hg
    subst hP hw hK
    obtain ⟨xs, hq, hx⟩ := hg
    obtain ⟨its, rv, p, hz⟩ := I.list hq
    obtain ⟨f0, f1, f2, f3, f4, f5⟩ := hf it (by simp)
    have hl := rv.length
    exact wpAny_pyNext_list_end (I.ok.hd hc) st p.isList (by simp; omega) fun h' eb => ⟨rfl, I.turned (t' := s.toks) (fun b o hb e => eb b o hb e) f0 f1 f3 f4 f5⟩
  self := fun _ _ _ _ _ st h => wpAny_pyIter_listiter st h
theorem turn_tuple {P : Program} {w : World} {K : PySem.W.Frag} {tg : Expr} (a it : Addr) : Turn P w K tg (Itt K a) [it] it (fun i h => h.IsTupleIter it a i) where
  mem := by simp
  obj := fun i h st b hb => by
    have e : b = it := by simpa using hb
    subst e
    obtain ⟨o, e, c, d⟩ := st
    exact ⟨o, e, fun v z => by rw [d] at z; cases z⟩
  keep := fun i h h' st k => st.at fun o e => k it (by simp) o e
  item := by
    intro X hP hw hK hc i pins s σ H E I hf st hg
    subst hP hw hK
    obtain ⟨xs, x, hq, hx⟩ := hg
    obtain ⟨its, rv, p, hz⟩ := I.tuple hq
    obtain ⟨u, hu, ru⟩ := rv.get hx
    obtain ⟨f0, f1, f2, f3, f4, f5⟩ := hf it (by simp)
    refine wpAny_pyNext_tuple_item st (show s.heap.IsTuple a its.toArray from p) (x := u) (by simpa using hu) fun h' st' sb => ?_
    have I1 : Inv X pins σ H { s with heap := h' } := I.turned (t' := s.toks) (fun b o hb e => (sb.2 b hb).trans e) f0 f1 f3 f4 f5
    obtain ⟨o, e, c, d⟩ := id st'
    exact ⟨u, rfl, go_of (s := { s with heap := h' }) e c d (by decide) ⟨x, H, I1, ru, ⟨rfl, fun ys hy => by rw [I.tuple_inj hy hq]; exact hx⟩, st', fun b hb => (hf b hb).1⟩⟩
  done := by
    intro X hP hw hK hc i pins s σ H E I hf st hg
    subst hP hw hK
    obtain ⟨xs, hq, hx⟩ := hg
    obtain ⟨its, rv, p, hz⟩ := I.tuple hq
    obtain ⟨f0, f1, f2, f3, f4, f5⟩ := hf it (by simp)
    have hl := rv.length
    exact wpAny_pyNext_tuple_end (I.ok.hd hc) st (show s.heap.IsTuple a its.toArray from p) (by simp; omega) fun h' eb => ⟨rfl, I.turned (t' := s.toks) (fun b o hb e => eb b o hb e) f0 f1 f3 f4 f5⟩
  self := fun _ _ _ _ _ st h => wpAny_pyIter_tupleiter st h
theorem turn_range {P : Program} {w : World} {K : PySem.W.Frag} {tg : Expr} (it : Addr) (lo : Int) (n : Nat) : Turn P w K tg (Itr lo n) [it] it (fun i h => IsRangeIter h it (lo + (i : Nat) * 1) ((n : Int) - (i : Nat)) 1) where
  mem := by simp
  obj := fun i h st b hb => by
    have e : b = it := by simpa using hb
    subst e
    exact ⟨_, st, fun v z => by
      have z' : Data.fields _ = Data.cell v := z
      cases z'⟩
  keep := fun i h h' st k => k it (by simp) _ st
  item := by
    intro X hP hw hK hc i pins s σ H E I hf st hg
    subst hP hw hK
    obtain ⟨f0, f1, f2, f3, f4, f5⟩ := hf it (by simp)
    have W := Walks.range (prog := X.prog) (w := X.w) (I.ok.hd hc) it lo 1 n
    refine W.item i s _ _ hg st fun v h' tk hv st' kk => ?_
    obtain ⟨t, rfl⟩ := hv
    have I1 : Inv X pins σ H { s with heap := h', toks := tk } := I.turned (fun b o hb e => kk b o (by simpa using hb) e) f0 f1 f3 f4 f5
    refine ⟨_, rfl, go_of (s := { s with heap := h', toks := tk }) (n := "range_iterator") st' rfl rfl (by decide) ⟨.int (lo + i), H, I1, ⟨t, ?_⟩, ⟨rfl, rfl⟩, st', fun b hb => (hf b hb).1⟩⟩
    rw [Int.mul_one]
  done := by
    intro X hP hw hK hc i pins s σ H E I hf st hg
    subst hP hw hK
    obtain ⟨f0, f1, f2, f3, f4, f5⟩ := hf it (by simp)
    exact wpAny_pyNext_range_end (I.ok.hd hc) st (by have : n ≤ i := hg; omega) fun h' eb => ⟨rfl, I.turned (t' := s.toks) (fun b o hb e => eb b o hb e) f0 f1 f3 f4 f5⟩
  self := fun _ _ _ _ _ st h => wpAny_pyIter_rangeiter st h
end L2

namespace L2
open PySem PySem.Spec PyProof.Rows
section
variable {X : Cx} {tg : Expr}
def iList (K : PySem.W.Frag) (tl : TE) : TI := fun σ H R => tl σ H fun x H1 => ∃ a, x = .ref a ∧ (∃ xs, SqL K H1 a xs) ∧ R (Itl K a) H1
def iTup (K : PySem.W.Frag) (tl : TE) : TI := fun σ H R => tl σ H fun x H1 => ∃ a, x = .ref a ∧ (∃ xs, SqT K H1 a xs) ∧ R (Itt K a) H1
theorem pi_list {l : Expr} {tl : TE} (hl : PE X l tl) : PI X tg l (iList X.K tl) := by
  intro pins s σ H R I h
  refine thn (hl pins s σ H _ I h) fun v s1 ⟨x, H1, I1, r1, q1⟩ => ?_
  obtain ⟨a, e, ⟨xs, hq⟩, q⟩ := q1
  subst e
  cases r1
  obtain ⟨its, rv, p, hz⟩ := I1.list hq
  refine wpAny_pyIter_list p.isList ?_
  refine ⟨s1.heap.objs.size, [s1.heap.objs.size], _, _, H1, rfl, I1.kept (t' := s1.toks) fun b o e => Heap.get?_push_of_some _ e, turn_list a _, ⟨_, Heap.get?_push_size _ rfl, rfl, rfl⟩, fun b hb => ?_, q⟩
  have e : b = s1.heap.objs.size := by simpa using hb
  subst e
  exact I1.fpOk (Nat.le_refl _) (I1.hok.fresh (Nat.le_refl _))
theorem pi_tup {l : Expr} {tl : TE} (hl : PE X l tl) : PI X tg l (iTup X.K tl) := by
  intro pins s σ H R I h
  refine thn (hl pins s σ H _ I h) fun v s1 ⟨x, H1, I1, r1, q1⟩ => ?_
  obtain ⟨a, e, ⟨xs, hq⟩, q⟩ := q1
  subst e
  cases r1
  obtain ⟨its, rv, p, hz⟩ := I1.tuple hq
  refine wpAny_pyIter_tuple (show s1.heap.IsTuple a its.toArray from p) ?_
  refine ⟨s1.heap.objs.size, [s1.heap.objs.size], _, _, H1, rfl, I1.kept (t' := s1.toks) fun b o e => Heap.get?_push_of_some _ e, turn_tuple a _, ⟨_, Heap.get?_push_size _ rfl, rfl, rfl⟩, fun b hb => ?_, q⟩
  have e : b = s1.heap.objs.size := by simpa using hb
  subst e
  exact I1.fpOk (Nat.le_refl _) (I1.hok.fresh (Nat.le_refl _))
/-- a range object just made, walked -/
theorem range_it {pins : List (Addr × Obj)} {σ : St} {H : Hp} {s : Shared} {R : It → Hp → Prop} {E : Value → Shared → Prop} {lo hi : Int} {t u v : Tok} {tk : Nat} (I : Inv X pins σ H s) (h1 : -(2 ^ 62) ≤ lo) (h2 : lo < 2 ^ 62) (h3 : -(2 ^ 62) ≤ hi) (h4 : hi < 2 ^ 62)
    (q : R (Itr lo (hi - lo).toNat) H) : wpAny (model X.prog X.w) X.A (pyIter (.ref s.heap.objs.size)) (PIE X pins σ tg R) E { s with heap := s.heap.push { cls := .type "range", data := .fields #[.int lo t, .int hi u, .int 1 v] }, toks := tk } := by
  refine wpAny_pyIter_range (IsRange.new ..) (small_one h1 h2 h3 h4) ?_
  have I1 : Inv X pins σ H { s with heap := s.heap.push { cls := .type "range", data := .fields #[.int lo t, .int hi u, .int 1 v] }, toks := tk } := I.kept fun b o e => Heap.get?_push_of_some _ e
  refine ⟨(s.heap.push { cls := .type "range", data := .fields #[.int lo t, .int hi u, .int 1 v] }).objs.size, [(s.heap.push { cls := .type "range", data := .fields #[.int lo t, .int hi u, .int 1 v] }).objs.size], _, _, H, rfl,
    I1.kept (t' := tk) fun b o e => Heap.get?_push_of_some _ e, turn_range _ lo (hi - lo).toNat, ?_, fun b hb => ?_, q⟩
  · have e1 : lo + ((0 : Nat) : Int) * 1 = lo := by simp
    have e2 : (((hi - lo).toNat : Nat) : Int) - ((0 : Nat) : Int) = Builtin.Range.rangeSize lo hi 1 := by rw [rangeSize_one]; split <;> omega
    show IsRangeIter _ _ (lo + ((0 : Nat) : Int) * 1) ((((hi - lo).toNat : Nat) : Int) - ((0 : Nat) : Int)) 1
    rw [e1, e2]
    exact Heap.get?_push_size _ rfl
  · have e : b = (s.heap.push { cls := .type "range", data := .fields #[.int lo t, .int hi u, .int 1 v] }).objs.size := by simpa using hb
    subst e
    exact I1.fpOk (Nat.le_refl _) (I1.hok.fresh (Nat.le_refl _))
def iRng1 (ta : TA) : TI := fun σ H R => ta σ H fun vs H1 => ∃ j : Int, vs = [.int j] ∧ -(2 ^ 62) ≤ j ∧ j < 2 ^ 62 ∧ R (Itr 0 j.toNat) H1
def iRng2 (ta : TA) : TI := fun σ H R => ta σ H fun vs H1 => ∃ i j : Int, vs = [.int i, .int j] ∧ (-(2 ^ 62) ≤ i ∧ i < 2 ^ 62 ∧ -(2 ^ 62) ≤ j ∧ j < 2 ^ 62) ∧ R (Itr i (j - i).toNat) H1
theorem pi_range1 {a : Expr} {ta : TA} {p pos : Pos} (hg : Gl X "range") (hm : X.mg "range" = none) (ha : PA X [a] ta) (hs : starEach [a] X.env = [(false, eval a X.env)] := by rfl) : PI X tg (.Call (.Name "range" p) [a] [] pos) (iRng1 ta) := by
  intro pins s σ H R I h
  refine Call_ (ld_blt I hg hm boot_range (PyProof.Rows.callWith_type1 (thn (ha pos pins s σ H _ I h) fun us s1 ⟨vs, H1, I1, r1, q1⟩ => ?_) hs rfl))
  obtain ⟨j, e, q1, q2, q⟩ := q1
  subst e
  cases r1 with
  | cons r rr =>
    cases rr
    obtain ⟨t, rfl⟩ := r
    exact call_range_1 (range_it I1 (by omega) (by omega) q1 q2 (by simpa using q))
/-! ### for -/
/-- W: the invariant by the turn and a measure; N: what the body is to reach -/
def tFor (wi : TI) (g : TG) (tb : TS) : TS := fun D σ H => wi σ H fun J H1 => ∃ W : Nat → Nat → St → Hp → Prop, (∃ m, W 0 m σ H1) ∧ ∀ i m σ H, W i m σ H →
  (J.stop i H ∧ D.nx σ H) ∨ (J.go i H ∧ ∃ N : St → Hp → Prop, (∀ σ' H', N σ' H' → ∃ m', m' < m ∧ W (i + 1) m' σ' H') ∧ ∀ x H', J.yld i H x H' → g x σ H' fun σ2 H2 => tb { D with nx := N, ct := N, bk := D.nx } σ2 H2)
/-- the records at fp as they stand -/
def pinsAt (fp : List Addr) (h : Heap) : List (Addr × Obj) := fp.filterMap fun b => (h.get? b).map fun o => (b, o)
theorem mem_pinsAt {fp : List Addr} {h : Heap} {b : Addr} {o : Obj} (hb : b ∈ fp) (e : h.get? b = some o) : (b, o) ∈ pinsAt fp h := List.mem_filterMap.mpr ⟨b, hb, by rw [e]; rfl⟩
theorem of_pinsAt {fp : List Addr} {h : Heap} {p : Addr × Obj} (hp : p ∈ pinsAt fp h) : p.1 ∈ fp ∧ h.get? p.1 = some p.2 := by
  obtain ⟨b, hb, e⟩ := List.mem_filterMap.mp hp
  cases q : h.get? b with
  | none => rw [q] at e; cases e
  | some o =>
    rw [q] at e
    have e' : (b, o) = p := Option.some.inj e
    subst e'
    exact ⟨hb, q⟩
theorem Inv.pinned {pins : List (Addr × Obj)} {σ : St} {H : Hp} {s : Shared} {fp : List Addr} (I : Inv X pins σ H s) (hf : ∀ b ∈ fp, FpOk X pins H b) (ho : ∀ b ∈ fp, ∃ o, s.heap.get? b = some o ∧ ∀ v, o.data ≠ .cell v) : Inv X (pins ++ pinsAt fp s.heap) σ H s :=
  I.pins_of fun p hp => (List.mem_append.mp hp).elim (fun z => I.pin p (List.mem_append_right _ z)) fun z => by
    obtain ⟨hb, e⟩ := of_pinsAt z
    obtain ⟨f0, f1, f2, _⟩ := hf p.1 hb
    obtain ⟨o, e', d⟩ := ho p.1 hb
    rw [e] at e'; cases e'
    exact ⟨e, f0, f1, f2, d⟩
theorem Inv.unpinned {pins pl : List (Addr × Obj)} {σ : St} {H : Hp} {s : Shared} (I : Inv X (pins ++ pl) σ H s) : Inv X pins σ H s := I.pins_of fun p hp => I.pin p (List.mem_append_right _ (List.mem_append_left _ hp))
theorem ps_for {iter : Expr} {body : List Stmt} {wi : TI} {g : TG} {tb : TS} {pos : Pos} (hp : PassesOwn (model X.prog X.w) X.A X.env X.xe) (hc : X.calm = true) (hi : PI X tg iter wi) (hg : PG X tg g) (hb : PSs X body tb)
    (hs : ∀ x, foldedSetIterable iter X.env x = pure x := by intro _; rfl) : PS X (.For tg iter body [] pos) (tFor wi g tb) := by
  intro pins s σ H D I h
  refine wpAny_For (thn (hi pins s σ H _ I h) fun v s1 h1 => thn h1 fun itv s2 h2 => ?_) hs
  obtain ⟨it, fp, tn, J, H2, e, I2, T, st2, f2, W, ⟨m0, w0⟩, turn⟩ := h2
  subst e
  -- what stays true of the iterator's objects through the loop
  have stat : ∀ {H' : Hp}, (∀ b ∈ fp, H' b = none) → ∀ b ∈ fp, FpOk X pins H' b := fun hn b hb => ⟨hn b hb, (f2 b hb).2⟩
  refine codeAny_forLoop_any (fun n s' => ∃ i σ' H', Inv X pins σ' H' s' ∧ tn i s'.heap ∧ (∀ b ∈ fp, H' b = none) ∧ W i n σ' H') ?_ m0 ⟨0, σ, H2, I2, st2, fun b hb => (f2 b hb).1, w0⟩
  rintro n s3 ⟨i, σ3, H3, I3, st3, fr3, w3⟩
  rcases turn i n σ3 H3 w3 with ⟨stop, qn⟩ | ⟨go, N, hN, step⟩
  · refine wpAny_passesOwn hp (thn (T.done X rfl rfl rfl hc i pins s3 σ3 H3 X.xe I3 (stat fr3) st3 stop) fun r s4 ⟨hr, I4⟩ => ?_)
    subst hr
    exact wpAny_execs_nil ⟨σ3, H3, I4, qn⟩
  · refine wpAny_passesOwn hp (thn (T.item X rfl rfl rfl hc i pins s3 σ3 H3 X.xe I3 (stat fr3) st3 go) fun r s4 ⟨u, hr, h4⟩ => ?_)
    subst hr
    refine wpAny_passesOwn hp (thn h4 fun _ s5 ⟨x, H5, I5, r5, y5, st5, fr5⟩ => ?_)
    have I5' := I5.pinned (stat fr5) (T.obj _ _ st5)
    refine wpAny_passesOwn hp (thn (hg _ s5 σ3 H5 x u _ I5' r5 (step x H5 y5)) fun _ s6 ⟨σ6, H6, I6, q6⟩ => ?_)
    refine wpAny_passesOwn hp (thn (hb _ s6 σ6 H6 _ I6 q6) fun f s7 q7 => ?_)
    have again : ∀ {σ7 : St} {H7 : Hp}, Inv X (pins ++ pinsAt fp s5.heap) σ7 H7 s7 → N σ7 H7 → ∃ m, m < n ∧ ∃ i σ' H', Inv X pins σ' H' s7 ∧ tn i s7.heap ∧ (∀ b ∈ fp, H' b = none) ∧ W i m σ' H' := fun {σ7 H7} I7 n7 => by
      obtain ⟨m', hm, w7⟩ := hN σ7 H7 n7
      refine ⟨m', hm, i + 1, σ7, H7, I7.unpinned, T.keep _ _ _ st5 fun b hb o e => (I7.pin (b, o) (List.mem_append_right _ (List.mem_append_right _ (mem_pinsAt hb e)))).1, fun b hb => ?_, w7⟩
      obtain ⟨o, e, d⟩ := T.obj _ _ st5 b hb
      exact (I7.pin (b, o) (List.mem_append_right _ (List.mem_append_right _ (mem_pinsAt hb e)))).2.1
    cases f with
    | next => obtain ⟨σ7, H7, I7, n7⟩ := q7; exact again I7 n7
    | cont => obtain ⟨σ7, H7, I7, n7⟩ := q7; exact again I7 n7
    | brk => obtain ⟨σ7, H7, I7, q7⟩ := q7; exact ⟨σ7, H7, I7.unpinned, q7⟩
    | ret v => obtain ⟨x7, σ7, H7, I7, r7, q7⟩ := q7; exact ⟨x7, σ7, H7, I7.unpinned, r7, q7⟩
end

/-! ### the forms one uses -/
/-- over a list that the body leaves as it is -/
theorem for_list {K : PySem.W.Frag} {a : Addr} {xs : List V} {g : TG} {tb : TS} {D : Ends} {σ : St} {H : Hp} (Pv : Nat → St → Hp → Prop) (h0 : Pv 0 σ H) (hl : ∀ i σ H, i ≤ xs.length → Pv i σ H → SqL K H a xs)
    (hs : ∀ i x σ H, xs[i]? = some x → Pv i σ H → g x σ H fun σ2 H2 => tb { D with nx := Pv (i + 1), ct := Pv (i + 1), bk := D.nx } σ2 H2) (hd : ∀ σ H, Pv xs.length σ H → D.nx σ H) :
    ∃ W : Nat → Nat → St → Hp → Prop, (∃ m, W 0 m σ H) ∧ ∀ i m σ H, W i m σ H →
      ((Itl K a).stop i H ∧ D.nx σ H) ∨ ((Itl K a).go i H ∧ ∃ N : St → Hp → Prop, (∀ σ' H', N σ' H' → ∃ m', m' < m ∧ W (i + 1) m' σ' H') ∧ ∀ x H', (Itl K a).yld i H x H' → g x σ H' fun σ2 H2 => tb { D with nx := N, ct := N, bk := D.nx } σ2 H2) := by
  refine ⟨fun i m σ H => m = xs.length - i ∧ i ≤ xs.length ∧ Pv i σ H, ⟨xs.length, by simp, Nat.zero_le _, h0⟩, ?_⟩
  rintro i m σ H ⟨rfl, hi, p⟩
  have q := hl i σ H hi p
  by_cases hlt : i < xs.length
  · refine .inr ⟨⟨xs, xs[i], q, by simp [hlt]⟩, Pv (i + 1), fun σ' H' p' => ⟨xs.length - (i + 1), by omega, rfl, hlt, p'⟩, fun x H' y => ?_⟩
    obtain ⟨e, y⟩ := y
    subst e
    exact hs i x σ _ (y xs q) p
  · have e : i = xs.length := by omega
    subst e
    exact .inl ⟨⟨xs, q, Nat.le_refl _⟩, hd σ H p⟩
theorem for_range {lo : Int} {n : Nat} {g : TG} {tb : TS} {D : Ends} {σ : St} {H : Hp} (Pv : Nat → St → Hp → Prop) (h0 : Pv 0 σ H)
    (hs : ∀ i σ H, i < n → Pv i σ H → g (.int (lo + i)) σ H fun σ2 H2 => tb { D with nx := Pv (i + 1), ct := Pv (i + 1), bk := D.nx } σ2 H2) (hd : ∀ σ H, Pv n σ H → D.nx σ H) :
    ∃ W : Nat → Nat → St → Hp → Prop, (∃ m, W 0 m σ H) ∧ ∀ i m σ H, W i m σ H →
      ((Itr lo n).stop i H ∧ D.nx σ H) ∨ ((Itr lo n).go i H ∧ ∃ N : St → Hp → Prop, (∀ σ' H', N σ' H' → ∃ m', m' < m ∧ W (i + 1) m' σ' H') ∧ ∀ x H', (Itr lo n).yld i H x H' → g x σ H' fun σ2 H2 => tb { D with nx := N, ct := N, bk := D.nx } σ2 H2) := by
  refine ⟨fun i m σ H => m = n - i ∧ i ≤ n ∧ Pv i σ H, ⟨n, by simp, Nat.zero_le _, h0⟩, ?_⟩
  rintro i m σ H ⟨rfl, hi, p⟩
  by_cases hlt : i < n
  · refine .inr ⟨hlt, Pv (i + 1), fun σ' H' p' => ⟨n - (i + 1), by omega, rfl, hlt, p'⟩, fun x H' y => ?_⟩
    obtain ⟨e, y⟩ := y
    subst e y
    exact hs i σ _ hlt p
  · have e : i = n := by omega
    subst e
    exact .inl ⟨Nat.le_refl _, hd σ H p⟩
end L2

namespace L2
open PySem PySem.Spec PyProof.Rows

abbrev R2 := V → V → Hp → VK → Prop
/-- a two-place operation on values: f is binaryOp op, inplaceOp op or compareOp op -/
def OpR (X : Cx) (f : Value → Value → Sem Value) (r : R2) : Prop :=
  ∀ (pins : List (Addr × Obj)) (s : Shared) (σ : St) (H : Hp) (x y : V) (v u : Value) (Q : VK), Inv X pins σ H s → RelV x v → RelV y u → r x y H Q →
    wpAny (model X.prog X.w) X.A (f v u) (EP X pins σ Q) X.xe s
/-- a one-place operation -/
def UnR (X : Cx) (f : Value → Sem Value) (r : V → Hp → VK → Prop) : Prop :=
  ∀ (pins : List (Addr × Obj)) (s : Shared) (σ : St) (H : Hp) (x : V) (v : Value) (Q : VK), Inv X pins σ H s → RelV x v → r x H Q →
    wpAny (model X.prog X.w) X.A (f v) (EP X pins σ Q) X.xe s
/-- a call of a value that is known (a builtin, a type) with values -/
def CallR (X : Cx) (f : Value) (r : List V → Hp → VK → Prop) : Prop :=
  ∀ (pins : List (Addr × Obj)) (s : Shared) (σ : St) (H : Hp) (xs : List V) (us : List Value) (Q : VK), Inv X pins σ H s → Vals xs us → r xs H Q →
    wpAny (model X.prog X.w) X.A (call f us) (EP X pins σ Q) X.xe s
/-- a value's truth -/
def TruR (X : Cx) (r : V → Hp → (Bool → Hp → Prop) → Prop) : Prop :=
  ∀ (pins : List (Addr × Obj)) (s : Shared) (σ : St) (H : Hp) (x : V) (v : Value) (Q : Bool → Hp → Prop), Inv X pins σ H s → RelV x v → r x H Q →
    wpAny (model X.prog X.w) X.A (truthy v) (TP X pins σ Q) X.xe s

def tOp (r : R2) (ta tb : TE) : TE := fun σ H Q => ta σ H fun x H1 => tb σ H1 fun y H2 => r x y H2 Q
def tUn (r : V → Hp → VK → Prop) (ta : TE) : TE := fun σ H Q => ta σ H fun x H1 => r x H1 Q
/-- ints in, under C, and a value out -/
def rI (C : Int → Int → Prop) (g : Int → Int → V) : R2 := fun x y H Q => ∃ i j, x = .int i ∧ y = .int j ∧ C i j ∧ Q (g i j) H
def rI0 (g : Int → Int → V) : R2 := fun x y H Q => ∃ i j, x = .int i ∧ y = .int j ∧ Q (g i j) H
def rU (g : Int → V) : V → Hp → VK → Prop := fun x H Q => ∃ i, x = .int i ∧ Q (g i) H

section
variable {X : Cx} {a b c : Expr} {ta tb tc : TE} {pos : Pos}

theorem binT (ha : PE X a ta) (hb : PE X b tb) {pins : List (Addr × Obj)} {s : Shared} {σ : St} {H : Hp} {R : V → V → Hp → Prop} (I : Inv X pins σ H s)
    (h : ta σ H fun x H1 => tb σ H1 fun y H2 => R x y H2) {Q : Value → Shared → Prop} {f : Value → Value → Sem Value}
    (hf : ∀ v u s2 x y H2, Inv X pins σ H2 s2 → RelV x v → RelV y u → R x y H2 → wpAny (model X.prog X.w) X.A (f v u) Q X.xe s2) :
    wpAny (model X.prog X.w) X.A (eval a X.env) (fun v s₁ => wpAny (model X.prog X.w) X.A (eval b X.env) (fun u s₂ => wpAny (model X.prog X.w) X.A (f v u) Q X.xe s₂) X.xe s₁) X.xe s := by
  refine thn (ha pins s σ H _ I h) fun v s1 ⟨x, H1, I1, r1, q1⟩ => ?_
  refine thn (hb pins s1 σ H1 _ I1 q1) fun u s2 ⟨y, H2, I2, r2, q2⟩ => ?_
  exact hf v u s2 x y H2 I2 r1 r2 q2

theorem pe_op {op : Operator} {r : R2} (ho : OpR X (binaryOp op) r) (ha : PE X a ta) (hb : PE X b tb) : PE X (.BinOp a op b pos) (tOp r ta tb) := by
  intro pins s σ H Q I h
  exact wpAny_BinOp (binT ha hb I h fun v u s2 x y H2 I2 rx ry q => ho pins s2 σ H2 x y v u Q I2 rx ry q)
theorem pe_un {op : UnaryOp} {r : V → Hp → VK → Prop} (ho : UnR X (unaryOp op) r) (ha : PE X a ta) : PE X (.UnaryOp op a pos) (tUn r ta) := by
  intro pins s σ H Q I h
  exact UnaryOp_ (thn (ha pins s σ H _ I h) fun v s1 ⟨x, H1, I1, r1, q1⟩ => ho pins s1 σ H1 x v Q I1 r1 q1)
/-! ### ints -/
theorem opI {f : Value → Value → Sem Value} {C : Int → Int → Prop} {g : Int → Int → Int}
    (rule : ∀ (i j : Int) (t u : Tok) (s : Shared) (Q : Value → Shared → Prop) (E : Value → Shared → Prop), C i j → Q (.int (g i j) s.toks) { s with toks := s.toks + 1 } → wpAny (model X.prog X.w) X.A (f (.int i t) (.int j u)) Q E s) :
    OpR X f (rI C fun i j => .int (g i j)) := by
  intro pins s σ H x y v u Q I rx ry h
  obtain ⟨i, j, rfl, rfl, hc, q⟩ := h
  obtain ⟨t, rfl⟩ := rx
  obtain ⟨t', rfl⟩ := ry
  exact rule i j t t' s _ _ hc ⟨.int (g i j), H, I.tok _, ⟨_, rfl⟩, q⟩
theorem opI0 {f : Value → Value → Sem Value} {g : Int → Int → Int}
    (rule : ∀ (i j : Int) (t u : Tok) (s : Shared) (Q : Value → Shared → Prop) (E : Value → Shared → Prop), Q (.int (g i j) s.toks) { s with toks := s.toks + 1 } → wpAny (model X.prog X.w) X.A (f (.int i t) (.int j u)) Q E s) :
    OpR X f (rI0 fun i j => .int (g i j)) := by
  intro pins s σ H x y v u Q I rx ry h
  obtain ⟨i, j, rfl, rfl, q⟩ := h
  obtain ⟨t, rfl⟩ := rx
  obtain ⟨t', rfl⟩ := ry
  exact rule i j t t' s _ _ ⟨.int (g i j), H, I.tok _, ⟨_, rfl⟩, q⟩
theorem opB0 {f : Value → Value → Sem Value} {g : Int → Int → Bool}
    (rule : ∀ (i j : Int) (t u : Tok) (s : Shared) (Q : Value → Shared → Prop) (E : Value → Shared → Prop), Q (.bool (g i j)) s → wpAny (model X.prog X.w) X.A (f (.int i t) (.int j u)) Q E s) :
    OpR X f (rI0 fun i j => .bl (g i j)) := by
  intro pins s σ H x y v u Q I rx ry h
  obtain ⟨i, j, rfl, rfl, q⟩ := h
  obtain ⟨t, rfl⟩ := rx
  obtain ⟨t', rfl⟩ := ry
  exact rule i j t t' s _ _ ⟨.bl (g i j), H, I, rfl, q⟩

def CDiv (i j : Int) : Prop := 0 < j ∧ j < 1073741824
def CDivN (i j : Int) : Prop := j ≠ 0 ∧ j.natAbs < 1073741824
def CPow (i j : Int) : Prop := 0 ≤ j ∧ j ≤ 1000000 ∧ i.natAbs < 2 ^ 64
def CMul (i j : Int) : Prop := (-(2 ^ 64) < i ∧ i < 2 ^ 64) ∨ (-(2 ^ 64) < j ∧ j < 2 ^ 64)
theorem CMul.ok {i j : Int} (h : CMul i j) : IntMulOk i j := by
  rcases h with ⟨h1, h2⟩ | ⟨h1, h2⟩
  · exact .of_left (intBits_le_64 h1 h2)
  · exact .of_right (intBits_le_64 h1 h2)
theorem op_add : OpR X (binaryOp .Add) (rI0 fun i j => .int (i + j)) := opI0 fun _ _ _ _ _ _ _ q => add_int q
theorem op_sub : OpR X (binaryOp .Sub) (rI0 fun i j => .int (i - j)) := opI0 fun _ _ _ _ _ _ _ q => sub_int q
theorem op_mul : OpR X (binaryOp .Mult) (rI CMul fun i j => .int (i * j)) := opI fun _ _ _ _ _ _ _ hc q => mul_int q hc.ok
/-- // by a positive divisor -/
theorem op_fdiv : OpR X (binaryOp .FloorDiv) (rI CDiv fun i j => .int (i / j)) := opI fun i j _ _ _ _ _ hc q => by
  have h1 : (0 : Int) < j := hc.1
  have h2 : j < 1073741824 := hc.2
  exact floordiv_int (by omega) (by rw [Int.fdiv_eq_ediv_of_nonneg i (by omega)]; exact q) (.inl (PyProof.noPylong_small (by omega)))
/-- % by a positive divisor of any size -/
theorem op_mod : OpR X (binaryOp .Mod) (rI (fun _ j => 0 < j) fun i j => .int (i % j)) := opI fun i j _ _ _ _ _ hc q => by
  have h1 : (0 : Int) < j := hc
  exact mod_int' (by omega) (by rw [Int.fmod_eq_emod_of_nonneg i (by omega)]; exact q)
theorem unI {f : Value → Sem Value} {g : Int → Int}
    (rule : ∀ (i : Int) (t : Tok) (s : Shared) (Q : Value → Shared → Prop) (E : Value → Shared → Prop), Q (.int (g i) s.toks) { s with toks := s.toks + 1 } → wpAny (model X.prog X.w) X.A (f (.int i t)) Q E s) :
    UnR X f (rU fun i => .int (g i)) := by
  intro pins s σ H x v Q I rx h
  obtain ⟨i, rfl, q⟩ := h
  obtain ⟨t, rfl⟩ := rx
  exact rule i t s _ _ ⟨.int (g i), H, I.tok _, ⟨_, rfl⟩, q⟩
theorem un_neg : UnR X (unaryOp .USub) (rU fun i => .int (-i)) := unI fun _ _ _ _ _ q => neg_int q
/-! ### bools among ints: n += (a < b) -/
end

/-! ### comparisons -/
/-- the scalars that == tells apart as data does -/
def scal : V → V → Bool
  | .non, .non => true | .non, .int _ => true | .int _, .non => true | .non, .bl _ => true | .bl _, .non => true | .non, .str _ => true | .str _, .non => true
  | .int _, .int _ => true | .bl _, .bl _ => true | .str _, .str _ => true | .byt _, .byt _ => true
  | .int _, .str _ => true | .str _, .int _ => true | .bl _, .str _ => true | .str _, .bl _ => true
  | _, _ => false
def rEq : R2 := fun x y H Q => scal x y = true ∧ Q (.bl (decide (x = y))) H
def rNe : R2 := fun x y H Q => scal x y = true ∧ Q (.bl (!decide (x = y))) H

theorem dec_int {i j : Int} : decide (V.int i = V.int j) = (i == j) := by
  rw [Bool.eq_iff_iff]
  simp
theorem dec_bl {i j : Bool} : decide (V.bl i = V.bl j) = (i == j) := by
  rw [Bool.eq_iff_iff]
  simp
theorem dec_str {i j : Str} : decide (V.str i = V.str j) = (i == j) := by
  rw [Bool.eq_iff_iff]
  simp
theorem dec_byt {i j : Array UInt8} : decide (V.byt i = V.byt j) = (i.toList == j.toList) := by
  rw [Bool.eq_iff_iff]
  cases i
  cases j
  simp

section
variable {X : Cx} {a b c : Expr} {ta tb tc : TE} {pos : Pos}
theorem fin_bl {pins : List (Addr × Obj)} {σ : St} {H : Hp} {s : Shared} {Q : VK} {k k' : Bool} (I : Inv X pins σ H s) (q : Q (.bl k) H) (e : k = k') : EP X pins σ Q (.bool k') s := by
  subst e
  exact ⟨.bl k, H, I, rfl, q⟩
theorem op_eq : OpR X (compareOp .Eq) rEq := by
  intro pins s σ H x y v u Q I rx ry h
  obtain ⟨hs, q⟩ := h
  cases x with
  | non =>
    cases rx
    cases y with
    | non => cases ry; exact PySem.EqNone.eq_none_none (fin_bl I q (by simp))
    | bl j => cases ry; exact PySem.EqNone.eq_none_bool (fin_bl I q (by simp))
    | int j => obtain ⟨t', rfl⟩ := ry; exact PySem.EqNone.eq_none_int (fin_bl I q (by simp))
    | str j => obtain ⟨t', rfl⟩ := ry; exact PySem.EqNone.eq_none_str (fin_bl I q (by simp))
    | _ => exact absurd (show false = true from hs) Bool.false_ne_true
  | bl i =>
    cases rx
    cases y with
    | non => cases ry; exact PySem.EqNone.eq_bool_none (fin_bl I q (by simp))
    | bl j => cases ry; exact eq_bool (fin_bl I q dec_bl)
    | str j => obtain ⟨t', rfl⟩ := ry; exact PySem.EqMixed.eq_bool_str (fin_bl I q (by simp))
    | _ => exact absurd (show false = true from hs) Bool.false_ne_true
  | int i =>
    obtain ⟨t, rfl⟩ := rx
    cases y with
    | non => cases ry; exact PySem.EqNone.eq_int_none (fin_bl I q (by simp))
    | int j => obtain ⟨t', rfl⟩ := ry; exact eq_int (fin_bl I q dec_int)
    | str j => obtain ⟨t', rfl⟩ := ry; exact PySem.EqMixed.eq_int_str (fin_bl I q (by simp))
    | _ => exact absurd (show false = true from hs) Bool.false_ne_true
  | str i =>
    obtain ⟨t, rfl⟩ := rx
    cases y with
    | non => cases ry; exact PySem.EqNone.eq_str_none (fin_bl I q (by simp))
    | bl j => cases ry; exact PySem.EqMixed.eq_str_bool (fin_bl I q (by simp))
    | int j => obtain ⟨t', rfl⟩ := ry; exact PySem.EqMixed.eq_str_int (fin_bl I q (by simp))
    | str j => obtain ⟨t', rfl⟩ := ry; exact eq_str (fin_bl I q dec_str)
    | _ => exact absurd (show false = true from hs) Bool.false_ne_true
  | byt i =>
    obtain ⟨t, rfl⟩ := rx
    cases y with
    | byt j => obtain ⟨t', rfl⟩ := ry; exact PySem.W.eq_bytes (fin_bl I q dec_byt)
    | _ => exact absurd (show false = true from hs) Bool.false_ne_true
  | _ => cases y <;> exact absurd (show false = true from hs) Bool.false_ne_true
theorem op_ne : OpR X (compareOp .NotEq) rNe := by
  intro pins s σ H x y v u Q I rx ry h
  obtain ⟨hs, q⟩ := h
  cases x with
  | non =>
    cases rx
    cases y with
    | non => cases ry; exact PySem.EqNone.ne_none_none (fin_bl I q (by simp))
    | bl j => cases ry; exact PySem.EqNone.ne_none_bool (fin_bl I q (by simp))
    | int j => obtain ⟨t', rfl⟩ := ry; exact PySem.EqNone.ne_none_int (fin_bl I q (by simp))
    | str j => obtain ⟨t', rfl⟩ := ry; exact PySem.EqNone.ne_none_str (fin_bl I q (by simp))
    | _ => exact absurd (show false = true from hs) Bool.false_ne_true
  | bl i =>
    cases rx
    cases y with
    | non => cases ry; exact PySem.EqNone.ne_bool_none (fin_bl I q (by simp))
    | bl j => cases ry; exact ne_bool (fin_bl I q (congrArg not dec_bl))
    | str j => obtain ⟨t', rfl⟩ := ry; exact PySem.EqMixed.ne_bool_str (fin_bl I q (by simp))
    | _ => exact absurd (show false = true from hs) Bool.false_ne_true
  | int i =>
    obtain ⟨t, rfl⟩ := rx
    cases y with
    | non => cases ry; exact PySem.EqNone.ne_int_none (fin_bl I q (by simp))
    | int j => obtain ⟨t', rfl⟩ := ry; exact ne_int (fin_bl I q (congrArg not dec_int))
    | str j => obtain ⟨t', rfl⟩ := ry; exact PySem.EqMixed.ne_int_str (fin_bl I q (by simp))
    | _ => exact absurd (show false = true from hs) Bool.false_ne_true
  | str i =>
    obtain ⟨t, rfl⟩ := rx
    cases y with
    | non => cases ry; exact PySem.EqNone.ne_str_none (fin_bl I q (by simp))
    | bl j => cases ry; exact PySem.EqMixed.ne_str_bool (fin_bl I q (by simp))
    | int j => obtain ⟨t', rfl⟩ := ry; exact PySem.EqMixed.ne_str_int (fin_bl I q (by simp))
    | str j => obtain ⟨t', rfl⟩ := ry; exact ne_str (fin_bl I q (congrArg not dec_str))
    | _ => exact absurd (show false = true from hs) Bool.false_ne_true
  | byt i =>
    obtain ⟨t, rfl⟩ := rx
    cases y with
    | byt j => obtain ⟨t', rfl⟩ := ry; exact PySem.W.ne_bytes (fin_bl I q (congrArg not dec_byt))
    | _ => exact absurd (show false = true from hs) Bool.false_ne_true
  | _ => cases y <;> exact absurd (show false = true from hs) Bool.false_ne_true

theorem op_lt : OpR X (compareOp .Lt) (rI0 fun i j => .bl (decide (i < j))) := opB0 fun _ _ _ _ _ _ _ q => lt_int q
theorem op_le : OpR X (compareOp .LtE) (rI0 fun i j => .bl (decide (i ≤ j))) := opB0 fun _ _ _ _ _ _ _ q => le_int q
theorem op_gt : OpR X (compareOp .Gt) (rI0 fun i j => .bl (decide (j < i))) := opB0 fun _ _ _ _ _ _ _ q => gt_int q
theorem op_ge : OpR X (compareOp .GtE) (rI0 fun i j => .bl (decide (j ≤ i))) := opB0 fun _ _ _ _ _ _ _ q => ge_int q
/-- the one string within the other -/
theorem op_in_str : OpR X (compareOp .In) (fun x y H Q => ∃ i j, x = .str i ∧ y = .str j ∧ Q (.bl (!(Builtin.Str.occurrences j i 0 j.length 1).isEmpty)) H) := by
  intro pins s σ H x y v u Q I rx ry h
  obtain ⟨i, j, rfl, rfl, q⟩ := h
  obtain ⟨t, rfl⟩ := rx
  obtain ⟨t', rfl⟩ := ry
  exact in_str (fin_bl I q rfl)

/-- is None, is not None: the right side a value none -/
theorem op_isN : OpR X (compareOp .Is) (fun x y H Q => y = .non ∧ Q (.bl (decide (x = .non))) H) := by
  intro pins s σ H x y v u Q I rx ry h
  obtain ⟨rfl, q⟩ := h
  cases ry
  refine is_none_gen (fin_bl I q ?_)
  cases x <;> first
    | (cases rx; rfl)
    | (obtain ⟨t, rfl⟩ := rx; rfl)
theorem op_notN : OpR X (compareOp .IsNot) (fun x y H Q => y = .non ∧ Q (.bl (!decide (x = .non))) H) := by
  intro pins s σ H x y v u Q I rx ry h
  obtain ⟨rfl, q⟩ := h
  cases ry
  refine isnot_none_gen (fin_bl I q ?_)
  cases x <;> first
    | (cases rx; rfl)
    | (obtain ⟨t, rfl⟩ := rx; rfl)

/-- is, is not of two objects that are tracked lists or instances -/
def isObj : HO → Bool
  | .lst _ => true
  | .ins _ _ _ => true
  | _ => false
theorem nomark (b : Expr) {op : CmpOp} (h : op ≠ .In := by decide) (h2 : op ≠ .NotIn := by decide) : behindInMarks op b = false := by
  have e1 : (op == CmpOp.In) = false := by cases op <;> first | rfl | exact absurd rfl h
  have e2 : (op == CmpOp.NotIn) = false := by cases op <;> first | rfl | exact absurd rfl h2
  cases b <;> simp [behindInMarks, e1, e2]
/-- a comparison as a value; hm: nomark b, or (for in, not in) by with_unfolding_all rfl -/
theorem pe_cmpR {op : CmpOp} {r : R2} (ho : OpR X (compareOp op) r) (ha : PE X a ta) (hb : PE X b tb) (hm : behindInMarks op b = false) : PE X (.Compare a [op] [b] pos) (tOp r ta tb) := by
  intro pins s σ H Q I h
  exact wpAny_Compare1 (binT ha hb I h fun v u s2 x y H2 I2 rx ry q => ho pins s2 σ H2 x y v u Q I2 rx ry q) hm
/-- a reading of a value as a test -/
def tTest (t : TE) : TT := fun σ H Q => t σ H fun x H' => ∃ k, x = .bl k ∧ Q k H'
theorem pt_cmpR {op : CmpOp} {r : R2} (ho : OpR X (compareOp op) r) (ha : PE X a ta) (hb : PE X b tb) (hm : behindInMarks op b = false) : PT X (.Compare a [op] [b] pos) (tTest (tOp r ta tb)) := by
  intro pins s σ H Q I h
  refine wpAny_isTrue_Compare1 (thn (ha pins s σ H _ I h) fun v s1 ⟨x, H1, I1, r1, q1⟩ => thn (hb pins s1 σ H1 _ I1 q1) fun u s2 ⟨y, H2, I2, r2, q2⟩ =>
    thn (ho pins s2 σ H2 x y v u _ I2 r1 r2 q2) fun c s3 ⟨z, H3, I3, r3, k, e, q3⟩ => ?_) hm
  subst e
  cases r3
  exact wpAny_truthy_bool ⟨H3, I3, q3⟩
/-- a op1 b op2 c -/
def tChain (r r' : R2) (ta tb tc : TE) : TE := fun σ H Q => ta σ H fun x H1 => tb σ H1 fun y H2 => r x y H2 fun z H3 => ∃ k, z = .bl k ∧
  (if k = true then tc σ H3 fun w' H4 => r' y w' H4 Q else Q (.bl false) H3)
theorem pt_chain {op op' : CmpOp} {r r' : R2} (ho : OpR X (compareOp op) r) (ho' : OpR X (compareOp op') r') (ha : PE X a ta) (hb : PE X b tb) (hc : PE X c tc)
    (hm : lastMarks [op, op'] [b, c] = false := by with_unfolding_all rfl) : PT X (.Compare a [op, op'] [b, c] pos) (tTest (tChain r r' ta tb tc)) := by
  intro pins s σ H Q I h
  refine isTrue_chain (thn (ha pins s σ H _ I h) fun v s1 ⟨x, H1, I1, r1, q1⟩ => test_link (thn (hb pins s1 σ H1 _ I1 q1) fun u s2 ⟨y, H2, I2, r2, q2⟩ =>
    thn (ho pins s2 σ H2 x y v u _ I2 r1 r2 q2) fun d s3 ⟨z, H3, I3, r3, k, e, q3⟩ => ?_)) hm
  subst e
  cases r3
  refine wpAny_truthy_bool ?_
  cases k with
  | false =>
    obtain ⟨k', e', q'⟩ := q3
    cases e'
    exact ite_ff ⟨H3, I3, q'⟩
  | true =>
    refine ite_tt (test_last (thn (hc pins s3 σ H3 _ I3 q3) fun w' s4 ⟨z', H4, I4, r4, q4⟩ => thn (ho' pins s4 σ H4 y z' u w' _ I4 r2 r4 q4) fun d' s5 ⟨z2, H5, I5, r5, k2, e2, q5⟩ => ?_))
    subst e2
    cases r5
    exact wpAny_truthy_bool ⟨H5, I5, q5⟩

/-! ### truth -/
/-- a value's truth by the abstract heap -/
def TruV (K : PySem.W.Frag) (x : V) (H : Hp) (k : Bool) : Prop :=
  match x with
  | .non => k = false
  | .bl b => k = b
  | .int i => k = (i != 0)
  | .str y => y.length ≤ sizeLine ∧ k = ((y.length : Int) != 0)
  | .byt y => y.size ≤ sizeLine ∧ k = ((y.size : Int) != 0)
  | .ref p => (∃ xs, SqL K H p xs ∧ k = !xs.isEmpty) ∨ (∃ xs, SqT K H p xs ∧ k = !xs.isEmpty) ∨ ∃ kvs, H p = some (.dK kvs) ∧ k = !kvs.isEmpty
  | _ => False
theorem line63 : (sizeLine : Nat) < 2 ^ 63 := by rw [sizeLine_eq]; decide
/-! ### strs and bytes -/
def PlainIxT (b : Expr) : Prop := ∀ o i, subscripted b false o i = operate [o, i] (getItem o i)
/-! ### scalar builtins, by CallR -/
theorem vals1 {x : V} {us : List Value} (r : Vals [x] us) : ∃ u, us = [u] ∧ RelV x u := by
  cases r with
  | cons r1 r2 => cases r2; exact ⟨_, rfl, r1⟩
theorem vals2 {x y : V} {us : List Value} (r : Vals [x, y] us) : ∃ u w', us = [u, w'] ∧ RelV x u ∧ RelV y w' := by
  cases r with
  | cons r1 r2 =>
    cases r2 with
    | cons r3 r4 => cases r4; exact ⟨_, _, rfl, r1, r3⟩
/-- len of a str, a bytes, a list, a tuple -/
def LenV (K : PySem.W.Frag) (x : V) (H : Hp) (n : Nat) : Prop :=
  match x with
  | .str y => y.length ≤ sizeLine ∧ n = y.length
  | .byt y => y.size ≤ sizeLine ∧ n = y.size
  | .ref p => (∃ xs, SqL K H p xs ∧ n = xs.length) ∨ ∃ xs, SqT K H p xs ∧ n = xs.length
  | _ => False
end
end L2

namespace L2
open PySem PySem.Spec PyProof.Rows

/-! ### an instance, its attributes a map -/
structure ObjM (h : Heap) (x dx C : Addr) (mA : Str → Option Value) : Prop where
  obj : h.get? x = some (PySem.W.instObj C dx)
  ns : h.Ns1 dx mA
  ne : dx ≠ x

theorem lookIn_ns {h : Heap} {dx : Addr} {mA : Str → Option Value} (n : h.Ns1 dx mA) : ∃ od, h.get? dx = some od ∧ ∀ name, PySem.W.lookIn name od = some (mA name) := by
  obtain ⟨o, es, ep, ho, hd, hk, _, hm⟩ := n
  refine ⟨o, ho, fun name => ?_⟩
  have e := hm name
  unfold nsFind findBy at e
  rw [← Array.find?_toList] at e
  unfold PySem.W.lookIn
  rw [hd]
  dsimp only
  split
  · rename_i y q
    rw [q] at e
    exact congrArg some e
  · rename_i q
    rw [q] at e
    have a : es.toList.any (·.refKey) = false := by
      rw [List.any_eq_false]
      intro y hy
      obtain ⟨z, t, hkey⟩ := hk y (Array.mem_toList_iff.mp hy)
      simp [DictEntry.refKey, hkey]
    have a' : ¬ es.toList.any (·.refKey) = true := by rw [a]; exact Bool.false_ne_true
    rw [if_neg a']
    exact congrArg some e

theorem ObjM.look {h : Heap} {x dx C : Addr} {mA : Str → Option Value} (I : ObjM h x dx C mA) : ∃ od, PySem.W.InstAt h x (PySem.W.instObj C dx) C (some od) ∧ ∀ name, PySem.W.lookIn name od = some (mA name) :=
  let ⟨od, ho, hl⟩ := lookIn_ns I.ns
  ⟨od, ⟨I.obj, rfl, rfl, ho⟩, hl⟩

section
variable {prog : Program} {w : World} {A : Around} {E : Value → Shared → Prop} {s : Shared} {K : PySem.W.Frag} {x dx C f : Addr} {mA : Str → Option Value} {name : Str} {v : Value}

theorem get_map {expr : Bool} {Q : Value → Shared → Prop} (X : K.In s.heap) (I : ObjM s.heap x dx C mA) (hg : PySem.W.plainGet K C name = true) (hh : PySem.W.hasDictIn K C = true)
    (ha : PySem.W.findIn K (.ref C) name = some none) (hv : mA name = some v) (hv' : PySem.W.handedIn v = true) (h : Q v { s with toks := s.toks + 1 }) :
    wpAny (model prog w) A (getAttr (.ref x) name expr) Q E s := by
  obtain ⟨od, J, hl⟩ := I.look
  exact PySem.W.get_value X J (PySem.W.plainGet_of hg).1 (PySem.W.findObj_own hh ha rfl (by rw [hl, hv])) hv' h

theorem get_meth {pl : Sem Bool} {Q : Value × List Value → Shared → Prop} (X : K.In s.heap) (I : ObjM s.heap x dx C mA) (hg : PySem.W.plainGet K C name = true)
    (hf : PySem.W.findIn K (.ref C) name = some (some (.ref f))) (ht : PySem.W.isFn K (.ref f) = true) (hv : mA name = none) (h : Q (.ref f, [.ref x]) s) :
    wpAny (model prog w) A (getMethod (.ref x) name pl) Q E s := by
  obtain ⟨od, J, hl⟩ := I.look
  exact PySem.W.method_fn X J (PySem.W.plainGet_of hg).1 (PySem.W.plainGet_of hg).2 hf (beq_iff_eq.mp ht) (by show (PySem.W.lookIn name od).map (·.isSome) = some false; rw [hl, hv]; rfl) h

theorem set_map {ns : List Str} {Q : Unit → Shared → Prop} (X : K.In s.heap) (I : ObjM s.heap x dx C mA)
    (hs : PySem.W.findIn K (.ref C) "__setattr__" = some (some (.builtin "object.__setattr__"))) (hp : PySem.W.plainOver K C = true) (ht : PySem.W.takerIn K C name = some none) (hh : PySem.W.hasDictIn K C = true)
    (hw : PySem.Within mA ns) (hsz : ns.length ≤ sizeLine)
    (h : ∀ h', ObjM h' x dx C (fun y => if y = name then some v else mA y) → Heap.SameBut dx s.heap h' → Q () { s with heap := h', toks := s.toks + 2 }) :
    wpAny (model prog w) A (setAttr (.ref x) name v) Q E s := by
  obtain ⟨od, J, hl⟩ := I.look
  refine PySem.W.set_plain X J hs (PySem.W.osa_open (s := { s with toks := s.toks + 1 }) (r := none) X J hp ht fun b => ?_)
  obtain ⟨cd, hc, hd'⟩ := PySem.W.any_some hh
  have hx : s.heap.get? x = some ⟨.ref C, some dx, .plain, #[]⟩ := I.obj
  refine wpAny_bind (wpAny_pure (wpAny_bind (wpAny_bind (wpAny_loadPart hx (wpAny_bind (PySem.W.Looks.here (s := { s with toks := s.toks + 1 }) (PySem.W.looks_clsIn X hc) ?_))))))
  rw [hd']
  refine wpAny_pure (a := some dx) (wpAny_bind (wpAny_pure (wpAny_bind ?_)))
  refine wpAny_nsSet1 (s := { s with toks := s.toks + 1 }) I.ns fun h' hn2 hs2 => ?_
  obtain ⟨oD, esD, epD, hoD, hdD, hcD⟩ := hn2.count (PySem.Within.cons name v hw)
  refine wpAny_bind (wpAny_lookBehind hoD (by rw [hdD]; exact pastItsLine_dict (Nat.le_trans hcD (by rw [List.length_cons]; omega))) ?_)
  exact wpAny_pure (h _ ⟨(hs2.2 _ (Ne.symm I.ne)).trans I.obj, hn2, I.ne⟩ hs2)

/-- C(..): the dict at the heap's end, the instance behind it; then its __init__ -/
theorem make_map {R : Result → Shared → Prop} {vs : List Value} {kw : List (Str × Value)} (X : K.In s.heap) (hm : PySem.W.makesIn K C = true)
    (hi : PySem.W.findIn K (.ref C) "__init__" = some (some (.ref f))) (hf : PySem.W.typeIn K (.ref f) = some (.type "function"))
    (h : codeAny (model prog w) (A.under (.builtin "type.__call__" ⟨.ref C :: vs, kw⟩)) (.call (.ref f) ⟨.ref (s.heap.objs.size + 1) :: vs, kw⟩) (PySem.W.InitBack (s.heap.objs.size + 1) R)
      { s with heap := (s.heap.push PySem.W.emptyDict).push (PySem.W.instObj C s.heap.objs.size) }) :
    codeAny (model prog w) A (.call (.ref C) ⟨vs, kw⟩) R s := by
  obtain ⟨hh, g, d, t, os⟩ := s
  exact PySem.W.make_core (PySem.W.makes_of X hm) (PySem.W.looks_findIn X hi) (fun self => PySem.W.bind_fn X self hf) (.inl rfl) h
end

/-! ### the attributes as a list of pairs -/
def putF (f : Str) (v : V) : List (Str × V) → List (Str × V)
  | [] => [(f, v)]
  | (g, x) :: r => if g = f then (g, v) :: r else (g, x) :: putF f v r
theorem lookup_putF (f g : Str) (v : V) : ∀ fs : List (Str × V), (putF f v fs).lookup g = if g = f then some v else fs.lookup g
  | [] => by
    show List.lookup g [(f, v)] = _
    by_cases h : g = f
    · have hb : (g == f) = true := beq_iff_eq.mpr h
      simp only [List.lookup, hb, if_pos h]
    · have hb : (g == f) = false := beq_eq_false_iff_ne.mpr h
      simp only [List.lookup, hb, if_neg h]
  | (k, x) :: r => by
    have ih := lookup_putF f g v r
    rw [show putF f v ((k, x) :: r) = (if k = f then (k, v) :: r else (k, x) :: putF f v r) from rfl]
    by_cases hk : k = f
    · rw [if_pos hk]
      by_cases h : g = k
      · have hb : (g == k) = true := beq_iff_eq.mpr h
        simp only [List.lookup, hb, if_pos (h.trans hk)]
      · have hb : (g == k) = false := beq_eq_false_iff_ne.mpr h
        simp only [List.lookup, hb, if_neg (fun e : g = f => h (e.trans hk.symm))]
    · rw [if_neg hk]
      by_cases h : g = k
      · have hb : (g == k) = true := beq_iff_eq.mpr h
        simp only [List.lookup, hb, if_neg (fun e : g = f => hk (h.symm.trans e))]
      · have hb : (g == k) = false := beq_eq_false_iff_ne.mpr h
        simp only [List.lookup, hb]
        exact ih
theorem keys_putF (f : Str) (v : V) : ∀ fs : List (Str × V), f ∈ (putF f v fs).map (·.1) ∧ ∀ g, g ∈ fs.map (·.1) → g ∈ (putF f v fs).map (·.1)
  | [] => ⟨by simp [putF], fun g h => by simp at h⟩
  | (k, x) :: r => by
    obtain ⟨i1, i2⟩ := keys_putF f v r
    rw [show putF f v ((k, x) :: r) = (if k = f then (k, v) :: r else (k, x) :: putF f v r) from rfl]
    by_cases hk : k = f
    · rw [if_pos hk]
      subst hk
      exact ⟨by simp, fun g h => by simpa using h⟩
    · rw [if_neg hk]
      refine ⟨?_, fun g h => ?_⟩
      · rw [List.map_cons]
        exact List.mem_cons_of_mem _ i1
      · rw [List.map_cons] at h ⊢
        rcases List.mem_cons.mp h with e | e
        · exact List.mem_cons.mpr (.inl e)
        · exact List.mem_cons_of_mem _ (i2 g e)
theorem length_putF (f : Str) (v : V) : ∀ fs : List (Str × V), (putF f v fs).length ≤ fs.length + 1
  | [] => by simp [putF]
  | (k, x) :: r => by
    have ih := length_putF f v r
    rw [show putF f v ((k, x) :: r) = (if k = f then (k, v) :: r else (k, x) :: putF f v r) from rfl]
    by_cases hk : k = f
    · rw [if_pos hk, List.length_cons, List.length_cons]; omega
    · rw [if_neg hk, List.length_cons, List.length_cons]; omega

theorem RelO.some_of {v : V} {o : Option Value} (r : RelO (some v) o) : ∃ u, o = some u ∧ RelV v u := by
  cases o with
  | none => exact (show False from r).elim
  | some u => exact ⟨u, rfl, r⟩
theorem RelO.none_of {o : Option Value} (r : RelO none o) : o = none := by
  cases o with
  | none => rfl
  | some u => exact (show False from r).elim
theorem handed_of {v : V} {u : Value} (r : RelV v u) : PySem.W.handedIn u = true := by
  cases v with
  | non => cases (show u = Value.none from r); rfl
  | bl b => cases (show u = Value.bool b from r); rfl
  | int i => obtain ⟨t, e⟩ := (show ∃ t, u = Value.int i t from r); cases e; rfl
  | str x => obtain ⟨t, e⟩ := (show ∃ t, u = Value.str x t from r); cases e; rfl
  | byt b => obtain ⟨t, e⟩ := (show ∃ t, u = Value.bytes b t from r); cases e; rfl
  | flt b => obtain ⟨t, e⟩ := (show ∃ t, u = Value.float b t from r); cases e; rfl
  | ref a => cases (show u = Value.ref a from r); rfl
  | ty n => cases (show u = Value.type n from r); rfl

section
variable {P : Program} {w : World} {H H' : Hp} {h h' : Heap} {a C dx : Addr} {fs fs' : List (Str × V)}
theorem ins_get (hok : HOk P w H h) (e : H a = some (.ins C dx fs)) : ∃ mA, ObjM h a dx C mA ∧ (∀ f, RelO (fs.lookup f) (mA f)) ∧ PySem.Within mA (fs.map (·.1)) ∧ fs.length ≤ 1000 ∧ H dx = some (.own a) := by
  obtain ⟨d, z, ne, ob, mA, n, r, q⟩ := (show ObjOk P w H h a (.ins C dx fs) from hok a _ e)
  exact ⟨mA, ⟨ob, n, ne⟩, r, q, z, d⟩
end

/-! ### what of the text a class must have -/
structure Cls (K : PySem.W.Frag) (C : Addr) : Prop where
  pg : PySem.W.plainGet K C Str.empty = true
  hd : PySem.W.hasDictIn K C = true
  po : PySem.W.plainOver K C = true
  sa : PySem.W.findIn K (.ref C) "__setattr__" = some (some (.builtin "object.__setattr__"))
theorem Cls.get {K : PySem.W.Frag} {C : Addr} (c : Cls K C) (f : Str) : PySem.W.plainGet K C f = true := c.pg
/-- no class of it has the name -/
def NoAttr (K : PySem.W.Frag) (C : Addr) (f : Str) : Prop := PySem.W.findIn K (.ref C) f = some none
theorem NoAttr.taker {K : PySem.W.Frag} {C : Addr} {f : Str} (n : NoAttr K C f) : PySem.W.takerIn K C f = some none := by
  unfold PySem.W.takerIn
  rw [show PySem.W.findIn K (.ref C) f = some none from n]
  rfl
/-- a constant of the class -/
structure Con (K : PySem.W.Frag) (C : Addr) (f : Str) (v : V) (u : Value) : Prop where
  at_ : PySem.W.findIn K (.ref C) f = some (some u)
  rel : RelV v u
  get : PySem.W.specialIn K u "__get__" = some none
  cp : PySem.W.copiedNames.contains f = false
/-- a method: a plain def of the class or of one above it -/
structure Meth (K : PySem.W.Frag) (C : Addr) (m : Str) (f : Addr) : Prop where
  at_ : PySem.W.findIn K (.ref C) m = some (some (.ref f))
  fn : PySem.W.isFn K (.ref f) = true
  kp : PySem.W.keepIn K (.ref f) = true

section
variable {X : Cx} {pins : List (Addr × Obj)} {σ : St} {H : Hp} {s : Shared} {a C dx : Addr} {fs : List (Str × V)} {f : Str} {v : V} {A : Around} {E : Value → Shared → Prop}

theorem getattr_ok {b : Bool} {Q : Value → Shared → Prop} (I : Inv X pins σ H s) (e : H a = some (.ins C dx fs)) (c : Cls X.K C) (n : NoAttr X.K C f) (l : fs.lookup f = some v)
    (h : ∀ u s', Inv X pins σ H s' → RelV v u → Q u s') : wpAny (model X.prog X.w) A (getAttr (.ref a) f b) Q E s := by
  obtain ⟨mA, O, r, _, _, _⟩ := ins_get I.hok e
  obtain ⟨u, hu, ru⟩ := RelO.some_of (v := v) (o := mA f) (by rw [← l]; exact r f)
  exact get_map I.kIn O (c.get f) c.hd n hu (handed_of ru) (h u _ (I.tok _) ru)

theorem getmeth_ok {m : Str} {g : Addr} {pl : Sem Bool} {Q : Value × List Value → Shared → Prop} (I : Inv X pins σ H s) (e : H a = some (.ins C dx fs)) (c : Cls X.K C) (k : Meth X.K C m g) (l : fs.lookup m = none)
    (h : Q (.ref g, [.ref a]) s) : wpAny (model X.prog X.w) A (getMethod (.ref a) m pl) Q E s := by
  obtain ⟨mA, O, r, _, _, _⟩ := ins_get I.hok e
  have hn : mA m = none := RelO.none_of (by rw [← l]; exact r m)
  exact get_meth I.kIn O (c.get m) k.at_ k.fn hn h

theorem setattr_ok {y : V} {u : Value} {Q : Unit → Shared → Prop} (I : Inv X pins σ H s) (e : H a = some (.ins C dx fs)) (c : Cls X.K C) (n : NoAttr X.K C f) (hl : fs.length < 1000) (ry : RelV y u)
    (h : ∀ s', Inv X pins σ (upd H a (.ins C dx (putF f y fs))) s' → Q () s') : wpAny (model X.prog X.w) A (setAttr (.ref a) f u) Q E s := by
  obtain ⟨mA, O, r, wi, _, ho⟩ := ins_get I.hok e
  have hz : (fs.map (·.1)).length ≤ sizeLine := by rw [List.length_map, sizeLine_eq]; omega
  refine set_map I.kIn O c.sa c.po n.taker c.hd wi hz fun h' O' sb => h _ ?_
  have hd : ∃ o, h'.get? dx = some o := let ⟨o, _, _, e', _⟩ := O'.ns; ⟨o, e'⟩
  refine I.write (x := a) (e := dx) (by rw [e]; exact True.intro) (.inr ho) (fun b q hb z => (sb.2 b hb).trans z) hd ?_
  refine ⟨by rw [upd_ne O.ne]; exact ho, ?_, O.ne, O'.obj, _, O'.ns, fun g => ?_, fun g hg => ?_⟩
  · have := length_putF f y fs; omega
  · show RelO ((putF f y fs).lookup g) (if g = f then some u else mA g)
    rw [lookup_putF]
    by_cases q : g = f
    · rw [if_pos q, if_pos q]; exact ry
    · rw [if_neg q, if_neg q]; exact r g
  · by_cases q : g = f
    · rw [q]; exact (keys_putF f y fs).1
    · refine (keys_putF f y fs).2 g (wi g fun z => hg ?_)
      show (if g = f then some u else mA g) = none
      rw [if_neg q]; exact z

/-- a new instance, tracked, without attributes -/
theorem Inv.made (I : Inv X pins σ H s) : Inv X pins σ (upd (upd H s.heap.objs.size (.own (s.heap.objs.size + 1))) (s.heap.objs.size + 1) (.ins C s.heap.objs.size []))
    { s with heap := (s.heap.push PySem.W.emptyDict).push (PySem.W.instObj C s.heap.objs.size) } := by
  have e1 : (s.heap.push PySem.W.emptyDict).get? s.heap.objs.size = some PySem.W.emptyDict := Heap.get?_push_size s.heap rfl
  have e2 : ((s.heap.push PySem.W.emptyDict).push (PySem.W.instObj C s.heap.objs.size)).get? (s.heap.objs.size + 1) = some (PySem.W.instObj C s.heap.objs.size) := by
    have := Heap.get?_push_size (s.heap.push PySem.W.emptyDict) (o := PySem.W.instObj C s.heap.objs.size) rfl
    rwa [Heap.size_push] at this
  have e3 : (s.heap.push PySem.W.emptyDict).Ns s.heap.objs.size (fun _ => none) := ⟨PySem.W.emptyDict, #[], _, e1, rfl, (fun e he => absurd he (by simp)), fun _ => rfl⟩
  have I1 := I.laid (a := s.heap.objs.size) (o := .own (s.heap.objs.size + 1)) (h' := s.heap.push PySem.W.emptyDict) (t' := s.toks) (fun b u q => Heap.get?_push_of_some _ q) (Nat.le_refl _) ⟨_, e1⟩
  refine I1.laid (a := s.heap.objs.size + 1) (o := .ins C s.heap.objs.size []) (t' := s.toks) (fun b u q => Heap.get?_push_of_some _ q) (Nat.le_of_eq (Heap.size_push _ _)) ?_
  have ne : s.heap.objs.size ≠ s.heap.objs.size + 1 := Nat.ne_of_lt (Nat.lt_succ_self _)
  refine ⟨by rw [upd_ne ne, upd_same], Nat.zero_le _, ne, e2, fun _ => none, (Heap.Ns1.of_empty e3).at fun o q => Heap.get?_push_of_some _ q, fun _ => True.intro, fun y hy => absurd rfl hy⟩

/-- e.f where nothing but the object is asked: through attributeBase (super) and the last hold -/
theorem attr_of {prog : Program} {w : World} {env : Env} {e : Expr} {f : Str} {pos : Pos} {s : Shared} {Q : Value → Shared → Prop} (hb : attributeBase e f env (eval e env) = eval e env)
    (h : wpAny (model prog w) A (eval e env) (fun o s₁ => wpAny (model prog w) A (getAttr o f true) Q E s₁) E s) : wpAny (model prog w) A (eval (.Attribute e f pos) env) Q E s :=
  Attribute_any_ h (by rw [arm_eval_Attribute, hb])
end

/-! ### readings and rules -/
/-- e.f, an attribute of the instance -/
def tFld (K : PySem.W.Frag) (ta : TE) (f : Str) : TE := fun σ H Q => ta σ H fun x H1 => ∃ a C dx fs v, x = .ref a ∧ H1 a = some (.ins C dx fs) ∧ Cls K C ∧ NoAttr K C f ∧ fs.lookup f = some v ∧ Q v H1
/-- e.f, a constant of the class -/
def tCon (K : PySem.W.Frag) (ta : TE) (f : Str) : TE := fun σ H Q => ta σ H fun x H1 => ∃ a C dx fs v u, x = .ref a ∧ H1 a = some (.ins C dx fs) ∧ Cls K C ∧ Con K C f v u ∧ fs.lookup f = none ∧ Q v H1
/-- e.f = value -/
def sFld (K : PySem.W.Frag) (ta tv : TE) (f : Str) : TS := fun D σ H => tv σ H fun y H1 => ta σ H1 fun x H2 => ∃ a C dx fs, x = .ref a ∧ H2 a = some (.ins C dx fs) ∧ Cls K C ∧ NoAttr K C f ∧ fs.length < 1000 ∧
  D.nx σ (upd H2 a (.ins C dx (putF f y fs)))
/-- an augmented operator on two values -/
def InOp (X : Cx) (op : Operator) (rd : V → V → Hp → VK → Prop) : Prop :=
  ∀ (pins : List (Addr × Obj)) (s : Shared) (σ : St) (H : Hp) (x y : V) (u v : Value) (Q : VK), Inv X pins σ H s → RelV x u → RelV y v → rd x y H Q → wpAny (model X.prog X.w) X.A (inplaceOp op u v) (EP X pins σ Q) X.xe s
/-- e.f op= value -/
def sFldAug (K : PySem.W.Frag) (ta tv : TE) (rd : V → V → Hp → VK → Prop) (f : Str) : TS := fun D σ H => ta σ H fun x H1 => ∃ a C dx fs v, x = .ref a ∧ H1 a = some (.ins C dx fs) ∧ Cls K C ∧ NoAttr K C f ∧ fs.lookup f = some v ∧
  tv σ H1 fun y H2 => rd v y H2 fun z H3 => ∃ dx' fs', H3 a = some (.ins C dx' fs') ∧ fs'.length < 1000 ∧ D.nx σ (upd H3 a (.ins C dx' (putF f z fs')))

section
variable {X : Cx} {o e value : Expr} {f : Str} {pos pos' tpos : Pos} {ta tv : TE}
theorem pe_fld (he : PE X e ta) (hb : attributeBase e f X.env (eval e X.env) = eval e X.env) : PE X (.Attribute e f pos) (tFld X.K ta f) := by
  intro pins s σ H Q I h
  refine attr_of hb (thn (he pins s σ H _ I h) fun u s1 ⟨x, H1, I1, rx, a, C, dx, fs, v, ex, ea, c, n, l, q⟩ => ?_)
  subst ex
  obtain rfl : u = Value.ref a := rx
  exact getattr_ok I1 ea c n l fun u' s2 I2 ru => ⟨v, H1, I2, ru, q⟩
theorem ps_fld (ha : PE X o ta) (hv : PE X value tv) (hs : swapsWith value (some (.Attribute o f pos')) pos.line X.env = pure false) : PS X (.Assign [.Attribute o f pos'] value pos) (sFld X.K ta tv f) := by
  intro pins s σ H D I h
  refine plainObj_wpAny_Assign_Attribute (thn (hv pins s σ H _ I h) fun u s1 ⟨y, H1, I1, ry, q⟩ => thn (ha pins s1 σ H1 _ I1 q) fun ov s2 ⟨x, H2, I2, rx, a, C, dx, fs, ex, ea, c, n, l, q2⟩ => ?_) hs
  subst ex
  obtain rfl : ov = Value.ref a := rx
  exact setattr_ok I2 ea c n l ry fun s3 I3 => ⟨σ, _, I3, q2⟩
def rAdd : V → V → Hp → VK → Prop := fun x y H Q => ∃ i j, x = .int i ∧ y = .int j ∧ Q (.int (i + j)) H
def rSub : V → V → Hp → VK → Prop := fun x y H Q => ∃ i j, x = .int i ∧ y = .int j ∧ Q (.int (i - j)) H
end

/-! ### isinstance -/
section
variable {X : Cx} {pins : List (Addr × Obj)} {σ : St} {H : Hp} {s : Shared} {A : Around} {E : Value → Shared → Prop} {Q : Value → Shared → Prop} {c : Value} {b : Bool}
/-- the type of a value, as the fragment's deciders take it; for an instance its class -/
inductive TyOf (K : PySem.W.Frag) (H : Hp) : V → Value → Prop where
  | non : TyOf K H .non (.type "NoneType")
  | bl (x : Bool) : TyOf K H (.bl x) (.type "bool")
  | int (i : Int) : TyOf K H (.int i) (.type "int")
  | str (x : Str) : TyOf K H (.str x) (.type "str")
  | flt (x : UInt64) : TyOf K H (.flt x) (.type "float")
  | lst {a : Addr} {xs : List V} (e : H a = some (.lst xs)) : TyOf K H (.ref a) (.type "list")
  | frz {a : Addr} {o : Obj} {xs : List V} (e : H a = some (.frz o (.lst xs))) : TyOf K H (.ref a) (.type "list")
  | tup {a : Addr} {xs : List V} (e : H a = some (.tup xs)) : TyOf K H (.ref a) (.type "tuple")
  | dK {a : Addr} {kvs : List (Key × V)} (e : H a = some (.dK kvs)) : TyOf K H (.ref a) (.type "dict")
  | dT {a : Addr} {kvs : List (List Key × V)} (e : H a = some (.dT kvs)) : TyOf K H (.ref a) (.type "dict")
  | ins {a C dx : Addr} {fs : List (Str × V)} (e : H a = some (.ins C dx fs)) (cl : Cls K C) (ha : PySem.W.findIn K (.ref C) "__class__" = some (some (.builtin "object.__class__")))
      (hn : PySem.W.specialIn K (.builtin "object.__class__") "__get__" = some (some (.builtin "getset_descriptor.__get__"))) (htk : PySem.W.takesIn K (.builtin "object.__class__") = some true)
      (hm : PySem.W.mroIn K C (.type "object") = some true) : TyOf K H (.ref a) (.ref C)
/-- isinstance(x, c) for one class c, a built-in or an own one: kitOne's answer -/
theorem isinst_ok {x : V} {u t : Value} (I : Inv X pins σ H s) (rx : RelV x u) (ty : TyOf X.K H x t) (e : PySem.W.kitOne X.K t c = some b) (h : ∀ tk, Q (.bool b) { s with toks := tk }) :
    wpAny (model X.prog X.w) A (call (.builtin "isinstance") [u, c]) Q E s := by
  cases ty with
  | non => cases (show u = Value.none from rx); exact PySem.W.kia_one PySem.W.kitx_none I.kIn True.intro e (fun z => nomatch z) h
  | bl y => cases (show u = Value.bool y from rx); exact PySem.W.kia_one PySem.W.kitx_bool I.kIn True.intro e (fun z => nomatch z) h
  | int i => obtain ⟨t, q⟩ := (show ∃ t, u = Value.int i t from rx); cases q; exact PySem.W.kia_one PySem.W.kitx_int I.kIn True.intro e (fun z => nomatch z) h
  | str y => obtain ⟨t, q⟩ := (show ∃ t, u = Value.str y t from rx); cases q; exact PySem.W.kia_one PySem.W.kitx_str I.kIn True.intro e (fun z => nomatch z) h
  | flt y => obtain ⟨t, q⟩ := (show ∃ t, u = Value.float y t from rx); cases q; exact PySem.W.kia_one PySem.W.kitx_float I.kIn True.intro e (fun z => nomatch z) h
  | @lst a xs ea =>
    cases (show u = Value.ref a from rx)
    obtain ⟨_, _, n, _, h1⟩ := (show ObjOk X.prog X.w H s.heap a (.lst xs) from I.hok a _ ea)
    exact PySem.W.kia_one PySem.W.kitx_list I.kIn ⟨_, h1, rfl⟩ e (fun z => nomatch z) h
  | @frz a ob xs ea =>
    cases (show u = Value.ref a from rx)
    obtain ⟨_, _, _, n, _, h1⟩ := (show ObjOk X.prog X.w H s.heap a (.frz ob (.lst xs)) from I.hok a _ ea)
    exact PySem.W.kia_one PySem.W.kitx_list I.kIn ⟨_, h1, rfl⟩ e (fun z => nomatch z) h
  | @tup a xs ea =>
    cases (show u = Value.ref a from rx)
    obtain ⟨_, _, _, p⟩ := (show ObjOk X.prog X.w H s.heap a (.tup xs) from I.hok a _ ea)
    obtain ⟨o, h1, h2, _⟩ := p
    exact PySem.W.kia_one PySem.W.kitx_tuple I.kIn ⟨o, h1, h2⟩ e (fun z => nomatch z) h
  | @dK a kvs ea =>
    cases (show u = Value.ref a from rx)
    obtain ⟨_, _, vs, _, p⟩ := (show ObjOk X.prog X.w H s.heap a (.dK kvs) from I.hok a _ ea)
    obtain ⟨o, es, ep, h1, h2, _⟩ := p
    exact PySem.W.kia_one PySem.W.kitx_dict I.kIn ⟨o, h1, h2.1⟩ e (fun z => nomatch z) h
  | @dT a kvs ea =>
    cases (show u = Value.ref a from rx)
    obtain ⟨_, _, xs, _, o, es, ep, h1, h2, _⟩ := (show ObjOk X.prog X.w H s.heap a (.dT kvs) from I.hok a _ ea)
    exact PySem.W.kia_one PySem.W.kitx_dict I.kIn ⟨o, h1, h2.1⟩ e (fun z => nomatch z) h
  | @ins a C dx fs ea cl ha hn htk hm =>
    cases (show u = Value.ref a from rx)
    obtain ⟨mA, O, _⟩ := ins_get I.hok ea
    obtain ⟨od, J, _⟩ := O.look
    exact PySem.W.kia_one (PySem.W.kitx_own (cl.get _) cl.hd ha hn htk hm) I.kIn J e (fun z => nomatch z) h
end
end L2

namespace L2
open PySem PySem.Spec PyProof.Rows

/-! ### room -/
structure Room (k : Nat) (A : Around) : Prop where
  hd : A.handled = none
  dp : A.depth + 3 * k + 5 < recursionLimit
  un : A.units + 16 * k + 200 < cLine
  gd : A.guards = some []
theorem Room.mono {j k : Nat} {A : Around} (r : Room k A) (h : j ≤ k) : Room j A := ⟨r.hd, by have := r.dp; omega, by have := r.un; omega, by first | exact r.gd | simpa [Around.under, Around.deeper, Code.guards, Code.isGuard, guardIds, pushGuards] using r.gd⟩
theorem Room.deeper {k : Nat} {A : Around} (r : Room (k + 1) A) (env : Env) : Room k (A.deeper env) :=
  ⟨r.hd, by have := r.dp; show A.depth + 1 + 3 * k + 5 < _; omega, by have := r.un; show A.units + 3 + 16 * k + 200 < _; omega, by first | exact r.gd | simpa [Around.under, Around.deeper, Code.guards, Code.isGuard, guardIds, pushGuards] using r.gd⟩
theorem make_depth {A : Around} {C : Addr} {us : List Value} {kw : List (Str × Value)} : (A.under (.builtin "type.__call__" ⟨.ref C :: us, kw⟩)).depth = A.depth + 1 := by
  first | rfl | simp [Around.under, Code.weight, Code.isCreation, Code.isGuard, Code.isCaller, Code.frames, Code.isFrame, guardIds]
theorem make_units {A : Around} {C : Addr} {us : List Value} {kw : List (Str × Value)} : (A.under (.builtin "type.__call__" ⟨.ref C :: us, kw⟩)).units = A.units + 1 := by
  first | rfl | simp [Around.under, Code.cUnits, Code.frames, Code.isFrame]
theorem Room.make {k : Nat} {A : Around} (r : Room (k + 1) A) (C : Addr) (us : List Value) (kw : List (Str × Value)) : Room k (A.under (.builtin "type.__call__" ⟨.ref C :: us, kw⟩)) :=
  ⟨r.hd, by have := r.dp; rw [make_depth]; omega, by have := r.un; rw [make_units]; omega, by first | exact r.gd | simpa [Around.under, Around.deeper, Code.guards, Code.isGuard, guardIds, pushGuards] using r.gd⟩
theorem Room.depth {k : Nat} {A : Around} (r : Room k A) : A.depth < recursionLimit := by have := r.dp; omega
theorem Room.units {k : Nat} {A : Around} (r : Room k A) : A.units + 64 < cLine := by have := r.un; omega
theorem Room.units0 {k : Nat} {A : Around} (r : Room k A) : A.units < cLine := by have := r.un; omega

/-! ### argument lists and displays -/
def tNil : TA := fun _ H Q => Q [] H
def tCons (ta : TE) (tr : TA) : TA := fun σ H Q => ta σ H fun x H1 => tr σ H1 fun xs H2 => Q (x :: xs) H2
section
variable {X : Cx} {e : Expr} {es : List Expr} {te : TE} {t : TA} {pos : Pos}
theorem pa_nil : PA X [] tNil := fun _ _ _ _ H Q I h => Calls.spliced_nil ⟨[], H, I, .nil, h⟩
theorem pa_cons (ha : PE X e te) (hr : PA X es t) (hs : starEach (e :: es) X.env = (false, eval e X.env) :: starEach es X.env := by rfl) : PA X (e :: es) (tCons te t) := by
  intro pos pins s σ H Q I h
  rw [hs]
  show wpAny _ _ (spliced ((false, eval e X.env) :: backTo pos (starEach es X.env))) _ _ s
  refine Calls.spliced_cons (thn (ha pins s σ H _ I h) fun u s1 ⟨x, H1, I1, r1, q1⟩ => ?_)
  exact thn (hr pos pins s1 σ H1 _ I1 q1) fun us s2 ⟨xs, H2, I2, r2, q2⟩ => ⟨x :: xs, H2, I2, .cons r1 r2, q2⟩

/-- a tuple, a list of written items -/
def tTup (t : TA) : TE := fun σ H Q => t σ H fun xs H1 => xs.length ≤ sizeLine ∧ ∀ p, H1 p = none → Q (.ref p) (upd H1 p (.tup xs))
def tLst (t : TA) : TE := fun σ H Q => t σ H fun xs H1 => xs.length ≤ sizeLine ∧ ∀ p, H1 p = none → Q (.ref p) (upd H1 p (.lst xs))
theorem pe_tup {x1} (h : PA X es t) : PE X (.Tuple es x1 pos) (tTup t) := by
  intro pins s σ H Q I hq
  refine wpAny_Tuple_spliced (thn (h pos pins s σ H _ I hq) fun us s1 ⟨xs, H1, I1, r, z, q⟩ => ⟨by rw [← r.length]; exact z, ?_⟩)
  have hf : H1 s1.heap.objs.size = none := I1.hok.fresh (Nat.le_refl _)
  refine ⟨.ref s1.heap.objs.size, upd H1 s1.heap.objs.size (.tup xs), I1.laid (t' := s1.toks) (fun b u e => Heap.get?_push_of_some _ e) (Nat.le_refl _) ?_, rfl, q _ hf⟩
  exact ⟨z, us, r, ⟨_, Heap.get?_push_size _ rfl, rfl, _, rfl⟩⟩
theorem pe_lst (h : PA X es t) : PE X (.List es pos) (tLst t) := by
  intro pins s σ H Q I hq
  refine wpAny_List_spliced (thn (h pos pins s σ H _ I hq) fun us s1 ⟨xs, H1, I1, r, z, q⟩ => ⟨by rw [← r.length]; exact z, ?_⟩)
  have hf : H1 s1.heap.objs.size = none := I1.hok.fresh (Nat.le_refl _)
  refine ⟨.ref s1.heap.objs.size, upd H1 s1.heap.objs.size (.lst xs), I1.laid (t' := s1.toks) (fun b u e => Heap.get?_push_of_some _ e) (Nat.le_refl _) ?_, rfl, q _ hf⟩
  exact ⟨z, us, 0, r, Heap.get?_push_size _ rfl⟩
end

/-! ### what a def promises -/
/-- a def's promise: the bound arguments in the parameters' order, the heap, the wanted end, the wanted exception -/
abbrev Sp := List V → Hp → VK → XK → Prop
/-- how an exception lies behind a call (file 08 gives it): the callers' frames, abstract heap and state ahead of the call, the wish, the exception, the state -/
abbrev CXT := List Env → Hp → Shared → XK → Value → Shared → Prop

/-- the state at a call -/
structure Env0 (P : Program) (w : World) (K : PySem.W.Frag) (mg : Str → Option Value) (base : Heap) (A : Around) (outer : List Env) (s : Shared) (H : Hp) : Prop where
  frames : A.frames = some outer
  mod : Mod K mg base
  bs : ∀ b o, base.get? b = some o → s.heap.get? b = some o ∧ H b = none
  bsz : base.objs.size ≤ s.heap.objs.size
  funs : s.heap.FunFrames base outer
  frf : ∀ b ∈ frs outer, H b = none
  hok : HOk P w H s.heap
  bare : AllBare s.gens
/-- a call's end -/
def CE (outer : List Env) (P : Program) (w : World) (H : Hp) (s : Shared) (Q : VK) (u : Value) (s' : Shared) : Prop :=
  ∃ v H', s'.os = s.os ∧ AllBare s'.gens ∧ Un (frs outer) [] H H' s.heap s'.heap ∧ HOk P w H' s'.heap ∧ RelV v u ∧ Q v H'
def CR (CX : CXT) (outer : List Env) (P : Program) (w : World) (H : Hp) (s : Shared) (Q : VK) (E : XK) (r : Result) (s' : Shared) : Prop :=
  match r with
  | .ok (.ret u) => CE outer P w H s Q u s'
  | .ok _ => False
  | .error e => CX outer H s E e s'
structure FnOk (P : Program) (w : World) (K : PySem.W.Frag) (mg : Str → Option Value) (base : Heap) (CX : CXT) (k : Nat) (f : Addr) (fd : FuncData) (ps : List Str) (sp : Sp) : Prop where
  len : ∀ vs H Q E, sp vs H Q E → vs.length = ps.length
  run : ∀ (A : Around) (outer : List Env) (s : Shared) (H : Hp) (args : Args) (us : List Value) (vs : List V) (Q : VK) (E : XK), Room k A → Env0 P w K mg base A outer s H → BindsTo s fd args (ps.zip us) → Vals vs us → sp vs H Q E →
    codeAny (model P w) A (.call (.ref f) args) (CR CX outer P w H s Q E) s
/-- a weaker promise -/
theorem FnOk.imp {P : Program} {w : World} {K : PySem.W.Frag} {mg : Str → Option Value} {base : Heap} {CX : CXT} {k : Nat} {f : Addr} {fd : FuncData} {ps : List Str} {sp sp' : Sp} (F : FnOk P w K mg base CX k f fd ps sp)
    (h : ∀ vs H Q E, sp' vs H Q E → sp vs H Q E) : FnOk P w K mg base CX k f fd ps sp' :=
  ⟨fun vs H Q E q => F.len vs H Q E (h _ _ _ _ q), fun A outer s H args us vs Q E hr he hb hv hs => F.run A outer s H args us vs Q E hr he hb hv (h _ _ _ _ hs)⟩

theorem Env0.make {P : Program} {w : World} {K : PySem.W.Frag} {mg : Str → Option Value} {base : Heap} {A : Around} {outer : List Env} {s : Shared} {H : Hp} (e : Env0 P w K mg base A outer s H) (C : Addr) (us : List Value) (kw : List (Str × Value)) :
    Env0 P w K mg base (A.under (.builtin "type.__call__" ⟨.ref C :: us, kw⟩)) outer s H := ⟨by first | exact e.frames | (simpa [Around.under, Code.envs, Code.isFrame, pushEnvs] using e.frames), e.mod, e.bs, e.bsz, e.funs, e.frf, e.hok, e.bare⟩
section
variable {X : Cx} {pins : List (Addr × Obj)} {σ : St} {H : Hp} {s s' : Shared}
/-- from a body: what a callee wants -/
theorem Inv.env0 (I : Inv X pins σ H s) : Env0 X.prog X.w X.K X.mg X.base X.A X.stack s H :=
  ⟨I.ok.frames, I.ok.mod, I.bs, Nat.le_trans I.ok.bsz I.sz, I.stack, I.stkFree, I.hok, I.bare⟩
/-- behind a call -/
theorem Inv.after {Q : VK} {u : Value} (I : Inv X pins σ H s) (h : CE X.stack X.prog X.w H s Q u s') : EP X pins σ Q u s' := by
  obtain ⟨v, H', os, bare, un, hok, r, q⟩ := h
  obtain ⟨hh, g, d, t, os'⟩ := s'
  obtain rfl : os' = s.os := os
  exact ⟨v, H', I.call (h' := hh) (g' := g) (d' := d) (t' := t) (ch := []) un hok bare (fun b z => absurd z (by simp)), r, q⟩
end

/-! ### calls -/
/-- f(..): the written arguments, then the defaults dvs; E: what is wanted of an exception -/
def tCall (sp : Sp) (dvs : List V) (E : XK) (t : TA) : TE := fun σ H Q => t σ H fun vs H1 => sp (vs ++ dvs) H1 Q E
/-- o.m(..) of an instance of the class at C -/
def tMeth (C : Addr) (m : Str) (sp : Sp) (dvs : List V) (E : XK) (ta : TE) (t : TA) : TE := fun σ H Q => ta σ H fun x H1 => ∃ a dx fs, x = .ref a ∧ H1 a = some (.ins C dx fs) ∧ fs.lookup m = none ∧
  t σ H1 fun vs H2 => sp (x :: (vs ++ dvs)) H2 Q E
/-- C(..): a new instance and its dict, then __init__ -/
def tMake (C : Addr) (sp : Sp) (dvs : List V) (E : XK) (t : TA) : TE := fun σ H Q => t σ H fun vs H1 => ∀ x dx, H1 x = none → H1 dx = none → dx ≠ x →
  sp (.ref x :: (vs ++ dvs)) (upd (upd H1 dx (.own x)) x (.ins C dx [])) (fun v H2 => v = .non ∧ Q (.ref x) H2) E

/-- how the parameters are bound: us the positional arguments, kw the keywords' values by name, ds the defaults that fill up -/
def Binds (K : PySem.W.Frag) (fd : FuncData) (ps : List Str) (ds : List Value) : Prop :=
  ∀ (s : Shared) (us : List Value), K.In s.heap → (us ++ ds).length = ps.length → BindsTo s fd ⟨us, []⟩ (ps.zip (us ++ ds))
/-- every parameter is given -/
theorem Binds.all {K : PySem.W.Frag} {fd : FuncData} {ps : List Str} (h : ∀ us : List Value, us.length = ps.length → bindArgs fd ⟨us, []⟩ = pure (ps.zip us)) : Binds K fd ps [] := fun s us _ hl => by
  rw [List.append_nil] at hl ⊢
  exact .of_eq (h us hl)

/-- an exception of a callee reaches what this body wants of exceptions -/
def Passes (CX : CXT) (X : Cx) (E : XK) : Prop := ∀ (pins : List (Addr × Obj)) (σ : St) (H : Hp) (s : Shared) (e : Value) (s' : Shared), Inv X pins σ H s → CX X.stack H s E e s' → X.xe e s'

section
variable {X : Cx} {CX : CXT} {k : Nat} {f C : Addr} {fd : FuncData} {ps : List Str} {sp : Sp} {dvs : List V} {ds : List Value} {E : XK} {x m : Str} {p pos apos : Pos} {e o : Expr} {es : List Expr} {ta : TE} {t : TA}

/-- the callee runs -/
theorem run_fn {pins : List (Addr × Obj)} {σ : St} {H : Hp} {s : Shared} {Q : VK} {us : List Value} {vs : List V} (F : FnOk X.prog X.w X.K X.mg X.base CX k f fd ps sp) (hr : Room k X.A) (hb : Binds X.K fd ps ds) (hd : Vals dvs ds) (hx : Passes CX X E)
    (I : Inv X pins σ H s) (r : Vals vs us) (h : sp (vs ++ dvs) H Q E) : wpAny (model X.prog X.w) X.A (call (.ref f) us) (EP X pins σ Q) X.xe s := by
  have r2 : Vals (vs ++ dvs) (us ++ ds) := r.append hd
  have hl : (us ++ ds).length = ps.length := by rw [← r2.length]; exact F.len _ _ _ _ h
  refine wpAny_call (codeAny_mono (F.run X.A X.stack s H ⟨us, []⟩ (us ++ ds) (vs ++ dvs) Q E hr I.env0 (hb s us I.kIn hl) r2 h) fun r s' hq => ?_)
  cases r with
  | error e => exact hx pins σ H s e s' I hq
  | ok fl =>
    cases fl with
    | ret u => exact I.after hq
    | next => exact False.elim hq
    | brk => exact False.elim hq
    | cont => exact False.elim hq

theorem pe_call (F : FnOk X.prog X.w X.K X.mg X.base CX k f fd ps sp) (hr : Room k X.A) (hg : Gl X x) (hm : X.mg x = some (.ref f)) (hk : PySem.W.keepIn X.K (.ref f) = true) (hb : Binds X.K fd ps ds) (hd : Vals dvs ds) (hx : Passes CX X E)
    (ha : PA X (e :: es) t) (hdb : (x == ("__debug__" : Str)) = false := by decide) (he : starEach (e :: es) X.env = (false, eval e X.env) :: starEach es X.env := by rfl) (hpl : (backTo pos (starEach es X.env)).any (·.1) = false := by rfl) :
    PE X (.Call (.Name x p) (e :: es) [] pos) (tCall sp dvs E t) := by
  intro pins s σ H Q I h
  refine wpAny_Call_Name_kw (ld_glob I hg hm ?_ hdb)
  refine PySem.W.callWith_K (h₀ := X.base) I.ok.mod.kin hk (thn (ha pos pins s σ H _ I h) fun us s1 ⟨vs, H1, I1, r, q⟩ => ⟨I1.kIn, ?_⟩) he hpl
  exact run_fn F hr hb hd hx I1 r q
/-- o.m(e, ..) -/
theorem pe_meth {pl : Sem Bool} (he : PE X o ta) (c : Cls X.K C) (hm : Meth X.K C m f) (F : FnOk X.prog X.w X.K X.mg X.base CX k f fd ps sp) (hr : Room k X.A) (hb : Binds X.K fd ps ds) (hd : Vals dvs ds) (hx : Passes CX X E) (ha : PA X (e :: es) t)
    (hst : starEach (e :: es) X.env = (false, eval e X.env) :: starEach es X.env := by rfl) (hpl : (backTo pos (starEach es X.env)).any (·.1) = false := by rfl)
    (ht : eval (.Call (.Attribute o m apos) (e :: es) [] pos) X.env = (do
      let ov ← eval o X.env
      standAt apos.atName
      let (f, first) ← holding [ov] (getMethod ov m pl)
      callWith pos f first (backTo pos (starEach (e :: es) X.env)) (backToKw pos (keywordEach [] X.env))) := by rfl) :
    PE X (.Call (.Attribute o m apos) (e :: es) [] pos) (tMeth C m sp dvs E ta t) := by
  intro pins s σ H Q I h
  refine PySem.W.methodCall_KW (pl := pl) (thn (he pins s σ H _ I h) fun u s1 ⟨x, H1, I1, rx, a, dx, fs, ex, ea, l, q⟩ => ?_) ht
  subst ex
  obtain rfl : u = Value.ref a := rx
  refine getmeth_ok I1 ea c hm l ?_
  refine PySem.W.callWith_K (first := [.ref a]) (h₀ := X.base) I.ok.mod.kin hm.kp (thn (ha pos pins s1 σ H1 _ I1 q) fun us s2 ⟨vs, H2, I2, r, q2⟩ => ⟨I2.kIn, ?_⟩) hst hpl
  exact run_fn (us := .ref a :: us) (vs := .ref a :: vs) F hr hb hd hx I2 (.cons rfl r) q2
/-- what a class must have to be made -/
structure Mk (K : PySem.W.Frag) (C f : Addr) : Prop where
  makes : PySem.W.makesIn K C = true
  init : PySem.W.findIn K (.ref C) "__init__" = some (some (.ref f))
  fn : PySem.W.isFn K (.ref f) = true
  kp : PySem.W.keepIn K (.ref C) = true

theorem run_make {pins : List (Addr × Obj)} {σ : St} {H : Hp} {s : Shared} {Q : VK} {us : List Value} {vs : List V} (M : Mk X.K C f) (F : FnOk X.prog X.w X.K X.mg X.base CX k f fd ps sp) (hr : Room (k + 1) X.A) (hb : Binds X.K fd ps ds) (hd : Vals dvs ds)
    (hx : Passes CX X E) (I : Inv X pins σ H s) (r : Vals vs us)
    (h : ∀ x dx, H x = none → H dx = none → dx ≠ x → sp (.ref x :: (vs ++ dvs)) (upd (upd H dx (.own x)) x (.ins C dx [])) (fun v H2 => v = .non ∧ Q (.ref x) H2) E) :
    wpAny (model X.prog X.w) X.A (call (.ref C) us) (EP X pins σ Q) X.xe s := by
  have hq := h (s.heap.objs.size + 1) s.heap.objs.size (I.hok.fresh (Nat.le_succ _)) (I.hok.fresh (Nat.le_refl _)) (Nat.ne_of_lt (Nat.lt_succ_self _))
  have I2 := Inv.made (C := C) I
  have r2 : Vals (V.ref (s.heap.objs.size + 1) :: (vs ++ dvs)) (Value.ref (s.heap.objs.size + 1) :: (us ++ ds)) := .cons rfl (r.append hd)
  have hl : (Value.ref (s.heap.objs.size + 1) :: us ++ ds).length = ps.length := by
    have e := r2.length
    rw [F.len _ _ _ _ hq] at e
    exact e.symm
  refine wpAny_call (make_map (f := f) I.kIn M.makes M.init (beq_iff_eq.mp M.fn) (codeAny_mono (F.run _ X.stack _ _ ⟨Value.ref (s.heap.objs.size + 1) :: us, []⟩ (Value.ref (s.heap.objs.size + 1) :: (us ++ ds)) _ _ E (hr.make C us [])
    (I2.env0.make C us []) (hb _ (Value.ref (s.heap.objs.size + 1) :: us) I2.kIn hl) r2 hq) fun r s' hq' => ?_))
  cases r with
  | error e => exact hx pins σ _ _ e s' I2 hq'
  | ok fl =>
    cases fl with
    | ret u =>
      obtain ⟨v, H', I3, rv, ev, q3⟩ := I2.after hq'
      subst ev
      exact ⟨rv, ⟨V.ref (s.heap.objs.size + 1), H', I3, rfl, q3⟩⟩
    | next => exact False.elim hq'
    | brk => exact False.elim hq'
    | cont => exact False.elim hq'
theorem pe_make (M : Mk X.K C f) (F : FnOk X.prog X.w X.K X.mg X.base CX k f fd ps sp) (hr : Room (k + 1) X.A) (hg : Gl X x) (hm : X.mg x = some (.ref C)) (hb : Binds X.K fd ps ds) (hd : Vals dvs ds) (hx : Passes CX X E)
    (ha : PA X (e :: es) t) (hdb : (x == ("__debug__" : Str)) = false := by decide) (he : starEach (e :: es) X.env = (false, eval e X.env) :: starEach es X.env := by rfl) (hpl : (backTo pos (starEach es X.env)).any (·.1) = false := by rfl) :
    PE X (.Call (.Name x p) (e :: es) [] pos) (tMake C sp dvs E t) := by
  intro pins s σ H Q I h
  refine wpAny_Call_Name_kw (ld_glob I hg hm ?_ hdb)
  refine PySem.W.callWith_K (h₀ := X.base) I.ok.mod.kin M.kp (thn (ha pos pins s σ H _ I h) fun us s1 ⟨vs, H1, I1, r, q⟩ => ⟨I1.kIn, ?_⟩) he hpl
  exact run_make M F hr hb hd hx I1 r q
theorem pe_make0 (M : Mk X.K C f) (F : FnOk X.prog X.w X.K X.mg X.base CX k f fd ps sp) (hr : Room (k + 1) X.A) (hg : Gl X x) (hm : X.mg x = some (.ref C)) (hb : Binds X.K fd ps ds) (hd : Vals dvs ds) (hx : Passes CX X E)
    (hdb : (x == ("__debug__" : Str)) = false := by decide) : PE X (.Call (.Name x p) [] [] pos) (tMake C sp dvs E tNil) := by
  intro pins s σ H Q I h
  refine wpAny_Call_Name_kw (ld_glob I hg hm ?_ hdb)
  exact PySem.W.callWith_K0 I.kIn M.kp (run_make (us := []) M F hr hb hd hx I .nil h)
end

/-! ### keywords -/
/-- the values of the keywords, from the left -/
def PK (X : Cx) (kws : List Keyword) (t : TA) : Prop :=
  ∀ (pos : Pos) (pins : List (Addr × Obj)) (s : Shared) (σ : St) (H : Hp) (Q : List V → Hp → Prop), Inv X pins σ H s → t σ H Q → wpAny (model X.prog X.w) X.A (evalAll ((backToKw pos (keywordEach kws X.env)).map (·.2))) (AP X pins σ Q) X.xe s
section
variable {X : Cx} {CX : CXT} {k : Nat} {f C : Addr} {fd : FuncData} {ps ks : List Str} {sp : Sp} {E : XK} {x m : Str} {p pos apos kpos : Pos} {e o : Expr} {es : List Expr} {kws : List Keyword} {te ta : TE} {t tk : TA} {nm : Option Str}
/-- how a call with keywords binds: g puts the positional values us and the keywords' values ws (names ks) in the parameters' order, defaults among them -/
structure KBinds (K : PySem.W.Frag) (fd : FuncData) (ps ks : List Str) (g : List Value → List Value → List Value) (gV : List V → List V → List V) : Prop where
  to : ∀ (s : Shared) (us ws : List Value), K.In s.heap → (g us ws).length = ps.length → BindsTo s fd ⟨us, ks.zip ws⟩ (ps.zip (g us ws))
  rel : ∀ {vs : List V} {us : List Value} {zs : List V} {ws : List Value}, Vals vs us → Vals zs ws → Vals (gV vs zs) (g us ws)
def tCallK (sp : Sp) (gV : List V → List V → List V) (E : XK) (t tk : TA) : TE := fun σ H Q => t σ H fun vs H1 => tk σ H1 fun zs H2 => sp (gV vs zs) H2 Q E
variable {g : List Value → List Value → List Value} {gV : List V → List V → List V}
end

/-! ### a def's body keeps its promise -/
/-- names: the parameters first -/
structure FnScope (N P : List Str) (sc : Scope) : Prop where
  kind : sc.kind = .function
  co : sc.isCoroutine = false
  gen : sc.isGenerator = false
  nd : N.Nodup
  pre : N.take P.length = P
  par : ∀ x ∈ P, sc.names.lookup x = some .local ∨ sc.names.lookup x = some .cell
  nofree : ∀ y ∈ sc.names, y.2 ≠ .free

theorem bindL_out {kindOf : Str → Option NameKind} {x : Str} : ∀ {binds : List (Str × Value)} {m : Str → Option Value}, (∀ v, (x, v) ∉ binds) → bindL kindOf binds m x = m x
  | [], _, _ => rfl
  | (n, v) :: r, m, h => by
    unfold bindL
    rw [bindL_out fun w hw => h w (List.mem_cons_of_mem _ hw)]
    split
    · have : x ≠ n := by rintro rfl; exact h v List.mem_cons_self
      simp [this]
    · rfl
theorem bindC_out {kindOf : Str → Option NameKind} {x : Str} : ∀ {binds : List (Str × Value)} {m : Str → Option Value}, (∀ v, (x, v) ∉ binds) → bindC kindOf binds m x = m x
  | [], _, _ => rfl
  | (n, v) :: r, m, h => by
    unfold bindC
    rw [bindC_out fun w hw => h w (List.mem_cons_of_mem _ hw)]
    split
    · rfl
    · have : x ≠ n := by rintro rfl; exact h v List.mem_cons_self
      simp [this]
theorem bindL_get {kindOf : Str → Option NameKind} {x : Str} {v : Value} : ∀ {P : List Str} {vs : List Value} {i : Nat} {m : Str → Option Value}, P.Nodup → P[i]? = some x → vs[i]? = some v → kindOf x = some .local →
    bindL kindOf (P.zip vs) m x = some v
  | [], _, _, _, _, h, _, _ => by simp at h
  | _ :: _, [], _, _, _, _, h, _ => by simp at h
  | p :: P, w :: vs, 0, m, nd, h1, h2, hk => by
    simp at h1 h2; subst h1; subst h2
    show bindL kindOf ((p, w) :: P.zip vs) m p = _
    unfold bindL
    rw [bindL_out fun v hv => (List.nodup_cons.mp nd).1 (List.of_mem_zip hv).1, if_pos hk]
    simp
  | p :: P, w :: vs, i + 1, m, nd, h1, h2, hk => by
    show bindL kindOf ((p, w) :: P.zip vs) m x = _
    unfold bindL
    exact bindL_get (i := i) (List.nodup_cons.mp nd).2 (by simpa using h1) (by simpa using h2) hk
theorem bindC_get {kindOf : Str → Option NameKind} {x : Str} {v : Value} : ∀ {P : List Str} {vs : List Value} {i : Nat} {m : Str → Option Value}, P.Nodup → P[i]? = some x → vs[i]? = some v → kindOf x ≠ some .local →
    bindC kindOf (P.zip vs) m x = some v
  | [], _, _, _, _, h, _, _ => by simp at h
  | _ :: _, [], _, _, _, _, h, _ => by simp at h
  | p :: P, w :: vs, 0, m, nd, h1, h2, hk => by
    simp at h1 h2; subst h1; subst h2
    show bindC kindOf ((p, w) :: P.zip vs) m p = _
    unfold bindC
    rw [bindC_out fun v hv => (List.nodup_cons.mp nd).1 (List.of_mem_zip hv).1, if_neg hk]
    simp
  | p :: P, w :: vs, i + 1, m, nd, h1, h2, hk => by
    show bindC kindOf ((p, w) :: P.zip vs) m x = _
    unfold bindC
    exact bindC_get (i := i) (List.nodup_cons.mp nd).2 (by simpa using h1) (by simpa using h2) hk

/-- the names' values at the entry -/
def start (N : List Str) (vs : List V) : St := vs.map some ++ List.replicate (N.length - vs.length) none

/-- the context of a def's body, at its entry; an exception leaves the frame, then lies as CX says -/
def cxOf (CX : CXT) (P : Program) (w : World) (K : PySem.W.Frag) (mg : Str → Option Value) (base : Heap) (N : List Str) (qual : Str) (scope : Scope) (f : Addr) (cd : Value) (A : Around) (outer : List Env) (s : Shared) (H : Hp) (E : XK) : Cx where
  prog := P
  w := w
  K := K
  mg := mg
  base := base
  A := A.deeper (envOfC qual scope s.heap.objs.size f cd)
  N := N
  s₀ := s
  H₀ := H
  env := envOfC qual scope s.heap.objs.size f cd
  outer := outer
  stack := envOfC qual scope s.heap.objs.size f cd :: outer
  ex := []
  calm := true
  fn := fun _ => true
  pn := []
  xe := fun e s' => wpAny (model P w) (A.deeper (envOfC qual scope s.heap.objs.size f cd)) (leaving (envOfC qual scope s.heap.objs.size f cd) e) (fun _ s'' => CX outer H s E e s'') (fun e' s'' => CX outer H s E e' s'') s'

theorem cell_has {sc : Scope} {n : Nat} {x : Str} (h : sc.names.lookup x = some .cell) : ∃ c, (cellsFrom n sc.names []).lookup x = some c := by
  have q := PySem.W.cellsFrom_some sc.names n [] (.inl h)
  exact Option.isSome_iff_exists.mp q

theorem inv_start {CX : CXT} {P : Program} {w : World} {K : PySem.W.Frag} {mg : Str → Option Value} {base : Heap} {N ps : List Str} {qual : Str} {scope : Scope} {f : Addr} {cd : Value} {A : Around} {outer : List Env} {s s1 : Shared} {H : Hp} {E : XK} {us : List Value} {vs : List V}
    (S : FnScope N ps scope) (hd : A.handled = none) (e0 : Env0 P w K mg base A outer s H) (hl : vs.length = ps.length) (r : Vals vs us)
    (x : InCallC s s.heap.objs.size (bindL (envOfC qual scope s.heap.objs.size f cd).kindOf (ps.zip us) fun _ => none) (cellsFrom (s.heap.objs.size + 1) scope.names []) (bindC (envOfC qual scope s.heap.objs.size f cd).kindOf (ps.zip us) fun _ => none) s1) :
    Inv (cxOf CX P w K mg base N qual scope f cd A outer s H E) [] (start N vs) H s1 := by
  have hpl : ps.length ≤ N.length := by have := congrArg List.length S.pre; rw [List.length_take] at this; omega
  obtain ⟨h1, tk, rfl, hk⟩ := x.done
  have noA : ∀ b : Addr, b ∉ (cxOf CX P w K mg base N qual scope f cd A outer s H E).ex := fun b z => absurd (show b ∈ ([] : List Addr) from z) (by simp)
  refine ⟨⟨e0.mod, S.kind, rfl, rfl, Nat.le_refl _, fun y z c h1 h2 => ?_, fun y hy => ?_, fun y c _ h => ?_, fun _ => hd, Around.frames_deeper e0.frames, .inr ⟨rfl, rfl⟩, fun b z => absurd z (noA b), e0.bs, e0.bsz, fun b _ _ => noA b, fun b z => absurd z (noA b), e0.funs, e0.frf⟩,
    rfl, e0.bare, Un.kept hk, ⟨_, x.toInCall.ns, fun i y v h1 h2 h3 => ?_⟩, fun y c h => ⟨_, x.cell y c h⟩, e0.hok.fresh (Nat.le_refl _), fun y c h => ?_, fun p hp => absurd (show p ∈ ([] : List (Addr × Obj)) from hp) (by simp), e0.hok.kept hk, ?_⟩
  · exact name_of_addr x.apart (PySem.mem_of_lookup h1) (PySem.mem_of_lookup h2)
  · have hy : scope.names.lookup y = some .cell ∨ scope.names.lookup y = some .free := hy
    rcases hy with hy | hy
    · exact cell_has hy
    · exact absurd rfl (S.nofree _ (PySem.mem_of_lookup hy))
  · exact Nat.le_of_lt (x.above y c (PySem.mem_of_lookup h))
  · have hi : i < vs.length := by
      unfold start at h2
      by_cases hi : i < vs.length
      · exact hi
      · rw [List.getElem?_append_right (by simpa using hi)] at h2
        rw [List.getElem?_replicate] at h2
        split at h2 <;> cases h2
    have ha : vs[i]? = some v := by
      unfold start at h2
      rw [List.getElem?_append_left (by simpa using hi), List.getElem?_map] at h2
      cases e : vs[i]? with
      | none => rw [e] at h2; cases h2
      | some a => rw [e] at h2; cases h2; rfl
    obtain ⟨u, hu, rv⟩ := r.get ha
    have hp : ps[i]? = some y := by
      rw [← S.pre, List.getElem?_take_of_lt (by omega)]; exact h1
    have ndP : ps.Nodup := by rw [← S.pre]; exact S.nd.sublist (List.take_sublist _ _)
    refine ⟨u, rv, ?_⟩
    rcases S.par y (List.mem_of_getElem? hp) with k | k
    · exact .inl ⟨k, bindL_get ndP hp hu k⟩
    · obtain ⟨c, e⟩ := cell_has (n := s.heap.objs.size + 1) k
      refine .inr ⟨.inl k, c, e, ?_⟩
      have q := x.cell y c e
      rw [bindC_get ndP hp hu (by show scope.names.lookup y ≠ _; rw [k]; decide)] at q
      exact q
  · exact e0.hok.fresh (Nat.le_of_lt (x.above y c (PySem.mem_of_lookup h)))
  · unfold start
    show _ = N.length
    rw [List.length_append, List.length_map, List.length_replicate]
    omega

/-- THE RULE: a def (or a method) of the text, by its body. The body's reading t is chosen for each entry; it is run at the parameters' values -/
theorem fn_of {CX : CXT} {P : Program} {w : World} {K : PySem.W.Frag} {mg : Str → Option Value} {base : Heap} {k : Nat} {f : Addr} {name qual : Str} {params : Arguments} {body : List Stmt} {scope : Scope} {dV kV doc pm cdv ct oc : Value} {an od : Option Addr}
    {osl : Array (Option Value)} {N ps : List Str} {sp : Sp} (lk : K.lookup f = some ⟨oc, od, .func (PySem.W.fnOf name qual params body scope dV kV doc pm an cdv ct), osl⟩) (hcd : PySem.W.codeIn K cdv qual = true) (S : FnScope N ps scope)
    (len : ∀ vs H Q E, sp vs H Q E → vs.length = ps.length)
    (hbody : ∀ (A : Around) (outer : List Env) (s : Shared) (H : Hp) (vs : List V) (Q : VK) (E : XK), Room k (A.deeper (envOfC qual scope s.heap.objs.size f cdv)) → sp vs H Q E →
      ∃ t, PSs (cxOf CX P w K mg base N qual scope f cdv A outer s H E) body t ∧ t { nx := fun _ H' => Q .non H', rt := Q } (start N vs) H) :
    FnOk P w K mg base CX (k + 1) f (PySem.W.fnOf name qual params body scope dV kV doc pm an cdv ct) ps sp := by
  refine ⟨len, fun A outer s H args us vs Q E hr e0 hb r hsp => ?_⟩
  have hl := len _ _ _ _ hsp
  have KX : K.In s.heap := e0.mod.kin.keeps fun b o e => (e0.bs b o e).1
  have lim : s.heap.NoLimit := e0.mod.nolimit.keeps fun b o e => (e0.bs b o e).1
  have hkind : ∀ y ∈ ps.zip us, scope.names.lookup y.1 = some .local ∨ (scope.names.lookup y.1 = some .cell ∧ ((cellsFrom (s.heap.objs.size + 1) scope.names []).lookup y.1).isSome = true) := fun ⟨n, v⟩ hy => by
    rcases S.par n (List.of_mem_zip hy).1 with q | q
    · exact .inl q
    · exact .inr ⟨q, PySem.W.cellsFrom_some _ _ _ (.inl q)⟩
  refine codeAny_call_function hr.depth (KX _ _ lk) rfl S.co S.gen rfl (PySem.W.codeRec_of KX hcd) (hb _ _ _ _ ?_)
  refine wpAny_newFunctionEnv_cells S.kind hkind fun env he s1 x => ?_
  subst he
  refine ⟨lim.keeps x.toInCall.keep, codeAny_func ?_⟩
  obtain ⟨t, ht, hq⟩ := hbody A outer s H vs Q E (hr.deeper _) hsp
  have I : Inv (cxOf CX P w K mg base N qual scope f cdv A outer s H E) [] (start N vs) H s1 := inv_start S hr.hd e0 hl r x
  refine wpAny_mono (ht [] s1 (start N vs) H _ I hq) (fun fl s' hs => ?_) fun e s' hs => hs
  have fin : ∀ {σ' : St} {H' : Hp} {v : V} {u : Value}, Inv (cxOf CX P w K mg base N qual scope f cdv A outer s H E) [] σ' H' s' → RelV v u → Q v H' → CE outer P w H s Q u s' :=
    fun {σ' H' v u} J rv q => ⟨v, H', J.os, J.bare, J.base, J.hok, rv, q⟩
  cases fl with
  | ret u =>
    obtain ⟨v, σ', H', J, rv, q⟩ := hs
    exact fin J rv q
  | next =>
    obtain ⟨σ', H', J, q⟩ := hs
    exact fin (v := V.non) (u := Value.none) J rfl q
  | brk =>
    obtain ⟨_, _, _, q⟩ := hs
    exact False.elim q
  | cont =>
    obtain ⟨_, _, _, q⟩ := hs
    exact False.elim q
end L2

namespace L2
open PySem PySem.Spec PyProof.Rows
section
variable {X : Cx} {x : Str} {p pos : Pos} {e : Expr} {es : List Expr} {t : TA} {id T : String} {r : List V → Hp → VK → Prop}

def tCB (r : List V → Hp → VK → Prop) (t : TA) : TE := fun σ H Q => t σ H fun vs H1 => r vs H1 Q
/-- f(e, ..), f a built-in function -/
theorem pe_callB (hc : CallR X (.builtin id) r) (hg : Gl X x) (hm : X.mg x = none) (hv : bootBuiltins x = some (.builtin id)) (ha : PA X (e :: es) t) (hn : x ≠ "__name__" := by decide) (hdb : (x == ("__debug__" : Str)) = false := by decide)
    (he : starEach (e :: es) X.env = (false, eval e X.env) :: starEach es X.env := by rfl) (hpl : (backTo pos (starEach es X.env)).any (·.1) = false := by rfl) : PE X (.Call (.Name x p) (e :: es) [] pos) (tCB r t) := by
  intro pins s σ H Q I h
  refine wpAny_Call_Name_kw (ld_blt I hg hm hv ?_ hn hdb)
  exact PyProof.Rows.callWith_builtin1 (thn (ha pos pins s σ H _ I h) fun us s1 ⟨vs, H1, I1, r1, q1⟩ => hc pins s1 σ H1 vs us Q I1 r1 q1) he hpl
/-- T(e, ..), T a built-in type -/
theorem pe_callTy (hc : CallR X (.type T) r) (hg : Gl X x) (hm : X.mg x = none) (hv : bootBuiltins x = some (.type T)) (ha : PA X (e :: es) t) (hn : x ≠ "__name__" := by decide) (hdb : (x == ("__debug__" : Str)) = false := by decide)
    (he : starEach (e :: es) X.env = (false, eval e X.env) :: starEach es X.env := by rfl) (hpl : (backTo pos (starEach es X.env)).any (·.1) = false := by rfl) : PE X (.Call (.Name x p) (e :: es) [] pos) (tCB r t) := by
  intro pins s σ H Q I h
  refine wpAny_Call_Name_kw (ld_blt I hg hm hv ?_ hn hdb)
  exact PyProof.Rows.callWith_type1 (thn (ha pos pins s σ H _ I h) fun us s1 ⟨vs, H1, I1, r1, q1⟩ => hc pins s1 σ H1 vs us Q I1 r1 q1) he hpl
end
end L2

namespace HT
open PySem PyProof.Rows

/-- t < u of tuples of ints -/
def lexLt : List Int → List Int → Bool
  | [], [] => false
  | [], _ :: _ => true
  | _ :: _, [] => false
  | x :: xs, y :: ys => if x = y then lexLt xs ys else decide (x < y)
theorem lexLt_cons (x y : Int) (xs ys : List Int) : lexLt (x :: xs) (y :: ys) = if x = y then lexLt xs ys else decide (x < y) := rfl
theorem lexLt_nil_nil : lexLt [] [] = false := rfl
theorem lexLt_nil_cons (y : Int) (ys : List Int) : lexLt [] (y :: ys) = true := rfl
theorem lexLt_cons_nil (x : Int) (xs : List Int) : lexLt (x :: xs) [] = false := rfl

section
open PySem.SeqAt
open PySem.AutoSeq1 (wpAny_loadPart')
open PySem.MeetsSeq PySem.MeetsSeq2 PySem.MeetsSeq3

end

section
variable {prog : Program} {w : World} {A : Around} {E : Value → Shared → Prop} {s : Shared}

/-! ### t[a:b], not the whole -/
/-- a slice's bound as a place among n (d where it is left out) -/
def sIx (n d : Nat) : Option Int → Nat
  | none => d
  | some v => if v < 0 then (v + (n : Int)).toNat else min v.toNat n
theorem sIx_none (n d : Nat) : sIx n d none = d := rfl
theorem sIx_le (n d : Nat) (hd : d ≤ n) (o : Option Int) : sIx n d o ≤ n := by
  cases o with
  | none => exact hd
  | some v =>
    show (if v < 0 then (v + (n : Int)).toNat else min v.toNat n) ≤ n
    by_cases hv : v < 0
    · rw [if_pos hv]; omega
    · rw [if_neg hv]; exact Nat.min_le_right _ _
theorem clip_eq (v : Int) (n d : Nat) : (if v < 0 then max (v + (n : Int)) 0 else min v (n : Int)) = ((sIx n d (some v) : Nat) : Int) := by
  show (if v < 0 then max (v + (n : Int)) 0 else min v (n : Int)) = (((if v < 0 then (v + (n : Int)).toNat else min v.toNat n) : Nat) : Int)
  by_cases hv : v < 0
  · simp only [if_pos hv]; omega
  · simp only [if_neg hv]; omega
theorem adjust_gen (lo hi : Option Int) (n : Nat) : Builtin.Slice.sliceAdjust lo hi 1 (n : Int) = (((sIx n 0 lo : Nat) : Int), ((sIx n n hi : Nat) : Int)) := by
  have h1 : ¬ ((1 : Int) < 0) := by omega
  unfold Builtin.Slice.sliceAdjust
  simp only [h1, if_false]
  refine Prod.ext ?_ ?_
  · cases lo with
    | none => rfl
    | some v => exact clip_eq v n 0
  · cases hi with
    | none => rfl
    | some v => exact clip_eq v n n
theorem places_gen (i j : Nat) : Builtin.Slice.slicePlaces (i : Int) (j : Int) 1 = j - i := by
  unfold Builtin.Slice.slicePlaces
  have h1 : (1 : Int) > 0 := by omega
  simp only [h1, if_true, Int.ediv_one]
  split <;> omega
theorem slicePart_ {v : Value} {o : Option Int} {Q : Option Int → Shared → Prop} (p : IsPart v o) (h : Q o s) : wpAny (model prog w) A (Builtin.Slice.slicePartIndex v) Q E s := by
  cases p with
  | none => exact slicePart_none h
  | int i t => exact slicePart_int h
theorem sliceApplied_gen {sl : Addr} {vl vu : Value} {lo hi : Option Int} {n : Nat} {Q : Int × Int × Nat → Shared → Prop} (hs : s.heap.IsSliceOf sl vl vu .none) (pl : IsPart vl lo) (pu : IsPart vu hi)
    (h : Q (((sIx n 0 lo : Nat) : Int), 1, sIx n n hi - sIx n 0 lo) s) : wpAny (model prog w) A (Builtin.Slice.sliceApplied (.ref sl) (pure (n : Int))) Q E s := by
  obtain ⟨os, hos, hcs, hds⟩ := id hs
  unfold Builtin.Slice.sliceApplied Builtin.Slice.sliceFields
  refine wpAny_bind (wpAny_bind (wpAny_field hos hds (x := vl) rfl (wpAny_bind (wpAny_field hos hds (x := vu) rfl (wpAny_bind (wpAny_field hos hds (x := .none) rfl (wpAny_pure ?_)))))))
  refine wpAny_bind (slicePart_none ?_)
  show wpAny _ _ (if ((1 : Int) == 0) = true then _ else _) _ _ s
  rw [if_neg (by decide)]
  refine wpAny_bind (slicePart_ pl (wpAny_bind (slicePart_ pu (wpAny_bind (wpAny_pure ?_)))))
  show wpAny _ _ (match Builtin.Slice.sliceAdjust lo hi 1 (n : Int) with | (lo, hi) => pure (lo, (1 : Int), Builtin.Slice.slicePlaces lo hi 1)) _ _ s
  rw [adjust_gen lo hi n]
  show wpAny _ _ (pure (((sIx n 0 lo : Nat) : Int), (1 : Int), Builtin.Slice.slicePlaces ((sIx n 0 lo : Nat) : Int) ((sIx n n hi : Nat) : Int) 1)) _ _ s
  rw [places_gen]
  exact wpAny_pure h
theorem pick_gen (xs : Array Value) (i k : Nat) : ((List.range k).filterMap fun (m : Nat) => xs[((i : Int) + (m : Int) * 1).toNat]?).toArray = ((xs.toList.drop i).take k).toArray := by
  have e : (fun (m : Nat) => xs[((i : Int) + (m : Int) * 1).toNat]?) = fun m => xs[i + m]? := by
    funext m
    have : ((i : Int) + (m : Int) * 1).toNat = i + m := by omega
    rw [this]
  rw [e]
  have := pick_run xs i k
  rw [List.filterMap_map] at this
  have e2 : ((fun x => xs[x]?) ∘ fun x => i + x) = fun m => xs[i + m]? := rfl
  rw [e2] at this
  rw [this]

theorem getItem_tuple_cut {t sl : Addr} {items : Array Value} {vl vu : Value} {lo hi : Option Int} {Q : Value → Shared → Prop} (ht : IsTup s.heap t items) (hs : s.heap.IsSliceOf sl vl vu .none) (pl : IsPart vl lo) (pu : IsPart vu hi)
    (hw : ¬ (sIx items.size 0 lo = 0 ∧ sIx items.size items.size hi = items.size))
    (h : Q (.ref s.heap.objs.size) { s with heap := s.heap.push { cls := .type "tuple", data := .seq ((items.toList.drop (sIx items.size 0 lo)).take (sIx items.size items.size hi - sIx items.size 0 lo)).toArray } })
    (hsz : items.size ≤ sizeLine) : wpAny (model prog w) A (getItem (.ref t) (.ref sl)) Q E s := by
  have htake : sizeOk (.seq ((items.toList.drop (sIx items.size 0 lo)).take (sIx items.size items.size hi - sIx items.size 0 lo)).toArray) := by
    show ((items.toList.drop (sIx items.size 0 lo)).take (sIx items.size items.size hi - sIx items.size 0 lo)).toArray.size ≤ sizeLine
    rw [List.size_toArray, List.length_take, List.length_drop, Array.length_toList]
    omega
  have hj : sIx items.size items.size hi ≤ items.size := sIx_le _ _ (Nat.le_refl _) hi
  obtain ⟨os, hos, hcs, hds⟩ := id hs
  have hTs : s.TypeIs (.ref sl) "slice" := ⟨os, hos, hcs⟩
  unfold getItem
  try with_reducible refine wpAny_holding ?_
  first | refine wpAny_bind (wpAny_pure ?_) | skip
  refine wpAny_bind (wpAny_sequenceKey ht.typeIs (by decide) ?_)
  refine wpAny_bind (wpAny_callSpecial?_slot (name := Str.ofString "__getitem__") ht.typeIs PyProof.Rows.slot_tuple_getitem
    (wpAny_call_entry PyProof.Rows.slot_tuple_getitem ht.typeIs entry_tuple_getitem ?_ (args_tuple_getitem _ _)))
  show wpAny _ _ (Builtin.Tuple.tupleItemsOf (.ref t) >>= _) _ _ s
  refine wpAny_bind (tupleItemsOf_ ht ?_)
  refine wpAny_bind (wpAny_typeOf hTs ?_)
  rw [if_pos (by decide)]
  refine wpAny_bind (sliceApplied_gen hs pl pu ?_)
  have hno : ¬ ((((sIx items.size 0 lo : Nat) : Int) == 0 && (1 : Int) == 1 && (sIx items.size items.size hi - sIx items.size 0 lo) == items.size) = true) := by
    intro q
    rw [Bool.and_eq_true, Bool.and_eq_true] at q
    have q1 : ((sIx items.size 0 lo : Nat) : Int) = 0 := eq_of_beq q.1.1
    have q2 : sIx items.size items.size hi - sIx items.size 0 lo = items.size := eq_of_beq q.2
    exact hw ⟨by omega, by omega⟩
  show wpAny _ _ (if (((sIx items.size 0 lo : Nat) : Int) == 0 && (1 : Int) == 1 && (sIx items.size items.size hi - sIx items.size 0 lo) == items.size) = true then _ else _) _ _ s
  rw [if_neg hno, pick_gen]
  first
    | exact wpAny_bind (m := Builtin.Tuple.tupleExact _) (wpAny_newObj_type (wpAny_pure ⟨_, rfl, wpAny_pure h⟩) htake)
    | exact wpAny_bind (m := Builtin.Tuple.tupleExact _) (wpAny_newObj_type (wpAny_bind (wpAny_pure (wpAny_pure ⟨_, rfl, wpAny_pure h⟩))) htake)
    | exact wpAny_bind (wpAny_bind (m := Builtin.Tuple.tupleExact _) (wpAny_newObj_type (wpAny_pure (wpAny_pure ⟨_, rfl, wpAny_pure h⟩)) htake))
    | exact wpAny_bind (wpAny_bind (m := Builtin.Tuple.tupleExact _) (wpAny_newObj_type (wpAny_pure ⟨_, rfl, wpAny_pure h⟩) htake))
end
end HT

namespace L2
open PySem PySem.Spec PyProof.Rows

/-! ### the parts of a slice -/
abbrev TO := St → Hp → (Option Int → Hp → Prop) → Prop
/-- a slice's part (left out, or an int) -/
def PO (X : Cx) (e : Option Expr) (t : TO) : Prop :=
  ∀ (pins : List (Addr × Obj)) (s : Shared) (σ : St) (H : Hp) (Q : Option Int → Hp → Prop), Inv X pins σ H s → t σ H Q →
    wpAny (model X.prog X.w) X.A (evalPart e X.env) (fun u s' => ∃ o H', Inv X pins σ H' s' ∧ IsPart u o ∧ Q o H') X.xe s
def tNoPart : TO := fun _ H Q => Q none H
def tPart (t : TE) : TO := fun σ H Q => t σ H fun x H1 => ∃ i, x = .int i ∧ Q (some i) H1

theorem intsAre_of {ns : List Int} : ∀ {us : List Value}, Vals (ns.map V.int) us → IntsAre us ns := by
  induction ns with
  | nil => intro us r; rw [List.map_nil] at r; cases r; exact .nil
  | cons n ns ih =>
    intro us r
    rw [List.map_cons] at r
    cases r with
    | cons r1 r2 =>
      obtain ⟨t, e⟩ := r1
      subst e
      exact .cons n t (ih r2)

section
variable {X : Cx} {e : Expr} {te : TE} {lo hi : Option Expr} {tl th : TO} {pos p2 : Pos}

theorem po_none : PO X none tNoPart := by
  intro pins s σ H Q I h
  rw [evalPart_none]
  exact wpAny_pure ⟨none, H, I, .none, h⟩
theorem po_some (h : PE X e te) : PO X (some e) (tPart te) := by
  intro pins s σ H Q I hw
  rw [evalPart_some]
  refine thn (h pins s σ H _ I hw) fun u s1 ⟨x, H1, I1, r1, q1⟩ => ?_
  obtain ⟨i, rfl, q⟩ := q1
  obtain ⟨t, rfl⟩ := r1
  exact ⟨some i, H1, I1, .int i t, q⟩

/-- what a slice of a value is, by values: the slice object stands at sl -/
def SlR (X : Cx) (r : V → Option Int → Option Int → Hp → VK → Prop) : Prop :=
  ∀ (pins : List (Addr × Obj)) (s : Shared) (σ : St) (H : Hp) (x : V) (v vl vu : Value) (lo hi : Option Int) (sl : Addr) (Q : VK), Inv X pins σ H s → RelV x v → s.heap.IsSliceOf sl vl vu .none → IsPart vl lo → IsPart vu hi → r x lo hi H Q →
    ∃ T id, typeLookup (.type T) "__getitem__" = pure (some (.builtin id)) ∧ s.TypeIs v T ∧ wpAny (model X.prog X.w) X.A (getItem v (.ref sl)) (EP X pins σ Q) X.xe s
def tSl (r : V → Option Int → Option Int → Hp → VK → Prop) (te : TE) (tl th : TO) : TE := fun σ H Q => te σ H fun x H1 => tl σ H1 fun l H2 => th σ H2 fun u H3 => r x l u H3 Q
/-- a[lo:hi], any a -/
theorem pe_slice {r : V → Option Int → Option Int → Hp → VK → Prop} (hr : SlR X r) (he : PE X e te) (hl : PO X lo tl) (hu : PO X hi th) : PE X (.Subscript e (.Slice lo hi none p2) pos) (tSl r te tl th) := by
  intro pins s σ H Q I h
  refine Subscript_ (thn (he pins s σ H _ I h) fun v s1 ⟨x, H1, I1, r1, q1⟩ => ?_)
  refine wpAny_Slice (thn (hl pins s1 σ H1 _ I1 q1) fun vl s2 ⟨l, H2, I2, pl, q2⟩ => thn (hu pins s2 σ H2 _ I2 q2) fun vu s3 ⟨u, H3, I3, pu, q3⟩ => ?_)
  rw [evalPart_none]
  refine wpAny_pure ?_
  have I4 : Inv X pins σ H3 { s3 with heap := s3.heap.push { cls := .type "slice", data := .fields #[vl, vu, .none] } } := I3.kept (t' := s3.toks) fun b ob q => Heap.get?_push_of_some _ q
  obtain ⟨T, id, hT, ht, hg⟩ := hr pins { s3 with heap := s3.heap.push { cls := .type "slice", data := .fields #[vl, vu, .none] } } σ H3 x v vl vu l u s3.heap.objs.size Q I4 r1 (Heap.IsSliceOf.new ..) pl pu q3
  show wpAny (model X.prog X.w) X.A (subscriptTail e (.Slice lo hi none p2) v (.ref s3.heap.objs.size)) (EP X pins σ Q) X.xe { s3 with heap := s3.heap.push { cls := .type "slice", data := .fields #[vl, vu, .none] } }
  exact tail_any (ops := [.ref s3.heap.objs.size, v]) ht hT hg (by with_unfolding_all rfl)

/-- the items of xs[lo:hi] -/
def cutV (xs : List V) (lo hi : Option Int) : List V := (xs.drop (HT.sIx xs.length 0 lo)).take (HT.sIx xs.length xs.length hi - HT.sIx xs.length 0 lo)
theorem cutV_length (xs : List V) (lo hi : Option Int) : (cutV xs lo hi).length ≤ xs.length := by
  unfold cutV
  rw [List.length_take, List.length_drop]
  omega
/-- t[lo:hi], not the whole of it (the whole would be t itself) -/
def rSlT (K : PySem.W.Frag) : V → Option Int → Option Int → Hp → VK → Prop := fun x lo hi H Q => ∃ a xs, x = .ref a ∧ SqT K H a xs ∧
  ¬ (HT.sIx xs.length 0 lo = 0 ∧ HT.sIx xs.length xs.length hi = xs.length) ∧ ∀ p, H p = none → Q (.ref p) (upd H p (.tup (cutV xs lo hi)))
theorem sl_tup : SlR X (rSlT X.K) := by
  intro pins s σ H x v vl vu lo hi sl Q I rx hs pl pu h
  obtain ⟨a, xs, rfl, hx, hw, q⟩ := h
  cases rx
  obtain ⟨its, r, ht, hz⟩ := I.tuple hx
  have hlen : its.toArray.size = xs.length := by rw [List.size_toArray]; exact r.length.symm
  refine ⟨"tuple", _, PyProof.Rows.slot_tuple_getitem.lookup, ht.typeIs, ?_⟩
  refine HT.getItem_tuple_cut ht hs pl pu (by rw [hlen]; exact hw) ?_ (by rw [hlen]; exact hz)
  rw [hlen]
  refine ⟨.ref s.heap.objs.size, _, I.laid (t' := s.toks) (o := .tup (cutV xs lo hi)) (fun b ob q => Heap.get?_push_of_some _ q) (Nat.le_refl _) ?_, rfl, q _ (I.hok.fresh (Nat.le_refl _))⟩
  exact ⟨Nat.le_trans (cutV_length xs lo hi) hz, _, (r.drop (HT.sIx xs.length 0 lo)).take (HT.sIx xs.length xs.length hi - HT.sIx xs.length 0 lo), IsTup.new _ _⟩

/-! ### t < u, t + u -/
def rLtT (K : PySem.W.Frag) : R2 := fun x y H Q => ∃ a b ns ms, x = .ref a ∧ y = .ref b ∧ SqT K H a (ns.map V.int) ∧ SqT K H b (ms.map V.int) ∧ Q (.bl (HT.lexLt ns ms)) H
/-- t + u, t not empty: u empty gives t itself -/
def rCatT (K : PySem.W.Frag) : R2 := fun x y H Q => ∃ a b xs ys, x = .ref a ∧ y = .ref b ∧ SqT K H a xs ∧ SqT K H b ys ∧ xs ≠ [] ∧ xs.length + ys.length ≤ sizeLine ∧
  (ys = [] → Q (.ref a) H) ∧ (ys ≠ [] → ∀ p, H p = none → Q (.ref p) (upd H p (.tup (xs ++ ys))))
end
end L2

namespace L2
open PySem PySem.Spec PyProof.Rows

/-! ### places -/
/-- the place that an index of any sign means -/
def ixN (n : Nat) (i : Int) : Option Nat := if 0 ≤ i then (if i < n then some i.toNat else none) else if -(n : Int) ≤ i then some (i + n).toNat else none
def atI {α : Type} (xs : List α) (i : Int) : Option α := (ixN xs.length i).bind fun j => xs[j]?
theorem ixN_seq {n : Nat} {i : Int} {j : Nat} (h : ixN n i = some j) : seqIndex? i n = some j ∧ j < n ∧ -(n : Int) ≤ i ∧ i < n := by
  unfold ixN at h
  by_cases h0 : 0 ≤ i
  · rw [if_pos h0] at h
    by_cases h1 : i < n
    · rw [if_pos h1] at h
      have e : i.toNat = j := Option.some.inj h
      exact ⟨by rw [seqIndex_of h0 h1, e], by omega, by omega, h1⟩
    · rw [if_neg h1] at h; cases h
  · rw [if_neg h0] at h
    by_cases h1 : -(n : Int) ≤ i
    · rw [if_pos h1] at h
      have e : (i + n).toNat = j := Option.some.inj h
      exact ⟨by rw [seqIndex_neg (by omega) h1, e], by omega, h1, by omega⟩
    · rw [if_neg h1] at h; cases h
theorem atI_get {α : Type} {xs : List α} {i : Int} {v : α} (h : atI xs i = some v) : ∃ j, seqIndex? i xs.length = some j ∧ xs[j]? = some v ∧ j < xs.length ∧ -(xs.length : Int) ≤ i ∧ i < xs.length := by
  unfold atI at h
  cases e : ixN xs.length i with
  | none => rw [e] at h; cases h
  | some j =>
    rw [e] at h
    obtain ⟨h1, h2, h3, h4⟩ := ixN_seq e
    exact ⟨j, h1, h, h2, h3, h4⟩
theorem atI_nat {α : Type} {xs : List α} {j : Nat} {v : α} (h : xs[j]? = some v) : atI xs (j : Int) = some v := by
  have hj : j < xs.length := (List.getElem?_eq_some_iff.mp h).1
  have e : ixN xs.length (j : Int) = some j := by
    unfold ixN
    rw [if_pos (by omega), if_pos (by omega)]; simp
  unfold atI; rw [e]; exact h
/-! ### what may be subscripted -/
/-- what stands as an index of a plain subscript -/
def PlainIx (b : Expr) : Prop := ∀ o i, subscripted b false o i = operate [o, i] (getItem o i)
/-- a subscript by values -/
def IxR (X : Cx) (r : R2) : Prop :=
  ∀ (value slice : Expr) (pins : List (Addr × Obj)) (s : Shared) (σ : St) (H : Hp) (x y : V) (v u : Value) (Q : VK), Inv X pins σ H s → RelV x v → RelV y u → r x y H Q →
    subscripted slice false v u = operate [v, u] (getItem v u) → wpAny (model X.prog X.w) X.A (subscriptTail value slice v u) (EP X pins σ Q) X.xe s
/-- a call of a builtin's method by values: the receiver, the arguments -/
def MtR (X : Cx) (id : String) (r : V → List V → Hp → VK → Prop) : Prop :=
  ∀ (pins : List (Addr × Obj)) (s : Shared) (σ : St) (H : Hp) (x : V) (xs : List V) (v : Value) (us : List Value) (Q : VK), Inv X pins σ H s → RelV x v → Vals xs us → r x xs H Q →
    wpAny (model X.prog X.w) X.A (call (.builtin id) (v :: us)) (EP X pins σ Q) X.xe s
section
variable {X : Cx} {a b : Expr} {ta tb : TE} {pos : Pos}
/-- a[b] -/
theorem pe_ix {r : R2} (hr : IxR X r) (ha : PE X a ta) (hb : PE X b tb) (hs : PlainIx b) : PE X (.Subscript a b pos) (tOp r ta tb) := by
  intro pins s σ H Q I h
  exact Subscript_ (binT ha hb I h fun v u s2 x y H2 I2 rx ry q => hr a b pins s2 σ H2 x y v u Q I2 rx ry q (hs _ _))

def rIxL (K : PySem.W.Frag) : R2 := fun x y H Q => ∃ p xs i v, x = .ref p ∧ y = .int i ∧ SqL K H p xs ∧ atI xs i = some v ∧ Q v H
def rIxT (K : PySem.W.Frag) : R2 := fun x y H Q => ∃ p xs i v, x = .ref p ∧ y = .int i ∧ SqT K H p xs ∧ atI xs i = some v ∧ Q v H
def rIxS : R2 := fun x y H Q => ∃ z i c, x = .str z ∧ y = .int i ∧ z.length ≤ sizeLine ∧ atI z.cps.toList i = some c ∧ Q (.str ⟨#[c]⟩) H
theorem ix_list : IxR X (rIxL X.K) := by
  intro value slice pins s σ H x y v u Q I rx ry h hs
  obtain ⟨p, xs, i, z, rfl, rfl, hq, he, q⟩ := h
  cases rx
  obtain ⟨t, rfl⟩ := ry
  obtain ⟨its, r, pl, hz⟩ := I.list hq
  obtain ⟨j, h1, h2, h3, h4, h5⟩ := atI_get he
  obtain ⟨w, ew, rw'⟩ := r.get h2
  have hl := r.length
  have hn := line63
  have fin : EP X pins σ Q w s := ⟨z, H, I, rw', q⟩
  by_cases h0 : 0 ≤ i
  · have hj : i.toNat = j := by
      rw [seqIndex_of h0 h5] at h1
      exact Option.some.inj h1
    exact item_listR pl.isList h0 (by omega) (by rw [hj]; simpa using ew) fin hs
  · have hj : (i + (its.toArray.size : Int)).toNat = j := by
      rw [seqIndex_neg (by omega) h4] at h1
      rw [List.size_toArray, ← hl]
      exact Option.some.inj h1
    exact subscriptTail_builtinR (x := w) pl.isList.typeIs slot_list_getitem.lookup
      (wpAny_getItem_list_neg (Q := fun r s' => r = w ∧ EP X pins σ Q r s') pl.isList (by omega) (by rw [List.size_toArray] <;> omega) (by omega) (by rw [hj]; simpa using ew) ⟨rfl, fin⟩) hs
theorem ix_tup : IxR X (rIxT X.K) := by
  intro value slice pins s σ H x y v u Q I rx ry h hs
  obtain ⟨p, xs, i, z, rfl, rfl, hq, he, q⟩ := h
  cases rx
  obtain ⟨t, rfl⟩ := ry
  obtain ⟨its, r, pl, hz⟩ := I.tuple hq
  obtain ⟨j, h1, h2, h3, h4, h5⟩ := atI_get he
  obtain ⟨w, ew, rw'⟩ := r.get h2
  have hl := r.length
  have hn := line63
  have fin : EP X pins σ Q w s := ⟨z, H, I, rw', q⟩
  exact subscriptTail_builtinR (x := w) pl.typeIs slot_tuple_getitem.lookup
    (getItem_tuple (j := j) (Q := fun r s' => r = w ∧ EP X pins σ Q r s') pl (by omega) (by omega) (by rw [List.size_toArray, ← hl]; exact h1) (by simpa using ew) ⟨rfl, fin⟩) hs
/-- list, tuple or str -/
def rIx (K : PySem.W.Frag) : R2 := fun x y H Q => rIxL K x y H Q ∨ rIxT K x y H Q ∨ rIxS x y H Q
/-! ### xs[i] = v, any sign -/
/-- the list's object behind a store -/
theorem mapSeq_set (its : List Value) (n j : Nat) (u : Value) : Obj.mapSeq (·.setIfInBounds j u) { cls := .type "list", data := .seq its.toArray n } = { cls := .type "list", data := .seq (its.set j u).toArray n } := by
  simp [Obj.mapSeq]
theorem Inv.lst {pins : List (Addr × Obj)} {σ : St} {H : Hp} {s : Shared} {p : Addr} {xs : List V} (I : Inv X pins σ H s) (h : H p = some (.lst xs)) :
    ∃ (its : List Value) (n : Nat), Vals xs its ∧ s.heap.get? p = some { cls := .type "list", data := .seq its.toArray n } ∧ xs.length ≤ sizeLine := by
  obtain ⟨z, its, n, r, e⟩ := I.hok p _ h
  exact ⟨its, n, r, e, z⟩
/-- the list at p is written by an update of its object -/
theorem Inv.lstUpd {pins : List (Addr × Obj)} {σ : St} {H : Hp} {s : Shared} {p : Addr} {xs ys : List V} {its its' : List Value} {n n' : Nat} {f : Obj → Obj} (I : Inv X pins σ H s) (h : H p = some (.lst xs))
    (ho : s.heap.get? p = some { cls := .type "list", data := .seq its.toArray n }) (hf : f { cls := .type "list", data := .seq its.toArray n } = { cls := .type "list", data := .seq its'.toArray n' }) (r : Vals ys its') (hz : ys.length ≤ sizeLine) (t : Nat) :
    Inv X pins σ (upd H p (.lst ys)) { s with heap := s.heap.update p f, toks := t } := by
  have e : (s.heap.update p f).get? p = some { cls := .type "list", data := .seq its'.toArray n' } := by
    rw [Heap.get?_update_self f ho (by rw [hf] <;> rfl), hf]
  refine I.write (x := p) (e := p) (by rw [h]; trivial) (.inl rfl) (fun b u hb q => (Heap.get?_update_other _ _ (Ne.symm hb)).trans q) ⟨_, e⟩ ?_
  exact ⟨hz, its', n', r, e⟩
def rSetL : V → V → V → Hp → (Hp → Prop) → Prop := fun o i v H Q => ∃ p xs k j, o = .ref p ∧ i = .int k ∧ H p = some (.lst xs) ∧ ixN xs.length k = some j ∧ Q (upd H p (.lst (xs.set j v)))
theorem set_list : PSet X rSetL := by
  intro pins s σ H o i v ov iv u Q I ro ri rv h
  obtain ⟨p, xs, k, j, rfl, rfl, hp, hj, q⟩ := h
  cases ro
  obtain ⟨t, rfl⟩ := ri
  obtain ⟨its, n, r, ho, hz⟩ := I.lst hp
  obtain ⟨h1, h2, h3, h4⟩ := ixN_seq hj
  have hl := r.length
  have hn := line63
  have I' : Inv X pins σ (upd H p (.lst (xs.set j v))) { s with heap := s.heap.update p (Obj.mapSeq (·.setIfInBounds j u)) } :=
    I.lstUpd hp ho (mapSeq_set its n j u) (r.set rv j) (by rw [List.length_set]; exact hz) s.toks
  by_cases h0 : 0 ≤ k
  · have hk : k.toNat = j := by
      rw [seqIndex_of h0 h4] at h1
      exact Option.some.inj h1
    exact PySem.W.ki_setAt ho h0 (by omega) (by rw [List.size_toArray, ← hl]; exact h4) (by rw [hk]; exact ⟨_, I', q⟩)
  · have hk : (k + (its.toArray.size : Int)).toNat = j := by
      rw [seqIndex_neg (by omega) h3] at h1
      rw [List.size_toArray, ← hl]
      exact Option.some.inj h1
    exact PySem.W.ki_setBack ho (by omega) (by rw [List.size_toArray, ← hl]; exact h3) (by omega) (by rw [hk]; exact ⟨_, I', q⟩)

/-! ### slices -/
theorem slice_bounds (lo hi : Option Int) (n : Nat) : (sliceBounds lo hi none n).1 = ((HT.sIx n 0 lo : Nat) : Int) ∧ (sliceBounds lo hi none n).2.1 = ((HT.sIx n n hi : Nat) : Int) ∧ (sliceBounds lo hi none n).2.2 = 1 := by
  refine ⟨?_, ?_, rfl⟩
  · cases lo with
    | none => simp [sliceBounds, HT.sIx]
    | some i =>
      simp only [sliceBounds, HT.sIx, Option.getD_none, show (1 : Int) > 0 by decide, if_true]
      by_cases h : i < 0
      · simp only [h, if_true] <;> omega
      · simp only [h, if_false] <;> omega
  · cases hi with
    | none => simp [sliceBounds, HT.sIx]
    | some i =>
      simp only [sliceBounds, HT.sIx, Option.getD_none, show (1 : Int) > 0 by decide, if_true]
      by_cases h : i < 0
      · simp only [h, if_true] <;> omega
      · simp only [h, if_false] <;> omega
theorem slicePick_cut (its : List Value) (lo hi : Option Int) : slicePick its.toArray lo hi none = ((its.drop (HT.sIx its.length 0 lo)).take (HT.sIx its.length its.length hi - HT.sIx its.length 0 lo)).toArray := by
  obtain ⟨h1, h2, h3⟩ := slice_bounds lo hi its.toArray.size
  unfold slicePick
  rw [h1, h2, h3]
  simp only [sliceRange_one, pick_run, List.size_toArray] <;> rfl
/-- xs[lo:hi] of a list: a new list -/
def rSlL (K : PySem.W.Frag) : V → Option Int → Option Int → Hp → VK → Prop := fun x lo hi H Q => ∃ a xs, x = .ref a ∧ SqL K H a xs ∧ ∀ p, H p = none → Q (.ref p) (upd H p (.lst (cutV xs lo hi)))
theorem sl_list : SlR X (rSlL X.K) := by
  intro pins s σ H x v vl vu lo hi sl Q I rx hs pl pu h
  obtain ⟨a, xs, rfl, hx, q⟩ := h
  cases rx
  obtain ⟨its, r, ht, hz⟩ := I.list hx
  have hlen := r.length
  refine ⟨"list", _, slot_list_getitem.lookup, ht.isList.typeIs, ?_⟩
  refine wpAny_getItem_list_slice ht.isList hs pl pu .none (by simp) ?_ (by rw [List.size_toArray] <;> omega)
  rw [slicePick_cut, ← hlen]
  refine ⟨.ref s.heap.objs.size, _, I.laid (t' := s.toks) (o := .lst (cutV xs lo hi)) (fun b ob q => Heap.get?_push_of_some _ q) (Nat.le_refl _) ?_, rfl, q _ (I.hok.fresh (Nat.le_refl _))⟩
  exact ⟨Nat.le_trans (cutV_length xs lo hi) hz, _, 0, (r.drop (HT.sIx xs.length 0 lo)).take (HT.sIx xs.length xs.length hi - HT.sIx xs.length 0 lo), Heap.get?_push_size _ rfl⟩

/-! ### in, not in: flat items -/
def flatV : V → Bool
  | .non => true
  | .bl _ => true
  | .int _ => true
  | .str _ => true
  | _ => false
/-- == of flat values -/
def eqV : V → V → Bool
  | .non, .non => true
  | .bl a, .bl b => a == b
  | .bl a, .int b => (if a then 1 else 0) == b
  | .int a, .bl b => a == (if b then 1 else 0)
  | .int a, .int b => a == b
  | .str a, .str b => a == b
  | _, _ => false
theorem eqAt_V {A : Around} {s : Shared} {y x : V} {u v : Value} (ry : RelV y u) (rx : RelV x v) (fy : flatV y = true) (fx : flatV x = true) : SeqAt.EqAt A s u v (eqV y x) := by
  cases y with
  | non =>
    cases ry
    cases x with
    | non => cases rx; exact SeqAt.EqAt.same _
    | bl b => cases rx; exact SeqAt.EqAt.none_bool b
    | int b => obtain ⟨t, rfl⟩ := rx; exact SeqAt.EqAt.none_int b t
    | str b => obtain ⟨t, rfl⟩ := rx; exact SeqAt.EqAt.none_str b t
    | _ => exact absurd (show false = true from fx) Bool.false_ne_true
  | bl a =>
    cases ry
    cases x with
    | non => cases rx; exact SeqAt.EqAt.bool_none a
    | bl b => cases rx; exact SeqAt.EqAt.bool_bool a b
    | int b => obtain ⟨t, rfl⟩ := rx; exact SeqAt.EqAt.bool_int a b t
    | str b => obtain ⟨t, rfl⟩ := rx; exact SeqAt.EqAt.bool_str a b t
    | _ => exact absurd (show false = true from fx) Bool.false_ne_true
  | int a =>
    obtain ⟨t', rfl⟩ := ry
    cases x with
    | non => cases rx; exact SeqAt.EqAt.int_none a t'
    | bl b => cases rx; exact SeqAt.EqAt.int_bool a t' b
    | int b => obtain ⟨t, rfl⟩ := rx; exact SeqAt.EqAt.int_int a t' b t
    | str b => obtain ⟨t, rfl⟩ := rx; exact SeqAt.EqAt.int_str a t' b t
    | _ => exact absurd (show false = true from fx) Bool.false_ne_true
  | str a =>
    obtain ⟨t', rfl⟩ := ry
    cases x with
    | non => cases rx; exact SeqAt.EqAt.str_none a t'
    | bl b => cases rx; exact SeqAt.EqAt.str_bool a t' b
    | int b => obtain ⟨t, rfl⟩ := rx; exact SeqAt.EqAt.str_int a t' b t
    | str b => obtain ⟨t, rfl⟩ := rx; exact SeqAt.EqAt.str_str a t' b t
    | _ => exact absurd (show false = true from fx) Bool.false_ne_true
  | _ => exact absurd (show false = true from fy) Bool.false_ne_true
/-- the items' answers, read off the values (a value's own answer does not lean on its token) -/
def eqU (x : V) (u : Value) : Bool := match u with
  | .none => eqV .non x
  | .bool b => eqV (.bl b) x
  | .int i _ => eqV (.int i) x
  | .str z _ => eqV (.str z) x
  | _ => false
theorem eqU_of {x y : V} {u : Value} (r : RelV y u) (f : flatV y = true) : eqU x u = eqV y x := by
  cases y with
  | non => cases r; rfl
  | bl b => cases r; rfl
  | int i => obtain ⟨t, rfl⟩ := r; rfl
  | str z => obtain ⟨t, rfl⟩ := r; rfl
  | _ => exact absurd (show false = true from f) Bool.false_ne_true
theorem any_eqU {x : V} : ∀ {xs : List V} {us : List Value}, Vals xs us → xs.all flatV = true → us.any (eqU x) = xs.any fun y => eqV y x
  | _, _, .nil, _ => rfl
  | y :: xs, u :: us, .cons r t, f => by
    rw [List.all_cons, Bool.and_eq_true] at f
    rw [List.any_cons, List.any_cons, eqU_of r f.1, any_eqU t f.2]
theorem mem_eqAt {A : Around} {s : Shared} {x : V} {v : Value} (rx : RelV x v) (fx : flatV x = true) : ∀ {xs : List V} {us : List Value}, Vals xs us → xs.all flatV = true → ∀ u ∈ us, SeqAt.EqAt A s u v (eqU x u)
  | _, _, .nil, _ => fun u hu => by cases hu
  | y :: xs, u :: us, .cons r t, f => fun u' hu => by
    rw [List.all_cons, Bool.and_eq_true] at f
    rcases List.mem_cons.mp hu with rfl | hu
    · rw [eqU_of r f.1]; exact eqAt_V r rx f.1 fx
    · exact mem_eqAt rx fx t f.2 u' hu
def inV (x : V) (xs : List V) : Bool := xs.any fun y => eqV y x
/-- x in a list or tuple of flat items -/
def rIn (K : PySem.W.Frag) (neg : Bool) : R2 := fun x y H Q => ∃ p xs, y = .ref p ∧ (SqL K H p xs ∨ SqT K H p xs) ∧ flatV x = true ∧ xs.all flatV = true ∧ Q (.bl (if neg then !inV x xs else inV x xs)) H
theorem op_in_seq : OpR X (compareOp .In) (rIn X.K false) := by
  intro pins s σ H x y v u Q I rx ry h
  obtain ⟨p, xs, rfl, hq, fx, fs, q⟩ := h
  cases ry
  rcases hq with hq | hq
  · obtain ⟨its, r, pl, hz⟩ := I.list hq
    refine SeqAt.in_listAt (eqU x) pl.isList (fun w hw => mem_eqAt rx fx r fs w (by simpa using hw)) ⟨.bl _, H, I, rfl, ?_⟩
    rw [show its.toArray.any (eqU x) = its.any (eqU x) by simp, any_eqU r fs]
    exact q
  · obtain ⟨its, r, pl, hz⟩ := I.tuple hq
    refine SeqAt.in_tupleAt (eqU x) pl (fun w hw => mem_eqAt rx fx r fs w (by simpa using hw)) ⟨.bl _, H, I, rfl, ?_⟩
    rw [show its.toArray.any (eqU x) = its.any (eqU x) by simp, any_eqU r fs]
    exact q
theorem op_notIn_seq : OpR X (compareOp .NotIn) (rIn X.K true) := by
  intro pins s σ H x y v u Q I rx ry h
  obtain ⟨p, xs, rfl, hq, fx, fs, q⟩ := h
  cases ry
  rcases hq with hq | hq
  · obtain ⟨its, r, pl, hz⟩ := I.list hq
    refine SeqAt.notIn_listAt (eqU x) pl.isList (fun w hw => mem_eqAt rx fx r fs w (by simpa using hw)) ⟨.bl _, H, I, rfl, ?_⟩
    rw [show its.toArray.any (eqU x) = its.any (eqU x) by simp, any_eqU r fs]
    exact q
  · obtain ⟨its, r, pl, hz⟩ := I.tuple hq
    refine SeqAt.notIn_tupleAt (eqU x) pl (fun w hw => mem_eqAt rx fx r fs w (by simpa using hw)) ⟨.bl _, H, I, rfl, ?_⟩
    rw [show its.toArray.any (eqU x) = its.any (eqU x) by simp, any_eqU r fs]
    exact q
theorem op_notIn_str : OpR X (compareOp .NotIn) (fun x y H Q => ∃ i j, x = .str i ∧ y = .str j ∧ Q (.bl (!(!(Builtin.Str.occurrences j i 0 j.length 1).isEmpty))) H) := by
  intro pins s σ H x y v u Q I rx ry h
  obtain ⟨i, j, rfl, rfl, q⟩ := h
  obtain ⟨t, rfl⟩ := rx
  obtain ⟨t', rfl⟩ := ry
  exact notIn_str ⟨.bl _, H, I, rfl, q⟩

/-! ### len, list(x), tuple(x) of any list or tuple that is read -/
theorem call_len_seq : CallR X (.builtin "len") (fun xs H Q => ∃ p ys, xs = [.ref p] ∧ (SqL X.K H p ys ∨ SqT X.K H p ys) ∧ Q (.int ys.length) H) := by
  intro pins s σ H xs us Q I r h
  obtain ⟨p, ys, rfl, hq, q⟩ := h
  obtain ⟨u, rfl, rx⟩ := vals1 r
  cases rx
  have hn := line63
  rcases hq with hq | hq
  · obtain ⟨its, r', pl, hz⟩ := I.list hq
    have hlen := r'.length
    exact Calls.call_len_list pl.isList (by simp only [List.size_toArray] <;> omega) ⟨.int ys.length, H, I.tok _, ⟨s.toks + 1, by rw [List.size_toArray, hlen]⟩, q⟩
  · obtain ⟨its, r', pl, hz⟩ := I.tuple hq
    have hlen := r'.length
    exact len_tuple pl (by simp only [List.size_toArray] <;> omega) ⟨.int ys.length, H, I.tok _, ⟨s.toks + 1, by rw [List.size_toArray, hlen]⟩, q⟩
theorem call_len_str : CallR X (.builtin "len") (fun xs H Q => ∃ z, xs = [.str z] ∧ z.length ≤ sizeLine ∧ Q (.int z.length) H) := by
  intro pins s σ H xs us Q I r h
  obtain ⟨z, rfl, hz, q⟩ := h
  obtain ⟨u, rfl, t, rfl⟩ := vals1 r
  have hn := line63
  exact len_str (by omega) ⟨.int z.length, H, I.tok _, ⟨_, rfl⟩, q⟩
theorem call_list_of : CallR X (.type "list") (fun xs H Q => ∃ p ys, xs = [.ref p] ∧ (SqL X.K H p ys ∨ SqT X.K H p ys) ∧ ∀ l, H l = none → Q (.ref l) (upd H l (.lst ys))) := by
  intro pins s σ H xs us Q I r h
  obtain ⟨p, ys, rfl, hq, q⟩ := h
  obtain ⟨u, rfl, rx⟩ := vals1 r
  cases rx
  have fin : ∀ (its : List Value), Vals ys its → ys.length ≤ sizeLine → ∀ (h' : Heap) (c' : Nat), (∀ b o', s.heap.get? b = some o' → h'.get? b = some o') →
      h'.get? s.heap.objs.size = some { cls := .type "list", dict := none, data := .seq its.toArray c', slots := #[] } → EP X pins σ Q (.ref s.heap.objs.size) { s with heap := h' } := fun its r' hz h' c' kp e =>
    ⟨.ref s.heap.objs.size, _, I.laid (t' := s.toks) kp (Nat.le_refl _) (show ObjOk X.prog X.w _ h' _ (.lst ys) from ⟨hz, its, c', r', e⟩), rfl, q _ (I.hok.fresh (Nat.le_refl _))⟩
  rcases hq with hq | hq
  · obtain ⟨its, r', pl, hz⟩ := I.list hq
    have hlen := r'.length
    obtain ⟨o, ho, hc, n, hd⟩ := pl.isList
    exact call_list_seq p (.inl rfl) ho hc hd (fun h' c' kp e => fin its r' hz h' c' kp e) (by simp only [List.size_toArray] <;> omega)
  · obtain ⟨its, r', pl, hz⟩ := I.tuple hq
    have hlen := r'.length
    obtain ⟨o, ho, hc, n, hd⟩ := pl
    exact call_list_seq p (.inr rfl) ho hc hd (fun h' c' kp e => fin its r' hz h' c' kp e) (by simp only [List.size_toArray] <;> omega)
/-! ### the call of a builtin's method: o.m(..) -/
/-- the value is of that builtin type -/
def tyV (K : PySem.W.Frag) (T : String) (x : V) (H : Hp) : Prop := match x with
  | .str _ => T = "str"
  | .int _ => T = "int"
  | .ref p => (T = "list" ∧ ∃ xs, SqL K H p xs) ∨ (T = "tuple" ∧ ∃ o, K.lookup p = some o ∧ o.cls = .type "tuple" ∧ o.dict = none) ∨
      (T = "dict" ∧ ((∃ kvs, H p = some (.dK kvs)) ∨ ∃ kvs, H p = some (.dT kvs))) ∨ (T = "set" ∧ ∃ S n, H p = some (.set S n))
  | _ => False
theorem tyV_is {pins : List (Addr × Obj)} {σ : St} {H : Hp} {s : Shared} {T : String} {x : V} {v : Value} (I : Inv X pins σ H s) (r : RelV x v) (ty : tyV X.K T x H) :
    s.TypeIs v T ∧ ∀ a, v = .ref a → ∃ ob, s.heap.get? a = some ob ∧ ob.dict = none := by
  cases x with
  | str z =>
    obtain ⟨t, rfl⟩ := r
    cases (show T = "str" from ty)
    exact ⟨typeIs_str s z t, fun _ e => nomatch e⟩
  | int i =>
    obtain ⟨t, rfl⟩ := r
    cases (show T = "int" from ty)
    exact ⟨typeIs_int s i t, fun _ e => nomatch e⟩
  | ref p =>
    cases r
    rcases ty with ⟨rfl, xs, hq⟩ | ⟨rfl, o, hk, hc, hd⟩ | ⟨rfl, hk⟩ | ⟨rfl, S, n, hk⟩
    · obtain ⟨its, _, pl, _⟩ := I.list hq
      refine ⟨pl.isList.typeIs, fun a e => ?_⟩
      cases e
      obtain ⟨o, n, e, c, hd, _⟩ := pl
      exact ⟨o, e, hd⟩
    · refine ⟨⟨o, I.kIn p o hk, hc⟩, fun a e => ?_⟩
      cases e
      exact ⟨o, I.kIn _ o hk, hd⟩
    · have z : ∃ o, s.heap.get? p = some o ∧ o.ExactDict := by
        rcases hk with ⟨kvs, hk⟩ | ⟨kvs, hk⟩
        · obtain ⟨_, _, _, _, o, _, _, e, ex, _⟩ := I.hok p _ hk
          exact ⟨o, e, ex⟩
        · obtain ⟨_, _, _, _, o, _, _, e, ex, _⟩ := I.hok p _ hk
          exact ⟨o, e, ex⟩
      obtain ⟨o, e, ex⟩ := z
      refine ⟨⟨o, e, ex.1⟩, fun a e2 => ?_⟩
      cases e2
      exact ⟨o, e, ex.2.1⟩
    · obtain ⟨o, _, _, _, e, ex, _⟩ := I.hok p _ hk
      refine ⟨⟨o, e, ex.1⟩, fun a e2 => ?_⟩
      cases e2
      exact ⟨o, e, ex.2.1⟩
  | _ => exact False.elim ty
def tBM0 (K : PySem.W.Frag) (T : String) (r : V → List V → Hp → VK → Prop) (to : TE) : TE := fun σ H Q => to σ H fun x H1 => tyV K T x H1 ∧ r x [] H1 Q
def tBM (K : PySem.W.Frag) (T : String) (r : V → List V → Hp → VK → Prop) (to : TE) (t : TA) : TE := fun σ H Q => to σ H fun x H1 => tyV K T x H1 ∧ t σ H1 fun xs H2 => r x xs H2 Q
variable {o e : Expr} {es : List Expr} {to : TE} {t : TA} {name : Str} {apos cpos : Pos} {T id : String} {r : V → List V → Hp → VK → Prop}
theorem pe_bm0 (pa : PlainAttrs T) (slot : Slot T name id) (hty : typeOf (.builtin id) = pure (.type "method_descriptor")) (hm : MtR X id r) (ho : PE X o to)
    (hbase : attributeBase o name X.env (eval o X.env) = eval o X.env := by rfl) (hline : (apos.endLine == cpos.line) = true := by rfl) : PE X (.Call (.Attribute o name apos) [] [] cpos) (tBM0 X.K T r to) := by
  intro pins s σ H Q I h
  refine wpAny_Call_method0_late hbase hline (thn (ho pins s σ H _ I h) fun v s1 ⟨x, H1, I1, r1, ty, q1⟩ => ?_)
  obtain ⟨h1, h2⟩ := tyV_is I1 r1 ty
  exact ⟨T, id, pa, slot, hty, h1, h2, Calls.callWith_builtin rfl (PySem.evalArgs_none (hm pins s1 σ H1 x [] v [] Q I1 r1 .nil q1))⟩
theorem pe_bm (pa : PlainAttrs T) (slot : Slot T name id) (hty : typeOf (.builtin id) = pure (.type "method_descriptor")) (hm : MtR X id r) (ho : PE X o to) (ha : PA X (e :: es) t)
    (hbase : attributeBase o name X.env (eval o X.env) = eval o X.env := by rfl)
    (hfew : ((backTo cpos (starEach (e :: es) X.env)).all (fun x => !x.1) && (backToKw cpos (keywordEach [] X.env)).all (fun x => x.1.isSome)
      && decide ((e :: es).length + ([] : List Keyword).length + (if ([] : List Keyword).isEmpty then 0 else 1) < 30)) = true := by rfl)
    (hline : (apos.endLine == cpos.line) = true := by rfl) (hs : starEach (e :: es) X.env = (false, eval e X.env) :: starEach es X.env := by rfl) (hplain : (backTo cpos (starEach es X.env)).any (·.1) = false := by rfl) :
    PE X (.Call (.Attribute o name apos) (e :: es) [] cpos) (tBM X.K T r to t) := by
  intro pins s σ H Q I h
  refine wpAny_Call_method_late hbase hfew hline rfl (thn (ho pins s σ H _ I h) fun v s1 ⟨x, H1, I1, r1, ty, q1⟩ => ?_)
  obtain ⟨h1, h2⟩ := tyV_is I1 r1 ty
  refine ⟨T, id, pa, slot, hty, h1, h2, ?_⟩
  have hA := ha cpos pins s1 σ H1 _ I1 q1
  rw [hs] at hA ⊢
  refine Calls.callWith_builtin (by show (false || (backTo cpos (starEach es X.env)).any (·.1)) = false; rw [hplain] <;> rfl) (Calls.evalArgs_plain ?_)
  exact thn hA fun us s2 ⟨vs, H2, I2, r2, q2⟩ => hm pins s2 σ H2 x vs v us Q I2 r1 r2 q2
/- xs.append(e), list.index on a module's tuple .. are MtR facts of 06m -/
end
end L2

namespace L2
open PySem PySem.Spec PyProof.Rows

def MtM (X : Cx) (id : String) (r : V → List V → Hp → VK → Prop) : Prop :=
  ∀ (pins : List (Addr × Obj)) (s : Shared) (σ : St) (H : Hp) (x : V) (xs : List V) (v : Value) (us : List Value) (Q : VK), Inv X pins σ H s → RelV x v → Vals xs us → r x xs H Q →
    wpAny (model X.prog X.w) X.A (call (.builtin id) (v :: us)) (EP X pins σ Q) X.xe s

/-! ### lists of values -/
theorem Vals.one : ∀ {x : V} {us : List Value}, Vals [x] us → ∃ u, us = [u] ∧ RelV x u
  | _, _, .cons r .nil => ⟨_, rfl, r⟩
theorem Vals.zero : ∀ {us : List Value}, Vals [] us → us = []
  | _, .nil => rfl
theorem Vals.dropLast {xs : List V} {us : List Value} (h : Vals xs us) : Vals xs.dropLast us.dropLast := by
  induction h with
  | nil => exact .nil
  | cons r t ih =>
    cases t with
    | nil => exact .nil
    | cons q t' => exact .cons r ih
theorem Vals.eraseIdx : ∀ {xs : List V} {us : List Value} (i : Nat), Vals xs us → Vals (xs.eraseIdx i) (us.eraseIdx i)
  | _, _, _, .nil => .nil
  | _, _, 0, .cons _ t => t
  | _, _, i + 1, .cons r t => .cons r (Vals.eraseIdx i t)
theorem Vals.rep {xs : List V} {us : List Value} (h : Vals xs us) : ∀ k : Nat, Vals (List.replicate k xs).flatten (List.replicate k us).flatten
  | 0 => .nil
  | k + 1 => by
    rw [List.replicate_succ, List.replicate_succ, List.flatten_cons, List.flatten_cons]
    exact Vals.append h (Vals.rep h k)
theorem erase_last {α : Type} (l : List α) : l.eraseIdx (l.length - 1) = l.dropLast := by
  induction l with
  | nil => rfl
  | cons a r ih =>
    cases r with
    | nil => rfl
    | cons b r =>
      have e : (a :: b :: r).length - 1 = ((b :: r).length - 1) + 1 := by
        have h1 : (a :: b :: r).length = r.length + 2 := rfl
        have h2 : (b :: r).length = r.length + 1 := rfl
        omega
      rw [e, List.eraseIdx_cons_succ, ih]
      all_goals rfl
theorem len_erase {α : Type} : ∀ (l : List α) (i : Nat), (l.eraseIdx i).length ≤ l.length
  | [], _ => Nat.le_refl _
  | _ :: _, 0 => Nat.le_succ _
  | _ :: r, i + 1 => Nat.succ_le_succ (len_erase r i)
theorem foldl_rep (its : List Value) : ∀ (k : Nat) (acc : List Value),
    List.foldl (fun x1 x2 => x1 ++ x2) acc.toArray (List.replicate k its.toArray) = (acc ++ (List.replicate k its).flatten).toArray
  | 0, acc => by simp
  | k + 1, acc => by
    have e : acc.toArray ++ its.toArray = (acc ++ its).toArray := by simp
    have e2 : (acc ++ its) ++ (List.replicate k its).flatten = acc ++ (List.replicate (k + 1) its).flatten := by
      rw [List.replicate_succ, List.flatten_cons, List.append_assoc]
    rw [← e2, ← foldl_rep its k (acc ++ its), ← e, List.replicate_succ, List.foldl_cons]

section
variable {X : Cx} {pins : List (Addr × Obj)} {σ : St} {H : Hp} {s : Shared} {l b : Addr} {xs ys zs : List V}

/-! ### the two steps: a tracked list is rewritten, a new list is laid -/
theorem Inv.lset {its its' : List Value} {n : Nat} {f : Array Value → Array Value} {t' : Nat} (I : Inv X pins σ H s) (hH : H l = some (.lst xs))
    (e : s.heap.get? l = some { cls := .type "list", data := .seq its.toArray n }) (hf : f its.toArray = its'.toArray) (hv : Vals ys its') (hz : ys.length ≤ sizeLine) :
    Inv X pins σ (upd H l (.lst ys)) { s with heap := s.heap.update l (Obj.mapSeq f), toks := t' } := by
  have q := PySem.IsL.update e f
  rw [hf] at q
  refine I.write (x := l) (e := l) (by rw [hH]; exact trivial) (.inl rfl) (fun b' u hb hu => (Heap.get?_update_other s.heap (Obj.mapSeq f) (Ne.symm hb)).trans hu) ⟨_, q⟩ ?_
  exact ⟨hz, its', _, hv, q⟩
theorem Inv.lnew {its : List Value} {t' : Nat} (I : Inv X pins σ H s) (hv : Vals ys its) (hz : ys.length ≤ sizeLine) :
    Inv X pins σ (upd H s.heap.objs.size (.lst ys)) { s with heap := s.heap.push { cls := .type "list", data := .seq its.toArray }, toks := t' } :=
  I.laid (fun _ _ q => Heap.get?_push_of_some _ q) (Nat.le_refl _) ⟨hz, its, 0, hv, Heap.get?_push_size _ rfl⟩
theorem Inv.fresh (I : Inv X pins σ H s) : H s.heap.objs.size = none := I.hok.fresh (Nat.le_refl _)
theorem Inv.lstM (I : Inv X pins σ H s) (hH : H l = some (.lst xs)) : xs.length ≤ sizeLine ∧ ∃ (its : List Value) (n : Nat), Vals xs its ∧ xs.length = its.length ∧ s.heap.get? l = some { cls := .type "list", data := .seq its.toArray n } := by
  obtain ⟨z, its, n, r, e⟩ := I.hok l _ hH
  exact ⟨z, its, n, r, r.length, e⟩

theorem notLongL {n : Nat} (h : n ≤ sizeLine) : Builtin.List.listTooLong n = false := by
  unfold Builtin.List.listTooLong
  exact decide_eq_false (by omega)
end

section
variable {X : Cx}

/-! ### methods -/
def rAppend : V → List V → Hp → VK → Prop := fun x vs H Q => ∃ l xs y, x = .ref l ∧ vs = [y] ∧ H l = some (.lst xs) ∧ xs.length < sizeLine ∧ Q .non (upd H l (.lst (xs ++ [y])))
theorem mt_append : MtM X "list.append" rAppend := by
  intro pins s σ H x vs v us Q I rx rv h
  obtain ⟨l, xs, y, rfl, rfl, hH, hz, q⟩ := h
  cases rx
  obtain ⟨u, rfl, ru⟩ := rv.one
  obtain ⟨z, its, n, r, hl, e⟩ := I.lstM hH
  refine call_meets F.slot_list_append ⟨_, e, rfl⟩ F.entry_list_append (F.args_list_append_2 _ _) (PySem.list_append l its.toArray n u (by rw [List.size_toArray]; omega)) ⟨e, ?_⟩
  refine ⟨.non, _, I.lset (its' := its ++ [u]) hH e (by simp) (r.append (.cons ru .nil)) ?_, rfl, q⟩
  rw [List.length_append, List.length_singleton]
  omega

def rExtend : V → List V → Hp → VK → Prop := fun x vs H Q => ∃ l b xs zs, x = .ref l ∧ vs = [.ref b] ∧ H l = some (.lst xs) ∧ H b = some (.lst zs) ∧ xs.length + zs.length ≤ sizeLine ∧ Q .non (upd H l (.lst (xs ++ zs)))
theorem mt_extend : MtM X "list.extend" rExtend := by
  intro pins s σ H x vs v us Q I rx rv h
  obtain ⟨l, b, xs, zs, rfl, rfl, hH, hB, hz, q⟩ := h
  cases rx
  obtain ⟨u, rfl, ru⟩ := rv.one
  cases ru
  obtain ⟨z, its, n, r, hl, e⟩ := I.lstM hH
  obtain ⟨z2, its2, n2, r2, hl2, e2⟩ := I.lstM hB
  have hsz : its.toArray.size + its2.toArray.size ≤ sizeLine := by rw [List.size_toArray, List.size_toArray]; omega
  have hlong : ¬ (!its.toArray.isEmpty && Builtin.List.listTooLong (its.toArray.size + its2.toArray.size)) = true := by
    rw [notLongL hsz, Bool.and_false]
    exact Bool.false_ne_true
  refine call_meets F.slot_list_extend ⟨_, e, rfl⟩ F.entry_list_extend (F.args_list_extend_2 _ _)
    (AutoSeq1.list_extend_list_list_0 l its.toArray n b its2.toArray n2 hlong (by rw [List.size_toArray]; omega) (by omega)) ⟨e, e2, ?_⟩
  refine ⟨.non, _, I.lset (its' := its ++ its2) hH e (by simp) (r.append r2) ?_, rfl, q⟩
  rw [List.length_append]
  omega

def rPop : V → List V → Hp → VK → Prop := fun x vs H Q => ∃ l xs y, x = .ref l ∧ vs = [] ∧ H l = some (.lst xs) ∧ xs[xs.length - 1]? = some y ∧ Q y (upd H l (.lst xs.dropLast))
theorem mt_pop : MtM X "list.pop" rPop := by
  intro pins s σ H x vs v us Q I rx rv h
  obtain ⟨l, xs, y, rfl, rfl, hH, hy, q⟩ := h
  cases rx
  have hus := rv.zero
  subst hus
  obtain ⟨z, its, n, r, hl, e⟩ := I.lstM hH
  obtain ⟨u, hu, ru⟩ := r.get hy
  have hy' : its.toArray[its.toArray.size - 1]? = some u := by
    show its.toArray[its.length - 1]? = some u
    rw [← Array.getElem?_toList, ← hl]
    exact hu
  refine call_meets F.slot_list_pop ⟨_, e, rfl⟩ F.entry_list_pop (F.args_list_pop_1 _) (MeetsSeq.list_pop_last l its.toArray n u hy' (by rw [List.size_toArray]; omega)) ⟨e, ?_⟩
  refine ⟨y, _, I.lset (its' := its.dropLast) hH e ?_ r.dropLast ?_, ru, q⟩
  · show its.toArray.eraseIdxIfInBounds (its.toArray.size - 1) = its.dropLast.toArray
    rw [List.size_toArray, List.eraseIdxIfInBounds_toArray, erase_last]
  · rw [List.length_dropLast]
    omega

def rPopAt : V → List V → Hp → VK → Prop := fun x vs H Q => ∃ l xs i k y, x = .ref l ∧ vs = [.int i] ∧ H l = some (.lst xs) ∧ -(2 ^ 63) ≤ i ∧ i < 2 ^ 63 ∧ seqIndex? i xs.length = some k ∧ xs[k]? = some y ∧ Q y (upd H l (.lst (xs.eraseIdx k)))
theorem mt_popAt : MtM X "list.pop" rPopAt := by
  intro pins s σ H x vs v us Q I rx rv h
  obtain ⟨l, xs, i, k, y, rfl, rfl, hH, h1, h2, hk, hy, q⟩ := h
  cases rx
  obtain ⟨u, rfl, ru⟩ := rv.one
  obtain ⟨t, rfl⟩ := ru
  obtain ⟨z, its, n, r, hl, e⟩ := I.lstM hH
  obtain ⟨w, hw, rw'⟩ := r.get hy
  refine call_meets F.slot_list_pop ⟨_, e, rfl⟩ F.entry_list_pop (F.args_list_pop_2 _ _)
    (MeetsSeq.list_pop_at l its.toArray n i t k w (fitsIndex_both h1 h2) (by rw [List.size_toArray, ← hl]; exact hk) (by rw [← Array.getElem?_toList]; exact hw) (by rw [List.size_toArray]; omega)) ⟨e, ?_⟩
  refine ⟨y, _, I.lset (its' := its.eraseIdx k) hH e ?_ (r.eraseIdx k) ?_, rw', q⟩
  · show its.toArray.eraseIdxIfInBounds k = (its.eraseIdx k).toArray
    rw [List.eraseIdxIfInBounds_toArray]
  · have := len_erase xs k
    omega

def rReverse : V → List V → Hp → VK → Prop := fun x vs H Q => ∃ l xs, x = .ref l ∧ vs = [] ∧ H l = some (.lst xs) ∧ Q .non (upd H l (.lst xs.reverse))
def rClear : V → List V → Hp → VK → Prop := fun x vs H Q => ∃ l xs, x = .ref l ∧ vs = [] ∧ H l = some (.lst xs) ∧ Q .non (upd H l (.lst []))
/-! ### list + list, list += list, list * int -/
def rCat : R2 := fun x y H Q => ∃ l b xs zs, x = .ref l ∧ y = .ref b ∧ H l = some (.lst xs) ∧ H b = some (.lst zs) ∧ xs.length + zs.length ≤ sizeLine ∧ ∀ p, H p = none → Q (.ref p) (upd H p (.lst (xs ++ zs)))
theorem op_cat : OpR X (binaryOp .Add) rCat := by
  intro pins s σ H x y v u Q I rx ry h
  obtain ⟨l, b, xs, zs, rfl, rfl, hH, hB, hz, q⟩ := h
  cases rx
  cases ry
  obtain ⟨z, its, n, r, hl, e⟩ := I.lstM hH
  obtain ⟨z2, its2, n2, r2, hl2, e2⟩ := I.lstM hB
  refine PySem.P.add_list e e2 ?_ (by rw [List.size_toArray, List.size_toArray]; omega)
  have ea : its.toArray ++ its2.toArray = (its ++ its2).toArray := by simp
  rw [ea]
  exact ⟨.ref _, _, I.lnew (t' := s.toks) (r.append r2) (by rw [List.length_append]; omega), rfl, q _ I.fresh⟩
/-- a list times an int (a negative one is nothing) -/
def rRep : R2 := fun x y H Q => ∃ l k xs, x = .ref l ∧ y = .int k ∧ H l = some (.lst xs) ∧ -(2 ^ 63) ≤ k ∧ k < 2 ^ 63 ∧ xs.length * k.toNat ≤ sizeLine ∧
  ∀ p, H p = none → Q (.ref p) (upd H p (.lst (List.replicate k.toNat xs).flatten))
theorem len_rep {α : Type} (xs : List α) (k : Nat) : (List.replicate k xs).flatten.length = k * xs.length := by
  induction k with
  | zero => simp
  | succ k ih => rw [List.replicate_succ, List.flatten_cons, List.length_append, ih, Nat.succ_mul, Nat.add_comm]
theorem op_rep : OpR X (binaryOp .Mult) rRep := by
  intro pins s σ H x y v u Q I rx ry h
  obtain ⟨l, k, xs, rfl, rfl, hH, h1, h2, hz, q⟩ := h
  cases rx
  obtain ⟨t, rfl⟩ := ry
  obtain ⟨z, its, n, r, hl, e⟩ := I.lstM hH
  have hlen : its.toArray.size * k.toNat ≤ sizeLine := by rw [List.size_toArray, ← hl]; exact hz
  have hcap : ¬ its.toArray.size * k.toNat > (2 ^ 63 - 1) / 8 := by
    have : (sizeLine : Nat) ≤ (2 ^ 63 - 1) / 8 := by decide
    omega
  have hfit : ¬ (!Builtin.List.listFitsIndex k) = true := by
    rw [fitsIndex_both h1 h2]
    exact Bool.false_ne_true
  have hlong : ¬ Builtin.List.listTooLong (its.toArray.size * k.toNat) = true := by
    rw [notLongL hlen]
    exact Bool.false_ne_true
  have hnew : List.foldl (fun x1 x2 => x1 ++ x2) #[] (List.replicate (if its.toArray.isEmpty = true then 0 else k.toNat) its.toArray) = (List.replicate k.toNat its).flatten.toArray := by
    have f0 : ∀ m : Nat, List.foldl (fun x1 x2 => x1 ++ x2) #[] (List.replicate m its.toArray) = (List.replicate m its).flatten.toArray := fun m => by
      have := foldl_rep its m []
      rw [List.nil_append] at this
      exact this
    rw [f0]
    cases its with
    | nil => simp
    | cons a r' => rw [if_neg (by simp)]
  refine wpAny_binaryOp_repeat_ref (T := "list") (U := "int") (by decide) ⟨_, e, rfl⟩ (fun s' => typeIs_int s' k t) noFill_list_mul F.fills_int_mul F.slot_int_rmul repeat_list F.slot_int_index.lookup
    (call_meets F.slot_int_rmul (typeIs_int s k t) F.entry_int_rmul (F.args_int_rmul_2 _ _) (int___rmul___int_list k t l its.toArray n)
      ⟨e, rfl, ⟨_, e, rfl⟩, call_meets F.slot_list_mul ⟨_, e, rfl⟩ F.entry_list_mul (F.args_list_mul_2 _ _) (AutoListH.list___mul___list_int_3 l its.toArray n k t hfit hcap hlong) ⟨e, ?_⟩⟩)
  rw [hnew]
  exact ⟨.ref _, _, I.lnew (t' := s.toks) (r.rep k.toNat) (by rw [len_rep, Nat.mul_comm]; exact hz), rfl, q _ I.fresh⟩

/-! ### del xs[i] -/
end

/-! ### xs[a:b] = ys -/
section
variable {prog : Program} {w : World} {A : Around} {E : Value → Shared → Prop} {s : Shared}
end

section
variable {X : Cx}
end
end L2

namespace Att
open PySem PySem.W PySem.Calls PyProof.Rows

/-! ### the script -/
theorem ints_of_wellAll {P : Params} {h : Heap} : ∀ (ns : List Int) (vs : List Value), WellAll P h vs (ns.map WData.int) → IntsAre vs ns := by
  intro ns
  induction ns with
  | nil =>
    intro vs w
    rw [List.map_nil] at w
    cases w
    exact .nil
  | cons n ns ih =>
    intro vs w
    rw [List.map_cons] at w
    cases w with
    | cons a b =>
      cases a
      exact .cons _ _ (ih _ b)

theorem script_of {l : OpenLaw} {n : Nat} (hn : l.most = some n) {P : Params} {h : Heap} {args : List WData} {vals : List Value}
    (hpre : l.row.toRowW.claim.pre args = true) (hwl : WellAll P h vals args) :
    ∃ a vs ns, vals = [Value.ref a] ∧ args = [WData.list (ns.map WData.int)] ∧ h.get? a = some { cls := .type "list", data := .seq vs.toArray } ∧ IntsAre vs ns ∧ ns.length ≤ n := by
  have hsh : WShape.hasAll [] args [.list .int] = true := (pre_splitW hpre).1
  have hc : l.pre.holds [] { args := args } = true := (pre_splitW hpre).2
  obtain ⟨d, r, rfl, h1, h2⟩ := hasAllW_cons hsh
  obtain rfl := hasAllW_nil h2
  obtain ⟨xs, rfl, h3⟩ := hasW_list h1
  obtain ⟨ns, rfl⟩ := items_int h3
  have hlen : ns.length ≤ n := by
    unfold OpenLaw.pre at hc
    have h4 : (WTm.not (.lt (.lit (.int (n : Int))) (.len (.arg 0)))).holds [] { args := [.list (ns.map .int)] } = true := by
      have h4 := (holds_andW hc).1
      rw [hn] at h4
      exact h4
    have h5 := condW_of h4 (w_not (w_lt w_lit (w_len_list (w_arg rfl))))
    rw [List.length_map] at h5
    refine Nat.le_of_not_lt fun q => ?_
    have q' : (n : Int) < ((ns.length : Nat) : Int) := by omega
    first
      | (rw [decide_eq_true q'] at h5; exact absurd h5 (by decide))
      | (simp at h5; omega)
  cases hwl with
  | cons w1 w2 =>
    cases w2
    cases w1 with
    | list ho hall => exact ⟨_, _, ns, rfl, rfl, ho, ints_of_wellAll ns _ hall, hlen⟩

theorem post_true (l : OpenLaw) (args : List WData) : l.row.toRowW.claim.post args (.bool true) args = true :=
  postW_of (r := l.row.toRowW) (X := (true == true))
    (show WShape.has [] (.bool true) .bool = true by first | rfl | decide | simp [WShape.has, WShape.arms, WShape.armsAll])
    (show (WTm.eq .res (.lit (.bool true))).value [] { args := args, res := some (.bool true), after := args } = some (.bool (true == true)) from w_eq_bool (w_res rfl) w_lit) rfl

/-! ### the attachment: holds_open's last premise (the goal 'hc' behind k_head) from a wpAny of the law's body -/
/-- the same from a codeAny of the CALL (for a layer whose function contracts speak of calls) -/
theorem attach_call {l : OpenLaw} {n : Nat} {q : Program} {loose : List Str} {XP : (Str → Option Value) → Heap → Prop} {YP : World → Heap → Prop} {d : DefRec}
    (hn : l.most = some n) (hdf : d.params.defaults = [])
    (call : ∀ (w : World) (s₀ s₁ : Shared) (mg mb : Str → Option Value) (fa : Addr) (o : Obj) (pm cd doc : Value) (a : Addr) (vs : List Value) (ns : List Int),
      Ground q loose [] XP w s₀ mg mb s₁.heap → YP w s₁.heap →
      s₁.heap.get? fa = some o → o.data = .func (docDef d.name d.params d.body d.scope pm cd doc) → s₁.heap.CodeRec cd d.name → mg d.name = some (.ref fa) →
      s₁.heap.get? a = some { cls := .type "list", data := .seq vs.toArray } → IntsAre vs ns → ns.length ≤ n → s₁.gens = #[] →
      codeAny (model l.prog w) callerA (.call (.ref fa) ⟨[.ref a], []⟩) (fun r s' => r = .ok (.ret (.bool true)) ∧ OldK s₁.heap s'.heap ∧ s'.os = s₁.os ∧ AllBare s'.gens) s₁) :
    WalkO q loose XP YP l.row.toRowW d [] (fun f vs => PySem.call f vs) := by
  intro w s₀ s₁ mg mb G Y fa o pm cd doc dV kV ho hd hcd hD hmg hg args vals as hpre hlay hrd hwl hlo
  obtain rfl : dV = .none := Dflts.none hD hdf
  obtain rfl : kV = .none := Dflts.noKw hD
  obtain ⟨a, vs, ns, rfl, rfl, hobj, hints, hlen⟩ := script_of hn hpre hwl
  refine enter_call (codeAny_mono (call w s₀ s₁ mg mb fa o pm cd doc a vs ns G Y ho (fd_plain hd) hcd hmg hobj hints hlen hg) fun r s' hq => ?_)
  obtain ⟨rfl, h2, h3, h4⟩ := hq
  exact ⟨.inl ⟨.bool true, .bool true, [], rfl, fun _ => rfl, .bool true, post_true l _, fun _ => ⟨List.Pairwise.nil, fun _ hm => (nomatch hm)⟩⟩, h2, h3, h4⟩

/-! ### rules over ANY heap (no ledger) from facts about the written part K: the library's own take a ledger (News) for what they write -/
section
variable {prog : Program} {w : World} {A : Around} {E : Value → Shared → Prop} {s : Shared} {K : Frag}

/-! the whole heap as the ledger: makes every rule that writes through a ledger a rule over any heap -/
def noObjs (h : Heap) : Heap := { h with objs := #[] }
def ledger (h : Heap) (L d : Addr) : List (Addr × Obj) := (List.range h.objs.size).filterMap fun a => if a = L ∨ a = d then none else (h.get? a).map fun o => (a, o)
end
end Att

namespace L2
open PySem PySem.Spec PyProof.Rows

theorem vals_ints : ∀ {vs : List Value} {ns : List Int}, IntsAre vs ns → Vals (ns.map V.int) vs
  | _, _, .nil => .nil
  | _, _, .cons n t h => .cons ⟨t, rfl⟩ (vals_ints h)

/-- nothing is tracked but the script, known to the object (or it is an object of the module) -/
def Only (H : Hp) : Prop := ∀ b, H b = none ∨ ∃ o xs, H b = some (.frz o (.lst xs))

/-- THE HEAD: the law's promise, at the heap behind the top. F, the promise of the law's def, may use that base is part of the heap (so K.In base, base.Ns mainGlobals mg stand in Mod) -/
theorem law_call {P : Program} {w : World} {K : PySem.W.Frag} {mg mb : Str → Option Value} {CX : CXT} {k : Nat} {fa a : Addr} {fd : FuncData} {x : Str} {sp : Sp} {s₁ : Shared} {vs : List Value} {ns : List Int}
    (KX : K.In s₁.heap) (hns : s₁.heap.Ns mainGlobals mg) (hb : s₁.heap.Ns builtinsNs mb) (hbb : ∀ x : Str, x ≠ "__name__" → mb x = bootBuiltins x) (hlim : s₁.heap.NoLimit) (hg : s₁.gens = #[])
    (ha : s₁.heap.get? a = some { cls := .type "list", data := .seq vs.toArray }) (hi : IntsAre vs ns) (hl : ns.length ≤ sizeLine) (hr : Room k callerA)
    (F : ∀ base : Heap, K.In base → base.Ns mainGlobals mg → FnOk P w K mg base CX k fa fd [x] sp) (hbind : ∀ (s : Shared) (u : Value), BindsTo s fd ⟨[u], []⟩ [(x, u)])
    (hsp : ∀ H : Hp, Only H → SqL K H a (ns.map V.int) → sp [.ref a] H (fun v _ => v = .bl true) fun _ _ _ => False)
    (hCX : ∀ H e s', CX [] H s₁ (fun _ _ _ => False) e s' → False) :
    codeAny (model P w) callerA (.call (.ref fa) ⟨[.ref a], []⟩) (fun r s' => r = .ok (.ret (.bool true)) ∧ OldK s₁.heap s'.heap ∧ s'.os = s₁.os ∧ AllBare s'.gens) s₁ := by
  have rv := vals_ints hi
  have lenV := hi.length
  -- from an abstract heap in which nothing but the script may be tracked
  have core : ∀ H : Hp, Only H → SqL K H a (ns.map V.int) → HOk P w H s₁.heap → (∀ b, H b ≠ none → b = a) → (H a ≠ none → K.lookup a = none) →
      codeAny (model P w) callerA (.call (.ref fa) ⟨[.ref a], []⟩) (fun r s' => r = .ok (.ret (.bool true)) ∧ OldK s₁.heap s'.heap ∧ s'.os = s₁.os ∧ AllBare s'.gens) s₁ := by
    intro H hO hS hok hA hK
    have base_of : ∀ {b : Addr} {o : Obj}, s₁.heap.get? b = some o → H b = none → (hidT s₁.heap H).get? b = some o := fun e n => hidT_get e n
    have noA : ∀ {b : Addr} {o : Obj} {es : Array DictEntry} {ep : Nat}, s₁.heap.get? b = some o → o.data = .dict es ep → H b = none := fun {b o es ep} e d => by
      cases q : H b with
      | none => rfl
      | some u =>
        have e' : b = a := hA b (by rw [q]; simp)
        subst e'
        rw [ha] at e; cases e
        have d' : Data.seq vs.toArray _ = Data.dict es ep := d
        cases d'
    have nsK : ∀ {b : Addr} {m : Str → Option Value}, s₁.heap.Ns b m → (hidT s₁.heap H).Ns b m := fun {b m} ⟨o, es, ep, e, d, r⟩ => ⟨o, es, ep, base_of e (noA e d), d, r⟩
    have hKb : K.In (hidT s₁.heap H) := fun b o e => base_of (KX b o e) (by
      cases q : H b with
      | none => rfl
      | some u =>
        have e' : b = a := hA b (by rw [q]; simp)
        subst e'
        rw [hK (by rw [q]; simp)] at e; cases e)
    have hM : Mod K mg (hidT s₁.heap H) := ⟨hKb, nsK hns, ⟨mb, nsK hb, hbb⟩, let ⟨mc, h1, h2⟩ := hlim; ⟨mc, nsK h1, h2⟩⟩
    have e0 : Env0 P w K mg (hidT s₁.heap H) callerA [] s₁ H := ⟨rfl, hM, fun b o e => of_hidT e, Nat.le_of_eq (hidT_size _ _), trivial, fun b hb => absurd (show b ∈ ([] : List Addr) from hb) (by simp), hok, .of_eq hg⟩
    refine codeAny_mono ((F _ hKb (nsK hns)).run callerA [] s₁ H ⟨[.ref a], []⟩ [.ref a] [.ref a] _ _ hr e0 (hbind s₁ (.ref a)) (.cons rfl .nil) (hsp H hO hS)) fun r s' h => ?_
    cases r with
    | error e => exact (hCX H e s' h).elim
    | ok fl =>
      cases fl with
      | next => exact False.elim h
      | brk => exact False.elim h
      | cont => exact False.elim h
      | ret u =>
        obtain ⟨v, H', os, bare, un, hok', r', q⟩ := h
        have q' : v = .bl true := q
        subst q'
        obtain rfl : u = Value.bool true := r'
        refine ⟨rfl, OldK.of_keep fun b o e => ?_, os, bare⟩
        cases q : H b with
        | none => exact un.keep b o e q (by intro z; exact absurd (show b ∈ ([] : List Addr) from z) (by simp)) (by simp)
        | some u =>
          rcases hO b with z | ⟨ob, xs, z⟩
          · rw [q] at z; cases z
          · have z2 := un.frzs b ob _ z
            obtain ⟨e1, _⟩ := hok b _ z
            obtain ⟨e2, _⟩ := hok' b _ z2
            rw [e] at e1; cases e1
            exact e2
  cases hk : K.lookup a with
  | some o =>
    -- the script is one of the module's own objects
    have e := KX a o hk
    rw [ha] at e
    cases e
    refine core (fun _ => none) (fun _ => .inl rfl) (.inr ⟨_, vs.toArray, _, hk, rfl, rfl, rfl, by rw [List.size_toArray, lenV]; exact hl, by simpa using rv⟩) (fun b u z => by have z' : (none : Option HO) = some u := z; cases z') (fun b z => absurd rfl z) fun z => absurd rfl z
  | none =>
    refine core (fun b => if b = a then some (.frz { cls := .type "list", data := .seq vs.toArray } (.lst (ns.map V.int))) else none) (fun b => ?_) (.inl (.inr ⟨{ cls := .type "list", data := .seq vs.toArray }, if_pos rfl⟩)) (fun b u z => ?_) (fun b z => ?_) fun _ => hk
    · by_cases hb : b = a
      · exact .inr ⟨_, _, if_pos hb⟩
      · exact .inl (if_neg hb)
    · by_cases hb : b = a
      · have z' := (if_pos hb).symm.trans z
        cases z'
        subst hb
        exact ⟨ha, by rw [List.length_map]; exact hl, vs, _, rv, ha⟩
      · have z' := (if_neg hb).symm.trans z
        cases z'
    · by_cases hb : b = a
      · exact hb
      · exact absurd (if_neg hb) z
end L2

namespace L2
open PySem PySem.Spec PyProof.Rows

abbrev KOf {K : PySem.W.Frag} {h : Heap} (_ : K.In h) : PySem.W.Frag := K

/-- the goal that k_head leaves (case hc), from the law's promise. F gives the function object fd (K's own) once, then the promise over every base -/
theorem walk_of {l : PySem.W.OpenLaw} {n k : Nat} {q : Program} {loose : List Str} {XP : (Str → Option Value) → Heap → Prop} {YP : World → Heap → Prop} {d : DefRec} {K : Params → PySem.W.Frag} {CX : World → CXT} {sp : World → Sp} {x : Str}
    (hn : l.most = some n) (hn2 : n ≤ sizeLine) (hdf : d.params.defaults = []) (hr : Room k callerA)
    (hY : ∀ (w : World) (h : Heap), YP w h → (K w.params).In h)
    (F : ∀ (w : World) (mg : Str → Option Value) (fa : Addr) (h : Heap), (K w.params).In h → h.Ns mainGlobals mg → mg d.name = some (.ref fa) →
      ∃ fd : FuncData, (∀ (s : Shared) (u : Value), BindsTo s fd ⟨[u], []⟩ [(x, u)]) ∧
        ∀ base : Heap, (K w.params).In base → base.Ns mainGlobals mg → FnOk l.prog w (K w.params) mg base (CX w) k fa fd [x] (sp w))
    (hsp : ∀ (w : World) (H : Hp) (a : Addr) (ns : List Int), ns.length ≤ n → Only H → SqL (K w.params) H a (ns.map V.int) → sp w [.ref a] H (fun v _ => v = .bl true) fun _ _ _ => False)
    (hCX : ∀ (w : World) (H : Hp) (s : Shared) (e : Value) (s' : Shared), CX w [] H s (fun _ _ _ => False) e s' → False) :
    PySem.W.WalkO q loose XP YP l.row.toRowW d [] (fun f vs => PySem.call f vs) := by
  refine Att.attach_call hn hdf fun w s₀ s₁ mg mb fa o pm cd doc a vs ns G Y ho hd hcd hmg hobj hints hlen hg => ?_
  have KX := hY w _ Y
  obtain ⟨fd, hb, hF⟩ := F w mg fa _ KX G.T.g hmg
  exact law_call KX G.T.g G.T.b G.T.builtins G.T.nolimit hg hobj hints (Nat.le_trans hlen hn2) hr hF hb (fun H hO hS => hsp w H a ns hlen hO hS) fun H e s' => hCX w H s₁ e s'
end L2



/-! SHORT WORDS over the layer: a def of the text, its body, what a loop and a test want. -/
namespace L2
open PySem PySem.Spec PyProof.Rows

/-! ### the text by places -/
/-- the j-th statement of a class's body -/
def inClass (s : Stmt) (j : Nat) : Stmt := match s with
  | .ClassDef _ _ _ body _ _ _ _ _ _ _ => body.getD j (.Pass ⟨0, 0, 0, 0⟩)
  | _ => .Pass ⟨0, 0, 0, 0⟩
def defArgs (s : Stmt) : Arguments := match s with
  | .FunctionDef _ a _ _ _ _ _ _ _ _ => a
  | _ => { posonlyargs := [], args := [], vararg := none, kwonlyargs := [], kw_defaults := [], kwarg := none, defaults := [] }
def defBody (s : Stmt) : List Stmt := match s with
  | .FunctionDef _ _ b _ _ _ _ _ _ _ => b
  | _ => []
def defScope (s : Stmt) : Scope := match s with
  | .FunctionDef _ _ _ _ _ _ sc _ _ _ => sc
  | _ => { kind := .function, names := [], isGenerator := false, isCoroutine := false }

/-! ### no exception leaves a def -/
abbrev CX0 : CXT := fun _ _ _ _ _ _ => False
abbrev E0 : XK := fun _ _ _ => False
/-! ### a def (or method) of the text as it stands behind the top -/
structure Fun (K : PySem.W.Frag) (x qual : Str) (st : Stmt) (f : Addr) (fd : FuncData) : Prop where
  ex : ∃ (oc : Value) (od : Option Addr) (kV doc pm : Value) (an : Option Addr) (cdv ct : Value) (osl : Array (Option Value)),
    fd = PySem.W.fnOf x qual (defArgs st) (defBody st) (defScope st) .none kV doc pm an cdv ct ∧ K.lookup f = some ⟨oc, od, .func fd, osl⟩ ∧ PySem.W.codeIn K cdv qual = true
  kp : PySem.W.keepIn K (.ref f) = true
section
variable {P : Program} {w : World} {K : PySem.W.Frag} {mg : Str → Option Value} {base : Heap}
/-- how its arguments bind (no defaults): h is «fun _ _ _ _ _ _ us hl => match us, hl with | [_, _], _ => rfl», one _ a parameter -/
theorem Fun.binds {x qual : Str} {st : Stmt} {f : Addr} {fd : FuncData} {ps : List Str} (F : Fun K x qual st f fd)
    (h : ∀ (kV doc pm : Value) (an : Option Addr) (cdv ct : Value) (us : List Value), us.length = ps.length → bindArgs (PySem.W.fnOf x qual (defArgs st) (defBody st) (defScope st) .none kV doc pm an cdv ct) ⟨us, []⟩ = pure (ps.zip us)) : Binds K fd ps [] := by
  obtain ⟨oc, od, kV, doc, pm, an, cdv, ct, osl, rfl, lk, hcd⟩ := F.ex
  exact .all (h kV doc pm an cdv ct)
theorem fun_mk {x qual : Str} {st : Stmt} {f : Addr} {oc : Value} {od an : Option Addr} {osl : Array (Option Value)} {kV doc pm cdv ct : Value} (l : K.lookup f = some ⟨oc, od, .func (PySem.W.fnOf x qual (defArgs st) (defBody st) (defScope st) .none kV doc pm an cdv ct), osl⟩)
    (c : PySem.W.codeIn K cdv qual = true) (k : PySem.W.keepIn K (.ref f) = true) : Fun K x qual st f (PySem.W.fnOf x qual (defArgs st) (defBody st) (defScope st) .none kV doc pm an cdv ct) := ⟨⟨oc, od, kV, doc, pm, an, cdv, ct, osl, rfl, l, c⟩, k⟩
end
theorem hu_of {A : Around} {k : Nat} (hr : Room k A) : A.units + 1 < cLine := Nat.lt_of_le_of_lt (Nat.add_le_add_left (by decide : 1 ≤ 64) _) hr.units
/-! ### expressions in short: the name that stands in the i-th slot -/
section
variable {X : Cx}
theorem pv (i : Nat) {x : Str} {pos : Pos} (hN : X.N[i]? = some x := by rfl) (hv : Vis X.env.scope x := by first | exact Or.inl rfl | exact Or.inr (Or.inl rfl) | exact Or.inr (Or.inr rfl)) (hd : (x == ("__debug__" : Str)) = false := by decide)
    (hcd : (x == ("__classdict__" : Str)) = false := by decide) : PE X (.Name x pos) (tVar i) := pe_var hN hv hd hcd
end

/-! ### tests -/
theorem iteF {A B : Prop} (h : B) : if false = true then A else B := by
  rw [if_neg Bool.false_ne_true]
  exact h
theorem iteT {A B : Prop} (h : A) : if true = true then A else B := by
  rw [if_pos rfl]
  exact h
/-! ### heaps -/
/-- all that was tracked is as it was -/
def Same (H H' : Hp) : Prop := ∀ b o, H b = some o → H' b = some o
theorem Same.refl (H : Hp) : Same H H := fun _ _ h => h
theorem Same.trans {H H1 H2 : Hp} (a : Same H H1) (b : Same H1 H2) : Same H H2 := fun c o h => b c o (a c o h)
theorem Same.free {H H' : Hp} (e : Same H H') {l : Addr} (h : H' l = Option.none) : H l = Option.none := by
  cases q : H l with
  | none => rfl
  | some o =>
    rw [e l o q] at h
    cases h
theorem Same.seq {K : PySem.W.Frag} {H H' : Hp} {a : Addr} {xs : List V} (e : Same H H') (h : SqL K H a xs) : SqL K H' a xs := by
  rcases h with (h | ⟨o, h⟩) | h
  · exact .inl (.inl (e _ _ h))
  · exact .inl (.inr ⟨o, e _ _ h⟩)
  · exact .inr h

end L2

namespace L2
open PySem PySem.Spec PyProof.Rows

/-! ### lists of pairs as tables -/
section
variable {κ : Type} [DecidableEq κ]
def valV (kvs : List (κ × V)) (k : κ) : Option V := (kvs.find? fun kv => decide (kv.1 = k)).map (·.2)
/-- in its place, or at the end -/
def putK (kvs : List (κ × V)) (k : κ) (v : V) : List (κ × V) :=
  if (kvs.any fun kv => decide (kv.1 = k)) = true then kvs.map (fun kv => if kv.1 = k then (kv.1, v) else kv) else kvs ++ [(k, v)]
def dropK (kvs : List (κ × V)) (k : κ) : List (κ × V) := kvs.filter fun kv => decide (kv.1 ≠ k)

theorem valV_nil {k : κ} : valV ([] : List (κ × V)) k = none := rfl
theorem valV_pos {p : κ × V} {r : List (κ × V)} {k : κ} (e : p.1 = k) : valV (p :: r) k = some p.2 := by simp [valV, List.find?_cons, e]
theorem valV_neg {p : κ × V} {r : List (κ × V)} {k : κ} (e : ¬ p.1 = k) : valV (p :: r) k = valV r k := by simp [valV, List.find?_cons, e]
theorem valV_any (k : κ) : ∀ kvs : List (κ × V), (kvs.any fun kv => decide (kv.1 = k)) = (valV kvs k).isSome
  | [] => rfl
  | p :: r => by
    rw [List.any_cons]
    by_cases e : p.1 = k
    · simp only [valV_pos e, decide_eq_true e, Bool.true_or, Option.isSome_some]
    · rw [valV_neg e, decide_eq_false e, Bool.false_or]; exact valV_any k r
theorem valV_map (k j : κ) (y : V) : ∀ kvs : List (κ × V), valV (kvs.map fun kv => if kv.1 = k then (kv.1, y) else kv) j = (valV kvs j).map fun x => if j = k then y else x
  | [] => rfl
  | p :: r => by
    have ih := valV_map k j y r
    rw [List.map_cons]
    by_cases h : p.1 = k
    · rw [if_pos h]
      by_cases e : p.1 = j
      · rw [valV_pos (p := (p.1, y)) e, valV_pos e, Option.map_some, if_pos (e.symm.trans h)]
      · rw [valV_neg (p := (p.1, y)) e, valV_neg e, ih]
    · rw [if_neg h]
      by_cases e : p.1 = j
      · rw [valV_pos (p := p) e, valV_pos e, Option.map_some, if_neg (fun z => h (e.trans z))]
      · rw [valV_neg (p := p) e, valV_neg e, ih]
theorem valV_snoc (k j : κ) (y : V) : ∀ kvs : List (κ × V), valV kvs k = none → valV (kvs ++ [(k, y)]) j = if j = k then some y else valV kvs j
  | [], _ => by
    by_cases e : k = j
    · rw [if_pos e.symm]; exact valV_pos (p := (k, y)) e
    · rw [if_neg (fun z => e z.symm)]; exact valV_neg (p := (k, y)) e
  | p :: r, hn => by
    rw [List.cons_append]
    have hk : ¬ p.1 = k := fun z => by rw [valV_pos z] at hn; cases hn
    rw [valV_neg hk] at hn
    have ih := valV_snoc k j y r hn
    by_cases e : p.1 = j
    · rw [valV_pos e, valV_pos e, if_neg (fun z => hk (e.trans z))]
    · rw [valV_neg e, valV_neg e, ih]
theorem valV_put (kvs : List (κ × V)) (k j : κ) (y : V) : valV (putK kvs k y) j = if j = k then some y else valV kvs j := by
  unfold putK
  by_cases a : (kvs.any fun kv => decide (kv.1 = k)) = true
  · rw [if_pos a, valV_map]
    rw [valV_any] at a
    by_cases e : j = k
    · obtain ⟨x, hx⟩ := Option.isSome_iff_exists.mp a
      rw [if_pos e, e, hx, Option.map_some, if_pos rfl]
    · rw [if_neg e]
      cases valV kvs j with
      | none => rfl
      | some x => rw [Option.map_some, if_neg e]
  · rw [if_neg a]
    refine valV_snoc k j y kvs ?_
    rw [valV_any] at a
    cases q : valV kvs k with
    | none => rfl
    | some x => rw [q] at a; exact (a rfl).elim
theorem length_putK (kvs : List (κ × V)) (k : κ) (v : V) : (putK kvs k v).length ≤ kvs.length + 1 := by
  unfold putK
  split
  · rw [List.length_map]; omega
  · rw [List.length_append, List.length_cons, List.length_nil]; omega
theorem putK_new {kvs : List (κ × V)} {k : κ} (v : V) (h : valV kvs k = none) : putK kvs k v = kvs ++ [(k, v)] := by
  unfold putK
  rw [valV_any, h]
  exact if_neg (by decide)

theorem RelO.isSome_eq {o : Option V} {u : Option Value} (r : RelO o u) : o.isSome = u.isSome := by
  cases o with
  | none => cases u with
    | none => rfl
    | some _ => exact (show False from r).elim
  | some _ => cases u with
    | none => exact (show False from r).elim
    | some _ => rfl
theorem RelO.getD {o : Option V} {u : Option Value} {d : V} {d' : Value} (r : RelO o u) (rd : RelV d d') : RelV (o.getD d) (u.getD d') := by
  cases o with
  | none => cases u with
    | none => exact rd
    | some _ => exact (show False from r).elim
  | some _ => cases u with
    | none => exact (show False from r).elim
    | some _ => exact r

/-- raw tables of the same keys -/
theorem KV.val {kvs : List (κ × V)} {vs : List (κ × Value)} (r : KV kvs vs) (k : κ) : RelO (valV kvs k) (valueAt vs k) := by
  unfold KV at r
  induction r with
  | nil => exact True.intro
  | @cons p q ps qs h t ih =>
    obtain ⟨h1, h2⟩ := h
    by_cases e : p.1 = k
    · have e' : q.1 = k := h1.symm.trans e
      have b : valueAt (q :: qs) k = some q.2 := by simp [valueAt, List.find?_cons, e']
      rw [valV_pos e, b]; exact h2
    · have e' : ¬ q.1 = k := fun z => e (h1.trans z)
      have b : valueAt (q :: qs) k = valueAt qs k := by simp [valueAt, List.find?_cons, e']
      rw [valV_neg e, b]; exact ih
theorem KV.any {kvs : List (κ × V)} {vs : List (κ × Value)} (r : KV kvs vs) (k : κ) : (kvs.any fun kv => decide (kv.1 = k)) = vs.any fun kv => decide (kv.1 = k) := by
  unfold KV at r
  induction r with
  | nil => rfl
  | cons h t ih => rw [List.any_cons, List.any_cons, ih, h.1]
theorem KV.repl {kvs : List (κ × V)} {vs : List (κ × Value)} (r : KV kvs vs) (k : κ) {y : V} {u : Value} (ry : RelV y u) :
    KV (kvs.map fun kv => if kv.1 = k then (kv.1, y) else kv) (vs.map fun kv => if kv.1 = k then (kv.1, u) else kv) := by
  unfold KV at r ⊢
  induction r with
  | nil => exact .nil
  | @cons p q ps qs h t ih =>
    rw [List.map_cons, List.map_cons]
    refine .cons ?_ ih
    obtain ⟨h1, h2⟩ := h
    by_cases e : p.1 = k
    · rw [if_pos e, if_pos (h1.symm.trans e)]; exact ⟨h1, ry⟩
    · rw [if_neg e, if_neg (fun z => e (h1.trans z))]; exact ⟨h1, h2⟩
theorem KV.put {kvs : List (κ × V)} {vs : List (κ × Value)} (r : KV kvs vs) (k : κ) {y : V} {u : Value} (ry : RelV y u) : KV (putK kvs k y) (stored vs k u) := by
  unfold putK stored
  rw [r.any k]
  by_cases e : (vs.any fun kv => decide (kv.1 = k)) = true
  · rw [if_pos e, if_pos e]; exact r.repl k ry
  · rw [if_neg e, if_neg e]; exact Paired.snoc r ⟨rfl, ry⟩
theorem KV.keys {kvs : List (κ × V)} {vs : List (κ × Value)} (r : KV kvs vs) : kvs.map (·.1) = vs.map (·.1) := by
  unfold KV at r
  induction r with
  | nil => rfl
  | cons h t ih => rw [List.map_cons, List.map_cons, ih, h.1]
theorem KV.length {kvs : List (κ × V)} {vs : List (κ × Value)} (r : KV kvs vs) : kvs.length = vs.length := Paired.length r
end


/-! ### a tracked dict, its keys ints and texts or tuples of these -/
theorem kV_is {P : Program} {w : World} {k : Key} {u : Value} (r : RelV (kV k) u) : (mixKind P w).is k u = true := by
  cases k with
  | inl i => obtain ⟨t, e⟩ := (show ∃ t, u = Value.int i t from r); subst e; exact mixKind_int P w i t
  | inr x => obtain ⟨t, e⟩ := (show ∃ t, u = Value.str x t from r); subst e; exact mixKind_str P w x t
theorem items_are {P : Program} {w : World} : ∀ {ks : List Key} {us : List Value}, Vals (ks.map kV) us → ItemsAre (mixKind P w) ks us
  | [], _, r => by rw [List.map_nil] at r; cases r; exact .nil
  | k :: ks, _, r => by
    rw [List.map_cons] at r
    cases r with
    | cons h t => exact .cons (kV_is h) (items_are t)

/-- raw entries of a dict with tuple keys -/
abbrev KT (H : Hp) : List (List Key × V) → List (List Key × Addr × Value) → Prop := Paired fun p q => p.1 = q.1 ∧ H q.2.1 = some (.tup (p.1.map kV)) ∧ RelV p.2 q.2.2
theorem KT.val {H : Hp} {kvs : List (List Key × V)} {xs : List (List Key × Addr × Value)} (r : KT H kvs xs) (k : List Key) : RelO (valV kvs k) ((atKey xs k).map (·.2)) := by
  induction r with
  | nil => exact True.intro
  | @cons p q ps qs h t ih =>
    obtain ⟨h1, _, h2⟩ := h
    by_cases e : p.1 = k
    · have e' : q.1 = k := h1.symm.trans e
      have b : atKey (q :: qs) k = some q.2 := by simp [atKey, List.find?_cons, e']
      rw [valV_pos e, b]; exact h2
    · have e' : ¬ q.1 = k := fun z => e (h1.trans z)
      have b : atKey (q :: qs) k = atKey qs k := by simp [atKey, List.find?_cons, e']
      rw [valV_neg e, b]; exact ih
theorem KT.repl {H : Hp} {kvs : List (List Key × V)} {xs : List (List Key × Addr × Value)} (r : KT H kvs xs) (k : List Key) {y : V} {u : Value} (ry : RelV y u) :
    KT H (kvs.map fun kv => if kv.1 = k then (kv.1, y) else kv) (xs.map (putAt k u)) := by
  induction r with
  | nil => exact .nil
  | @cons p q ps qs h t ih =>
    rw [List.map_cons, List.map_cons]
    refine .cons ?_ ih
    obtain ⟨h1, h2, h3⟩ := h
    unfold putAt
    by_cases e : p.1 = k
    · rw [if_pos e, if_pos (h1.symm.trans e)]; exact ⟨h1, h2, ry⟩
    · rw [if_neg e, if_neg (fun z => e (h1.trans z))]; exact ⟨h1, h2, h3⟩
theorem KT.put {H : Hp} {kvs : List (List Key × V)} {xs : List (List Key × Addr × Value)} (r : KT H kvs xs) (k : List Key) {b : Addr} {y : V} {u : Value} (hb : H b = some (.tup (k.map kV))) (ry : RelV y u) :
    KT H (putK kvs k y) (storedH xs k b u) := by
  have e : (kvs.any fun kv => decide (kv.1 = k)) = (atKey xs k).isSome := by
    rw [valV_any, (r.val k).isSome_eq, Option.isSome_map]
  unfold putK storedH
  rw [e]
  by_cases q : (atKey xs k).isSome = true
  · rw [if_pos q, if_pos q]; exact r.repl k ry
  · rw [if_neg q, if_neg q]; exact Paired.snoc r ⟨rfl, hb, ry⟩
theorem KT.keeps {H H' : Hp} {kvs : List (List Key × V)} {xs : List (List Key × Addr × Value)} (r : KT H kvs xs) (ht : ∀ b ys, H b = some (.tup ys) → H' b = some (.tup ys)) : KT H' kvs xs :=
  Paired.mapP r fun _ _ z => ⟨z.1, ht _ _ z.2.1, z.2.2⟩

section
variable {P : Program} {w : World} {H : Hp} {h : Heap} {a : Addr}
theorem rd_of {u : HO} (ok : HOk P w H h) (e : Rd H a u) : ObjOk P w H h a u := e.ok ok
theorem dk_rd {kvs : List (Key × V)} (ok : HOk P w H h) (e : Rd H a (.dK kvs)) : kvs.length ≤ sizeLine ∧ (a == sysModules) = false ∧ ∃ vs, KV kvs vs ∧ h.DictOf (mixKind P w) a vs :=
  show ObjOk P w H h a (.dK kvs) from rd_of ok e
theorem dk_of {kvs : List (Key × V)} (ok : HOk P w H h) (e : H a = some (.dK kvs)) : kvs.length ≤ sizeLine ∧ (a == sysModules) = false ∧ ∃ vs, KV kvs vs ∧ h.DictOf (mixKind P w) a vs := dk_rd ok (.inl e)
/-- a tracked tuple of ints and texts is a key -/
theorem key_of {ks : List Key} (ok : HOk P w H h) (e : H a = some (.tup (ks.map kV))) : (tupleKind (mixKind P w)).is h ks a := by
  obtain ⟨_, its, r, o, h1, h2, n, h3⟩ := (show ObjOk P w H h a (.tup (ks.map kV)) from ok a _ e)
  exact ⟨o, its.toArray, n, h1, h2, h3, by simpa using items_are r⟩
theorem dt_rd {kvs : List (List Key × V)} (ok : HOk P w H h) (e : Rd H a (.dT kvs)) : kvs.length ≤ sizeLine ∧ (a == sysModules) = false ∧
    ∃ xs, KT H kvs xs ∧ h.DictOfH (tupleKind (mixKind P w)) a xs := by
  obtain ⟨z, y, xs, r, o, es, ep, h1, h2, h3, h4, h5⟩ := (show ObjOk P w H h a (.dT kvs) from rd_of ok e)
  refine ⟨z, y, xs, r, o, es, ep, h1, h2, h3, h4, fun x hx => ?_, h5⟩
  have all : ∀ {l : List (List Key × V)} {m : List (List Key × Addr × Value)}, KT H l m → ∀ x ∈ m, (tupleKind (mixKind P w)).is h x.1 x.2.1 := by
    intro l m q
    induction q with
    | nil => intro x hx; exact nomatch hx
    | @cons p q ps qs hq t ih =>
      intro x hx
      rcases List.mem_cons.mp hx with e | hx
      · subst e
        exact key_of ok (by rw [← hq.1]; exact hq.2.1)
      · exact ih x hx
  exact all r x hx
theorem dt_of {kvs : List (List Key × V)} (ok : HOk P w H h) (e : H a = some (.dT kvs)) : kvs.length ≤ sizeLine ∧ (a == sysModules) = false ∧
    ∃ xs, KT H kvs xs ∧ h.DictOfH (tupleKind (mixKind P w)) a xs := dt_rd ok (.inl e)
end

/-- what the dict at a holds at the key y -/
def DGet (H : Hp) (a : Addr) (y : V) (r : Option V) : Prop :=
  (∃ kvs k, Rd H a (.dK kvs) ∧ y = kV k ∧ r = valV kvs k) ∨ ∃ kvs k b, Rd H a (.dT kvs) ∧ y = .ref b ∧ H b = some (.tup (k.map kV)) ∧ r = valV kvs k
/-- the heap behind a[y] = v -/
def DPut (H : Hp) (a : Addr) (y v : V) (H' : Hp) : Prop :=
  (∃ kvs k, H a = some (.dK kvs) ∧ y = kV k ∧ kvs.length < sizeLine ∧ H' = upd H a (.dK (putK kvs k v))) ∨
  ∃ kvs k b, H a = some (.dT kvs) ∧ y = .ref b ∧ H b = some (.tup (k.map kV)) ∧ kvs.length < sizeLine ∧ H' = upd H a (.dT (putK kvs k v))
theorem DGet.k {H : Hp} {a : Addr} {kvs : List (Key × V)} {k : Key} (e : H a = some (.dK kvs)) : DGet H a (kV k) (valV kvs k) := .inl ⟨kvs, k, .inl e, rfl, rfl⟩
theorem DPut.k {H : Hp} {a : Addr} {kvs : List (Key × V)} {k : Key} {v : V} (e : H a = some (.dK kvs)) (hl : kvs.length < sizeLine) : DPut H a (kV k) v (upd H a (.dK (putK kvs k v))) := .inl ⟨kvs, k, e, rfl, hl, rfl⟩
section
variable {X : Cx} {pins : List (Addr × Obj)} {σ : St} {H : Hp} {s : Shared} {a : Addr} {y v : V} {u r : Value} {o : Option V} {A : Around} {E : Value → Shared → Prop}

theorem Inv.big (I : Inv X pins σ H s) : sysModules < s.heap.objs.size := by
  have h : mainGlobals < s.heap.objs.size := (I.mod.glob.keeps I.bk).lt
  exact Nat.lt_trans (by decide) h

/-- d[y], there -/
theorem d_getItem {Q : Value → Shared → Prop} (hu : A.units + 1 < cLine) (I : Inv X pins σ H s) (g : DGet H a y (some v)) (ry : RelV y u) (h : ∀ w' s', Inv X pins σ H s' → RelV v w' → Q w' s') :
    wpAny (model X.prog X.w) A (getItem (.ref a) u) Q E s := by
  rcases g with ⟨kvs, k, e, ey, l⟩ | ⟨kvs, k, b, e, ey, eb, l⟩
  · subst ey
    obtain ⟨z, hd, vs, rel, dd⟩ := dk_rd I.hok e
    obtain ⟨w', hw, rw'⟩ := RelO.some_of (v := v) (o := valueAt vs k) (by rw [l]; exact rel.val k)
    exact wpAny_getItem_of (kV_is ry) dd.mapOf hw (h w' _ (I.tok _) rw')
  · subst ey
    cases (show u = Value.ref b from ry)
    obtain ⟨z, hd, xs, rel, dd⟩ := dt_rd I.hok e
    obtain ⟨w', hw, rw'⟩ := RelO.some_of (v := v) (o := (atKey xs k).map (·.2)) (by rw [l]; exact rel.val k)
    obtain ⟨p, hp, hp2⟩ := Option.map_eq_some_iff.mp hw
    refine wpAny_getItem_heap (tupleKind_room_in1 hu) (key_of I.hok eb) dd hp ?_
    rw [hp2]
    exact h w' _ (I.tok _) rw'
theorem d_notIn {Q : Value → Shared → Prop} (hu : A.units + 1 < cLine) (I : Inv X pins σ H s) (g : DGet H a y o) (ry : RelV y u) (h : ∀ s', Inv X pins σ H s' → Q (.bool (!o.isSome)) s') :
    wpAny (model X.prog X.w) A (compareOp .NotIn u (.ref a)) Q E s := by
  rcases g with ⟨kvs, k, e, ey, l⟩ | ⟨kvs, k, b, e, ey, eb, l⟩
  · subst ey
    obtain ⟨z, hd, vs, rel, dd⟩ := dk_rd I.hok e
    refine wpAny_notIn_of (kV_is ry) hd dd.mapOf ?_
    rw [← (rel.val k).isSome_eq, ← l]
    exact h _ (I.tok _)
  · subst ey
    cases (show u = Value.ref b from ry)
    obtain ⟨z, hd, xs, rel, dd⟩ := dt_rd I.hok e
    refine wpAny_notIn_heap (tupleKind_room_in1 hu) (key_of I.hok eb) hd dd ?_
    have q := (rel.val k).isSome_eq
    rw [Option.isSome_map] at q
    rw [← q, ← l]
    exact h _ (I.tok _)
/-- a dict's object is replaced -/
theorem d_write {h' : Heap} {t' : Nat} {ob : HO} (I : Inv X pins σ H s) (mu : Mut (H a)) (hs : Heap.SameBut a s.heap h') (he : ∃ q, h'.get? a = some q) (new : ObjOk X.prog X.w (upd H a ob) h' a ob) :
    Inv X pins σ (upd H a ob) { s with heap := h', toks := t' } :=
  I.write (x := a) (e := a) mu (.inl rfl) (fun b q hb z => (hs.2 b hb).trans z) he new
theorem dk_new {P : Program} {w : World} {H' : Hp} {h' : Heap} {kvs : List (Key × V)} {vs : List (Key × Value)} (z : kvs.length ≤ sizeLine) (hd : (a == sysModules) = false) (rel : KV kvs vs) (dd : h'.DictOf (mixKind P w) a vs) :
    ObjOk P w H' h' a (.dK kvs) := ⟨z, hd, vs, rel, dd⟩
/-- d[y] = v -/
theorem d_setItem {H' : Hp} {Q : Unit → Shared → Prop} (hu : A.units + 1 < cLine) (I : Inv X pins σ H s) (g : DPut H a y v H') (ry : RelV y u) (rv : RelV v r) (h : ∀ s', Inv X pins σ H' s' → Q () s') :
    wpAny (model X.prog X.w) A (setItem (.ref a) u r) Q E s := by
  rcases g with ⟨kvs, k, e, ey, l, eH⟩ | ⟨kvs, k, b, e, ey, eb, l, eH⟩
  · subst ey eH
    obtain ⟨z, hd, vs, rel, dd⟩ := dk_of I.hok e
    have hz : vs.length ≤ sizeLine := by rw [← rel.length]; exact z
    have hl : (putK kvs k v).length ≤ sizeLine := by have := length_putK kvs k v; omega
    refine wpAny_setItem_pairs (hsz := hz) (kV_is ry) dd fun h' dd' hs => h _ ?_
    have he : ∃ q, h'.get? a = some q := let ⟨q, _, _, hq, _⟩ := dd'; ⟨q, hq⟩
    exact d_write I (by rw [e]; exact True.intro) hs he (dk_new hl hd (rel.put k rv) dd')
  · subst ey eH
    cases (show u = Value.ref b from ry)
    obtain ⟨z, hd, xs, rel, dd⟩ := dt_of I.hok e
    have hz : xs.length ≤ sizeLine := by rw [← Paired.length rel]; exact z
    have hl : (putK kvs k v).length ≤ sizeLine := by have := length_putK kvs k v; omega
    refine wpAny_setItem_heap (hsz := hz) (tupleKind_room_in1 hu) (key_of I.hok eb) dd fun h' dd' hs => h _ ?_
    obtain ⟨q, es, ep, hq, h2, h3, h4, _, h5⟩ := dd'
    refine d_write I (by rw [e]; exact True.intro) hs ⟨q, hq⟩ ⟨hl, hd, _, (rel.put k eb rv).keeps fun c ys ec => ?_, q, es, ep, hq, h2, h3, h4, h5⟩
    rw [upd_ne (ne_of ec e (fun z => nomatch z))]
    exact ec
end

section
variable {X : Cx} {pins : List (Addr × Obj)} {σ : St} {H : Hp} {s : Shared} {a : Addr} {kvs : List (Key × V)} {k : Key} {u : Value} {A : Around} {E : Value → Shared → Prop}
end


/-! ### readings and rules -/
/-- the element of a subscription, not a slice -/
def NoSl (i : Expr) : Prop := ∀ ov iv, subscripted i false ov iv = operate [ov, iv] (getItem ov iv)
theorem subD_of {prog : Program} {w : World} {A : Around} {E : Value → Shared → Prop} {s : Shared} {env : Env} {value slice : Expr} {pos : Pos} {T id : String} {Q : Value → Shared → Prop}
    (hl : typeLookup (.type T) "__getitem__" = pure (some (.builtin id))) (hs : NoSl slice)
    (h : wpAny (model prog w) A (eval value env) (fun o s₁ => wpAny (model prog w) A (eval slice env) (fun i s₂ => s₂.TypeIs o T ∧ wpAny (model prog w) A (getItem o i) Q E s₂) E s₁) E s) :
    wpAny (model prog w) A (eval (.Subscript value slice pos) env) Q E s := by
  refine Subscript_ (wpAny_mono h (fun o s₁ h₁ => wpAny_mono h₁ (fun i s₂ h₂ => ?_) fun _ _ x => x) fun _ _ x => x)
  obtain ⟨hT, h₂⟩ := h₂
  unfold subscriptTail
  refine wpAny_bind ?_
  rw [getitemInPython_of_ne hT.not_modules]
  refine wpAny_bind (wpAny_specialOf hT hl ?_)
  have fin : wpAny (model prog w) A (subscripted slice false o i) (fun r s₃ => wpAny (model prog w) A (letTemporaryGo value o r >>= fun _ => pure r) Q E s₃) E s₂ := by
    rw [hs o i]
    exact wpAny_operating (wpAny_mono h₂ (fun r s₃ h₃ => wpAny_bind (wpAny_letTemporaryGo (wpAny_pure h₃))) fun _ _ x => x)
  first
    | exact wpAny_pure (wpAny_bind fin)
    | exact wpAny_bind (wpAny_pure (wpAny_bind fin))
    | exact wpAny_bind fin

theorem dict_typeIs {X : Cx} {pins : List (Addr × Obj)} {σ : St} {H : Hp} {s : Shared} {a : Addr} {y : V} {o : Option V} (I : Inv X pins σ H s) (g : DGet H a y o) : s.TypeIs (.ref a) "dict" := by
  rcases g with ⟨kvs, k, e, _, _⟩ | ⟨kvs, k, b, e, _, _, _⟩
  · obtain ⟨_, _, vs, _, dd⟩ := dk_rd I.hok e
    exact dd.typeIs
  · obtain ⟨_, _, xs, _, dd⟩ := dt_rd I.hok e
    exact dd.typeIs
/-- d[y] -/
def tDGet (td ty : TE) : TE := fun σ H Q => td σ H fun x H1 => ty σ H1 fun y H2 => ∃ a v, x = .ref a ∧ DGet H2 a y (some v) ∧ Q v H2
/-- y in d, y not in d -/
def tDIn (ty td : TE) : TE := fun σ H Q => ty σ H fun y H1 => td σ H1 fun x H2 => ∃ a o, x = .ref a ∧ DGet H2 a y o ∧ Q (.bl o.isSome) H2
def tDNotIn (ty td : TE) : TE := fun σ H Q => ty σ H fun y H1 => td σ H1 fun x H2 => ∃ a o, x = .ref a ∧ DGet H2 a y o ∧ Q (.bl (!o.isSome)) H2
/-- d[y] = v -/
def sDPut (td ty tv : TE) : TS := fun D σ H => tv σ H fun v H1 => td σ H1 fun x H2 => ty σ H2 fun y H3 => ∃ a H4, x = .ref a ∧ DPut H3 a y v H4 ∧ D.nx σ H4
/-- d[y] op= v -/
def sDAug (td ty tv : TE) (rd : V → V → Hp → VK → Prop) : TS := fun D σ H => td σ H fun x H1 => ty σ H1 fun y H2 => ∃ a v, x = .ref a ∧ DGet H2 a y (some v) ∧
  tv σ H2 fun y2 H3 => rd v y2 H3 fun z H4 => ∃ H5, DPut H4 a y z H5 ∧ D.nx σ H5
/-- del d[y] -/
def sDDel (td ty : TE) : TS := fun D σ H => td σ H fun x H1 => ty σ H1 fun y H2 => ∃ a kvs k, x = .ref a ∧ H2 a = some (.dK kvs) ∧ y = kV k ∧ (valV kvs k).isSome = true ∧ D.nx σ (upd H2 a (.dK (dropK kvs k)))

section
variable {X : Cx} {o i e value : Expr} {pos pos' tpos : Pos} {td ty tv : TE}
theorem pe_dget (hu : X.A.units + 1 < cLine) (ho : PE X o td) (hi : PE X i ty) (hs : NoSl i) : PE X (.Subscript o i pos) (tDGet td ty) := by
  intro pins s σ H Q I h
  refine subD_of PySem.F.slot_dict_getitem.lookup hs (thn (ho pins s σ H _ I h) fun u s1 ⟨x, H1, I1, rx, q1⟩ => thn (hi pins s1 σ H1 _ I1 q1) fun iv s2 ⟨y, H2, I2, ry, a, v, ex, g, q2⟩ => ?_)
  subst ex
  obtain rfl : u = Value.ref a := rx
  exact ⟨dict_typeIs I2 g, d_getItem hu I2 g ry fun w' s3 I3 rw' => ⟨v, H2, I3, rw', q2⟩⟩
theorem pc_dnotin (hu : X.A.units + 1 < cLine) (hi : PE X i ty) (ho : PE X o td) : PC X .NotIn i o (tDNotIn ty td) := by
  intro pins s σ H Q I h
  refine thn (hi pins s σ H _ I h) fun iv s1 ⟨y, H1, I1, ry, q1⟩ => thn (ho pins s1 σ H1 _ I1 q1) fun u s2 ⟨x, H2, I2, rx, a, ov, ex, g, q2⟩ => ?_
  subst ex
  obtain rfl : u = Value.ref a := rx
  exact d_notIn hu I2 g ry fun s3 I3 => ⟨.bl (!ov.isSome), H2, I3, rfl, q2⟩
theorem ps_dput (hu : X.A.units + 1 < cLine) (ho : PE X o td) (hi : PE X i ty) (hv : PE X value tv) (hs : swapsWith value (some (.Subscript o i pos')) pos.line X.env = pure false) :
    PS X (.Assign [.Subscript o i pos'] value pos) (sDPut td ty tv) := by
  intro pins s σ H D I h
  refine wpAny_Assign_Subscript (thn (hv pins s σ H _ I h) fun r s1 ⟨v, H1, I1, rv, q1⟩ => thn (ho pins s1 σ H1 _ I1 q1) fun u s2 ⟨x, H2, I2, rx, q2⟩ => thn (hi pins s2 σ H2 _ I2 q2) fun iv s3 ⟨y, H3, I3, ry, a, H4, ex, g, q3⟩ => ?_) hs
  subst ex
  obtain rfl : u = Value.ref a := rx
  exact d_setItem hu I3 g ry rv fun s4 I4 => ⟨σ, H4, I4, q3⟩
end


/-! ### displays -/
theorem dk_empty {P : Program} {w : World} {H : Hp} (h : Heap) (hb : sysModules < h.objs.size) : ObjOk P w H (h.push { cls := .type "dict", data := .dict #[] }) h.objs.size (.dK []) :=
  ⟨Nat.zero_le _, beq_eq_false_iff_ne.mpr (Ne.symm (Nat.ne_of_lt hb)), [], .nil, Heap.DictOf.new h⟩
/-- {}, to be a dict of the kind that is wanted -/
def tDNewK : TE := fun _ H Q => ∀ p, H p = none → Q (.ref p) (upd H p (.dK []))
def tDNewT : TE := fun _ H Q => ∀ p, H p = none → Q (.ref p) (upd H p (.dT []))
section
variable {X : Cx} {pos : Pos}
theorem pe_dnewK : PE X (.Dict [] [] pos) tDNewK := fun pins s σ H Q I h =>
  wpAny_Dict_empty ⟨.ref s.heap.objs.size, _, I.laid (a := s.heap.objs.size) (o := .dK []) (t' := s.toks) (fun _ _ q => Heap.get?_push_of_some _ q) (Nat.le_refl _) (dk_empty s.heap I.big), rfl, h _ (I.hok.fresh (Nat.le_refl _))⟩
end

/-- the pairs of a display, from the left -/
def tPairs : List (TE × TE) → St → Hp → (List (V × V) → Hp → Prop) → Prop
  | [], _, H, Q => Q [] H
  | (tk, tv) :: r, σ, H, Q => tk σ H fun x H1 => tv σ H1 fun y H2 => tPairs r σ H2 fun ps H3 => Q ((x, y) :: ps) H3
abbrev VV : List (V × V) → List (Value × Value) → Prop := Paired fun p q => RelV p.1 q.1 ∧ RelV p.2 q.2
def PPs (X : Cx) (pos : Pos) (keys : List (Option Expr)) (values : List Expr) (trs : List (TE × TE)) : Prop :=
  ∀ (pins : List (Addr × Obj)) (s : Shared) (σ : St) (H : Hp) (Q : List (V × V) → Hp → Prop), Inv X pins σ H s → tPairs trs σ H Q →
    wpAny (model X.prog X.w) X.A (evalPairs (pairTrees keys values X.env pos)) (fun vs s' => ∃ ps H', Inv X pins σ H' s' ∧ VV ps vs ∧ Q ps H') X.xe s
theorem pps_nil {X : Cx} {pos : Pos} : PPs X pos [] [] [] := fun pins s σ H Q I h => pairTrees_nil_walk ⟨[], H, I, .nil, h⟩
theorem pps_cons {X : Cx} {pos : Pos} {k v : Expr} {ks : List (Option Expr)} {vs : List Expr} {tk tv : TE} {trs : List (TE × TE)} (hk : PE X k tk) (hv : PE X v tv) (hr : PPs X pos ks vs trs) :
    PPs X pos (some k :: ks) (v :: vs) ((tk, tv) :: trs) := fun pins s σ H Q I h =>
  pairTrees_cons_walk (thn (hk pins s σ H _ I h) fun u s1 ⟨x, H1, I1, rx, q1⟩ => thn (hv pins s1 σ H1 _ I1 q1) fun w2 s2 ⟨y, H2, I2, ry, q2⟩ =>
    thn (hr pins s2 σ H2 _ I2 q2) fun ws s3 ⟨ps, H3, I3, rel, q3⟩ => ⟨(x, y) :: ps, H3, I3, .cons ⟨rx, ry⟩ rel, q3⟩)

def mergeK (kvs more : List (Key × V)) : List (Key × V) := more.foldl (fun acc kv => putK acc kv.1 kv.2) kvs
theorem KV.merge : ∀ {more : List (Key × V)} {rs : List (Key × Value)} {kvs : List (Key × V)} {vs : List (Key × Value)}, KV more rs → KV kvs vs → KV (mergeK kvs more) (merged vs rs) := by
  intro more rs kvs vs r
  unfold KV at r
  induction r generalizing kvs vs with
  | nil => intro q; exact q
  | @cons p q ps qs h t ih =>
    intro r0
    have e : KV (putK kvs p.1 p.2) (stored vs q.1 q.2) := by
      have := r0.put p.1 h.2
      rw [← h.1]; exact this
    exact ih e
theorem length_mergeK : ∀ (more kvs : List (Key × V)), (mergeK kvs more).length ≤ kvs.length + more.length
  | [], kvs => by show kvs.length ≤ kvs.length + 0; omega
  | p :: r, kvs => by
    have h1 := length_mergeK r (putK kvs p.1 p.2)
    have h2 := length_putK kvs p.1 p.2
    show (mergeK (putK kvs p.1 p.2) r).length ≤ _
    rw [List.length_cons]; omega
theorem carries_of {P : Program} {w : World} : ∀ {kvs : List (Key × V)} {ws : List (Value × Value)}, VV (kvs.map fun kv => (kV kv.1, kv.2)) ws → ∃ rs, Carries (mixKind P w) ws rs ∧ KV kvs rs
  | [], _, r => by rw [List.map_nil] at r; cases r; exact ⟨[], True.intro, .nil⟩
  | p :: kvs, _, r => by
    rw [List.map_cons] at r
    cases r with
    | @cons a b as bs h t =>
      obtain ⟨rs, c, q⟩ := carries_of (P := P) (w := w) t
      obtain ⟨b1, b2⟩ := b
      exact ⟨(p.1, b2) :: rs, ⟨kV_is h.1, rfl, c⟩, .cons ⟨rfl, h.2⟩ q⟩
/-- {k: v, ..} with keys ints and texts; the new dict stands empty while the pairs are made -/
def tDisp (trs : List (TE × TE)) : TE := fun σ H Q => ∀ p, H p = none → tPairs trs σ (upd H p (.dK [])) fun ps H2 => H2 p = some (.dK []) ∧ ∃ kvs : List (Key × V), ps = kvs.map (fun kv => (kV kv.1, kv.2)) ∧ kvs.length ≤ 15 ∧ Q (.ref p) (upd H2 p (.dK (mergeK [] kvs)))
theorem pe_disp {X : Cx} {pos : Pos} {keys : List (Option Expr)} {values : List Expr} {trs : List (TE × TE)} (h : PPs X pos keys values trs) (hall : keys.all (·.isSome) = true) (hl : keys.length = values.length) (h0 : keys ≠ [])
    (h15 : keys.length ≤ 15) : PE X (.Dict keys values pos) (tDisp trs) := by
  intro pins s σ H Q I q
  have hn := I.hok.fresh (Nat.le_refl s.heap.objs.size)
  have I1 := I.laid (a := s.heap.objs.size) (o := .dK []) (h' := s.heap.push { cls := .type "dict", data := .dict #[] }) (t' := s.toks) (fun _ _ q => Heap.get?_push_of_some _ q) (Nat.le_refl _) (dk_empty s.heap I.big)
  refine wpAny_Dict_walk (knd := mixKind X.prog X.w) hall hl h0 h15 (thn (h pins _ σ _ _ I1 (q _ hn)) fun ws s2 ⟨ps, H2, I2, rel, e, kvs, ep, lk, q2⟩ => ?_)
  subst ep
  obtain ⟨rs, c, rk⟩ := carries_of (P := X.prog) (w := X.w) rel
  obtain ⟨z, hd, vs0, r0, dd⟩ := dk_of I2.hok e
  cases r0
  refine ⟨rs, c, dd, fun h' dd' hs => ⟨.ref s.heap.objs.size, _, ?_, rfl, q2⟩⟩
  have hz : (mergeK [] kvs).length ≤ sizeLine := by
    have h1 := length_mergeK kvs []
    rw [List.length_nil] at h1
    rw [sizeLine_eq]; omega
  have he : ∃ q, h'.get? s.heap.objs.size = some q := let ⟨q, _, _, hq, _⟩ := dd'; ⟨q, hq⟩
  exact d_write I2 (by rw [e]; exact True.intro) hs he (dk_new hz hd (rk.merge .nil) dd')


/-! ### methods -/
/-- a method call o.m(e) of a built-in, with one argument: what must be seen of the text -/
structure M1 (X : Cx) (o : Expr) (m : Str) (apos : Pos) (e : Expr) (cpos : Pos) : Prop where
  base : attributeBase o m X.env (eval o X.env) = eval o X.env
  few : ((backTo cpos (starEach [e] X.env)).all (fun x => !x.1) && (backToKw cpos (keywordEach [] X.env)).all (fun x => x.1.isSome)
    && decide (([e] : List Expr).length + ([] : List Keyword).length + (if ([] : List Keyword).isEmpty then 0 else 1) < 30)) = true
  line : (apos.endLine == cpos.line) = true
  trees : backTo cpos (starEach [e] X.env) = [(false, eval e X.env)]
structure M2 (X : Cx) (o : Expr) (m : Str) (apos : Pos) (e f : Expr) (cpos : Pos) : Prop where
  base : attributeBase o m X.env (eval o X.env) = eval o X.env
  few : ((backTo cpos (starEach [e, f] X.env)).all (fun x => !x.1) && (backToKw cpos (keywordEach [] X.env)).all (fun x => x.1.isSome)
    && decide (([e, f] : List Expr).length + ([] : List Keyword).length + (if ([] : List Keyword).isEmpty then 0 else 1) < 30)) = true
  line : (apos.endLine == cpos.line) = true
  trees : backTo cpos (starEach [e, f] X.env) = [(false, eval e X.env), (false, eval f X.env)]

/-- a is a dict, whatever its keys -/
def IsD (H : Hp) (a : Addr) : Prop := (∃ kvs, Rd H a (.dK kvs)) ∨ ∃ kvs, Rd H a (.dT kvs)
theorem isD_at {X : Cx} {pins : List (Addr × Obj)} {σ : St} {H : Hp} {s : Shared} {a : Addr} (I : Inv X pins σ H s) (d : IsD H a) :
    s.TypeIs (.ref a) "dict" ∧ (∀ b, Value.ref a = .ref b → ∃ ob, s.heap.get? b = some ob ∧ ob.dict = none) ∧ (a == sysModules) = false := by
  rcases d with ⟨kvs, e⟩ | ⟨kvs, e⟩
  · obtain ⟨_, hd, vs, _, dd⟩ := dk_rd I.hok e
    refine ⟨dd.typeIs, fun b q => ?_, hd⟩
    cases q
    obtain ⟨ob, _, _, h1, h2, _⟩ := dd
    exact ⟨ob, h1, h2.2.1⟩
  · obtain ⟨_, hd, xs, _, dd⟩ := dt_rd I.hok e
    refine ⟨dd.typeIs, fun b q => ?_, hd⟩
    cases q
    obtain ⟨ob, _, _, h1, h2, _⟩ := dd
    exact ⟨ob, h1, h2.2.1⟩

section
variable {X : Cx} {pins : List (Addr × Obj)} {σ : St} {H : Hp} {s : Shared} {a : Addr} {y d : V} {u r : Value} {o : Option V} {A : Around} {E : Value → Shared → Prop}
/-- d.get(y, x) -/
theorem d_get2 {Q : Value → Shared → Prop} (hu : A.units + 1 < cLine) (I : Inv X pins σ H s) (g : DGet H a y o) (ry : RelV y u) (rd : RelV d r) (h : ∀ w' s', Inv X pins σ H s' → RelV (o.getD d) w' → Q w' s') :
    wpAny (model X.prog X.w) A (call (.builtin "dict.get") [.ref a, u, r]) Q E s := by
  rcases g with ⟨kvs, k, e, ey, l⟩ | ⟨kvs, k, b, e, ey, eb, l⟩
  · subst ey
    obtain ⟨z, hd, vs, rel, dd⟩ := dk_rd I.hok e
    refine call_meetsIn PySem.F.slot_dict_get dd.typeIs PySem.F.entry_dict_get (PySem.F.args_dict_get_3 _ _ _) (meets_dict_get_default (mixKind X.prog X.w) a (kV_is ry) hd r) ⟨_, dd.mapOf, h _ _ (I.tok _) ?_⟩
    rw [l]
    exact (rel.val k).getD rd
  · subst ey
    cases (show u = Value.ref b from ry)
    obtain ⟨z, hd, xs, rel, dd⟩ := dt_rd I.hok e
    refine call_meetsIn PySem.F.slot_dict_get dd.typeIs PySem.F.entry_dict_get (PySem.F.args_dict_get_3 _ _ _) (meetsH_dict_get_default (tupleKind (mixKind X.prog X.w)) a b hd r) ⟨tupleKind_room_in1 hu, k, xs, key_of I.hok eb, dd, h _ _ (I.tok _) ?_⟩
    rw [l]
    exact (rel.val k).getD rd
end

def tDGet1 (td ty : TE) : TE := fun σ H Q => td σ H fun x H1 => ∃ a, x = .ref a ∧ IsD H1 a ∧ ty σ H1 fun y H2 => ∃ o, DGet H2 a y o ∧ Q (o.getD .non) H2
def tDGet2 (td ty tx : TE) : TE := fun σ H Q => td σ H fun x H1 => ∃ a, x = .ref a ∧ IsD H1 a ∧ ty σ H1 fun y H2 => tx σ H2 fun z H3 => ∃ o, DGet H3 a y o ∧ Q (o.getD z) H3
/-- d.pop(k): there; d.pop(k, x): there or not -/
def tDPop1 (td ty : TE) : TE := fun σ H Q => td σ H fun x H1 => ∃ a, x = .ref a ∧ IsD H1 a ∧ ty σ H1 fun y H2 => ∃ kvs k v, H2 a = some (.dK kvs) ∧ y = kV k ∧ valV kvs k = some v ∧ Q v (upd H2 a (.dK (dropK kvs k)))
def tDPop2 (td ty tx : TE) : TE := fun σ H Q => td σ H fun x H1 => ∃ a, x = .ref a ∧ IsD H1 a ∧ ty σ H1 fun y H2 => tx σ H2 fun z H3 => ∃ kvs k, H3 a = some (.dK kvs) ∧ y = kV k ∧
  (∀ v, valV kvs k = some v → Q v (upd H3 a (.dK (dropK kvs k)))) ∧ (valV kvs k = none → Q z H3)
section
variable {X : Cx} {o e f : Expr} {apos cpos : Pos} {td ty tx : TE}
theorem pe_dget2 (hu : X.A.units + 1 < cLine) (ho : PE X o td) (he : PE X e ty) (hf : PE X f tx) (m : M2 X o "get" apos e f cpos) : PE X (.Call (.Attribute o "get" apos) [e, f] [] cpos) (tDGet2 td ty tx) := by
  intro pins s σ H Q I h
  refine wpAny_Call_method m.base m.few m.line PySem.F.plainAttrs_dict PySem.F.slot_dict_get PySem.F.type_dict_get (thn (ho pins s σ H _ I h) fun u s1 ⟨x, H1, I1, rx, a, ex, d, q1⟩ => ?_)
  subst ex
  obtain rfl : u = Value.ref a := rx
  obtain ⟨t1, t2, _⟩ := isD_at I1 d
  refine ⟨t1, t2, ?_⟩
  rw [m.trees]
  refine Calls.callWith_builtin rfl (Calls.evalArgs_plain (Calls.spliced_cons (thn (he pins s1 σ H1 _ I1 q1) fun iv s2 ⟨y, H2, I2, ry, q2⟩ =>
    Calls.spliced_cons (thn (hf pins s2 σ H2 _ I2 q2) fun fv s3 ⟨z, H3, I3, rz, ov, g, q3⟩ => Calls.spliced_nil ?_))))
  exact d_get2 hu I3 g ry rz fun w' s4 I4 rw' => ⟨_, H3, I4, rw', q3⟩
end

/-! ### dict(d): a copy -/
section
variable {X : Cx} {pins : List (Addr × Obj)} {σ : St} {H : Hp} {s : Shared} {a : Addr} {kvs : List (Key × V)} {A : Around} {E : Value → Shared → Prop}
end


section
variable {X : Cx} {pins : List (Addr × Obj)} {σ : St} {H : Hp} {s : Shared} {a : Addr} {y : V} {u : Value} {A : Around} {E : Value → Shared → Prop}
end
end L2

namespace L2
open PySem PySem.Spec PyProof.Rows
/-! ### a dict's pairs: keys that differ -/
section
variable {κ : Type} [DecidableEq κ]
end
end L2

set_option maxHeartbeats 4000000
/-! THE MATHEMATICS: turns of classes, walks over them. -/
namespace Kin
/-- each of 0 .. n - 1 stands just once -/
def IsTurn (n : Nat) (w : List Nat) : Prop := w.Perm (List.range n)
theorem IsTurn.len {n : Nat} {w : List Nat} (h : IsTurn n w) : w.length = n := by rw [List.Perm.length_eq h, List.length_range]
theorem IsTurn.mem {n : Nat} {w : List Nat} (h : IsTurn n w) {c : Nat} : c ∈ w ↔ c < n := by rw [List.Perm.mem_iff h, List.mem_range]
/-- the class to which the turn leads from c -/
def fw (w : List Nat) (c : Nat) : Nat := w.getD c 0
/-- the class from which it leads to c -/
def bw (w : List Nat) (c : Nat) : Nat := w.idxOf c
def inv (w : List Nat) : List Nat := (List.range w.length).map (bw w)
section
variable {n : Nat} {w : List Nat} (h : IsTurn n w) {c : Nat} (hc : c < n)
include h hc
theorem fw_get : w[c]? = some (fw w c) := by
  have hl : c < w.length := by rw [h.len]; exact hc
  unfold fw
  rw [List.getD_eq_getElem?_getD, List.getElem?_eq_getElem hl]
  rfl
theorem fw_lt : fw w c < n := h.mem.mp (List.mem_of_getElem? (fw_get h hc))
theorem bw_lt : bw w c < n := by
  have : bw w c < w.length := List.idxOf_lt_length_iff.mpr (h.mem.mpr hc)
  rw [h.len] at this; exact this
theorem fw_bw : fw w (bw w c) = c := by
  have hl : w.idxOf c < w.length := List.idxOf_lt_length_iff.mpr (h.mem.mpr hc)
  have e := List.getElem_idxOf hl
  unfold fw bw
  rw [List.getD_eq_getElem?_getD, List.getElem?_eq_getElem hl]
  simpa using e
theorem inv_get : (inv w)[c]? = some (bw w c) := by
  unfold inv
  rw [List.getElem?_map, h.len, List.getElem?_range hc]
  rfl
end
/-! letters by their codes: f 102, m 109, s 115, d 100, p 112, b 98, z 122; a sex: man = true -/
def IsL (l : Nat) : Prop := l = 102 ∨ l = 109 ∨ l = 115 ∨ l = 100 ∨ l = 112 ∨ l = 98 ∨ l = 122
instance (l : Nat) : Decidable (IsL l) := by unfold IsL; infer_instance
def stS (m : Bool) (l : Nat) : Bool := if l = 112 then !m else (l == 102 || l == 115 || l == 98)
def stC (w h : List Nat) (m : Bool) (c : Nat) (l : Nat) : Nat :=
  if l = 102 then bw h c else if l = 109 then fw w (bw h c) else if l = 112 then (if m then fw w c else bw w c)
  else if l = 115 ∨ l = 100 then fw h (if m then c else bw w c) else c
def step (w h : List Nat) (s : Bool × Nat) (l : Nat) : Bool × Nat := (stS s.1 l, stC w h s.1 s.2 l)
def led (w h : List Nat) (s : Bool × Nat) (ls : List Nat) : Bool × Nat := ls.foldl (step w h) s
def endS (m : Bool) (ls : List Nat) : Bool := ls.foldl stS m
theorem led_append (w h : List Nat) (s : Bool × Nat) (a b : List Nat) : led w h s (a ++ b) = led w h (led w h s a) b := List.foldl_append ..
section
variable {n : Nat} {w h : List Nat} (tw : IsTurn n w) (th : IsTurn n h)
include tw th
theorem stC_lt {m : Bool} {c l : Nat} (hc : c < n) : stC w h m c l < n := by
  unfold stC
  repeat' split
  · exact bw_lt th hc
  · exact fw_lt tw (bw_lt th hc)
  · exact fw_lt tw hc
  · exact bw_lt tw hc
  · exact fw_lt th hc
  · exact fw_lt th (bw_lt tw hc)
  · exact hc
theorem led_lt : ∀ (ls : List Nat) (s : Bool × Nat), s.2 < n → (led w h s ls).2 < n
  | [], _, hc => hc
  | l :: r, s, hc => led_lt r (step w h s l) (stC_lt tw th hc)
/-- the letter that leads back to a person of the sex ahead -/
def bkL (m : Bool) (l : Nat) : Nat :=
  if l = 102 ∨ l = 109 then (if m then 115 else 100) else if l = 115 ∨ l = 100 then (if m then 102 else 109) else if l = 112 then 112 else (if m then 98 else 122)
omit tw th in
/-- its way back -/
def back (m : Bool) : List Nat → List Nat
  | [] => []
  | l :: r => back (stS m l) r ++ [bkL m l]
omit tw th in
end
/-- the turn of a walk -/
def turnOf (n : Nat) (w h : List Nat) (m : Bool) (ls : List Nat) : List Nat := (List.range n).map fun c => (led w h (m, c) ls).2
theorem erase_perm : ∀ (l : List Nat) (k x : Nat), l[k]? = some x → (x :: l.eraseIdx k).Perm l
  | [], k, x, h => by simp at h
  | a :: r, 0, x, h => by simp at h; subst h; exact List.Perm.refl _
  | a :: r, k + 1, x, h => by
    have ih := erase_perm r k x (by simpa using h)
    rw [List.eraseIdx_cons_succ]
    exact (List.Perm.swap a x _).trans (List.Perm.cons a ih)
theorem perm_pick {rest out : List Nat} {n k x : Nat} (h : (rest ++ out).Perm (List.range n)) (hk : rest[k]? = some x) : (rest.eraseIdx k ++ (out ++ [x])).Perm (List.range n) := by
  refine List.Perm.trans ?_ h
  have e1 : (x :: rest.eraseIdx k).Perm rest := erase_perm rest k x hk
  have e2 : (rest.eraseIdx k ++ (out ++ [x])).Perm (rest.eraseIdx k ++ (x :: out)) := List.Perm.append_left _ (List.perm_append_singleton x out)
  refine e2.trans ?_
  have e3 : (rest.eraseIdx k ++ x :: out).Perm (x :: (rest.eraseIdx k ++ out)) := List.perm_middle
  refine e3.trans ?_
  exact List.Perm.append_right out e1
/-- a rising list of different numbers below n, all of them, is the list of them -/
theorem sorted_unique : ∀ {a b : List Int}, a.Perm b → a.Pairwise (· ≤ ·) → b.Pairwise (· ≤ ·) → a = b := fun {a b} h ha hb => by
  exact List.Perm.eq_of_pairwise (fun x y _ _ h1 h2 => Int.le_antisymm h1 h2) ha hb h
def intL (w : List Nat) : List Int := w.map fun (k : Nat) => (k : Int)
theorem intL_len (w : List Nat) : (intL w).length = w.length := by unfold intL; rw [List.length_map]
theorem range_sorted (n : Nat) : (intL (List.range n)).Pairwise (· ≤ ·) := by
  unfold intL
  refine List.pairwise_map.mpr ?_
  exact List.Pairwise.imp (fun {a b} (h : a < b) => by omega) List.pairwise_lt_range
end Kin

namespace Kin
theorem endS_cons (m : Bool) (a : Nat) (r : List Nat) : endS m (a :: r) = endS (stS m a) r := rfl
end Kin

/-! COMPREHENSIONS: [elt for x in iter], no tests, one clause; no exception leaves the block. -/
namespace L2
open PySem PySem.Spec PyProof.Rows

/-- the context of a comprehension's block -/
abbrev blk (X : Cx) (N : List Str) (scope : Scope) (cl : List (Str × Addr)) (s₀ : Shared) (H₀ : Hp) (ex : List Addr) (E : Value → Shared → Prop) : Cx :=
  { X with N := N, s₀ := s₀, H₀ := H₀, env := compEnvC scope cl s₀.heap.objs.size X.env, outer := X.stack, stack := X.stack, ex := ex, fn := fun _ => false, pn := [], xe := E }
/-- the outer names that the block reads: each with its slot outside -/
def FreeOk (X : Cx) (scope : Scope) (cl : List (Str × Addr)) : List (Str × Nat) → Prop
  | [] => True
  | p :: r => (X.N[p.2]? = some p.1 ∧ (X.env.kindOf p.1 = some .cell ∨ X.env.kindOf p.1 = some .free) ∧ ((relabel scope X.env).names.lookup p.1 = some .cell ∨ (relabel scope X.env).names.lookup p.1 = some .free) ∧ cl.lookup p.1 = X.env.cells.lookup p.1) ∧ FreeOk X scope cl r
structure CompOk (X : Cx) (x : Str) (fv : List (Str × Nat)) (scope : Scope) (cl : List (Str × Addr)) : Prop where
  clos : closureFor scope X.env = pure cl
  nocell : ∀ y ∈ scope.names, y.2 ≠ .cell
  kind : scope.kind = .function
  names : ∀ y ∈ scope.names, y.2 = .local → scope.names.lookup y.1 = some .local
  here : scope.names.lookup x = some .local
  nd : (x :: fv.map (·.1)).Nodup
  free : FreeOk X scope cl fv
  cls : cl.map (·.1) = (fv.map (·.1)).reverse
  fr : ((relabel scope X.env).names.filter fun p => p.2 == .cell || p.2 == .free).map (·.1) = fv.map (·.1)
section
variable {X : Cx} {x : Str} {fv : List (Str × Nat)} {scope : Scope} {cl : List (Str × Addr)}
theorem FreeOk.mem : ∀ {fv : List (Str × Nat)}, FreeOk X scope cl fv → ∀ y, y ∈ fv.map (·.1) → (X.env.kindOf y = some .cell ∨ X.env.kindOf y = some .free) ∧ cl.lookup y = X.env.cells.lookup y
  | [], _, y, h => by simp at h
  | p :: r, f, y, h => by
    rw [List.map_cons] at h
    rcases List.mem_cons.mp h with e | h
    · subst e; exact ⟨f.1.2.1, f.1.2.2.2⟩
    · exact FreeOk.mem f.2 y h
theorem FreeOk.at : ∀ {fv : List (Str × Nat)}, FreeOk X scope cl fv → ∀ (i : Nat) y, (fv.map (·.1))[i]? = some y → ∃ j, fv[i]? = some (y, j) ∧ X.N[j]? = some y ∧ (X.env.kindOf y = some .cell ∨ X.env.kindOf y = some .free) ∧
    ((relabel scope X.env).names.lookup y = some .cell ∨ (relabel scope X.env).names.lookup y = some .free) ∧ cl.lookup y = X.env.cells.lookup y
  | [], _, i, y, h => by simp at h
  | p :: r, f, 0, y, h => by
    simp at h; subst h
    exact ⟨p.2, rfl, f.1⟩
  | p :: r, f, i + 1, y, h => by
    obtain ⟨j, h1, h2⟩ := FreeOk.at f.2 i y (by simpa using h)
    exact ⟨j, by simpa using h1, h2⟩
theorem mem_of_lk : ∀ {l : List (Str × Addr)} {y : Str} {c : Addr}, l.lookup y = some c → y ∈ l.map (·.1) := fun {l y c} h => List.mem_map.mpr ⟨(y, c), PySem.mem_of_lookup h, rfl⟩
theorem CompOk.sub (ok : CompOk X x fv scope cl) {y : Str} {c : Addr} (h : cl.lookup y = some c) : X.env.cells.lookup y = some c := by
  have m : y ∈ fv.map (·.1) := by
    have := mem_of_lk h
    rw [ok.cls] at this
    exact List.mem_reverse.mp this
  rw [← (ok.free.mem y m).2]; exact h
theorem CompOk.has (ok : CompOk X x fv scope cl) (hx : X.Ok) {y : Str} (h : (relabel scope X.env).names.lookup y = some .cell ∨ (relabel scope X.env).names.lookup y = some .free) : ∃ c, cl.lookup y = some c := by
  have m : y ∈ fv.map (·.1) := by
    rw [← ok.fr]
    rcases h with h | h
    · exact List.mem_map.mpr ⟨(y, .cell), List.mem_filter.mpr ⟨PySem.mem_of_lookup h, rfl⟩, rfl⟩
    · exact List.mem_map.mpr ⟨(y, .free), List.mem_filter.mpr ⟨PySem.mem_of_lookup h, rfl⟩, rfl⟩
  obtain ⟨k, e⟩ := ok.free.mem y m
  rw [e]
  exact hx.has y k
variable {pins : List (Addr × Obj)} {σ : St} {H : Hp} {s : Shared} {fp : List Addr} {E : Value → Shared → Prop} {N : List Str}
theorem blk_ok (I : Inv X pins σ H s) (ok : CompOk X x fv scope cl) (hf : ∀ b ∈ fp, FpOk X pins H b) (ho : ∀ b ∈ fp, b < s.heap.objs.size) : (blk X N scope cl s H fp E).Ok where
  mod := I.ok.mod
  kind := ok.kind
  glob := I.ok.glob
  blt := I.ok.blt
  above := Nat.le_refl _
  inj := fun y z c h1 h2 => I.ok.inj y z c (ok.sub h1) (ok.sub h2)
  has := fun y hy => ok.has I.ok hy
  cab := fun _ _ h => by cases h
  hd := I.ok.hd
  frames := I.ok.frames
  stk := .inl rfl
  exf := fun b hb => ⟨Nat.ne_of_lt (ho b hb), fun y c h => (hf b hb).2.2.2.2.1 y c (ok.sub h)⟩
  bs := fun b o e => I.bs b o e
  bsz := Nat.le_trans I.ok.bsz I.sz
  noex := fun b o e hb => by
    rcases (hf b hb).2.2.2.1 with h4 | h4
    · exact I.ok.noex b o e h4
    · exact absurd (Nat.lt_of_lt_of_le (Heap.lt_size e) (Nat.le_trans I.ok.bsz h4)) (Nat.lt_irrefl _)
  exfs := fun b hb z => by
    rcases List.mem_cons.mp (I.stkSub b z) with e | e
    · exact (hf b hb).2.1 e
    · exact (hf b hb).2.2.1 e
  funs := I.stack
  frf := I.stkFree
/-- the block's names at its start -/
def blkS (fv : List (Str × Nat)) (σ : St) (o : Option V) : St := o :: fv.map fun p => (σ[p.2]?).join
theorem blkS_set (fv : List (Str × Nat)) (σ : St) (o : Option V) (v : V) : (blkS fv σ o).set 0 (some v) = blkS fv σ (some v) := rfl
theorem blk_start (I : Inv X pins σ H s) (ok : CompOk X x fv scope cl) (hf : ∀ b ∈ fp, FpOk X pins H b) (ho : ∀ b ∈ fp, b < s.heap.objs.size) {h₁ : Heap} {m₁ : Str → Option Value} (hn : h₁.Ns s.heap.objs.size m₁)
    (hk : ∀ b o, s.heap.get? b = some o → h₁.get? b = some o) (tk : Nat) : Inv (blk X (x :: fv.map (·.1)) scope cl s H fp E) [] (blkS fv σ none) H { s with heap := h₁, toks := tk } := by
  refine ⟨blk_ok I ok hf ho, rfl, I.bare, Un.kept hk, ⟨m₁, hn, fun i y v h1 h2 h3 => ?_⟩, fun y c h => ?_, I.hok.fresh (Nat.le_refl _), fun y c h => I.freeC y c (ok.sub h), fun p hp => ?_, I.hok.kept hk, ?_⟩
  · cases i with
    | zero =>
      have h2' : (none : Option V) = some v := by simpa [blkS] using h2
      cases h2'
    | succ i =>
      have h1' : (fv.map (·.1))[i]? = some y := by simpa using h1
      obtain ⟨j, e1, e2, k1, k2, e3⟩ := ok.free.at i y h1'
      have h2' : (σ[j]?).join = some v := by
        have q : (fv.map fun p => (σ[p.2]?).join)[i]? = some (some v) := by simpa [blkS] using h2
        rw [List.getElem?_map, e1] at q
        exact Option.some.inj q
      have h2'' : σ[j]? = some (some v) := by
        cases e : σ[j]? with
        | none => rw [e] at h2'; cases h2'
        | some o => rw [e] at h2'; exact congrArg some h2'
      obtain ⟨m, _, hl⟩ := I.loc
      obtain ⟨u, r, l⟩ := hl j y v e2 h2'' (by
        rcases k1 with k | k
        · exact .inr (.inl k)
        · exact .inr (.inr k))
      refine ⟨u, r, .inr ⟨k2, ?_⟩⟩
      rcases l with ⟨k, _⟩ | ⟨_, c, ec, o, z1, z2⟩
      · rcases k1 with k' | k' <;> (rw [k] at k'; cases k')
      · exact ⟨c, e3.trans ec, o, hk _ _ z1, z2⟩
  · obtain ⟨v, o, z1, z2⟩ := I.cell y c (ok.sub h)
    exact ⟨v, o, hk _ _ z1, z2⟩
  · exact absurd (show p ∈ ([] : List (Addr × Obj)) from hp) (by simp)
  · show (blkS fv σ none).length = _
    simp [blkS]
end
section
variable {prog : Program} {w : World} {A : Around} {R : Result → Shared → Prop} {s : Shared}
theorem codeAny_compLoop_L {elt target iter : Expr} {scope : Scope} {pos : Pos} {it acc : Value} {env : Env} (I : Nat → Shared → Prop)
    (turn : ∀ n s, I n s → wpAny (model prog w) A (pyNext it) (fun r s₁ => match r with
      | none => R (.ok .next) s₁
      | some v => wpAny (model prog w) A (letOwnedTupleGo target it v) (fun _ s₂ => wpAny (model prog w) A (assign target env v) (fun _ s₂ => wpAny (model prog w) A (eval elt env) (fun x s₃ =>
          wpAny (model prog w) A (call (.builtin "list.append") [acc, x]) (fun _ s₄ => ∃ m, m < n ∧ I m s₄) (notedBy (model prog w) A env fun e s' => R (.error e) s') s₃)
          (notedBy (model prog w) A env fun e s' => R (.error e) s') s₂) (notedBy (model prog w) A env fun e s' => R (.error e) s') s₂) (notedBy (model prog w) A env fun e s' => R (.error e) s') s₁) (notedBy (model prog w) A env fun e s' => R (.error e) s') s)
    (n : Nat) (h : I n s) :
    codeAny (model prog w) A (.compLoop (.ListComp elt [⟨target, iter, [], 0⟩] scope pos) 0 it acc env) R s := by
  refine codeAny_loop rfl I (fun n s hI => ?_) n h
  show wpAny _ _ ((compTurn (.ListComp elt [⟨target, iter, [], 0⟩] scope pos) 0 it acc env).onRaise (fun x => do noteFrame x env; theTreesLotGoes x)) _ _ s
  refine wpAny_noted ?_
  rw [compTurn_list1]
  refine wpAny_bind (wpAny_standAt (wpAny_bind (wpAny_mono (turn n s hI) (fun r s₁ h₁ => ?_) fun _ _ h' => h')))
  cases r with
  | none => exact wpAny_pure h₁
  | some v =>
    refine wpAny_bind (wpAny_mono h₁ (fun _ s₂ h₂ => ?_) fun _ _ h' => h')
    exact wpAny_bind (wpAny_mono h₂ (fun _ s₂ h₂ => wpAny_bind (wpAny_bind (wpAny_mono h₂ (fun x s₃ h₃ => wpAny_bind (wpAny_mono h₃
      (fun _ s₄ h₄ => wpAny_pure (wpAny_pure ⟨rfl, h₄⟩)) fun _ _ h' => h')) fun _ _ h' => h'))) fun _ _ h' => h')
end
/-- what is wanted of a comprehension over the iterator J: W the invariant by the turn, a measure, the items so far -/
abbrev TEB := Shared → Hp → List Addr → TE
def tCompJ (fv : List (Str × Nat)) (te : TEB) (σ : St) (J : It) (H1 : Hp) (Q : VK) : Prop :=
  ∀ D, H1 D = none → ∃ W : Nat → Nat → List V → Hp → Prop, (∃ m, W 0 m [] (upd H1 D (.lst []))) ∧
    ∀ i m ys H, W i m ys H → H D = some (.lst ys) ∧ ((J.stop i H ∧ Q (.ref D) H) ∨ (J.go i H ∧ ys.length < sizeLine ∧ ∀ x H', J.yld i H x H' →
      ∀ s₀ H₀ ex, te s₀ H₀ ex (blkS fv σ (some x)) H' fun v H2 => H2 D = some (.lst ys) ∧ ∃ m', m' < m ∧ W (i + 1) m' (ys ++ [v]) (upd H2 D (.lst (ys ++ [v])))))
def tComp (wi : TI) (fv : List (Str × Nat)) (te : TEB) : TE := fun σ H Q => wi σ H fun J H1 => tCompJ fv te σ J H1 Q
section
variable {X : Cx} {x : Str} {fv : List (Str × Nat)} {scope : Scope} {cl : List (Str × Addr)} {pins : List (Addr × Obj)} {σ : St} {px pos : Pos} {iter elt : Expr} {te : TEB}
abbrev NoX : Value → Shared → Prop := fun _ _ => False
theorem comp_block {s2 : Shared} {H2 : Hp} {it : Addr} {fp : List Addr} {tn : Nat → Heap → Prop} {J : It} (ok : CompOk X x fv scope cl) (hc : X.calm = true)
    (he : ∀ s₀ H₀ ex, PE (blk X (x :: fv.map (·.1)) scope cl s₀ H₀ ex NoX) elt (te s₀ H₀ ex)) (I2 : Inv X pins σ H2 s2) (T : Turn X.prog X.w X.K (.Name x px) J fp it tn) (st2 : tn 0 s2.heap) (f2 : ∀ b ∈ fp, FpOk X pins H2 b)
    {Qv : VK} (hQ : tCompJ fv te σ J H2 Qv) {RR : Value → Addr → Result → Shared → Prop}
    (hRR : ∀ D C m' H' s', Inv X pins σ H' s' → s'.heap.Ns C m' → FpOk X pins H' C → Qv (.ref D) H' → RR (.ref D) C (.ok .next) s') :
    wpAny (model X.prog X.w) X.A (newList []) (fun acc s₃ => wpAny (model X.prog X.w) X.A (newFunctionEnv scope X.env.globals cl [] X.env.qual none .none (some X.env)) (fun cenv s₄ =>
      codeAny (model X.prog X.w) X.A (.compStart (.ListComp elt [⟨.Name x px, iter, [], 0⟩] scope pos) 0 (.ref it) acc { cenv with scope := relabel scope X.env }) (RR acc cenv.locals) s₄) X.xe s₃) X.xe s2 := by
  refine wpAny_newObj_type (wpAny_newFunctionEnv ok.nocell (by intro y hy; simp at hy) (fun h₁ hns₁ hsb₁ => ?_) ok.kind)
  dsimp only at hns₁ hsb₁ ⊢
  have I3 : Inv X pins σ (upd H2 s2.heap.objs.size (.lst [])) { s2 with heap := s2.heap.push { cls := .type "list", dict := none, data := .seq ([] : List Value).toArray } } :=
    I2.laid (t' := s2.toks) (fun b o e => Heap.get?_push_of_some _ e) (Nat.le_refl _) ⟨Nat.zero_le _, [], 0, .nil, Heap.get?_push_size _ rfl⟩
  have hD : H2 s2.heap.objs.size = none := I2.hok.fresh (Nat.le_refl _)
  generalize hs3 : ({ s2 with heap := s2.heap.push { cls := .type "list", dict := none, data := .seq ([] : List Value).toArray } } : Shared) = s3 at I3
  have eh : s2.heap.push { cls := .type "list", dict := none, data := .seq ([] : List Value).toArray } = s3.heap := by rw [← hs3]
  rw [eh] at hns₁ hsb₁ ⊢
  have fl : ∀ b ∈ fp, b < s2.heap.objs.size := fun b hb => by
    obtain ⟨o, e, _⟩ := T.obj _ _ st2 b hb
    exact Heap.lt_size e
  have sz3 : s3.heap.objs.size = s2.heap.objs.size + 1 := by rw [← eh, Heap.size_push]
  have f3 : ∀ b ∈ fp, FpOk X pins (upd H2 s2.heap.objs.size (.lst [])) b := fun b hb => ⟨by rw [upd_ne (Nat.ne_of_lt (fl b hb))]; exact (f2 b hb).1, (f2 b hb).2⟩
  have fl3 : ∀ b ∈ fp, b < s3.heap.objs.size := fun b hb => by rw [sz3]; exact Nat.lt_succ_of_lt (fl b hb)
  have old3 : ∀ b o, s3.heap.get? b = some o → h₁.get? b = some o := fun b o e => hsb₁.extBut b o (Nat.ne_of_lt (Heap.lt_size e)) (Heap.get?_push_of_some _ e)
  have old2 : ∀ b o, s2.heap.get? b = some o → h₁.get? b = some o := fun b o e => old3 b o (by rw [← eh]; exact Heap.get?_push_of_some _ e)
  have st1 : tn 0 h₁ := T.keep _ _ _ st2 fun b _ o e => old2 b o e
  have IY := blk_start (E := NoX) I3 ok f3 fl3 hns₁ old3 (s3.toks + ([] : List (Str × Value)).length)
  obtain ⟨W, ⟨m0, w0⟩, turn⟩ := hQ s2.heap.objs.size hD
  have loop : ∀ s4 : Shared, s4 = { s3 with heap := h₁, toks := s3.toks + ([] : List (Str × Value)).length } →
      codeAny (model X.prog X.w) X.A (.compLoop (.ListComp elt [⟨.Name x px, iter, [], 0⟩] scope pos) 0 (.ref it) (.ref s2.heap.objs.size) (compEnvC scope cl s3.heap.objs.size X.env)) (RR (.ref s2.heap.objs.size) s3.heap.objs.size) s4 := by
    rintro s4 rfl
    have stat : ∀ {H' : Hp}, (∀ b ∈ fp, H' b = none) → ∀ b ∈ fp, FpOk (blk X (x :: fv.map (·.1)) scope cl s3 (upd H2 s2.heap.objs.size (.lst [])) fp NoX) [] H' b := fun hn b hb =>
      ⟨hn b hb, Nat.ne_of_lt (fl3 b hb), fun z => by
        rcases List.mem_cons.mp (I3.stkSub b z) with e | e
        · exact (f2 b hb).2.1 e
        · exact (f2 b hb).2.2.1 e, .inl hb, fun y c h => (f2 b hb).2.2.2.2.1 y c (ok.sub h), fun p hp => absurd (show p ∈ ([] : List (Addr × Obj)) from hp) (by simp)⟩
    refine codeAny_compLoop_L (fun n s' => ∃ i o H' ys, Inv (blk X (x :: fv.map (·.1)) scope cl s3 (upd H2 s2.heap.objs.size (.lst [])) fp NoX) [] (blkS fv σ o) H' s' ∧ tn i s'.heap ∧ (∀ b ∈ fp, H' b = none) ∧ W i n ys H') ?_ m0
      ⟨0, none, _, [], IY, st1, fun b hb => (f3 b hb).1, w0⟩
    rintro n s5 ⟨i, o, H5, ys, I5, st5, fr5, w5⟩
    obtain ⟨hD5, w5⟩ := turn i n ys H5 w5
    rcases w5 with ⟨stop, qn⟩ | ⟨go, hsz, step⟩
    · refine wpAny_mono (T.done (blk X (x :: fv.map (·.1)) scope cl s3 (upd H2 s2.heap.objs.size (.lst [])) fp NoX) rfl rfl rfl hc i [] s5 _ H5 NoX I5 (stat fr5) st5 stop) (fun r s6 ⟨hr, I6⟩ => ?_) fun _ _ z => z.elim
      subst hr
      obtain ⟨m', hm', _⟩ := I6.loc
      have I7 : Inv X pins σ H5 s6 := I3.call' (ch := fp) (by rw [I6.os]) I6.base I6.hok I6.bare fun b hb => ⟨(f2 b hb).2.2.2.1, (f2 b hb).2.1, (f2 b hb).2.2.2.2.1, (f2 b hb).2.2.2.2.2⟩
      exact hRR _ _ m' H5 s6 I7 hm' (I3.fpOk (Nat.le_refl _) I6.free) qn
    · refine wpAny_mono (T.item (blk X (x :: fv.map (·.1)) scope cl s3 (upd H2 s2.heap.objs.size (.lst [])) fp NoX) rfl rfl rfl hc i [] s5 _ H5 NoX I5 (stat fr5) st5 go) (fun r s6 ⟨u, hr, h6⟩ => ?_) fun _ _ z => z.elim
      subst hr
      refine wpAny_mono h6 (fun _ s7 ⟨v, H7, I7, r7, y7, st7, fr7⟩ => ?_) fun _ _ z => z.elim
      have I7' := I7.pinned (stat fr7) (T.obj _ _ st7)
      have hx : Loc (blk X (x :: fv.map (·.1)) scope cl s3 (upd H2 s2.heap.objs.size (.lst [])) fp NoX).env.scope x := .inl (lookup_relabel_local ok.here)
      refine wpAny_assign_Name (store_ok (X := blk X (x :: fv.map (·.1)) scope cl s3 (upd H2 s2.heap.objs.size (.lst [])) fp NoX) (i := 0) I7' ok.nd rfl hx r7 (fun s8 I8 => ?_) (.inr (lookup_relabel_local ok.here)))
      refine wpAny_mono (he s3 _ fp _ s8 (blkS fv σ (some v)) H7 _ I8 (step v H7 y7 _ _ _)) (fun u9 s9 ⟨v9, H9, I9, r9, hD9, m', hm', w9⟩ => ?_) fun _ _ z => z.elim
      refine wpAny_mono (mt_append (X := blk X (x :: fv.map (·.1)) scope cl s3 (upd H2 s2.heap.objs.size (.lst [])) fp NoX) _ s9 _ H9 (.ref s2.heap.objs.size) [v9] (.ref s2.heap.objs.size) [u9]
        (fun _ H10 => H10 = upd H9 s2.heap.objs.size (.lst (ys ++ [v9]))) I9 rfl (.cons r9 .nil) ⟨_, ys, v9, rfl, rfl, hD9, hsz, rfl⟩) (fun _ s10 ⟨_, H10, I10, _, e10⟩ => ?_) fun _ _ z => z.elim
      subst e10
      refine ⟨m', hm', i + 1, some v, _, ys ++ [v9], I10.unpinned, T.keep _ _ _ st7 fun b hb o e => (I10.pin (b, o) (List.mem_append_right _ (List.mem_append_right _ (mem_pinsAt hb e)))).1, fun b hb => ?_, w9⟩
      obtain ⟨o, e, d⟩ := T.obj _ _ st7 b hb
      exact (I10.pin (b, o) (List.mem_append_right _ (List.mem_append_right _ (mem_pinsAt hb e)))).2.1
  exact codeAny_compStart_list (loop _ (by rw [← hs3])) (T.self _ 0 _ _ _ st1 (loop _ (by rw [← hs3])))
/-- [elt for x in iter] as a value -/
theorem pe_comp {wi : TI} (ok : CompOk X x fv scope cl) (hc : X.calm = true) (hi : PI X (.Name x px) iter wi) (he : ∀ s₀ H₀ ex, PE (blk X (x :: fv.map (·.1)) scope cl s₀ H₀ ex NoX) elt (te s₀ H₀ ex))
    (hs : ∀ v, foldedSetIterable iter X.env v = pure v := by intro _; rfl) : PE X (.ListComp elt [⟨.Name x px, iter, [], 0⟩] scope pos) (tComp wi fv te) := by
  intro pins s σ H Q I h
  rw [eval_ListComp]
  refine wpAny_comprehension_free (use := none) rfl hs ok.clos ok.kind ok.names (thn (hi pins s σ H _ I h) fun v s1 h1 => thn h1 fun itv s2 h2 => ?_)
  obtain ⟨it, fp, tn, J, H2, rfl, I2, T, st2, f2, hQ⟩ := h2
  refine comp_block (RR := fun acc C => compPost (model X.prog X.w) X.A X.xe none (EP X pins σ Q) acc C) ok hc he I2 T st2 f2 hQ ?_
  intro D C m' H' s' I' hn fC q
  exact ⟨m', hn, fun h' hs' => ⟨.ref D, H', I'.turned (t' := s'.toks) (fun b o hb e => hs'.extBut b o hb e) fC.1 fC.2.1 fC.2.2.2.1 fC.2.2.2.2.1 fC.2.2.2.2.2, rfl, q⟩⟩
/-- y = [elt for x in iter], stored within the block -/
theorem ps_setComp {wi : TI} {i : Nat} {y : Str} {py spos : Pos} (hN : X.N.Nodup) (hiy : X.N[i]? = some y) (hy : Loc X.env.scope y) (ok : CompOk X x fv scope cl) (hc : X.calm = true) (hi : PI X (.Name x px) iter wi) (he : ∀ s₀ H₀ ex, PE (blk X (x :: fv.map (·.1)) scope cl s₀ H₀ ex NoX) elt (te s₀ H₀ ex))
    (hsw : swapsWith (.ListComp elt [⟨.Name x px, iter, [], 0⟩] scope pos) (some (.Name y py)) spos.line X.env = pure true := by rfl)
    (hs : ∀ v, foldedSetIterable iter X.env v = pure v := by intro _; rfl) (hf : X.fn y = true ∨ X.env.scope.names.lookup y = some .local := by first | exact .inl rfl | exact .inr rfl | assumption) :
    PS X (.Assign [.Name y py] (.ListComp elt [⟨.Name x px, iter, [], 0⟩] scope pos) spos) (tAsg (tComp wi fv te) (gName i)) := by
  intro pins s σ H D I h
  rw [exec_Assign_Name_used _ _ _ _ hsw]
  refine wpAny_bind (wpAny_standAt (wpAny_bind ?_))
  show wpAny _ _ (do let _ ← comprehension (.ListComp elt [⟨.Name x px, iter, [], 0⟩] scope pos) scope X.env _ (newList []) false (eval iter X.env) (some (assign (.Name y py) X.env))) _ _ s
  refine wpAny_bind (wpAny_mono (wpAny_comprehension_free (use := some (assign (.Name y py) X.env)) (Q := fun _ s' => SP X pins D .next s') rfl hs ok.clos ok.kind ok.names
    (thn (hi pins s σ H _ I h) fun v s1 h1 => thn h1 fun itv s2 h2 => ?_)) (fun _ s' hq => wpAny_pure (wpAny_pure hq)) fun _ _ e => e)
  obtain ⟨it, fp, tn, J, H2, rfl, I2, T, st2, f2, hQ⟩ := h2
  refine comp_block (RR := fun acc C => compPost (model X.prog X.w) X.A X.xe (some (assign (.Name y py) X.env)) (fun _ s' => SP X pins D .next s') acc C) ok hc he I2 T st2 f2 hQ ?_
  intro D' C m' H' s' I' hn fC q
  show wpAny _ _ (assign (.Name y py) X.env (.ref D')) _ _ _
  refine wpAny_assign_Name (store_ok2 (v := .ref D') I' hN hiy hy rfl (fun s'' I'' hab => ?_) hf)
  obtain ⟨a, hsb, ha⟩ := hab
  have haC : C ≠ a := by
    rcases ha with e | e
    · rw [e]; exact fC.2.1
    · exact (fC.2.2.2.2.1 y a e).symm
  exact ⟨m', hn.sameBut hsb haC, fun h' hs' => ⟨_, H', I''.turned (t' := s''.toks) (fun b o hb e => hs'.extBut b o hb e) fC.1 fC.2.1 fC.2.2.2.1 fC.2.2.2.2.1 fC.2.2.2.2.2, q⟩⟩
/-- over a range, when the elements only lay new things: the i-th element is f i -/
theorem comp_range {lo : Int} {n : Nat} {H1 : Hp} {Q : VK} (f : Nat → V) (hn : n ≤ sizeLine)
    (el : ∀ (i : Nat) (H' : Hp) (R : VK), i < n → Same H1 H' → (∀ H2, Same H' H2 → R (f i) H2) → ∀ s₀ H₀ ex, te s₀ H₀ ex (blkS fv σ (some (.int (lo + i)))) H' R)
    (fin : ∀ D H2, H1 D = none → Same H1 H2 → H2 D = some (.lst ((List.range n).map f)) → Q (.ref D) H2) : tCompJ fv te σ (Itr lo n) H1 Q := by
  intro D hD
  have sd : ∀ {H2 : Hp} {o : HO}, Same H1 H2 → Same H1 (upd H2 D o) := fun {H2 o} s b u e => by
    rw [upd_ne (ne_of_none e hD)]; exact s b u e
  refine ⟨fun i m ys H => m = n - i ∧ i ≤ n ∧ ys = (List.range i).map f ∧ Same H1 H ∧ H D = some (.lst ys), ⟨n, by simp, Nat.zero_le _, rfl, sd (Same.refl H1), upd_same⟩, ?_⟩
  rintro i m ys H ⟨rfl, hi, rfl, sm, hDi⟩
  refine ⟨hDi, ?_⟩
  by_cases hlt : i < n
  · refine .inr ⟨hlt, by simpa using Nat.lt_of_lt_of_le hlt hn, fun x H' y => ?_⟩
    obtain ⟨e, y⟩ := y
    subst e y
    refine fun s₀ H₀ ex => el i _ _ hlt sm (fun H2 s2 => ⟨s2 D _ hDi, n - (i + 1), by omega, rfl, hlt, ?_, sd (sm.trans s2), upd_same⟩) s₀ H₀ ex
    rw [List.range_succ, List.map_append]
    rfl
  · have e : i = n := by omega
    subst e
    exact .inl ⟨Nat.le_refl _, fin D H hD sm hDi⟩
end
end L2

/-! MORE BUILT-INS: sorted, ranges as objects, list(range), index, isinstance, == and != of flat lists and tuples, texts walked and cut, range downwards. -/
namespace L2
open PySem PySem.Spec PyProof.Rows

theorem vals_of_get : ∀ {xs : List V} {us : List Value}, xs.length = us.length → (∀ (i : Nat) x u, xs[i]? = some x → us[i]? = some u → RelV x u) → Vals xs us
  | [], [], _, _ => .nil
  | [], _ :: _, h, _ => by simp at h
  | _ :: _, [], h, _ => by simp at h
  | x :: xs, u :: us, h, f => .cons (f 0 x u rfl rfl) (vals_of_get (by simpa using h) fun i y v h1 h2 => f (i + 1) y v (by simpa using h1) (by simpa using h2))
section
variable {X : Cx} {pos p : Pos} {a b c : Expr} {ta : TA}
/-- sorted(xs) of fewer than 64 intL -/
theorem call_sorted : CallR X (.builtin "sorted") (fun xs H Q => ∃ (p : Addr) (ns : List Int), xs = [.ref p] ∧ SqL X.K H p (ns.map V.int) ∧ ns.length < 64 ∧ ∀ (l : Addr) (ns' : List Int), H l = none → ns'.Perm ns → ns'.Pairwise (· ≤ ·) → Q (.ref l) (upd H l (.lst (ns'.map V.int)))) := by
  intro pins s σ H xs us Q I r h
  obtain ⟨p, ns, rfl, hq, hl, q⟩ := h
  obtain ⟨u, rfl, rx⟩ := vals1 r
  cases rx
  obtain ⟨its, r', pl, hz⟩ := I.list hq
  have hi : IntsAre its ns := intsAre_of r'
  have hlen := r'.length
  rw [List.length_map] at hlen hz
  refine sorted_ints pl.isList hi (by omega) fun out ns' a1 a2 a3 => ?_
  obtain ⟨e, he⟩ := sortedAll_at s.heap its out
  have fresh : H (s.heap.objs.size + 1) = none := I.hok.fresh (Nat.le_succ _)
  refine ⟨.ref (s.heap.objs.size + 1), _, I.laid (t' := s.toks) (o := .lst (ns'.map V.int)) (fun b o e => sortedAll_old e) (Nat.le_succ _) ?_, rfl, q _ ns' fresh a2 a3⟩
  exact ⟨by rw [List.length_map, a2.length_eq]; exact hz, out.toList, e, vals_ints a1, by simpa using he⟩
/-- range(j) as an object -/
def tRng1 (ta : TA) : TE := fun σ H Q => ta σ H fun vs H1 => ∃ j : Int, vs = [.int j] ∧ ∀ p, H1 p = none → Q (.ref p) (upd H1 p (.rng 0 j))
theorem pe_rng1 (hg : Gl X "range") (hm : X.mg "range" = none) (ha : PA X [a] ta) (hs : starEach [a] X.env = [(false, eval a X.env)] := by rfl) : PE X (.Call (.Name "range" p) [a] [] pos) (tRng1 ta) := by
  intro pins s σ H Q I h
  refine Call_ (ld_blt I hg hm boot_range (PyProof.Rows.callWith_type1 (thn (ha pos pins s σ H _ I h) fun us s1 ⟨vs, H1, I1, r1, q1⟩ => ?_) hs rfl))
  obtain ⟨j, e, q⟩ := q1
  subst e
  cases r1 with
  | cons r rr =>
    cases rr
    obtain ⟨t, rfl⟩ := r
    exact call_range_1 ⟨.ref s1.heap.objs.size, _, I1.laid (o := .rng 0 j) (fun b o e => Heap.get?_push_of_some _ e) (Nat.le_refl _) ⟨_, _, _, Heap.get?_push_size _ rfl⟩, rfl, q _ (I1.hok.fresh (Nat.le_refl _))⟩
def rngV (lo hi : Int) : List V := (List.range (hi - lo).toNat).map fun i => V.int (lo + (i : Nat))
/-- list(range object) -/
theorem call_list_rng (hc : X.calm = true) : CallR X (.type "list") (fun xs H Q => ∃ p lo hi, xs = [.ref p] ∧ H p = some (.rng lo hi) ∧ -(2 ^ 62) ≤ lo ∧ lo < 2 ^ 62 ∧ -(2 ^ 62) ≤ hi ∧ hi < 2 ^ 62 ∧ (hi - lo).toNat ≤ 1000 ∧ ∀ l, H l = none → Q (.ref l) (upd H l (.lst (rngV lo hi)))) := by
  intro pins s σ H xs us Q I r h
  obtain ⟨p, lo, hi, rfl, hp, h1, h2, h3, h4, h5, q⟩ := h
  obtain ⟨u, rfl, rx⟩ := vals1 r
  cases rx
  obtain ⟨t, u, v, e⟩ := I.hok p _ hp
  have hn : Builtin.Range.rangeSize lo hi 1 = (((hi - lo).toNat : Nat) : Int) := by rw [rangeSize_one]; split <;> omega
  refine call_list_range (I.ok.hd hc) e (small_one h1 h2 h3 h4) hn (Nat.le_trans h5 (by decide)) fun h' tk acc' c' hk hS' hacc => ?_
  refine ⟨.ref s.heap.objs.size, _, I.laid (t' := tk) (o := .lst (rngV lo hi)) hk (Nat.le_refl _) ?_, rfl, q _ (I.hok.fresh (Nat.le_refl _))⟩
  have hlen : (rngV lo hi).length = (hi - lo).toNat := by unfold rngV; rw [List.length_map, List.length_range]
  refine ⟨by rw [hlen]; exact Nat.le_trans h5 (by decide), acc'.toList, c', vals_of_get (by rw [hlen, Array.length_toList]; exact hacc.1.symm) fun i x w e1 e2 => ?_, by simpa using hS'⟩
  obtain ⟨tk', ew⟩ := hacc.2 i w (by simpa using e2)
  have hi' : i < (hi - lo).toNat := by rw [← hlen]; exact (List.getElem?_eq_some_iff.mp e1).1
  have ex : x = V.int (lo + (i : Nat)) := by
    unfold rngV at e1
    rw [List.getElem?_map, List.getElem?_range hi'] at e1
    exact (Option.some.inj e1).symm
  subst ex
  exact ⟨tk', by rw [ew, Int.mul_one]⟩
/-- xs.index(k) of a list of intL, there -/
def rIndex (K : PySem.W.Frag) : V → List V → Hp → VK → Prop := fun x vs H Q => ∃ (l : Addr) (ns : List Int) (k : Int), x = .ref l ∧ vs = [.int k] ∧ SqL K H l (ns.map V.int) ∧ k ∈ ns ∧ Q (.int (ns.idxOf k : Nat)) H
theorem mt_index : MtR X "list.index" (rIndex X.K) := by
  intro pins s σ H x vs v us Q I rx rv h
  obtain ⟨l, ns, k, rfl, rfl, hq, hk, q⟩ := h
  cases rx
  obtain ⟨u, rfl, t, rfl⟩ := rv.one
  obtain ⟨its, r', pl, hz⟩ := I.list hq
  have hi : IntsAre its ns := intsAre_of r'
  have hlen := r'.length
  rw [List.length_map] at hlen hz
  have hn := line63
  have hl := pl.isList
  obtain ⟨⟨cls, dd, data, sl⟩, ho, hc, n, hd⟩ := id hl
  simp only at hc hd
  subst hc hd
  have hj : ns.idxOf k < ns.length := List.idxOf_lt_length_iff.mpr hk
  refine call_meets PySem.F.slot_list_index ⟨_, ho, rfl⟩ PySem.F.entry_list_index (PySem.F.args_list_index_2 _ _)
    (SeqAt.list_indexAt l its.toArray n dd sl (.int k t) (isInt k) (ns.idxOf k) (by rw [List.size_toArray, ← hlen]; exact hj) (by omega) ?_ ?_) ⟨ho, fun y hy => (eq_isInt k t hi y (by simpa using hy)).at _ _, ⟨.int (ns.idxOf k : Nat), H, I.tok _, ⟨_, rfl⟩, q⟩⟩
  · show isInt k its[ns.idxOf k] = true
    rw [isInt_at k hi _ (by omega) hj]
    simpa using List.getElem_idxOf hj
  · intro j hjs hlt
    show isInt k its[j] = false
    rw [isInt_at k hi j (by simpa using hjs) (by rw [hlen]; simpa using hjs)]
    exact ne_of_lt_idxOf hlt _
/-- isinstance(x, T), T a built-in type by its name -/
theorem call_isinst : CallR X (.builtin "isinstance") (fun xs H Q => ∃ x T t b, xs = [x, .ty T] ∧ TyOf X.K H x t ∧ PySem.W.kitOne X.K t (.type T) = some b ∧ Q (.bl b) H) := by
  intro pins s σ H xs us Q I r h
  obtain ⟨x, T, t, b, rfl, ty, e, q⟩ := h
  obtain ⟨u, w', rfl, r1, r2⟩ := vals2 r
  cases (show w' = Value.type T from r2)
  exact isinst_ok I r1 ty e fun tk => ⟨.bl b, H, I.tok tk, rfl, q⟩
end

/-! ### == of flat lists and tuples -/
def eqVs : List V → List V → Bool
  | [], [] => true
  | x :: xs, y :: ys => eqV x y && eqVs xs ys
  | _, _ => false
def eAt (xs ys : List V) (j : Nat) : Bool := match xs[j]?, ys[j]? with
  | some x, some y => eqV x y
  | _, _ => false
theorem eAt_all : ∀ {xs ys : List V}, xs.length = ys.length → (List.range xs.length).all (eAt xs ys) = eqVs xs ys
  | [], [], _ => rfl
  | [], _ :: _, h => by simp at h
  | _ :: _, [], h => by simp at h
  | x :: xs, y :: ys, h => by
    have h' : xs.length = ys.length := by simpa using h
    rw [List.length_cons, List.range_succ_eq_map, List.all_cons, List.all_map]
    show (eqV x y && (List.range xs.length).all (eAt xs ys)) = _
    rw [eAt_all h']
    rfl
theorem eqVs_len : ∀ {xs ys : List V}, xs.length ≠ ys.length → eqVs xs ys = false
  | [], [], h => absurd rfl h
  | [], _ :: _, _ => rfl
  | _ :: _, [], _ => rfl
  | x :: xs, y :: ys, h => by
    show (eqV x y && eqVs xs ys) = false
    rw [eqVs_len (xs := xs) (ys := ys) (by simpa using h), Bool.and_false]
theorem eqVs_intL : ∀ (a b : List Int), eqVs (a.map V.int) (b.map V.int) = decide (a = b)
  | [], [] => rfl
  | [], _ :: _ => rfl
  | _ :: _, [] => rfl
  | x :: a, y :: b => by
    show ((x == y) && eqVs (a.map V.int) (b.map V.int)) = _
    rw [eqVs_intL a b]
    by_cases h1 : x = y <;> by_cases h2 : a = b <;> simp [h1, h2]
theorem all_get {p : V → Bool} {xs : List V} {i : Nat} {x : V} (h : xs.all p = true) (e : xs[i]? = some x) : p x = true := List.all_eq_true.mp h x (List.mem_of_getElem? e)
theorem eAt_at {A : Around} {s : Shared} {xs ys : List V} {us ws : List Value} (r1 : Vals xs us) (r2 : Vals ys ws) (f1 : xs.all flatV = true) (f2 : ys.all flatV = true) (j : Nat) (h1 : j < us.toArray.size) (h2 : j < ws.toArray.size) :
    SeqAt.EqAt A s us.toArray[j] ws.toArray[j] (eAt xs ys j) := by
  have l1 := r1.length
  have l2 := r2.length
  rw [List.size_toArray] at h1 h2
  have e1 : xs[j]? = some xs[j] := by simp
  have e2 : ys[j]? = some ys[j] := by simp
  obtain ⟨u, eu, ru⟩ := r1.get e1
  obtain ⟨w, ew, rw'⟩ := r2.get e2
  have q1 : us.toArray[j] = u := by
    have : us[j] = u := by rw [List.getElem?_eq_getElem h1] at eu; exact Option.some.inj eu
    simpa using this
  have q2 : ws.toArray[j] = w := by
    have : ws[j] = w := by rw [List.getElem?_eq_getElem h2] at ew; exact Option.some.inj ew
    simpa using this
  have q3 : eAt xs ys j = eqV xs[j] ys[j] := by unfold eAt; rw [e1, e2]
  rw [q1, q2, q3]
  exact eqAt_V ru rw' (all_get f1 e1) (all_get f2 e2)
section
variable {X : Cx}
def rEqL (K : PySem.W.Frag) (neg : Bool) : R2 := fun x y H Q => ∃ a b xs ys, x = .ref a ∧ y = .ref b ∧ SqL K H a xs ∧ SqL K H b ys ∧ xs.all flatV = true ∧ ys.all flatV = true ∧ Q (.bl (if neg then !eqVs xs ys else eqVs xs ys)) H
def rEqT (K : PySem.W.Frag) (neg : Bool) : R2 := fun x y H Q => ∃ a b xs ys, x = .ref a ∧ y = .ref b ∧ SqT K H a xs ∧ SqT K H b ys ∧ xs.all flatV = true ∧ ys.all flatV = true ∧ Q (.bl (if neg then !eqVs xs ys else eqVs xs ys)) H
theorem op_eqL (hu : X.A.units < cLine) : OpR X (compareOp .Eq) (rEqL X.K false) := by
  intro pins s σ H x y v u Q I rx ry h
  obtain ⟨a, b, xs, ys, rfl, rfl, h1, h2, f1, f2, q⟩ := h
  cases rx
  cases ry
  obtain ⟨us, r1, p1, _⟩ := I.list h1
  obtain ⟨ws, r2, p2, _⟩ := I.list h2
  have l1 := r1.length
  have l2 := r2.length
  by_cases e : xs.length = ys.length
  · refine SeqAt.eq_listAt (e := eAt xs ys) p1.isList p2.isList (by simp only [List.size_toArray] <;> omega) hu (fun j k1 k2 => eAt_at r1 r2 f1 f2 j k1 k2) ⟨.bl _, H, I, ?_, q⟩
    rw [List.size_toArray, ← l1, eAt_all e]
    rfl
  · refine SeqAt.eq_list_lengthsAt p1.isList p2.isList (by simp only [List.size_toArray, bne_iff_ne, ne_eq] <;> omega) hu ⟨.bl _, H, I, ?_, q⟩
    rw [eqVs_len e]
    rfl
theorem op_neL (hu : X.A.units < cLine) : OpR X (compareOp .NotEq) (rEqL X.K true) := by
  intro pins s σ H x y v u Q I rx ry h
  obtain ⟨a, b, xs, ys, rfl, rfl, h1, h2, f1, f2, q⟩ := h
  cases rx
  cases ry
  obtain ⟨us, r1, p1, _⟩ := I.list h1
  obtain ⟨ws, r2, p2, _⟩ := I.list h2
  have l1 := r1.length
  have l2 := r2.length
  by_cases e : xs.length = ys.length
  · refine SeqAt.RcNeAt.lists (e := eAt xs ys) p1.isList p2.isList (by simp only [List.size_toArray] <;> omega) hu (fun j k1 k2 => eAt_at r1 r2 f1 f2 j k1 k2) _ _ _ _ ⟨.bl _, H, I, ?_, q⟩
    rw [List.size_toArray, ← l1, eAt_all e]
    rfl
  · refine SeqAt.RcNeAt.lists_lengths p1.isList p2.isList (by simp only [List.size_toArray, bne_iff_ne, ne_eq] <;> omega) hu _ _ _ _ ⟨.bl _, H, I, ?_, q⟩
    rw [eqVs_len e]
    rfl
theorem eAt_allT {xs ys : List V} : ((List.range (min xs.length ys.length)).all (eAt xs ys) && (xs.length == ys.length)) = eqVs xs ys := by
  by_cases e : xs.length = ys.length
  · rw [← e, Nat.min_self, eAt_all e, beq_self_eq_true, Bool.and_true]
  · rw [eqVs_len e, beq_false_of_ne e, Bool.and_false]
theorem op_eqT (hu : X.A.units < cLine) : OpR X (compareOp .Eq) (rEqT X.K false) := by
  intro pins s σ H x y v u Q I rx ry h
  obtain ⟨a, b, xs, ys, rfl, rfl, h1, h2, f1, f2, q⟩ := h
  cases rx
  cases ry
  obtain ⟨us, r1, p1, _⟩ := I.tuple h1
  obtain ⟨ws, r2, p2, _⟩ := I.tuple h2
  have l1 := r1.length
  have l2 := r2.length
  refine SeqAt.eq_tupleAt (e := eAt xs ys) p1 p2 hu (fun j k1 k2 => eAt_at r1 r2 f1 f2 j k1 k2) ⟨.bl _, H, I, ?_, q⟩
  rw [List.size_toArray, List.size_toArray, ← l1, ← l2, eAt_allT]
  rfl
end

/-! ### a text, sign by sign -/
def Its (x : Str) : It := ⟨fun i _ => i < x.cps.size, fun i H v H' => H' = H ∧ ∃ c, x.cps[i]? = some c ∧ v = .str ⟨#[c]⟩, fun i _ => i = x.cps.size⟩
theorem turn_strA {P : Program} {w : World} {K : PySem.W.Frag} {tg : Expr} (x : Str) (t : Tok) (it : Addr) : Turn P w K tg (Its x) [it] it (fun i h => h.IsStrIter it "str_ascii_iterator" x t i) where
  mem := by simp
  obj := fun i h st b hb => by
    have e : b = it := by simpa using hb
    subst e
    obtain ⟨o, ho, hc, hd⟩ := st
    exact ⟨o, ho, fun v z => by rw [hd] at z; cases z⟩
  keep := fun i h h' st k => let ⟨o, ho, r⟩ := st; ⟨o, k it (by simp) o ho, r⟩
  item := by
    intro X hP hw hK hc i pins s σ H E I hf st hg
    subst hP hw hK
    obtain ⟨f0, f1, f2, f3, f4, f5⟩ := hf it (by simp)
    refine (Walks.strAscii (prog := X.prog) (w := X.w) (I.ok.hd hc) it x t).item i s _ _ hg st fun v h' tk hv st' kk => ?_
    obtain ⟨c, u, hcx, rfl⟩ := hv
    have I1 : Inv X pins σ H { s with heap := h', toks := tk } := I.turned (fun b o hb e => kk b o (by simpa using hb) e) f0 f1 f3 f4 f5
    obtain ⟨o, ho, hcl, hd⟩ := id st'
    exact ⟨_, rfl, go_of (s := { s with heap := h', toks := tk }) (n := "str_ascii_iterator") ho hcl hd (by decide) ⟨.str ⟨#[c]⟩, H, I1, ⟨u, rfl⟩, ⟨rfl, c, hcx, rfl⟩, st', fun b hb => (hf b hb).1⟩⟩
  done := by
    intro X hP hw hK hc i pins s σ H E I hf st hg
    subst hP hw hK
    obtain ⟨f0, f1, f2, f3, f4, f5⟩ := hf it (by simp)
    have hg' : i = x.cps.size := hg
    subst hg'
    exact (Walks.strAscii (prog := X.prog) (w := X.w) (I.ok.hd hc) it x t).done s _ _ st fun h' tk kk => ⟨rfl, I.turned (t' := tk) (fun b o hb e => kk b o (by simpa using hb) e) f0 f1 f3 f4 f5⟩
  self := fun _ _ _ _ _ st h => wpAny_pyIter_striter_ascii st h
theorem turn_strW {P : Program} {w : World} {K : PySem.W.Frag} {tg : Expr} (x : Str) (t : Tok) (it : Addr) : Turn P w K tg (Its x) [it] it (fun i h => h.IsStrIter it "str_iterator" x t i) where
  mem := by simp
  obj := fun i h st b hb => by
    have e : b = it := by simpa using hb
    subst e
    obtain ⟨o, ho, hc, hd⟩ := st
    exact ⟨o, ho, fun v z => by rw [hd] at z; cases z⟩
  keep := fun i h h' st k => let ⟨o, ho, r⟩ := st; ⟨o, k it (by simp) o ho, r⟩
  item := by
    intro X hP hw hK hc i pins s σ H E I hf st hg
    subst hP hw hK
    obtain ⟨f0, f1, f2, f3, f4, f5⟩ := hf it (by simp)
    refine (Walks.strWide (prog := X.prog) (w := X.w) (I.ok.hd hc) it x t).item i s _ _ hg st fun v h' tk hv st' kk => ?_
    obtain ⟨c, u, hcx, rfl⟩ := hv
    have I1 : Inv X pins σ H { s with heap := h', toks := tk } := I.turned (fun b o hb e => kk b o (by simpa using hb) e) f0 f1 f3 f4 f5
    obtain ⟨o, ho, hcl, hd⟩ := id st'
    exact ⟨_, rfl, go_of (s := { s with heap := h', toks := tk }) (n := "str_iterator") ho hcl hd (by decide) ⟨.str ⟨#[c]⟩, H, I1, ⟨u, rfl⟩, ⟨rfl, c, hcx, rfl⟩, st', fun b hb => (hf b hb).1⟩⟩
  done := by
    intro X hP hw hK hc i pins s σ H E I hf st hg
    subst hP hw hK
    obtain ⟨f0, f1, f2, f3, f4, f5⟩ := hf it (by simp)
    have hg' : i = x.cps.size := hg
    subst hg'
    exact (Walks.strWide (prog := X.prog) (w := X.w) (I.ok.hd hc) it x t).done s _ _ st fun h' tk kk => ⟨rfl, I.turned (t' := tk) (fun b o hb e => kk b o (by simpa using hb) e) f0 f1 f3 f4 f5⟩
  self := fun _ _ _ _ _ st h => wpAny_pyIter_striter_wide st h
section
variable {X : Cx} {tg : Expr}
def iStr (tl : TE) : TI := fun σ H R => tl σ H fun v H1 => ∃ x, v = .str x ∧ R (Its x) H1
theorem pi_str {l : Expr} {tl : TE} (hl : PE X l tl) : PI X tg l (iStr tl) := by
  intro pins s σ H R I h
  refine thn (hl pins s σ H _ I h) fun v s1 ⟨x, H1, I1, r1, q1⟩ => ?_
  obtain ⟨z, e, q⟩ := q1
  subst e
  obtain ⟨t, rfl⟩ := r1
  have fp : ∀ b ∈ [s1.heap.objs.size], FpOk X pins H1 b := fun b hb => by
    have e : b = s1.heap.objs.size := by simpa using hb
    subst e
    exact I1.fpOk (Nat.le_refl _) (I1.hok.fresh (Nat.le_refl _))
  cases ha : z.cps.all (· < 128)
  · refine wpAny_pyIter_wide ha ?_
    exact ⟨s1.heap.objs.size, [s1.heap.objs.size], _, _, H1, rfl, I1.kept (t' := s1.toks) fun b o e => Heap.get?_push_of_some _ e, turn_strW z t _, ⟨_, Heap.get?_push_size _ rfl, rfl, rfl⟩, fp, q⟩
  · refine wpAny_pyIter_ascii ha ?_
    exact ⟨s1.heap.objs.size, [s1.heap.objs.size], _, _, H1, rfl, I1.kept (t' := s1.toks) fun b o e => Heap.get?_push_of_some _ e, turn_strA z t _, ⟨_, Heap.get?_push_size _ rfl, rfl, rfl⟩, fp, q⟩
end
/-- a text from its codes -/
abbrev txt (l : List Nat) : Str := ⟨l.toArray⟩
abbrev sgn (c : Nat) : V := .str ⟨#[c]⟩
theorem for_str {l : List Nat} {g : TG} {tb : TS} {D : Ends} {σ : St} {H : Hp} (Pv : Nat → St → Hp → Prop) (h0 : Pv 0 σ H)
    (hs : ∀ i c σ H, l[i]? = some c → Pv i σ H → g (sgn c) σ H fun σ2 H2 => tb { D with nx := Pv (i + 1), ct := Pv (i + 1), bk := D.nx } σ2 H2) (hd : ∀ σ H, Pv l.length σ H → D.nx σ H) :
    ∃ W : Nat → Nat → St → Hp → Prop, (∃ m, W 0 m σ H) ∧ ∀ i m σ H, W i m σ H →
      ((Its (txt l)).stop i H ∧ D.nx σ H) ∨ ((Its (txt l)).go i H ∧ ∃ N : St → Hp → Prop, (∀ σ' H', N σ' H' → ∃ m', m' < m ∧ W (i + 1) m' σ' H') ∧ ∀ x H', (Its (txt l)).yld i H x H' → g x σ H' fun σ2 H2 => tb { D with nx := N, ct := N, bk := D.nx } σ2 H2) := by
  refine ⟨fun i m σ H => m = l.length - i ∧ i ≤ l.length ∧ Pv i σ H, ⟨l.length, by simp, Nat.zero_le _, h0⟩, ?_⟩
  rintro i m σ H ⟨rfl, hi, p⟩
  by_cases hlt : i < l.length
  · refine .inr ⟨by show i < l.toArray.size; simpa using hlt, Pv (i + 1), fun σ' H' p' => ⟨l.length - (i + 1), by omega, rfl, hlt, p'⟩, fun x H' y => ?_⟩
    obtain ⟨e, c, hc, y⟩ := y
    subst e y
    exact hs i c σ _ (by simpa using hc) p
  · have e : i = l.length := by omega
    subst e
    exact .inl ⟨by show l.length = l.toArray.size; simp, hd σ H p⟩

/-! ### slices of a text -/
section
variable {X : Cx}
def rSlS : V → Option Int → Option Int → Hp → VK → Prop := fun x lo hi H Q => ∃ z, x = .str z ∧ z.length ≤ sizeLine ∧ Q (.str (Txt.slice z lo hi)) H
end

/-! ### range(a, b, -1) -/
def Itd (hi : Int) (n : Nat) : It := ⟨fun i _ => i < n, fun i H x H' => H' = H ∧ x = .int (hi - i), fun i _ => i = n⟩
section
variable {X : Cx} {tg : Expr}
def iRngD (ta : TA) : TI := fun σ H R => ta σ H fun vs H1 => ∃ i j : Int, vs = [.int i, .int j, .int (-1)] ∧ (-(2 ^ 62) ≤ i ∧ i < 2 ^ 62 ∧ -(2 ^ 62) ≤ j ∧ j < 2 ^ 62) ∧ R (Itd i (i - j).toNat) H1
end
end L2

namespace L2
open PySem PySem.Spec PyProof.Rows
end L2

/-! DEFS IN ONE WORD: what a call of a def, a method, a class wants, as one hypothesis. -/
namespace L2
open PySem PySem.Spec PyProof.Rows
/-- no exception meets the wish that is False -/
structure NoE (CX : CXT) : Prop where
  no : ∀ outer H s e s', CX outer H s E0 e s' → False
theorem NoE.pass {CX : CXT} (h : NoE CX) {X : Cx} : Passes CX X E0 := fun _ _ _ _ _ _ _ z => (h.no _ _ _ _ _ z).elim
section
variable {P : Program} {w : World} {K : PySem.W.Frag} {mg : Str → Option Value} {base : Heap} {CX : CXT}
/-- a def from whose body no exception comes -/
theorem Fun.okN {x qual : Str} {st : Stmt} {f : Addr} {fd : FuncData} {N ps : List Str} {k : Nat} {sp : Sp} (F : Fun K x qual st f fd) (S : FnScope N ps (defScope st)) (len : ∀ vs H Q E, sp vs H Q E → vs.length = ps.length)
    (hbody : ∀ (cdv : Value) (A : Around) (outer : List Env) (s : Shared) (H : Hp) (vs : List V) (Q : VK) (E : XK), Room k (A.deeper (envOfC qual (defScope st) s.heap.objs.size f cdv)) → sp vs H Q E →
      ∃ t, PSs (cxOf CX P w K mg base N qual (defScope st) f cdv A outer s H E).nox (defBody st) t ∧ t { nx := fun _ H' => Q .non H', rt := Q } (start N vs) H) : FnOk P w K mg base CX (k + 1) f fd ps sp := by
  obtain ⟨oc, od, kV, doc, pm, an, cdv, ct, osl, rfl, lk, hcd⟩ := F.ex
  refine fn_of lk hcd S len fun A outer s H vs Q E hr hsp => ?_
  obtain ⟨t, h, q⟩ := hbody cdv A outer s H vs Q E hr hsp
  exact ⟨t, h.nox, q⟩
structure Def (P : Program) (w : World) (K : PySem.W.Frag) (mg : Str → Option Value) (base : Heap) (CX : CXT) (x : Str) (k : Nat) (ps : List Str) (sp : Sp) : Prop where
  ex : ∃ (f : Addr) (fd : FuncData), mg x = some (.ref f) ∧ PySem.W.keepIn K (.ref f) = true ∧ Binds K fd ps [] ∧ FnOk P w K mg base CX k f fd ps sp
structure MDef (P : Program) (w : World) (K : PySem.W.Frag) (mg : Str → Option Value) (base : Heap) (CX : CXT) (C : Addr) (m : Str) (k : Nat) (ps : List Str) (sp : Sp) : Prop where
  ex : ∃ (f : Addr) (fd : FuncData), Meth K C m f ∧ Binds K fd ps [] ∧ FnOk P w K mg base CX k f fd ps sp
structure CDef (P : Program) (w : World) (K : PySem.W.Frag) (mg : Str → Option Value) (base : Heap) (CX : CXT) (x : Str) (C : Addr) (k : Nat) (ps : List Str) (sp : Sp) : Prop where
  ex : ∃ (f : Addr) (fd : FuncData), mg x = some (.ref C) ∧ Mk K C f ∧ Binds K fd ps [] ∧ FnOk P w K mg base CX k f fd ps sp
end
section
variable {X : Cx} {CX : CXT} {k j : Nat} {C : Addr} {ps : List Str} {sp : Sp} {x m : Str} {p pos apos : Pos} {e o : Expr} {es : List Expr} {ta : TE} {t : TA}
theorem pe_callD (D : Def X.prog X.w X.K X.mg X.base CX x k ps sp) (hE : NoE CX) (hr : Room j X.A) (hg : Gl X x) (ha : PA X (e :: es) t) (hj : k ≤ j := by decide) (hdb : (x == ("__debug__" : Str)) = false := by decide)
    (he : starEach (e :: es) X.env = (false, eval e X.env) :: starEach es X.env := by rfl) (hpl : (backTo pos (starEach es X.env)).any (·.1) = false := by rfl) : PE X (.Call (.Name x p) (e :: es) [] pos) (tCall sp [] E0 t) := by
  obtain ⟨f, fd, hm, hk, hb, F⟩ := D.ex
  exact pe_call F (hr.mono hj) hg hm hk hb .nil hE.pass ha hdb he hpl
theorem pe_methD {pl : Sem Bool} (he : PE X o ta) (c : Cls X.K C) (D : MDef X.prog X.w X.K X.mg X.base CX C m k ps sp) (hE : NoE CX) (hr : Room j X.A) (ha : PA X (e :: es) t) (hj : k ≤ j := by decide)
    (hst : starEach (e :: es) X.env = (false, eval e X.env) :: starEach es X.env := by rfl) (hpl : (backTo pos (starEach es X.env)).any (·.1) = false := by rfl)
    (ht : eval (.Call (.Attribute o m apos) (e :: es) [] pos) X.env = (do
      let ov ← eval o X.env
      standAt apos.atName
      let (f, first) ← holding [ov] (getMethod ov m pl)
      callWith pos f first (backTo pos (starEach (e :: es) X.env)) (backToKw pos (keywordEach [] X.env))) := by rfl) :
    PE X (.Call (.Attribute o m apos) (e :: es) [] pos) (tMeth C m sp [] E0 ta t) := by
  obtain ⟨f, fd, hm, hb, F⟩ := D.ex
  exact pe_meth he c hm F (hr.mono hj) hb .nil hE.pass ha hst hpl ht
theorem pe_makeD (D : CDef X.prog X.w X.K X.mg X.base CX x C k ps sp) (hE : NoE CX) (hr : Room j X.A) (hg : Gl X x) (ha : PA X (e :: es) t) (hj : k + 1 ≤ j := by decide) (hdb : (x == ("__debug__" : Str)) = false := by decide)
    (he : starEach (e :: es) X.env = (false, eval e X.env) :: starEach es X.env := by rfl) (hpl : (backTo pos (starEach es X.env)).any (·.1) = false := by rfl) : PE X (.Call (.Name x p) (e :: es) [] pos) (tMake C sp [] E0 t) := by
  obtain ⟨f, fd, hm, M, hb, F⟩ := D.ex
  exact pe_make M F (hr.mono hj) hg hm hb .nil hE.pass ha hdb he hpl
/-- a constant of the module -/
theorem pe_globE {v : V} (hg : Gl X x) (h : ∃ u, X.mg x = some u ∧ RelV v u) (hd : (x == ("__debug__" : Str)) = false := by decide) : PE X (.Name x pos) (tC v) := by
  obtain ⟨u, hm, r⟩ := h
  exact pe_glob hg hm r hd
end
theorem iteD {c A B : Prop} [Decidable c] (hc : c) (h : A) : if decide c = true then A else B := by rw [if_pos (decide_eq_true hc)]; exact h
theorem iteDn {c A B : Prop} [Decidable c] (hc : ¬ c) (h : B) : if decide c = true then A else B := by rw [if_neg (by rw [decide_eq_false hc]; exact Bool.false_ne_true)]; exact h
theorem iteD2 {c A B : Prop} [Decidable c] (h1 : c → A) (h2 : ¬ c → B) : if decide c = true then A else B := by
  by_cases hc : c
  · exact iteD hc (h1 hc)
  · exact iteDn hc (h2 hc)
theorem iteB {b : Bool} {A B : Prop} (h1 : b = true → A) (h2 : b = false → B) : if b = true then A else B := by
  cases b with
  | true => exact iteT (h1 rfl)
  | false => exact iteF (h2 rfl)
abbrev nat (k : Nat) : V := .int (k : Int)
def natL (w : List Nat) : List V := w.map fun (k : Nat) => V.int (k : Int)
theorem natL_len (w : List Nat) : (natL w).length = w.length := by unfold natL; rw [List.length_map]
theorem natL_get {w : List Nat} {i c : Nat} (h : w[i]? = some c) : (natL w)[i]? = some (nat c) := by unfold natL; rw [List.getElem?_map, h]; rfl
theorem natL_flat (w : List Nat) : (natL w).all flatV = true := by
  unfold natL
  rw [List.all_map]
  exact List.all_eq_true.mpr fun _ _ => rfl
theorem bt_int : bootBuiltins "int" = some (.type "int") := by decide +kernel
theorem bt_bool : bootBuiltins "bool" = some (.type "bool") := by decide +kernel
theorem bt_list : bootBuiltins "list" = some (.type "list") := by decide +kernel
theorem bt_sorted : bootBuiltins "sorted" = some (.builtin "sorted") := by decide +kernel
theorem bt_isinstance : bootBuiltins "isinstance" = some (.builtin "isinstance") := by decide +kernel
end L2
namespace L2
open PySem PySem.Spec PyProof.Rows
theorem comp_range0 {fv : List (Str × Nat)} {σ : St} {te : TEB} {n : Nat} {H1 : Hp} {Q : VK} (f : Nat → V) (hn : n ≤ sizeLine)
    (el : ∀ (i : Nat) (H' : Hp) (R : VK), i < n → Same H1 H' → (∀ H2, Same H' H2 → R (f i) H2) → ∀ s₀ H₀ ex, te s₀ H₀ ex (blkS fv σ (some (nat i))) H' R)
    (fin : ∀ D H2, H1 D = none → Same H1 H2 → H2 D = some (.lst ((List.range n).map f)) → Q (.ref D) H2) : tCompJ fv te σ (Itr 0 n) H1 Q :=
  comp_range f hn (fun i H' R hi sm kk => by rw [Int.zero_add]; exact el i H' R hi sm kk) fin
theorem for_range0 {n : Nat} {g : TG} {tb : TS} {D : Ends} {σ : St} {H : Hp} (Pv : Nat → St → Hp → Prop) (h0 : Pv 0 σ H)
    (hs : ∀ i σ H, i < n → Pv i σ H → g (nat i) σ H fun σ2 H2 => tb { D with nx := Pv (i + 1), ct := Pv (i + 1), bk := D.nx } σ2 H2) (hd : ∀ σ H, Pv n σ H → D.nx σ H) :
    ∃ W : Nat → Nat → St → Hp → Prop, (∃ m, W 0 m σ H) ∧ ∀ i m σ H, W i m σ H →
      ((Itr 0 n).stop i H ∧ D.nx σ H) ∨ ((Itr 0 n).go i H ∧ ∃ N : St → Hp → Prop, (∀ σ' H', N σ' H' → ∃ m', m' < m ∧ W (i + 1) m' σ' H') ∧ ∀ x H', (Itr 0 n).yld i H x H' → g x σ H' fun σ2 H2 => tb { D with nx := N, ct := N, bk := D.nx } σ2 H2) :=
  for_range Pv h0 (fun i σ H hi p => by rw [Int.zero_add]; exact hs i σ H hi p) hd
theorem same_upd {H H' : Hp} {t : Addr} {o : HO} (s : Same H H') (ht : H t = none) : Same H (upd H' t o) := fun b u e => by rw [upd_ne (ne_of_none e ht)]; exact s b u e
theorem same_new {H : Hp} {t : Addr} {o : HO} (ht : H t = none) : Same H (upd H t o) := same_upd (Same.refl H) ht
theorem sgn_iff {z : Str} {c : Nat} (hs : z = ⟨#[c]⟩) (l : Nat) : sgn l = V.str z ↔ l = c := by
  subst hs
  constructor
  · intro h
    injection h with h
    injection h with h
    simpa using h
  · rintro rfl; rfl
theorem txt_len (l : List Nat) : (txt l).length = l.length := by show l.toArray.size = _; simp
theorem kit_same {K : PySem.W.Frag} {T : String} : PySem.W.kitOne K (.type T) (.type T) = some true := by
  unfold PySem.W.kitOne
  rw [if_pos (beq_self_eq_true _)]
theorem kit_ib {K : PySem.W.Frag} : PySem.W.kitOne K (.type "int") (.type "bool") = some false := by
  unfold PySem.W.kitOne
  rw [if_neg (by decide)]
  unfold PySem.W.kitCls PySem.W.subIn
  with_unfolding_all rfl
end L2

/-! EXCEPTIONS: how one lies behind a call, a raise, a try with one clause. -/
namespace L2
open PySem PySem.Spec PyProof.Rows
/-- what B, the heap that stays while an exception flies, holds of h: all but the frames -/
structure UnB (fs : List Addr) (H H' : Hp) (h B : Heap) : Prop where
  keep : ∀ b o, h.get? b = some o → H b = none → b ∉ fs → B.get? b = some o
  free : ∀ b o, h.get? b = some o → H b = none → H' b = none
  there : ∀ b o, h.get? b = some o → b ∉ fs → ∃ o', B.get? b = some o'
  tups : ∀ b xs, H b = some (.tup xs) → H' b = some (.tup xs)
  frzs : ∀ b o u, H b = some (.frz o u) → H' b = some (.frz o u)
  tbls : ∀ b ps, H b = some (.tbl ps) → ∃ more, H' b = some (.tbl (ps ++ more))
def Slots (fs : List Addr) (h h' : Heap) : Prop := ∀ b ∈ fs, ∀ o, h.get? b = some o → (∀ vs, o.data ≠ .fields vs) → ∃ sl, h'.get? b = some { o with slots := sl }
theorem Slots.up {fs : List Addr} {h h1 h2 : Heap} (a : Slots fs h h1) (b : h1.UpToSlots h2) : Slots fs h h2 := fun c hc o e d => by
  obtain ⟨sl, e1⟩ := a c hc o e d
  obtain ⟨sl2, e2⟩ := b c _ e1 d
  exact ⟨sl2, e2⟩
theorem UnB.un {fs : List Addr} {H H' : Hp} {h B h' : Heap} (u : UnB fs H H' h B) (st : B.StaysIn h') (sl : Slots fs h h') (hfs : ∀ b ∈ fs, ∃ o, h.get? b = some o ∧ ∀ vs, o.data ≠ .fields vs) : Un fs [] H H' h h' where
  keep := fun b o e n hb _ => st b o (u.keep b o e n hb)
  slot := fun b o e n hb _ => by
    obtain ⟨o2, e2, d⟩ := hfs b hb
    rw [e] at e2; cases e2
    exact sl b hb o e d
  free := fun b o e n _ => u.free b o e n
  there := fun b o e _ => by
    by_cases hb : b ∈ fs
    · obtain ⟨o2, e2, d⟩ := hfs b hb
      rw [e] at e2; cases e2
      obtain ⟨s2, e3⟩ := sl b hb o e d
      exact ⟨_, e3⟩
    · obtain ⟨o2, e2⟩ := u.there b o e hb
      exact ⟨o2, st b o2 e2⟩
  tups := u.tups
  frzs := u.frzs
  tbls := u.tbls
/-- an exception at a, of the class cls, flies to the frames of outer; s, H ahead of the call, H' the abstract heap now -/
structure Fly (P : Program) (w : World) (outer : List Env) (H : Hp) (s : Shared) (a : Addr) (cls : Value) (H' : Hp) (s' : Shared) : Prop where
  ex : ∃ B a0, UnB (frs outer) H H' s.heap B ∧ HOk P w H' B ∧ Heap.FlyingW B outer a cls a0 s'.heap
  os : s'.os = s.os
  bare : AllBare s'.gens
  slot : Slots (frs outer) s.heap s'.heap
def CXR (P : Program) (w : World) : CXT := fun outer H s E e s' => ∃ a cls H', e = .ref a ∧ Fly P w outer H s a cls H' s' ∧ E cls none H'
theorem noER {P : Program} {w : World} : NoE (CXR P w) := ⟨fun _ _ _ _ _ ⟨_, _, _, _, _, z⟩ => z⟩
/-- an exception of a callee, one made here, reach what is wanted -/
structure Exits (CX : CXT) (X : Cx) (E : XK) : Prop where
  pass : Passes CX X E
  made : ∀ (pins : List (Addr × Obj)) (σ : St) (H : Hp) (s : Shared) (h' : Heap) (e : Addr) (cls : Value) (vs : List Value), Inv X pins σ H s → Heap.MadeExcOf s.heap h' e cls vs → E cls none H → X.xe (.ref e) { s with heap := h' }
section
variable {P : Program} {w : World} {K : PySem.W.Frag} {mg : Str → Option Value} {base : Heap} {N : List Str} {qual : Str} {scope : Scope} {f : Addr} {cd : Value} {A : Around} {outer : List Env} {s0 : Shared} {H0 : Hp} {E : XK}
theorem frs_cons {env : Env} {L : Addr} {l : List Env} (h : env.frame = some L) : frs (env :: l) = L :: frs l := by unfold frs; rw [List.filterMap_cons, h]
theorem frs_frame {l : List Env} : ∀ env ∈ l, ∀ b, env.frame = some b → b ∈ frs l := fun env he b hb => List.mem_filterMap.mpr ⟨env, he, hb⟩
section
variable {CX : CXT} {pins : List (Addr × Obj)} {σ : St} {H H' : Hp} {s : Shared} {B : Heap}
theorem unb_out (I : Inv (cxOf CX P w K mg base N qual scope f cd A outer s0 H0 E) pins σ H s) (U : UnB (frs (envOfC qual scope s0.heap.objs.size f cd :: outer)) H H' s.heap B) : UnB (frs outer) H0 H' s0.heap B := by
  have ub := I.base
  have nex : ∀ b : Addr, b ∉ (cxOf CX P w K mg base N qual scope f cd A outer s0 H0 E).ex := fun b z => by cases z
  have fr : frs (envOfC qual scope s0.heap.objs.size f cd :: outer) = s0.heap.objs.size :: frs outer := frs_cons rfl
  have nl : ∀ b o, s0.heap.get? b = some o → b ∉ frs outer → b ∉ frs (envOfC qual scope s0.heap.objs.size f cd :: outer) := fun b o e hb z => by
    rw [fr] at z
    rcases List.mem_cons.mp z with z | z
    · exact Nat.ne_of_lt (Heap.lt_size e) z
    · exact hb z
  refine ⟨fun b o e n hb => ?_, fun b o e n => ?_, fun b o e hb => ?_, fun b xs e => U.tups b xs (ub.tups b xs e), fun b o u e => U.frzs b o u (ub.frzs b o u e), fun b ps e => ?_⟩
  · exact U.keep b o (ub.keep b o e n hb (nex b)) (ub.free b o e n (nex b)) (nl b o e hb)
  · obtain ⟨o2, e2⟩ := ub.there b o e (nex b)
    exact U.free b o2 e2 (ub.free b o e n (nex b))
  · obtain ⟨o2, e2⟩ := ub.there b o e (nex b)
    exact U.there b o2 e2 (nl b o e hb)
  · obtain ⟨m1, e1⟩ := ub.tbls b ps e
    obtain ⟨m2, e2⟩ := U.tbls b _ e1
    exact ⟨m1 ++ m2, by rw [e2, Array.append_assoc]⟩
theorem slots_out (I : Inv (cxOf CX P w K mg base N qual scope f cd A outer s0 H0 E) pins σ H s) {h' : Heap} (S : Slots (frs (envOfC qual scope s0.heap.objs.size f cd :: outer)) s.heap h') : Slots (frs outer) s0.heap h' := fun b hb o e d => by
  have nex : b ∉ (cxOf CX P w K mg base N qual scope f cd A outer s0 H0 E).ex := fun z => by cases z
  obtain ⟨sl, e1⟩ := I.base.slot b o e (I.ok.frf b hb) hb nex
  obtain ⟨sl2, e2⟩ := S b (by rw [frs_cons (L := s0.heap.objs.size) rfl]; exact List.mem_cons_of_mem _ hb) _ e1 d
  exact ⟨sl2, e2⟩
end
theorem exitsR : Exits (CXR P w) (cxOf (CXR P w) P w K mg base N qual scope f cd A outer s0 H0 E) E where
  pass := by
    rintro pins σ H s e s' I ⟨a, cls, H', rfl, F, hE⟩
    obtain ⟨B, a0, U, ok, fl⟩ := F.ex
    refine wpAny_leaves_onW I.ok.frames rfl fl fun h2 fl2 up => ⟨a, cls, H', rfl, ⟨⟨B, a0, unb_out I U, ok, fl2⟩, F.os.trans I.os, F.bare, slots_out I (F.slot.up up)⟩, hE⟩
  made := by
    intro pins σ H s h' e cls vs I hm hE
    have hst := I.stack
    have nf : ∀ b u, H b = some u → b ∉ frs (envOfC qual scope s0.heap.objs.size f cd :: outer) := fun b u hb z => by
      have := I.stkFree b z
      rw [hb] at this; cases this
    have ok : HOk P w H (PySem.W.hideAll s.heap (frs (envOfC qual scope s0.heap.objs.size f cd :: outer))) := fun b u hb =>
      (I.hok b u hb).stay (fun c v hc q => PySem.W.hideAll_get _ q (by
        rcases hc with rfl | hc
        · exact nf _ _ hb
        · exact nf _ _ hc)) (fun _ q => q) fun _ _ q => q
    have U : UnB (frs (envOfC qual scope s0.heap.objs.size f cd :: outer)) H H s.heap (PySem.W.hideAll s.heap (frs (envOfC qual scope s0.heap.objs.size f cd :: outer))) :=
      ⟨fun b o q _ hb => PySem.W.hideAll_get _ q hb, fun _ _ _ n => n, fun b o q hb => ⟨o, PySem.W.hideAll_get _ q hb⟩, fun _ _ q => q, fun _ _ _ q => q, fun _ ps q => ⟨#[], by rw [q]; simp⟩⟩
    refine wpAny_leaves_madeW (h := s.heap) I.ok.frames rfl (fun b o q => PySem.W.of_hideAll _ q) (PySem.W.funFrames_hide hst frs_frame) hm fun h2 t fl tp tn up => ?_
    refine ⟨e, cls, H, rfl, ⟨⟨_, _, unb_out I U, ok, fl⟩, I.os, I.bare, slots_out I fun b hb o q d => ?_⟩, hE⟩
    obtain ⟨sl, e2⟩ := up b o (hm.keeps b o q) d
    exact ⟨sl, e2⟩
end
end L2

namespace L2
open PySem PySem.Spec PyProof.Rows
section
variable {X : Cx} {CX : CXT} {E : XK} {x : Str} {C : Addr} {j : Nat} {p pos cpos np : Pos} {e : Expr} {es : List Expr} {t : TA} {te : TE}
/-! ### raise C(e, ..) -/
def tRaise (C : Addr) (E : XK) (t : TA) : TS := fun _ σ H => t σ H fun vs H1 => vs.length ≤ sizeLine ∧ E (.ref C) none H1
theorem ps_raise {bm : List Value} {B newId initId : String} (hx : Exits CX X E) (O : OwnCls x C bm newId X.mg X.base) (FB : ExcBaseFacts B newId initId bm) (hr : Room j X.A) (hg : Gl X x) (ha : PA X (e :: es) t)
    (hdb : (x == ("__debug__" : Str)) = false := by decide) (he : starEach (e :: es) X.env = (false, eval e X.env) :: starEach es X.env := by rfl) (hpl : (backTo cpos (starEach es X.env)).any (·.1) = false := by rfl) :
    PS X (.Raise (some (.Call (.Name x np) (e :: es) [] cpos)) none pos) (tRaise C E t) := by
  intro pins s σ H D I h
  obtain ⟨tl, ns, nm, qn, bs, hdct, sn, sub, ab, col, dd, k0, k1, k2, k3, k5, mN, hC, hN, hni, T⟩ := O.obj
  have pl : (backTo cpos (starEach (e :: es) X.env)).any (·.1) = false := by
    rw [he]
    show (false || (backTo cpos (starEach es X.env)).any (·.1)) = false
    rw [hpl]; rfl
  refine wpAny_Raise_call_subT (nm := nm) (q := qn) (N := ns) (bs := bs) (bm := tl) (hdct := hdct) (sn := sn) (sub := sub) (ab := ab) (col := col) (dd := dd) (k0 := k0) (k1 := k1) (k2 := k2) (k3 := k3) (k5 := k5) FB (mN := mN) (T.hasType FB.hasBase) hr.hd pl hni
    (ld_glob I hg O.bound ⟨rfl, ?_⟩ hdb)
  have go := ha cpos pins s σ H _ I h
  rw [he] at go ⊢
  exact Calls.evalArgs_plain (thn go fun us s2 ⟨vs, H1, I1, r, z, q⟩ => ⟨rfl, by rw [← r.length]; exact z, I1.bk _ _ hC, hN.keeps I1.bk, T.keeps I1.bk, fun h' a hm => hx.made pins σ H1 s2 h' a _ _ I1 hm q⟩)
/-! ### f-strings, whose words nobody asks; n: the text by now has at most n signs -/
abbrev TJ := St → Hp → Nat → (Hp → Prop) → Prop
def PJ (X : Cx) (es : List Expr) (t : TJ) : Prop :=
  ∀ (pins : List (Addr × Obj)) (s : Shared) (σ : St) (H : Hp) (acc : Str) (n : Nat) (R : Hp → Prop), Inv X pins σ H s → acc.length ≤ n → t σ H n R →
    Joins (model X.prog X.w) X.A X.xe (evalEach es X.env) acc (fun out s1 => out.length ≤ sizeLine ∧ ∃ H1, Inv X pins σ H1 s1 ∧ R H1) s
def tjNil : TJ := fun _ H n R => n ≤ sizeLine ∧ R H
theorem pj_nil : PJ X [] tjNil := fun _ s σ H acc n R I hl h => ⟨Nat.le_trans hl h.1, H, I, h.2⟩
/-- a written part; an int; a text; the repr of a text -/
def tjC (m : Nat) (tj : TJ) : TJ := fun σ H n R => n + m ≤ sizeLine ∧ tj σ H (n + m) R
def tjI (te : TE) (tj : TJ) : TJ := fun σ H n R => te σ H fun x H1 => ∃ i : Int, x = .int i ∧ i.natAbs.log2 < 1920 ∧ n + 1921 ≤ sizeLine ∧ tj σ H1 (n + 1921) R
def tjS (te : TE) (tj : TJ) : TJ := fun σ H n R => te σ H fun x H1 => ∃ y : Str, x = .str y ∧ y.length ≤ 1000 ∧ n + 1000 ≤ sizeLine ∧ tj σ H1 (n + 1000) R
def tjR (te : TE) (tj : TJ) : TJ := fun σ H n R => te σ H fun x H1 => ∃ y : Str, x = .str y ∧ y.length ≤ 1000 ∧ (∀ c ∈ y.cps.toList, c < 16 ^ 8) ∧ n + 10002 ≤ sizeLine ∧ tj σ H1 (n + 10002) R
section
variable {tj : TJ}
/-- a part is told: the rest goes on -/
theorem pj_on (hr : PJ X es tj) {pins : List (Addr × Obj)} {s : Shared} {σ : St} {H : Hp} {acc y : Str} {n m : Nat} {R : Hp → Prop} {tk : Tok} (I : Inv X pins σ H s) (hl : acc.length ≤ n) (hy : y.length ≤ m) (hz : n + m ≤ sizeLine) (q : tj σ H (n + m) R) :
    ∃ y' t, Value.str y tk = .str y' t ∧ (acc ++ y').length ≤ sizeLine ∧ Joins (model X.prog X.w) X.A X.xe (evalEach es X.env) (acc ++ y') (fun out s1 => out.length ≤ sizeLine ∧ ∃ H1, Inv X pins σ H1 s1 ∧ R H1) s := by
  have el : (acc ++ y).length = acc.length + y.length := strLen_append ..
  exact ⟨y, tk, rfl, by rw [el]; omega, hr pins s σ H (acc ++ y) (n + m) R I (by rw [el]; omega) q⟩
theorem pj_cst {x : Str} {kk} (hr : PJ X es tj) (hx : x.length ≤ 1000 := by decide +kernel) (hs : evalEach (.Constant (.str x) kk pos :: es) X.env = eval (.Constant (.str x) kk pos) X.env :: evalEach es X.env := by rfl) : PJ X (.Constant (.str x) kk pos :: es) (tjC 1000 tj) := by
  intro pins s σ H acc n R I hl hq
  rw [hs]
  exact Calls.Constant_str (pj_on hr (I.tok _) hl hx hq.1 hq.2)
theorem pj_int (h : PE X e te) (hr : PJ X es tj) (hs : evalEach (.FormattedValue e (-1) none pos :: es) X.env = eval (.FormattedValue e (-1) none pos) X.env :: evalEach es X.env := by rfl) : PJ X (.FormattedValue e (-1) none pos :: es) (tjI te tj) := by
  intro pins s σ H acc n R I hl hq
  rw [hs]
  refine wpAny_FormattedValue_plain (thn (h pins s σ H _ I hq) fun u s1 ⟨x, H1, I1, r, i, ex, hb, hz, k⟩ => ?_)
  subst ex
  obtain ⟨tk, rfl⟩ := r
  exact wpAny_formatField_int hb (pj_on hr (I1.tok _) hl (int_text_len_1921 hb) hz k)
theorem pj_rep (h : PE X e te) (hr : PJ X es tj) (hs : evalEach (.FormattedValue e 114 none pos :: es) X.env = eval (.FormattedValue e 114 none pos) X.env :: evalEach es X.env := by rfl) : PJ X (.FormattedValue e 114 none pos :: es) (tjR te tj) := by
  intro pins s σ H acc n R I hl hq
  rw [hs]
  refine wpAny_FormattedValue_repr (thn (h pins s σ H _ I hq) fun u s1 ⟨x, H1, I1, r, y, ex, hb, hc, hz, k⟩ => ?_)
  subst ex
  obtain ⟨tk, rfl⟩ := r
  have len := StrLaws.reprText_len y hc
  have big : 2000000 ≤ sizeLine := by decide
  have fit : (reprText y).length ≤ sizeLine := by omega
  exact pyReprObj_str (formatField_str (fun t' tk => pj_on hr (I1.tok _) hl (by omega) hz k) fit) fit
end
def tJoin (tj : TJ) : TE := fun σ H Q => tj σ H 0 fun H1 => ∀ y, Q (.str y) H1
theorem pe_join {e2 : Expr} {tj : TJ} (h : PJ X (e :: e2 :: es) tj) : PE X (.JoinedStr (e :: e2 :: es) pos) (tJoin tj) := by
  intro pins s σ H Q I hq
  refine wpAny_JoinedStr (joins_mono (h pins s σ H Str.empty 0 _ I (Nat.le_refl _) hq) fun out s1 ⟨hl, H1, I1, q⟩ => ⟨hl, .str out, H1, I1.tok _, ⟨_, rfl⟩, q out⟩)
where
  joins_mono {M : Model} {A : Around} {E : Value → Shared → Prop} : ∀ {l : List (Sem Value)} {acc : Str} {Q Q' : Str → Shared → Prop} {s : Shared}, Joins M A E l acc Q s → (∀ o s, Q o s → Q' o s) → Joins M A E l acc Q' s
    | [], _, _, _, _, h, f => f _ _ h
    | _ :: _, _, _, _, _, h, f => thn h fun _ _ ⟨y, t, e, z, r⟩ => ⟨y, t, e, z, joins_mono r f⟩
end
end L2

namespace L2
open PySem PySem.Spec PyProof.Rows
/-- an exception of a callee, called where the names are σ -/
structure ExitsS (CX : CXT) (X : Cx) (E : St → XK) : Prop where
  pass : ∀ (pins : List (Addr × Obj)) (σ : St) (H : Hp) (s : Shared) (e : Value) (s' : Shared), Inv X pins σ H s → CX X.stack H s (E σ) e s' → X.xe e s'
theorem Exits.s {CX : CXT} {X : Cx} {E : XK} (h : Exits CX X E) : ExitsS CX X fun _ => E := ⟨h.pass⟩
def tCallX (sp : Sp) (E : St → XK) (t : TA) : TE := fun σ H Q => t σ H fun vs H1 => sp vs H1 Q (E σ)
def tMethX (C : Addr) (m : Str) (sp : Sp) (E : St → XK) (ta : TE) (t : TA) : TE := fun σ H Q => ta σ H fun x H1 => ∃ a dx fs, x = .ref a ∧ H1 a = some (.ins C dx fs) ∧ fs.lookup m = none ∧ t σ H1 fun vs H2 => sp (x :: vs) H2 Q (E σ)
def tMakeX (C : Addr) (sp : Sp) (E : St → XK) (t : TA) : TE := fun σ H Q => t σ H fun vs H1 => ∀ x dx, H1 x = none → H1 dx = none → dx ≠ x →
  sp (.ref x :: vs) (upd (upd H1 dx (.own x)) x (.ins C dx [])) (fun v H2 => v = .non ∧ Q (.ref x) H2) (E σ)
section
variable {X : Cx} {CX : CXT} {k j : Nat} {f C : Addr} {fd : FuncData} {ps : List Str} {sp : Sp} {E : St → XK} {x m : Str} {p pos apos : Pos} {e o : Expr} {es : List Expr} {ta : TE} {t : TA}
theorem run_fnX {pins : List (Addr × Obj)} {σ : St} {H : Hp} {s : Shared} {Q : VK} {us : List Value} {vs : List V} (F : FnOk X.prog X.w X.K X.mg X.base CX k f fd ps sp) (hr : Room k X.A) (hb : Binds X.K fd ps []) (hx : ExitsS CX X E)
    (I : Inv X pins σ H s) (r : Vals vs us) (h : sp vs H Q (E σ)) : wpAny (model X.prog X.w) X.A (call (.ref f) us) (EP X pins σ Q) X.xe s := by
  have hl : (us ++ []).length = ps.length := by rw [List.append_nil, ← r.length]; exact F.len _ _ _ _ h
  have hb' := hb s us I.kIn hl
  rw [List.append_nil] at hb'
  refine wpAny_call (codeAny_mono (F.run X.A X.stack s H ⟨us, []⟩ us vs Q (E σ) hr I.env0 hb' r h) fun res s' hq => ?_)
  cases res with
  | error e => exact hx.pass pins σ H s e s' I hq
  | ok fl =>
    cases fl with
    | ret u => exact I.after hq
    | next => cases hq
    | brk => cases hq
    | cont => cases hq
theorem pe_callX (D : Def X.prog X.w X.K X.mg X.base CX x k ps sp) (hx : ExitsS CX X E) (hr : Room j X.A) (hg : Gl X x) (ha : PA X (e :: es) t) (hj : k ≤ j := by decide) (hdb : (x == ("__debug__" : Str)) = false := by decide)
    (he : starEach (e :: es) X.env = (false, eval e X.env) :: starEach es X.env := by rfl) (hpl : (backTo pos (starEach es X.env)).any (·.1) = false := by rfl) : PE X (.Call (.Name x p) (e :: es) [] pos) (tCallX sp E t) := by
  obtain ⟨f, fd, hm, hk, hb, F⟩ := D.ex
  intro pins s σ H Q I h
  refine wpAny_Call_Name_kw (ld_glob I hg hm ?_ hdb)
  refine PySem.W.callWith_K (h₀ := X.base) I.ok.mod.kin hk (thn (ha pos pins s σ H _ I h) fun us s1 z => ?_) he hpl
  obtain ⟨vs, H1, I1, r, q⟩ := z
  exact ⟨I1.kIn, run_fnX F (hr.mono hj) hb hx I1 r q⟩
theorem pe_methX {pl : Sem Bool} (he : PE X o ta) (c : Cls X.K C) (D : MDef X.prog X.w X.K X.mg X.base CX C m k ps sp) (hx : ExitsS CX X E) (hr : Room j X.A) (ha : PA X (e :: es) t) (hj : k ≤ j := by decide)
    (hst : starEach (e :: es) X.env = (false, eval e X.env) :: starEach es X.env := by rfl) (hpl : (backTo pos (starEach es X.env)).any (·.1) = false := by rfl)
    (ht : eval (.Call (.Attribute o m apos) (e :: es) [] pos) X.env = (do
      let ov ← eval o X.env
      standAt apos.atName
      let (f, first) ← holding [ov] (getMethod ov m pl)
      callWith pos f first (backTo pos (starEach (e :: es) X.env)) (backToKw pos (keywordEach [] X.env))) := by rfl) :
    PE X (.Call (.Attribute o m apos) (e :: es) [] pos) (tMethX C m sp E ta t) := by
  obtain ⟨f, fd, hm, hb, F⟩ := D.ex
  intro pins s σ H Q I h
  refine PySem.W.methodCall_KW (pl := pl) (thn (he pins s σ H _ I h) fun u s1 z => ?_) ht
  obtain ⟨x, H1, I1, rx, a, dx, fs, rfl, ea, l, q⟩ := z
  cases (show u = Value.ref a from rx)
  refine getmeth_ok I1 ea c hm l (PySem.W.callWith_K (first := [.ref a]) (h₀ := X.base) I.ok.mod.kin hm.kp (thn (ha pos pins s1 σ H1 _ I1 q) fun us s2 z => ?_) hst hpl)
  obtain ⟨vs, H2, I2, r, q2⟩ := z
  exact ⟨I2.kIn, run_fnX (us := .ref a :: us) (vs := .ref a :: vs) F (hr.mono hj) hb hx I2 (.cons rfl r) q2⟩
theorem pe_methX0 {pl : Sem Bool} (he : PE X o ta) (c : Cls X.K C) (D : MDef X.prog X.w X.K X.mg X.base CX C m k ps sp) (hx : ExitsS CX X E) (hr : Room j X.A) (hj : k ≤ j := by decide)
    (ht : eval (.Call (.Attribute o m apos) [] [] pos) X.env = (do
      let ov ← eval o X.env
      standAt apos.atName
      let (f, first) ← holding [ov] (getMethod ov m pl)
      callWith pos f first (backTo pos (starEach [] X.env)) (backToKw pos (keywordEach [] X.env))) := by rfl) :
    PE X (.Call (.Attribute o m apos) [] [] pos) (tMethX C m sp E ta tNil) := by
  obtain ⟨f, fd, hm, hb, F⟩ := D.ex
  intro pins s σ H Q I h
  refine PySem.W.methodCall_KW (pl := pl) (thn (he pins s σ H _ I h) fun u s1 z => ?_) ht
  obtain ⟨x, H1, I1, rx, a, dx, fs, rfl, ea, l, q⟩ := z
  cases (show u = Value.ref a from rx)
  exact getmeth_ok I1 ea c hm l (PySem.W.callWith_K0 (first := [.ref a]) I1.kIn hm.kp (run_fnX (us := [.ref a]) (vs := [.ref a]) F (hr.mono hj) hb hx I1 (.cons rfl .nil) q))
end
/-! ### try: .. except K as n: .. -/
/-- within the try: what every state bears; an exception of a callee -/
abbrev Cx.tryX (X : Cx) (pins : List (Addr × Obj)) (E : St → XK) : Cx := { X with pn := X.pn ++ pins, xe := fun e s' => ∃ σ H s, Inv X pins σ H s ∧ CXR X.prog X.w X.stack H s (E σ) e s' }
/-- within the clause -/
abbrev Cx.markX (X : Cx) (a : Addr) : Cx := { X with A := X.A.mark (some (.ref a)), calm := false, xe := fun _ _ => False }
section
variable {X : Cx} {pins pins' : List (Addr × Obj)} {σ : St} {H H' : Hp} {s : Shared} {E : St → XK} {a : Addr}
theorem Inv.toTry (I : Inv X pins σ H s) : Inv (X.tryX pins E) [] σ H s :=
  ⟨⟨I.ok.mod, I.ok.kind, I.ok.glob, I.ok.blt, I.ok.above, I.ok.inj, I.ok.has, I.ok.cab, I.ok.hd, I.ok.frames, I.ok.stk, I.ok.exf, I.ok.bs, I.ok.bsz, I.ok.noex, I.ok.exfs, I.ok.funs, I.ok.frf⟩, I.os, I.bare, I.base, I.loc, I.cell, I.free, I.freeC,
    fun p hp => I.pin p (by rw [List.append_nil] at hp; exact hp), I.hok, I.len⟩
theorem Inv.ofTry (I : Inv (X.tryX pins E) pins' σ H s) : Inv X pins σ H s :=
  ⟨⟨I.ok.mod, I.ok.kind, I.ok.glob, I.ok.blt, I.ok.above, I.ok.inj, I.ok.has, I.ok.cab, I.ok.hd, I.ok.frames, I.ok.stk, I.ok.exf, I.ok.bs, I.ok.bsz, I.ok.noex, I.ok.exfs, I.ok.funs, I.ok.frf⟩, I.os, I.bare, I.base, I.loc, I.cell, I.free, I.freeC,
    fun p hp => I.pin p (List.mem_append_left _ hp), I.hok, I.len⟩
theorem Inv.mark (I : Inv X pins σ H s) : Inv (X.markX a) pins σ H s :=
  ⟨⟨I.ok.mod, I.ok.kind, I.ok.glob, I.ok.blt, I.ok.above, I.ok.inj, I.ok.has, I.ok.cab, (fun z => by cases z), I.ok.frames, I.ok.stk, I.ok.exf, I.ok.bs, I.ok.bsz, I.ok.noex, I.ok.exfs, I.ok.funs, I.ok.frf⟩, I.os, I.bare, I.base, I.loc, I.cell, I.free, I.freeC, I.pin, I.hok, I.len⟩
theorem Inv.unmark (I : Inv (X.markX a) pins σ H s) (hd : X.calm = true → X.A.handled = none) : Inv X pins σ H s :=
  ⟨⟨I.ok.mod, I.ok.kind, I.ok.glob, I.ok.blt, I.ok.above, I.ok.inj, I.ok.has, I.ok.cab, hd, I.ok.frames, I.ok.stk, I.ok.exf, I.ok.bs, I.ok.bsz, I.ok.noex, I.ok.exfs, I.ok.funs, I.ok.frf⟩, I.os, I.bare, I.base, I.loc, I.cell, I.free, I.freeC, I.pin, I.hok, I.len⟩
theorem exitsT {P : Program} {w : World} (hP : X.prog = P := by rfl) (hw : X.w = w := by rfl) : ExitsS (CXR P w) (X.tryX pins E) E := by
  subst hP hw
  exact ⟨fun _ σ H s _ _ I z => ⟨σ, H, s, I.ofTry, z⟩⟩
theorem SP.ofTry {D : Ends} {f : Flow} {s' : Shared} (h : SP (X.tryX pins E) pins' D f s') : SP X pins D f s' := by
  cases f with
  | next => obtain ⟨σ', H', I, q⟩ := h; exact ⟨σ', H', I.ofTry, q⟩
  | brk => obtain ⟨σ', H', I, q⟩ := h; exact ⟨σ', H', I.ofTry, q⟩
  | cont => obtain ⟨σ', H', I, q⟩ := h; exact ⟨σ', H', I.ofTry, q⟩
  | ret u => obtain ⟨v, σ', H', I, r, q⟩ := h; exact ⟨v, σ', H', I.ofTry, r, q⟩
/-- the exception, as a thing that is told of by its class alone -/
def excO (a : Addr) (cls : Value) : HO := .ext fun h => ∃ o, h.get? a = some o ∧ o.cls = cls ∧ PySem.W.notCls o = true
theorem ObjOk.has {P : Program} {w : World} {h : Heap} {o : HO} (x : ObjOk P w H h a o) : ∃ ob, h.get? a = some ob := by
  cases o with
  | lst xs => obtain ⟨_, _, _, _, e⟩ := x; exact ⟨_, e⟩
  | tup xs => obtain ⟨_, _, _, ob, e, _⟩ := x; exact ⟨_, e⟩
  | dK kvs => obtain ⟨_, _, _, _, o, _, _, e, _⟩ := x; exact ⟨_, e⟩
  | dT kvs => obtain ⟨_, _, _, _, o, _, _, e, _⟩ := x; exact ⟨_, e⟩
  | set S n => obtain ⟨o, _, _, _, e, _⟩ := x; exact ⟨_, e⟩
  | ins C dx fs => obtain ⟨_, _, _, e, _⟩ := x; exact ⟨_, e⟩
  | own y => exact x
  | xd fs => obtain ⟨_, ⟨_, _, _, e, _⟩, _⟩ := x; exact ⟨_, e⟩
  | rng lo hi => obtain ⟨_, _, _, e⟩ := x; exact ⟨_, e⟩
  | frz ob u => obtain ⟨e, _⟩ := x; exact ⟨_, e⟩
  | tbl ps => exact ⟨_, (show h.get? a = some _ from x)⟩
  | met f y => exact ⟨_, (show h.get? a = some _ from x)⟩
  | ext φ => obtain ⟨_, e, _⟩ := x; exact e
/-- a name is forgotten -/
theorem Inv.goes {i : Nat} {n : Str} {m : Str → Option Value} {h' : Heap} {v : Option Value} {t' : Nat} (I : Inv X pins σ H s) (nd : X.N.Nodup) (hi : X.N[i]? = some n)
    (hlk : ∀ (i : Nat) (x : Str) (v : V), X.N[i]? = some x → σ[i]? = some (some v) → Vis X.env.scope x → ∃ u, RelV v u ∧ Look X.env s.heap m x u) (hn : h'.Ns X.env.locals (fun x => if x = n then v else m x)) (hs : Heap.SameBut X.env.locals s.heap h') :
    Inv X pins (σ.set i none) H { s with heap := h', toks := t' } := by
  have cne := I.cne
  have low : ∀ b o, X.s₀.heap.get? b = some o → b ≠ X.env.locals := fun b o e => Nat.ne_of_lt (Nat.lt_of_lt_of_le (Heap.lt_size e) I.ok.above)
  refine ⟨I.ok, I.os, I.bare, ⟨fun b o e n hb hx => (hs.2 b (low b o e)).trans (I.base.keep b o e n hb hx), fun b o e n hb hx => ?_, I.base.free, fun b o e hx => ?_, I.base.tups, I.base.frzs, I.base.tbls⟩, ⟨_, hn, fun j y v' e1 e2 e3 => ?_⟩, fun y c e => ?_, I.free, I.freeC, fun p hp => ?_, fun b ob e => ?_, by simpa using I.len⟩
  · obtain ⟨sl, e1⟩ := I.base.slot b o e n hb hx
    exact ⟨sl, (hs.2 b (low b o e)).trans e1⟩
  · obtain ⟨o', e1⟩ := I.base.there b o e hx
    exact ⟨o', (hs.2 b (low b o e)).trans e1⟩
  · have hj : j ≠ i := by
      rintro rfl
      rw [List.getElem?_set] at e2
      simp only [if_true] at e2
      split at e2 <;> cases e2
    rw [List.getElem?_set_ne (Ne.symm hj)] at e2
    obtain ⟨u, r, q⟩ := hlk j y v' e1 e2 e3
    refine ⟨u, r, ?_⟩
    rcases q with ⟨k, e⟩ | ⟨k, c, e, z⟩
    · refine .inl ⟨k, ?_⟩
      have ne : y ≠ n := fun e => hj (nodup_ix nd e1 (e ▸ hi))
      simp [ne, e]
    · exact .inr ⟨k, c, e, z.sameBut hs (cne y c e)⟩
  · obtain ⟨w', z⟩ := I.cell y c e
    exact ⟨w', z.sameBut hs (cne y c e)⟩
  · obtain ⟨e, n, ne, nf, d⟩ := I.pin p hp
    exact ⟨(hs.2 p.1 ne).trans e, n, ne, nf, d⟩
  · refine (I.hok b ob e).stay (fun c w' hc q => (hs.2 c ?_).trans q) (fun _ q => q) fun _ _ q => q
    rintro rfl
    rcases hc with rfl | hc
    · rw [I.free] at e; cases e
    · rw [I.free] at hc; cases hc
end
end L2

namespace L2
open PySem PySem.Spec PyProof.Rows
section
variable {X : Cx} {x n : Str} {i : Nat} {KE : Addr} {np hpos pos : Pos} {b0 : Stmt} {body suite : List Stmt} {tb : List (Addr × Obj) → (St → XK) → TS} {ts : Addr → TS}
/-- behind the clause its name is forgotten -/
def Ends.less (D : Ends) (i : Nat) : Ends := { nx := fun σ H => D.nx (σ.set i none) H, rt := D.rt, bk := fun σ H => D.bk (σ.set i none) H, ct := fun σ H => D.ct (σ.set i none) H }
def tTry (K : PySem.W.Frag) (KE : Addr) (i : Nat) (tb : List (Addr × Obj) → (St → XK) → TS) (ts : Addr → TS) : TS := fun D σ H => ∀ pins,
  tb pins (fun σ' cls _ H' => PySem.W.exmOne K cls (.ref KE) = some true ∧ ∀ a, H' a = none → ts a (D.less i) (σ'.set i (some (.ref a))) (upd H' a (excO a cls))) D σ H
theorem ps_try (nd : X.N.Nodup) (hi : X.N[i]? = some n) (hl : X.env.scope.names.lookup n = some .local) (hm : X.mg x = some (.ref KE)) (hg : Gl X x) (hb : ∀ (pins : List (Addr × Obj)) (E : St → XK), PSs (X.tryX pins E) body (tb pins E)) (hs : ∀ a : Addr, PSs (X.markX a) (b0 :: suite) (ts a))
    (hst : X.stack = X.env :: X.outer := by rfl) (hfr : X.env.frame = some X.env.locals := by rfl) (hdb : (x == ("__debug__" : Str)) = false := by decide) :
    PS X (.Try body [.ExceptHandler (some (.Name x np)) (some n) (b0 :: suite) hpos] [] [] pos) (tTry X.K KE i tb ts) := by
  intro pins s σ H D I h
  have calm := I.ok.hd
  refine wpAny_Try_except (wpAny_mono (hb pins _ [] s σ H D I.toTry (h pins)) (fun f s1 q => ?_) fun e s1 q => ?_)
  · have q' : SP X pins D f s1 := SP.ofTry q
    cases f with
    | next => obtain ⟨σ', H', I', z⟩ := q'; exact wpAny_execs_nil ⟨σ', H', I', z⟩
    | brk => exact q'
    | cont => exact q'
    | ret u => exact q'
  obtain ⟨σ1, H1, s2, I1, a, cls, H', rfl, F, hcls, hsu⟩ := q
  obtain ⟨B, a0, U, ok, fl⟩ := F.ex
  have fl' : Heap.FlyingW B (X.env :: X.outer) a cls a0 s1.heap := by rw [← hst]; exact fl
  have frames : X.A.frames = some (X.env :: X.outer) := by rw [← hst]; exact I.ok.frames
  have hfs : ∀ b ∈ frs X.stack, ∃ o, s2.heap.get? b = some o ∧ ∀ vs, o.data ≠ .fields vs := fun b hb => (I1.stack.mem hb).2
  have un : ∀ h', B.StaysIn h' → s1.heap.UpToSlots h' → Un (frs X.stack) [] H1 H' s2.heap h' := fun h' st up => U.un st (F.slot.up up) hfs
  have back : ∀ h', B.StaysIn h' → s1.heap.UpToSlots h' → Inv X pins σ1 H' { s1 with heap := h' } := fun h' st up =>
    I1.call' (s' := { s1 with heap := h' }) (ch := []) F.os (un h' st up) (ok.kept st) F.bare fun b z => by cases z
  refine wpAny_looks_onW frames hfr fl' fun h4 held4 up4 => wpAny_landsW held4 fun h5 fl5 up5 => ?_
  have I5 := back h5 fl5.1 (up4.trans up5)
  obtain ⟨ob, hob, hobc⟩ := fl5.there
  have typ : PySem.W.Looks (model X.prog X.w) h5 (typeOf (.ref a)) cls := hobc ▸ (PySem.W.Looks.ld hob).andThen .now
  refine wpAny_handleBy_cons (codeAny_handlers_test (ld_glob (X := X.markX a) I5.mark hg hm ?_ hdb)) (fun z => by cases z)
  refine (PySem.W.exm_one I5.kIn typ hcls).here ?_
  refine codeAny_handlers_suite_as (lands_againW fl5 fun h6 fl6 up6 => ?_)
  have up06 := (up4.trans up5).trans up6
  -- the exception's own object is new
  obtain ⟨oe, vs, hoe, hoec, hoed, _⟩ := fl6.first
  have na : s2.heap.get? a = none := by
    cases q : s2.heap.get? a with
    | none => rfl
    | some o =>
      by_cases hb : a ∈ frs X.stack
      · obtain ⟨o2, e2, d⟩ := hfs a hb
        rw [q] at e2; cases e2
        obtain ⟨sl, e3⟩ := (F.slot.up up06) a hb o q d
        rw [hoe] at e3; cases e3
        exact absurd hoed (d vs)
      · obtain ⟨o2, e2⟩ := U.there a o q hb
        rw [fl'.2.1] at e2; cases e2
  have nH : H' a = none := by
    cases q : H' a with
    | none => rfl
    | some u =>
      obtain ⟨ob2, e2⟩ := (ok a u q).has
      rw [fl'.2.1] at e2; cases e2
  have nc : PySem.W.notCls oe = true := by unfold PySem.W.notCls; rw [hoed]
  have ok6 : HOk X.prog X.w (upd H' a (excO a cls)) h6 := fun b u e => by
    by_cases hb : b = a
    · subst hb
      rw [upd_same] at e; cases e
      exact ⟨⟨oe, hoe, hoec, nc⟩, ⟨oe, hoe⟩, fun g1 g2 ⟨o, q1, q2, q3⟩ kk => ⟨o, kk o q1, q2, q3⟩⟩
    · rw [upd_ne hb] at e
      exact (ok b u e).stay (fun c v _ q => fl6.1 c v q) (fun c q => by rw [upd_ne (ne_of_none q nH)]; exact q) fun c xs q => by rw [upd_ne (ne_of_none q nH)]; exact q
  have un6 := un h6 fl6.1 up06
  have un6' : Un (frs X.stack) [] H1 (upd H' a (excO a cls)) s2.heap h6 := by
    refine ⟨un6.keep, un6.slot, fun b o e nn hx => ?_, un6.there, fun b xs e => ?_, fun b o u e => ?_, fun b ps e => ?_⟩
    · rw [upd_ne (fun z => by rw [z, na] at e; cases e)]
      exact un6.free b o e nn hx
    · have := un6.tups b xs e
      rw [upd_ne (ne_of_none this nH)]; exact this
    · have := un6.frzs b o u e
      rw [upd_ne (ne_of_none this nH)]; exact this
    · obtain ⟨more, e2⟩ := un6.tbls b ps e
      exact ⟨more, by rw [upd_ne (ne_of_none e2 nH)]; exact e2⟩
  have I6 : Inv X pins σ1 (upd H' a (excO a cls)) { s1 with heap := h6 } := I1.call' (s' := { s1 with heap := h6 }) (ch := []) F.os un6' ok6 F.bare fun b z => by cases z
  refine store_ok (X := X.markX a) (v := .ref a) I6.mark nd hi (.inl hl) rfl (fun s7 I7 => ?_) (.inr hl)
  refine wpAny_mono (hs a pins s7 _ _ _ I7 (hsu a nH)) (fun f s8 q8 => ?_) fun _ _ z => z.elim
  have hcls2 : (X.env.scope.kind == .class || (X.env.scope.kind == .module && X.env.locals != X.env.globals)) = false := by rw [I.ok.kind]; rfl
  have done : ∀ {σ' : St} {H2 : Hp} {R : Unit → Shared → Prop}, Inv (X.markX a) pins σ' H2 s8 → (∀ s9, Inv X pins (σ'.set i none) H2 s9 → R () s9) → wpAny (model X.prog X.w) X.A (do bindName X.env n .none; unbindBehindTheSuite X.env n hpos) R X.xe s8 := fun {σ' H2 R} I8 kk => by
    have I8' := I8.unmark calm
    obtain ⟨m, hn, hlk⟩ := I8'.loc
    exact wpAny_nameGoes_keeps hl hn hcls2 fun h9 v hn9 same => kk _ (I8'.goes nd hi hlk hn9 same)
  cases f with
  | next => obtain ⟨σ', H2, I8, z⟩ := q8; exact done I8 fun s9 I9 => ⟨_, H2, I9, z⟩
  | brk => obtain ⟨σ', H2, I8, z⟩ := q8; exact done I8 fun s9 I9 => ⟨_, H2, I9, z⟩
  | cont => obtain ⟨σ', H2, I8, z⟩ := q8; exact done I8 fun s9 I9 => ⟨_, H2, I9, z⟩
  | ret u => obtain ⟨v, σ', H2, I8, r, z⟩ := q8; exact done I8 fun s9 I9 => ⟨v, _, H2, I9, r, z⟩
end
/-! ### isinstance(e, C) of a caught exception -/
section
open Builtin Builtin.ObjectAttr Builtin.Getset_descriptor PySem.Calls
variable {K : PySem.W.Frag}
theorem looks_dd {M : Model} {h : Heap} {a C : Addr} {nm : Str} {d g : Value} (X : K.In h) (ha : PySem.W.findIn K (.ref C) nm = some (some d)) (hg : PySem.W.specialIn K d "__get__" = some (some g)) (ht : PySem.W.takesIn K d = some true) :
    PySem.W.Looks M h (find (.ref a) (.ref C) nm) (.bind g d) :=
  (PySem.W.looks_findIn X ha).andThen ((show PySem.W.Looks M h (getOf (some d)) (some g) from PySem.W.looks_specialIn X hg).andThen
    ((show PySem.W.Looks M h (dataDescriptor? (some d) (some g)) (some (g, d)) from (PySem.W.looks_takesIn X ht).andThen .now).andThen (PySem.W.Looks.tag .now)))
/-- what is known of an own class of exceptions -/
structure ExcCls (K : PySem.W.Frag) (D : Addr) : Prop where
  cls : PySem.W.isClsIn K D = true
  ga : PySem.W.findIn K (.ref D) "__getattribute__" = some (some (.builtin "BaseException.__getattribute__"))
  gt : PySem.W.findIn K (.ref D) "__getattr__" = some none
  ca : PySem.W.findIn K (.ref D) "__class__" = some (some (.builtin "object.__class__"))
  gs : PySem.W.specialIn K (.builtin "object.__class__") "__get__" = some (some (.builtin "getset_descriptor.__get__"))
  tk : PySem.W.takesIn K (.builtin "object.__class__") = some true
  ob : PySem.W.mroIn K D (.type "object") = some true
  bx : PySem.W.mroIn K D (.type "BaseException") = some true
abbrev ExcAtφ (a : Addr) (cls : Value) : Heap → Prop := fun h => ∃ o, h.get? a = some o ∧ o.cls = cls ∧ PySem.W.notCls o = true
variable {D a : Addr} {prog : Program} {w : World} {A : Around} {E : Value → Shared → Prop} {s : Shared}
theorem exc_ty {M : Model} {h : Heap} {c : Value} (p : ExcAtφ a c h) : PySem.W.Looks M h (typeOf (.ref a)) c := by
  obtain ⟨o, h1, h2, _⟩ := p
  exact h2 ▸ (PySem.W.Looks.ld h1).andThen .now
theorem exc_get {R : Result → Shared → Prop} {tp : Value} (C : ExcCls K D) (X : K.In s.heap) (p : ExcAtφ a (.ref D) s.heap) (h : R (.ok (.ret (.ref D))) s) :
    codeAny (model prog w) A (.call (.builtin "getset_descriptor.__get__") ⟨[.builtin "object.__class__", .ref a, tp], []⟩) R s := by
  obtain ⟨hp, gn, dr, tk, os⟩ := s
  have ty := exc_ty (M := model prog w) p
  have mr := PySem.W.looks_mroIn (M := model prog w) X C.ob
  refine codeAny_call_builtin PySem.W.KF.slot_gs.plain PySem.W.KF.entry_gs
    (PySem.W.KF.slot_gs.check _ _ _ _ _ _ _ _ PySem.W.KF.type_class (PySem.W.KF.args_gs _ _ _) ?_)
  unfold Builtin.«getset_descriptor.__get__» descrGet
  rw [PySem.W.dga_obj]
  refine wpAny_bind (wpAny_pure ?go)
  unfold descrGetter descrCheckInstance descrNameAndClass isInstance
  simp only [PySem.W.KF.owner_class]
  repeat lk
  refine ⟨Code.quiet_builtin _ (by decide +kernel), ?gg⟩
  refine codeAny_builtin PySem.W.KF.entry_class ?_
  unfold Builtin.«object.__class__» shownTypeOf
  repeat lk
  exact h
theorem bexc_split : splitId "BaseException.__getattribute__" = some ("BaseException", "__getattribute__") := by decide +kernel
theorem bexc_kind : (Manifest.find? "BaseException").bind (·.attrs.lookup "__getattribute__") = some .slot ∨ (Manifest.find? "BaseException").bind (·.attrs.lookup "__getattribute__") = some .method := by
  first | exact .inl (by decide +kernel) | exact .inr (by decide +kernel)
theorem exc_check {M : Model} {rest : List Value} {Q : Unit → Shared → Prop} (C : ExcCls K D) (X : K.In s.heap) (p : ExcAtφ a (.ref D) s.heap) (ha : argsOk "BaseException.__getattribute__" ⟨.ref a :: rest, []⟩) (h : Q () s) :
    wpAny M A (checkBuiltinCall "BaseException.__getattribute__" ⟨.ref a :: rest, []⟩) Q E s := by
  have isi : PySem.W.Looks M s.heap (isInstance (.ref a) (.type "BaseException")) true := (exc_ty p).andThen (PySem.W.looks_mroIn X C.bx)
  have kind : builtinKind "BaseException.__getattribute__" = (Manifest.find? "BaseException").bind (·.attrs.lookup "__getattribute__") := by simp only [builtinKind, bexc_split]
  rcases bexc_kind with q | q
  all_goals
    simp only [checkBuiltinCall, kind, q, bexc_split]
    refine wpAny_bind (isi.here ?_)
    simp only [Bool.not_true, Bool.false_eq_true, if_false]
    cases sg : Manifest.signature? "BaseException.__getattribute__" with
    | none => exact wpAny_pure h
    | some sig =>
      simp only [argsOk, sg] at ha
      have ha' : Bind.checkArgs "BaseException.__getattribute__" sig ⟨.ref a :: rest, []⟩ = pure () := ha
      show wpAny M A (Bind.checkArgs "BaseException.__getattribute__" sig ⟨.ref a :: rest, []⟩) Q E s
      rw [ha']
      exact wpAny_pure h
theorem exc_class {Q : Option Value → Shared → Prop} (C : ExcCls K D) (X : K.In s.heap) (p : ExcAtφ a (.ref D) s.heap) (h : Q (some (.ref D)) { s with toks := s.toks + 1 }) : wpAny (model prog w) A (getAttr? (.ref a) "__class__") Q E s := by
  obtain ⟨hp, gn, dr, tk, os⟩ := s
  have ty := exc_ty (M := model prog w) p
  have l1 := PySem.W.looks_findIn (M := model prog w) X C.ga
  have l2 := looks_dd (M := model prog w) (a := a) X C.ca C.gs C.tk
  have l3 := PySem.W.looks_findIn (M := model prog w) X C.gt
  unfold getAttr? getAttrBy? getAttrBy
  refine wpAny_bind (wpAny_mkText (wpAny_bind (wpAny_attempt (wpAny_holding (wpAny_bind (ty.at ?z))))))
  refine wpAny_bind (l1.at ?_)
  show wpAny _ _ (getAttrByItsOwn _ _ _ _ _ _) _ _ _
  unfold getAttrByItsOwn hookBefore
  refine wpAny_bind (l3.at ?_)
  refine wpAny_bind (wpAny_attempt (wpAny_holding ?_))
  show wpAny _ _ (boundAndCalled _ _ _) _ _ _
  unfold boundAndCalled
  refine wpAny_bind ?_
  rw [F.excAttr_ValueError.ga.bind (.ref a)]
  refine wpAny_pure (wpAny_call ?_)
  refine codeAny_call_builtin F.excAttr_ValueError.ga.plain F.entry_bexc_ga (exc_check (s := ⟨hp, gn, dr, tk + 1, os⟩) C X p (F.args_bexc_ga _ _) ?_)
  unfold Builtin.«object.__getattribute__»
  refine wpAny_bind (wpAny_pure (wpAny_bind (wpAny_pure (wpAny_bind (ty.at (wpAny_bind (l2.at ?_)))))))
  show wpAny _ _ (bindTo (.builtin "getset_descriptor.__get__") (.builtin "object.__class__") (.ref a) (.ref D)) _ _ _
  unfold bindTo
  show wpAny _ _ (holding [.builtin "object.__class__"] (call (.builtin "getset_descriptor.__get__") [.builtin "object.__class__", .ref a, .ref D]) >>= ret) _ _ _
  refine wpAny_bind (wpAny_holding (wpAny_call (exc_get (s := ⟨hp, gn, dr, tk + 1, os⟩) C X p ?_)))
  exact wpAny_pure (PySem.W.handed_on rfl (wpAny_pure h))
theorem kitx_exc (C : ExcCls K D) : PySem.W.KitX K (.ref a) (.ref D) (ExcAtφ a (.ref D)) where
  ty := fun _ _ _ p => exc_ty p
  it := fun _ _ X _ => by
    obtain ⟨cd, hc⟩ := Option.isSome_iff_exists.mp C.cls
    unfold PySem.W.clsIn at hc
    split at hc
    · rename_i ho
      intro A' Q' E' s' kk q
      unfold isType loadHead
      exact wpAny_bind (wpAny_loadPart (kk _ _ (X _ _ ho)) (wpAny_pure q))
    · cases hc
  ne := fun h tp dd its n sl X htp => by
    obtain ⟨cd, hc⟩ := Option.isSome_iff_exists.mp C.cls
    refine Bool.eq_false_iff.mpr fun q => ?_
    cases Value.ref.inj (beq_iff_eq.mp q)
    unfold PySem.W.clsIn at hc
    split at hc
    · rename_i ho
      cases (X _ _ ho).symm.trans htp
    · cases hc
  ca := fun X p k => exc_class C X p k
end
section
variable {X : Cx}
/-- isinstance(e, C): e caught, C an own class or a built-in one -/
theorem call_isinstX : CallR X (.builtin "isinstance") (fun xs H Q => ∃ a y c cD b, xs = [.ref a, y] ∧ H a = some (excO a (.ref cD)) ∧ RelV y c ∧ ExcCls X.K cD ∧ PySem.W.kitOne X.K (.ref cD) c = some b ∧ Q (.bl b) H) := by
  intro pins s σ H xs us Q I r h
  obtain ⟨a, y, c, cD, b, rfl, ha, ry, hc, e, q⟩ := h
  obtain ⟨u, w', rfl, r1, r2⟩ := vals2 r
  cases (show u = Value.ref a from r1)
  have ew : w' = c := relV_uniq ry r2 hc e
  subst ew
  obtain ⟨p, _, _⟩ := (show ObjOk X.prog X.w H s.heap a (excO a (.ref cD)) from I.hok a _ ha)
  exact PySem.W.kia_one (kitx_exc hc) I.kIn p e (fun z => nomatch z) fun tk => ⟨.bl b, H, I.tok tk, rfl, q⟩
where
  relV_uniq {K : PySem.W.Frag} {y : V} {c w' : Value} {cD : Addr} {b : Bool} (ry : RelV y c) (r2 : RelV y w') (_ : ExcCls K cD) (e : PySem.W.kitOne K (.ref cD) c = some b) : w' = c := by
    cases y with
    | ref q => exact (show w' = _ from r2).trans (show c = _ from ry).symm
    | ty q => exact (show w' = _ from r2).trans (show c = _ from ry).symm
    | non => exact (show w' = _ from r2).trans (show c = _ from ry).symm
    | bl q => exact (show w' = _ from r2).trans (show c = _ from ry).symm
    | int q => obtain ⟨t, rfl⟩ := ry; unfold PySem.W.kitOne PySem.W.kitCls at e; split at e <;> simp at *
    | str q => obtain ⟨t, rfl⟩ := ry; unfold PySem.W.kitOne PySem.W.kitCls at e; split at e <;> simp at *
    | byt q => obtain ⟨t, rfl⟩ := ry; unfold PySem.W.kitOne PySem.W.kitCls at e; split at e <;> simp at *
    | flt q => obtain ⟨t, rfl⟩ := ry; unfold PySem.W.kitOne PySem.W.kitCls at e; split at e <;> simp at *
end
end L2

/-! AN EXCEPTION OUT OF A COMPREHENSION -/
namespace L2
open PySem PySem.Spec PyProof.Rows
/-- an exception on its way, whatever its mark -/
def Air (base : Heap) (l : List Env) (e : Addr) (cls a0 fl : Value) (h : Heap) : Prop := base.StaysIn h ∧ base.get? e = none ∧ h.FunFrames base l ∧ h.TracedAtW base e cls a0 fl
section
variable {M : Model} {A : Around} {E : Value → Shared → Prop} {s : Shared} {base : Heap} {l : List Env} {e : Addr} {cls a0 fl : Value}
end
end L2


namespace L2
open PySem PySem.Spec PyProof.Rows
/-- an exception on its way reaches what is wanted; C: the block's own names, which go -/
structure ExitsA (X : Cx) (E : XK) : Prop where
  air : ∀ (pins : List (Addr × Obj)) (σ : St) (H : Hp) (s : Shared) (H' : Hp) (B : Heap) (C a : Addr) (cls a0 fl : Value) (s' : Shared), Inv X pins σ H s → UnB (frs X.stack) H H' s.heap B → HOk X.prog X.w H' B → X.s₀.heap.objs.size ≤ C → H' C = none →
    Air (PySem.W.hideAll B [C]) X.stack a cls a0 fl s'.heap → s'.os = s.os → AllBare s'.gens → Slots (frs X.stack) s.heap s'.heap → E cls none H' → X.xe (.ref a) s'
/-- what is wanted of an exception within a block -/
def blkE (X : Cx) (N : List Str) (scope : Scope) (cl : List (Str × Addr)) (E : XK) (s₀ : Shared) (H₀ : Hp) (ex : List Addr) : Value → Shared → Prop := fun e s' => ∃ pins σ H s, Inv (blk X N scope cl s₀ H₀ ex NoX) pins σ H s ∧ CXR X.prog X.w X.stack H s E e s'
section
variable {X : Cx} {x : Str} {fv : List (Str × Nat)} {scope : Scope} {cl : List (Str × Addr)} {pins : List (Addr × Obj)} {σ : St} {px pos : Pos} {iter elt : Expr} {te : TEB}
end
end L2

/-! OWN ERROR CLASSES, DEFS THAT RAISE -/
namespace L2
open PySem PySem.Spec PyProof.Rows
abbrev bmVE : List Value := [.type "ValueError", .type "Exception", .type "BaseException", .type "object"]
theorem own_mk {K : PySem.W.Frag} {h : Heap} {mg : Str → Option Value} {x : Str} {C : Addr} {bm : List Value} {nid : String} (X : K.In h) (hm : mg x = some (.ref C)) (q : PySem.W.excIn K C bm nid = true) : OwnCls x C bm nid mg h := by
  refine ⟨hm, ?_⟩
  unfold PySem.W.excIn at q
  split at q
  · rename_i d1 c1 s1 look
    split at q
    · rename_i C1 tl j0 j1 j2 j3 nn j5 em es
      simp only [Bool.and_eq_true, beq_iff_eq, Bool.not_eq_true'] at q
      obtain ⟨⟨⟨⟨⟨rfl, rfl⟩, del⟩, tail⟩, isn⟩, noi⟩ := q
      obtain ⟨f1, f2, f3, f4, f5, f6, f7, f8, f9, f10, f11⟩ := c1
      dsimp only at em del isn noi
      subst em del
      have es' : s1 = #[j0, j1, j2, j3, some (.builtin nn), j5] := by
        obtain ⟨l⟩ := s1
        simp only at es
        rw [es]
      subst es'
      exact ⟨tl, f4, f1, f5, f2, f6, f7, f8, f9, f10, d1, j0, j1, j2, j3, j5, _, X _ _ look, .of_isNs (PySem.W.isNs_of_in X isn), PySem.W.nsMap_none_of_in X isn noi, PySem.W.tail_of_in X tail⟩
    · cases q
  · cases q
section
variable {X : Cx} {CX : CXT} {E : XK} {x : Str} {C : Addr} {j : Nat} {pos cpos np : Pos} {e : Expr} {es : List Expr} {t : TA}
theorem ps_rais (hx : Exits CX X E) (hm : X.mg x = some (.ref C)) (hq : PySem.W.excIn X.K C bmVE "ValueError.__new__" = true) (hr : Room j X.A) (hg : Gl X x) (ha : PA X (e :: es) t)
    (hdb : (x == ("__debug__" : Str)) = false := by decide) (he : starEach (e :: es) X.env = (false, eval e X.env) :: starEach es X.env := by rfl) (hpl : (backTo cpos (starEach es X.env)).any (·.1) = false := by rfl) :
    PS X (.Raise (some (.Call (.Name x np) (e :: es) [] cpos)) none pos) (tRaise C E t) :=
  fun pins s σ H D I h => ps_raise hx (own_mk I.ok.mod.kin hm hq) PySem.F.excBase_ValueError hr hg ha hdb he hpl pins s σ H D I h
end
section
variable {P : Program} {w : World} {K : PySem.W.Frag} {mg : Str → Option Value} {base : Heap}
/-- a def from whose body exceptions may come -/
theorem Fun.okX {x qual : Str} {st : Stmt} {f : Addr} {fd : FuncData} {N ps : List Str} {k : Nat} {sp : Sp} (F : Fun K x qual st f fd) (S : FnScope N ps (defScope st)) (len : ∀ vs H Q E, sp vs H Q E → vs.length = ps.length)
    (hbody : ∀ (cdv : Value) (A : Around) (outer : List Env) (s : Shared) (H : Hp) (vs : List V) (Q : VK) (E : XK), Room k (A.deeper (envOfC qual (defScope st) s.heap.objs.size f cdv)) →
      Exits (CXR P w) (cxOf (CXR P w) P w K mg base N qual (defScope st) f cdv A outer s H E) E → sp vs H Q E →
      ∃ t, PSs (cxOf (CXR P w) P w K mg base N qual (defScope st) f cdv A outer s H E) (defBody st) t ∧ t { nx := fun _ H' => Q .non H', rt := Q } (start N vs) H) : FnOk P w K mg base (CXR P w) (k + 1) f fd ps sp := by
  obtain ⟨oc, od, kV, doc, pm, an, cdv, ct, osl, rfl, lk, hcd⟩ := F.ex
  exact fn_of lk hcd S len fun A outer s H vs Q E hr hsp => hbody cdv A outer s H vs Q E hr exitsR hsp
end
end L2

/-! WEAKER PROMISES -/
namespace L2
open PySem
section
variable {P : Program} {w : World} {K : PySem.W.Frag} {mg : Str → Option Value} {base : Heap} {CX : CXT} {x m : Str} {C : Addr} {k : Nat} {ps : List Str} {sp sp' : Sp}
theorem Def.imp (D : Def P w K mg base CX x k ps sp) (h : ∀ vs H Q E, sp' vs H Q E → sp vs H Q E) : Def P w K mg base CX x k ps sp' :=
  let ⟨f, fd, a, b, c, F⟩ := D.ex; ⟨f, fd, a, b, c, F.imp h⟩
theorem MDef.imp (D : MDef P w K mg base CX C m k ps sp) (h : ∀ vs H Q E, sp' vs H Q E → sp vs H Q E) : MDef P w K mg base CX C m k ps sp' :=
  let ⟨f, fd, a, c, F⟩ := D.ex; ⟨f, fd, a, c, F.imp h⟩
end
theorem pe_globC {X : Cx} {x : Str} {C : Addr} {pos : Pos} (hg : Gl X x) (hm : X.mg x = some (.ref C)) (hd : (x == ("__debug__" : Str)) = false := by decide) : PE X (.Name x pos) (tC (.ref C)) := pe_glob hg hm rfl hd
/-- the ways through a statement meet at J -/
def tJ (t : TS) : TS := fun D σ H => ∃ J : St → Hp → Prop, t { D with nx := J } σ H ∧ ∀ σ' H', J σ' H' → D.nx σ' H'
theorem ps_join {X : Cx} {st : Stmt} {t : TS} (h : PS X st t) : PS X st (tJ t) := by
  rintro pins s σ H D I ⟨J, q, k⟩
  refine thn (h pins s σ H _ I q) fun f s' z => ?_
  cases f with
  | next => obtain ⟨σ', H', I', z⟩ := z; exact ⟨σ', H', I', k _ _ z⟩
  | brk => exact z
  | cont => exact z
  | ret u => exact z
theorem one_fits {v : V} : [v].length ≤ sizeLine := by show 1 ≤ sizeLine; decide
theorem two_fits {u v : V} : [u, v].length ≤ sizeLine := by show 2 ≤ sizeLine; decide
end L2

/-! A SIGN, SEVERAL TIMES -/
namespace L2
open PySem PySem.Spec PyProof.Rows
end L2

/-! THE REPR OF A LIST OF INTS, WITHIN AN F-STRING -/
namespace L2
open PySem PySem.Spec PyProof.Rows
theorem textFrom_le {B : Nat} : ∀ (ts : List Str) (k : Nat) (acc : Str), (∀ t ∈ ts, t.length ≤ B) → (textFrom k acc ts).length ≤ acc.length + ts.length * (B + 2)
  | [], _, acc, _ => by show acc.length ≤ acc.length + 0 * (B + 2); omega
  | t :: r, k, acc, h => by
    have ih := textFrom_le r (k + 1) (acc ++ (if k > 0 then ", " else "" : String) ++ t) fun x hx => h x (List.mem_cons_of_mem _ hx)
    have ht := h t List.mem_cons_self
    have e : (acc ++ (if k > 0 then ", " else "" : String) ++ t).length = acc.length + (if k > 0 then 2 else 0) + t.length := by
      rw [strLen_append, strLen_append]
      congr 2
      split <;> rfl
    have e2 : (if k > 0 then 2 else 0) ≤ 2 := by split <;> decide
    show (textFrom (k + 1) (acc ++ (if k > 0 then ", " else "" : String) ++ t) r).length ≤ acc.length + (r.length + 1) * (B + 2)
    rw [Nat.add_mul, Nat.one_mul]
    omega
theorem shown_ints_le (ns : List Int) (hn : ns.length ≤ 64) (hb : ∀ i ∈ ns, i.natAbs.log2 < 1920) : (PyData.list (ns.map .int)).shown.length ≤ 130000 := by
  have all : ∀ ms : List Int, PyData.shownAll (ms.map .int) = ms.map fun i => (Str.ofString (toString i)) := fun ms => by
    induction ms with
    | nil => simp only [List.map_nil, PyData.shownAll]
    | cons x r ih => simp only [List.map_cons, PyData.shownAll, ih, PyData.shown]
  simp only [PyData.shown]
  unfold listText
  rw [all, strLen_append]
  have := textFrom_le (B := 1921) (ns.map fun i => (Str.ofString (toString i))) 0 "[" fun t ht => by
    obtain ⟨i, hi, rfl⟩ := List.mem_map.mp ht
    exact int_text_len_1921 (hb i hi)
  rw [List.length_map] at this
  have e1 : ("[" : Str).length = 1 := rfl
  have e2 : ("]" : Str).length = 1 := rfl
  omega
theorem showable_ints : ∀ ns : List Int, (∀ i ∈ ns, i.natAbs.log2 < 1920) → PyData.showableAll (ns.map .int) = true
  | [], _ => by simp only [List.map_nil, PyData.showableAll]
  | x :: r, h => by
    have ih := showable_ints r fun i hi => h i (List.mem_cons_of_mem _ hi)
    have hx := h x List.mem_cons_self
    simp only [List.map_cons, PyData.showableAll, PyData.showable, ih, decide_eq_true hx, Bool.and_self]
theorem noDict_ints : ∀ ns : List Int, PyData.hasDictAll (ns.map .int) = false
  | [] => by simp only [List.map_nil, PyData.hasDictAll]
  | x :: r => by simp only [List.map_cons, PyData.hasDictAll, PyData.hasDict, noDict_ints r, Bool.or_self]
theorem depth_ints : ∀ ns : List Int, PyData.depthAll (ns.map .int) ≤ 1
  | [] => by simp only [List.map_nil, PyData.depthAll]; omega
  | x :: r => by
    have := depth_ints r
    simp only [List.map_cons, PyData.depthAll, PyData.depth]
    omega
theorem reads_ints {h : Heap} : ∀ {ns : List Int} {its : List Value}, Vals (ns.map V.int) its → ReadsAll h its (ns.map .int) []
  | [], [], _ => .nil
  | [], _ :: _, r => by cases r
  | _ :: _, [], r => by cases r
  | x :: ns, u :: us, r => by
    cases r with
    | cons r1 r2 =>
      obtain ⟨t, rfl⟩ := r1
      exact .cons (as := []) (bs := []) (.int x t) (reads_ints r2)
section
variable {X : Cx} {pos : Pos} {e : Expr} {es : List Expr} {te : TE} {tj : TJ} {j : Nat}
def tjL (K : PySem.W.Frag) (te : TE) (tj : TJ) : TJ := fun σ H n R => te σ H fun x H1 => ∃ (a : Addr) (ns : List Int), x = .ref a ∧ SqL K H1 a (ns.map V.int) ∧ ns.length ≤ 64 ∧ (∀ i ∈ ns, i.natAbs.log2 < 1920) ∧ n + 130000 ≤ sizeLine ∧ tj σ H1 (n + 130000) R
theorem pj_lst (rm : Room j X.A) (h : PE X e te) (hr : PJ X es tj) (hs : evalEach (.FormattedValue e 114 none pos :: es) X.env = eval (.FormattedValue e 114 none pos) X.env :: evalEach es X.env := by rfl) : PJ X (.FormattedValue e 114 none pos :: es) (tjL X.K te tj) := by
  intro pins s σ H acc n R I hl hq
  rw [hs]
  refine wpAny_FormattedValue_repr (thn (h pins s σ H _ I hq) fun u s1 ⟨x, H1, I1, r, a, ns, ex, hL, hn, hb, hz, k⟩ => ?_)
  subst ex
  cases (show u = Value.ref a from r)
  obtain ⟨its, r', pl, _⟩ := I1.list hL
  obtain ⟨ob, ho, hc, nn, hd⟩ := id pl.isList
  have big : 2000000 ≤ sizeLine := by decide
  have len := shown_ints_le ns hn hb
  have rr : Reads s1.heap (.ref a) (.list (ns.map .int)) [a] := .list (as := []) ho hc hd (by simpa using reads_ints r')
  have dp : (PyData.list (ns.map .int)).depth ≤ 2 := by
    have := depth_ints ns
    simp only [PyData.depth]
    omega
  have hu := rm.units
  refine pyReprObj_of_reads rr (by simp only [PyData.showable]; exact showable_ints ns hb) (PyData.noDict_hsm (by simp only [PyData.hasDict]; exact noDict_ints ns)) rm.gd (by omega) (fun _ _ e => e) (fun h' u tk kk => ?_) (by omega)
  have I2 : Inv X pins σ H1 { s1 with heap := h', toks := tk } := I1.kept (t' := tk) kk
  exact formatField_str (fun t' tk' => pj_on hr (I2.tok _) hl len hz k) (by omega)
end
end L2

/-! list(reversed(xs)) -/
namespace L2
open PySem PySem.Spec PyProof.Rows
section
variable {prog : Program} {w : World} {A : Around} {E : Value → Shared → Prop} {s : Shared}
end
section
variable {X : Cx} {e : Expr} {te : TE} {p p' pos pos' : Pos}
def tLRev (K : PySem.W.Frag) (te : TE) : TE := fun σ H Q => te σ H fun x H1 => ∃ a ys, x = .ref a ∧ SqL K H1 a ys ∧ ∀ l, H1 l = none → Q (.ref l) (upd H1 l (.lst ys.reverse))
end
end L2

/-! min of a list of ints, sorted(d) of a dict keyed by ints, == of lists of lists of ints -/
namespace L2
open PySem PySem.Spec PyProof.Rows
section
variable {prog : Program} {w : World} {A : Around} {E : Value → Shared → Prop} {s : Shared}
theorem sorted_src {T : String} {r d : Addr} {n : Nat} {P : Nat → Value → Prop} {OK : Heap → Prop} {Q : Value → Shared → Prop} (K : PySem.W.KdlSrc prog w T r d n P OK) (hh : A.handled = none) (hok : OK s.heap) (hn : n < 64) (ns : List Int) (hns : ns.length = n)
    (hval : ∀ i v k, P i v → ns[i]? = some k → ∃ t, v = .int k t)
    (h : ∀ (h' h2 : Heap) (tk : Nat) (out : Array Value) (ns' : List Int) (c : Nat), (∀ b o, s.heap.get? b = some o → h'.get? b = some o) → (∀ b o, h'.get? b = some o → h2.get? b = some o) → h2.get? h'.objs.size = some (seqObj "list" out c) → IntsAre out.toList ns' → ns'.Perm ns → ns'.Pairwise (· ≤ ·) → Q (.ref h'.objs.size) { s with heap := h2, toks := tk }) :
    wpAny (model prog w) A (call (.builtin "sorted") [.ref r]) Q E s := by
  have big : 64 ≤ sizeLine := by decide
  refine Calls.call_function_entry kind_sorted plain_sorted entry_sorted (args_sorted1 _) ?_
  unfold Builtin.«sorted»
  refine wpAny_bind (m := checkCount "sorted" 1 1 _) (wpAny_pure ?_)
  refine wpAny_bind (PySem.W.kdu_collect (A := A.in1) K hh hok (by omega) fun h' tk acc hk hacc => ?_)
  have hlen : acc.toList.length = n := by rw [Array.length_toList]; exact hacc.1
  have hI : IntsAre acc.toList ns := intsAre_of (vals_of_get (xs := ns.map V.int) (by rw [List.length_map, hlen, hns]) fun i x u e1 e2 => by
    rw [List.getElem?_map] at e1
    obtain ⟨k, ek, rfl⟩ := Option.map_eq_some_iff.mp e1
    exact hval i u k (hacc.2 i u (by simpa using e2)) ek)
  refine wpAny_bind (wpAny_newList ?_ (by rw [hlen]; omega))
  have hoL : (h'.push (seqObj "list" acc.toList.toArray 0)).get? h'.objs.size = some (seqObj "list" acc.toList.toArray 0) := Heap.get?_push_size _ rfl
  refine wpAny_bind (wpAny_holding (wpAny_call_entry slot_list_sort ⟨_, hoL, rfl⟩ entry_list_sort (list_sort_tree hoL hI (by rw [hlen]; exact hn) fun out ns' a1 a2 a3 => ⟨_, rfl, ?_⟩) (args_list_sort _)))
  refine wpAny_pure ⟨_, rfl, ?_⟩
  obtain ⟨c, he⟩ := sortedHeap_at (out := out) hoL
  refine h h' _ tk out ns' c hk (fun b o q' => ?_) he a1 a2 a3
  have lt := Heap.lt_size q'
  rw [sortedHeap_old (Nat.ne_of_lt lt) (by rw [size_push']; exact Nat.lt_succ_of_lt lt)]
  exact Heap.get?_push_of_some _ q'
end
section
variable {X : Cx}
/-- sorted(d), the keys ints -/
theorem call_sortedD (hc : X.calm = true) : CallR X (.builtin "sorted") (fun xs H Q => ∃ (p : Addr) (kvs : List (Key × V)) (ns : List Int), xs = [.ref p] ∧ H p = some (.dK kvs) ∧ kvs.map (·.1) = ns.map Sum.inl ∧ ns.length < 64 ∧
    ∀ (l : Addr) (ns' : List Int), H l = none → ns'.Perm ns → ns'.Pairwise (· ≤ ·) → Q (.ref l) (upd H l (.lst (ns'.map V.int)))) := by
  intro pins s σ H xs us Q I r h
  obtain ⟨p, kvs, ns, rfl, hp, hk, hl, q⟩ := h
  obtain ⟨u, rfl, rx⟩ := vals1 r
  cases rx
  obtain ⟨_, lo, vs, rel, dd⟩ := dk_of I.hok hp
  obtain ⟨ep, hat⟩ := dd.dictAt
  have ek := rel.keys
  have len : ns.length = vs.length := by
    have := congrArg List.length (hk.symm.trans ek)
    simpa using this
  refine sorted_src (PySem.W.kdl_dict (knd := mixKind X.prog X.w) (kvs := vs) (ep := ep) lo) (I.ok.hd hc) hat (by omega) ns len (fun i v k hP hn => ?_) fun h' h2 tk out ns' c hkp hk2 hget a1 a2 a3 => ?_
  · obtain ⟨k', x, e1, e2⟩ := hP
    have e3 : (vs.map (·.1))[i]? = some k' := by rw [List.getElem?_map, e1]; rfl
    rw [← ek, hk, List.getElem?_map, hn] at e3
    cases Option.some.inj e3
    obtain ⟨t, e5⟩ : ∃ t, v = .int k t := by
      have e2' : keyIs (.inl k) v = true := e2
      rcases keyIs_shape e2' with ⟨j, t, e4, e5⟩ | ⟨j, t, e4, e5⟩
      · exact ⟨t, by rw [e5, Sum.inl.inj e4]⟩
      · cases e4
    exact ⟨t, e5⟩
  · have I2 := I.kept (t' := tk) hkp
    have fresh : H h'.objs.size = none := I2.hok.fresh (Nat.le_refl _)
    refine ⟨.ref h'.objs.size, _, I2.laid (t' := tk) (o := .lst (ns'.map V.int)) hk2 (Nat.le_refl _) ?_, rfl, q _ ns' fresh a2 a3⟩
    have big : 64 ≤ sizeLine := by decide
    exact ⟨by rw [List.length_map, a2.length_eq]; omega, out.toList, c, vals_ints a1, by simpa using hget⟩
end
end L2

/-! == of two lists of lists of ints, the same lists -/
namespace L2
open PySem PySem.Spec PyProof.Rows
/-- the lists at ps hold xss -/
structure LsAt (H : Hp) (ps : List Addr) (xss : List (List Int)) : Prop where
  len : ps.length = xss.length
  at_ : ∀ (i : Nat) p xs, ps[i]? = some p → xss[i]? = some xs → H p = some (.lst (xs.map V.int))
section
variable {X : Cx}
def rEqLL (K : PySem.W.Frag) : R2 := fun x y H Q => ∃ a b ps qs xss, x = .ref a ∧ y = .ref b ∧ SqL K H a (ps.map V.ref) ∧ SqL K H b (qs.map V.ref) ∧ LsAt H ps xss ∧ LsAt H qs xss ∧ Q (.bl true) H
theorem vals_refs : ∀ {ps : List Addr} {us : List Value}, Vals (ps.map V.ref) us → us = ps.map Value.ref
  | [], [], _ => rfl
  | [], _ :: _, r => by cases r
  | _ :: _, [], r => by cases r
  | p :: ps, u :: us, r => by
    cases r with
    | cons r1 r2 => cases (show u = Value.ref p from r1); rw [vals_refs r2]; rfl
end
end L2

/-! list comprehensions with one test: [elt for x in iter if cnd] -/
namespace L2
open PySem PySem.Spec PyProof.Rows
section
variable {prog : Program} {w : World} {A : Around} {R : Result → Shared → Prop} {s : Shared}
theorem codeAny_compLoop_F {elt target iter cnd : Expr} {scope : Scope} {pos : Pos} {it acc : Value} {env : Env} (I : Nat → Shared → Prop)
    (turn : ∀ n s, I n s → wpAny (model prog w) A (pyNext it) (fun r s₁ => match r with
      | none => R (.ok .next) s₁
      | some v => wpAny (model prog w) A (letOwnedTupleGo target it v) (fun _ s₂ => wpAny (model prog w) A (assign target env v) (fun _ s₂ => wpAny (model prog w) A (isTrue cnd env (eval cnd env)) (fun b s₂ => match b with
        | false => ∃ m, m < n ∧ I m s₂
        | true => wpAny (model prog w) A (eval elt env) (fun x s₃ =>
          wpAny (model prog w) A (call (.builtin "list.append") [acc, x]) (fun _ s₄ => ∃ m, m < n ∧ I m s₄) (notedBy (model prog w) A env fun e s' => R (.error e) s') s₃)
          (notedBy (model prog w) A env fun e s' => R (.error e) s') s₂) (notedBy (model prog w) A env fun e s' => R (.error e) s') s₂) (notedBy (model prog w) A env fun e s' => R (.error e) s') s₂) (notedBy (model prog w) A env fun e s' => R (.error e) s') s₁) (notedBy (model prog w) A env fun e s' => R (.error e) s') s)
    (n : Nat) (h : I n s) :
    codeAny (model prog w) A (.compLoop (.ListComp elt [⟨target, iter, [cnd], 0⟩] scope pos) 0 it acc env) R s := by
  refine codeAny_loop rfl I (fun n s hI => ?_) n h
  show wpAny _ _ ((compTurn (.ListComp elt [⟨target, iter, [cnd], 0⟩] scope pos) 0 it acc env).onRaise (fun x => do noteFrame x env; theTreesLotGoes x)) _ _ s
  refine wpAny_noted ?_
  rw [compTurn_list]
  refine wpAny_bind (wpAny_standAt (wpAny_bind (wpAny_mono (turn n s hI) (fun r s₁ h₁ => ?_) fun _ _ h' => h')))
  cases r with
  | none => exact wpAny_pure h₁
  | some v =>
    refine wpAny_bind (wpAny_mono h₁ (fun _ s₂ h₂ => ?_) fun _ _ h' => h')
    refine wpAny_bind (wpAny_mono h₂ (fun _ s₂ h₂ => ?_) fun _ _ h' => h')
    simp only [List.forIn_cons, List.forIn_nil, if_true]
    refine wpAny_bind (wpAny_bind (wpAny_bind (wpAny_mono h₂ (fun b s₃ h₃ => ?_) fun _ _ h' => h')))
    refine wpAny_pure (wpAny_pure ?_)
    cases b with
    | false => exact wpAny_pure ⟨rfl, h₃⟩
    | true =>
      exact wpAny_bind (wpAny_bind (wpAny_mono h₃ (fun x s₃ h₃ => wpAny_bind (wpAny_mono h₃ (fun _ s₄ h₄ => wpAny_pure (wpAny_pure ⟨rfl, h₄⟩)) fun _ _ h' => h')) fun _ _ h' => h'))
end
abbrev TTB := Shared → Hp → List Addr → TT
def tCompF (fv : List (Str × Nat)) (tc : TTB) (te : TEB) (σ : St) (J : It) (H1 : Hp) (Q : VK) : Prop :=
  ∀ D, H1 D = none → ∃ W : Nat → Nat → List V → Hp → Prop, (∃ m, W 0 m [] (upd H1 D (.lst []))) ∧
    ∀ i m ys H, W i m ys H → H D = some (.lst ys) ∧ ((J.stop i H ∧ Q (.ref D) H) ∨ (J.go i H ∧ ys.length < sizeLine ∧ ∀ x H', J.yld i H x H' →
      ∀ s₀ H₀ ex, tc s₀ H₀ ex (blkS fv σ (some x)) H' fun b H2 => match b with
        | false => ∃ m', m' < m ∧ W (i + 1) m' ys H2
        | true => te s₀ H₀ ex (blkS fv σ (some x)) H2 fun v H2 => H2 D = some (.lst ys) ∧ ∃ m', m' < m ∧ W (i + 1) m' (ys ++ [v]) (upd H2 D (.lst (ys ++ [v])))))
def tCompFt (wi : TI) (fv : List (Str × Nat)) (tc : TTB) (te : TEB) : TE := fun σ H Q => wi σ H fun J H1 => tCompF fv tc te σ J H1 Q
section
variable {X : Cx} {x : Str} {fv : List (Str × Nat)} {scope : Scope} {cl : List (Str × Addr)} {pins : List (Addr × Obj)} {σ : St} {px pos : Pos} {iter elt cnd : Expr} {te : TEB} {tc : TTB}
theorem comp_blockF {s2 : Shared} {H2 : Hp} {it : Addr} {fp : List Addr} {tn : Nat → Heap → Prop} {J : It} (ok : CompOk X x fv scope cl) (hc : X.calm = true)
    (he : ∀ s₀ H₀ ex, PE (blk X (x :: fv.map (·.1)) scope cl s₀ H₀ ex NoX) elt (te s₀ H₀ ex)) (hcd : ∀ s₀ H₀ ex, PT (blk X (x :: fv.map (·.1)) scope cl s₀ H₀ ex NoX) cnd (tc s₀ H₀ ex)) (I2 : Inv X pins σ H2 s2) (T : Turn X.prog X.w X.K (.Name x px) J fp it tn) (st2 : tn 0 s2.heap) (f2 : ∀ b ∈ fp, FpOk X pins H2 b)
    {Qv : VK} (hQ : tCompF fv tc te σ J H2 Qv) {RR : Value → Addr → Result → Shared → Prop}
    (hRR : ∀ D C m' H' s', Inv X pins σ H' s' → s'.heap.Ns C m' → FpOk X pins H' C → Qv (.ref D) H' → RR (.ref D) C (.ok .next) s') :
    wpAny (model X.prog X.w) X.A (newList []) (fun acc s₃ => wpAny (model X.prog X.w) X.A (newFunctionEnv scope X.env.globals cl [] X.env.qual none .none (some X.env)) (fun cenv s₄ =>
      codeAny (model X.prog X.w) X.A (.compStart (.ListComp elt [⟨.Name x px, iter, [cnd], 0⟩] scope pos) 0 (.ref it) acc { cenv with scope := relabel scope X.env }) (RR acc cenv.locals) s₄) X.xe s₃) X.xe s2 := by
  refine wpAny_newObj_type (wpAny_newFunctionEnv ok.nocell (by intro y hy; simp at hy) (fun h₁ hns₁ hsb₁ => ?_) ok.kind)
  dsimp only at hns₁ hsb₁ ⊢
  have I3 : Inv X pins σ (upd H2 s2.heap.objs.size (.lst [])) { s2 with heap := s2.heap.push { cls := .type "list", dict := none, data := .seq ([] : List Value).toArray } } :=
    I2.laid (t' := s2.toks) (fun b o e => Heap.get?_push_of_some _ e) (Nat.le_refl _) ⟨Nat.zero_le _, [], 0, .nil, Heap.get?_push_size _ rfl⟩
  have hD : H2 s2.heap.objs.size = none := I2.hok.fresh (Nat.le_refl _)
  generalize hs3 : ({ s2 with heap := s2.heap.push { cls := .type "list", dict := none, data := .seq ([] : List Value).toArray } } : Shared) = s3 at I3
  have eh : s2.heap.push { cls := .type "list", dict := none, data := .seq ([] : List Value).toArray } = s3.heap := by rw [← hs3]
  rw [eh] at hns₁ hsb₁ ⊢
  have fl : ∀ b ∈ fp, b < s2.heap.objs.size := fun b hb => by
    obtain ⟨o, e, _⟩ := T.obj _ _ st2 b hb
    exact Heap.lt_size e
  have sz3 : s3.heap.objs.size = s2.heap.objs.size + 1 := by rw [← eh, Heap.size_push]
  have f3 : ∀ b ∈ fp, FpOk X pins (upd H2 s2.heap.objs.size (.lst [])) b := fun b hb => ⟨by rw [upd_ne (Nat.ne_of_lt (fl b hb))]; exact (f2 b hb).1, (f2 b hb).2⟩
  have fl3 : ∀ b ∈ fp, b < s3.heap.objs.size := fun b hb => by rw [sz3]; exact Nat.lt_succ_of_lt (fl b hb)
  have old3 : ∀ b o, s3.heap.get? b = some o → h₁.get? b = some o := fun b o e => hsb₁.extBut b o (Nat.ne_of_lt (Heap.lt_size e)) (Heap.get?_push_of_some _ e)
  have old2 : ∀ b o, s2.heap.get? b = some o → h₁.get? b = some o := fun b o e => old3 b o (by rw [← eh]; exact Heap.get?_push_of_some _ e)
  have st1 : tn 0 h₁ := T.keep _ _ _ st2 fun b _ o e => old2 b o e
  have IY := blk_start (E := NoX) I3 ok f3 fl3 hns₁ old3 (s3.toks + ([] : List (Str × Value)).length)
  obtain ⟨W, ⟨m0, w0⟩, turn⟩ := hQ s2.heap.objs.size hD
  have loop : ∀ s4 : Shared, s4 = { s3 with heap := h₁, toks := s3.toks + ([] : List (Str × Value)).length } →
      codeAny (model X.prog X.w) X.A (.compLoop (.ListComp elt [⟨.Name x px, iter, [cnd], 0⟩] scope pos) 0 (.ref it) (.ref s2.heap.objs.size) (compEnvC scope cl s3.heap.objs.size X.env)) (RR (.ref s2.heap.objs.size) s3.heap.objs.size) s4 := by
    rintro s4 rfl
    have stat : ∀ {H' : Hp}, (∀ b ∈ fp, H' b = none) → ∀ b ∈ fp, FpOk (blk X (x :: fv.map (·.1)) scope cl s3 (upd H2 s2.heap.objs.size (.lst [])) fp NoX) [] H' b := fun hn b hb =>
      ⟨hn b hb, Nat.ne_of_lt (fl3 b hb), fun z => by
        rcases List.mem_cons.mp (I3.stkSub b z) with e | e
        · exact (f2 b hb).2.1 e
        · exact (f2 b hb).2.2.1 e, .inl hb, fun y c h => (f2 b hb).2.2.2.2.1 y c (ok.sub h), fun p hp => absurd (show p ∈ ([] : List (Addr × Obj)) from hp) (by simp)⟩
    refine codeAny_compLoop_F (fun n s' => ∃ i o H' ys, Inv (blk X (x :: fv.map (·.1)) scope cl s3 (upd H2 s2.heap.objs.size (.lst [])) fp NoX) [] (blkS fv σ o) H' s' ∧ tn i s'.heap ∧ (∀ b ∈ fp, H' b = none) ∧ W i n ys H') ?_ m0
      ⟨0, none, _, [], IY, st1, fun b hb => (f3 b hb).1, w0⟩
    rintro n s5 ⟨i, o, H5, ys, I5, st5, fr5, w5⟩
    obtain ⟨hD5, w5⟩ := turn i n ys H5 w5
    rcases w5 with ⟨stop, qn⟩ | ⟨go, hsz, step⟩
    · refine wpAny_mono (T.done (blk X (x :: fv.map (·.1)) scope cl s3 (upd H2 s2.heap.objs.size (.lst [])) fp NoX) rfl rfl rfl hc i [] s5 _ H5 NoX I5 (stat fr5) st5 stop) (fun r s6 ⟨hr, I6⟩ => ?_) fun _ _ z => z.elim
      subst hr
      obtain ⟨m', hm', _⟩ := I6.loc
      have I7 : Inv X pins σ H5 s6 := I3.call' (ch := fp) (by rw [I6.os]) I6.base I6.hok I6.bare fun b hb => ⟨(f2 b hb).2.2.2.1, (f2 b hb).2.1, (f2 b hb).2.2.2.2.1, (f2 b hb).2.2.2.2.2⟩
      exact hRR _ _ m' H5 s6 I7 hm' (I3.fpOk (Nat.le_refl _) I6.free) qn
    · refine wpAny_mono (T.item (blk X (x :: fv.map (·.1)) scope cl s3 (upd H2 s2.heap.objs.size (.lst [])) fp NoX) rfl rfl rfl hc i [] s5 _ H5 NoX I5 (stat fr5) st5 go) (fun r s6 ⟨u, hr, h6⟩ => ?_) fun _ _ z => z.elim
      subst hr
      refine wpAny_mono h6 (fun _ s7 ⟨v, H7, I7, r7, y7, st7, fr7⟩ => ?_) fun _ _ z => z.elim
      have I7' := I7.pinned (stat fr7) (T.obj _ _ st7)
      have hx : Loc (blk X (x :: fv.map (·.1)) scope cl s3 (upd H2 s2.heap.objs.size (.lst [])) fp NoX).env.scope x := .inl (lookup_relabel_local ok.here)
      refine wpAny_assign_Name (store_ok (X := blk X (x :: fv.map (·.1)) scope cl s3 (upd H2 s2.heap.objs.size (.lst [])) fp NoX) (i := 0) I7' ok.nd rfl hx r7 (fun s8 I8 => ?_) (.inr (lookup_relabel_local ok.here)))
      refine wpAny_mono (hcd s3 _ fp _ s8 (blkS fv σ (some v)) H7 _ I8 (step v H7 y7 _ _ _)) (fun bb s8' ⟨H8, I8', q8⟩ => ?_) fun _ _ z => z.elim
      cases bb with
      | false =>
        obtain ⟨m', hm', w9⟩ := q8
        refine ⟨m', hm', i + 1, some v, _, ys, I8'.unpinned, T.keep _ _ _ st7 fun b hb o e => (I8'.pin (b, o) (List.mem_append_right _ (List.mem_append_right _ (mem_pinsAt hb e)))).1, fun b hb => ?_, w9⟩
        obtain ⟨o, e, d⟩ := T.obj _ _ st7 b hb
        exact (I8'.pin (b, o) (List.mem_append_right _ (List.mem_append_right _ (mem_pinsAt hb e)))).2.1
      | true =>
        refine wpAny_mono (he s3 _ fp _ s8' (blkS fv σ (some v)) H8 _ I8' q8) (fun u9 s9 ⟨v9, H9, I9, r9, hD9, m', hm', w9⟩ => ?_) fun _ _ z => z.elim
        refine wpAny_mono (mt_append (X := blk X (x :: fv.map (·.1)) scope cl s3 (upd H2 s2.heap.objs.size (.lst [])) fp NoX) _ s9 _ H9 (.ref s2.heap.objs.size) [v9] (.ref s2.heap.objs.size) [u9]
          (fun _ H10 => H10 = upd H9 s2.heap.objs.size (.lst (ys ++ [v9]))) I9 rfl (.cons r9 .nil) ⟨_, ys, v9, rfl, rfl, hD9, hsz, rfl⟩) (fun _ s10 ⟨_, H10, I10, _, e10⟩ => ?_) fun _ _ z => z.elim
        subst e10
        refine ⟨m', hm', i + 1, some v, _, ys ++ [v9], I10.unpinned, T.keep _ _ _ st7 fun b hb o e => (I10.pin (b, o) (List.mem_append_right _ (List.mem_append_right _ (mem_pinsAt hb e)))).1, fun b hb => ?_, w9⟩
        obtain ⟨o, e, d⟩ := T.obj _ _ st7 b hb
        exact (I10.pin (b, o) (List.mem_append_right _ (List.mem_append_right _ (mem_pinsAt hb e)))).2.1
  exact codeAny_compStart_list (loop _ (by rw [← hs3])) (T.self _ 0 _ _ _ st1 (loop _ (by rw [← hs3])))
/-- [elt for x in iter] as a value -/
theorem pe_compF {wi : TI} (ok : CompOk X x fv scope cl) (hc : X.calm = true) (hi : PI X (.Name x px) iter wi) (he : ∀ s₀ H₀ ex, PE (blk X (x :: fv.map (·.1)) scope cl s₀ H₀ ex NoX) elt (te s₀ H₀ ex)) (hcd : ∀ s₀ H₀ ex, PT (blk X (x :: fv.map (·.1)) scope cl s₀ H₀ ex NoX) cnd (tc s₀ H₀ ex))
    (hs : ∀ v, foldedSetIterable iter X.env v = pure v := by intro _; rfl) : PE X (.ListComp elt [⟨.Name x px, iter, [cnd], 0⟩] scope pos) (tCompFt wi fv tc te) := by
  intro pins s σ H Q I h
  rw [eval_ListComp]
  refine wpAny_comprehension_free (use := none) rfl hs ok.clos ok.kind ok.names (thn (hi pins s σ H _ I h) fun v s1 h1 => thn h1 fun itv s2 h2 => ?_)
  obtain ⟨it, fp, tn, J, H2, rfl, I2, T, st2, f2, hQ⟩ := h2
  refine comp_blockF (RR := fun acc C => compPost (model X.prog X.w) X.A X.xe none (EP X pins σ Q) acc C) ok hc he hcd I2 T st2 f2 hQ ?_
  intro D C m' H' s' I' hn fC q
  exact ⟨m', hn, fun h' hs' => ⟨.ref D, H', I'.turned (t' := s'.toks) (fun b o hb e => hs'.extBut b o hb e) fC.1 fC.2.1 fC.2.2.2.1 fC.2.2.2.2.1 fC.2.2.2.2.2, rfl, q⟩⟩
/-- y = [elt for x in iter], stored within the block -/
theorem ps_setCompF {wi : TI} {i : Nat} {y : Str} {py spos : Pos} (hN : X.N.Nodup) (hiy : X.N[i]? = some y) (hy : Loc X.env.scope y) (ok : CompOk X x fv scope cl) (hc : X.calm = true) (hi : PI X (.Name x px) iter wi) (he : ∀ s₀ H₀ ex, PE (blk X (x :: fv.map (·.1)) scope cl s₀ H₀ ex NoX) elt (te s₀ H₀ ex)) (hcd : ∀ s₀ H₀ ex, PT (blk X (x :: fv.map (·.1)) scope cl s₀ H₀ ex NoX) cnd (tc s₀ H₀ ex))
    (hsw : swapsWith (.ListComp elt [⟨.Name x px, iter, [cnd], 0⟩] scope pos) (some (.Name y py)) spos.line X.env = pure true := by rfl)
    (hs : ∀ v, foldedSetIterable iter X.env v = pure v := by intro _; rfl) (hf : X.fn y = true ∨ X.env.scope.names.lookup y = some .local := by first | exact .inl rfl | exact .inr rfl | assumption) :
    PS X (.Assign [.Name y py] (.ListComp elt [⟨.Name x px, iter, [cnd], 0⟩] scope pos) spos) (tAsg (tCompFt wi fv tc te) (gName i)) := by
  intro pins s σ H D I h
  rw [exec_Assign_Name_used _ _ _ _ hsw]
  refine wpAny_bind (wpAny_standAt (wpAny_bind ?_))
  show wpAny _ _ (do let _ ← comprehension (.ListComp elt [⟨.Name x px, iter, [cnd], 0⟩] scope pos) scope X.env _ (newList []) false (eval iter X.env) (some (assign (.Name y py) X.env))) _ _ s
  refine wpAny_bind (wpAny_mono (wpAny_comprehension_free (use := some (assign (.Name y py) X.env)) (Q := fun _ s' => SP X pins D .next s') rfl hs ok.clos ok.kind ok.names
    (thn (hi pins s σ H _ I h) fun v s1 h1 => thn h1 fun itv s2 h2 => ?_)) (fun _ s' hq => wpAny_pure (wpAny_pure hq)) fun _ _ e => e)
  obtain ⟨it, fp, tn, J, H2, rfl, I2, T, st2, f2, hQ⟩ := h2
  refine comp_blockF (RR := fun acc C => compPost (model X.prog X.w) X.A X.xe (some (assign (.Name y py) X.env)) (fun _ s' => SP X pins D .next s') acc C) ok hc he hcd I2 T st2 f2 hQ ?_
  intro D' C m' H' s' I' hn fC q
  show wpAny _ _ (assign (.Name y py) X.env (.ref D')) _ _ _
  refine wpAny_assign_Name (store_ok2 (v := .ref D') I' hN hiy hy rfl (fun s'' I'' hab => ?_) hf)
  obtain ⟨a, hsb, ha⟩ := hab
  have haC : C ≠ a := by
    rcases ha with e | e
    · rw [e]; exact fC.2.1
    · exact (fC.2.2.2.2.1 y a e).symm
  exact ⟨m', hn.sameBut hsb haC, fun h' hs' => ⟨_, H', I''.turned (t' := s''.toks) (fun b o hb e => hs'.extBut b o hb e) fC.1 fC.2.1 fC.2.2.2.1 fC.2.2.2.2.1 fC.2.2.2.2.2, q⟩⟩
/-- over a range, the test and the elements only lay new things -/
theorem comp_rangeF {lo : Int} {n : Nat} {H1 : Hp} {Q : VK} (p : Nat → Bool) (f : Nat → V) (hn : n ≤ sizeLine)
    (ct : ∀ (i : Nat) (H' : Hp) (R : Bool → Hp → Prop), i < n → Same H1 H' → (∀ H2, Same H' H2 → R (p i) H2) → ∀ s₀ H₀ ex, tc s₀ H₀ ex (blkS fv σ (some (.int (lo + i)))) H' R)
    (el : ∀ (i : Nat) (H' : Hp) (R : VK), i < n → p i = true → Same H1 H' → (∀ H2, Same H' H2 → R (f i) H2) → ∀ s₀ H₀ ex, te s₀ H₀ ex (blkS fv σ (some (.int (lo + i)))) H' R)
    (fin : ∀ D H2, H1 D = none → Same H1 H2 → H2 D = some (.lst (((List.range n).filter p).map f)) → Q (.ref D) H2) : tCompF fv tc te σ (Itr lo n) H1 Q := by
  intro D hD
  have sd : ∀ {H2 : Hp} {o : HO}, Same H1 H2 → Same H1 (upd H2 D o) := fun {H2 o} s b u e => by
    rw [upd_ne (ne_of_none e hD)]; exact s b u e
  refine ⟨fun i m ys H => m = n - i ∧ i ≤ n ∧ ys = ((List.range i).filter p).map f ∧ Same H1 H ∧ H D = some (.lst ys), ⟨n, by simp, Nat.zero_le _, rfl, sd (Same.refl H1), upd_same⟩, ?_⟩
  rintro i m ys H ⟨rfl, hi, rfl, sm, hDi⟩
  refine ⟨hDi, ?_⟩
  by_cases hlt : i < n
  · have len : (((List.range i).filter p).map f).length ≤ i := by
      rw [List.length_map]
      exact Nat.le_trans (List.length_filter_le _ _) (by rw [List.length_range]; exact Nat.le_refl _)
    refine .inr ⟨hlt, by omega, fun x H' y => ?_⟩
    obtain ⟨e, y⟩ := y
    subst e y
    intro s₀ H₀ ex
    refine ct i _ _ hlt sm (fun H2 s2 => ?_) s₀ H₀ ex
    cases q : p i with
    | false =>
      refine ⟨n - (i + 1), by omega, rfl, hlt, ?_, sm.trans s2, s2 D _ hDi⟩
      rw [List.range_succ, List.filter_append, List.map_append, List.filter_cons_of_neg (by rw [q]; decide), List.filter_nil, List.map_nil, List.append_nil]
    | true =>
      refine el i H2 _ hlt q (sm.trans s2) (fun H3 s3 => ⟨s3 D _ (s2 D _ hDi), n - (i + 1), by omega, rfl, hlt, ?_, sd ((sm.trans s2).trans s3), upd_same⟩) s₀ H₀ ex
      rw [List.range_succ, List.filter_append, List.map_append, List.filter_cons_of_pos q, List.filter_nil]
      rfl
  · have e : i = n := by omega
    subst e
    exact .inl ⟨Nat.le_refl _, fin D H hD sm hDi⟩
/-- over a list that stays -/
theorem comp_listF {K : PySem.W.Frag} {a : Addr} {xs : List V} {H1 : Hp} {Q : VK} (p : Nat → Bool) (f : Nat → V) (hq : SqL K H1 a xs) (hn : xs.length ≤ sizeLine)
    (ct : ∀ (i : Nat) (x : V) (H' : Hp) (R : Bool → Hp → Prop), xs[i]? = some x → Same H1 H' → (∀ H2, Same H' H2 → R (p i) H2) → ∀ s₀ H₀ ex, tc s₀ H₀ ex (blkS fv σ (some x)) H' R)
    (el : ∀ (i : Nat) (x : V) (H' : Hp) (R : VK), xs[i]? = some x → p i = true → Same H1 H' → (∀ H2, Same H' H2 → R (f i) H2) → ∀ s₀ H₀ ex, te s₀ H₀ ex (blkS fv σ (some x)) H' R)
    (fin : ∀ D H2, H1 D = none → Same H1 H2 → H2 D = some (.lst (((List.range xs.length).filter p).map f)) → Q (.ref D) H2) : tCompF fv tc te σ (Itl K a) H1 Q := by
  intro D hD
  have sd : ∀ {H2 : Hp} {o : HO}, Same H1 H2 → Same H1 (upd H2 D o) := fun {H2 o} s b u e => by
    rw [upd_ne (ne_of_none e hD)]; exact s b u e
  refine ⟨fun i m ys H => m = xs.length - i ∧ i ≤ xs.length ∧ ys = ((List.range i).filter p).map f ∧ Same H1 H ∧ H D = some (.lst ys), ⟨xs.length, by simp, Nat.zero_le _, rfl, sd (Same.refl H1), upd_same⟩, ?_⟩
  rintro i m ys H ⟨rfl, hi, rfl, sm, hDi⟩
  have hq' := sm.seq hq
  refine ⟨hDi, ?_⟩
  by_cases hlt : i < xs.length
  · have len : (((List.range i).filter p).map f).length ≤ i := by
      rw [List.length_map]
      exact Nat.le_trans (List.length_filter_le _ _) (by rw [List.length_range]; exact Nat.le_refl _)
    refine .inr ⟨⟨xs, xs[i], hq', by simp [hlt]⟩, by omega, fun x H' y => ?_⟩
    obtain ⟨e, y⟩ := y
    subst e
    have hx := y xs hq'
    intro s₀ H₀ ex
    refine ct i x _ _ hx sm (fun H2 s2 => ?_) s₀ H₀ ex
    cases q : p i with
    | false =>
      refine ⟨xs.length - (i + 1), by omega, rfl, hlt, ?_, sm.trans s2, s2 D _ hDi⟩
      rw [List.range_succ, List.filter_append, List.map_append, List.filter_cons_of_neg (by rw [q]; decide), List.filter_nil, List.map_nil, List.append_nil]
    | true =>
      refine el i x H2 _ hx q (sm.trans s2) (fun H3 s3 => ⟨s3 D _ (s2 D _ hDi), xs.length - (i + 1), by omega, rfl, hlt, ?_, sd ((sm.trans s2).trans s3), upd_same⟩) s₀ H₀ ex
      rw [List.range_succ, List.filter_append, List.map_append, List.filter_cons_of_pos q, List.filter_nil]
      rfl
  · have e : i = xs.length := by omega
    subst e
    exact .inl ⟨⟨xs, hq', Nat.le_refl _⟩, fin D H hD sm hDi⟩
end
/-! == and != of two lists of the very same things -/
section
variable {X : Cx}
def seenV : V → Bool
  | .ref _ => true
  | v => flatV v
def rEqS (K : PySem.W.Frag) (neg : Bool) : R2 := fun x y H Q => ∃ a b xs, x = .ref a ∧ y = .ref b ∧ SqL K H a xs ∧ SqL K H b xs ∧ xs.all seenV = true ∧ (∀ x ∈ xs, flatV x = true → eqV x x = true) ∧ Q (.bl (!neg)) H
end
end L2

namespace L2
open PySem PySem.Spec PyProof.Rows
/-! ### enumerate(a list), walked by two names -/
section
variable {X : Cx} {pins : List (Addr × Obj)} {σ : St} {H : Hp} {s : Shared} {h' : Heap}
end
/-- (0, x0), (1, x1), .. of the list at a -/
def Ite (K : PySem.W.Frag) (a : Addr) : It :=
  ⟨fun i H => ∃ xs x, SqL K H a xs ∧ xs[i]? = some x, fun i H v H' => ∃ T x, v = .ref T ∧ H T = none ∧ H' = upd H T (.tup [.int (i : Nat), x]) ∧ ∀ xs, SqL K H a xs → xs[i]? = some x, fun i H => ∃ xs, SqL K H a xs ∧ xs.length ≤ i⟩
section
variable {X : Cx}
def iEnum (K : PySem.W.Frag) (ta : TA) : TI := fun σ H R => ta σ H fun vs H1 => ∃ a, vs = [.ref a] ∧ (∃ xs, SqL K H1 a xs) ∧ R (Ite K a) H1
end
end L2

/-! a flat tuple in a list of flat tuples -/
namespace L2
open PySem PySem.Spec PyProof.Rows
/-- the tuples at ps hold xss -/
structure TsAt (H : Hp) (ps : List Addr) (xss : List (List V)) : Prop where
  len : ps.length = xss.length
  at_ : ∀ (i : Nat) p xs, ps[i]? = some p → xss[i]? = some xs → H p = some (.tup xs)
theorem TsAt.keep {H H' : Hp} {ps : List Addr} {xss : List (List V)} (h : TsAt H ps xss) (s : ∀ p xs, p ∈ ps → H p = some (.tup xs) → H' p = some (.tup xs)) : TsAt H' ps xss := ⟨h.len, fun i p xs a b => s _ _ (List.mem_of_getElem? a) (h.at_ i p xs a b)⟩
theorem TsAt.same {H H' : Hp} {ps : List Addr} {xss : List (List V)} (h : TsAt H ps xss) (s : Same H H') : TsAt H' ps xss := h.keep fun _ _ _ e => s _ _ e
theorem TsAt.nil {H : Hp} : TsAt H [] [] := ⟨rfl, fun i p r h1 h2 => by cases h1⟩
theorem TsAt.snoc {H : Hp} {ps : List Addr} {xss : List (List V)} (h : TsAt H ps xss) {t : Addr} {r : List V} (ht : H t = some (.tup r)) : TsAt H (ps ++ [t]) (xss ++ [r]) := by
  refine ⟨by rw [List.length_append, List.length_append, h.len]; rfl, fun i p q a b => ?_⟩
  by_cases c : i < ps.length
  · rw [List.getElem?_append_left c] at a
    rw [List.getElem?_append_left (by rw [← h.len]; exact c)] at b
    exact h.at_ i p q a b
  · have hi : i = ps.length := by
      have := (List.getElem?_eq_some_iff.mp a).1
      rw [List.length_append] at this
      have e1 : [t].length = 1 := rfl
      omega
    subst hi
    rw [List.getElem?_append_right (Nat.le_refl _), Nat.sub_self] at a
    rw [h.len, List.getElem?_append_right (Nat.le_refl _), Nat.sub_self] at b
    cases Option.some.inj a
    cases Option.some.inj b
    exact ht
theorem TsAt.get {H : Hp} {ps : List Addr} {xss : List (List V)} (h : TsAt H ps xss) {i : Nat} {xs : List V} (hx : xss[i]? = some xs) : ∃ p, ps[i]? = some p ∧ H p = some (.tup xs) := by
  have hi : i < ps.length := by rw [h.len]; exact (List.getElem?_eq_some_iff.mp hx).1
  exact ⟨ps[i], List.getElem?_eq_getElem hi, h.at_ i _ _ (List.getElem?_eq_getElem hi) hx⟩
theorem eqV_self {x : V} (h : flatV x = true) : eqV x x = true := by
  cases x with
  | non => rfl
  | bl b => show (b == b) = true; simp
  | int i => show (i == i) = true; simp
  | str z => show (z == z) = true; simp
  | _ => exact absurd (show false = true from h) Bool.false_ne_true
theorem eqVs_self : ∀ {xs : List V}, xs.all flatV = true → eqVs xs xs = true
  | [], _ => rfl
  | x :: xs, h => by
    rw [List.all_cons, Bool.and_eq_true] at h
    show (eqV x x && eqVs xs xs) = true
    rw [eqV_self h.1, eqVs_self h.2]; rfl
def eqT (H : Hp) (xs : List V) (a : Addr) : Bool := match H a with
  | some (.tup ys) => eqVs ys xs
  | _ => false
theorem any_eqT {H : Hp} {xs : List V} : ∀ {ps : List Addr} {xss : List (List V)}, TsAt H ps xss → ps.any (eqT H xs) = xss.any fun ys => eqVs ys xs
  | [], [], _ => rfl
  | [], _ :: _, h => by have := h.len; cases this
  | _ :: _, [], h => by have := h.len; cases this
  | p :: ps, ys :: xss, h => by
    have h1 : H p = some (.tup ys) := h.at_ 0 p ys rfl rfl
    have h2 : TsAt H ps xss := ⟨by have := h.len; simpa using this, fun i q zs a b => h.at_ (i + 1) q zs (by simpa using a) (by simpa using b)⟩
    rw [List.any_cons, List.any_cons, any_eqT h2]
    congr 1
    unfold eqT
    rw [h1]
section
variable {X : Cx}
def rInTs (K : PySem.W.Frag) (neg : Bool) : R2 := fun x y H Q => ∃ t p ps xs xss, x = .ref t ∧ y = .ref p ∧ H t = some (.tup xs) ∧ SqL K H p (ps.map V.ref) ∧ TsAt H ps xss ∧ xs.all flatV = true ∧ (∀ ys ∈ xss, ys.all flatV = true) ∧
  Q (.bl (if neg then !(xss.any fun ys => eqVs ys xs) else xss.any fun ys => eqVs ys xs)) H
theorem eqT_at {pins : List (Addr × Obj)} {σ : St} {H : Hp} {s : Shared} (I : Inv X pins σ H s) (hu1 : X.A.units + 1 < cLine) {t : Addr} {ps : List Addr} {xs : List V} {xss : List (List V)} (ht : H t = some (.tup xs)) (ts : TsAt H ps xss) (fx : xs.all flatV = true) (fs : ∀ ys ∈ xss, ys.all flatV = true) :
    ∀ a ∈ ps, SeqAt.EqAt X.A.in1 s (.ref a) (.ref t) (eqT H xs a) := by
  intro a ha
  obtain ⟨i, hi⟩ := List.getElem?_of_mem ha
  have hl : i < xss.length := by rw [← ts.len]; exact (List.getElem?_eq_some_iff.mp hi).1
  have h1 := ts.at_ i a _ hi (List.getElem?_eq_getElem hl)
  have f1 := fs _ (List.getElem_mem hl)
  generalize xss[i] = ys at h1 f1
  by_cases e : a = t
  · subst e
    have : eqT H xs a = true := by unfold eqT; rw [ht]; exact eqVs_self fx
    rw [this]; exact SeqAt.EqAt.same _
  · have he : eqT H xs a = eqVs ys xs := by unfold eqT; rw [h1]
    rw [he]
    obtain ⟨u1, v1, m1, _⟩ := I.tuple (SqT.of (K := X.K) h1)
    obtain ⟨u2, v2, m2, _⟩ := I.tuple (SqT.of (K := X.K) ht)
    have l1 := v1.length
    have l2 := v2.length
    have rc := SeqAt.RcAt.tuples (A := X.A.in1) (e := eAt ys xs) m1 m2 (by rw [Around.in1_units]; exact hu1) (fun i k1 k2 => eAt_at v1 v2 f1 fx i k1 k2)
    rw [List.size_toArray, List.size_toArray, ← l1, ← l2, eAt_allT] at rc
    exact SeqAt.EqAt.of_refs e rc
theorem op_notIn_ts (hu1 : X.A.units + 1 < cLine) : OpR X (compareOp .NotIn) (rInTs X.K true) := by
  intro pins s σ H x y v u Q I rx ry h
  obtain ⟨t, p, ps, xs, xss, rfl, rfl, ht, hp, ts, fx, fs, q⟩ := h
  cases rx
  cases ry
  obtain ⟨us, r1, p1, _⟩ := I.list hp
  have e1 := vals_refs r1
  subst e1
  refine SeqAt.notIn_listAt (fun u => match u with
    | .ref a => eqT H xs a
    | _ => false) p1.isList (fun w hw => ?_) ⟨.bl _, H, I, rfl, ?_⟩
  · have hw' : w ∈ ps.map Value.ref := by simpa using hw
    obtain ⟨a, ha, rfl⟩ := List.mem_map.mp hw'
    exact eqT_at I hu1 ht ts fx fs a ha
  · rw [show ((ps.map Value.ref).toArray.any fun u => match u with
      | .ref a => eqT H xs a
      | _ => false) = ps.any (eqT H xs) by simp [List.any_map, Function.comp_def], any_eqT ts]
    exact q
end
theorem comp_rangeF0 {fv : List (Str × Nat)} {σ : St} {tc : TTB} {te : TEB} {n : Nat} {H1 : Hp} {Q : VK} (p : Nat → Bool) (f : Nat → V) (hn : n ≤ sizeLine)
    (ct : ∀ (i : Nat) (H' : Hp) (R : Bool → Hp → Prop), i < n → Same H1 H' → (∀ H2, Same H' H2 → R (p i) H2) → ∀ s₀ H₀ ex, tc s₀ H₀ ex (blkS fv σ (some (nat i))) H' R)
    (el : ∀ (i : Nat) (H' : Hp) (R : VK), i < n → p i = true → Same H1 H' → (∀ H2, Same H' H2 → R (f i) H2) → ∀ s₀ H₀ ex, te s₀ H₀ ex (blkS fv σ (some (nat i))) H' R)
    (fin : ∀ D H2, H1 D = none → Same H1 H2 → H2 D = some (.lst (((List.range n).filter p).map f)) → Q (.ref D) H2) : tCompF fv tc te σ (Itr 0 n) H1 Q :=
  comp_rangeF p f hn (fun i H' R hi sm kk => by rw [Int.zero_add]; exact ct i H' R hi sm kk) (fun i H' R hi pi sm kk => by rw [Int.zero_add]; exact el i H' R hi pi sm kk) fin
end L2
namespace L2
open PySem PySem.Spec PyProof.Rows
section
variable {X : Cx} {x : Str} {C : Addr} {k j : Nat} {ps : List Str} {sp : Sp} {CX : CXT} {p pos : Pos}
theorem pe_makeD0 (D : CDef X.prog X.w X.K X.mg X.base CX x C k ps sp) (hE : NoE CX) (hr : Room j X.A) (hg : Gl X x) (hj : k + 1 ≤ j := by decide) (hdb : (x == ("__debug__" : Str)) = false := by decide) :
    PE X (.Call (.Name x p) [] [] pos) (tMake C sp [] E0 tNil) := by
  obtain ⟨f, fd, hm, M, hb, F⟩ := D.ex
  exact pe_make0 M F (hr.mono hj) hg hm hb .nil hE.pass hdb
end
end L2

/-! set(a list of ints), its len -/
namespace L2
open PySem PySem.Spec PyProof.Rows
def distinct (ns : List Int) : List Int := firstMet (fun i => ns.getD i 0) ns.length
section
variable {X : Cx}
end
end L2

/-! the table of a set of small ints: what is laid where -/
namespace L2
open PySem
abbrev Rise (xs : List Nat) : Prop := xs.Pairwise (· < ·)
end L2

namespace L2
open PySem
/-! ### a clean table -/
/-- the slots that are looked at for a hash -/
def seenC (mask : Nat) : Nat → Nat → Nat → List Nat
  | 0, _, _ => []
  | fuel + 1, i, p => (List.range (SetTable.runEnd mask i + 1 - i)).map (fun k => i + k) ++ seenC mask fuel (SetTable.leap mask i p).1 (SetTable.leap mask i p).2
/-- numbers as the bits of one -/
def bitsOf (l : List Nat) : Nat := l.foldl (fun m j => m ||| (1 <<< j)) 0
def coverC (mask h : Nat) : Bool := Nat.beq (bitsOf (seenC mask (SetTable.turns mask) (h % (mask + 1)) h)) (2 ^ (mask + 1) - 1)
theorem fmS (v : Nat) (r : List (Option Nat)) : (some v :: r).filterMap id = v :: r.filterMap id := rfl
theorem fmN (r : List (Option Nat)) : (none :: r).filterMap id = r.filterMap id := rfl
/-- the owners told so far: each number below k once -/
structure Owned (mask : Nat) (owner : Array (Option Nat)) (k : Nat) : Prop where
  size : owner.size = mask + 1
  perm : (owner.toList.filterMap id).Perm (List.range k)
end L2

namespace L2
open PySem
/-! ### a table laid anew -/
def layStep (mask : Nat) (acc : Option (Array (Option Nat) × Nat)) (h : Int) : Option (Array (Option Nat) × Nat) :=
  acc.bind fun x => (SetTable.layClean.free mask x.1 (SetTable.turns mask) (SetTable.bits h % (mask + 1)) (SetTable.bits h)).bind fun j => some (x.1.setIfInBounds j (some x.2), x.2 + 1)
def liveOf (mask : Nat) (owner : Array (Option Nat)) : List (Nat × Nat) := (List.range (mask + 1)).filterMap fun j => (owner.getD j none).map fun v => (j, v)
end L2

namespace L2
open PySem
/-! ### a free slot of a standing table -/
def advM (mask : Nat) (p : SetTable.Probe) : SetTable.Probe :=
  if p.more > 0 then { p with j := p.j + 1, more := p.more - 1 } else ⟨(SetTable.leap mask p.i p.perturb).1, SetTable.runEnd mask (SetTable.leap mask p.i p.perturb).1 - (SetTable.leap mask p.i p.perturb).1, (SetTable.leap mask p.i p.perturb).1, (SetTable.leap mask p.i p.perturb).2, p.dummy⟩
def seenP (mask : Nat) : Nat → SetTable.Probe → List Nat
  | 0, _ => []
  | fuel + 1, p => p.j :: seenP mask fuel (advM mask p)
def startP (mask h : Nat) : SetTable.Probe := ⟨h % (mask + 1), SetTable.runEnd mask (h % (mask + 1)) - h % (mask + 1), h % (mask + 1), h, none⟩
def coverP (mask h : Nat) : Bool := Nat.beq (bitsOf (seenP mask (10 * SetTable.turns mask) (startP mask h))) (2 ^ (mask + 1) - 1)
structure TOK (t : SetTable) (n : Nat) (led : Bool) : Prop where
  ms : t.mask = 7 ∨ t.mask = 31 ∨ t.mask = 127
  du : t.dummies = #[]
  pl : t.plain = true
  ld : t.led = led
  ri : Rise t.place.toList
  sz : t.place.size = n
  fu : n * 5 < t.mask * 3
end L2

namespace L2
open PySem
/-! ### one more element -/
end L2

namespace L2
open PySem PySem.Spec PyProof.Rows
/-! ### a set of small ints in the heap, its table known -/
def Small (es : Array (Int × Value)) : Prop := ∀ e ∈ es.toList, ∃ (m : Nat) (tk : Tok), e = ((m : Int), Value.int (m : Int) tk) ∧ m < 64
def SetW (h : Heap) (a : Addr) (ks : List Nat) (led : Bool) : Prop :=
  ∃ (o : Obj) (es : Array (Int × Value)) (ep : Nat) (t : SetTable), h.get? a = some o ∧ o.ExactSet ∧ o.data = .set es ep t ∧ TOK t es.size led ∧ Small es ∧ (es.toList.map (·.1)).Perm (ks.map fun (k : Nat) => (k : Int)) ∧ ks.Nodup
section
variable {prog : Program} {w : World} {A : Around} {E : Value → Shared → Prop} {s : Shared}
end
end L2

namespace L2
open PySem PySem.Spec PyProof.Rows
/-! ### set(a list of small ints), its table known -/
def keyStep (ks : List Nat) (m : Nat) : List Nat := if m ∈ ks then ks else ks ++ [m]
def keysOf (ns : List Nat) : List Nat := ns.foldl keyStep []
def keysAt (val : Nat → Nat) (i : Nat) : List Nat := keysOf ((List.range i).map val)
section
variable {prog : Program} {w : World} {A : Around} {R : Result → Shared → Prop} {I : Addr} {fp wr : List Addr} {G : Array GenState → Array GenState → Prop} {n : Nat} {P : Nat → Value → Prop} {St : Nat → Shared → Prop}
end
end L2

namespace L2
open PySem PySem.Spec PyProof.Rows
section
variable {prog : Program} {w : World} {A : Around} {E : Value → Shared → Prop} {s : Shared}
abbrev setBare (w : World) : Obj := { cls := .type "set", dict := none, data := .set #[] 0 (.fresh 0 0 (!w.params.followText "set-order")) }
end
end L2

namespace L2
open PySem PySem.Spec PyProof.Rows
/-! ### walking such a set -/
def orderW (w : World) (a : Addr) (ep : Nat) (es : Array (Int × Value)) : Array (Int × Value) := if w.params.followText "set-order" = true then pickOrder (w.params.setOrder a ep) es else es
section
variable {prog : Program} {w : World} {A : Around} {E : Value → Shared → Prop} {s : Shared} {a : Addr} {o : Obj} {es : Array (Int × Value)} {ep : Nat} {t : SetTable}
end
end L2

namespace L2
open PySem PySem.Spec PyProof.Rows
def SIt (w : World) (h : Heap) (I a : Addr) (i n ep : Nat) (t : SetTable) : Prop := ∃ (o : Obj) (slot : Nat), h.get? I = some o ∧ o.cls = .type "set_iterator" ∧ o.data = .fields #[.int (slot : Int) 0, .int (i : Int) 0, .ref a, .int (n : Int) 0, .int (ep : Int) 0] ∧ (w.params.followText "set-order" = false → SetTable.below t.place slot = i)
section
variable {prog : Program} {w : World} {A : Around} {E : Value → Shared → Prop} {s : Shared} {a I : Addr} {o : Obj} {es : Array (Int × Value)} {ep : Nat} {t : SetTable}
end
end L2

namespace L2
open PySem PySem.Spec PyProof.Rows
/-! ### sorted(set(xs)) -/
def SetO (w : World) (a : Addr) (ks : List Nat) : HO := .ext fun h => SetW h a ks (!w.params.followText "set-order")
section
variable {X : Cx}
end
end L2

/-! a text's index of a sign -/
namespace L2
open PySem PySem.Spec PyProof.Rows
section
variable {X : Cx}
def rIndexS : V → List V → Hp → VK → Prop := fun x vs H Q => ∃ (a b : Str) (i : Nat) (rest : List Nat), x = .str a ∧ vs = [.str b] ∧ Builtin.Str.occurrences a b 0 a.length 1 = i :: rest ∧ Q (.int (i : Int)) H
end
end L2

/-! sum(a list of lists, start=[]) -/
namespace L2
open PySem PySem.Spec PyProof.Rows
section
variable {prog : Program} {w : World} {A : Around} {R : Result → Shared → Prop} {I : Addr} {fp wr : List Addr} {G : Array GenState → Array GenState → Prop} {n : Nat} {P : Nat → Value → Prop} {St : Nat → Shared → Prop}
abbrev listO (its : List Value) (c : Nat) : Obj := { cls := .type "list", dict := none, data := .seq its.toArray c, slots := #[] }
def upTo (its : Nat → List Value) (i : Nat) : List Value := ((List.range i).map its).flatten
end
section
variable {prog : Program} {w : World} {A : Around} {E : Value → Shared → Prop} {s : Shared}
end
section
variable {X : Cx} {te ts : TE} {e st : Expr} {p pos kp : Pos}
def tSumK (K : PySem.W.Frag) (te ts : TE) : TE := fun σ H Q => te σ H fun x H1 => ts σ H1 fun y H2 => ∃ (a b : Addr) (ps : List Addr) (xss : List (List Int)), x = .ref a ∧ y = .ref b ∧ SqL K H2 a (ps.map V.ref) ∧ H2 b = some (.lst []) ∧ LsAt H2 ps xss ∧ 0 < ps.length ∧ xss.flatten.length ≤ sizeLine ∧
  ∀ D, H2 D = none → Q (.ref D) (upd H2 D (.lst (xss.flatten.map V.int)))
end
end L2

local macro_rules | `(tactic| walk_at "ns") => `(tactic| try dsimp only [List.set_cons_zero, List.set_cons_succ, _root_.L2.start, _root_.L2.gName, List.map_cons, List.map_nil, List.length_cons, List.length_nil, List.replicate_succ, List.replicate_zero, List.cons_append, List.nil_append, Nat.reduceSub, Nat.reduceAdd])
namespace Prf
open PySem L2 Kin
def top (i : Nat) : PySem.Stmt := PySem.Challenge.pw_kinturns_k12_whole_fitting.main.body.getD i (.Pass ⟨0, 0, 0, 0⟩)
structure Ad where
  KinError : Addr
  NoTable : Addr
  NoClass : Addr
  NoWalk : Addr
  NoPerson : Addr
  NoParents : Addr
  TooMany : Addr
  Book : Addr
structure Txt (K : PySem.W.Frag) (mg : Str → Option Value) (C : Addr) (e : Ad) : Prop where
  m_Book : mg "Book" = some (.ref e.Book)
  cl_Book : Cls K e.Book
  n_sexes : NoAttr K e.Book "sexes"
  n_fathers : NoAttr K e.Book "fathers"
  n_mothers : NoAttr K e.Book "mothers"
  n_partner_lists : NoAttr K e.Book "partner_lists"
  m_Table : mg "Table" = some (.ref C)
  cl_Table : Cls K C
  n_wife_turn : NoAttr K C "wife_turn"
  n_heir_turn : NoAttr K C "heir_turn"
  n_husband_turn : NoAttr K C "husband_turn"
  n_father_turn : NoAttr K C "father_turn"
  z_ValueError : mg "ValueError" = none
  z_bool : mg "bool" = none
  z_int : mg "int" = none
  z_isinstance : mg "isinstance" = none
  z_len : mg "len" = none
  z_list : mg "list" = none
  z_range : mg "range" = none
  z_sorted : mg "sorted" = none
  g_LETTERS : ∃ u, mg "LETTERS" = some u ∧ RelV (.str "fmsdpbz") u
  g_LETTERS_TO_MEN : ∃ u, mg "LETTERS_TO_MEN" = some u ∧ RelV (.str "fsb") u
  g_MOST_LETTERS : ∃ u, mg "MOST_LETTERS" = some u ∧ RelV (.int 60) u
  g_LETTERS_THAT_HANG : ∃ u, mg "LETTERS_THAT_HANG" = some u ∧ RelV (.str "fmpsd") u
  g_MOST_PERSONS : ∃ u, mg "MOST_PERSONS" = some u ∧ RelV (.int 60) u
  g_MOST_CLASSES : ∃ u, mg "MOST_CLASSES" = some u ∧ RelV (.int 8) u
  kd : PySem.W.specialIn K (.builtin "object.__class__") "__get__" = some (some (.builtin "getset_descriptor.__get__")) ∧ PySem.W.takesIn K (.builtin "object.__class__") = some true
  m_KinError : mg "KinError" = some (.ref e.KinError)
  m_NoTable : mg "NoTable" = some (.ref e.NoTable)
  x_NoTable : PySem.W.excIn K e.NoTable bmVE "ValueError.__new__" = true
  c_NoTable : ExcCls K e.NoTable
  w_NoTable : PySem.W.exmOne K (.ref e.NoTable) (.ref e.KinError) = some true
  v_NoTable : PySem.W.kitOne K (.ref e.NoTable) (.type "ValueError") = some true
  k_NoTable_NoTable : PySem.W.kitOne K (.ref e.NoTable) (.ref e.NoTable) = some true
  k_NoTable_NoClass : PySem.W.kitOne K (.ref e.NoTable) (.ref e.NoClass) = some false
  k_NoTable_NoWalk : PySem.W.kitOne K (.ref e.NoTable) (.ref e.NoWalk) = some false
  k_NoTable_NoPerson : PySem.W.kitOne K (.ref e.NoTable) (.ref e.NoPerson) = some false
  k_NoTable_NoParents : PySem.W.kitOne K (.ref e.NoTable) (.ref e.NoParents) = some false
  k_NoTable_TooMany : PySem.W.kitOne K (.ref e.NoTable) (.ref e.TooMany) = some false
  m_NoClass : mg "NoClass" = some (.ref e.NoClass)
  x_NoClass : PySem.W.excIn K e.NoClass bmVE "ValueError.__new__" = true
  c_NoClass : ExcCls K e.NoClass
  w_NoClass : PySem.W.exmOne K (.ref e.NoClass) (.ref e.KinError) = some true
  v_NoClass : PySem.W.kitOne K (.ref e.NoClass) (.type "ValueError") = some true
  k_NoClass_NoTable : PySem.W.kitOne K (.ref e.NoClass) (.ref e.NoTable) = some false
  k_NoClass_NoClass : PySem.W.kitOne K (.ref e.NoClass) (.ref e.NoClass) = some true
  k_NoClass_NoWalk : PySem.W.kitOne K (.ref e.NoClass) (.ref e.NoWalk) = some false
  k_NoClass_NoPerson : PySem.W.kitOne K (.ref e.NoClass) (.ref e.NoPerson) = some false
  k_NoClass_NoParents : PySem.W.kitOne K (.ref e.NoClass) (.ref e.NoParents) = some false
  k_NoClass_TooMany : PySem.W.kitOne K (.ref e.NoClass) (.ref e.TooMany) = some false
  m_NoWalk : mg "NoWalk" = some (.ref e.NoWalk)
  x_NoWalk : PySem.W.excIn K e.NoWalk bmVE "ValueError.__new__" = true
  c_NoWalk : ExcCls K e.NoWalk
  w_NoWalk : PySem.W.exmOne K (.ref e.NoWalk) (.ref e.KinError) = some true
  v_NoWalk : PySem.W.kitOne K (.ref e.NoWalk) (.type "ValueError") = some true
  k_NoWalk_NoTable : PySem.W.kitOne K (.ref e.NoWalk) (.ref e.NoTable) = some false
  k_NoWalk_NoClass : PySem.W.kitOne K (.ref e.NoWalk) (.ref e.NoClass) = some false
  k_NoWalk_NoWalk : PySem.W.kitOne K (.ref e.NoWalk) (.ref e.NoWalk) = some true
  k_NoWalk_NoPerson : PySem.W.kitOne K (.ref e.NoWalk) (.ref e.NoPerson) = some false
  k_NoWalk_NoParents : PySem.W.kitOne K (.ref e.NoWalk) (.ref e.NoParents) = some false
  k_NoWalk_TooMany : PySem.W.kitOne K (.ref e.NoWalk) (.ref e.TooMany) = some false
  m_NoPerson : mg "NoPerson" = some (.ref e.NoPerson)
  x_NoPerson : PySem.W.excIn K e.NoPerson bmVE "ValueError.__new__" = true
  c_NoPerson : ExcCls K e.NoPerson
  w_NoPerson : PySem.W.exmOne K (.ref e.NoPerson) (.ref e.KinError) = some true
  v_NoPerson : PySem.W.kitOne K (.ref e.NoPerson) (.type "ValueError") = some true
  k_NoPerson_NoTable : PySem.W.kitOne K (.ref e.NoPerson) (.ref e.NoTable) = some false
  k_NoPerson_NoClass : PySem.W.kitOne K (.ref e.NoPerson) (.ref e.NoClass) = some false
  k_NoPerson_NoWalk : PySem.W.kitOne K (.ref e.NoPerson) (.ref e.NoWalk) = some false
  k_NoPerson_NoPerson : PySem.W.kitOne K (.ref e.NoPerson) (.ref e.NoPerson) = some true
  k_NoPerson_NoParents : PySem.W.kitOne K (.ref e.NoPerson) (.ref e.NoParents) = some false
  k_NoPerson_TooMany : PySem.W.kitOne K (.ref e.NoPerson) (.ref e.TooMany) = some false
  m_NoParents : mg "NoParents" = some (.ref e.NoParents)
  x_NoParents : PySem.W.excIn K e.NoParents bmVE "ValueError.__new__" = true
  c_NoParents : ExcCls K e.NoParents
  w_NoParents : PySem.W.exmOne K (.ref e.NoParents) (.ref e.KinError) = some true
  v_NoParents : PySem.W.kitOne K (.ref e.NoParents) (.type "ValueError") = some true
  k_NoParents_NoTable : PySem.W.kitOne K (.ref e.NoParents) (.ref e.NoTable) = some false
  k_NoParents_NoClass : PySem.W.kitOne K (.ref e.NoParents) (.ref e.NoClass) = some false
  k_NoParents_NoWalk : PySem.W.kitOne K (.ref e.NoParents) (.ref e.NoWalk) = some false
  k_NoParents_NoPerson : PySem.W.kitOne K (.ref e.NoParents) (.ref e.NoPerson) = some false
  k_NoParents_NoParents : PySem.W.kitOne K (.ref e.NoParents) (.ref e.NoParents) = some true
  k_NoParents_TooMany : PySem.W.kitOne K (.ref e.NoParents) (.ref e.TooMany) = some false
  m_TooMany : mg "TooMany" = some (.ref e.TooMany)
  x_TooMany : PySem.W.excIn K e.TooMany bmVE "ValueError.__new__" = true
  c_TooMany : ExcCls K e.TooMany
  w_TooMany : PySem.W.exmOne K (.ref e.TooMany) (.ref e.KinError) = some true
  v_TooMany : PySem.W.kitOne K (.ref e.TooMany) (.type "ValueError") = some true
  k_TooMany_NoTable : PySem.W.kitOne K (.ref e.TooMany) (.ref e.NoTable) = some false
  k_TooMany_NoClass : PySem.W.kitOne K (.ref e.TooMany) (.ref e.NoClass) = some false
  k_TooMany_NoWalk : PySem.W.kitOne K (.ref e.TooMany) (.ref e.NoWalk) = some false
  k_TooMany_NoPerson : PySem.W.kitOne K (.ref e.TooMany) (.ref e.NoPerson) = some false
  k_TooMany_NoParents : PySem.W.kitOne K (.ref e.TooMany) (.ref e.NoParents) = some false
  k_TooMany_TooMany : PySem.W.kitOne K (.ref e.TooMany) (.ref e.TooMany) = some true
/-! what all laws share -/
def sexS (m : Bool) : Str := if m then "man" else "woman"
abbrev sexV (m : Bool) : V := .str (sexS m)
def pairV (s : Bool × Nat) : List V := [sexV s.1, nat s.2]
theorem sex_man (m : Bool) : decide (sexV m = V.str "man") = m := by cases m <;> decide +kernel
theorem sex_woman (m : Bool) : decide (sexV m = V.str "woman") = !m := by cases m <;> decide +kernel
theorem emod_nat (z : Int) {k : Nat} (hk : 0 < k) : ∃ q : Nat, z % (k : Int) = (q : Int) ∧ q < k :=
  ⟨(z % (k : Int)).toNat, by have := Int.emod_nonneg z (show (k : Int) ≠ 0 by omega); omega, by have := Int.emod_lt_of_pos z (show (0 : Int) < k by omega); have := Int.emod_nonneg z (show (k : Int) ≠ 0 by omega); omega⟩
theorem pick_sex (q : Int) (h0 : 0 ≤ q) (h2 : q < 2) : ∃ m, atI [V.str "man", V.str "woman"] q = some (sexV m) := by
  have h : q = 0 ∨ q = 1 := by omega
  rcases h with rfl | rfl
  · exact ⟨true, rfl⟩
  · exact ⟨false, rfl⟩
/-- the class is one of n -/
abbrev InC (n : Nat) (c : Int) : Prop := 0 ≤ c ∧ c < (n : Int)
theorem log_small {n : Nat} (h : n < 10 ^ 9) : n.log2 < 1920 := by
  by_cases z : n = 0
  · subst z; decide
  · exact (Nat.log2_lt z).mpr (Nat.lt_trans h (Nat.lt_of_lt_of_le (by decide : 10 ^ 9 < 2 ^ 30) (Nat.pow_le_pow_right (by decide) (by decide))))
theorem sIx_natN (n d k : Nat) (hk : k ≤ n) : HT.sIx n d (some (k : Int)) = k := by
  unfold HT.sIx
  simp only
  split <;> omega
theorem cut_dropN (xs : List V) (k : Nat) (hk : k ≤ xs.length) : cutV xs (some (k : Int)) none = xs.drop k := by
  unfold cutV
  rw [sIx_natN _ _ _ hk, show HT.sIx xs.length xs.length none = xs.length from rfl]
  exact List.take_of_length_le (by rw [List.length_drop]; exact Nat.le_refl _)
--CUT
/-! THE PROGRAM'S DEFS: tables and walks, each by its promise. -/
/-! ### what a table looks like -/
theorem s12 : ¬ (("wife_turn" : Str) = "heir_turn") := by decide +kernel
theorem s13 : ¬ (("wife_turn" : Str) = "husband_turn") := by decide +kernel
theorem s14 : ¬ (("wife_turn" : Str) = "father_turn") := by decide +kernel
theorem s23 : ¬ (("heir_turn" : Str) = "husband_turn") := by decide +kernel
theorem s24 : ¬ (("heir_turn" : Str) = "father_turn") := by decide +kernel
theorem s34 : ¬ (("husband_turn" : Str) = "father_turn") := by decide +kernel
def flds (a b c d : Addr) : List (Str × V) := putF "father_turn" (.ref d) (putF "husband_turn" (.ref c) (putF "heir_turn" (.ref b) (putF "wife_turn" (.ref a) [])))
theorem flds_w (a b c d : Addr) : (flds a b c d).lookup ("wife_turn" : Str) = some (.ref a) := by
  unfold flds
  rw [lookup_putF, if_neg s14, lookup_putF, if_neg s13, lookup_putF, if_neg s12, lookup_putF, if_pos rfl]
theorem flds_h (a b c d : Addr) : (flds a b c d).lookup ("heir_turn" : Str) = some (.ref b) := by
  unfold flds
  rw [lookup_putF, if_neg s24, lookup_putF, if_neg s23, lookup_putF, if_pos rfl]
theorem flds_u (a b c d : Addr) : (flds a b c d).lookup ("husband_turn" : Str) = some (.ref c) := by
  unfold flds
  rw [lookup_putF, if_neg s34, lookup_putF, if_pos rfl]
theorem flds_f (a b c d : Addr) : (flds a b c d).lookup ("father_turn" : Str) = some (.ref d) := by
  unfold flds
  rw [lookup_putF, if_pos rfl]
theorem flds_no (a b c d : Addr) {m : Str} (h1 : ¬ m = "father_turn") (h2 : ¬ m = "husband_turn") (h3 : ¬ m = "heir_turn") (h4 : ¬ m = "wife_turn") : (flds a b c d).lookup m = none := by
  unfold flds
  rw [lookup_putF, if_neg h1, lookup_putF, if_neg h2, lookup_putF, if_neg h3, lookup_putF, if_neg h4]
  all_goals rfl
structure TableAt (C : Addr) (H : Hp) (p : Addr) (n : Nat) (w h : List Nat) : Prop where
  tw : IsTurn n w
  th : IsTurn n h
  n1 : 1 ≤ n
  n8 : n ≤ 8
  ob : ∃ dx a b c d, H p = some (.ins C dx (flds a b c d)) ∧ H a = some (.lst (natL w)) ∧ H b = some (.lst (natL h)) ∧ H c = some (.lst (natL (inv w))) ∧ H d = some (.lst (natL (inv h)))
theorem TableAt.same {C : Addr} {H H' : Hp} {p : Addr} {n : Nat} {w h : List Nat} (T : TableAt C H p n w h) (s : Same H H') : TableAt C H' p n w h := by
  obtain ⟨tw, th, n1, n8, dx, a, b, c, d, e1, e2, e3, e4, e5⟩ := T
  exact ⟨tw, th, n1, n8, dx, a, b, c, d, s _ _ e1, s _ _ e2, s _ _ e3, s _ _ e4, s _ _ e5⟩
/-! ### the promises -/
def spSize (C : Addr) : Sp := fun vs H Q _ => ∃ p n w h, vs = [.ref p] ∧ TableAt C H p n w h ∧ Q (nat n) H
def spAsk (C : Addr) (e : Ad) (g : List Nat → List Nat → Nat → V) : Sp := fun vs H Q E => ∃ (p : Addr) (n : Nat) (w h : List Nat) (c : Int), vs = [.ref p, .int c] ∧ TableAt C H p n w h ∧ c.natAbs.log2 < 1920 ∧ (InC n c → Q (g w h c.toNat) H) ∧ (¬ InC n c → E (.ref e.NoClass) none H)
abbrev spCheck (C : Addr) (e : Ad) : Sp := spAsk C e fun _ _ _ => .non
abbrev spWife (C : Addr) (e : Ad) : Sp := spAsk C e fun w _ c => nat (fw w c)
abbrev spHusband (C : Addr) (e : Ad) : Sp := spAsk C e fun w _ c => nat (bw w c)
abbrev spHeir (C : Addr) (e : Ad) : Sp := spAsk C e fun _ h c => nat (fw h c)
abbrev spFather (C : Addr) (e : Ad) : Sp := spAsk C e fun _ h c => nat (bw h c)
/-- .. asked for a class -/
def spAskN (C : Addr) (g : List Nat → List Nat → Nat → V) : Sp := fun vs H Q _ => ∃ p n w h c, vs = [.ref p, nat c] ∧ TableAt C H p n w h ∧ c < n ∧ Q (g w h c) H
theorem askN {C : Addr} {e : Ad} {g : List Nat → List Nat → Nat → V} : ∀ vs H Q E, spAskN C g vs H Q E → spAsk C e g vs H Q E := by
  rintro vs H Q E ⟨p, n, w, h, c, rfl, TA, hc, k⟩
  have n8 := TA.n8
  have p9 : (8 : Nat) < 10 ^ 9 := by decide
  exact ⟨p, n, w, h, (c : Int), rfl, TA, log_small (by show ((c : Nat) : Int).natAbs < 10 ^ 9; omega), fun _ => by rw [Int.toNat_natCast]; exact k, fun z => absurd ⟨by omega, by omega⟩ z⟩
def spPartnerClass (C : Addr) : Sp := fun vs H Q _ => ∃ p n w h m c, vs = [.ref p, sexV m, nat c] ∧ TableAt C H p n w h ∧ c < n ∧ Q (nat (if m then fw w c else bw w c)) H
def spChildClass (C : Addr) : Sp := fun vs H Q _ => ∃ p n w h m c, vs = [.ref p, sexV m, nat c] ∧ TableAt C H p n w h ∧ c < n ∧ Q (nat (fw h (if m then c else bw w c))) H
def spClassAfter (C : Addr) : Sp := fun vs H Q _ => ∃ p n w h m c l, vs = [.ref p, sexV m, nat c, sgn l] ∧ TableAt C H p n w h ∧ c < n ∧ IsL l ∧ Q (nat (stC w h m c l)) H
def spIsTurn : Sp := fun vs H Q _ => ∃ (a : Addr) (xs : List Int) (n : Nat), vs = [.ref a, nat n] ∧ H a = some (.lst (xs.map V.int)) ∧ xs.length < 64 ∧ n ≤ 8 ∧ ∀ H', Same H H' → Q (.bl (decide (xs.Perm (intL (List.range n))))) H'
def spTurnedBack : Sp := fun vs H Q _ => ∃ a w n, vs = [.ref a] ∧ H a = some (.lst (natL w)) ∧ IsTurn n w ∧ n ≤ 8 ∧ ∀ D H', H D = none → Same H H' → H' D = some (.lst (natL (inv w))) → Q (.ref D) H'
def spInit (C : Addr) : Sp := fun vs H Q _ => ∃ x dx a b w h n, vs = [.ref x, .ref a, .ref b] ∧ H x = some (.ins C dx []) ∧ H a = some (.lst (natL w)) ∧ H b = some (.lst (natL h)) ∧ IsTurn n w ∧ IsTurn n h ∧ 1 ≤ n ∧ n ≤ 8 ∧
  ∀ H', (∀ c o, H c = some o → c ≠ x → H' c = some o) → TableAt C H' x n w h → Q .non H'
section
variable {P : Program} {w : World} {K : PySem.W.Frag} {mg : Str → Option Value} {base : Heap} {CX : CXT} {C : Addr} {e : Ad}
/-! ### small facts -/
theorem atN {w : List Nat} {n c : Nat} (h : IsTurn n w) (hc : c < n) : atI (natL w) (c : Int) = some (nat (fw w c)) := atI_nat (natL_get (fw_get h hc))
theorem atInv {w : List Nat} {n c : Nat} (h : IsTurn n w) (hc : c < n) : atI (natL (inv w)) (c : Int) = some (nat (bw w c)) := atI_nat (natL_get (inv_get h hc))
/-! ### size -/
/-! ### check_class -/
theorem sc_check : FnScope ["self", "c"] ["self", "c"] (defScope (inClass (top 31) 2)) := ⟨rfl, rfl, rfl, by decide +kernel, rfl, by decide +kernel, by decide +kernel⟩
theorem ok_check {f : Addr} {fd : FuncData} (F : Fun K "check_class" "Table.check_class" (inClass (top 31) 2) f fd) (T : Txt K mg C e) : FnOk P w K mg base (CXR P w) 1 f fd ["self", "c"] (spCheck C e) := by
  refine F.okX sc_check (fun vs H Q E h => ?_) (fun cdv A outer s H vs Q E hr hx h => ?_)
  · obtain ⟨p, n, w, h, c, rfl, _⟩ := h; rfl
  · obtain ⟨p, n, w', h', c, rfl, TA, sm, k, kE⟩ := h
    obtain ⟨dx, a, b, c1, d, e1, e2, e3, e4, e5⟩ := TA.ob
    refine ⟨_, (pss_one (ps_if (PW.pt (pw_or (pt_cmpR op_lt (pv 1) pe_int (nomark _)) (pw_or1 (pt_cmpR op_ge (pv 1) (pe_callB call_len_seq rfl T.z_len PySem.boot_len (pa_cons (pe_fld (pv 0) rfl) pa_nil)) (nomark _))))) (pss_one (ps_rais hx T.m_NoClass T.x_NoClass hr rfl (pa_cons (pe_join (pj_cst (pj_int (pv 1) pj_nil))) pa_nil))) pss_nil)), ?_⟩
    refine ⟨_, rfl, _, _, rfl, rfl, _, rfl, iteD2 (fun q => ?_) (fun q => ?_)⟩
    · exact iteT ⟨by decide, _, rfl, _, rfl, sm, by decide, by decide, fun _ => ⟨one_fits, kE fun z => absurd z.1 (by omega)⟩⟩
    refine ⟨_, rfl, _, rfl, p, C, dx, _, _, rfl, e1, T.cl_Table, T.n_wife_turn, flds_w .., a, _, rfl, .inl (SqL.of e2), _, _, rfl, rfl, _, rfl, ?_⟩
    rw [natL_len, TA.tw.len]
    refine iteD2 (fun q' => ?_) (fun q' => ?_)
    · exact ⟨by decide, _, rfl, _, rfl, sm, by decide, by decide, fun _ => ⟨one_fits, kE fun z => absurd z.2 (by omega)⟩⟩
    · exact k ⟨by omega, by omega⟩
/-! ### the four -/
theorem sc_wife : FnScope ["self", "c"] ["self", "c"] (defScope (inClass (top 31) 3)) := ⟨rfl, rfl, rfl, by decide +kernel, rfl, by decide +kernel, by decide +kernel⟩
theorem ok_wife {f : Addr} {fd : FuncData} (F : Fun K "wife_of" "Table.wife_of" (inClass (top 31) 3) f fd) (T : Txt K mg C e) (D_check_class : MDef P w K mg base (CXR P w) C "check_class" 1 ["self", "c"] (spCheck C e)) : FnOk P w K mg base (CXR P w) 2 f fd ["self", "c"] (spWife C e) := by
  refine F.okX sc_wife (fun vs H Q E h => ?_) (fun cdv A outer s H vs Q E hr hx h => ?_)
  · obtain ⟨p, n, w, h, c, rfl, _⟩ := h; rfl
  · obtain ⟨p, n, w', h', c, rfl, TA, sm, k, kE⟩ := h
    obtain ⟨dx, a, b, c1, d, e1, e2, e3, e4, e5⟩ := TA.ob
    refine ⟨_, (pss_cons (ps_expr (pe_methX (pv 0) T.cl_Table D_check_class hx.s hr (pa_cons (pv 1) pa_nil)))
      (pss_one (ps_ret (pe_ix ix_list (pe_fld (pv 0) rfl) (pv 1) (fun _ _ => rfl))))), ?_⟩
    refine ⟨_, rfl, p, dx, _, rfl, e1, flds_no _ _ _ _ (by decide +kernel) (by decide +kernel) (by decide +kernel) (by decide +kernel), _, rfl, p, n, w', h', c, rfl, TA, sm, fun hc => ?_, kE⟩
    have hn : c.toNat < n := by obtain ⟨h1, h2⟩ := hc; omega
    have ec : c = ((c.toNat : Nat) : Int) := by obtain ⟨h1, h2⟩ := hc; omega
    have kk := k hc
    rw [ec]
    exact ⟨_, rfl, p, C, dx, _, _, rfl, e1, T.cl_Table, T.n_wife_turn, flds_w .., _, rfl, a, _, _, _, rfl, rfl, SqL.of e2, atN TA.tw hn, kk⟩
theorem sc_husband : FnScope ["self", "c"] ["self", "c"] (defScope (inClass (top 31) 4)) := ⟨rfl, rfl, rfl, by decide +kernel, rfl, by decide +kernel, by decide +kernel⟩
theorem ok_husband {f : Addr} {fd : FuncData} (F : Fun K "husband_of" "Table.husband_of" (inClass (top 31) 4) f fd) (T : Txt K mg C e) (D_check_class : MDef P w K mg base (CXR P w) C "check_class" 1 ["self", "c"] (spCheck C e)) : FnOk P w K mg base (CXR P w) 2 f fd ["self", "c"] (spHusband C e) := by
  refine F.okX sc_husband (fun vs H Q E h => ?_) (fun cdv A outer s H vs Q E hr hx h => ?_)
  · obtain ⟨p, n, w, h, c, rfl, _⟩ := h; rfl
  · obtain ⟨p, n, w', h', c, rfl, TA, sm, k, kE⟩ := h
    obtain ⟨dx, a, b, c1, d, e1, e2, e3, e4, e5⟩ := TA.ob
    refine ⟨_, (pss_cons (ps_expr (pe_methX (pv 0) T.cl_Table D_check_class hx.s hr (pa_cons (pv 1) pa_nil)))
      (pss_one (ps_ret (pe_ix ix_list (pe_fld (pv 0) rfl) (pv 1) (fun _ _ => rfl))))), ?_⟩
    refine ⟨_, rfl, p, dx, _, rfl, e1, flds_no _ _ _ _ (by decide +kernel) (by decide +kernel) (by decide +kernel) (by decide +kernel), _, rfl, p, n, w', h', c, rfl, TA, sm, fun hc => ?_, kE⟩
    have hn : c.toNat < n := by obtain ⟨h1, h2⟩ := hc; omega
    have ec : c = ((c.toNat : Nat) : Int) := by obtain ⟨h1, h2⟩ := hc; omega
    have kk := k hc
    rw [ec]
    exact ⟨_, rfl, p, C, dx, _, _, rfl, e1, T.cl_Table, T.n_husband_turn, flds_u .., _, rfl, c1, _, _, _, rfl, rfl, SqL.of e4, atInv TA.tw hn, kk⟩
theorem sc_heir : FnScope ["self", "c"] ["self", "c"] (defScope (inClass (top 31) 5)) := ⟨rfl, rfl, rfl, by decide +kernel, rfl, by decide +kernel, by decide +kernel⟩
theorem ok_heir {f : Addr} {fd : FuncData} (F : Fun K "heir_of" "Table.heir_of" (inClass (top 31) 5) f fd) (T : Txt K mg C e) (D_check_class : MDef P w K mg base (CXR P w) C "check_class" 1 ["self", "c"] (spCheck C e)) : FnOk P w K mg base (CXR P w) 2 f fd ["self", "c"] (spHeir C e) := by
  refine F.okX sc_heir (fun vs H Q E h => ?_) (fun cdv A outer s H vs Q E hr hx h => ?_)
  · obtain ⟨p, n, w, h, c, rfl, _⟩ := h; rfl
  · obtain ⟨p, n, w', h', c, rfl, TA, sm, k, kE⟩ := h
    obtain ⟨dx, a, b, c1, d, e1, e2, e3, e4, e5⟩ := TA.ob
    refine ⟨_, (pss_cons (ps_expr (pe_methX (pv 0) T.cl_Table D_check_class hx.s hr (pa_cons (pv 1) pa_nil)))
      (pss_one (ps_ret (pe_ix ix_list (pe_fld (pv 0) rfl) (pv 1) (fun _ _ => rfl))))), ?_⟩
    refine ⟨_, rfl, p, dx, _, rfl, e1, flds_no _ _ _ _ (by decide +kernel) (by decide +kernel) (by decide +kernel) (by decide +kernel), _, rfl, p, n, w', h', c, rfl, TA, sm, fun hc => ?_, kE⟩
    have hn : c.toNat < n := by obtain ⟨h1, h2⟩ := hc; omega
    have ec : c = ((c.toNat : Nat) : Int) := by obtain ⟨h1, h2⟩ := hc; omega
    have kk := k hc
    rw [ec]
    exact ⟨_, rfl, p, C, dx, _, _, rfl, e1, T.cl_Table, T.n_heir_turn, flds_h .., _, rfl, b, _, _, _, rfl, rfl, SqL.of e3, atN TA.th hn, kk⟩
theorem sc_father : FnScope ["self", "c"] ["self", "c"] (defScope (inClass (top 31) 6)) := ⟨rfl, rfl, rfl, by decide +kernel, rfl, by decide +kernel, by decide +kernel⟩
theorem ok_father {f : Addr} {fd : FuncData} (F : Fun K "father_of" "Table.father_of" (inClass (top 31) 6) f fd) (T : Txt K mg C e) (D_check_class : MDef P w K mg base (CXR P w) C "check_class" 1 ["self", "c"] (spCheck C e)) : FnOk P w K mg base (CXR P w) 2 f fd ["self", "c"] (spFather C e) := by
  refine F.okX sc_father (fun vs H Q E h => ?_) (fun cdv A outer s H vs Q E hr hx h => ?_)
  · obtain ⟨p, n, w, h, c, rfl, _⟩ := h; rfl
  · obtain ⟨p, n, w', h', c, rfl, TA, sm, k, kE⟩ := h
    obtain ⟨dx, a, b, c1, d, e1, e2, e3, e4, e5⟩ := TA.ob
    refine ⟨_, (pss_cons (ps_expr (pe_methX (pv 0) T.cl_Table D_check_class hx.s hr (pa_cons (pv 1) pa_nil)))
      (pss_one (ps_ret (pe_ix ix_list (pe_fld (pv 0) rfl) (pv 1) (fun _ _ => rfl))))), ?_⟩
    refine ⟨_, rfl, p, dx, _, rfl, e1, flds_no _ _ _ _ (by decide +kernel) (by decide +kernel) (by decide +kernel) (by decide +kernel), _, rfl, p, n, w', h', c, rfl, TA, sm, fun hc => ?_, kE⟩
    have hn : c.toNat < n := by obtain ⟨h1, h2⟩ := hc; omega
    have ec : c = ((c.toNat : Nat) : Int) := by obtain ⟨h1, h2⟩ := hc; omega
    have kk := k hc
    rw [ec]
    exact ⟨_, rfl, p, C, dx, _, _, rfl, e1, T.cl_Table, T.n_father_turn, flds_f .., _, rfl, d, _, _, _, rfl, rfl, SqL.of e5, atInv TA.th hn, kk⟩
/-! ### is_turn, turned_back, __init__ -/
theorem rngV_intL (n : Nat) : rngV 0 (n : Int) = (intL (List.range n)).map V.int := by
  unfold rngV intL
  rw [List.map_map]
  have e : ((n : Int) - 0).toNat = n := by omega
  rw [e]
  exact List.map_congr_left fun i _ => by simp
theorem intL_flat (xs : List Int) : (xs.map V.int).all flatV = true := by
  rw [List.all_map]
  exact List.all_eq_true.mpr fun _ _ => rfl
theorem natL_intL (w : List Nat) : natL w = (intL w).map V.int := by
  unfold natL intL
  rw [List.map_map]
  rfl
theorem sc_isturn : FnScope ["row", "many"] ["row", "many"] (defScope (top 29)) := ⟨rfl, rfl, rfl, by decide +kernel, rfl, by decide +kernel, by decide +kernel⟩
theorem ok_isturn {f : Addr} {fd : FuncData} (F : Fun K "is_turn" "is_turn" (top 29) f fd) (T : Txt K mg C e) : FnOk P w K mg base CX 1 f fd ["row", "many"] spIsTurn := by
  refine F.okN sc_isturn (fun vs H Q E h => ?_) (fun cdv A outer s H vs Q E hr h => ?_)
  · obtain ⟨a, xs, n, rfl, _⟩ := h; rfl
  · obtain ⟨a, xs, n, rfl, ha, hl, hn, k⟩ := h
    have hu := hr.units0
    refine ⟨_, (pss_one (ps_ret (pe_cmpR (op_eqL hu) (pe_callB call_sorted rfl T.z_sorted bt_sorted (pa_cons (pv 0) pa_nil)) (pe_callTy (call_list_rng rfl) rfl T.z_list bt_list (pa_cons (pe_rng1 rfl T.z_range (pa_cons (pv 1) pa_nil)) pa_nil)) (nomark _)))), ?_⟩
    refine ⟨_, rfl, a, xs, rfl, SqL.of ha, hl, fun l ns' hl' hp hs => ?_⟩
    refine ⟨_, rfl, _, rfl, fun r hr' => ?_⟩
    have hlr : l ≠ r := ne_of_none upd_same hr'
    refine ⟨r, 0, _, rfl, upd_same, by decide, by decide, by omega, by omega, by omega, fun g hg => ?_⟩
    have hlg : l ≠ g := ne_of_none (show (upd (upd H l (.lst (ns'.map V.int))) r (.rng 0 (n : Int))) l = some (.lst (ns'.map V.int)) by rw [upd_ne hlr, upd_same]) hg
    refine ⟨l, g, ns'.map V.int, rngV 0 (n : Int), rfl, rfl, SqL.of (by rw [upd_ne hlg, upd_ne hlr, upd_same]), SqL.of upd_same, intL_flat _, by rw [rngV_intL]; exact intL_flat _, ?_⟩
    have e : eqVs (ns'.map V.int) (rngV 0 (n : Int)) = decide (xs.Perm (intL (List.range n))) := by
      rw [rngV_intL, eqVs_intL]
      by_cases q : xs.Perm (intL (List.range n))
      · rw [decide_eq_true q, decide_eq_true (sorted_unique (hp.trans q) hs (range_sorted n))]
      · rw [decide_eq_false q, decide_eq_false fun z => q (by rw [← z]; exact hp.symm)]
    show Q (.bl (eqVs (ns'.map V.int) (rngV 0 (n : Int)))) _
    rw [e]
    refine k _ fun b o hb => ?_
    have h1 : b ≠ l := ne_of_none hb hl'
    have h2 : (upd H l (.lst (ns'.map V.int))) b = some o := by rw [upd_ne h1]; exact hb
    have h3 : b ≠ r := ne_of_none h2 hr'
    have h4 : (upd (upd H l (.lst (ns'.map V.int))) r (.rng 0 (n : Int))) b = some o := by rw [upd_ne h3]; exact h2
    rw [upd_ne (ne_of_none h4 hg)]
    exact h4
theorem sc_tback : FnScope ["turn"] ["turn"] (defScope (top 30)) := ⟨rfl, rfl, rfl, by decide +kernel, rfl, by decide +kernel, by decide +kernel⟩
theorem idx_intL : ∀ (w : List Nat) (c : Nat), (intL w).idxOf (c : Int) = w.idxOf c
  | [], _ => rfl
  | a :: r, c => by
    show List.idxOf (c : Int) ((a : Int) :: intL r) = _
    rw [List.idxOf_cons, List.idxOf_cons, idx_intL r c]
    have e : ((a : Int) == (c : Int)) = (a == c) := by
      by_cases q : a = c
      · subst q; simp
      · rw [beq_eq_false_iff_ne.mpr q, beq_eq_false_iff_ne.mpr (by omega)]
    rw [e]
theorem mem_intL {w : List Nat} {c : Nat} (h : c ∈ w) : (c : Int) ∈ intL w := List.mem_map.mpr ⟨c, h, rfl⟩
theorem ok_tback {f : Addr} {fd : FuncData} (F : Fun K "turned_back" "turned_back" (top 30) f fd) (T : Txt K mg C e) : FnOk P w K mg base CX 1 f fd ["turn"] spTurnedBack := by
  refine F.okN sc_tback (fun vs H Q E h => ?_) (fun cdv A outer s H vs Q E hr h => ?_)
  · obtain ⟨a, w, n, rfl, _⟩ := h; rfl
  · obtain ⟨a, w', n, rfl, ha, tw, hn, k⟩ := h
    refine ⟨_, (pss_one (ps_ret (pe_comp (fv := [("turn", 0)]) ⟨rfl, by decide +kernel, rfl, by decide +kernel, rfl, by decide +kernel, ⟨⟨rfl, Or.inl rfl, Or.inl rfl, rfl⟩, trivial⟩, rfl, rfl⟩ rfl (pi_range1 rfl T.z_range (pa_cons (pe_callB call_len_seq rfl T.z_len PySem.boot_len (pa_cons (pv 0) pa_nil)) pa_nil)) (fun _ _ _ => (pe_bm PySem.F.plainAttrs_list PySem.F.slot_list_index PySem.F.type_list_index mt_index (pv 1) (pa_cons (pv 0) pa_nil)))))), ?_⟩
    refine ⟨_, rfl, a, _, rfl, .inl (SqL.of ha), _, rfl, by rw [natL_len, tw.len]; omega, by rw [natL_len, tw.len]; omega, ?_⟩
    have e : (((natL w').length : Nat) : Int).toNat = n := by rw [natL_len, tw.len]; omega
    rw [e]
    refine comp_range (fun i => nat (bw w' i)) (by have := (show 8 ≤ sizeLine by decide); omega) (fun i H' R hi sm kk _ _ _ => ?_) fun D H2 hD sm hl => ?_
    · refine ⟨_, rfl, .inl ⟨rfl, _, SqL.of (sm _ _ ha)⟩, _, rfl, a, intL w', ((0 : Int) + (i : Nat)), rfl, rfl, SqL.of (by rw [← natL_intL]; exact sm _ _ ha), ?_, ?_⟩
      · rw [Int.zero_add]; exact mem_intL (tw.mem.mpr hi)
      · rw [Int.zero_add, idx_intL]; exact kk H' (Same.refl _)
    · refine k D H2 hD sm ?_
      rw [hl]
      unfold natL inv
      rw [tw.len, List.map_map]
      rfl
end


--CUT
/-! __init__, both ways; wives, heirs -/
def Good (xs ys : List Int) : Prop := ∃ n w h, xs = intL w ∧ ys = intL h ∧ IsTurn n w ∧ IsTurn n h ∧ 1 ≤ n ∧ n ≤ 8
abbrev Sm (xs : List Int) : Prop := xs.length < 64 ∧ ∀ i ∈ xs, i.natAbs.log2 < 1920
def spInitX (C : Addr) (e : Ad) : Sp := fun vs H Q E => ∃ (x dx a b : Addr) (xs ys : List Int), vs = [.ref x, .ref a, .ref b] ∧ H x = some (.ins C dx []) ∧ H a = some (.lst (xs.map V.int)) ∧ H b = some (.lst (ys.map V.int)) ∧ Sm xs ∧ Sm ys ∧
  (∀ n w h, xs = intL w → ys = intL h → IsTurn n w → IsTurn n h → 1 ≤ n → n ≤ 8 → ∀ H', (∀ c o, H c = some o → c ≠ x → H' c = some o) → (∀ H'', (∀ c o, H' c = some o → H c = none ∨ c = x → H'' c = some o) → TableAt C H'' x n w h) → Q .non H') ∧ (¬ Good xs ys → ∀ H', Same H H' → E (.ref e.NoTable) none H')
theorem turn_sm {n : Nat} {w : List Nat} (h : IsTurn n w) (n8 : n ≤ 8) : Sm (intL w) := by
  refine ⟨by rw [intL_len, h.len]; omega, fun i hi => ?_⟩
  obtain ⟨c, hc, rfl⟩ := List.mem_map.mp hi
  have := h.mem.mp hc
  have p9 : (8 : Nat) < 10 ^ 9 := by decide
  exact log_small (by show ((c : Nat) : Int).natAbs < 10 ^ 9; omega)
theorem intL_inj : ∀ {a b : List Nat}, intL a = intL b → a = b
  | [], [], _ => rfl
  | [], _ :: _, h => by cases h
  | _ :: _, [], h => by cases h
  | x :: a, y :: b, h => by
    have h1 : (x : Int) = (y : Int) := (List.cons.inj h).1
    have h2 : intL a = intL b := (List.cons.inj h).2
    rw [intL_inj h2, Int.ofNat.inj h1]
theorem perm_turn {xs : List Int} {n : Nat} (h : xs.Perm (intL (List.range n))) : ∃ w, xs = intL w ∧ IsTurn n w := by
  have nn : ∀ i ∈ xs, 0 ≤ i := fun i hi => by
    obtain ⟨c, _, rfl⟩ := List.mem_map.mp (h.mem_iff.mp hi)
    exact Int.natCast_nonneg c
  refine ⟨xs.map Int.toNat, ?_, ?_⟩
  · unfold intL
    rw [List.map_map]
    conv => lhs; rw [← List.map_id xs]
    exact List.map_congr_left fun i hi => (Int.toNat_of_nonneg (nn i hi)).symm
  · have q := h.map Int.toNat
    unfold intL at q
    rw [List.map_map] at q
    have e : (List.range n).map (Int.toNat ∘ fun c : Nat => (c : Int)) = List.range n := by
      conv => rhs; rw [← List.map_id (List.range n)]
      exact List.map_congr_left fun i _ => Int.toNat_natCast i
    unfold IsTurn
    rw [← e]
    exact q
theorem bad_of {xs ys : List Int} (h : ¬ (1 ≤ xs.length ∧ xs.length ≤ 8 ∧ xs.Perm (intL (List.range xs.length)) ∧ ys.Perm (intL (List.range xs.length)))) : ¬ Good xs ys := by
  rintro ⟨n, w, h', rfl, rfl, tw, th, n1, n8⟩
  refine h ?_
  rw [intL_len, tw.len]
  exact ⟨n1, n8, List.Perm.map _ tw, List.Perm.map _ th⟩
section
variable {P : Program} {w : World} {K : PySem.W.Frag} {mg : Str → Option Value} {base : Heap} {CX : CXT} {C : Addr} {e : Ad}
theorem sc_init : FnScope ["self", "wives", "heirs", "many"] ["self", "wives", "heirs"] (defScope (inClass (top 31) 0)) := ⟨rfl, rfl, rfl, by decide +kernel, rfl, by decide +kernel, by decide +kernel⟩
theorem ok_init {f : Addr} {fd : FuncData} (F : Fun K "__init__" "Table.__init__" (inClass (top 31) 0) f fd) (T : Txt K mg C e) (D_is_turn : Def P w K mg base (CXR P w) "is_turn" 1 ["row", "many"] spIsTurn) (D_turned_back : Def P w K mg base (CXR P w) "turned_back" 1 ["turn"] spTurnedBack) :
    FnOk P w K mg base (CXR P w) 2 f fd ["self", "wives", "heirs"] (spInitX C e) := by
  refine F.okX sc_init (fun vs H Q E h => ?_) (fun cdv A outer s H vs Q E hr hx h => ?_)
  · obtain ⟨x, dx, a, b, xs, ys, rfl, _⟩ := h; rfl
  · obtain ⟨x, dx, a, b, xs, ys, rfl, hxx, ha, hb, sx, sy, k, kE⟩ := h
    have nd := sc_init.nd
    have p9 : (64 : Nat) < 10 ^ 9 := by decide
    have s8 : ((8 : Int)).natAbs.log2 < 1920 := by decide
    have sl : ((xs.length : Int)).natAbs.log2 < 1920 := log_small (by have := sx.1; show ((xs.length : Nat) : Int).natAbs < 10 ^ 9; omega)
    refine ⟨_, (pss_cons (ps_set (i := 3) nd rfl (Or.inl rfl) (pe_callB call_len_seq rfl T.z_len PySem.boot_len (pa_cons (pv 1) pa_nil)))
      (pss_cons (ps_if (PW.pt (pw_or (pt_cmpR op_lt (pv 3) pe_int (nomark _)) (pw_or1 (pt_cmpR op_gt (pv 3) (pe_globE rfl T.g_MOST_CLASSES) (nomark _))))) (pss_one (ps_rais hx T.m_NoTable T.x_NoTable hr rfl (pa_cons (pe_join (pj_cst (pj_int (pe_globE rfl T.g_MOST_CLASSES) (pj_cst (pj_int (pv 3) pj_nil))))) pa_nil))) pss_nil)
      (pss_cons (ps_if (PW.pt (pw_or (pt_not (pt_val (pe_callX D_is_turn hx.s hr rfl (pa_cons (pv 1) (pa_cons (pv 3) pa_nil))))) (pw_or1 (pt_not (pt_val (pe_callX D_is_turn hx.s hr rfl (pa_cons (pv 2) (pa_cons (pv 3) pa_nil)))))))) (pss_one (ps_rais hx T.m_NoTable T.x_NoTable hr rfl (pa_cons (pe_join (pj_cst (pj_int (pv 3) (pj_cst (pj_lst hr (pv 1) (pj_cst (pj_lst hr (pv 2) pj_nil))))))) pa_nil))) pss_nil)
      (pss_cons (ps_fld (pv 0) (pe_callTy call_list_of rfl T.z_list bt_list (pa_cons (pv 1) pa_nil)) rfl)
      (pss_cons (ps_fld (pv 0) (pe_callTy call_list_of rfl T.z_list bt_list (pa_cons (pv 2) pa_nil)) rfl)
      (pss_cons (ps_fld (pv 0) (pe_callX D_turned_back hx.s hr rfl (pa_cons (pv 1) pa_nil)) rfl)
      (pss_one (ps_fld (pv 0) (pe_callX D_turned_back hx.s hr rfl (pa_cons (pv 2) pa_nil)) rfl)))))))), ?_⟩
    -- many = len(wives)
    refine ⟨_, rfl, a, _, rfl, .inl (SqL.of ha), ?_⟩
    rw [List.length_map]
    -- if many < 1 or many > MOST_CLASSES
    have no1 : ∀ z : ¬ (1 ≤ xs.length ∧ xs.length ≤ 8), E (.ref e.NoTable) none H := fun z => kE (bad_of fun q => z ⟨q.1, q.2.1⟩) H (Same.refl _)
    refine ⟨_, rfl, _, _, rfl, rfl, _, rfl, iteD2 (fun q => ?_) (fun q => ?_)⟩
    · exact iteT ⟨by decide, _, rfl, s8, by decide, by decide, _, rfl, _, rfl, sl, by decide, by decide, fun _ => ⟨one_fits, no1 (by omega)⟩⟩
    refine ⟨_, rfl, _, _, rfl, rfl, _, rfl, iteD2 (fun q' => ?_) (fun q' => ?_)⟩
    · exact ⟨by decide, _, rfl, s8, by decide, by decide, _, rfl, _, rfl, sl, by decide, by decide, fun _ => ⟨one_fits, no1 (by omega)⟩⟩
    have n1 : 1 ≤ xs.length := by omega
    have n8 : xs.length ≤ 8 := by omega
    clear no1
    -- is_turn twice
    have rai : ∀ H2, Same H H2 → ¬ (xs.Perm (intL (List.range xs.length)) ∧ ys.Perm (intL (List.range xs.length))) → E (.ref e.NoTable) none H2 := fun H2 s2 z => kE (bad_of fun q => z q.2.2) H2 s2
    have ra : ∀ H2, Same H H2 → SqL K H2 a (xs.map V.int) := fun H2 s2 => SqL.of (s2 _ _ ha)
    have rb : ∀ H2, Same H H2 → SqL K H2 b (ys.map V.int) := fun H2 s2 => SqL.of (s2 _ _ hb)
    have lx : xs.length ≤ 64 := by have := sx.1; omega
    have ly : ys.length ≤ 64 := by have := sy.1; omega
    refine ⟨_, rfl, _, rfl, a, xs, xs.length, rfl, ha, sx.1, n8, fun H1 s1 => ⟨_, rfl, ?_⟩⟩
    by_cases pw : xs.Perm (intL (List.range xs.length))
    rotate_left
    · rw [decide_eq_false pw]
      refine iteT ?_
      exact ⟨by decide, _, rfl, _, rfl, sl, by decide, by decide, _, rfl, a, xs, rfl, ra _ s1, lx, sx.2, by decide, by decide, _, rfl, b, ys, rfl, rb _ s1, ly, sy.2, by decide, by decide, fun _ => ⟨one_fits, rai _ s1 fun z => pw z.1⟩⟩
    rw [decide_eq_true pw]
    refine iteF ?_
    refine ⟨_, rfl, _, rfl, b, ys, xs.length, rfl, s1 _ _ hb, sy.1, n8, fun H2 s2 => ⟨_, rfl, ?_⟩⟩
    by_cases ph : ys.Perm (intL (List.range xs.length))
    rotate_left
    · rw [decide_eq_false ph]
      refine iteT ?_
      exact ⟨by decide, _, rfl, _, rfl, sl, by decide, by decide, _, rfl, a, xs, rfl, ra _ (s1.trans s2), lx, sx.2, by decide, by decide, _, rfl, b, ys, rfl, rb _ (s1.trans s2), ly, sy.2, by decide, by decide, fun _ => ⟨one_fits, rai _ (s1.trans s2) fun z => ph z.2⟩⟩
    rw [decide_eq_true ph]
    refine iteF ?_
    obtain ⟨n, hn⟩ : ∃ n, xs.length = n := ⟨_, rfl⟩
    rw [hn] at n1 n8 pw ph
    obtain ⟨w', ew, tw⟩ := perm_turn pw
    obtain ⟨h', eh, th⟩ := perm_turn ph
    clear lx ly ra rb rai kE s8 sl p9 pw ph sx sy
    have k := k n w' h' ew eh tw th n1 n8
    have hx' := hx
    have hx := hxx
    rw [ew, ← natL_intL] at ha
    rw [eh, ← natL_intL] at hb
    have s12' : Same H H2 := s1.trans s2
    -- self.wife_turn = list(wives)
    refine ⟨_, rfl, a, _, rfl, .inl (SqL.of (s12' _ _ ha)), fun l1 hl1 => ?_⟩
    have ne1 : x ≠ l1 := ne_of_none (s12' _ _ hx) hl1
    have nxa : x ≠ a := ne_of hx ha (by intro z; cases z)
    have nxb : x ≠ b := ne_of hx hb (by intro z; cases z)
    refine ⟨_, rfl, x, C, dx, [], rfl, (by rw [upd_ne ne1]; exact s12' _ _ hx), T.cl_Table, T.n_wife_turn, (by show 0 < 1000; decide), ?_⟩
    -- self.heir_turn = list(heirs)
    have k1 : ∀ c o, H c = some o → c ≠ x → (upd (upd H2 l1 (.lst (natL w'))) x (.ins C dx (putF "wife_turn" (.ref l1) []))) c = some o := fun c o hc hcx => by
      rw [upd_ne hcx, upd_ne (ne_of_none (s12' _ _ hc) hl1)]; exact s12' _ _ hc
    refine ⟨_, rfl, b, _, rfl, .inl (SqL.of (k1 b _ hb (Ne.symm nxb))), fun l2 hl2 => ?_⟩
    have ne2 : x ≠ l2 := ne_of_none upd_same hl2
    refine ⟨_, rfl, x, C, dx, _, rfl, (by rw [upd_ne ne2]; exact upd_same), T.cl_Table, T.n_heir_turn, (by show 1 < 1000; decide), ?_⟩
    have k2 : ∀ c o, (upd (upd H2 l1 (.lst (natL w'))) x (.ins C dx (putF "wife_turn" (.ref l1) []))) c = some o → c ≠ x → ∀ u, (upd (upd (upd (upd H2 l1 (.lst (natL w'))) x (.ins C dx (putF "wife_turn" (.ref l1) []))) l2 (.lst (natL h'))) x u) c = some o := fun c o hc hcx u => by
      rw [upd_ne hcx, upd_ne (ne_of_none hc hl2)]; exact hc
    generalize hH3 : upd (upd (upd (upd H2 l1 (.lst (natL w'))) x (.ins C dx (putF "wife_turn" (.ref l1) []))) l2 (.lst (natL h'))) x (.ins C dx (putF "heir_turn" (.ref l2) (putF "wife_turn" (.ref l1) []))) = H3
    have f1 : H3 l1 = some (.lst (natL w')) := by rw [← hH3]; exact k2 l1 _ (by rw [upd_ne (Ne.symm ne1), upd_same]) (Ne.symm ne1) _
    have f2 : H3 l2 = some (.lst (natL h')) := by rw [← hH3, upd_ne (Ne.symm ne2), upd_same]
    have f3 : H3 x = some (.ins C dx (putF "heir_turn" (.ref l2) (putF "wife_turn" (.ref l1) []))) := by rw [← hH3, upd_same]
    have f4 : ∀ c o, H c = some o → c ≠ x → H3 c = some o := fun c o hc hcx => by rw [← hH3]; exact k2 c o (k1 c o hc hcx) hcx _
    -- self.husband_turn = turned_back(wives)
    refine ⟨_, rfl, a, w', n, rfl, f4 a _ ha (Ne.symm nxa), tw, n8, fun D1 H4 hD1 s4 hl4 => ?_⟩
    refine ⟨_, rfl, x, C, dx, _, rfl, s4 _ _ f3, T.cl_Table, T.n_husband_turn, (by show 2 < 1000; decide), ?_⟩
    have nxD1 : x ≠ D1 := ne_of_none f3 hD1
    have g4 : ∀ c o u, H3 c = some o → c ≠ x → (upd H4 x u) c = some o := fun c o u hc hcx => by rw [upd_ne hcx]; exact s4 _ _ hc
    -- self.father_turn = turned_back(heirs)
    refine ⟨_, rfl, b, h', n, rfl, g4 b _ _ (f4 b _ hb (Ne.symm nxb)) (Ne.symm nxb), th, n8, fun D2 H5 hD2 s5 hl5 => ?_⟩
    refine ⟨_, rfl, x, C, dx, _, rfl, s5 _ _ upd_same, T.cl_Table, T.n_father_turn, (by show 3 < 1000; decide), ?_⟩
    have nxD2 : x ≠ D2 := ne_of_none upd_same hD2
    have g5 : ∀ c o u, H3 c = some o → c ≠ x → (upd H5 x u) c = some o := fun c o u hc hcx => by rw [upd_ne hcx]; exact s5 _ _ (g4 c o _ hc hcx)
    have fr : ∀ c, c ≠ x → H3 c = none → H c = none := fun c hcx hc => by
      cases q : H c with
      | none => rfl
      | some o => rw [f4 c o q hcx] at hc; cases hc
    have r1 : H l1 = none := s12'.free hl1
    have r2 : H l2 = none := by
      cases q : H l2 with
      | none => rfl
      | some o => rw [k1 l2 o q (Ne.symm ne2)] at hl2; cases hl2
    have r3 : H D1 = none := fr D1 (Ne.symm nxD1) hD1
    have r4 : H D2 = none := by
      cases q : H D2 with
      | none => rfl
      | some o => rw [g4 D2 o _ (f4 D2 o q (Ne.symm nxD2)) (Ne.symm nxD2)] at hD2; cases hD2
    refine k _ (fun c o hc hcx => g5 c o _ (f4 c o hc hcx) hcx) fun H6 k6 => ⟨tw, th, n1, n8, dx, l1, l2, D1, D2, k6 _ _ upd_same (.inr rfl), k6 _ _ (g5 _ _ _ f1 (Ne.symm ne1)) (.inl r1), k6 _ _ (g5 _ _ _ f2 (Ne.symm ne2)) (.inl r2), k6 _ _ ?_ (.inl r3), k6 _ _ ?_ (.inl r4)⟩
    · rw [upd_ne (Ne.symm nxD1)]
      exact s5 _ _ (by rw [upd_ne (Ne.symm nxD1)]; exact hl4)
    · rw [upd_ne (Ne.symm nxD2)]; exact hl5
def spList (C : Addr) (g : List Nat → List Nat → List Nat) : Sp := fun vs H Q _ => ∃ p n w h, vs = [.ref p] ∧ TableAt C H p n w h ∧ ∀ l, H l = none → Q (.ref l) (upd H l (.lst (natL (g w h))))
end


--CUT
/-- a walk -/
def IsW (l : List Nat) : Prop := l.length ≤ 60 ∧ ∀ x ∈ l, IsL x
/-- signs that can be shown -/
abbrev Sg (l : List Nat) : Prop := ∀ x ∈ l, x < 16 ^ 8
theorem IsW.sg {l : List Nat} (h : IsW l) : Sg l := fun x hx => by
  rcases h.2 x hx with rfl | rfl | rfl | rfl | rfl | rfl | rfl <;> decide
def spCheckWalk (e : Ad) : Sp := fun vs H Q E => ∃ l : List Nat, vs = [.str (txt l)] ∧ l.length ≤ 1000 ∧ Sg l ∧ (IsW l → Q .non H) ∧ (¬ IsW l → E (.ref e.NoWalk) none H)
def spCheckWalkN : Sp := fun vs H Q _ => ∃ l : List Nat, vs = [.str (txt l)] ∧ IsW l ∧ Q .non H
def spPartnerSex : Sp := fun vs H Q _ => ∃ m, vs = [sexV m] ∧ Q (sexV (!m)) H
def spSexAfter : Sp := fun vs H Q _ => ∃ m l, vs = [sexV m, sgn l] ∧ IsL l ∧ Q (sexV (stS m l)) H
section
variable {P : Program} {w : World} {K : PySem.W.Frag} {mg : Str → Option Value} {base : Heap} {CX : CXT} {C : Addr} {e : Ad}
theorem c_f : ("f" : Str) = ⟨#[102]⟩ := by decide +kernel
theorem c_m : ("m" : Str) = ⟨#[109]⟩ := by decide +kernel
theorem c_s : ("s" : Str) = ⟨#[115]⟩ := by decide +kernel
theorem c_d : ("d" : Str) = ⟨#[100]⟩ := by decide +kernel
theorem c_p : ("p" : Str) = ⟨#[112]⟩ := by decide +kernel
theorem in_all {l : Nat} (h : IsL l) : (!(!(Builtin.Str.occurrences ("fmsdpbz" : Str) ⟨#[l]⟩ 0 ("fmsdpbz" : Str).length 1).isEmpty)) = false := by
  rcases h with rfl | rfl | rfl | rfl | rfl | rfl | rfl <;> decide +kernel
theorem in_men {l : Nat} (h : IsL l) : (!(Builtin.Str.occurrences ("fsb" : Str) ⟨#[l]⟩ 0 ("fsb" : Str).length 1).isEmpty) = (l == 102 || l == 115 || l == 98) := by
  rcases h with rfl | rfl | rfl | rfl | rfl | rfl | rfl <;> decide +kernel
/-! ### check_walk -/
theorem txt_cps (l : List Nat) : (txt l).cps.toList = l := by show l.toArray.toList = l; simp
theorem not_in_all {x : Nat} (h : ¬ Kin.IsL x) : (!(!(Builtin.Str.occurrences ("fmsdpbz" : Str) ⟨#[x]⟩ 0 ("fmsdpbz" : Str).length 1).isEmpty)) = true := by
  rw [StrLaws.found_one]
  have e : ("fmsdpbz" : Str).cps.toList = [102, 109, 115, 100, 112, 98, 122] := by decide +kernel
  rw [e, decide_eq_false]
  · rfl
  · intro z
    simp only [List.mem_cons, List.not_mem_nil, or_false] at z
    exact h z
theorem sc_ckw : FnScope ["walk", "sign"] ["walk"] (defScope (top 13)) := ⟨rfl, rfl, rfl, by decide +kernel, rfl, by decide +kernel, by decide +kernel⟩
theorem ok_ckw {f : Addr} {fd : FuncData} (F : Fun K "check_walk" "check_walk" (top 13) f fd) (T : Txt K mg C e) : FnOk P w K mg base (CXR P w) 1 f fd ["walk"] (spCheckWalk e) := by
  refine F.okX sc_ckw (fun vs H Q E h => ?_) (fun cdv A outer s H vs Q E hr hx h => ?_)
  · obtain ⟨l, rfl, _⟩ := h; rfl
  · obtain ⟨l, rfl, hl, hs, k, kE⟩ := h
    have nd := sc_ckw.nd
    have big : 2000000 ≤ sizeLine := by decide
    refine ⟨_, (pss_cons (ps_if (pt_cmpR op_gt (pe_callB call_len_str rfl T.z_len PySem.boot_len (pa_cons (pv 0) pa_nil)) (pe_globE rfl T.g_MOST_LETTERS) (nomark _)) (pss_one (ps_rais hx T.m_NoWalk T.x_NoWalk hr rfl (pa_cons (pe_join (pj_cst (pj_int (pe_globE rfl T.g_MOST_LETTERS) (pj_cst (pj_rep (pv 0) pj_nil))))) pa_nil))) pss_nil)
      (pss_one (ps_for PassesOwn.leaving rfl (pi_str (pv 0)) (pg_name (i := 1) nd rfl (Or.inl rfl)) (pss_one (ps_if (pt_cmpR op_notIn_str (pv 1) (pe_globE rfl T.g_LETTERS) (by with_unfolding_all rfl)) (pss_one (ps_rais hx T.m_NoWalk T.x_NoWalk hr rfl (pa_cons (pe_join (pj_cst (pj_rep (pv 1) pj_nil))) pa_nil))) pss_nil))))), ?_⟩
    refine ⟨_, rfl, txt l, rfl, by rw [txt_len]; omega, _, _, rfl, rfl, _, rfl, ?_⟩
    rw [txt_len]
    refine iteD2 (fun q => ?_) (fun q => ?_)
    · exact ⟨by decide, _, rfl, log_small (by decide), by decide, by decide, _, rfl, _, rfl, by rw [txt_len]; omega, by rw [txt_cps]; exact hs, by decide, by decide, fun _ => ⟨one_fits, kE fun z => absurd z.1 (by omega)⟩⟩
    refine ⟨_, rfl, _, rfl, for_str (l := l) (fun i σ H2 => (∃ o, σ = [some (.str (txt l)), o]) ∧ H2 = H ∧ ∀ y ∈ l.take i, IsL y) ⟨⟨none, rfl⟩, rfl, fun y hy => by simp at hy⟩ ?_ ?_⟩
    · rintro i c σ H2 hi ⟨⟨o, rfl⟩, rfl, hp⟩
      refine ⟨_, rfl, _, _, rfl, rfl, _, rfl, ?_⟩
      by_cases hc : IsL c
      · rw [in_all hc]
        refine iteF ⟨⟨_, rfl⟩, rfl, fun y hy => ?_⟩
        rw [List.take_add_one, hi] at hy
        rcases List.mem_append.mp hy with z | z
        · exact hp y z
        · have : y = c := by simpa using z
          subst this; exact hc
      · rw [not_in_all hc]
        refine iteT ⟨by decide, _, rfl, _, rfl, by show 1 ≤ 1000; decide, fun y hy => ?_, by decide, by decide, fun _ => ⟨one_fits, kE fun z => hc (z.2 c (List.mem_of_getElem? hi))⟩⟩
        have : y = c := by simpa using hy
        subst this
        exact hs y (List.mem_of_getElem? hi)
    · rintro σ H2 ⟨⟨o, rfl⟩, rfl, hp⟩
      rw [List.take_length] at hp
      exact k ⟨by omega, hp⟩
/-! ### sexes -/
theorem sc_psex : FnScope ["sex"] ["sex"] (defScope (top 14)) := ⟨rfl, rfl, rfl, by decide +kernel, rfl, by decide +kernel, by decide +kernel⟩
theorem ok_psex {f : Addr} {fd : FuncData} (F : Fun K "partner_sex" "partner_sex" (top 14) f fd) : FnOk P w K mg base CX 1 f fd ["sex"] spPartnerSex := by
  refine F.okN sc_psex (fun vs H Q E h => ?_) (fun cdv A outer s H vs Q E hr h => ?_)
  · obtain ⟨m, rfl, _⟩ := h; rfl
  · obtain ⟨m, rfl, k⟩ := h
    refine ⟨_, (pss_one (ps_ret (pe_ifExp (pt_cmpR op_eq (pv 0) pe_str (nomark _)) pe_str pe_str))), ?_⟩
    refine ⟨_, rfl, rfl, _, rfl, ?_⟩
    rw [sex_man]
    cases m
    · exact iteF k
    · exact iteT k
theorem sc_sexa : FnScope ["sex", "letter"] ["sex", "letter"] (defScope (top 15)) := ⟨rfl, rfl, rfl, by decide +kernel, rfl, by decide +kernel, by decide +kernel⟩
theorem ok_sexa {f : Addr} {fd : FuncData} (F : Fun K "sex_after" "sex_after" (top 15) f fd) (T : Txt K mg C e) (hE : NoE CX) (D_partner_sex : Def P w K mg base CX "partner_sex" 1 ["sex"] spPartnerSex) : FnOk P w K mg base CX 2 f fd ["sex", "letter"] spSexAfter := by
  refine F.okN sc_sexa (fun vs H Q E h => ?_) (fun cdv A outer s H vs Q E hr h => ?_)
  · obtain ⟨m, l, rfl, _⟩ := h; rfl
  · obtain ⟨m, l, rfl, hl, k⟩ := h
    refine ⟨_, (pss_cons (ps_if (pt_cmpR op_eq (pv 1) pe_str (nomark _)) (pss_one (ps_ret (pe_callD D_partner_sex hE hr rfl (pa_cons (pv 0) pa_nil)))) pss_nil)
      (pss_one (ps_ret (pe_ifExp (pt_cmpR op_in_str (pv 1) (pe_globE rfl T.g_LETTERS_TO_MEN) (by with_unfolding_all rfl)) pe_str pe_str)))), ?_⟩
    refine ⟨_, rfl, rfl, _, rfl, iteD2 (fun e => ?_) (fun e => ?_)⟩
    · rw [sgn_iff c_p] at e
      subst e
      exact ⟨_, rfl, m, rfl, k⟩
    · rw [sgn_iff c_p] at e
      refine ⟨_, rfl, _, _, rfl, rfl, _, rfl, ?_⟩
      rw [in_men hl]
      have q : stS m l = (l == 102 || l == 115 || l == 98) := by unfold stS; rw [if_neg e]
      rw [← q]
      generalize stS m l = z at k
      cases z
      · exact iteF k
      · exact iteT k
end


--CUT
def spEndSex (e : Ad) : Sp := fun vs H Q E => ∃ m l, vs = [sexV m, .str (txt l)] ∧ l.length ≤ 1000 ∧ Sg l ∧ (IsW l → Q (sexV (endS m l)) H) ∧ (¬ IsW l → E (.ref e.NoWalk) none H)
def spEndSexN : Sp := fun vs H Q _ => ∃ m l, vs = [sexV m, .str (txt l)] ∧ IsW l ∧ Q (sexV (endS m l)) H
def spWalked (C : Addr) (e : Ad) : Sp := fun vs H Q E => ∃ (p : Addr) (n : Nat) (w h : List Nat) (m : Bool) (c : Int) (l : List Nat), vs = [.ref p, sexV m, .int c, .str (txt l)] ∧ TableAt C H p n w h ∧ c.natAbs.log2 < 1920 ∧ l.length ≤ 1000 ∧ Sg l ∧
  (IsW l → InC n c → ∀ t, H t = none → Q (.ref t) (upd H t (.tup (pairV (led w h (m, c.toNat) l))))) ∧ (¬ IsW l → E (.ref e.NoWalk) none H) ∧ (IsW l → ¬ InC n c → E (.ref e.NoClass) none H)
def spWalkedN (C : Addr) : Sp := fun vs H Q _ => ∃ p n w h m c l, vs = [.ref p, sexV m, nat c, .str (txt l)] ∧ TableAt C H p n w h ∧ c < n ∧ IsW l ∧ ∀ t, H t = none → Q (.ref t) (upd H t (.tup (pairV (led w h (m, c) l))))
theorem walkedN {C : Addr} {e : Ad} : ∀ vs H Q E, spWalkedN C vs H Q E → spWalked C e vs H Q E := by
  rintro vs H Q E ⟨p, n, w, h, m, c, l, rfl, TA, hc, hw, k⟩
  have n8 := TA.n8
  have p9 : (8 : Nat) < 10 ^ 9 := by decide
  exact ⟨p, n, w, h, m, (c : Int), l, rfl, TA, log_small (by show ((c : Nat) : Int).natAbs < 10 ^ 9; omega), Nat.le_trans hw.1 (by decide), hw.sg, fun _ _ => by rw [Int.toNat_natCast]; exact k, fun z => absurd hw z, fun _ z => absurd ⟨by omega, by omega⟩ z⟩
def spTurnOf (C : Addr) (e : Ad) : Sp := fun vs H Q E => ∃ p n w h m l, vs = [.ref p, sexV m, .str (txt l)] ∧ TableAt C H p n w h ∧ l.length ≤ 1000 ∧ Sg l ∧
  (IsW l → ∀ D H', H D = none → Same H H' → H' D = some (.lst (natL (turnOf n w h m l))) → Q (.ref D) H') ∧ (¬ IsW l → ∀ H', Same H H' → E (.ref e.NoWalk) none H')
def spTurnOfN (C : Addr) : Sp := fun vs H Q _ => ∃ p n w h m l, vs = [.ref p, sexV m, .str (txt l)] ∧ TableAt C H p n w h ∧ IsW l ∧ ∀ D H', H D = none → Same H H' → H' D = some (.lst (natL (turnOf n w h m l))) → Q (.ref D) H'
section
variable {P : Program} {w : World} {K : PySem.W.Frag} {mg : Str → Option Value} {base : Heap} {CX : CXT} {C : Addr} {e : Ad}
/-! ### classes -/
theorem no_check (a b c d : Addr) : (flds a b c d).lookup ("check_class" : Str) = none := flds_no _ _ _ _ (by decide +kernel) (by decide +kernel) (by decide +kernel) (by decide +kernel)
theorem no_wife (a b c d : Addr) : (flds a b c d).lookup ("wife_of" : Str) = none := flds_no _ _ _ _ (by decide +kernel) (by decide +kernel) (by decide +kernel) (by decide +kernel)
theorem no_husband (a b c d : Addr) : (flds a b c d).lookup ("husband_of" : Str) = none := flds_no _ _ _ _ (by decide +kernel) (by decide +kernel) (by decide +kernel) (by decide +kernel)
theorem no_heir (a b c d : Addr) : (flds a b c d).lookup ("heir_of" : Str) = none := flds_no _ _ _ _ (by decide +kernel) (by decide +kernel) (by decide +kernel) (by decide +kernel)
theorem no_father (a b c d : Addr) : (flds a b c d).lookup ("father_of" : Str) = none := flds_no _ _ _ _ (by decide +kernel) (by decide +kernel) (by decide +kernel) (by decide +kernel)
theorem sc_pcls : FnScope ["table", "sex", "c"] ["table", "sex", "c"] (defScope (top 16)) := ⟨rfl, rfl, rfl, by decide +kernel, rfl, by decide +kernel, by decide +kernel⟩
theorem ok_pcls {f : Addr} {fd : FuncData} (F : Fun K "partner_class" "partner_class" (top 16) f fd) (T : Txt K mg C e) (D_wife_of : MDef P w K mg base (CXR P w) C "wife_of" 2 ["self", "c"] (spWife C e)) (D_husband_of : MDef P w K mg base (CXR P w) C "husband_of" 2 ["self", "c"] (spHusband C e)) :
    FnOk P w K mg base (CXR P w) 3 f fd ["table", "sex", "c"] (spPartnerClass C) := by
  refine F.okX sc_pcls (fun vs H Q E h => ?_) (fun cdv A outer s H vs Q E hr hx h => ?_)
  · obtain ⟨p, n, w, h, m, c, rfl, _⟩ := h; rfl
  · obtain ⟨p, n, w', h', m, c, rfl, TA, hc, k⟩ := h
    obtain ⟨dx, a, b, c1, d, e1, e2, e3, e4, e5⟩ := TA.ob
    have D_husband_of := D_husband_of.imp (askN (e := e))
    have D_wife_of := D_wife_of.imp (askN (e := e))
    refine ⟨_, (pss_one (ps_ret (pe_ifExp (pt_cmpR op_eq (pv 1) pe_str (nomark _)) (pe_methX (pv 0) T.cl_Table D_wife_of hx.s hr (pa_cons (pv 2) pa_nil)) (pe_methX (pv 0) T.cl_Table D_husband_of hx.s hr (pa_cons (pv 2) pa_nil))))), ?_⟩
    refine ⟨_, rfl, rfl, _, rfl, ?_⟩
    rw [sex_man]
    cases m
    · exact iteF ⟨_, rfl, p, dx, _, rfl, e1, no_husband .., _, rfl, p, n, w', h', c, rfl, TA, hc, k⟩
    · exact iteT ⟨_, rfl, p, dx, _, rfl, e1, no_wife .., _, rfl, p, n, w', h', c, rfl, TA, hc, k⟩
theorem sc_ccls : FnScope ["table", "sex", "c"] ["table", "sex", "c"] (defScope (top 17)) := ⟨rfl, rfl, rfl, by decide +kernel, rfl, by decide +kernel, by decide +kernel⟩
theorem ok_ccls {f : Addr} {fd : FuncData} (F : Fun K "child_class" "child_class" (top 17) f fd) (T : Txt K mg C e) (D_heir_of : MDef P w K mg base (CXR P w) C "heir_of" 2 ["self", "c"] (spHeir C e)) (D_husband_of : MDef P w K mg base (CXR P w) C "husband_of" 2 ["self", "c"] (spHusband C e)) :
    FnOk P w K mg base (CXR P w) 3 f fd ["table", "sex", "c"] (spChildClass C) := by
  refine F.okX sc_ccls (fun vs H Q E h => ?_) (fun cdv A outer s H vs Q E hr hx h => ?_)
  · obtain ⟨p, n, w, h, m, c, rfl, _⟩ := h; rfl
  · obtain ⟨p, n, w', h', m, c, rfl, TA, hc, k⟩ := h
    obtain ⟨dx, a, b, c1, d, e1, e2, e3, e4, e5⟩ := TA.ob
    have D_husband_of := D_husband_of.imp (askN (e := e))
    have D_heir_of := D_heir_of.imp (askN (e := e))
    refine ⟨_, (pss_one (ps_ret (pe_methX (pv 0) T.cl_Table D_heir_of hx.s hr (pa_cons (pe_ifExp (pt_cmpR op_eq (pv 1) pe_str (nomark _)) (pv 2) (pe_methX (pv 0) T.cl_Table D_husband_of hx.s hr (pa_cons (pv 2) pa_nil))) pa_nil)))), ?_⟩
    refine ⟨_, rfl, p, dx, _, rfl, e1, no_heir .., _, rfl, rfl, _, rfl, ?_⟩
    rw [sex_man]
    cases m
    · exact iteF ⟨_, rfl, p, dx, _, rfl, e1, no_husband .., _, rfl, p, n, w', h', c, rfl, TA, hc, p, n, w', h', bw w' c, rfl, TA, bw_lt TA.tw hc, k⟩
    · exact iteT ⟨_, rfl, p, n, w', h', c, rfl, TA, hc, k⟩
theorem sc_clsa : FnScope ["table", "sex", "c", "letter"] ["table", "sex", "c", "letter"] (defScope (top 18)) := ⟨rfl, rfl, rfl, by decide +kernel, rfl, by decide +kernel, by decide +kernel⟩
theorem ok_clsa {f : Addr} {fd : FuncData} (F : Fun K "class_after" "class_after" (top 18) f fd) (T : Txt K mg C e) (D_wife_of : MDef P w K mg base (CXR P w) C "wife_of" 2 ["self", "c"] (spWife C e)) (D_father_of : MDef P w K mg base (CXR P w) C "father_of" 2 ["self", "c"] (spFather C e))
    (D_partner_class : Def P w K mg base (CXR P w) "partner_class" 3 ["table", "sex", "c"] (spPartnerClass C)) (D_child_class : Def P w K mg base (CXR P w) "child_class" 3 ["table", "sex", "c"] (spChildClass C)) : FnOk P w K mg base (CXR P w) 4 f fd ["table", "sex", "c", "letter"] (spClassAfter C) := by
  refine F.okX sc_clsa (fun vs H Q E h => ?_) (fun cdv A outer s H vs Q E hr hx h => ?_)
  · obtain ⟨p, n, w, h, m, c, l, rfl, _⟩ := h; rfl
  · obtain ⟨p, n, w', h', m, c, l, rfl, TA, hc, hl, k⟩ := h
    obtain ⟨dx, a, b, c1, d, e1, e2, e3, e4, e5⟩ := TA.ob
    have D_father_of := D_father_of.imp (askN (e := e))
    have D_wife_of := D_wife_of.imp (askN (e := e))
    refine ⟨_, (pss_cons (ps_if (pt_cmpR op_eq (pv 3) pe_str (nomark _)) (pss_one (ps_ret (pe_methX (pv 0) T.cl_Table D_father_of hx.s hr (pa_cons (pv 2) pa_nil)))) pss_nil)
      (pss_cons (ps_if (pt_cmpR op_eq (pv 3) pe_str (nomark _)) (pss_one (ps_ret (pe_methX (pv 0) T.cl_Table D_wife_of hx.s hr (pa_cons (pe_methX (pv 0) T.cl_Table D_father_of hx.s hr (pa_cons (pv 2) pa_nil)) pa_nil)))) pss_nil)
      (pss_cons (ps_if (pt_cmpR op_eq (pv 3) pe_str (nomark _)) (pss_one (ps_ret (pe_callX D_partner_class hx.s hr rfl (pa_cons (pv 0) (pa_cons (pv 1) (pa_cons (pv 2) pa_nil)))))) pss_nil)
      (pss_cons (ps_if (PW.pt (pw_or (pt_cmpR op_eq (pv 3) pe_str (nomark _)) (pw_or1 (pt_cmpR op_eq (pv 3) pe_str (nomark _))))) (pss_one (ps_ret (pe_callX D_child_class hx.s hr rfl (pa_cons (pv 0) (pa_cons (pv 1) (pa_cons (pv 2) pa_nil)))))) pss_nil)
      (pss_one (ps_ret (pv 2))))))), ?_⟩
    refine ⟨_, rfl, rfl, _, rfl, iteD2 (fun e => ?_) (fun e => ?_)⟩
    · rw [sgn_iff c_f] at e
      subst e
      exact ⟨_, rfl, p, dx, _, rfl, e1, no_father .., _, rfl, p, n, w', h', c, rfl, TA, hc, k⟩
    rw [sgn_iff c_f] at e
    refine ⟨_, rfl, rfl, _, rfl, iteD2 (fun e' => ?_) (fun e' => ?_)⟩
    · rw [sgn_iff c_m] at e'
      subst e'
      exact ⟨_, rfl, p, dx, _, rfl, e1, no_wife .., _, rfl, p, dx, _, rfl, e1, no_father .., _, rfl, p, n, w', h', c, rfl, TA, hc, p, n, w', h', bw h' c, rfl, TA, bw_lt TA.th hc, k⟩
    rw [sgn_iff c_m] at e'
    refine ⟨_, rfl, rfl, _, rfl, iteD2 (fun e2' => ?_) (fun e2' => ?_)⟩
    · rw [sgn_iff c_p] at e2'
      subst e2'
      exact ⟨_, rfl, _, rfl, _, rfl, p, n, w', h', m, c, rfl, TA, hc, k⟩
    rw [sgn_iff c_p] at e2'
    have kk : (l = 115 ∨ l = 100) → Q (nat (fw h' (if m then c else bw w' c))) H := fun q => by
      have z : stC w' h' m c l = fw h' (if m then c else bw w' c) := by unfold stC; rw [if_neg e, if_neg e', if_neg e2', if_pos q]
      rw [z] at k; exact k
    refine ⟨_, rfl, rfl, _, rfl, iteD2 (fun e3' => ?_) (fun e3' => ?_)⟩
    · rw [sgn_iff c_s] at e3'
      exact iteT ⟨_, rfl, _, rfl, _, rfl, p, n, w', h', m, c, rfl, TA, hc, kk (.inl e3')⟩
    rw [sgn_iff c_s] at e3'
    refine ⟨_, rfl, rfl, _, rfl, iteD2 (fun e4' => ?_) (fun e4' => ?_)⟩
    · rw [sgn_iff c_d] at e4'
      exact ⟨_, rfl, _, rfl, _, rfl, p, n, w', h', m, c, rfl, TA, hc, kk (.inr e4')⟩
    rw [sgn_iff c_d] at e4'
    have z : stC w' h' m c l = c := by unfold stC; rw [if_neg e, if_neg e', if_neg e2', if_neg (fun q => q.elim e3' e4')]
    rw [z] at k
    exact ⟨_, rfl, k⟩
/-! ### walked, turn_of -/
theorem led_take {w h : List Nat} {s : Bool × Nat} {l : List Nat} {i x : Nat} (hi : l[i]? = some x) : led w h s (l.take (i + 1)) = step w h (led w h s (l.take i)) x := by
  rw [List.take_add_one, hi, led_append]
  rfl
theorem sc_walked : FnScope ["table", "sex", "c", "walk", "here_sex", "here", "letter"] ["table", "sex", "c", "walk"] (defScope (top 19)) := ⟨rfl, rfl, rfl, by decide +kernel, rfl, by decide +kernel, by decide +kernel⟩
theorem ok_walked {f : Addr} {fd : FuncData} (F : Fun K "walked" "walked" (top 19) f fd) (T : Txt K mg C e) (D_check_walk : Def P w K mg base (CXR P w) "check_walk" 1 ["walk"] (spCheckWalk e)) (D_check_class : MDef P w K mg base (CXR P w) C "check_class" 1 ["self", "c"] (spCheck C e))
    (D_class_after : Def P w K mg base (CXR P w) "class_after" 4 ["table", "sex", "c", "letter"] (spClassAfter C)) (D_sex_after : Def P w K mg base (CXR P w) "sex_after" 2 ["sex", "letter"] spSexAfter) : FnOk P w K mg base (CXR P w) 5 f fd ["table", "sex", "c", "walk"] (spWalked C e) := by
  refine F.okX sc_walked (fun vs H Q E h => ?_) (fun cdv A outer s H vs Q E hr hx h => ?_)
  · obtain ⟨p, n, w, h, m, c, l, rfl, _⟩ := h; rfl
  · obtain ⟨p, n, w', h', m, c, l, rfl, TA, sm, hl, hs, k, kE, kC⟩ := h
    have nd := sc_walked.nd
    obtain ⟨dx, a, b, c1, d, e1, e2, e3, e4, e5⟩ := TA.ob
    refine ⟨_, (pss_cons (ps_expr (pe_callX D_check_walk hx.s hr rfl (pa_cons (pv 3) pa_nil)))
      (pss_cons (ps_expr (pe_methX (pv 0) T.cl_Table D_check_class hx.s hr (pa_cons (pv 2) pa_nil)))
      (pss_cons (ps_set (i := 4) nd rfl (Or.inl rfl) (pv 1))
      (pss_cons (ps_set (i := 5) nd rfl (Or.inl rfl) (pv 2))
      (pss_cons (ps_for PassesOwn.leaving rfl (pi_str (pv 3)) (pg_name (i := 6) nd rfl (Or.inl rfl)) (pss_cons (ps_set (i := 5) nd rfl (Or.inl rfl) (pe_callX D_class_after hx.s hr rfl (pa_cons (pv 0) (pa_cons (pv 4) (pa_cons (pv 5) (pa_cons (pv 6) pa_nil))))))
      (pss_one (ps_set (i := 4) nd rfl (Or.inl rfl) (pe_callX D_sex_after hx.s hr rfl (pa_cons (pv 4) (pa_cons (pv 6) pa_nil)))))))
      (pss_one (ps_ret (pe_tup (pa_cons (pv 4) (pa_cons (pv 5) pa_nil)))))))))), ?_⟩
    refine ⟨_, rfl, l, rfl, hl, hs, fun hw => ?_, kE⟩
    refine ⟨_, rfl, p, dx, _, rfl, e1, no_check .., _, rfl, p, n, w', h', c, rfl, TA, sm, fun hc => ?_, kC hw⟩
    have hn : c.toNat < n := by obtain ⟨h1, h2⟩ := hc; omega
    have ec : c = ((c.toNat : Nat) : Int) := by obtain ⟨h1, h2⟩ := hc; omega
    have kk := k hw hc
    generalize c.toNat = c' at hn ec kk
    subst ec
    refine ⟨_, rfl, _, rfl, _, rfl, _, rfl, for_str (l := l) (fun i σ H2 => (∃ o, σ = [some (.ref p), some (sexV m), some (nat c'), some (.str (txt l)), some (sexV (led w' h' (m, c') (l.take i)).1), some (nat (led w' h' (m, c') (l.take i)).2), o]) ∧ H2 = H) ⟨⟨none, rfl⟩, rfl⟩ ?_ ?_⟩
    · rintro i x σ H2 hi ⟨⟨o, rfl⟩, rfl⟩
      have hx : IsL x := hw.2 x (List.mem_of_getElem? hi)
      refine ⟨_, rfl, _, rfl, _, rfl, _, rfl, p, n, w', h', (led w' h' (m, c') (l.take i)).1, (led w' h' (m, c') (l.take i)).2, x, rfl, TA, led_lt TA.tw TA.th _ _ hn, hx, ?_⟩
      refine ⟨_, rfl, _, rfl, (led w' h' (m, c') (l.take i)).1, x, rfl, hx, ⟨some (sgn x), ?_⟩, rfl⟩
      rw [led_take hi]
      rfl
    · rintro σ H2 ⟨⟨o, rfl⟩, rfl⟩
      rw [List.take_length]
      exact ⟨_, rfl, _, rfl, two_fits, fun t ht => kk t ht⟩
end


--CUT
/-! the law's own helpers -/
def spCellAt (K : PySem.W.Frag) : Sp := fun vs H Q _ => ∃ (a : Addr) (ns : List Int) (k : Nat), vs = [.ref a, nat k] ∧ SqL K H a (ns.map V.int) ∧ ∀ z, Q (.int z) H
def spWhole : Sp := fun vs H Q _ => ∃ i, vs = [.int i] ∧ Q (.bl true) H
def spTurnBy : Sp := fun vs H Q _ => ∃ z n, vs = [.int z, nat n] ∧ n ≤ 8 ∧ ∀ w D H', IsTurn n w → H D = none → Same H H' → H' D = some (.lst (natL w)) → Q (.ref D) H'
def spWalkBy : Sp := fun vs H Q _ => ∃ z most, vs = [.int z, nat most] ∧ most ≤ 60 ∧ ∀ l : List Nat, l.length ≤ most → (∀ x ∈ l, IsL x) → Q (.str (txt l)) H
def spStep : Sp := fun vs H Q _ => ∃ a b n w h m c l, vs = [.ref a, .ref b, sexV m, nat c, sgn l] ∧ H a = some (.lst (natL w)) ∧ H b = some (.lst (natL h)) ∧ IsTurn n w ∧ IsTurn n h ∧ c < n ∧ IsL l ∧
  ∀ t, H t = none → Q (.ref t) (upd H t (.tup (pairV (step w h (m, c) l))))
def spLed : Sp := fun vs H Q _ => ∃ a b n w h m c l, vs = [.ref a, .ref b, sexV m, nat c, .str (txt l)] ∧ H a = some (.lst (natL w)) ∧ H b = some (.lst (natL h)) ∧ IsTurn n w ∧ IsTurn n h ∧ c < n ∧ l.length ≤ 60 ∧ (∀ x ∈ l, IsL x) ∧
  ∀ t H', H t = none → Same H H' → H' t = some (.tup (pairV (led w h (m, c) l))) → Q (.ref t) H'
def spSexAt : Sp := fun vs H Q _ => ∃ m l, vs = [sexV m, .str (txt l)] ∧ (∀ x ∈ l, IsL x) ∧ Q (sexV (endS m l)) H
def spLaw (K : PySem.W.Frag) : Sp := fun vs H Q _ => ∃ (a : Addr) (ns : List Int), vs = [.ref a] ∧ ns.length ≤ 63 ∧ SqL K H a (ns.map V.int) ∧ ∀ H', Q (.bl true) H'
def spSameN : Sp := fun vs H Q _ => ∃ (a b : Addr) (ns ms : List Int), vs = [.ref a, .ref b] ∧ H a = some (.lst (ns.map V.int)) ∧ H b = some (.lst (ms.map V.int)) ∧ ms.length ≤ 1000 ∧ Q (.bl (decide (ns = ms))) H
section
variable {P : Program} {w : World} {K : PySem.W.Frag} {mg : Str → Option Value} {base : Heap} {CX : CXT} {C : Addr} {e : Ad}
theorem sc_cell : FnScope ["script", "k"] ["script", "k"] (defScope (top 33)) := ⟨rfl, rfl, rfl, by decide +kernel, rfl, by decide +kernel, by decide +kernel⟩
theorem ok_cell {f : Addr} {fd : FuncData} (F : Fun K "_law_cell_at" "_law_cell_at" (top 33) f fd) (T : Txt K mg C e) : FnOk P w K mg base CX 1 f fd ["script", "k"] (spCellAt K) := by
  refine F.okN sc_cell (fun vs H Q E h => ?_) (fun cdv A outer s H vs Q E hr h => ?_)
  · obtain ⟨a, ns, k, rfl, _⟩ := h; rfl
  · obtain ⟨a, ns, c, rfl, hS, k⟩ := h
    refine ⟨_, (pss_cons (ps_if (pt_cmpR op_lt (pv 1) (pe_callB call_len_seq rfl T.z_len PySem.boot_len (pa_cons (pv 0) pa_nil)) (nomark _)) (pss_one (ps_ret (pe_ix ix_list (pv 0) (pv 1) (fun _ _ => rfl)))) pss_nil)
      (pss_one (ps_ret pe_int))), ?_⟩
    refine ⟨_, rfl, _, rfl, a, _, rfl, .inl hS, _, _, rfl, rfl, _, rfl, iteD2 (fun e => ?_) (fun _ => k 0)⟩
    rw [List.length_map] at e
    have hlt : c < ns.length := by omega
    exact ⟨_, rfl, _, rfl, a, _, _, V.int ns[c], rfl, rfl, hS, atI_nat (by rw [List.getElem?_map, List.getElem?_eq_getElem hlt]; rfl), k _⟩
theorem sc_whole : FnScope ["found"] ["found"] (defScope (top 34)) := ⟨rfl, rfl, rfl, by decide +kernel, rfl, by decide +kernel, by decide +kernel⟩
theorem ok_whole {f : Addr} {fd : FuncData} (F : Fun K "_law_whole" "_law_whole" (top 34) f fd) (T : Txt K mg C e) : FnOk P w K mg base CX 1 f fd ["found"] spWhole := by
  refine F.okN sc_whole (fun vs H Q E h => ?_) (fun cdv A outer s H vs Q E hr h => ?_)
  · obtain ⟨i, rfl, _⟩ := h; rfl
  · obtain ⟨i, rfl, k⟩ := h
    refine ⟨_, (pss_one (ps_ret (pe_and (pe_callB call_isinst rfl T.z_isinstance bt_isinstance (pa_cons (pv 0) (pa_cons (pe_bltn (v := .ty "int") rfl T.z_int bt_int rfl) pa_nil))) (pe_one (pe_not (pe_callB call_isinst rfl T.z_isinstance bt_isinstance (pa_cons (pv 0) (pa_cons (pe_bltn (v := .ty "bool") rfl T.z_bool bt_bool rfl) pa_nil)))))))), ?_⟩
    refine ⟨_, rfl, V.int i, "int", _, true, rfl, TyOf.int i, kit_same, _, rfl, iteT ?_⟩
    exact ⟨_, rfl, V.int i, "bool", _, false, rfl, TyOf.int i, kit_ib, _, rfl, k⟩
theorem natL_erase : ∀ (l : List Nat) (k : Nat), (natL l).eraseIdx k = natL (l.eraseIdx k)
  | [], _ => rfl
  | _ :: _, 0 => rfl
  | a :: r, k + 1 => by
    show (nat a :: natL r).eraseIdx (k + 1) = _
    rw [List.eraseIdx_cons_succ, natL_erase r k]
    rfl
theorem natL_snoc (l : List Nat) (x : Nat) : natL l ++ [nat x] = natL (l ++ [x]) := by unfold natL; rw [List.map_append]; rfl
theorem sc_turnby : FnScope ["cell", "many", "rest", "out"] ["cell", "many"] (defScope (top 36)) := ⟨rfl, rfl, rfl, by decide +kernel, rfl, by decide +kernel, by decide +kernel⟩
theorem ok_turnby {f : Addr} {fd : FuncData} (F : Fun K "_law_turn_by" "_law_turn_by" (top 36) f fd) (T : Txt K mg C e) : FnOk P w K mg base CX 1 f fd ["cell", "many"] spTurnBy := by
  refine F.okN sc_turnby (fun vs H Q E h => ?_) (fun cdv A outer s H vs Q E hr h => ?_)
  · obtain ⟨z, n, rfl, _⟩ := h; rfl
  · obtain ⟨z, n, rfl, n8, k⟩ := h
    have nd := sc_turnby.nd
    refine ⟨_, (pss_cons (ps_setComp (i := 2) nd rfl (Or.inl rfl) (fv := []) ⟨rfl, by decide +kernel, rfl, by decide +kernel, rfl, by decide +kernel, trivial, rfl, rfl⟩ rfl (pi_range1 rfl T.z_range (pa_cons (pv 1) pa_nil)) (fun _ _ _ => (pv 0)))
      (pss_cons (ps_set (i := 3) nd rfl (Or.inl rfl) (pe_lst pa_nil))
      (pss_cons (ps_while PassesOwn.never (pt_cmpR op_gt (pe_callB call_len_seq rfl T.z_len PySem.boot_len (pa_cons (pv 2) pa_nil)) pe_int (nomark _)) (pss_cons (ps_set (i := 0) nd rfl (Or.inl rfl) (pe_op op_mod (pe_op op_add (pe_op op_mul (pv 0) pe_int) pe_int) pe_int))
      (pss_one (ps_expr (pe_bm PySem.F.plainAttrs_list PySem.F.slot_list_append PySem.F.type_list_append mt_append (pv 3) (pa_cons (pe_bm PySem.F.plainAttrs_list PySem.F.slot_list_pop PySem.F.type_list_pop mt_popAt (pv 2) (pa_cons (pe_op op_mod (pe_op op_fdiv (pv 0) pe_int) (pe_callB call_len_seq rfl T.z_len PySem.boot_len (pa_cons (pv 2) pa_nil))) pa_nil)) pa_nil))))))
      (pss_one (ps_ret (pv 3)))))), ?_⟩
    -- rest = [c for c in range(many)]
    refine ⟨_, rfl, _, rfl, by omega, by omega, ?_⟩
    rw [Int.toNat_natCast]
    refine comp_range0 (fun i => nat i) (Nat.le_trans n8 (by decide)) (fun i H' R hi sm kk _ _ _ => ⟨_, rfl, kk H' (Same.refl _)⟩) fun r H1 hr1 s1 hl1 => ?_
    -- out = []
    refine ⟨by decide, fun o ho => ?_⟩
    have nro : r ≠ o := ne_of_none hl1 ho
    have hoH : H o = none := s1.free ho
    -- while len(rest) > 0
    refine ⟨fun m σ H2 => ∃ (z' : Int) (rest out : List Nat), m = rest.length ∧ σ = [some (.int z'), some (nat n), some (.ref r), some (.ref o)] ∧ Same H H2 ∧ H2 r = some (.lst (natL rest)) ∧ H2 o = some (.lst (natL out)) ∧ (rest ++ out).Perm (List.range n),
      ⟨_, z, List.range n, [], rfl, rfl, same_upd s1 hoH, by rw [upd_ne nro]; exact hl1, upd_same, by rw [List.append_nil]⟩, ?_⟩
    rintro m σ H2 ⟨z', rest, out, rfl, rfl, s2, hr2, ho2, pm⟩
    have hlen := pm.length_eq
    rw [List.length_append, List.length_range] at hlen
    refine ⟨_, rfl, r, _, rfl, .inl (SqL.of hr2), _, _, rfl, rfl, _, rfl, ?_⟩
    rw [natL_len]
    refine iteD2 (fun hpos => ?_) (fun hz => ?_)
    · refine ⟨fun σ' H' => ∃ (z' : Int) (rest' out : List Nat), rest'.length + 1 = rest.length ∧ σ' = [some (.int z'), some (nat n), some (.ref r), some (.ref o)] ∧ Same H H' ∧ H' r = some (.lst (natL rest')) ∧ H' o = some (.lst (natL out)) ∧ (rest' ++ out).Perm (List.range n),
        fun σ' H' ⟨z', rest', out, h1, h2⟩ => ⟨rest'.length, by omega, z', rest', out, rfl, h2⟩, ?_⟩
      refine ⟨_, rfl, _, _, rfl, rfl, .inr ⟨by decide, by decide⟩, _, _, rfl, rfl, _, _, rfl, rfl, (show (0 : Int) < 2147483647 by decide), ?_⟩
      refine ⟨_, rfl, .inl ⟨rfl, _, SqL.of ho2⟩, _, rfl, .inl ⟨rfl, _, SqL.of hr2⟩, _, rfl, _, _, rfl, rfl, ⟨by decide, by decide⟩, _, rfl, r, _, rfl, .inl (SqL.of hr2), _, _, rfl, rfl, by rw [natL_len]; exact hpos, ?_⟩
      rw [natL_len]
      dsimp only
      generalize hq : ((z' * 48271 + 29) % 2147483647 / 3 % (rest.length : Int)) = q
      have q0 : 0 ≤ q := by rw [← hq]; exact Int.emod_nonneg _ (by omega)
      have q1 : q < rest.length := by rw [← hq]; exact Int.emod_lt_of_pos _ hpos
      have qn : q.toNat < rest.length := by omega
      have hx : rest[q.toNat]? = some rest[q.toNat] := List.getElem?_eq_getElem qn
      refine ⟨r, _, q, q.toNat, nat rest[q.toNat], rfl, rfl, hr2, by omega, by omega, by rw [natL_len]; exact seqIndex_of q0 q1, natL_get hx, ?_⟩
      refine ⟨o, _, _, rfl, rfl, by rw [upd_ne (Ne.symm nro)]; exact ho2, by rw [natL_len]; have : 8 < sizeLine := by decide
                                                                             omega, ?_⟩
      refine ⟨_, rest.eraseIdx q.toNat, out ++ [rest[q.toNat]], ?_, rfl, ?_, ?_, ?_, perm_pick pm hx⟩
      · rw [List.length_eraseIdx, if_pos qn]; omega
      · exact same_upd (same_upd s2 hr1) hoH
      · rw [upd_ne nro, upd_same, natL_erase]
      · rw [upd_same, natL_snoc]
    · have hz' : rest = [] := List.length_eq_zero_iff.mp (by omega)
      subst hz'
      exact ⟨_, rfl, k out o H2 pm hoH s2 ho2⟩
end


--CUT
/-! books: what a book is, what it looks like, and its own defs -/
abbrev Per := Bool × Option (Nat × Nat)
structure Bk where
  ps : List Per
  prs : List (Nat × Nat)
def faV (x : Per) : V := match x.2 with
  | none => .non
  | some q => nat q.1
def moV (x : Per) : V := match x.2 with
  | none => .non
  | some q => nat q.2
def perSex (x : Per) : V := sexV x.1
def IsS (bk : Bk) (i : Nat) (s : Bool) : Prop := ∃ x, bk.ps[i]? = some x ∧ x.1 = s
def mates (prs : List (Nat × Nat)) (i : Nat) : List Nat := (prs.filter fun q => decide (q.1 = i)).map (·.2) ++ (prs.filter fun q => decide (q.2 = i)).map (·.1)
structure BkOk (bk : Bk) : Prop where
  n60 : bk.ps.length ≤ 60
  pl : bk.prs.length ≤ 1000
  par : ∀ x ∈ bk.ps, ∀ q, x.2 = some q → IsS bk q.1 true ∧ IsS bk q.2 false ∧ q ∈ bk.prs
  pr : ∀ q ∈ bk.prs, IsS bk q.1 true ∧ IsS bk q.2 false
  nd : bk.prs.Nodup
def Bk.add (bk : Bk) (x : Per) : Bk := ⟨bk.ps ++ [x], bk.prs⟩
def Bk.pair (bk : Bk) (q : Nat × Nat) : Bk := ⟨bk.ps, if q ∈ bk.prs then bk.prs else bk.prs ++ [q]⟩
theorem IsS.lt {bk : Bk} {i : Nat} {s : Bool} (h : IsS bk i s) : i < bk.ps.length := by
  obtain ⟨x, hx, _⟩ := h
  exact (List.getElem?_eq_some_iff.mp hx).1
theorem IsS.uniq {bk : Bk} {i : Nat} {s t : Bool} (h : IsS bk i s) (g : IsS bk i t) : s = t := by
  obtain ⟨x, hx, rfl⟩ := h
  obtain ⟨y, hy, rfl⟩ := g
  rw [hx] at hy
  cases Option.some.inj hy
  rfl
theorem IsS.add {bk : Bk} {i : Nat} {s : Bool} {x : Per} (h : IsS bk i s) : IsS (bk.add x) i s := by
  obtain ⟨y, hy, rfl⟩ := h
  exact ⟨y, by show (bk.ps ++ [x])[i]? = some y; rw [List.getElem?_append_left (List.getElem?_eq_some_iff.mp hy).1]; exact hy, rfl⟩
theorem BkOk.added {bk : Bk} (h : BkOk bk) {x : Per} (n : bk.ps.length < 60) (hx : ∀ q, x.2 = some q → IsS bk q.1 true ∧ IsS bk q.2 false ∧ q ∈ bk.prs) : BkOk (bk.add x) := by
  refine ⟨by show (bk.ps ++ [x]).length ≤ 60; rw [List.length_append]; show _ + 1 ≤ 60; omega, h.pl, fun y hy q hq => ?_, fun q hq => ⟨(h.pr q hq).1.add, (h.pr q hq).2.add⟩, h.nd⟩
  rcases List.mem_append.mp hy with z | z
  · obtain ⟨a, b, c⟩ := h.par y z q hq
    exact ⟨a.add, b.add, c⟩
  · rw [List.mem_singleton.mp z] at hq
    obtain ⟨a, b, c⟩ := hx q hq
    exact ⟨a.add, b.add, c⟩
theorem BkOk.paired {bk : Bk} (h : BkOk bk) {q : Nat × Nat} (n : bk.prs.length < 1000) (h1 : IsS bk q.1 true) (h2 : IsS bk q.2 false) : BkOk (bk.pair q) := by
  unfold Bk.pair
  by_cases z : q ∈ bk.prs
  · rw [if_pos z]; exact h
  · rw [if_neg z]
    refine ⟨h.n60, by show (bk.prs ++ [q]).length ≤ 1000; rw [List.length_append]; show _ + 1 ≤ 1000; omega, fun x hx r hr => ?_, fun r hr => ?_, ?_⟩
    · obtain ⟨a, b, c⟩ := h.par x hx r hr
      exact ⟨a, b, List.mem_append_left _ c⟩
    · rcases List.mem_append.mp hr with y | y
      · exact h.pr r y
      · rw [List.mem_singleton.mp y]; exact ⟨h1, h2⟩
    · rw [List.nodup_append]
      exact ⟨h.nd, List.nodup_cons.mpr ⟨fun y => (List.not_mem_nil y), List.nodup_nil⟩, fun a ha b hb e => z (by rw [← List.mem_singleton.mp hb, ← e]; exact ha)⟩
theorem mem_pair {bk : Bk} {q : Nat × Nat} : q ∈ (bk.pair q).prs := by
  unfold Bk.pair
  by_cases z : q ∈ bk.prs
  · rw [if_pos z]; exact z
  · rw [if_neg z]; exact List.mem_append_right _ (List.mem_singleton.mpr rfl)
theorem mates_snoc (prs : List (Nat × Nat)) (q : Nat × Nat) (i : Nat) (h : q.1 = i → ∀ r ∈ prs, r.2 ≠ i) : mates (prs ++ [q]) i = mates prs i ++ ((if q.1 = i then [q.2] else []) ++ (if q.2 = i then [q.1] else [])) := by
  unfold mates
  rw [List.filter_append, List.filter_append, List.map_append, List.map_append]
  by_cases a : q.1 = i
  · have e : prs.filter (fun q => decide (q.2 = i)) = [] := List.filter_eq_nil_iff.mpr fun r hr => by rw [decide_eq_false (h a r hr)]; exact Bool.false_ne_true
    rw [e, if_pos a]
    by_cases b : q.2 = i
    · simp [a, b]
    · simp [a, b]
  · rw [if_neg a]
    by_cases b : q.2 = i
    · simp [a, b]
    · simp [a, b]
theorem u12 : ¬ (("sexes" : Str) = "fathers") := by decide +kernel
theorem u13 : ¬ (("sexes" : Str) = "mothers") := by decide +kernel
theorem u14 : ¬ (("sexes" : Str) = "partner_lists") := by decide +kernel
theorem u23 : ¬ (("fathers" : Str) = "mothers") := by decide +kernel
theorem u24 : ¬ (("fathers" : Str) = "partner_lists") := by decide +kernel
theorem u34 : ¬ (("mothers" : Str) = "partner_lists") := by decide +kernel
def bfl (a b c d : Addr) : List (Str × V) := putF "partner_lists" (.ref d) (putF "mothers" (.ref c) (putF "fathers" (.ref b) (putF "sexes" (.ref a) [])))
theorem bfl_s (a b c d : Addr) : (bfl a b c d).lookup ("sexes" : Str) = some (.ref a) := by
  unfold bfl
  rw [lookup_putF, if_neg u14, lookup_putF, if_neg u13, lookup_putF, if_neg u12, lookup_putF, if_pos rfl]
theorem bfl_f (a b c d : Addr) : (bfl a b c d).lookup ("fathers" : Str) = some (.ref b) := by
  unfold bfl
  rw [lookup_putF, if_neg u24, lookup_putF, if_neg u23, lookup_putF, if_pos rfl]
theorem bfl_m (a b c d : Addr) : (bfl a b c d).lookup ("mothers" : Str) = some (.ref c) := by
  unfold bfl
  rw [lookup_putF, if_neg u34, lookup_putF, if_pos rfl]
theorem bfl_p (a b c d : Addr) : (bfl a b c d).lookup ("partner_lists" : Str) = some (.ref d) := by
  unfold bfl
  rw [lookup_putF, if_pos rfl]
theorem bfl_no (a b c d : Addr) {m : Str} (h1 : ¬ m = "partner_lists") (h2 : ¬ m = "mothers") (h3 : ¬ m = "fathers") (h4 : ¬ m = "sexes") : (bfl a b c d).lookup m = none := by
  unfold bfl
  rw [lookup_putF, if_neg h1, lookup_putF, if_neg h2, lookup_putF, if_neg h3, lookup_putF, if_neg h4]
  all_goals rfl
/-- a book in the heap; fp: what it writes to -/
structure BookAt (B : Addr) (H : Hp) (p : Addr) (fp : List Addr) (bk : Bk) : Prop where
  ok : BkOk bk
  nd : fp.Nodup
  ob : ∃ dx a b c d qs, fp = a :: b :: c :: d :: qs ∧ H p = some (.ins B dx (bfl a b c d)) ∧ H a = some (.lst (bk.ps.map perSex)) ∧ H b = some (.lst (bk.ps.map faV)) ∧ H c = some (.lst (bk.ps.map moV)) ∧ H d = some (.lst (qs.map V.ref)) ∧
    qs.length = bk.ps.length ∧ ∀ (i : Nat) q, qs[i]? = some q → H q = some (.lst (natL (mates bk.prs i)))
theorem BookAt.keep {B : Addr} {H H' : Hp} {p : Addr} {fp : List Addr} {bk : Bk} (T : BookAt B H p fp bk) (s : ∀ c o, H c = some o → c ∈ p :: fp → H' c = some o) : BookAt B H' p fp bk := by
  obtain ⟨ok, nd, dx, a, b, c, d, qs, rfl, e1, e2, e3, e4, e5, e6, e7⟩ := T
  exact ⟨ok, nd, dx, a, b, c, d, qs, rfl, s _ _ e1 (by simp), s _ _ e2 (by simp), s _ _ e3 (by simp), s _ _ e4 (by simp), s _ _ e5 (by simp), e6, fun i q h => s _ _ (e7 i q h) (by simp [List.mem_of_getElem? h])⟩
theorem BookAt.same {B : Addr} {H H' : Hp} {p : Addr} {fp : List Addr} {bk : Bk} (T : BookAt B H p fp bk) (s : Same H H') : BookAt B H' p fp bk := T.keep fun c o h _ => s c o h
/-- every address of a book holds something -/
theorem BookAt.held {B : Addr} {H : Hp} {p : Addr} {fp : List Addr} {bk : Bk} (T : BookAt B H p fp bk) {c : Addr} (hc : c ∈ p :: fp) : ∃ o, H c = some o := by
  obtain ⟨ok, nd, dx, a, b, c1, d, qs, rfl, e1, e2, e3, e4, e5, e6, e7⟩ := T
  simp only [List.mem_cons] at hc
  rcases hc with rfl | rfl | rfl | rfl | rfl | h
  · exact ⟨_, e1⟩
  · exact ⟨_, e2⟩
  · exact ⟨_, e3⟩
  · exact ⟨_, e4⟩
  · exact ⟨_, e5⟩
  · obtain ⟨i, hi⟩ := List.getElem?_of_mem h
    exact ⟨_, e7 i c hi⟩
/-- the heap behind a deed in a book -/
def After (B : Addr) (H : Hp) (p : Addr) (fp : List Addr) (bk' : Bk) (K : Hp → Prop) : Prop :=
  ∀ fp' H', BookAt B H' p fp' bk' → (∀ c o, H c = some o → c ∉ fp → H' c = some o) → (∀ c ∈ fp', c ∈ fp ∨ H c = none) → (∀ c ∈ fp, c ∈ fp') → K H'
theorem gone {B : Addr} {H H' : Hp} {p : Addr} {fp fp' : List Addr} {bk' : Bk} (BA : BookAt B H' p fp' bk') (kp : ∀ c o, H c = some o → c ∉ fp → H' c = some o) (sb : ∀ c ∈ fp, c ∈ fp') (c : Addr) (h : H' c = none) : H c = none := by
  cases y : H c with
  | none => rfl
  | some o =>
    by_cases q : c ∈ fp
    · obtain ⟨o', ho'⟩ := BA.held (List.mem_cons_of_mem p (sb c q))
      rw [h] at ho'; cases ho'
    · rw [kp c o y q] at h; cases h
/-- two numbers: a man and a woman of the book -/
def Cpl (bk : Bk) (i j : Int) : Prop := ∃ m f : Nat, i = (m : Int) ∧ j = (f : Int) ∧ IsS bk m true ∧ IsS bk f false
abbrev InB (bk : Bk) (i : Int) : Prop := InC bk.ps.length i
abbrev Sn (i : Int) : Prop := i.natAbs.log2 < 1920
def spAskB (e : Ad) (R : Bk → Nat → V → Prop) : Sp := fun vs H Q E => ∃ (p : Addr) (fp : List Addr) (bk : Bk) (i : Int), vs = [.ref p, .int i] ∧ BookAt e.Book H p fp bk ∧ Sn i ∧ (InB bk i → ∀ v, R bk i.toNat v → Q v H) ∧ (¬ InB bk i → E (.ref e.NoPerson) none H)
abbrev spCheckP (e : Ad) : Sp := spAskB e fun _ _ v => v = .non
abbrev spSexOf (e : Ad) : Sp := spAskB e fun bk i v => ∃ x, bk.ps[i]? = some x ∧ v = sexV x.1
abbrev spFatherB (e : Ad) : Sp := spAskB e fun bk i v => ∃ x, bk.ps[i]? = some x ∧ v = faV x
abbrev spMotherB (e : Ad) : Sp := spAskB e fun bk i v => ∃ x, bk.ps[i]? = some x ∧ v = moV x
def spListB (e : Ad) (R : Bk → Nat → List Nat → Prop) : Sp := fun vs H Q E => ∃ (p : Addr) (fp : List Addr) (bk : Bk) (i : Int), vs = [.ref p, .int i] ∧ BookAt e.Book H p fp bk ∧ Sn i ∧ (InB bk i → ∀ l D H', R bk i.toNat l → H D = none → Same H H' → H' D = some (.lst (natL l)) → Q (.ref D) H') ∧ (¬ InB bk i → E (.ref e.NoPerson) none H)
def kids (bk : Bk) (a : Nat) : List Nat := (List.range bk.ps.length).filter fun i => match bk.ps[i]? with
  | some x => inV (nat a) [faV x, moV x]
  | none => false
abbrev spPartnersB (e : Ad) : Sp := spListB e fun bk i l => l.Perm (mates bk.prs i) ∧ l.Pairwise (· ≤ ·)
abbrev spChildrenB (e : Ad) : Sp := spListB e fun bk i l => l = kids bk i
def spSizeB (e : Ad) : Sp := fun vs H Q _ => ∃ (p : Addr) (fp : List Addr) (bk : Bk), vs = [.ref p] ∧ BookAt e.Book H p fp bk ∧ Q (nat bk.ps.length) H
def spCouple (e : Ad) : Sp := fun vs H Q E => ∃ (p : Addr) (fp : List Addr) (bk : Bk) (i j : Int), vs = [.ref p, .int i, .int j] ∧ BookAt e.Book H p fp bk ∧ Sn i ∧ Sn j ∧ (Cpl bk i j → Q .non H) ∧ (¬ (InB bk i ∧ InB bk j) → E (.ref e.NoPerson) none H) ∧ (InB bk i → InB bk j → ¬ Cpl bk i j → E (.ref e.NoParents) none H)
def spRoom (e : Ad) : Sp := fun vs H Q E => ∃ (p : Addr) (fp : List Addr) (bk : Bk), vs = [.ref p] ∧ BookAt e.Book H p fp bk ∧ (bk.ps.length < 60 → Q .non H) ∧ (60 ≤ bk.ps.length → E (.ref e.TooMany) none H)
def spEnter (e : Ad) : Sp := fun vs H Q _ => ∃ (p : Addr) (fp : List Addr) (bk : Bk) (x : Per), vs = [.ref p, sexV x.1, faV x, moV x] ∧ BookAt e.Book H p fp bk ∧ bk.ps.length < 60 ∧ (∀ q, x.2 = some q → IsS bk q.1 true ∧ IsS bk q.2 false ∧ q ∈ bk.prs) ∧ After e.Book H p fp (bk.add x) (Q (nat bk.ps.length))
def spPair (e : Ad) : Sp := fun vs H Q _ => ∃ (p : Addr) (fp : List Addr) (bk : Bk) (m f : Nat), vs = [.ref p, nat m, nat f] ∧ BookAt e.Book H p fp bk ∧ bk.prs.length < 1000 ∧ IsS bk m true ∧ IsS bk f false ∧ After e.Book H p fp (bk.pair (m, f)) (Q .non)
def spCome (e : Ad) : Sp := fun vs H Q E => ∃ (p : Addr) (fp : List Addr) (bk : Bk) (s : Bool), vs = [.ref p, sexV s] ∧ BookAt e.Book H p fp bk ∧ (bk.ps.length < 60 → After e.Book H p fp (bk.add (s, none)) (Q (nat bk.ps.length))) ∧ (60 ≤ bk.ps.length → E (.ref e.TooMany) none H)
def spBorn (e : Ad) : Sp := fun vs H Q E => ∃ (p : Addr) (fp : List Addr) (bk : Bk) (s : Bool) (i j : Int), vs = [.ref p, sexV s, .int i, .int j] ∧ BookAt e.Book H p fp bk ∧ Sn i ∧ Sn j ∧
  (∀ m f : Nat, i = (m : Int) → j = (f : Int) → IsS bk m true → IsS bk f false → bk.ps.length < 60 → bk.prs.length < 1000 ∧ After e.Book H p fp ((bk.pair (m, f)).add (s, some (m, f))) (Q (nat bk.ps.length))) ∧
  (¬ (InB bk i ∧ InB bk j) → E (.ref e.NoPerson) none H) ∧ (InB bk i → InB bk j → ¬ Cpl bk i j → E (.ref e.NoParents) none H) ∧ (Cpl bk i j → 60 ≤ bk.ps.length → E (.ref e.TooMany) none H)
def spWed (e : Ad) : Sp := fun vs H Q E => ∃ (p : Addr) (fp : List Addr) (bk : Bk) (i j : Int), vs = [.ref p, .int i, .int j] ∧ BookAt e.Book H p fp bk ∧ Sn i ∧ Sn j ∧
  (∀ m f : Nat, i = (m : Int) → j = (f : Int) → IsS bk m true → IsS bk f false → bk.prs.length < 1000 ∧ After e.Book H p fp (bk.pair (m, f)) (Q .non)) ∧
  (¬ (InB bk i ∧ InB bk j) → E (.ref e.NoPerson) none H) ∧ (InB bk i → InB bk j → ¬ Cpl bk i j → E (.ref e.NoParents) none H)
def spBookInit (e : Ad) : Sp := fun vs H Q _ => ∃ (x dx : Addr), vs = [.ref x] ∧ H x = some (.ins e.Book dx []) ∧
  ∀ fp H', (∀ c o, H c = some o → c ≠ x → H' c = some o) → (∀ c ∈ fp, H c = none) → BookAt e.Book H' x fp ⟨[], []⟩ → Q .non H'
theorem toN {n : Nat} {i : Int} (h : InC n i) : ∃ k : Nat, i = (k : Int) ∧ k < n ∧ i.toNat = k := ⟨i.toNat, by have := h.1; omega, by have := h.1; have := h.2; omega, rfl⟩
theorem sexs_at {bk : Bk} {k : Nat} {x : Per} (h : bk.ps[k]? = some x) (f : Per → V) : atI (bk.ps.map f) (k : Int) = some (f x) := atI_nat (by rw [List.getElem?_map, h]; rfl)
section
variable {P : Program} {w : World} {K : PySem.W.Frag} {mg : Str → Option Value} {base : Heap} {CX : CXT} {C : Addr} {e : Ad}
theorem bno {m : Str} (a b c d : Addr) (h1 : ¬ m = "partner_lists" := by decide +kernel) (h2 : ¬ m = "mothers" := by decide +kernel) (h3 : ¬ m = "fathers" := by decide +kernel) (h4 : ¬ m = "sexes" := by decide +kernel) : (bfl a b c d).lookup m = none := bfl_no a b c d h1 h2 h3 h4
/-! ### check_person -/
theorem sc_checkp : FnScope ["self", "a"] ["self", "a"] (defScope (inClass (top 26) 1)) := ⟨rfl, rfl, rfl, by decide +kernel, rfl, by decide +kernel, by decide +kernel⟩
theorem ok_checkp {f : Addr} {fd : FuncData} (F : Fun K "check_person" "Book.check_person" (inClass (top 26) 1) f fd) (T : Txt K mg C e) : FnOk P w K mg base (CXR P w) 1 f fd ["self", "a"] (spCheckP e) := by
  refine F.okX sc_checkp (fun vs H Q E h => ?_) (fun cdv A outer s H vs Q E hr hx h => ?_)
  · obtain ⟨p, fp, bk, i, rfl, _⟩ := h; rfl
  · obtain ⟨p, fp, bk, i, rfl, BA, sm, k, kE⟩ := h
    obtain ⟨dx, a, b, c, d, qs, rfl, e1, e2, e3, e4, e5, e6, e7⟩ := BA.ob
    refine ⟨_, (pss_one (ps_if (PW.pt (pw_or (pt_cmpR op_lt (pv 1) pe_int (nomark _)) (pw_or1 (pt_cmpR op_ge (pv 1) (pe_callB call_len_seq rfl T.z_len PySem.boot_len (pa_cons (pe_fld (pv 0) rfl) pa_nil)) (nomark _))))) (pss_one (ps_rais hx T.m_NoPerson T.x_NoPerson hr rfl (pa_cons (pe_join (pj_cst (pj_int (pv 1) pj_nil))) pa_nil))) pss_nil)), ?_⟩
    refine ⟨_, rfl, _, _, rfl, rfl, _, rfl, iteD2 (fun q => ?_) (fun q => ?_)⟩
    · exact iteT ⟨by decide, _, rfl, _, rfl, sm, by decide, by decide, fun _ => ⟨one_fits, kE fun z => absurd z.1 (by omega)⟩⟩
    refine ⟨_, rfl, _, rfl, p, e.Book, dx, _, _, rfl, e1, T.cl_Book, T.n_sexes, bfl_s .., a, _, rfl, .inl (SqL.of e2), _, _, rfl, rfl, _, rfl, ?_⟩
    rw [List.length_map]
    refine iteD2 (fun q' => ?_) (fun q' => ?_)
    · exact ⟨by decide, _, rfl, _, rfl, sm, by decide, by decide, fun _ => ⟨one_fits, kE fun z => absurd z.2 (by omega)⟩⟩
    · exact k ⟨by omega, by omega⟩ _ rfl
theorem sc_couple : FnScope ["self", "man", "woman"] ["self", "man", "woman"] (defScope (inClass (top 26) 2)) := ⟨rfl, rfl, rfl, by decide +kernel, rfl, by decide +kernel, by decide +kernel⟩
theorem ok_couple {f : Addr} {fd : FuncData} (F : Fun K "check_couple" "Book.check_couple" (inClass (top 26) 2) f fd) (T : Txt K mg C e) (D_check_person : MDef P w K mg base (CXR P w) e.Book "check_person" 1 ["self", "a"] (spCheckP e)) : FnOk P w K mg base (CXR P w) 2 f fd ["self", "man", "woman"] (spCouple e) := by
  refine F.okX sc_couple (fun vs H Q E h => ?_) (fun cdv A outer s H vs Q E hr hx h => ?_)
  · obtain ⟨p, fp, bk, i, j, rfl, _⟩ := h; rfl
  · obtain ⟨p, fp, bk, i, j, rfl, BA, si, sj, k, kP, kN⟩ := h
    obtain ⟨dx, a, b, c, d, qs, rfl, e1, e2, e3, e4, e5, e6, e7⟩ := id BA.ob
    refine ⟨_, (pss_cons (ps_expr (pe_methX (pv 0) T.cl_Book D_check_person hx.s hr (pa_cons (pv 1) pa_nil)))
      (pss_cons (ps_expr (pe_methX (pv 0) T.cl_Book D_check_person hx.s hr (pa_cons (pv 2) pa_nil)))
      (pss_one (ps_if (PW.pt (pw_or (pt_cmpR op_ne (pe_ix ix_list (pe_fld (pv 0) rfl) (pv 1) (fun _ _ => rfl)) pe_str (nomark _)) (pw_or1 (pt_cmpR op_ne (pe_ix ix_list (pe_fld (pv 0) rfl) (pv 2) (fun _ _ => rfl)) pe_str (nomark _))))) (pss_one (ps_rais hx T.m_NoParents T.x_NoParents hr rfl (pa_cons (pe_join (pj_cst (pj_int (pv 1) (pj_cst (pj_int (pv 2) pj_nil))))) pa_nil))) pss_nil)))), ?_⟩
    refine ⟨_, rfl, p, dx, _, rfl, e1, bno .., _, rfl, p, _, bk, i, rfl, BA, si, fun hi v hv => ?_, fun z => kP fun q => z q.1⟩
    refine ⟨_, rfl, p, dx, _, rfl, e1, bno .., _, rfl, p, _, bk, j, rfl, BA, sj, fun hj v hv => ?_, fun z => kP fun q => z q.2⟩
    have kN := kN hi hj
    obtain ⟨m, rfl, hm, _⟩ := toN hi
    obtain ⟨f', rfl, hf, _⟩ := toN hj
    obtain ⟨x, hx⟩ : ∃ x, bk.ps[m]? = some x := ⟨_, List.getElem?_eq_getElem hm⟩
    obtain ⟨y, hy⟩ : ∃ y, bk.ps[f']? = some y := ⟨_, List.getElem?_eq_getElem hf⟩
    have no : ∀ z : ¬ Cpl bk (m : Int) (f' : Int), E (.ref e.NoParents) none H := kN
    have rs : ∀ z : ¬ Cpl bk (m : Int) (f' : Int), _ := fun z => no z
    refine ⟨_, rfl, p, e.Book, dx, _, _, rfl, e1, T.cl_Book, T.n_sexes, bfl_s .., _, rfl, a, _, _, _, rfl, rfl, SqL.of e2, sexs_at hx perSex, rfl, _, rfl, ?_⟩
    show if (!decide (sexV x.1 = V.str "man")) = true then _ else _
    rw [sex_man]
    cases s1 : x.1
    · refine iteT (iteT ⟨by decide, _, rfl, _, rfl, si, by decide, by decide, _, rfl, _, rfl, sj, by decide, by decide, fun _ => ⟨one_fits, no fun ⟨m', f2, h1, h2, h3, h4⟩ => ?_⟩⟩)
      have := Int.ofNat.inj h1
      subst this
      have := h3.uniq ⟨x, hx, s1⟩
      cases this
    refine iteF ?_
    refine ⟨_, rfl, p, e.Book, dx, _, _, rfl, e1, T.cl_Book, T.n_sexes, bfl_s .., _, rfl, a, _, _, _, rfl, rfl, SqL.of e2, sexs_at hy perSex, rfl, _, rfl, ?_⟩
    show if (!decide (sexV y.1 = V.str "woman")) = true then _ else _
    rw [sex_woman]
    cases s2 : y.1
    · exact iteF (k ⟨m, f', rfl, rfl, ⟨x, hx, s1⟩, ⟨y, hy, s2⟩⟩)
    · refine iteT ⟨by decide, _, rfl, _, rfl, si, by decide, by decide, _, rfl, _, rfl, sj, by decide, by decide, fun _ => ⟨one_fits, no fun ⟨m', f2, h1, h2, h3, h4⟩ => ?_⟩⟩
      have := Int.ofNat.inj h2
      subst this
      have := h4.uniq ⟨y, hy, s2⟩
      cases this
theorem sc_room : FnScope ["self"] ["self"] (defScope (inClass (top 26) 3)) := ⟨rfl, rfl, rfl, by decide +kernel, rfl, by decide +kernel, by decide +kernel⟩
theorem ok_room {f : Addr} {fd : FuncData} (F : Fun K "check_room" "Book.check_room" (inClass (top 26) 3) f fd) (T : Txt K mg C e) : FnOk P w K mg base (CXR P w) 1 f fd ["self"] (spRoom e) := by
  refine F.okX sc_room (fun vs H Q E h => ?_) (fun cdv A outer s H vs Q E hr hx h => ?_)
  · obtain ⟨p, fp, bk, rfl, _⟩ := h; rfl
  · obtain ⟨p, fp, bk, rfl, BA, k, kE⟩ := h
    obtain ⟨dx, a, b, c, d, qs, rfl, e1, e2, e3, e4, e5, e6, e7⟩ := BA.ob
    refine ⟨_, (pss_one (ps_if (pt_cmpR op_ge (pe_callB call_len_seq rfl T.z_len PySem.boot_len (pa_cons (pe_fld (pv 0) rfl) pa_nil)) (pe_globE rfl T.g_MOST_PERSONS) (nomark _)) (pss_one (ps_rais hx T.m_TooMany T.x_TooMany hr rfl (pa_cons (pe_join (pj_cst (pj_int (pe_globE rfl T.g_MOST_PERSONS) (pj_cst pj_nil)))) pa_nil))) pss_nil)), ?_⟩
    refine ⟨_, rfl, p, e.Book, dx, _, _, rfl, e1, T.cl_Book, T.n_sexes, bfl_s .., a, _, rfl, .inl (SqL.of e2), _, _, rfl, rfl, _, rfl, ?_⟩
    rw [List.length_map]
    refine iteD2 (fun q => ?_) (fun q => k (by omega))
    exact ⟨by decide, _, rfl, log_small (by decide), by decide, by decide, by decide, fun _ => ⟨one_fits, kE (by omega)⟩⟩
end


--CUT
/-! books: the deeds and the questions -/
theorem inV_natL (f : Nat) (l : List Nat) : inV (nat f) (natL l) = decide (f ∈ l) := by
  unfold inV natL
  rw [List.any_map]
  by_cases h : f ∈ l
  · rw [decide_eq_true h]
    exact List.any_eq_true.mpr ⟨f, h, by show ((f : Int) == (f : Int)) = true; simp⟩
  · rw [decide_eq_false h]
    refine List.any_eq_false.mpr fun x hx z => h ?_
    have z' : ((x : Int) == (f : Int)) = true := z
    have : x = f := by have := eq_of_beq z'; omega
    rw [← this]; exact hx
theorem flat_natL (l : List Nat) : (natL l).all flatV = true := by
  unfold natL
  rw [List.all_map]
  exact List.all_eq_true.mpr fun _ _ => rfl
theorem mates_none {bk : Bk} (h : BkOk bk) {i : Nat} (hi : bk.ps.length ≤ i) : mates bk.prs i = [] := by
  unfold mates
  have a : bk.prs.filter (fun q => decide (q.1 = i)) = [] := List.filter_eq_nil_iff.mpr fun r hr => by
    rw [decide_eq_false (fun z => by have := (h.pr r hr).1.lt; omega)]; exact Bool.false_ne_true
  have b : bk.prs.filter (fun q => decide (q.2 = i)) = [] := List.filter_eq_nil_iff.mpr fun r hr => by
    rw [decide_eq_false (fun z => by have := (h.pr r hr).2.lt; omega)]; exact Bool.false_ne_true
  rw [a, b]; rfl
theorem mem_mates {prs : List (Nat × Nat)} {i j : Nat} : j ∈ mates prs i ↔ (i, j) ∈ prs ∨ (j, i) ∈ prs := by
  unfold mates
  rw [List.mem_append, List.mem_map, List.mem_map]
  constructor
  · rintro (⟨q, hq, rfl⟩ | ⟨q, hq, rfl⟩)
    · obtain ⟨h1, h2⟩ := List.mem_filter.mp hq
      have h2 : q.1 = i := of_decide_eq_true h2
      subst h2; exact .inl h1
    · obtain ⟨h1, h2⟩ := List.mem_filter.mp hq
      have h2 : q.2 = i := of_decide_eq_true h2
      subst h2; exact .inr h1
  · rintro (h | h)
    · exact .inl ⟨(i, j), List.mem_filter.mpr ⟨h, decide_eq_true rfl⟩, rfl⟩
    · exact .inr ⟨(j, i), List.mem_filter.mpr ⟨h, decide_eq_true rfl⟩, rfl⟩
theorem mates_len (prs : List (Nat × Nat)) (i : Nat) : (mates prs i).length ≤ 2 * prs.length := by
  unfold mates
  rw [List.length_append, List.length_map, List.length_map]
  have := List.length_filter_le (fun q : Nat × Nat => decide (q.1 = i)) prs
  have := List.length_filter_le (fun q : Nat × Nat => decide (q.2 = i)) prs
  omega
section
variable {P : Program} {w : World} {K : PySem.W.Frag} {mg : Str → Option Value} {base : Heap} {CX : CXT} {C : Addr} {e : Ad}
theorem sc_enter : FnScope ["self", "sex", "father", "mother"] ["self", "sex", "father", "mother"] (defScope (inClass (top 26) 4)) := ⟨rfl, rfl, rfl, by decide +kernel, rfl, by decide +kernel, by decide +kernel⟩
theorem ok_enter {f : Addr} {fd : FuncData} (F : Fun K "enter" "Book.enter" (inClass (top 26) 4) f fd) (T : Txt K mg C e) : FnOk P w K mg base CX 1 f fd ["self", "sex", "father", "mother"] (spEnter e) := by
  refine F.okN sc_enter (fun vs H Q E h => ?_) (fun cdv A outer s H vs Q E hr h => ?_)
  · obtain ⟨p, fp, bk, x, rfl, _⟩ := h; rfl
  · obtain ⟨p, fp, bk, x, rfl, BA, n60, hx, k⟩ := h
    have ok := BA.ok
    have ndf := BA.nd
    obtain ⟨dx, a, b, c, d, qs, rfl, e1, e2, e3, e4, e5, e6, e7⟩ := id BA.ob
    have big : 100 ≤ sizeLine := by decide
    have pa : p ≠ a := ne_of e1 e2 (by intro z; cases z)
    have pb : p ≠ b := ne_of e1 e3 (by intro z; cases z)
    have pc : p ≠ c := ne_of e1 e4 (by intro z; cases z)
    have pd : p ≠ d := ne_of e1 e5 (by intro z; cases z)
    have nd := ndf
    simp only [List.nodup_cons, List.mem_cons, not_or] at nd
    obtain ⟨⟨ab, ac, ad, aq⟩, ⟨bc, bd, bq⟩, ⟨cd, cq⟩, dq, nq⟩ := nd
    refine ⟨_, (pss_cons (ps_expr (pe_bm PySem.F.plainAttrs_list PySem.F.slot_list_append PySem.F.type_list_append mt_append (pe_fld (pv 0) rfl) (pa_cons (pv 1) pa_nil)))
      (pss_cons (ps_expr (pe_bm PySem.F.plainAttrs_list PySem.F.slot_list_append PySem.F.type_list_append mt_append (pe_fld (pv 0) rfl) (pa_cons (pv 2) pa_nil)))
      (pss_cons (ps_expr (pe_bm PySem.F.plainAttrs_list PySem.F.slot_list_append PySem.F.type_list_append mt_append (pe_fld (pv 0) rfl) (pa_cons (pv 3) pa_nil)))
      (pss_cons (ps_expr (pe_bm PySem.F.plainAttrs_list PySem.F.slot_list_append PySem.F.type_list_append mt_append (pe_fld (pv 0) rfl) (pa_cons (pe_lst pa_nil) pa_nil)))
      (pss_one (ps_ret (pe_op op_sub (pe_callB call_len_seq rfl T.z_len PySem.boot_len (pa_cons (pe_fld (pv 0) rfl) pa_nil)) pe_int))))))), ?_⟩
    refine ⟨_, rfl, p, e.Book, dx, _, _, rfl, e1, T.cl_Book, T.n_sexes, bfl_s .., .inl ⟨rfl, _, SqL.of e2⟩, _, rfl, a, _, _, rfl, rfl, e2, by rw [List.length_map]; omega, ?_⟩
    generalize hH1 : upd H a _ = H1
    have p1 : H1 p = some (.ins e.Book dx (bfl a b c d)) := by rw [← hH1, upd_ne pa]; exact e1
    have b1 : H1 b = some (.lst (bk.ps.map faV)) := by rw [← hH1, upd_ne (Ne.symm ab)]; exact e3
    refine ⟨_, rfl, p, e.Book, dx, _, _, rfl, p1, T.cl_Book, T.n_fathers, bfl_f .., .inl ⟨rfl, _, SqL.of b1⟩, _, rfl, b, _, _, rfl, rfl, b1, by rw [List.length_map]; omega, ?_⟩
    generalize hH2 : upd H1 b _ = H2
    have p2 : H2 p = some (.ins e.Book dx (bfl a b c d)) := by rw [← hH2, upd_ne pb]; exact p1
    have c2 : H2 c = some (.lst (bk.ps.map moV)) := by rw [← hH2, upd_ne (Ne.symm bc), ← hH1, upd_ne (Ne.symm ac)]; exact e4
    refine ⟨_, rfl, p, e.Book, dx, _, _, rfl, p2, T.cl_Book, T.n_mothers, bfl_m .., .inl ⟨rfl, _, SqL.of c2⟩, _, rfl, c, _, _, rfl, rfl, c2, by rw [List.length_map]; omega, ?_⟩
    generalize hH3 : upd H2 c _ = H3
    have p3 : H3 p = some (.ins e.Book dx (bfl a b c d)) := by rw [← hH3, upd_ne pc]; exact p2
    have d3 : H3 d = some (.lst (qs.map V.ref)) := by rw [← hH3, upd_ne (Ne.symm cd), ← hH2, upd_ne (Ne.symm bd), ← hH1, upd_ne (Ne.symm ad)]; exact e5
    have o3 : ∀ r o, H r = some o → r ≠ a → r ≠ b → r ≠ c → H3 r = some o := fun r o h z1 z2 z3 => by rw [← hH3, upd_ne z3, ← hH2, upd_ne z2, ← hH1, upd_ne z1]; exact h
    have a3 : H3 a = some (.lst (bk.ps.map perSex ++ [sexV x.1])) := by rw [← hH3, upd_ne ac, ← hH2, upd_ne ab, ← hH1, upd_same]
    have b3 : H3 b = some (.lst (bk.ps.map faV ++ [faV x])) := by rw [← hH3, upd_ne bc, ← hH2, upd_same]
    have c3 : H3 c = some (.lst (bk.ps.map moV ++ [moV x])) := by rw [← hH3, upd_same]
    clear hH3 hH2 hH1
    refine ⟨_, rfl, p, e.Book, dx, _, _, rfl, p3, T.cl_Book, T.n_partner_lists, bfl_p .., .inl ⟨rfl, _, SqL.of d3⟩, by decide, fun q hq => ?_⟩
    have qd : d ≠ q := ne_of_none d3 hq
    have qH : H q = none := by
      cases z : H q with
      | none => rfl
      | some o =>
        have w1 : q ≠ a := fun y => by subst y; rw [a3] at hq; cases hq
        have w2 : q ≠ b := fun y => by subst y; rw [b3] at hq; cases hq
        have w3 : q ≠ c := fun y => by subst y; rw [c3] at hq; cases hq
        rw [o3 q o z w1 w2 w3] at hq; cases hq
    refine ⟨d, _, _, rfl, rfl, by rw [upd_ne qd]; exact d3, by rw [List.length_map, e6]; omega, ?_⟩
    generalize hH5 : upd (upd H3 q _) d _ = H5
    have o5 : ∀ r o, H3 r = some o → r ≠ d → H5 r = some o := fun r o h z => by rw [← hH5, upd_ne z, upd_ne (ne_of_none h hq)]; exact h
    have d5 : H5 d = some (.lst ((qs ++ [q]).map V.ref)) := by rw [← hH5, upd_same, List.map_append]; rfl
    have q5 : H5 q = some (.lst []) := by rw [← hH5, upd_ne (Ne.symm qd), upd_same]
    have p5 := o5 p _ p3 pd
    have a5 := o5 a _ a3 ad
    refine ⟨_, rfl, p, e.Book, dx, _, _, rfl, p5, T.cl_Book, T.n_sexes, bfl_s .., a, _, rfl, .inl (SqL.of a5), _, _, rfl, rfl, ?_⟩
    have ev : V.int (((bk.ps.map perSex ++ [sexV x.1]).length : Nat) - (1 : Int)) = nat bk.ps.length := by
      rw [List.length_append, List.length_map]; show V.int _ = V.int _; congr 1; show ((bk.ps.length + 1 : Nat) : Int) - 1 = _; omega
    show Q (V.int (((bk.ps.map perSex ++ [sexV x.1]).length : Nat) - (1 : Int))) H5
    rw [ev]
    refine k ((a :: b :: c :: d :: qs) ++ [q]) H5 ⟨ok.added n60 hx, ?_, dx, a, b, c, d, qs ++ [q], rfl, p5, ?_, ?_, ?_, d5, ?_, fun i r hi => ?_⟩ (fun r o hr hn => ?_) (fun r hr => ?_) (fun r hr => ?_)
    · rw [List.nodup_append]
      refine ⟨ndf, List.nodup_cons.mpr ⟨fun y => (List.not_mem_nil y), List.nodup_nil⟩, fun r hr t ht z => ?_⟩
      rw [List.mem_singleton.mp ht] at z
      subst z
      obtain ⟨o, ho⟩ := BA.held (List.mem_cons_of_mem _ hr)
      rw [qH] at ho; cases ho
    · rw [a5]; show _ = some (HO.lst ((bk.ps ++ [x]).map perSex)); rw [List.map_append]; rfl
    · rw [o5 b _ b3 bd]; show _ = some (HO.lst ((bk.ps ++ [x]).map faV)); rw [List.map_append]; rfl
    · rw [o5 c _ c3 cd]; show _ = some (HO.lst ((bk.ps ++ [x]).map moV)); rw [List.map_append]; rfl
    · show (qs ++ [q]).length = (bk.ps ++ [x]).length; rw [List.length_append, List.length_append, e6]; rfl
    · show H5 r = some (.lst (natL (mates bk.prs i)))
      by_cases z : i < qs.length
      · rw [List.getElem?_append_left z] at hi
        have rm := List.mem_of_getElem? hi
        exact o5 r _ (o3 r _ (e7 i r hi) (fun y => aq (y ▸ rm)) (fun y => bq (y ▸ rm)) (fun y => cq (y ▸ rm))) (fun y => dq (y ▸ rm))
      · have hlt := (List.getElem?_eq_some_iff.mp hi).1
        rw [List.length_append] at hlt
        have h1 : [q].length = 1 := rfl
        have hi' : i = qs.length := by omega
        subst hi'
        rw [List.getElem?_append_right (Nat.le_refl _), Nat.sub_self] at hi
        cases Option.some.inj hi
        rw [mates_none ok (by omega)]
        exact q5
    · simp only [List.mem_cons, not_or] at hn
      exact o5 r o (o3 r o hr hn.1 hn.2.1 hn.2.2.1) hn.2.2.2.1
    · rcases List.mem_append.mp hr with z | z
      · exact .inl z
      · rw [List.mem_singleton.mp z]; exact .inr qH
    · exact List.mem_append_left _ hr
theorem sc_pair : FnScope ["self", "man", "woman"] ["self", "man", "woman"] (defScope (inClass (top 26) 5)) := ⟨rfl, rfl, rfl, by decide +kernel, rfl, by decide +kernel, by decide +kernel⟩
theorem ok_pair {f : Addr} {fd : FuncData} (F : Fun K "pair" "Book.pair" (inClass (top 26) 5) f fd) (T : Txt K mg C e) : FnOk P w K mg base CX 1 f fd ["self", "man", "woman"] (spPair e) := by
  refine F.okN sc_pair (fun vs H Q E h => ?_) (fun cdv A outer s H vs Q E hr h => ?_)
  · obtain ⟨p, fp, bk, m, f, rfl, _⟩ := h; rfl
  · obtain ⟨p, fp, bk, m, f, rfl, BA, l1000, hm, hf, k⟩ := h
    have ok := BA.ok
    have ndf := BA.nd
    obtain ⟨dx, a, b, c, d, qs, rfl, e1, e2, e3, e4, e5, e6, e7⟩ := id BA.ob
    have big : 4000 ≤ sizeLine := by decide
    have nd := ndf
    simp only [List.nodup_cons, List.mem_cons, not_or] at nd
    obtain ⟨⟨ab, ac, ad, aq⟩, ⟨bc, bd, bq⟩, ⟨cd, cq⟩, dq, nq⟩ := nd
    have mf : m ≠ f := fun z => by subst z; cases hm.uniq hf
    have lm : m < qs.length := by rw [e6]; exact hm.lt
    have lf : f < qs.length := by rw [e6]; exact hf.lt
    obtain ⟨qm, hqm⟩ : ∃ q, qs[m]? = some q := ⟨_, List.getElem?_eq_getElem lm⟩
    obtain ⟨qf, hqf⟩ : ∃ q, qs[f]? = some q := ⟨_, List.getElem?_eq_getElem lf⟩
    have nqq : qm ≠ qf := fun z => mf ((List.getElem?_inj lm nq).mp (by rw [hqm, hqf, z]))
    have atm : atI (qs.map V.ref) (m : Int) = some (.ref qm) := atI_nat (by rw [List.getElem?_map, hqm]; rfl)
    have atf : atI (qs.map V.ref) (f : Int) = some (.ref qf) := atI_nat (by rw [List.getElem?_map, hqf]; rfl)
    have pm : p ≠ qm := ne_of e1 (e7 m qm hqm) (by intro z; cases z)
    have dm : d ≠ qm := fun z => dq (z ▸ List.mem_of_getElem? hqm)
    have iff : f ∈ mates bk.prs m ↔ (m, f) ∈ bk.prs := by
      rw [mem_mates]
      refine ⟨fun h => h.elim id fun z => ?_, .inl⟩
      cases (ok.pr _ z).1.uniq hf
    refine ⟨_, (pss_one (ps_if (pt_cmpR op_notIn_seq (pv 2) (pe_ix ix_list (pe_fld (pv 0) rfl) (pv 1) (fun _ _ => rfl)) (by with_unfolding_all rfl)) (pss_cons (ps_expr (pe_bm PySem.F.plainAttrs_list PySem.F.slot_list_append PySem.F.type_list_append mt_append (pe_ix ix_list (pe_fld (pv 0) rfl) (pv 1) (fun _ _ => rfl)) (pa_cons (pv 2) pa_nil)))
      (pss_one (ps_expr (pe_bm PySem.F.plainAttrs_list PySem.F.slot_list_append PySem.F.type_list_append mt_append (pe_ix ix_list (pe_fld (pv 0) rfl) (pv 2) (fun _ _ => rfl)) (pa_cons (pv 1) pa_nil))))) pss_nil)), ?_⟩
    refine ⟨_, rfl, _, rfl, p, e.Book, dx, _, _, rfl, e1, T.cl_Book, T.n_partner_lists, bfl_p .., _, rfl, d, _, _, _, rfl, rfl, SqL.of e5, atm, qm, _, rfl, .inl (SqL.of (e7 m qm hqm)), rfl, flat_natL _, _, rfl, ?_⟩
    show if (!inV (nat f) (natL (mates bk.prs m))) = true then _ else _
    rw [inV_natL]
    by_cases q : (m, f) ∈ bk.prs
    · rw [decide_eq_true (iff.mpr q)]
      have eb : bk.pair (m, f) = bk := by unfold Bk.pair; rw [if_pos q]
      rw [eb] at k
      exact iteF (k _ H BA (fun c o h _ => h) (fun c h => .inl h) fun c h => h)
    · rw [decide_eq_false (fun z => q (iff.mp z))]
      refine iteT ?_
      have lenm := mates_len bk.prs m
      have lenf := mates_len bk.prs f
      have pl := ok.pl
      refine ⟨_, rfl, p, e.Book, dx, _, _, rfl, e1, T.cl_Book, T.n_partner_lists, bfl_p .., _, rfl, d, _, _, _, rfl, rfl, SqL.of e5, atm, .inl ⟨rfl, _, SqL.of (e7 m qm hqm)⟩, _, rfl, qm, _, _, rfl, rfl, e7 m qm hqm, by rw [natL_len]; omega, ?_⟩
      generalize hH1 : upd H qm _ = H1
      have p1 : H1 p = some (.ins e.Book dx (bfl a b c d)) := by rw [← hH1, upd_ne pm]; exact e1
      have d1 : H1 d = some (.lst (qs.map V.ref)) := by rw [← hH1, upd_ne dm]; exact e5
      have f1 : H1 qf = some (.lst (natL (mates bk.prs f))) := by rw [← hH1, upd_ne (Ne.symm nqq)]; exact e7 f qf hqf
      refine ⟨_, rfl, p, e.Book, dx, _, _, rfl, p1, T.cl_Book, T.n_partner_lists, bfl_p .., _, rfl, d, _, _, _, rfl, rfl, SqL.of d1, atf, .inl ⟨rfl, _, SqL.of f1⟩, _, rfl, qf, _, _, rfl, rfl, f1, by rw [natL_len]; omega, ?_⟩
      generalize hH2 : upd H1 qf _ = H2
      have o2 : ∀ r o, H r = some o → r ≠ qm → r ≠ qf → H2 r = some o := fun r o h z1 z2 => by rw [← hH2, upd_ne z2, ← hH1, upd_ne z1]; exact h
      have m2 : H2 qm = some (.lst (natL (mates bk.prs m ++ [f]))) := by rw [← hH2, upd_ne nqq, ← hH1, upd_same]; unfold natL; rw [List.map_append]; rfl
      have f2 : H2 qf = some (.lst (natL (mates bk.prs f ++ [m]))) := by rw [← hH2, upd_same]; unfold natL; rw [List.map_append]; rfl
      clear hH1 hH2
      have eb : bk.pair (m, f) = ⟨bk.ps, bk.prs ++ [(m, f)]⟩ := by unfold Bk.pair; rw [if_neg q]
      have okp := ok.paired (q := (m, f)) l1000 hm hf
      rw [eb] at k okp
      have inq : ∀ {r}, r ∈ [a, b, c, d] → r ≠ qm ∧ r ≠ qf := fun {r} hr => by
        simp only [List.mem_cons, List.not_mem_nil, or_false] at hr
        have hm := List.mem_of_getElem? hqm
        have hf := List.mem_of_getElem? hqf
        rcases hr with rfl | rfl | rfl | rfl
        · exact ⟨fun z => aq (z ▸ hm), fun z => aq (z ▸ hf)⟩
        · exact ⟨fun z => bq (z ▸ hm), fun z => bq (z ▸ hf)⟩
        · exact ⟨fun z => cq (z ▸ hm), fun z => cq (z ▸ hf)⟩
        · exact ⟨fun z => dq (z ▸ hm), fun z => dq (z ▸ hf)⟩
      have pf : p ≠ qf := ne_of e1 (e7 f qf hqf) (by intro z; cases z)
      refine k (a :: b :: c :: d :: qs) H2 ⟨okp, ndf, dx, a, b, c, d, qs, rfl, o2 _ _ e1 pm pf, o2 _ _ e2 (inq (by simp)).1 (inq (by simp)).2, o2 _ _ e3 (inq (by simp)).1 (inq (by simp)).2, o2 _ _ e4 (inq (by simp)).1 (inq (by simp)).2, o2 _ _ e5 (inq (by simp)).1 (inq (by simp)).2, e6, fun i r hi => ?_⟩ (fun r o hr hn => ?_) (fun r hr => .inl hr) fun r hr => hr
      · have sn := mates_snoc bk.prs (m, f) i fun z r hr y => by
          have z' : m = i := z
          subst z'
          have := (ok.pr r hr).2
          rw [y] at this
          cases this.uniq hm
        show H2 r = some (.lst (natL (mates (bk.prs ++ [(m, f)]) i)))
        rw [sn]
        by_cases z1 : i = m
        · subst z1
          rw [hqm] at hi
          cases Option.some.inj hi
          rw [if_pos rfl, if_neg (Ne.symm mf), List.append_nil]
          exact m2
        · by_cases z2 : i = f
          · subst z2
            rw [hqf] at hi
            cases Option.some.inj hi
            rw [if_neg (Ne.symm z1), if_pos rfl, List.nil_append]
            exact f2
          · rw [if_neg (fun y => z1 y.symm), if_neg (fun y => z2 y.symm), List.nil_append, List.append_nil]
            have li : i < qs.length := (List.getElem?_eq_some_iff.mp hi).1
            exact o2 r _ (e7 i r hi) (fun y => z1 ((List.getElem?_inj li nq).mp (by rw [hi, hqm, y]))) (fun y => z2 ((List.getElem?_inj li nq).mp (by rw [hi, hqf, y])))
      · simp only [List.mem_cons, not_or] at hn
        exact o2 r o hr (fun z => hn.2.2.2.2 (z ▸ List.mem_of_getElem? hqm)) (fun z => hn.2.2.2.2 (z ▸ List.mem_of_getElem? hqf))
theorem sc_come : FnScope ["self", "sex"] ["self", "sex"] (defScope (inClass (top 26) 6)) := ⟨rfl, rfl, rfl, by decide +kernel, rfl, by decide +kernel, by decide +kernel⟩
theorem ok_come {f : Addr} {fd : FuncData} (F : Fun K "come" "Book.come" (inClass (top 26) 6) f fd) (T : Txt K mg C e) (D_check_room : MDef P w K mg base (CXR P w) e.Book "check_room" 1 ["self"] (spRoom e)) (D_enter : MDef P w K mg base (CXR P w) e.Book "enter" 1 ["self", "sex", "father", "mother"] (spEnter e)) : FnOk P w K mg base (CXR P w) 2 f fd ["self", "sex"] (spCome e) := by
  refine F.okX sc_come (fun vs H Q E h => ?_) (fun cdv A outer s H vs Q E hr hx h => ?_)
  · obtain ⟨p, fp, bk, s, rfl, _⟩ := h; rfl
  · obtain ⟨p, fp, bk, s, rfl, BA, k, kE⟩ := h
    obtain ⟨dx, a, b, c, d, qs, rfl, e1, e2, e3, e4, e5, e6, e7⟩ := id BA.ob
    refine ⟨_, (pss_cons (ps_expr (pe_methX0 (pv 0) T.cl_Book D_check_room hx.s hr))
      (pss_one (ps_ret (pe_methX (pv 0) T.cl_Book D_enter hx.s hr (pa_cons (pv 1) (pa_cons pe_non (pa_cons pe_non pa_nil))))))), ?_⟩
    exact ⟨_, rfl, p, dx, _, rfl, e1, bno .., p, _, bk, rfl, BA, fun n60 => ⟨_, rfl, p, dx, _, rfl, e1, bno .., _, rfl, p, _, bk, (s, none), rfl, BA, n60, (fun q z => by cases z), k n60⟩, kE⟩
theorem sc_born : FnScope ["self", "sex", "father", "mother"] ["self", "sex", "father", "mother"] (defScope (inClass (top 26) 7)) := ⟨rfl, rfl, rfl, by decide +kernel, rfl, by decide +kernel, by decide +kernel⟩
theorem ok_born {f : Addr} {fd : FuncData} (F : Fun K "born" "Book.born" (inClass (top 26) 7) f fd) (T : Txt K mg C e) (D_check_couple : MDef P w K mg base (CXR P w) e.Book "check_couple" 2 ["self", "man", "woman"] (spCouple e)) (D_check_room : MDef P w K mg base (CXR P w) e.Book "check_room" 1 ["self"] (spRoom e)) (D_pair : MDef P w K mg base (CXR P w) e.Book "pair" 1 ["self", "man", "woman"] (spPair e)) (D_enter : MDef P w K mg base (CXR P w) e.Book "enter" 1 ["self", "sex", "father", "mother"] (spEnter e)) : FnOk P w K mg base (CXR P w) 3 f fd ["self", "sex", "father", "mother"] (spBorn e) := by
  refine F.okX sc_born (fun vs H Q E h => ?_) (fun cdv A outer s H vs Q E hr hx h => ?_)
  · obtain ⟨p, fp, bk, s, i, j, rfl, _⟩ := h; rfl
  · obtain ⟨p, fp, bk, s, i, j, rfl, BA, si, sj, k, kP, kN, kM⟩ := h
    obtain ⟨dx, a, b, c, d, qs, hfp, e1, e2, e3, e4, e5, e6, e7⟩ := id BA.ob
    refine ⟨_, (pss_cons (ps_expr (pe_methX (pv 0) T.cl_Book D_check_couple hx.s hr (pa_cons (pv 2) (pa_cons (pv 3) pa_nil))))
      (pss_cons (ps_expr (pe_methX0 (pv 0) T.cl_Book D_check_room hx.s hr))
      (pss_cons (ps_expr (pe_methX (pv 0) T.cl_Book D_pair hx.s hr (pa_cons (pv 2) (pa_cons (pv 3) pa_nil))))
      (pss_one (ps_ret (pe_methX (pv 0) T.cl_Book D_enter hx.s hr (pa_cons (pv 1) (pa_cons (pv 2) (pa_cons (pv 3) pa_nil))))))))), ?_⟩
    refine ⟨_, rfl, p, dx, _, rfl, e1, bno .., _, rfl, _, rfl, p, fp, bk, i, j, rfl, BA, si, sj, fun cp => ?_, kP, kN⟩
    refine ⟨_, rfl, p, dx, _, rfl, e1, bno .., p, fp, bk, rfl, BA, fun n60 => ?_, kM cp⟩
    obtain ⟨m, f', rfl, rfl, hm, hf⟩ := cp
    obtain ⟨l1000, k⟩ := k m f' rfl rfl hm hf n60
    refine ⟨_, rfl, p, dx, _, rfl, e1, bno .., _, rfl, _, rfl, p, fp, bk, m, f', rfl, BA, l1000, hm, hf, fun fp1 H1 BA1 kp1 fr1 sb1 => ?_⟩
    obtain ⟨dx1, a1, b1, c1, d1, qs1, hfp1, f1, _⟩ := id BA1.ob
    refine ⟨_, rfl, p, dx1, _, rfl, f1, bno .., _, rfl, _, rfl, _, rfl, p, fp1, bk.pair (m, f'), (s, some (m, f')), rfl, BA1, n60, fun q z => ?_, fun fp2 H2 BA2 kp2 fr2 sb2 => ?_⟩
    · cases Option.some.inj z
      exact ⟨hm, hf, mem_pair⟩
    · refine k fp2 H2 BA2 (fun c o hc hn => ?_) (fun c hc => ?_) fun c hc => sb2 c (sb1 c hc)
      · refine kp2 c o (kp1 c o hc hn) fun z => ?_
        rcases fr1 c z with y | y
        · exact hn y
        · rw [y] at hc; cases hc
      · rcases fr2 c hc with z | z
        · exact fr1 c z
        · exact .inr (gone BA1 kp1 sb1 c z)
theorem sc_wed : FnScope ["self", "man", "woman"] ["self", "man", "woman"] (defScope (inClass (top 26) 8)) := ⟨rfl, rfl, rfl, by decide +kernel, rfl, by decide +kernel, by decide +kernel⟩
theorem ok_wed {f : Addr} {fd : FuncData} (F : Fun K "wed" "Book.wed" (inClass (top 26) 8) f fd) (T : Txt K mg C e) (D_check_couple : MDef P w K mg base (CXR P w) e.Book "check_couple" 2 ["self", "man", "woman"] (spCouple e)) (D_pair : MDef P w K mg base (CXR P w) e.Book "pair" 1 ["self", "man", "woman"] (spPair e)) : FnOk P w K mg base (CXR P w) 3 f fd ["self", "man", "woman"] (spWed e) := by
  refine F.okX sc_wed (fun vs H Q E h => ?_) (fun cdv A outer s H vs Q E hr hx h => ?_)
  · obtain ⟨p, fp, bk, i, j, rfl, _⟩ := h; rfl
  · obtain ⟨p, fp, bk, i, j, rfl, BA, si, sj, k, kP, kN⟩ := h
    obtain ⟨dx, a, b, c, d, qs, hfp, e1, e2, e3, e4, e5, e6, e7⟩ := id BA.ob
    refine ⟨_, (pss_cons (ps_expr (pe_methX (pv 0) T.cl_Book D_check_couple hx.s hr (pa_cons (pv 1) (pa_cons (pv 2) pa_nil))))
      (pss_one (ps_expr (pe_methX (pv 0) T.cl_Book D_pair hx.s hr (pa_cons (pv 1) (pa_cons (pv 2) pa_nil)))))), ?_⟩
    refine ⟨_, rfl, p, dx, _, rfl, e1, bno .., _, rfl, _, rfl, p, fp, bk, i, j, rfl, BA, si, sj, fun cp => ?_, kP, kN⟩
    obtain ⟨m, f', rfl, rfl, hm, hf⟩ := cp
    obtain ⟨l1000, k⟩ := k m f' rfl rfl hm hf
    exact ⟨_, rfl, p, dx, _, rfl, e1, bno .., _, rfl, _, rfl, p, fp, bk, m, f', rfl, BA, l1000, hm, hf, k⟩
theorem sc_sizeb : FnScope ["self"] ["self"] (defScope (inClass (top 26) 9)) := ⟨rfl, rfl, rfl, by decide +kernel, rfl, by decide +kernel, by decide +kernel⟩
theorem ok_sizeb {f : Addr} {fd : FuncData} (F : Fun K "size" "Book.size" (inClass (top 26) 9) f fd) (T : Txt K mg C e) : FnOk P w K mg base CX 1 f fd ["self"] (spSizeB e) := by
  refine F.okN sc_sizeb (fun vs H Q E h => ?_) (fun cdv A outer s H vs Q E hr h => ?_)
  · obtain ⟨p, fp, bk, rfl, _⟩ := h; rfl
  · obtain ⟨p, fp, bk, rfl, BA, k⟩ := h
    obtain ⟨dx, a, b, c, d, qs, hfp, e1, e2, e3, e4, e5, e6, e7⟩ := id BA.ob
    refine ⟨_, (pss_one (ps_ret (pe_callB call_len_seq rfl T.z_len PySem.boot_len (pa_cons (pe_fld (pv 0) rfl) pa_nil)))), ?_⟩
    refine ⟨_, rfl, p, e.Book, dx, _, _, rfl, e1, T.cl_Book, T.n_sexes, bfl_s .., a, _, rfl, .inl (SqL.of e2), ?_⟩
    rw [List.length_map]
    exact k
theorem sc_sexof : FnScope ["self", "a"] ["self", "a"] (defScope (inClass (top 26) 10)) := ⟨rfl, rfl, rfl, by decide +kernel, rfl, by decide +kernel, by decide +kernel⟩
theorem ok_sexof {f : Addr} {fd : FuncData} (F : Fun K "sex_of" "Book.sex_of" (inClass (top 26) 10) f fd) (T : Txt K mg C e) (D_check_person : MDef P w K mg base (CXR P w) e.Book "check_person" 1 ["self", "a"] (spCheckP e)) : FnOk P w K mg base (CXR P w) 2 f fd ["self", "a"] (spSexOf e) := by
  refine F.okX sc_sexof (fun vs H Q E h => ?_) (fun cdv A outer s H vs Q E hr hx h => ?_)
  · obtain ⟨p, fp, bk, i, rfl, _⟩ := h; rfl
  · obtain ⟨p, fp, bk, i, rfl, BA, sm, k, kE⟩ := h
    obtain ⟨dx, a, b, c, d, qs, hfp, e1, e2, e3, e4, e5, e6, e7⟩ := id BA.ob
    refine ⟨_, (pss_cons (ps_expr (pe_methX (pv 0) T.cl_Book D_check_person hx.s hr (pa_cons (pv 1) pa_nil)))
      (pss_one (ps_ret (pe_ix ix_list (pe_fld (pv 0) rfl) (pv 1) (fun _ _ => rfl))))), ?_⟩
    refine ⟨_, rfl, p, dx, _, rfl, e1, bno .., _, rfl, p, fp, bk, i, rfl, BA, sm, fun hi v hv => ?_, kE⟩
    have k := k hi
    obtain ⟨n, rfl, hn, _⟩ := toN hi
    rw [Int.toNat_natCast] at k
    have hx : bk.ps[n]? = some bk.ps[n] := List.getElem?_eq_getElem hn
    exact ⟨_, rfl, p, e.Book, dx, _, _, rfl, e1, T.cl_Book, T.n_sexes, bfl_s .., _, rfl, a, _, _, _, rfl, rfl, SqL.of e2, sexs_at hx perSex, k _ ⟨_, hx, rfl⟩⟩
end


--CUT
/-! books: made, asked for lists -/
theorem nodup_len : ∀ (n : Nat) (l : List Nat), l.Nodup → (∀ x ∈ l, x < n) → l.length ≤ n
  | 0, l, _, h => by
    cases l with
    | nil => exact Nat.le_refl _
    | cons a r => exact absurd (h a (List.mem_cons_self ..)) (Nat.not_lt_zero _)
  | n + 1, l, nd, h => by
    by_cases m : n ∈ l
    · have e := List.length_erase_of_mem m
      have := nodup_len n (l.erase n) (nd.erase n) fun x hx => by
        have := (nd.mem_erase_iff).mp hx
        have := h x this.2
        omega
      omega
    · have := nodup_len n l nd fun x hx => by
        have := h x hx
        have : x ≠ n := fun z => m (z ▸ hx)
        omega
      omega
theorem mates_lt {bk : Bk} (ok : BkOk bk) {i j : Nat} (h : j ∈ mates bk.prs i) : j < bk.ps.length := by
  rcases mem_mates.mp h with z | z
  · exact (ok.pr _ z).2.lt
  · exact (ok.pr _ z).1.lt
theorem natL_int (w : List Nat) : natL w = (w.map fun (k : Nat) => (k : Int)).map V.int := by
  unfold natL
  rw [List.map_map]
  rfl
theorem toNats {ns : List Int} {l : List Nat} (h : ns.Perm (l.map fun (k : Nat) => (k : Int))) (s : ns.Pairwise (· ≤ ·)) : ∃ r : List Nat, ns.map V.int = natL r ∧ r.Perm l ∧ r.Pairwise (· ≤ ·) := by
  have nn : ∀ i ∈ ns, 0 ≤ i := fun i hi => by
    obtain ⟨c, _, rfl⟩ := List.mem_map.mp (h.mem_iff.mp hi)
    exact Int.natCast_nonneg c
  refine ⟨ns.map Int.toNat, ?_, ?_, ?_⟩
  · rw [natL_int, List.map_map (f := Int.toNat)]
    have e : ns = ns.map ((fun (k : Nat) => (k : Int)) ∘ Int.toNat) := by
      conv => lhs; rw [← List.map_id ns]
      exact List.map_congr_left fun i hi => (Int.toNat_of_nonneg (nn i hi)).symm
    rw [← e]
  · have q := h.map Int.toNat
    rw [List.map_map] at q
    have e : l.map (Int.toNat ∘ fun (k : Nat) => (k : Int)) = l := by
      conv => rhs; rw [← List.map_id l]
      exact List.map_congr_left fun i _ => Int.toNat_natCast i
    rw [e] at q
    exact q
  · refine List.pairwise_map.mpr (s.imp_of_mem fun {a b} ha hb hab => ?_)
    have := nn a ha
    have := nn b hb
    omega
theorem filter_idx {α β : Type} (xs : List α) (p : α → Bool) (f : α → β) (p' : Nat → Bool) (f' : Nat → β) (h : ∀ (i : Nat) x, xs[i]? = some x → p' i = p x ∧ f' i = f x) : ((List.range xs.length).filter p').map f' = (xs.filter p).map f := by
  induction xs generalizing p' f' with
  | nil => rfl
  | cons x xs ih =>
    rw [List.length_cons, List.range_succ_eq_map, List.filter_cons, List.filter_cons]
    obtain ⟨h1, h2⟩ := h 0 x rfl
    have ih := ih (p' ∘ Nat.succ) (f' ∘ Nat.succ) fun i y hy => h (i + 1) y (by simpa using hy)
    rw [List.filter_map, h1]
    cases p x
    · simp only [Bool.false_eq_true, if_false]
      rw [List.map_map]
      exact ih
    · simp only [if_true, List.map_cons, h2]
      rw [List.map_map]
      congr 1
section
variable {P : Program} {w : World} {K : PySem.W.Frag} {mg : Str → Option Value} {base : Heap} {CX : CXT} {C : Addr} {e : Ad}
theorem sc_binit : FnScope ["self"] ["self"] (defScope (inClass (top 26) 0)) := ⟨rfl, rfl, rfl, by decide +kernel, rfl, by decide +kernel, by decide +kernel⟩
theorem ok_binit {f : Addr} {fd : FuncData} (F : Fun K "__init__" "Book.__init__" (inClass (top 26) 0) f fd) (T : Txt K mg C e) : FnOk P w K mg base CX 1 f fd ["self"] (spBookInit e) := by
  refine F.okN sc_binit (fun vs H Q E h => ?_) (fun cdv A outer s H vs Q E hr h => ?_)
  · obtain ⟨x, dx, rfl, _⟩ := h; rfl
  · obtain ⟨x, dx, rfl, hx, k⟩ := h
    refine ⟨_, (pss_cons (ps_fld (pv 0) (pe_lst pa_nil) rfl)
      (pss_cons (ps_fld (pv 0) (pe_lst pa_nil) rfl)
      (pss_cons (ps_fld (pv 0) (pe_lst pa_nil) rfl)
      (pss_one (ps_fld (pv 0) (pe_lst pa_nil) rfl))))), ?_⟩
    refine ⟨by decide, fun a ha => ?_⟩
    have xa : x ≠ a := ne_of_none hx ha
    refine ⟨_, rfl, x, e.Book, dx, [], rfl, (by rw [upd_ne xa]; exact hx), T.cl_Book, T.n_sexes, (by show 0 < 1000; decide), ?_⟩
    generalize hH1 : upd (upd H a _) x _ = H1
    have x1 : H1 x = some (.ins e.Book dx (putF "sexes" (.ref a) [])) := by rw [← hH1, upd_same]
    have a1 : H1 a = some (.lst []) := by rw [← hH1, upd_ne (Ne.symm xa), upd_same]
    have o1 : ∀ r o, H r = some o → r ≠ x → H1 r = some o := fun r o h z => by rw [← hH1, upd_ne z, upd_ne (ne_of_none h ha)]; exact h
    clear hH1
    refine ⟨by decide, fun b hb => ?_⟩
    have xb : x ≠ b := ne_of_none x1 hb
    refine ⟨_, rfl, x, e.Book, dx, _, rfl, (by rw [upd_ne xb]; exact x1), T.cl_Book, T.n_fathers, (by show 1 < 1000; decide), ?_⟩
    generalize hH2 : upd (upd H1 b _) x _ = H2
    have x2 : H2 x = some (.ins e.Book dx (putF "fathers" (.ref b) (putF "sexes" (.ref a) []))) := by rw [← hH2, upd_same]
    have b2 : H2 b = some (.lst []) := by rw [← hH2, upd_ne (Ne.symm xb), upd_same]
    have o2 : ∀ r o, H1 r = some o → r ≠ x → H2 r = some o := fun r o h z => by rw [← hH2, upd_ne z, upd_ne (ne_of_none h hb)]; exact h
    clear hH2
    refine ⟨by decide, fun c hc => ?_⟩
    have xc : x ≠ c := ne_of_none x2 hc
    refine ⟨_, rfl, x, e.Book, dx, _, rfl, (by rw [upd_ne xc]; exact x2), T.cl_Book, T.n_mothers, (by show 2 < 1000; decide), ?_⟩
    generalize hH3 : upd (upd H2 c _) x _ = H3
    have x3 : H3 x = some (.ins e.Book dx (putF "mothers" (.ref c) (putF "fathers" (.ref b) (putF "sexes" (.ref a) [])))) := by rw [← hH3, upd_same]
    have c3 : H3 c = some (.lst []) := by rw [← hH3, upd_ne (Ne.symm xc), upd_same]
    have o3 : ∀ r o, H2 r = some o → r ≠ x → H3 r = some o := fun r o h z => by rw [← hH3, upd_ne z, upd_ne (ne_of_none h hc)]; exact h
    clear hH3
    refine ⟨by decide, fun d hd => ?_⟩
    have xd : x ≠ d := ne_of_none x3 hd
    refine ⟨_, rfl, x, e.Book, dx, _, rfl, (by rw [upd_ne xd]; exact x3), T.cl_Book, T.n_partner_lists, (by show 3 < 1000; decide), ?_⟩
    generalize hH4 : upd (upd H3 d _) x _ = H4
    have x4 : H4 x = some (.ins e.Book dx (bfl a b c d)) := by rw [← hH4, upd_same]; rfl
    have d4 : H4 d = some (.lst []) := by rw [← hH4, upd_ne (Ne.symm xd), upd_same]
    have o4 : ∀ r o, H3 r = some o → r ≠ x → H4 r = some o := fun r o h z => by rw [← hH4, upd_ne z, upd_ne (ne_of_none h hd)]; exact h
    clear hH4
    have fb : H b = none := by
      cases z : H b with
      | none => rfl
      | some o => rw [o1 b o z (Ne.symm xb)] at hb; cases hb
    have fc : H c = none := by
      cases z : H c with
      | none => rfl
      | some o => rw [o2 c o (o1 c o z (Ne.symm xc)) (Ne.symm xc)] at hc; cases hc
    have fd' : H d = none := by
      cases z : H d with
      | none => rfl
      | some o => rw [o3 d o (o2 d o (o1 d o z (Ne.symm xd)) (Ne.symm xd)) (Ne.symm xd)] at hd; cases hd
    have ab : a ≠ b := ne_of_none a1 hb
    have ac : a ≠ c := ne_of_none (o2 a _ a1 (Ne.symm xa)) hc
    have ad : a ≠ d := ne_of_none (o3 a _ (o2 a _ a1 (Ne.symm xa)) (Ne.symm xa)) hd
    have bc : b ≠ c := ne_of_none b2 hc
    have bd : b ≠ d := ne_of_none (o3 b _ b2 (Ne.symm xb)) hd
    have cd : c ≠ d := ne_of_none c3 hd
    refine k [a, b, c, d] H4 (fun r o hr z => o4 r o (o3 r o (o2 r o (o1 r o hr z) z) z) z) (fun r hr => ?_) ⟨⟨by show 0 ≤ 60; decide, by show 0 ≤ 1000; decide, (fun x hx => by cases hx), (fun q hq => by cases hq), List.nodup_nil⟩, ?_, dx, a, b, c, d, [], rfl, x4, o4 a _ (o3 a _ (o2 a _ a1 (Ne.symm xa)) (Ne.symm xa)) (Ne.symm xa), o4 b _ (o3 b _ b2 (Ne.symm xb)) (Ne.symm xb), o4 c _ c3 (Ne.symm xc), d4, rfl, fun i q hi => by cases hi⟩
    · simp only [List.mem_cons, List.not_mem_nil, or_false] at hr
      rcases hr with rfl | rfl | rfl | rfl
      · exact ha
      · exact fb
      · exact fc
      · exact fd'
    · simp only [List.nodup_cons, List.mem_cons, List.not_mem_nil, or_false, not_or, not_false_eq_true, and_true]
      exact ⟨⟨ab, ac, ad⟩, ⟨bc, bd⟩, cd, trivial, List.nodup_nil⟩
theorem sc_childrenb : FnScope ["self", "a"] ["self", "a"] (defScope (inClass (top 26) 14)) := ⟨rfl, rfl, rfl, by decide +kernel, rfl, by decide +kernel, by decide +kernel⟩
theorem fa_flat (x : Per) : flatV (faV x) = true := by unfold faV; cases x.2 <;> rfl
theorem mo_flat (x : Per) : flatV (moV x) = true := by unfold moV; cases x.2 <;> rfl
theorem ok_childrenb {f : Addr} {fd : FuncData} (F : Fun K "children" "Book.children" (inClass (top 26) 14) f fd) (T : Txt K mg C e) (D_check_person : MDef P w K mg base (CXR P w) e.Book "check_person" 1 ["self", "a"] (spCheckP e)) : FnOk P w K mg base (CXR P w) 2 f fd ["self", "a"] (spChildrenB e) := by
  refine F.okX sc_childrenb (fun vs H Q E h => ?_) (fun cdv A outer s H vs Q E hr hx h => ?_)
  · obtain ⟨p, fp, bk, i, rfl, _⟩ := h; rfl
  · obtain ⟨p, fp, bk, i, rfl, BA, sm, k, kE⟩ := h
    obtain ⟨dx, a, b, c, d, qs, hfp, e1, e2, e3, e4, e5, e6, e7⟩ := id BA.ob
    have n60 := BA.ok.n60
    refine ⟨_, (pss_cons (ps_expr (pe_methX (pv 0) T.cl_Book D_check_person hx.s hr (pa_cons (pv 1) pa_nil)))
      (pss_one (ps_ret (pe_compF (fv := [("a", 1), ("self", 0)]) ⟨rfl, by decide +kernel, rfl, by decide +kernel, rfl, by decide +kernel, ⟨⟨rfl, Or.inl rfl, Or.inl rfl, rfl⟩, ⟨⟨rfl, Or.inl rfl, Or.inl rfl, rfl⟩, trivial⟩⟩, rfl, rfl⟩ rfl (pi_range1 rfl T.z_range (pa_cons (pe_callB call_len_seq rfl T.z_len PySem.boot_len (pa_cons (pe_fld (pv 0) rfl) pa_nil)) pa_nil)) (fun _ _ _ => (pv 0)) (fun _ _ _ => (pt_cmpR op_in_seq (pv 1) (pe_tup (pa_cons (pe_ix ix_list (pe_fld (pv 2) rfl) (pv 0) (fun _ _ => rfl)) (pa_cons (pe_ix ix_list (pe_fld (pv 2) rfl) (pv 0) (fun _ _ => rfl)) pa_nil))) (by with_unfolding_all rfl))))))), ?_⟩
    refine ⟨_, rfl, p, dx, _, rfl, e1, bno .., _, rfl, p, fp, bk, i, rfl, BA, sm, fun hi v hv => ?_, kE⟩
    have k := k hi
    obtain ⟨n, rfl, hn, _⟩ := toN hi
    rw [Int.toNat_natCast] at k
    refine ⟨_, rfl, p, e.Book, dx, _, _, rfl, e1, T.cl_Book, T.n_sexes, bfl_s .., a, _, rfl, .inl (SqL.of e2), _, rfl, by rw [List.length_map]; omega, by rw [List.length_map]; omega, ?_⟩
    rw [List.length_map, Int.toNat_natCast]
    refine comp_rangeF0 (fun i => match bk.ps[i]? with
      | some x => inV (nat n) [faV x, moV x]
      | none => false) nat (Nat.le_trans n60 (by decide)) (fun i H' R hi sm kk _ _ _ => ?_) (fun i H' R hi pi sm kk _ _ _ => ⟨_, rfl, kk _ (Same.refl _)⟩) fun D H2 hD s2 hl2 => k (kids bk n) D H2 rfl hD s2 hl2
    have hx : bk.ps[i]? = some bk.ps[i] := List.getElem?_eq_getElem hi
    rw [hx] at kk
    refine ⟨_, rfl, _, rfl, p, e.Book, dx, _, _, rfl, sm _ _ e1, T.cl_Book, T.n_fathers, bfl_f .., _, rfl, b, _, _, _, rfl, rfl, SqL.of (sm _ _ e3), sexs_at hx faV, _, rfl, p, e.Book, dx, _, _, rfl, sm _ _ e1, T.cl_Book, T.n_mothers, bfl_m .., _, rfl, c, _, _, _, rfl, rfl, SqL.of (sm _ _ e4), sexs_at hx moV, two_fits, fun t ht => ?_⟩
    refine ⟨t, _, rfl, .inr (SqT.of upd_same), rfl, ?_, _, rfl, kk _ (same_new ht)⟩
    show (flatV (faV bk.ps[i]) && (flatV (moV bk.ps[i]) && true)) = true
    rw [fa_flat, mo_flat]; rfl
end


--CUT
/-! the laws' own people and pairs, and what is put into a book -/
def perT (x : Per) : List V := [sexV x.1, faV x, moV x]
def prT (q : Nat × Nat) : List V := [nat q.1, nat q.2]
structure PeopleAt (H : Hp) (LP : Addr) (ts : List Addr) (ps : List Per) : Prop where
  l : H LP = some (.lst (ts.map V.ref))
  t : TsAt H ts (ps.map perT)
structure PairsAt (H : Hp) (LR : Addr) (us : List Addr) (prs : List (Nat × Nat)) : Prop where
  l : H LR = some (.lst (us.map V.ref))
  t : TsAt H us (prs.map prT)
theorem PeopleAt.same {H H' : Hp} {LP : Addr} {ts : List Addr} {ps : List Per} (h : PeopleAt H LP ts ps) (s : Same H H') : PeopleAt H' LP ts ps := ⟨s _ _ h.l, h.t.same s⟩
theorem PairsAt.same {H H' : Hp} {LR : Addr} {us : List Addr} {prs : List (Nat × Nat)} (h : PairsAt H LR us prs) (s : Same H H') : PairsAt H' LR us prs := ⟨s _ _ h.l, h.t.same s⟩
theorem PeopleAt.len {H : Hp} {LP : Addr} {ts : List Addr} {ps : List Per} (h : PeopleAt H LP ts ps) : ts.length = ps.length := by rw [h.t.len, List.length_map]
theorem PairsAt.len {H : Hp} {LR : Addr} {us : List Addr} {prs : List (Nat × Nat)} (h : PairsAt H LR us prs) : us.length = prs.length := by rw [h.t.len, List.length_map]
theorem PeopleAt.at_ {H : Hp} {LP : Addr} {ts : List Addr} {ps : List Per} (h : PeopleAt H LP ts ps) {i : Nat} {x : Per} (hx : ps[i]? = some x) : ∃ t, ts[i]? = some t ∧ atI (ts.map V.ref) (i : Int) = some (.ref t) ∧ H t = some (.tup (perT x)) := by
  obtain ⟨t, h1, h2⟩ := h.t.get (i := i) (xs := perT x) (by rw [List.getElem?_map, hx]; rfl)
  exact ⟨t, h1, atI_nat (by rw [List.getElem?_map, h1]; rfl), h2⟩
theorem PairsAt.at_ {H : Hp} {LR : Addr} {us : List Addr} {prs : List (Nat × Nat)} (h : PairsAt H LR us prs) {i : Nat} {q : Nat × Nat} (hx : prs[i]? = some q) : ∃ t, us[i]? = some t ∧ H t = some (.tup (prT q)) :=
  h.t.get (by rw [List.getElem?_map, hx]; rfl)
/-- a book and the law's own account of it -/
structure Acc (B : Addr) (H : Hp) (b LP LR : Addr) (fp ts us : List Addr) (bk : Bk) : Prop where
  bo : BookAt B H b fp bk
  pe : PeopleAt H LP ts bk.ps
  pa : PairsAt H LR us bk.prs
  nP : LP ∉ fp
  nR : LR ∉ fp
  ne : LP ≠ LR
theorem Acc.same {B : Addr} {H H' : Hp} {b LP LR : Addr} {fp ts us : List Addr} {bk : Bk} (h : Acc B H b LP LR fp ts us bk) (s : Same H H') : Acc B H' b LP LR fp ts us bk := ⟨h.bo.same s, h.pe.same s, h.pa.same s, h.nP, h.nR, h.ne⟩
/-- what a book writes to are lists -/
theorem BookAt.lists {B : Addr} {H : Hp} {p : Addr} {fp : List Addr} {bk : Bk} (T : BookAt B H p fp bk) {c : Addr} (hc : c ∈ fp) : ∃ xs, H c = some (.lst xs) := by
  obtain ⟨ok, nd, dx, a, b, c1, d, qs, rfl, e1, e2, e3, e4, e5, e6, e7⟩ := T
  simp only [List.mem_cons] at hc
  rcases hc with rfl | rfl | rfl | rfl | h
  · exact ⟨_, e2⟩
  · exact ⟨_, e3⟩
  · exact ⟨_, e4⟩
  · exact ⟨_, e5⟩
  · obtain ⟨i, hi⟩ := List.getElem?_of_mem h
    exact ⟨_, e7 i c hi⟩
theorem BookAt.notin {B : Addr} {H : Hp} {p : Addr} {fp : List Addr} {bk : Bk} (T : BookAt B H p fp bk) {t : Addr} {xs : List V} (h : H t = some (.tup xs)) : t ∉ fp := fun z => by
  obtain ⟨ys, hy⟩ := T.lists z
  rw [h] at hy; cases hy
inductive Com where
  | come (s : Bool)
  | wed (m f : Nat)
  | born (s : Bool) (m f : Nat)
def comT : Com → List V
  | .come s => [sexV s, .non, .non]
  | .wed m f => [.str "wed", nat m, nat f]
  | .born s m f => [sexV s, nat m, nat f]
def ComOk (bk : Bk) : Com → Prop
  | .come _ => True
  | .wed m f => IsS bk m true ∧ IsS bk f false
  | .born _ m f => IsS bk m true ∧ IsS bk f false
def doC (bk : Bk) : Com → Bk
  | .come s => bk.add (s, none)
  | .wed m f => bk.pair (m, f)
  | .born s m f => (bk.pair (m, f)).add (s, some (m, f))
theorem sex_wed (s : Bool) : ¬ (sexV s = V.str "wed") := by cases s <;> decide +kernel
theorem any_prs (prs : List (Nat × Nat)) (q : Nat × Nat) : ((prs.map prT).any fun ys => eqVs ys [nat q.1, nat q.2]) = decide (q ∈ prs) := by
  rw [List.any_map]
  have e : ∀ r : Nat × Nat, eqVs (prT r) [nat q.1, nat q.2] = decide (r = q) := fun r => by
    show (((r.1 : Int) == (q.1 : Int)) && (((r.2 : Int) == (q.2 : Int)) && true)) = decide (r = q)
    by_cases h : r = q
    · subst h; rw [decide_eq_true rfl]; simp
    · rw [decide_eq_false h, Bool.eq_false_iff]
      intro z
      rw [Bool.and_true, Bool.and_eq_true] at z
      have z1 := eq_of_beq z.1
      have z2 := eq_of_beq z.2
      exact h (Prod.ext (by omega) (by omega))
  by_cases h : q ∈ prs
  · rw [decide_eq_true h]
    exact List.any_eq_true.mpr ⟨q, h, by show eqVs (prT q) _ = true; rw [e]; exact decide_eq_true rfl⟩
  · rw [decide_eq_false h]
    refine List.any_eq_false.mpr fun r hr z => h ?_
    have z' : eqVs (prT r) [nat q.1, nat q.2] = true := z
    rw [e] at z'
    rw [← of_decide_eq_true z']; exact hr
theorem fl_pr (prs : List (Nat × Nat)) : ∀ ys ∈ prs.map prT, ys.all flatV = true := fun ys hy => by
  obtain ⟨q, _, rfl⟩ := List.mem_map.mp hy
  rfl
def spComer : Sp := fun vs H Q _ => ∃ (LP : Addr) (ts : List Addr) (bk : Bk) (z : Int), vs = [.ref LP, .int z] ∧ PeopleAt H LP ts bk.ps ∧ bk.ps.length ≤ 60 ∧ ∀ t c H', H t = none → Same H H' → H' t = some (.tup (comT c)) → ComOk bk c → Q (.ref t) H'
/-- the account behind a deed -/
def AfterA (B : Addr) (H : Hp) (b LP LR : Addr) (fp : List Addr) (bk' : Bk) (K : Hp → Prop) : Prop :=
  ∀ fp' ts' us' H', Acc B H' b LP LR fp' ts' us' bk' → (∀ c o, H c = some o → c ∉ LP :: LR :: fp → H' c = some o) → (∀ c ∈ fp', c ∈ fp ∨ H c = none) → K H'
def spPut (e : Ad) : Sp := fun vs H Q _ => ∃ (b LP LR t : Addr) (fp ts us : List Addr) (bk : Bk) (c : Com), vs = [.ref b, .ref LP, .ref LR, .ref t] ∧ Acc e.Book H b LP LR fp ts us bk ∧ H t = some (.tup (comT c)) ∧ ComOk bk c ∧ bk.ps.length < 60 ∧ bk.prs.length < 1000 ∧ AfterA e.Book H b LP LR fp (doC bk c) (Q (.bl true))
theorem men_at {bk : Bk} {H : Hp} {LP : Addr} {ts : List Addr} (h : PeopleAt H LP ts bk.ps) {i : Nat} (hi : i < bk.ps.length) : ∃ t x, ts[i]? = some t ∧ bk.ps[i]? = some x ∧ atI (ts.map V.ref) (i : Int) = some (.ref t) ∧ H t = some (.tup (perT x)) := by
  obtain ⟨t, a, b, c⟩ := h.at_ (List.getElem?_eq_getElem hi)
  exact ⟨t, _, a, List.getElem?_eq_getElem hi, b, c⟩
/-- the script, or whatever else stays: known, or apart from what is written to -/
def ScrAt (K : PySem.W.Frag) (H : Hp) (a : Addr) (xs : List V) (av : List Addr) : Prop :=
  (∀ H', SqL K H' a xs) ∨ (Rd H a (.lst xs) ∧ a ∉ av)
theorem ScrAt.sq {K : PySem.W.Frag} {H : Hp} {a : Addr} {xs : List V} {av : List Addr} (h : ScrAt K H a xs av) : SqL K H a xs := by
  rcases h with h | h
  · exact h H
  · exact .inl h.1
theorem ScrAt.of {K : PySem.W.Frag} {H : Hp} {a : Addr} {xs : List V} {av : List Addr} (h : SqL K H a xs) (n : ∀ o, H a = some o → a ∉ av) : ScrAt K H a xs av := by
  rcases h with h | h
  · refine .inr ⟨h, ?_⟩
    rcases h with h | ⟨o, h⟩
    · exact n _ h
    · exact n _ h
  · exact .inl fun H' => .inr h
theorem ScrAt.go {K : PySem.W.Frag} {H H' : Hp} {a : Addr} {xs : List V} {av av' : List Addr} (h : ScrAt K H a xs av) (kp : ∀ c o, H c = some o → c ∉ av → H' c = some o) (fr : ∀ c ∈ av', c ∈ av ∨ H c = none) : ScrAt K H' a xs av' := by
  rcases h with h | ⟨h, n⟩
  · exact .inl h
  · have key : ∀ o, H a = some o → H' a = some o ∧ a ∉ av' := fun o ho => ⟨kp a o ho n, fun z => (fr a z).elim n fun y => by rw [y] at ho; cases ho⟩
    rcases h with h | ⟨o, h⟩
    · exact .inr ⟨.inl (key _ h).1, (key _ h).2⟩
    · exact .inr ⟨.inr ⟨o, (key _ h).1⟩, (key _ h).2⟩
theorem ScrAt.same {K : PySem.W.Frag} {H H' : Hp} {a : Addr} {xs : List V} {av : List Addr} (h : ScrAt K H a xs av) (s : Same H H') : ScrAt K H' a xs av := h.go (fun c o hc _ => s c o hc) fun c hc => .inl hc
theorem doC_len (bk : Bk) (c : Com) : (doC bk c).prs.length ≤ bk.prs.length + 1 := by
  have pl : ∀ q, (bk.pair q).prs.length ≤ bk.prs.length + 1 := fun q => by
    unfold Bk.pair
    by_cases z : q ∈ bk.prs
    · rw [if_pos z]; exact Nat.le_succ _
    · rw [if_neg z, List.length_append]; exact Nat.le_refl _
  cases c with
  | come s => exact Nat.le_succ _
  | wed m f => exact pl _
  | born s m f => exact pl _
/-- the men, the women -/
def ofSex (bk : Bk) (s : Bool) (i : Nat) : Bool := match bk.ps[i]? with
  | some x => x.1 == s
  | none => false
theorem ofSex_eq {bk : Bk} {i : Nat} {x : Per} (hx : bk.ps[i]? = some x) (s : Bool) : ofSex bk s i = (x.1 == s) := by unfold ofSex; rw [hx]
theorem eq_true_b (b : Bool) : b = (b == true) := by cases b <;> rfl
theorem eq_false_b (b : Bool) : (!b) = (b == false) := by cases b <;> rfl
def sexL (bk : Bk) (s : Bool) : List Nat := (List.range bk.ps.length).filter (ofSex bk s)
theorem mem_sexL {bk : Bk} {s : Bool} {i : Nat} : i ∈ sexL bk s ↔ IsS bk i s := by
  unfold sexL ofSex
  rw [List.mem_filter, List.mem_range]
  constructor
  · rintro ⟨h1, h2⟩
    rw [List.getElem?_eq_getElem h1] at h2
    exact ⟨_, List.getElem?_eq_getElem h1, eq_of_beq h2⟩
  · rintro ⟨x, hx, rfl⟩
    refine ⟨(List.getElem?_eq_some_iff.mp hx).1, ?_⟩
    rw [hx]; simp
theorem pick_of (l : List Nat) (z : Int) (h : 0 < l.length) : ∃ i, i ∈ l ∧ atI (natL l) (z % ((natL l).length : Nat)) = some (nat i) := by
  rw [natL_len]
  obtain ⟨q, hq, lt⟩ := emod_nat z h
  rw [hq]
  exact ⟨l[q], List.getElem_mem lt, atI_nat (natL_get (List.getElem?_eq_getElem lt))⟩
section
variable {P : Program} {w : World} {K : PySem.W.Frag} {mg : Str → Option Value} {base : Heap} {CX : CXT} {C : Addr} {e : Ad}
theorem sc_comer : FnScope ["people", "cell", "sex", "men", "women", "kind", "man", "woman"] ["people", "cell"] (defScope (top 37)) := ⟨rfl, rfl, rfl, by decide +kernel, rfl, by decide +kernel, by decide +kernel⟩
theorem ok_comer {f : Addr} {fd : FuncData} (F : Fun K "_law_comer" "_law_comer" (top 37) f fd) (T : Txt K mg C e) : FnOk P w K mg base CX 1 f fd ["people", "cell"] spComer := by
  refine F.okN sc_comer (fun vs H Q E h => ?_) (fun cdv A outer s H vs Q E hr h => ?_)
  · obtain ⟨LP, ts, bk, z, rfl, _⟩ := h; rfl
  · obtain ⟨LP, ts, bk, z, rfl, pe, n60, k⟩ := h
    have nd := sc_comer.nd
    refine ⟨_, (pss_cons (ps_set (i := 2) nd rfl (Or.inl rfl) (pe_ix ix_list (pe_lst (pa_cons pe_str (pa_cons pe_str pa_nil))) (pe_op op_mod (pv 1) pe_int) (fun _ _ => rfl)))
      (pss_cons (ps_setCompF (i := 3) nd rfl (Or.inl rfl) (fv := [("people", 0)]) ⟨rfl, by decide +kernel, rfl, by decide +kernel, rfl, by decide +kernel, ⟨⟨rfl, Or.inl rfl, Or.inl rfl, rfl⟩, trivial⟩, rfl, rfl⟩ rfl (pi_range1 rfl T.z_range (pa_cons (pe_callB call_len_seq rfl T.z_len PySem.boot_len (pa_cons (pv 0) pa_nil)) pa_nil)) (fun _ _ _ => (pv 0)) (fun _ _ _ => (pt_cmpR op_eq (pe_ix ix_tup (pe_ix ix_list (pv 1) (pv 0) (fun _ _ => rfl)) pe_int (fun _ _ => rfl)) pe_str (nomark _))))
      (pss_cons (ps_setCompF (i := 4) nd rfl (Or.inl rfl) (fv := [("people", 0)]) ⟨rfl, by decide +kernel, rfl, by decide +kernel, rfl, by decide +kernel, ⟨⟨rfl, Or.inl rfl, Or.inl rfl, rfl⟩, trivial⟩, rfl, rfl⟩ rfl (pi_range1 rfl T.z_range (pa_cons (pe_callB call_len_seq rfl T.z_len PySem.boot_len (pa_cons (pv 0) pa_nil)) pa_nil)) (fun _ _ _ => (pv 0)) (fun _ _ _ => (pt_cmpR op_eq (pe_ix ix_tup (pe_ix ix_list (pv 1) (pv 0) (fun _ _ => rfl)) pe_int (fun _ _ => rfl)) pe_str (nomark _))))
      (pss_cons (ps_set (i := 5) nd rfl (Or.inl rfl) (pe_op op_mod (pe_op op_fdiv (pv 1) pe_int) pe_int))
      (pss_cons (ps_if (PW.pt (pw_or (pt_cmpR op_eq (pv 5) pe_int (nomark _)) (pw_or (pt_cmpR op_eq (pe_callB call_len_seq rfl T.z_len PySem.boot_len (pa_cons (pv 3) pa_nil)) pe_int (nomark _)) (pw_or1 (pt_cmpR op_eq (pe_callB call_len_seq rfl T.z_len PySem.boot_len (pa_cons (pv 4) pa_nil)) pe_int (nomark _)))))) (pss_one (ps_ret (pe_tup (pa_cons (pv 2) (pa_cons pe_non (pa_cons pe_non pa_nil)))))) pss_nil)
      (pss_cons (ps_set (i := 6) nd rfl (Or.inl rfl) (pe_ix ix_list (pv 3) (pe_op op_mod (pe_op op_fdiv (pv 1) pe_int) (pe_callB call_len_seq rfl T.z_len PySem.boot_len (pa_cons (pv 3) pa_nil))) (fun _ _ => rfl)))
      (pss_cons (ps_set (i := 7) nd rfl (Or.inl rfl) (pe_ix ix_list (pv 4) (pe_op op_mod (pe_op op_fdiv (pv 1) pe_int) (pe_callB call_len_seq rfl T.z_len PySem.boot_len (pa_cons (pv 4) pa_nil))) (fun _ _ => rfl)))
      (pss_cons (ps_if (pt_cmpR op_eq (pv 5) pe_int (nomark _)) (pss_one (ps_ret (pe_tup (pa_cons pe_str (pa_cons (pv 6) (pa_cons (pv 7) pa_nil)))))) pss_nil)
      (pss_one (ps_ret (pe_tup (pa_cons (pv 2) (pa_cons (pv 6) (pa_cons (pv 7) pa_nil)))))))))))))), ?_⟩
    have tl := pe.len
    obtain ⟨sx, hsx⟩ := pick_sex (z % 2) (Int.emod_nonneg _ (by decide)) (Int.emod_lt_of_pos _ (by decide))
    -- sex
    refine ⟨(show 2 ≤ sizeLine by decide), fun L hL => ⟨_, rfl, _, _, rfl, rfl, (show (0 : Int) < 2 by decide), L, _, _, _, rfl, rfl, SqL.of upd_same, hsx, ?_⟩⟩
    have s1 := same_new (o := .lst [V.str "man", V.str "woman"]) hL
    generalize upd H L _ = H1 at s1
    walk_at "ns"
    -- men
    refine ⟨_, rfl, LP, _, rfl, .inl (SqL.of (s1 _ _ pe.l)), _, rfl, by rw [List.length_map, tl]; omega, by rw [List.length_map, tl]; omega, ?_⟩
    rw [List.length_map, tl, Int.toNat_natCast]
    refine comp_rangeF0 (ofSex bk true) nat (Nat.le_trans n60 (by decide)) (fun i H' R hi sm kk _ _ _ => ?_) (fun i H' R hi pi sm kk _ _ _ => ⟨_, rfl, kk _ (Same.refl _)⟩) fun D1 H2 hD1 s2 hl2 => ?_
    · obtain ⟨t, x, _, hx, h1, h2⟩ := men_at (pe.same (s1.trans sm)) hi
      refine ⟨_, rfl, _, rfl, LP, _, _, _, rfl, rfl, SqL.of ((s1.trans sm) _ _ pe.l), h1, t, _, 0, _, rfl, rfl, SqT.of h2, rfl, rfl, _, rfl, ?_⟩
      have : decide (sexV x.1 = V.str "man") = ofSex bk true i := by rw [sex_man, ofSex_eq hx]; exact eq_true_b _
      show R (decide (sexV x.1 = V.str "man")) H'
      rw [this]; exact kk _ (Same.refl _)
    walk_at "ns"
    -- women
    have s12 := s1.trans s2
    refine ⟨_, rfl, LP, _, rfl, .inl (SqL.of (s12 _ _ pe.l)), _, rfl, by rw [List.length_map, tl]; omega, by rw [List.length_map, tl]; omega, ?_⟩
    rw [List.length_map, tl, Int.toNat_natCast]
    refine comp_rangeF0 (ofSex bk false) nat (Nat.le_trans n60 (by decide)) (fun i H' R hi sm kk _ _ _ => ?_) (fun i H' R hi pi sm kk _ _ _ => ⟨_, rfl, kk _ (Same.refl _)⟩) fun D2 H3 hD2 s3 hl3 => ?_
    · obtain ⟨t, x, _, hx, h1, h2⟩ := men_at (pe.same (s12.trans sm)) hi
      refine ⟨_, rfl, _, rfl, LP, _, _, _, rfl, rfl, SqL.of ((s12.trans sm) _ _ pe.l), h1, t, _, 0, _, rfl, rfl, SqT.of h2, rfl, rfl, _, rfl, ?_⟩
      have : decide (sexV x.1 = V.str "woman") = ofSex bk false i := by rw [sex_woman, ofSex_eq hx]; exact eq_false_b _
      show R (decide (sexV x.1 = V.str "woman")) H'
      rw [this]; exact kk _ (Same.refl _)
    have g2 : H3 D1 = some (.lst (natL (sexL bk true))) := s3 _ _ hl2
    have g3 : H3 D2 = some (.lst (natL (sexL bk false))) := hl3
    have s13 := s12.trans s3
    walk_at "ns"
    -- kind
    refine ⟨_, rfl, _, _, rfl, rfl, ⟨by decide, by decide⟩, _, _, rfl, rfl, (show (0 : Int) < 6 by decide), ?_⟩
    have nobody : ∀ H4 t, Same H3 H4 → H4 t = none → Q (.ref t) (upd H4 t (.tup [sexV sx, .non, .non])) := fun H4 t s4 ht => k t (.come sx) _ ((s13.trans s4).free ht) ((s13.trans s4).trans (same_new ht)) upd_same trivial
    walk_at "ns"
    refine ⟨_, rfl, rfl, _, rfl, iteD2 (fun _ => iteT ?_) (fun _ => ?_)⟩
    · exact ⟨_, rfl, (show 3 ≤ sizeLine by decide), fun t ht => nobody _ t (Same.refl _) ht⟩
    refine ⟨_, rfl, D1, _, rfl, .inl (SqL.of g2), rfl, _, rfl, iteD2 (fun _ => iteT ?_) (fun z1 => ?_)⟩
    · exact ⟨_, rfl, (show 3 ≤ sizeLine by decide), fun t ht => nobody _ t (Same.refl _) ht⟩
    refine ⟨_, rfl, D2, _, rfl, .inl (SqL.of g3), rfl, _, rfl, iteD2 (fun _ => ?_) (fun z2 => ?_)⟩
    · exact ⟨_, rfl, (show 3 ≤ sizeLine by decide), fun t ht => nobody _ t (Same.refl _) ht⟩
    have l1 : 0 < (sexL bk true).length := by
      rcases Nat.eq_zero_or_pos (sexL bk true).length with q | q
      · exact absurd (by rw [natL_len, q]; rfl) z1
      · exact q
    have l2 : 0 < (sexL bk false).length := by
      rcases Nat.eq_zero_or_pos (sexL bk false).length with q | q
      · exact absurd (by rw [natL_len, q]; rfl) z2
      · exact q
    obtain ⟨m, hm, am⟩ := pick_of (sexL bk true) (z / 12) l1
    obtain ⟨f', hf, af⟩ := pick_of (sexL bk false) (z / 97) l2
    have sm := mem_sexL.mp hm
    have sf := mem_sexL.mp hf
    have p1 : (0 : Int) < ((natL (sexL bk true)).length : Nat) := by rw [natL_len]; omega
    have p2 : (0 : Int) < ((natL (sexL bk false)).length : Nat) := by rw [natL_len]; omega
    refine ⟨_, rfl, _, rfl, _, _, rfl, rfl, ⟨by decide, by decide⟩, _, rfl, D1, _, rfl, .inl (SqL.of g2), _, _, rfl, rfl, p1, D1, _, _, _, rfl, rfl, SqL.of g2, am, ?_⟩
    walk_at "ns"
    refine ⟨_, rfl, _, rfl, _, _, rfl, rfl, ⟨by decide, by decide⟩, _, rfl, D2, _, rfl, .inl (SqL.of g3), _, _, rfl, rfl, p2, D2, _, _, _, rfl, rfl, SqL.of g3, af, ?_⟩
    walk_at "ns"
    refine ⟨_, rfl, rfl, _, rfl, iteD2 (fun _ => ?_) (fun _ => ?_)⟩
    · exact ⟨_, rfl, _, rfl, (show 3 ≤ sizeLine by decide), fun t ht => k t (.wed m f') _ (s13.free ht) (s13.trans (same_new ht)) upd_same ⟨sm, sf⟩⟩
    · exact ⟨_, rfl, _, rfl, _, rfl, (show 3 ≤ sizeLine by decide), fun t ht => k t (.born sx m f') _ (s13.free ht) (s13.trans (same_new ht)) upd_same ⟨sm, sf⟩⟩
end


--CUT
theorem BookAt.pne {B : Addr} {H : Hp} {p : Addr} {fp : List Addr} {bk : Bk} (T : BookAt B H p fp bk) {l : Addr} {xs : List V} (h : H l = some (.lst xs)) : p ≠ l := fun z => by
  obtain ⟨dx, a, b, c1, d, qs, _, e1, _⟩ := T.ob
  rw [z, h] at e1; cases e1
theorem Acc.person {B : Addr} {H : Hp} {b LP LR t : Addr} {fp ts us : List Addr} {bk : Bk} {x : Per} (h : Acc B H b LP LR fp ts us bk) (ht : H t = some (.tup (perT x))) {H1 : Hp} (hH : upd H LP (.lst (ts.map V.ref ++ [.ref t])) = H1) :
    BookAt B H1 b fp bk ∧ PeopleAt H1 LP (ts ++ [t]) (bk.ps ++ [x]) ∧ PairsAt H1 LR us bk.prs ∧ ∀ r o, H r = some o → r ≠ LP → H1 r = some o := by
  have o1 : ∀ r o, H r = some o → r ≠ LP → H1 r = some o := fun r o h z => by rw [← hH, upd_ne z]; exact h
  have tn : ∀ r xs, H r = some (.tup xs) → H1 r = some (.tup xs) := fun r xs hr => o1 r _ hr fun z => by rw [z, h.pe.l] at hr; cases hr
  refine ⟨h.bo.keep fun c o hc hm => o1 c o hc fun z => ?_, ⟨by rw [← hH, upd_same, List.map_append]; rfl, ?_⟩, ⟨o1 _ _ h.pa.l (Ne.symm h.ne), h.pa.t.keep fun p xs _ hp => tn p xs hp⟩, o1⟩
  · rcases List.mem_cons.mp hm with y | y
    · exact h.bo.pne h.pe.l (y.symm.trans z)
    · exact h.nP (z ▸ y)
  · rw [List.map_append]
    exact (h.pe.t.keep fun p xs _ hp => tn p xs hp).snoc (tn _ _ ht)
theorem len_sub (n : Nat) (l : List V) (h : l.length = n + 1) : V.int ((l.length : Nat) - (1 : Int)) = nat n := by
  rw [h]; show V.int _ = V.int _; congr 1; omega
section
variable {P : Program} {w : World} {K : PySem.W.Frag} {mg : Str → Option Value} {base : Heap} {CX : CXT} {C : Addr} {e : Ad}
theorem sc_put : FnScope ["book", "people", "pairs", "comer"] ["book", "people", "pairs", "comer"] (defScope (top 38)) := ⟨rfl, rfl, rfl, by decide +kernel, rfl, by decide +kernel, by decide +kernel⟩
theorem ok_put {f : Addr} {fd : FuncData} (F : Fun K "_law_put" "_law_put" (top 38) f fd) (T : Txt K mg C e) (hE : NoE (CXR P w)) (D_come : MDef P w K mg base (CXR P w) e.Book "come" 2 ["self", "sex"] (spCome e)) (D_born : MDef P w K mg base (CXR P w) e.Book "born" 3 ["self", "sex", "father", "mother"] (spBorn e)) (D_wed : MDef P w K mg base (CXR P w) e.Book "wed" 3 ["self", "man", "woman"] (spWed e)) : FnOk P w K mg base (CXR P w) 4 f fd ["book", "people", "pairs", "comer"] (spPut e) := by
  refine F.okN sc_put (fun vs H Q E h => ?_) (fun cdv A outer s H vs Q E hr h => ?_)
  · obtain ⟨b, LP, LR, t, fp, ts, us, bk, c, rfl, _⟩ := h; rfl
  · obtain ⟨b, LP, LR, t, fp, ts, us, bk, c, rfl, ac, ht, ok, n60, l1000, k⟩ := h
    have big : 4000 ≤ sizeLine := by decide
    have tl := ac.pe.len
    have ul := ac.pa.len
    have p9 : (60 : Nat) < 10 ^ 9 := by decide
    have sn : ∀ i : Nat, i < 60 → Sn (i : Int) := fun i h => log_small (by show ((i : Nat) : Int).natAbs < 10 ^ 9; omega)
    -- the pairs' step, for both
    have pstep : ∀ (m f' : Nat) (H1 : Hp) (us : List Addr), PairsAt H1 LR us bk.prs → us.length = bk.prs.length → ∀ u H2, upd H1 LR (.lst (us.map V.ref ++ [.ref u])) = H2 → H1 u = some (.tup [nat m, nat f']) → (m, f') ∉ bk.prs → PairsAt H2 LR (us ++ [u]) (bk.pair (m, f')).prs := by
      intro m f' H1 us pa ul u H2 hH hu q
      have e1 : (bk.pair (m, f')).prs = bk.prs ++ [(m, f')] := by unfold Bk.pair; rw [if_neg q]
      have tn : ∀ r xs, H1 r = some (.tup xs) → H2 r = some (.tup xs) := fun r xs hr => by
        rw [← hH, upd_ne (fun z => by rw [z, pa.l] at hr; cases hr)]; exact hr
      rw [e1]
      refine ⟨by rw [← hH, upd_same, List.map_append]; rfl, ?_⟩
      rw [List.map_append]
      exact (pa.t.keep fun p xs _ hp => tn p xs hp).snoc (tn _ _ hu)
    have pnone : ∀ (m f' : Nat), (m, f') ∈ bk.prs → (bk.pair (m, f')).prs = bk.prs := fun m f' q => by unfold Bk.pair; rw [if_pos q]
    refine ⟨_, (pss_cons (ps_if (pt_cmpR op_ne (pe_ix ix_tup (pv 3) pe_int (fun _ _ => rfl)) pe_str (nomark _)) (pss_one (ps_expr (pe_bm PySem.F.plainAttrs_list PySem.F.slot_list_append PySem.F.type_list_append mt_append (pv 1) (pa_cons (pv 3) pa_nil)))) pss_nil)
      (pss_cons (ps_if (pt_cmpR op_isN (pe_ix ix_tup (pv 3) pe_int (fun _ _ => rfl)) pe_non (nomark _)) (pss_one (ps_ret (pe_cmpR op_eq (pe_methD (pv 0) T.cl_Book D_come hE hr (pa_cons (pe_ix ix_tup (pv 3) pe_int (fun _ _ => rfl)) pa_nil)) (pe_op op_sub (pe_callB call_len_seq rfl T.z_len PySem.boot_len (pa_cons (pv 1) pa_nil)) pe_int) (nomark _)))) pss_nil)
      (pss_cons (ps_join (ps_if (pt_cmpR (op_notIn_ts (hu_of hr)) (pe_tup (pa_cons (pe_ix ix_tup (pv 3) pe_int (fun _ _ => rfl)) (pa_cons (pe_ix ix_tup (pv 3) pe_int (fun _ _ => rfl)) pa_nil))) (pv 2) (by with_unfolding_all rfl)) (pss_one (ps_expr (pe_bm PySem.F.plainAttrs_list PySem.F.slot_list_append PySem.F.type_list_append mt_append (pv 2) (pa_cons (pe_tup (pa_cons (pe_ix ix_tup (pv 3) pe_int (fun _ _ => rfl)) (pa_cons (pe_ix ix_tup (pv 3) pe_int (fun _ _ => rfl)) pa_nil))) pa_nil)))) pss_nil))
      (pss_cons (ps_if (pt_cmpR op_eq (pe_ix ix_tup (pv 3) pe_int (fun _ _ => rfl)) pe_str (nomark _)) (pss_one (ps_ret (pe_cmpR op_isN (pe_methD (pv 0) T.cl_Book D_wed hE hr (pa_cons (pe_ix ix_tup (pv 3) pe_int (fun _ _ => rfl)) (pa_cons (pe_ix ix_tup (pv 3) pe_int (fun _ _ => rfl)) pa_nil))) pe_non (nomark _)))) pss_nil)
      (pss_one (ps_ret (pe_cmpR op_eq (pe_methD (pv 0) T.cl_Book D_born hE hr (pa_cons (pe_ix ix_tup (pv 3) pe_int (fun _ _ => rfl)) (pa_cons (pe_ix ix_tup (pv 3) pe_int (fun _ _ => rfl)) (pa_cons (pe_ix ix_tup (pv 3) pe_int (fun _ _ => rfl)) pa_nil)))) (pe_op op_sub (pe_callB call_len_seq rfl T.z_len PySem.boot_len (pa_cons (pv 1) pa_nil)) pe_int) (nomark _)))))))), ?_⟩
    cases c with
    | come sx =>
      refine ⟨_, rfl, t, _, 0, _, rfl, rfl, SqT.of ht, rfl, rfl, _, rfl, ?_⟩
      show if (!decide (sexV sx = V.str "wed")) = true then _ else _
      rw [decide_eq_false (sex_wed sx)]
      refine iteT ?_
      refine ⟨_, rfl, .inl ⟨rfl, _, SqL.of ac.pe.l⟩, _, rfl, LP, _, _, rfl, rfl, ac.pe.l, by rw [List.length_map, tl]; omega, ?_⟩
      generalize hH1 : upd H LP _ = H1
      obtain ⟨BA1, PE1, PA1, o1⟩ := ac.person (x := (sx, none)) ht hH1
      have tP : t ≠ LP := fun z => by rw [z, ac.pe.l] at ht; cases ht
      have ht1 := o1 _ _ ht tP
      obtain ⟨dx, a1, b1, c1, d1, qs1, hfp1, f1, _⟩ := id BA1.ob
      refine ⟨_, rfl, t, _, 1, _, rfl, rfl, SqT.of ht1, rfl, rfl, _, rfl, iteD rfl ?_⟩
      refine ⟨_, rfl, b, dx, _, rfl, f1, bno .., _, rfl, t, _, 0, _, rfl, rfl, SqT.of ht1, rfl, b, fp, bk, sx, rfl, BA1, fun _ fp2 H2 BA2 kp2 fr2 sb2 => ?_, fun z => absurd z (by omega)⟩
      have nP2 : LP ∉ fp2 := fun z => (fr2 _ z).elim ac.nP fun y => by rw [PE1.l] at y; cases y
      have nR2 : LR ∉ fp2 := fun z => (fr2 _ z).elim ac.nR fun y => by rw [PA1.l] at y; cases y
      have PE2 : PeopleAt H2 LP (ts ++ [t]) (bk.ps ++ [(sx, none)]) := ⟨kp2 _ _ PE1.l ac.nP, PE1.t.keep fun p xs _ hp => kp2 _ _ hp (BA1.notin hp)⟩
      have PA2 : PairsAt H2 LR us bk.prs := ⟨kp2 _ _ PA1.l ac.nR, PA1.t.keep fun p xs _ hp => kp2 _ _ hp (BA1.notin hp)⟩
      refine ⟨_, rfl, LP, _, rfl, .inl (SqL.of PE2.l), _, _, rfl, rfl, rfl, ?_⟩
      have ev := len_sub bk.ps.length ((ts ++ [t]).map V.ref) (by rw [List.length_map, List.length_append, tl]; rfl)
      show Q (.bl (decide (nat bk.ps.length = V.int ((((ts ++ [t]).map V.ref).length : Nat) - (1 : Int))))) H2
      rw [ev, decide_eq_true rfl]
      refine k fp2 (ts ++ [t]) us H2 ⟨BA2, PE2, PA2, nP2, nR2, ac.ne⟩ (fun c o hc hn => ?_) fun c hc => ?_
      · simp only [List.mem_cons, not_or] at hn
        exact kp2 c o (o1 c o hc hn.1) hn.2.2
      · rcases fr2 c hc with z | z
        · exact .inl z
        · refine .inr ?_
          cases y : H c with
          | none => rfl
          | some o =>
            have : c ≠ LP := fun q => nP2 (q ▸ hc)
            rw [o1 c o y this] at z; cases z
    | wed m f' =>
      obtain ⟨hm, hf⟩ := ok
      refine ⟨_, rfl, t, _, 0, _, rfl, rfl, SqT.of ht, rfl, rfl, _, rfl, iteF ?_⟩
      refine ⟨_, rfl, t, _, 1, _, rfl, rfl, SqT.of ht, rfl, rfl, _, rfl, iteDn (by intro z; cases z) ?_⟩
      refine ⟨fun σ' H' => σ' = [some (.ref b), some (.ref LP), some (.ref LR), some (.ref t)] ∧ ∃ us', PairsAt H' LR us' (bk.pair (m, f')).prs ∧ ∀ r o, H r = some o → r ≠ LR → H' r = some o, ?_, ?_⟩
      · refine ⟨_, rfl, t, _, 1, _, rfl, rfl, SqT.of ht, rfl, _, rfl, t, _, 2, _, rfl, rfl, SqT.of ht, rfl, two_fits, fun u hu => ?_⟩
        have s1 := same_new (o := .tup [nat m, nat f']) hu
        have g1 : (upd H u (.tup [nat m, nat f'])) u = some (.tup [nat m, nat f']) := upd_same
        generalize upd H u (.tup [nat m, nat f']) = H1 at s1 g1
        have pa1 := ac.pa.same s1
        refine ⟨_, rfl, u, LR, us, _, _, rfl, rfl, g1, SqL.of pa1.l, pa1.t, rfl, fl_pr _, _, rfl, ?_⟩
        show if (!((bk.prs.map prT).any fun ys => eqVs ys [nat m, nat f'])) = true then _ else _
        rw [any_prs _ (m, f')]
        by_cases q : (m, f') ∈ bk.prs
        · rw [decide_eq_true q]
          exact iteF ⟨rfl, us, by rw [pnone m f' q]; exact pa1, fun r o hr _ => s1 _ _ hr⟩
        · rw [decide_eq_false q]
          refine iteT ?_
          refine ⟨_, rfl, .inl ⟨rfl, _, SqL.of pa1.l⟩, _, rfl, t, _, 1, _, rfl, rfl, SqT.of (s1 _ _ ht), rfl, _, rfl, t, _, 2, _, rfl, rfl, SqT.of (s1 _ _ ht), rfl, two_fits, fun u2 hu2 => ?_⟩
          have s2 := same_new (o := .tup [nat m, nat f']) hu2
          have g2 : (upd H1 u2 (.tup [nat m, nat f'])) u2 = some (.tup [nat m, nat f']) := upd_same
          generalize upd H1 u2 (.tup [nat m, nat f']) = H2 at s2 g2
          have pa2 := pa1.same s2
          refine ⟨LR, _, _, rfl, rfl, pa2.l, by rw [List.length_map, ul]; omega, rfl, us ++ [u2], pstep m f' H2 us pa2 ul u2 _ rfl g2 q, fun r o hr z => ?_⟩
          rw [upd_ne z]; exact (s1.trans s2) _ _ hr
      rintro σ' H1 ⟨rfl, us1, PA1, o1⟩
      have BA1 : BookAt e.Book H1 b fp bk := ac.bo.keep fun c o hc hm => o1 c o hc fun z => by
        rcases List.mem_cons.mp hm with y | y
        · exact ac.bo.pne ac.pa.l (y.symm.trans z)
        · exact ac.nR (z ▸ y)
      have PE1 : PeopleAt H1 LP ts bk.ps := ⟨o1 _ _ ac.pe.l ac.ne, ac.pe.t.keep fun p xs _ hp => o1 _ _ hp fun z => by rw [z, ac.pa.l] at hp; cases hp⟩
      have ht1 := o1 _ _ ht fun z => by rw [z, ac.pa.l] at ht; cases ht
      obtain ⟨dx, a1, b1, c1, d1, qs1, hfp1, f1, _⟩ := id BA1.ob
      refine ⟨_, rfl, t, _, 0, _, rfl, rfl, SqT.of ht1, rfl, rfl, _, rfl, iteD rfl ?_⟩
      have lm := hm.lt
      have lf := hf.lt
      refine ⟨_, rfl, b, dx, _, rfl, f1, bno .., _, rfl, t, _, 1, _, rfl, rfl, SqT.of ht1, rfl, _, rfl, t, _, 2, _, rfl, rfl, SqT.of ht1, rfl, b, fp, bk, (m : Int), (f' : Int), rfl, BA1, sn m (by omega), sn f' (by omega), fun m2 f2 em ef _ _ => ⟨l1000, fun fp2 H2 BA2 kp2 fr2 sb2 => ?_⟩, fun z => absurd ⟨⟨by omega, by omega⟩, ⟨by omega, by omega⟩⟩ z, fun _ _ z => absurd ⟨m, f', rfl, rfl, hm, hf⟩ z⟩
      have em' := Int.ofNat.inj em
      have ef' := Int.ofNat.inj ef
      subst em' ef'
      have nP2 : LP ∉ fp2 := fun z => (fr2 _ z).elim ac.nP fun y => by rw [PE1.l] at y; cases y
      have nR2 : LR ∉ fp2 := fun z => (fr2 _ z).elim ac.nR fun y => by rw [PA1.l] at y; cases y
      have PE2 : PeopleAt H2 LP ts bk.ps := ⟨kp2 _ _ PE1.l ac.nP, PE1.t.keep fun p xs _ hp => kp2 _ _ hp (BA1.notin hp)⟩
      have PA2 : PairsAt H2 LR us1 (bk.pair (m, f')).prs := ⟨kp2 _ _ PA1.l ac.nR, PA1.t.keep fun p xs _ hp => kp2 _ _ hp (BA1.notin hp)⟩
      refine ⟨rfl, ?_⟩
      show Q (.bl (decide (V.non = V.non))) H2
      rw [decide_eq_true rfl]
      refine k fp2 ts us1 H2 ⟨BA2, PE2, PA2, nP2, nR2, ac.ne⟩ (fun c o hc hn => ?_) fun c hc => ?_
      · simp only [List.mem_cons, not_or] at hn
        exact kp2 c o (o1 c o hc hn.2.1) hn.2.2
      · rcases fr2 c hc with z | z
        · exact .inl z
        · refine .inr ?_
          cases y : H c with
          | none => rfl
          | some o =>
            have : c ≠ LR := fun q => nR2 (q ▸ hc)
            rw [o1 c o y this] at z; cases z
    | born sx m f' =>
      obtain ⟨hm, hf⟩ := ok
      refine ⟨_, rfl, t, _, 0, _, rfl, rfl, SqT.of ht, rfl, rfl, _, rfl, ?_⟩
      show if (!decide (sexV sx = V.str "wed")) = true then _ else _
      rw [decide_eq_false (sex_wed sx)]
      refine iteT ?_
      refine ⟨_, rfl, .inl ⟨rfl, _, SqL.of ac.pe.l⟩, _, rfl, LP, _, _, rfl, rfl, ac.pe.l, by rw [List.length_map, tl]; omega, ?_⟩
      generalize hH0 : upd H LP _ = H0
      obtain ⟨BA0, PE0, PA0, o0⟩ := ac.person (x := (sx, some (m, f'))) ht hH0
      have tP : t ≠ LP := fun z => by rw [z, ac.pe.l] at ht; cases ht
      have ht0 := o0 _ _ ht tP
      refine ⟨_, rfl, t, _, 1, _, rfl, rfl, SqT.of ht0, rfl, rfl, _, rfl, iteDn (by intro z; cases z) ?_⟩
      refine ⟨fun σ' H' => σ' = [some (.ref b), some (.ref LP), some (.ref LR), some (.ref t)] ∧ ∃ us', PairsAt H' LR us' (bk.pair (m, f')).prs ∧ ∀ r o, H0 r = some o → r ≠ LR → H' r = some o, ?_, ?_⟩
      · refine ⟨_, rfl, t, _, 1, _, rfl, rfl, SqT.of ht0, rfl, _, rfl, t, _, 2, _, rfl, rfl, SqT.of ht0, rfl, two_fits, fun u hu => ?_⟩
        have s1 := same_new (o := .tup [nat m, nat f']) hu
        have g1 : (upd H0 u (.tup [nat m, nat f'])) u = some (.tup [nat m, nat f']) := upd_same
        generalize upd H0 u (.tup [nat m, nat f']) = H1 at s1 g1
        have pa1 := PA0.same s1
        refine ⟨_, rfl, u, LR, us, _, _, rfl, rfl, g1, SqL.of pa1.l, pa1.t, rfl, fl_pr _, _, rfl, ?_⟩
        show if (!((bk.prs.map prT).any fun ys => eqVs ys [nat m, nat f'])) = true then _ else _
        rw [any_prs _ (m, f')]
        by_cases q : (m, f') ∈ bk.prs
        · rw [decide_eq_true q]
          exact iteF ⟨rfl, us, by rw [pnone m f' q]; exact pa1, fun r o hr _ => s1 _ _ hr⟩
        · rw [decide_eq_false q]
          refine iteT ?_
          refine ⟨_, rfl, .inl ⟨rfl, _, SqL.of pa1.l⟩, _, rfl, t, _, 1, _, rfl, rfl, SqT.of (s1 _ _ ht0), rfl, _, rfl, t, _, 2, _, rfl, rfl, SqT.of (s1 _ _ ht0), rfl, two_fits, fun u2 hu2 => ?_⟩
          have s2 := same_new (o := .tup [nat m, nat f']) hu2
          have g2 : (upd H1 u2 (.tup [nat m, nat f'])) u2 = some (.tup [nat m, nat f']) := upd_same
          generalize upd H1 u2 (.tup [nat m, nat f']) = H2 at s2 g2
          have pa2 := pa1.same s2
          refine ⟨LR, _, _, rfl, rfl, pa2.l, by rw [List.length_map, ul]; omega, rfl, us ++ [u2], pstep m f' H2 us pa2 ul u2 _ rfl g2 q, fun r o hr z => ?_⟩
          rw [upd_ne z]; exact (s1.trans s2) _ _ hr
      rintro σ' H1 ⟨rfl, us1, PA1, o1⟩
      have BA1 : BookAt e.Book H1 b fp bk := BA0.keep fun c o hc hm => o1 c o hc fun z => by
        rcases List.mem_cons.mp hm with y | y
        · exact BA0.pne PA0.l (y.symm.trans z)
        · exact ac.nR (z ▸ y)
      have PE1 : PeopleAt H1 LP (ts ++ [t]) (bk.ps ++ [(sx, some (m, f'))]) := ⟨o1 _ _ PE0.l ac.ne, PE0.t.keep fun p xs _ hp => o1 _ _ hp fun z => by rw [z, PA0.l] at hp; cases hp⟩
      have ht1 := o1 _ _ ht0 fun z => by rw [z, PA0.l] at ht0; cases ht0
      obtain ⟨dx, a1, b1, c1, d1, qs1, hfp1, f1, _⟩ := id BA1.ob
      refine ⟨_, rfl, t, _, 0, _, rfl, rfl, SqT.of ht1, rfl, rfl, _, rfl, iteDn (sex_wed sx) ?_⟩
      have lm := hm.lt
      have lf := hf.lt
      refine ⟨_, rfl, b, dx, _, rfl, f1, bno .., _, rfl, t, _, 0, _, rfl, rfl, SqT.of ht1, rfl, _, rfl, t, _, 1, _, rfl, rfl, SqT.of ht1, rfl, _, rfl, t, _, 2, _, rfl, rfl, SqT.of ht1, rfl, b, fp, bk, sx, (m : Int), (f' : Int), rfl, BA1, sn m (by omega), sn f' (by omega), fun m2 f2 em ef _ _ _ => ⟨l1000, fun fp2 H2 BA2 kp2 fr2 sb2 => ?_⟩, fun z => absurd ⟨⟨by omega, by omega⟩, ⟨by omega, by omega⟩⟩ z, fun _ _ z => absurd ⟨m, f', rfl, rfl, hm, hf⟩ z, fun _ z => absurd z (by omega)⟩
      have em' := Int.ofNat.inj em
      have ef' := Int.ofNat.inj ef
      subst em' ef'
      have nP2 : LP ∉ fp2 := fun z => (fr2 _ z).elim ac.nP fun y => by rw [PE1.l] at y; cases y
      have nR2 : LR ∉ fp2 := fun z => (fr2 _ z).elim ac.nR fun y => by rw [PA1.l] at y; cases y
      have PE2 : PeopleAt H2 LP (ts ++ [t]) (bk.ps ++ [(sx, some (m, f'))]) := ⟨kp2 _ _ PE1.l ac.nP, PE1.t.keep fun p xs _ hp => kp2 _ _ hp (BA1.notin hp)⟩
      have PA2 : PairsAt H2 LR us1 (bk.pair (m, f')).prs := ⟨kp2 _ _ PA1.l ac.nR, PA1.t.keep fun p xs _ hp => kp2 _ _ hp (BA1.notin hp)⟩
      refine ⟨_, rfl, LP, _, rfl, .inl (SqL.of PE2.l), _, _, rfl, rfl, rfl, ?_⟩
      have ev := len_sub bk.ps.length ((ts ++ [t]).map V.ref) (by rw [List.length_map, List.length_append, tl]; rfl)
      show Q (.bl (decide (nat bk.ps.length = V.int ((((ts ++ [t]).map V.ref).length : Nat) - (1 : Int))))) H2
      rw [ev, decide_eq_true rfl]
      refine k fp2 (ts ++ [t]) us1 H2 ⟨BA2, PE2, PA2, nP2, nR2, ac.ne⟩ (fun c o hc hn => ?_) fun c hc => ?_
      · simp only [List.mem_cons, not_or] at hn
        exact kp2 c o (o1 c o (o0 c o hc hn.1) hn.2.1) hn.2.2
      · rcases fr2 c hc with z | z
        · exact .inl z
        · refine .inr ?_
          cases y : H c with
          | none => rfl
          | some o =>
            have y1 : c ≠ LR := fun q => nR2 (q ▸ hc)
            have y2 : c ≠ LP := fun q => nP2 (q ▸ hc)
            rw [o1 c o (o0 c o y y2) y1] at z; cases z
end


--CUT
/-! dicts keyed by numbers, each with True -/
def kvOf (ks : List Nat) : List (Key × V) := ks.map fun (k : Nat) => ((Sum.inl (k : Int) : Key), V.bl true)
theorem valV_kv (d : Nat) : ∀ ks : List Nat, (valV (kvOf ks) (Sum.inl (d : Int))).isSome = decide (d ∈ ks)
  | [] => rfl
  | k :: r => by
    have ih := valV_kv d r
    unfold valV kvOf at ih ⊢
    rw [List.map_cons, List.find?_cons]
    by_cases q : k = d
    · subst q; simp
    · have h : ¬ (Sum.inl (k : Int) : Key) = Sum.inl (d : Int) := fun z => q (by have := Sum.inl.inj z; omega)
      simp only [decide_eq_false h]
      rw [ih]
      simp [Ne.symm q]
theorem kvOf_snoc (ks : List Nat) (d : Nat) : kvOf ks ++ [(Sum.inl (d : Int), V.bl true)] = kvOf (ks ++ [d]) := by unfold kvOf; rw [List.map_append]; rfl
theorem putK_kv (y : Nat) (ks : List Nat) : putK (kvOf ks) (Sum.inl (y : Int) : Key) (V.bl true) = kvOf (if y ∈ ks then ks else ks ++ [y]) := by
  by_cases q : y ∈ ks
  · rw [if_pos q]
    unfold putK
    have h1 : ((kvOf ks).any fun kv => decide (kv.1 = (Sum.inl (y : Int) : Key))) = true := by
      unfold kvOf
      rw [List.any_map]
      exact List.any_eq_true.mpr ⟨y, q, decide_eq_true rfl⟩
    rw [if_pos h1]
    conv => rhs; rw [← List.map_id (kvOf ks)]
    refine List.map_congr_left fun kv hkv => ?_
    unfold kvOf at hkv
    obtain ⟨k, _, rfl⟩ := List.mem_map.mp hkv
    by_cases c : (Sum.inl (k : Int) : Key) = Sum.inl (y : Int)
    · rw [if_pos c]; rfl
    · rw [if_neg c]; rfl
  · rw [if_neg q, putK_new, kvOf_snoc]
    have := valV_kv y ks
    rw [decide_eq_false q] at this
    exact Option.isNone_iff_eq_none.mp (by simpa using this)
theorem kvOf_keysN (ks : List Nat) : (kvOf ks).map (·.1) = (ks.map fun (k : Nat) => (k : Int)).map Sum.inl := by unfold kvOf; rw [List.map_map, List.map_map]; rfl


--CUT
/-! books: walks of kin -/
def sibs (bk : Bk) (a : Nat) : List Nat := match bk.ps[a]? with
  | none => []
  | some x => match x.2 with
    | none => []
    | some q => (List.range bk.ps.length).filter fun b => decide (b ≠ a) && (match bk.ps[b]? with
      | some y => decide (y.2 = some q)
      | none => false)
def nearL (bk : Bk) (a l : Nat) : List Nat := match bk.ps[a]? with
  | none => []
  | some x =>
    if l = 102 then (match x.2 with
      | none => []
      | some q => [q.1])
    else if l = 109 then (match x.2 with
      | none => []
      | some q => [q.2])
    else if l = 112 then mates bk.prs a
    else (if l = 115 ∨ l = 100 then kids bk a else sibs bk a).filter (ofSex bk (stS x.1 l))
theorem mem_kids {bk : Bk} {a b : Nat} : b ∈ kids bk a ↔ ∃ y q, bk.ps[b]? = some y ∧ y.2 = some q ∧ (a = q.1 ∨ a = q.2) := by
  unfold kids
  rw [List.mem_filter, List.mem_range]
  have key : ∀ y : Per, inV (nat a) [faV y, moV y] = true ↔ ∃ q, y.2 = some q ∧ (a = q.1 ∨ a = q.2) := fun y => by
    unfold inV faV moV
    cases hq : y.2 with
    | none =>
      constructor
      · intro z; cases z
      · rintro ⟨q, z, _⟩; cases z
    | some q =>
      show ((((q.1 : Int) == (a : Int)) || (((q.2 : Int) == (a : Int)) || false)) = true) ↔ _
      rw [Bool.or_false, Bool.or_eq_true]
      constructor
      · rintro (z | z)
        · exact ⟨q, rfl, .inl (by have := eq_of_beq z; omega)⟩
        · exact ⟨q, rfl, .inr (by have := eq_of_beq z; omega)⟩
      · rintro ⟨q', z, y⟩
        cases Option.some.inj z
        rcases y with rfl | rfl
        · exact .inl (by simp)
        · exact .inr (by simp)
  constructor
  · rintro ⟨h1, h2⟩
    rw [List.getElem?_eq_getElem h1] at h2
    obtain ⟨q, z1, z2⟩ := (key _).mp h2
    exact ⟨_, q, List.getElem?_eq_getElem h1, z1, z2⟩
  · rintro ⟨y, q, h1, h2, h3⟩
    refine ⟨(List.getElem?_eq_some_iff.mp h1).1, ?_⟩
    rw [h1]
    exact (key y).mpr ⟨q, h2, h3⟩
theorem mem_sibs {bk : Bk} {a b : Nat} (h : b ∈ sibs bk a) : ∃ x y q, bk.ps[a]? = some x ∧ bk.ps[b]? = some y ∧ x.2 = some q ∧ y.2 = some q ∧ b ≠ a := by
  unfold sibs at h
  cases hx : bk.ps[a]? with
  | none => rw [hx] at h; cases h
  | some x =>
    rw [hx] at h
    simp only at h
    cases hq : x.2 with
    | none => rw [hq] at h; cases h
    | some q =>
      rw [hq] at h
      obtain ⟨h1, h2⟩ := List.mem_filter.mp h
      have lt := List.mem_range.mp h1
      rw [Bool.and_eq_true, List.getElem?_eq_getElem lt] at h2
      exact ⟨x, _, q, rfl, List.getElem?_eq_getElem lt, hq, of_decide_eq_true h2.2, of_decide_eq_true h2.1⟩
theorem near_lt {bk : Bk} (ok : BkOk bk) {a l b : Nat} (h : b ∈ nearL bk a l) : b < bk.ps.length := by
  unfold nearL at h
  cases hx : bk.ps[a]? with
  | none => rw [hx] at h; cases h
  | some x =>
    rw [hx] at h
    simp only at h
    have hm := List.mem_of_getElem? hx
    split at h
    · cases hq : x.2 with
      | none => rw [hq] at h; cases h
      | some q => rw [hq] at h; rw [List.mem_singleton.mp h]; exact (ok.par x hm q hq).1.lt
    · split at h
      · cases hq : x.2 with
        | none => rw [hq] at h; cases h
        | some q => rw [hq] at h; rw [List.mem_singleton.mp h]; exact (ok.par x hm q hq).2.1.lt
      · split at h
        · exact mates_lt ok h
        · have h1 := (List.mem_filter.mp h).1
          split at h1
          · obtain ⟨y, q, hy, _⟩ := mem_kids.mp h1
            exact (List.getElem?_eq_some_iff.mp hy).1
          · obtain ⟨_, y, q, _, hy, _⟩ := mem_sibs h1
            exact (List.getElem?_eq_some_iff.mp hy).1
/-- who is reached from those of whom R speaks -/
def reachP (bk : Bk) : (Nat → Prop) → List Nat → Nat → Prop
  | R, [] => R
  | R, l :: r => reachP bk (fun b => ∃ a, R a ∧ b ∈ nearL bk a l) r
theorem reachP_snoc (bk : Bk) (l : Nat) : ∀ (w : List Nat) (R : Nat → Prop) (b : Nat), reachP bk R (w ++ [l]) b ↔ ∃ a, reachP bk R w a ∧ b ∈ nearL bk a l
  | [], _, _ => Iff.rfl
  | _ :: w, _, b => reachP_snoc bk l w _ b
def spSibs (e : Ad) : Sp := fun vs H Q _ => ∃ (p : Addr) (fp : List Addr) (bk : Bk) (a : Nat), vs = [.ref p, nat a] ∧ BookAt e.Book H p fp bk ∧ a < bk.ps.length ∧ ∀ D H', Same H H' → H' D = some (.lst (natL (sibs bk a))) → Q (.ref D) H'
def spKinL (e : Ad) : Sp := fun vs H Q _ => ∃ (p : Addr) (fp : List Addr) (bk : Bk) (a l : Nat), vs = [.ref p, nat a, sgn l] ∧ BookAt e.Book H p fp bk ∧ a < bk.ps.length ∧ IsL l ∧ ∀ D H', Same H H' → H' D = some (.lst (natL (nearL bk a l))) → Q (.ref D) H'
def spKin (e : Ad) : Sp := fun vs H Q E => ∃ (p : Addr) (fp : List Addr) (bk : Bk) (i : Int) (l : List Nat), vs = [.ref p, .int i, .str (txt l)] ∧ BookAt e.Book H p fp bk ∧ Sn i ∧ l.length ≤ 1000 ∧ Sg l ∧
  (InB bk i → IsW l → ∀ xs D H', xs.Pairwise (· < ·) → (∀ b, b ∈ xs ↔ reachP bk (fun b => b = i.toNat) l b) → (∀ b ∈ xs, b < bk.ps.length) → H D = none → Same H H' → H' D = some (.lst (natL xs)) → Q (.ref D) H') ∧
  (¬ InB bk i → E (.ref e.NoPerson) none H) ∧ (InB bk i → ¬ IsW l → E (.ref e.NoWalk) none H)
theorem eqVs_par (x y : Per) : eqVs [faV y, moV y] [faV x, moV x] = decide (y.2 = x.2) := by
  unfold faV moV
  cases hx : x.2 with
  | none =>
    cases hy : y.2 with
    | none => rfl
    | some q => rfl
  | some p =>
    cases hy : y.2 with
    | none => rfl
    | some q =>
      show (((q.1 : Int) == (p.1 : Int)) && (((q.2 : Int) == (p.2 : Int)) && true)) = decide (some q = some p)
      by_cases h : q = p
      · subst h; rw [decide_eq_true rfl]; simp
      · rw [decide_eq_false (fun z => h (Option.some.inj z)), Bool.eq_false_iff]
        intro z
        rw [Bool.and_true, Bool.and_eq_true] at z
        have z1 := eq_of_beq z.1
        have z2 := eq_of_beq z.2
        exact h (Prod.ext (by omega) (by omega))
section
variable {P : Program} {w : World} {K : PySem.W.Frag} {mg : Str → Option Value} {base : Heap} {CX : CXT} {C : Addr} {e : Ad}
theorem sc_sibs : FnScope ["self", "a", "parents"] ["self", "a"] (defScope (inClass (top 26) 15)) := ⟨rfl, rfl, rfl, by decide +kernel, rfl, by decide +kernel, by decide +kernel⟩
theorem ok_sibs {f : Addr} {fd : FuncData} (F : Fun K "siblings" "Book.siblings" (inClass (top 26) 15) f fd) (T : Txt K mg C e) : FnOk P w K mg base CX 1 f fd ["self", "a"] (spSibs e) := by
  refine F.okN sc_sibs (fun vs H Q E h => ?_) (fun cdv A outer s H vs Q E hr h => ?_)
  · obtain ⟨p, fp, bk, a, rfl, _⟩ := h; rfl
  · obtain ⟨p, fp, bk, i, rfl, BA, hi, k⟩ := h
    have nd := sc_sibs.nd
    have hu := hr.units0
    obtain ⟨dx, a, b, c, d, qs, hfp, e1, e2, e3, e4, e5, e6, e7⟩ := id BA.ob
    have n60 := BA.ok.n60
    obtain ⟨x, hx⟩ : ∃ x, bk.ps[i]? = some x := ⟨_, List.getElem?_eq_getElem hi⟩
    refine ⟨_, (pss_cons (ps_if (pt_cmpR op_isN (pe_ix ix_list (pe_fld (pv 0) rfl) (pv 1) (fun _ _ => rfl)) pe_non (nomark _)) (pss_one (ps_ret (pe_lst pa_nil))) pss_nil)
      (pss_cons (ps_set (i := 2) nd rfl (Or.inr rfl) (pe_tup (pa_cons (pe_ix ix_list (pe_fld (pv 0) rfl) (pv 1) (fun _ _ => rfl)) (pa_cons (pe_ix ix_list (pe_fld (pv 0) rfl) (pv 1) (fun _ _ => rfl)) pa_nil))))
      (pss_one (ps_ret (pe_compF (fv := [("a", 1), ("parents", 2), ("self", 0)]) ⟨rfl, by decide +kernel, rfl, by decide +kernel, rfl, by decide +kernel, ⟨⟨rfl, Or.inl rfl, Or.inl rfl, rfl⟩, ⟨⟨rfl, Or.inl rfl, Or.inl rfl, rfl⟩, ⟨⟨rfl, Or.inl rfl, Or.inl rfl, rfl⟩, trivial⟩⟩⟩, rfl, rfl⟩ rfl (pi_range1 rfl T.z_range (pa_cons (pe_callB call_len_seq rfl T.z_len PySem.boot_len (pa_cons (pe_fld (pv 0) rfl) pa_nil)) pa_nil)) (fun _ _ _ => (pv 0)) (fun _ _ _ => (PW.pt (pw_and (pt_cmpR op_ne (pv 0) (pv 1) (nomark _)) (pw_and1 (pt_cmpR (op_eqT hu) (pe_tup (pa_cons (pe_ix ix_list (pe_fld (pv 3) rfl) (pv 0) (fun _ _ => rfl)) (pa_cons (pe_ix ix_list (pe_fld (pv 3) rfl) (pv 0) (fun _ _ => rfl)) pa_nil))) (pv 2) (nomark _))))))))))), ?_⟩
    refine ⟨_, rfl, p, e.Book, dx, _, _, rfl, e1, T.cl_Book, T.n_fathers, bfl_f .., _, rfl, b, _, _, _, rfl, rfl, SqL.of e3, sexs_at hx faV, rfl, _, rfl, ?_⟩
    cases hq : x.2 with
    | none =>
      have es : sibs bk i = [] := by unfold sibs; rw [hx]; simp only; rw [hq]
      have ef : faV x = .non := by unfold faV; rw [hq]
      rw [ef]
      refine iteD rfl ⟨by decide, fun D hD => k D _ (same_new hD) ?_⟩
      rw [upd_same, es]; rfl
    | some q =>
      have ef : ¬ (faV x = .non) := by unfold faV; rw [hq]; intro z; cases z
      refine iteDn ef ?_
      refine ⟨_, rfl, p, e.Book, dx, _, _, rfl, e1, T.cl_Book, T.n_fathers, bfl_f .., _, rfl, b, _, _, _, rfl, rfl, SqL.of e3, sexs_at hx faV, _, rfl, p, e.Book, dx, _, _, rfl, e1, T.cl_Book, T.n_mothers, bfl_m .., _, rfl, c, _, _, _, rfl, rfl, SqL.of e4, sexs_at hx moV, two_fits, fun t ht => ?_⟩
      have s1 := same_new (o := .tup [faV x, moV x]) ht
      have gt : (upd H t (.tup [faV x, moV x])) t = some (.tup [faV x, moV x]) := upd_same
      generalize upd H t (.tup [faV x, moV x]) = H1 at s1 gt
      walk_at "ns"
      refine ⟨_, rfl, p, e.Book, dx, _, _, rfl, s1 _ _ e1, T.cl_Book, T.n_sexes, bfl_s .., a, _, rfl, .inl (SqL.of (s1 _ _ e2)), _, rfl, by rw [List.length_map]; omega, by rw [List.length_map]; omega, ?_⟩
      rw [List.length_map, Int.toNat_natCast]
      have es : sibs bk i = (List.range bk.ps.length).filter fun b => decide (b ≠ i) && (match bk.ps[b]? with
        | some y => decide (y.2 = some q)
        | none => false) := by unfold sibs; rw [hx]; simp only; rw [hq]
      refine comp_rangeF0 (fun b => decide (b ≠ i) && (match bk.ps[b]? with
        | some y => decide (y.2 = some q)
        | none => false)) nat (Nat.le_trans n60 (by decide)) (fun j H' R hj sm kk _ _ _ => ?_) (fun j H' R hj pj sm kk _ _ _ => ⟨_, rfl, kk _ (Same.refl _)⟩) fun D H2 hD s2 hl2 => k D H2 (s1.trans s2) (by rw [es]; exact hl2)
      have hy : bk.ps[j]? = some bk.ps[j] := List.getElem?_eq_getElem hj
      rw [hy] at kk
      have s1m := s1.trans sm
      refine ⟨_, rfl, _, rfl, rfl, _, rfl, ?_⟩
      show if (!decide (nat j = nat i)) = true then _ else _
      by_cases c0 : j = i
      · rw [decide_eq_true (show nat j = nat i by rw [c0])]
        refine iteF ?_
        rw [decide_eq_false (show ¬ (j ≠ i) from fun z => z c0), Bool.false_and] at kk
        exact kk _ (Same.refl _)
      · rw [decide_eq_false (show ¬ (nat j = nat i) from fun z => c0 (by have := V.int.inj z; omega))]
        refine iteT ?_
        rw [decide_eq_true (show j ≠ i from c0), Bool.true_and] at kk
        refine ⟨_, rfl, p, e.Book, dx, _, _, rfl, s1m _ _ e1, T.cl_Book, T.n_fathers, bfl_f .., _, rfl, b, _, _, _, rfl, rfl, SqL.of (s1m _ _ e3), sexs_at hy faV, _, rfl, p, e.Book, dx, _, _, rfl, s1m _ _ e1, T.cl_Book, T.n_mothers, bfl_m .., _, rfl, c, _, _, _, rfl, rfl, SqL.of (s1m _ _ e4), sexs_at hy moV, two_fits, fun t2 ht2 => ?_⟩
        refine ⟨_, rfl, t2, t, _, _, rfl, rfl, SqT.of upd_same, SqT.of (same_new ht2 _ _ (sm _ _ gt)), ?_, ?_, _, rfl, ?_⟩
        · show (flatV (faV bk.ps[j]) && (flatV (moV bk.ps[j]) && true)) = true
          rw [fa_flat, mo_flat]; rfl
        · show (flatV (faV x) && (flatV (moV x) && true)) = true
          rw [fa_flat, mo_flat]; rfl
        · show R (eqVs [faV bk.ps[j], moV bk.ps[j]] [faV x, moV x]) _
          rw [eqVs_par, hq]
          exact kk _ (same_new ht2)
theorem dec_sex (a b : Bool) : decide (sexV a = sexV b) = (a == b) := by cases a <;> cases b <;> decide +kernel
theorem sc_kinl : FnScope ["self", "a", "letter", "parent", "near", "sex"] ["self", "a", "letter"] (defScope (inClass (top 26) 16)) := ⟨rfl, rfl, rfl, by decide +kernel, rfl, by decide +kernel, by decide +kernel⟩
theorem ok_kinl {f : Addr} {fd : FuncData} (F : Fun K "kin_by_letter" "Book.kin_by_letter" (inClass (top 26) 16) f fd) (T : Txt K mg C e) (D_children : MDef P w K mg base (CXR P w) e.Book "children" 2 ["self", "a"] (spChildrenB e)) (D_siblings : MDef P w K mg base (CXR P w) e.Book "siblings" 1 ["self", "a"] (spSibs e)) (D_sex_after : Def P w K mg base (CXR P w) "sex_after" 2 ["sex", "letter"] spSexAfter) : FnOk P w K mg base (CXR P w) 3 f fd ["self", "a", "letter"] (spKinL e) := by
  refine F.okX sc_kinl (fun vs H Q E h => ?_) (fun cdv A outer s H vs Q E hr hx h => ?_)
  · obtain ⟨p, fp, bk, a, l, rfl, _⟩ := h; rfl
  · obtain ⟨p, fp, bk, i, l, rfl, BA, hi, hl, k⟩ := h
    have nd := sc_kinl.nd
    obtain ⟨dx, a, b, c, d, qs, hfp, e1, e2, e3, e4, e5, e6, e7⟩ := id BA.ob
    have n60 := BA.ok.n60
    have p9 : (100 : Nat) < 10 ^ 9 := by decide
    obtain ⟨x, hxx⟩ : ∃ x, bk.ps[i]? = some x := ⟨_, List.getElem?_eq_getElem hi⟩
    have en : ∀ r : List Nat, nearL bk i l = r → ∀ D H', Same H H' → H' D = some (.lst (natL r)) → Q (.ref D) H' := fun r er D H' s g => k D H' s (by rw [er]; exact g)
    unfold nearL at en
    rw [hxx] at en
    simp only at en
    refine ⟨_, (pss_cons (ps_if (PW.pt (pw_or (pt_cmpR op_eq (pv 2) pe_str (nomark _)) (pw_or1 (pt_cmpR op_eq (pv 2) pe_str (nomark _))))) (pss_cons (ps_set (i := 3) nd rfl (Or.inl rfl) (pe_ifExp (pt_cmpR op_eq (pv 2) pe_str (nomark _)) (pe_ix ix_list (pe_fld (pv 0) rfl) (pv 1) (fun _ _ => rfl)) (pe_ix ix_list (pe_fld (pv 0) rfl) (pv 1) (fun _ _ => rfl))))
      (pss_one (ps_ret (pe_ifExp (pt_cmpR op_isN (pv 3) pe_non (nomark _)) (pe_lst pa_nil) (pe_lst (pa_cons (pv 3) pa_nil)))))) pss_nil)
      (pss_cons (ps_if (pt_cmpR op_eq (pv 2) pe_str (nomark _)) (pss_one (ps_ret (pe_ix ix_list (pe_fld (pv 0) rfl) (pv 1) (fun _ _ => rfl)))) pss_nil)
      (pss_cons (ps_set (i := 4) nd rfl (Or.inl rfl) (pe_ifExp (PW.pt (pw_or (pt_cmpR op_eq (pv 2) pe_str (nomark _)) (pw_or1 (pt_cmpR op_eq (pv 2) pe_str (nomark _))))) (pe_methX (pv 0) T.cl_Book D_children hx.s hr (pa_cons (pv 1) pa_nil)) (pe_methX (pv 0) T.cl_Book D_siblings hx.s hr (pa_cons (pv 1) pa_nil))))
      (pss_cons (ps_set (i := 5) nd rfl (Or.inr rfl) (pe_callX D_sex_after hx.s hr rfl (pa_cons (pe_ix ix_list (pe_fld (pv 0) rfl) (pv 1) (fun _ _ => rfl)) (pa_cons (pv 2) pa_nil))))
      (pss_one (ps_ret (pe_compF (fv := [("self", 0), ("sex", 5)]) ⟨rfl, by decide +kernel, rfl, by decide +kernel, rfl, by decide +kernel, ⟨⟨rfl, Or.inl rfl, Or.inl rfl, rfl⟩, ⟨⟨rfl, Or.inl rfl, Or.inl rfl, rfl⟩, trivial⟩⟩, rfl, rfl⟩ rfl (pi_list (pv 4)) (fun _ _ _ => (pv 0)) (fun _ _ _ => (pt_cmpR op_eq (pe_ix ix_list (pe_fld (pv 1) rfl) (pv 0) (fun _ _ => rfl)) (pv 2) (nomark _)))))))))), ?_⟩
    refine ⟨_, rfl, rfl, _, rfl, iteD2 (fun ef => iteT ?_) (fun nf => ?_)⟩
    · rw [sgn_iff c_f] at ef
      subst ef
      rw [if_pos rfl] at en
      refine ⟨_, rfl, rfl, _, rfl, iteD rfl ?_⟩
      refine ⟨_, rfl, p, e.Book, dx, _, _, rfl, e1, T.cl_Book, T.n_fathers, bfl_f .., _, rfl, b, _, _, _, rfl, rfl, SqL.of e3, sexs_at hxx faV, ?_⟩
      walk_at "ns"
      refine ⟨_, rfl, rfl, _, rfl, ?_⟩
      cases hq : x.2 with
      | none =>
        have e9 : faV x = .non := by unfold faV; rw [hq]
        rw [e9]
        exact iteD rfl ⟨by decide, fun D hD => en [] (by rw [hq]) D _ (same_new hD) upd_same⟩
      | some q =>
        have e9 : faV x = nat q.1 := by unfold faV; rw [hq]
        rw [e9]
        exact iteDn (by intro z; cases z) ⟨_, rfl, one_fits, fun D hD => en [q.1] (by rw [hq]) D _ (same_new hD) upd_same⟩
    rw [sgn_iff c_f] at nf
    rw [if_neg nf] at en
    refine ⟨_, rfl, rfl, _, rfl, iteD2 (fun em => ?_) (fun nm => ?_)⟩
    · rw [sgn_iff c_m] at em
      subst em
      rw [if_pos rfl] at en
      refine ⟨_, rfl, rfl, _, rfl, iteDn (by decide) ?_⟩
      refine ⟨_, rfl, p, e.Book, dx, _, _, rfl, e1, T.cl_Book, T.n_mothers, bfl_m .., _, rfl, c, _, _, _, rfl, rfl, SqL.of e4, sexs_at hxx moV, ?_⟩
      walk_at "ns"
      refine ⟨_, rfl, rfl, _, rfl, ?_⟩
      cases hq : x.2 with
      | none =>
        have e9 : moV x = .non := by unfold moV; rw [hq]
        rw [e9]
        exact iteD rfl ⟨by decide, fun D hD => en [] (by rw [hq]) D _ (same_new hD) upd_same⟩
      | some q =>
        have e9 : moV x = nat q.2 := by unfold moV; rw [hq]
        rw [e9]
        exact iteDn (by intro z; cases z) ⟨_, rfl, one_fits, fun D hD => en [q.2] (by rw [hq]) D _ (same_new hD) upd_same⟩
    rw [sgn_iff c_m] at nm
    rw [if_neg nm] at en
    refine ⟨_, rfl, rfl, _, rfl, iteD2 (fun ep => ?_) (fun np => ?_)⟩
    · rw [sgn_iff c_p] at ep
      subst ep
      rw [if_pos rfl] at en
      have lq : i < qs.length := by rw [e6]; exact hi
      have hq : qs[i]? = some qs[i] := List.getElem?_eq_getElem lq
      exact ⟨_, rfl, p, e.Book, dx, _, _, rfl, e1, T.cl_Book, T.n_partner_lists, bfl_p .., _, rfl, d, _, _, _, rfl, rfl, SqL.of e5, atI_nat (by rw [List.getElem?_map, hq]; rfl), en _ rfl _ H (Same.refl _) (e7 i _ hq)⟩
    rw [sgn_iff c_p] at np
    rw [if_neg np] at en
    -- the last four
    have kl : ∀ j ∈ kids bk i, j < bk.ps.length := fun j hj => by
      obtain ⟨y, q, hy, _⟩ := mem_kids.mp hj
      exact (List.getElem?_eq_some_iff.mp hy).1
    have sl : ∀ j ∈ sibs bk i, j < bk.ps.length := fun j hj => by
      obtain ⟨_, y, q, _, hy, _⟩ := mem_sibs hj
      exact (List.getElem?_eq_some_iff.mp hy).1
    have kn : (kids bk i).length ≤ 60 := Nat.le_trans (by unfold kids; exact Nat.le_trans (List.length_filter_le _ _) (by rw [List.length_range]; exact Nat.le_refl _)) n60
    have sn : (sibs bk i).length ≤ 60 := by
      refine Nat.le_trans ?_ n60
      unfold sibs
      rw [hxx]
      simp only
      cases x.2 with
      | none => exact Nat.zero_le _
      | some q => exact Nat.le_trans (List.length_filter_le _ _) (by rw [List.length_range]; exact Nat.le_refl _)
    have sni : Sn (i : Int) := log_small (by show ((i : Nat) : Int).natAbs < 10 ^ 9; omega)
    have ini : InB bk (i : Int) := ⟨by omega, by omega⟩
    refine ⟨_, rfl, rfl, _, rfl, iteD2 (fun es => iteT ?_) (fun ns => ?_)⟩
    · rw [sgn_iff c_s] at es
      refine ⟨_, rfl, p, dx, _, rfl, e1, bno .., _, rfl, p, fp, bk, (i : Int), rfl, BA, sni, fun _ r D H1 er hD s1 g1 => ?_, fun z => absurd ini z⟩
      rw [Int.toNat_natCast] at er
      subst er
      rw [if_pos (.inl es)] at en
      walk_at "ns"
      refine ⟨_, rfl, p, e.Book, dx, _, _, rfl, s1 _ _ e1, T.cl_Book, T.n_sexes, bfl_s .., _, rfl, a, _, _, _, rfl, rfl, SqL.of (s1 _ _ e2), sexs_at hxx perSex, _, rfl, x.1, l, rfl, hl, ?_⟩
      walk_at "ns"
      refine ⟨_, rfl, D, rfl, ⟨_, SqL.of g1⟩, ?_⟩
      refine comp_listF (fun j => match (kids bk i)[j]? with
        | some b => ofSex bk (stS x.1 l) b
        | none => false) (fun j => match (kids bk i)[j]? with
        | some b => nat b
        | none => .non) (SqL.of g1) (by rw [natL_len]; exact Nat.le_trans kn (by decide)) (fun j v H' R hj sm kk _ _ _ => ?_) (fun j v H' R hj pj sm kk _ _ _ => ?_) fun D2 H2 hD2 s2 hl2 => ?_
      · obtain ⟨y, hy, rfl⟩ : ∃ y, (kids bk i)[j]? = some y ∧ v = nat y := by
          unfold natL at hj
          rw [List.getElem?_map] at hj
          obtain ⟨y, hy, rfl⟩ := Option.map_eq_some_iff.mp hj
          exact ⟨y, hy, rfl⟩
        rw [hy] at kk
        have ly := kl y (List.mem_of_getElem? hy)
        have hz : bk.ps[y]? = some bk.ps[y] := List.getElem?_eq_getElem ly
        have s1m := s1.trans sm
        refine ⟨_, rfl, p, e.Book, dx, _, _, rfl, s1m _ _ e1, T.cl_Book, T.n_sexes, bfl_s .., _, rfl, a, _, _, _, rfl, rfl, SqL.of (s1m _ _ e2), sexs_at hz perSex, _, rfl, rfl, _, rfl, ?_⟩
        have : decide (perSex bk.ps[y] = sexV (stS x.1 l)) = ofSex bk (stS x.1 l) y := by
          rw [ofSex_eq hz]
          exact dec_sex _ _
        show R (decide (perSex bk.ps[y] = sexV (stS x.1 l))) H'
        rw [this]; exact kk _ (Same.refl _)
      · obtain ⟨y, hy, rfl⟩ : ∃ y, (kids bk i)[j]? = some y ∧ v = nat y := by
          unfold natL at hj
          rw [List.getElem?_map] at hj
          obtain ⟨y, hy, rfl⟩ := Option.map_eq_some_iff.mp hj
          exact ⟨y, hy, rfl⟩
        rw [hy] at kk
        exact ⟨_, rfl, kk _ (Same.refl _)⟩
      rw [natL_len, filter_idx (kids bk i) (ofSex bk (stS x.1 l)) nat _ _ (fun j q hq => by rw [hq]; exact ⟨rfl, rfl⟩)] at hl2
      exact en _ rfl D2 H2 (s1.trans s2) hl2
    rw [sgn_iff c_s] at ns
    refine ⟨_, rfl, rfl, _, rfl, iteD2 (fun ed => ?_) (fun nd' => ?_)⟩
    · rw [sgn_iff c_d] at ed
      refine ⟨_, rfl, p, dx, _, rfl, e1, bno .., _, rfl, p, fp, bk, (i : Int), rfl, BA, sni, fun _ r D H1 er hD s1 g1 => ?_, fun z => absurd ini z⟩
      rw [Int.toNat_natCast] at er
      subst er
      rw [if_pos (.inr ed)] at en
      walk_at "ns"
      refine ⟨_, rfl, p, e.Book, dx, _, _, rfl, s1 _ _ e1, T.cl_Book, T.n_sexes, bfl_s .., _, rfl, a, _, _, _, rfl, rfl, SqL.of (s1 _ _ e2), sexs_at hxx perSex, _, rfl, x.1, l, rfl, hl, ?_⟩
      walk_at "ns"
      refine ⟨_, rfl, D, rfl, ⟨_, SqL.of g1⟩, ?_⟩
      refine comp_listF (fun j => match (kids bk i)[j]? with
        | some b => ofSex bk (stS x.1 l) b
        | none => false) (fun j => match (kids bk i)[j]? with
        | some b => nat b
        | none => .non) (SqL.of g1) (by rw [natL_len]; exact Nat.le_trans kn (by decide)) (fun j v H' R hj sm kk _ _ _ => ?_) (fun j v H' R hj pj sm kk _ _ _ => ?_) fun D2 H2 hD2 s2 hl2 => ?_
      · obtain ⟨y, hy, rfl⟩ : ∃ y, (kids bk i)[j]? = some y ∧ v = nat y := by
          unfold natL at hj
          rw [List.getElem?_map] at hj
          obtain ⟨y, hy, rfl⟩ := Option.map_eq_some_iff.mp hj
          exact ⟨y, hy, rfl⟩
        rw [hy] at kk
        have ly := kl y (List.mem_of_getElem? hy)
        have hz : bk.ps[y]? = some bk.ps[y] := List.getElem?_eq_getElem ly
        have s1m := s1.trans sm
        refine ⟨_, rfl, p, e.Book, dx, _, _, rfl, s1m _ _ e1, T.cl_Book, T.n_sexes, bfl_s .., _, rfl, a, _, _, _, rfl, rfl, SqL.of (s1m _ _ e2), sexs_at hz perSex, _, rfl, rfl, _, rfl, ?_⟩
        have : decide (perSex bk.ps[y] = sexV (stS x.1 l)) = ofSex bk (stS x.1 l) y := by
          rw [ofSex_eq hz]
          exact dec_sex _ _
        show R (decide (perSex bk.ps[y] = sexV (stS x.1 l))) H'
        rw [this]; exact kk _ (Same.refl _)
      · obtain ⟨y, hy, rfl⟩ : ∃ y, (kids bk i)[j]? = some y ∧ v = nat y := by
          unfold natL at hj
          rw [List.getElem?_map] at hj
          obtain ⟨y, hy, rfl⟩ := Option.map_eq_some_iff.mp hj
          exact ⟨y, hy, rfl⟩
        rw [hy] at kk
        exact ⟨_, rfl, kk _ (Same.refl _)⟩
      rw [natL_len, filter_idx (kids bk i) (ofSex bk (stS x.1 l)) nat _ _ (fun j q hq => by rw [hq]; exact ⟨rfl, rfl⟩)] at hl2
      exact en _ rfl D2 H2 (s1.trans s2) hl2
    · rw [sgn_iff c_d] at nd'
      rw [if_neg (fun z => z.elim ns nd')] at en
      refine ⟨_, rfl, p, dx, _, rfl, e1, bno .., _, rfl, p, fp, bk, i, rfl, BA, hi, fun D H1 s1 g1 => ?_⟩
      walk_at "ns"
      refine ⟨_, rfl, p, e.Book, dx, _, _, rfl, s1 _ _ e1, T.cl_Book, T.n_sexes, bfl_s .., _, rfl, a, _, _, _, rfl, rfl, SqL.of (s1 _ _ e2), sexs_at hxx perSex, _, rfl, x.1, l, rfl, hl, ?_⟩
      walk_at "ns"
      refine ⟨_, rfl, D, rfl, ⟨_, SqL.of g1⟩, ?_⟩
      refine comp_listF (fun j => match (sibs bk i)[j]? with
        | some b => ofSex bk (stS x.1 l) b
        | none => false) (fun j => match (sibs bk i)[j]? with
        | some b => nat b
        | none => .non) (SqL.of g1) (by rw [natL_len]; exact Nat.le_trans sn (by decide)) (fun j v H' R hj sm kk _ _ _ => ?_) (fun j v H' R hj pj sm kk _ _ _ => ?_) fun D2 H2 hD2 s2 hl2 => ?_
      · obtain ⟨y, hy, rfl⟩ : ∃ y, (sibs bk i)[j]? = some y ∧ v = nat y := by
          unfold natL at hj
          rw [List.getElem?_map] at hj
          obtain ⟨y, hy, rfl⟩ := Option.map_eq_some_iff.mp hj
          exact ⟨y, hy, rfl⟩
        rw [hy] at kk
        have ly := sl y (List.mem_of_getElem? hy)
        have hz : bk.ps[y]? = some bk.ps[y] := List.getElem?_eq_getElem ly
        have s1m := s1.trans sm
        refine ⟨_, rfl, p, e.Book, dx, _, _, rfl, s1m _ _ e1, T.cl_Book, T.n_sexes, bfl_s .., _, rfl, a, _, _, _, rfl, rfl, SqL.of (s1m _ _ e2), sexs_at hz perSex, _, rfl, rfl, _, rfl, ?_⟩
        have : decide (perSex bk.ps[y] = sexV (stS x.1 l)) = ofSex bk (stS x.1 l) y := by
          rw [ofSex_eq hz]
          exact dec_sex _ _
        show R (decide (perSex bk.ps[y] = sexV (stS x.1 l))) H'
        rw [this]; exact kk _ (Same.refl _)
      · obtain ⟨y, hy, rfl⟩ : ∃ y, (sibs bk i)[j]? = some y ∧ v = nat y := by
          unfold natL at hj
          rw [List.getElem?_map] at hj
          obtain ⟨y, hy, rfl⟩ := Option.map_eq_some_iff.mp hj
          exact ⟨y, hy, rfl⟩
        rw [hy] at kk
        exact ⟨_, rfl, kk _ (Same.refl _)⟩
      rw [natL_len, filter_idx (sibs bk i) (ofSex bk (stS x.1 l)) nat _ _ (fun j q hq => by rw [hq]; exact ⟨rfl, rfl⟩)] at hl2
      exact en _ rfl D2 H2 (s1.trans s2) hl2
end


--CUT
section
variable {P : Program} {w : World} {K : PySem.W.Frag} {mg : Str → Option Value} {base : Heap} {CX : CXT} {C : Addr} {e : Ad}
theorem sc_kin : FnScope ["self", "a", "walk", "reached", "letter", "later", "here", "there"] ["self", "a", "walk"] (defScope (inClass (top 26) 17)) := ⟨rfl, rfl, rfl, by decide +kernel, rfl, by decide +kernel, by decide +kernel⟩
theorem ok_kin {f : Addr} {fd : FuncData} (F : Fun K "kin" "Book.kin" (inClass (top 26) 17) f fd) (T : Txt K mg C e) (D_check_person : MDef P w K mg base (CXR P w) e.Book "check_person" 1 ["self", "a"] (spCheckP e)) (D_check_walk : Def P w K mg base (CXR P w) "check_walk" 1 ["walk"] (spCheckWalk e)) (D_kin_by_letter : MDef P w K mg base (CXR P w) e.Book "kin_by_letter" 3 ["self", "a", "letter"] (spKinL e)) : FnOk P w K mg base (CXR P w) 4 f fd ["self", "a", "walk"] (spKin e) := by
  refine F.okX sc_kin (fun vs H Q E h => ?_) (fun cdv A outer s H vs Q E hr hx h => ?_)
  · obtain ⟨p, fp, bk, i, l, rfl, _⟩ := h; rfl
  · obtain ⟨p, fp, bk, i, l, rfl, BA, si, l1000, sg, k, kP, kW⟩ := h
    have nd := sc_kin.nd
    obtain ⟨dx, a, b, c, d, qs, hfp, e1, e2, e3, e4, e5, e6, e7⟩ := id BA.ob
    have ok := BA.ok
    have n60 := ok.n60
    have big : 4000 ≤ sizeLine := by decide
    refine ⟨_, (pss_cons (ps_expr (pe_methX (pv 0) T.cl_Book D_check_person hx.s hr (pa_cons (pv 1) pa_nil)))
      (pss_cons (ps_expr (pe_callX D_check_walk hx.s hr rfl (pa_cons (pv 2) pa_nil)))
      (pss_cons (ps_set (i := 3) nd rfl (Or.inl rfl) (pe_lst (pa_cons (pv 1) pa_nil)))
      (pss_cons (ps_for PassesOwn.leaving rfl (pi_str (pv 2)) (pg_name (i := 4) nd rfl (Or.inl rfl)) (pss_cons (ps_set (i := 5) nd rfl (Or.inl rfl) pe_dnewK)
      (pss_cons (ps_for PassesOwn.leaving rfl (pi_list (pv 3)) (pg_name (i := 6) nd rfl (Or.inl rfl)) (pss_one (ps_for PassesOwn.leaving rfl (pi_list (pe_methX (pv 0) T.cl_Book D_kin_by_letter hx.s hr (pa_cons (pv 6) (pa_cons (pv 4) pa_nil)))) (pg_name (i := 7) nd rfl (Or.inl rfl)) (pss_one (ps_dput (hu_of hr) (pv 5) (pv 7) pe_bl rfl)))))
      (pss_one (ps_set (i := 3) nd rfl (Or.inl rfl) (pe_callB (call_sortedD rfl) rfl T.z_sorted bt_sorted (pa_cons (pv 5) pa_nil)))))))
      (pss_one (ps_ret (pv 3))))))), ?_⟩
    refine ⟨_, rfl, p, dx, _, rfl, e1, bno .., _, rfl, p, fp, bk, i, rfl, BA, si, fun hi v hv => ?_, kP⟩
    refine ⟨_, rfl, l, rfl, l1000, sg, fun hw => ?_, kW hi⟩
    have k := k hi hw
    obtain ⟨i', rfl, li, _⟩ := toN hi
    rw [Int.toNat_natCast] at k
    refine ⟨_, rfl, one_fits, fun R0 hR0 => ?_⟩
    walk_at "ns"
    refine ⟨_, rfl, _, rfl, for_str (l := l) (fun j σ H2 => ∃ R xs o4 o5 o6 o7, σ = [some (.ref p), some (nat i'), some (.str (txt l)), some (.ref R), o4, o5, o6, o7] ∧ Same H H2 ∧ H R = none ∧ H2 R = some (.lst (natL xs)) ∧ xs.Pairwise (· < ·) ∧ (∀ b, b ∈ xs ↔ reachP bk (fun b => b = i') (l.take j) b) ∧ ∀ b ∈ xs, b < bk.ps.length) ?_ ?_ ?_⟩
    · exact ⟨R0, [i'], none, none, none, none, rfl, same_new hR0, hR0, upd_same, List.pairwise_singleton _ _, fun b => List.mem_singleton, fun b hb => by rw [List.mem_singleton.mp hb]; exact li⟩
    · rintro j x σ H2 hj ⟨R, xs, o4, o5, o6, o7, rfl, s2, hR, gR, pw, mem, lt⟩
      have hx : IsL x := hw.2 x (List.mem_of_getElem? hj)
      walk_at "ns"
      intro Dd hDd
      have s3 := same_new (o := .dK []) hDd
      have gd : (upd H2 Dd (.dK [])) Dd = some (.dK (kvOf [])) := upd_same
      generalize upd H2 Dd (.dK []) = H3 at s3 gd
      walk_at "ns"
      refine ⟨_, rfl, R, rfl, ⟨_, SqL.of (s3 _ _ gR)⟩, for_list (xs := natL xs) (fun m σ G => ∃ ks o6 o7, σ = [some (.ref p), some (nat i'), some (.str (txt l)), some (.ref R), some (sgn x), some (.ref Dd), o6, o7] ∧ Same H2 G ∧ G Dd = some (.dK (kvOf ks)) ∧ ks.Nodup ∧ ∀ b, b ∈ ks ↔ ∃ a ∈ xs.take m, b ∈ nearL bk a x) ⟨[], _, _, rfl, s3, gd, List.nodup_nil, fun b => ⟨fun z => (by cases z), fun ⟨a, z, _⟩ => (by simp at z)⟩⟩ (fun m σ G _ ⟨_, _, _, _, sG, _⟩ => SqL.of (sG _ _ gR)) ?_ ?_⟩
      · rintro m v σ G hm ⟨ks, o6', o7', rfl, sG, gG, nk, mk⟩
        obtain ⟨y, hy, rfl⟩ : ∃ y, xs[m]? = some y ∧ v = nat y := by
          unfold natL at hm
          rw [List.getElem?_map] at hm
          obtain ⟨y, hy, rfl⟩ := Option.map_eq_some_iff.mp hm
          exact ⟨y, hy, rfl⟩
        have ly := lt y (List.mem_of_getElem? hy)
        have s2G := s2.trans sG
        walk_at "ns"
        refine ⟨_, rfl, p, dx, _, rfl, s2G _ _ e1, bno .., _, rfl, _, rfl, p, fp, bk, y, x, rfl, BA.same s2G, ly, hx, fun D G1 sG1 g1 => ?_⟩
        refine ⟨D, rfl, ⟨_, SqL.of g1⟩, for_list (xs := natL (nearL bk y x)) (fun q σ G' => ∃ ks' o7, σ = [some (.ref p), some (nat i'), some (.str (txt l)), some (.ref R), some (sgn x), some (.ref Dd), some (nat y), o7] ∧ Same H2 G' ∧ G' D = some (.lst (natL (nearL bk y x))) ∧ G' Dd = some (.dK (kvOf ks')) ∧ ks'.Nodup ∧ ∀ b, b ∈ ks' ↔ b ∈ ks ∨ b ∈ (nearL bk y x).take q) ⟨ks, _, rfl, sG.trans sG1, g1, sG1 _ _ gG, nk, fun b => ⟨.inl, fun z => z.elim id fun z => by simp at z⟩⟩ (fun q σ G' _ ⟨_, _, _, _, g, _⟩ => SqL.of g) ?_ ?_⟩
        · rintro q v σ G' hq ⟨ks', o7'', rfl, sG', gD', gG', nk', mk'⟩
          obtain ⟨t, ht, rfl⟩ : ∃ t, (nearL bk y x)[q]? = some t ∧ v = nat t := by
            unfold natL at hq
            rw [List.getElem?_map] at hq
            obtain ⟨t, ht, rfl⟩ := Option.map_eq_some_iff.mp hq
            exact ⟨t, ht, rfl⟩
          have kl : ks'.length ≤ 60 := Nat.le_trans (nodup_len _ _ nk' fun b hb => by
            rcases (mk' b).mp hb with z | z
            · obtain ⟨a', _, z'⟩ := (mk b).mp z
              exact near_lt ok z'
            · exact near_lt ok (List.mem_of_mem_take z)) n60
          have nDd : D ≠ Dd := fun z => by rw [z, gG'] at gD'; cases gD'
          walk_at "ns"
          refine ⟨_, rfl, _, rfl, Dd, _, rfl, DPut.k (k := Sum.inl (t : Int)) gG' (by unfold kvOf; rw [List.length_map]; omega), ?_⟩
          rw [putK_kv]
          refine ⟨_, _, rfl, same_upd sG' hDd, by rw [upd_ne nDd]; exact gD', upd_same, ?_, fun b => ?_⟩
          · by_cases z : t ∈ ks'
            · rw [if_pos z]; exact nk'
            · rw [if_neg z, List.nodup_append]
              exact ⟨nk', List.nodup_cons.mpr ⟨fun y => (List.not_mem_nil y), List.nodup_nil⟩, fun a ha b hb e => z (by rw [← List.mem_singleton.mp hb, ← e]; exact ha)⟩
          · have tk : b ∈ (nearL bk y x).take (q + 1) ↔ b ∈ (nearL bk y x).take q ∨ b = t := by
              rw [List.take_add_one, ht, List.mem_append]
              simp
            rw [tk]
            by_cases z : t ∈ ks'
            · rw [if_pos z, mk' b]
              constructor
              · rintro (u | u)
                · exact .inl u
                · exact .inr (.inl u)
              · rintro (u | u | u)
                · exact .inl u
                · exact .inr u
                · subst u; exact (mk' b).mp z
            · rw [if_neg z, List.mem_append, mk' b, List.mem_singleton]
              constructor
              · rintro ((u | u) | u)
                · exact .inl u
                · exact .inr (.inl u)
                · exact .inr (.inr u)
              · rintro (u | u | u)
                · exact .inl (.inl u)
                · exact .inl (.inr u)
                · exact .inr u
        · rintro σ G' ⟨ks', o7'', rfl, sG', gD', gG', nk', mk'⟩
          rw [natL_len, List.take_length] at mk'
          refine ⟨ks', _, _, rfl, sG', gG', nk', fun b => ?_⟩
          rw [mk' b, mk b, List.take_add_one, hy]
          constructor
          · rintro (⟨a', z1, z2⟩ | z)
            · exact ⟨a', List.mem_append_left _ z1, z2⟩
            · exact ⟨y, List.mem_append_right _ (by simp), z⟩
          · rintro ⟨a', z1, z2⟩
            rcases List.mem_append.mp z1 with u | u
            · exact .inl ⟨a', u, z2⟩
            · have : a' = y := by simpa using u
              subst this; exact .inr z2
      · rintro σ G ⟨ks, o6', o7', rfl, sG, gG, nk, mk⟩
        rw [natL_len, List.take_length] at mk
        have klt : ∀ b ∈ ks, b < bk.ps.length := fun b hb => by
          obtain ⟨a', _, z'⟩ := (mk b).mp hb
          exact near_lt ok z'
        have kl : ks.length ≤ 60 := Nat.le_trans (nodup_len _ _ nk klt) n60
        walk_at "ns"
        refine ⟨_, rfl, Dd, kvOf ks, _, rfl, gG, kvOf_keysN ks, by rw [List.length_map]; omega, fun R1 ns hR1 hp hs => ?_⟩
        obtain ⟨r, er, pr, sr⟩ := toNats hp hs
        rw [er]
        have s2G := s2.trans sG
        refine ⟨R1, r, _, _, _, _, rfl, s2G.trans (same_new hR1), s2G.free hR1, upd_same, ?_, fun b => ?_, fun b hb => klt b (pr.mem_iff.mp hb)⟩
        · have rn : r.Nodup := pr.nodup_iff.mpr nk
          exact (sr.and rn).imp fun {u v} z => Nat.lt_of_le_of_ne z.1 z.2
        · rw [pr.mem_iff, mk b, List.take_add_one, hj]
          rw [show (some x).toList = [x] from rfl, reachP_snoc]
          constructor
          · rintro ⟨a', z1, z2⟩
            exact ⟨a', (mem a').mp z1, z2⟩
          · rintro ⟨a', z1, z2⟩
            exact ⟨a', (mem a').mpr z1, z2⟩
    · rintro σ H2 ⟨R, xs, o4, o5, o6, o7, rfl, s2, hR, gR, pw, mem, lt⟩
      rw [List.take_length] at mem
      exact ⟨_, rfl, k xs R H2 pw mem lt hR s2 gR⟩
end


--CUT
/-! books built by a table -/
def kdAt (ks : List Nat) (i : Nat) : Nat := ks[i]?.getD 0
theorem kd_get {ks : List Nat} {i : Nat} (h : i < ks.length) : ks[i]? = some (kdAt ks i) := by unfold kdAt; rw [List.getElem?_eq_getElem h]; rfl
theorem kd_at {ks : List Nat} {i : Nat} (h : i < ks.length) : atI (natL ks) (i : Int) = some (nat (kdAt ks i)) := atI_nat (natL_get (kd_get h))
theorem kd_old {ks : List Nat} {i k : Nat} (h : i < ks.length) : kdAt (ks ++ [k]) i = kdAt ks i := by unfold kdAt; rw [List.getElem?_append_left h]
theorem kd_new {ks : List Nat} {k : Nat} : kdAt (ks ++ [k]) ks.length = k := by unfold kdAt; rw [List.getElem?_append_right (Nat.le_refl _), Nat.sub_self]; rfl
structure Fits (n : Nat) (w h : List Nat) (bk : Bk) (ks : List Nat) : Prop where
  len : ks.length = bk.ps.length
  lt : ∀ i, i < ks.length → kdAt ks i < n
  pr : ∀ q ∈ bk.prs, kdAt ks q.2 = fw w (kdAt ks q.1)
  ch : ∀ (i : Nat) x q, bk.ps[i]? = some x → x.2 = some q → kdAt ks i = fw h (kdAt ks q.1)
def FitC (n : Nat) (w h : List Nat) (ks : List Nat) (k : Nat) : Com → Prop
  | .come _ => k < n
  | .wed m f => kdAt ks f = fw w (kdAt ks m)
  | .born _ m f => kdAt ks f = fw w (kdAt ks m) ∧ k = fw h (kdAt ks m) ∧ k < n
def ksC (ks : List Nat) (k : Nat) : Com → List Nat
  | .come _ => ks ++ [k]
  | .wed _ _ => ks
  | .born _ _ _ => ks ++ [k]
theorem Fits.nil {n : Nat} {w h : List Nat} : Fits n w h ⟨[], []⟩ [] := ⟨rfl, fun i h => absurd h (Nat.not_lt_zero _), fun q hq => (by cases hq), fun i x q hx _ => (by cases hx)⟩
theorem Fits.add {n : Nat} {w h : List Nat} {bk : Bk} {ks : List Nat} (F : Fits n w h bk ks) (ok : BkOk bk) {x : Per} {k : Nat} (hk : k < n) (hx : ∀ q, x.2 = some q → q.1 < ks.length ∧ k = fw h (kdAt ks q.1)) : Fits n w h (bk.add x) (ks ++ [k]) := by
  have old : ∀ i, i < bk.ps.length → kdAt (ks ++ [k]) i = kdAt ks i := fun i hi => kd_old (by rw [F.len]; exact hi)
  refine ⟨by show _ = (bk.ps ++ [x]).length; rw [List.length_append, List.length_append, F.len]; rfl, fun i hi => ?_, fun q hq => ?_, fun i y q hy hq => ?_⟩
  · rw [List.length_append] at hi
    have h1 : [k].length = 1 := rfl
    by_cases c : i < ks.length
    · rw [kd_old c]; exact F.lt i c
    · have : i = ks.length := by omega
      subst this
      rw [kd_new]; exact hk
  · have := ok.pr q hq
    rw [old _ this.1.lt, old _ this.2.lt]
    exact F.pr q hq
  · have hy' : (bk.ps ++ [x])[i]? = some y := hy
    by_cases c : i < bk.ps.length
    · rw [List.getElem?_append_left c] at hy'
      have hp := ok.par y (List.mem_of_getElem? hy') q hq
      rw [old i c, old _ hp.1.lt]
      exact F.ch i y q hy' hq
    · have hl := (List.getElem?_eq_some_iff.mp hy').1
      rw [List.length_append] at hl
      have h1 : [x].length = 1 := rfl
      have : i = bk.ps.length := by omega
      subst this
      rw [List.getElem?_append_right (Nat.le_refl _), Nat.sub_self] at hy'
      cases Option.some.inj hy'
      obtain ⟨l1, e1⟩ := hx q hq
      rw [← F.len, kd_new, kd_old l1]
      exact e1
theorem Fits.pair {n : Nat} {w h : List Nat} {bk : Bk} {ks : List Nat} (F : Fits n w h bk ks) {q : Nat × Nat} (hq : kdAt ks q.2 = fw w (kdAt ks q.1)) : Fits n w h (bk.pair q) ks := by
  refine ⟨F.len, F.lt, fun r hr => ?_, F.ch⟩
  unfold Bk.pair at hr
  by_cases z : q ∈ bk.prs
  · rw [if_pos z] at hr; exact F.pr r hr
  · rw [if_neg z] at hr
    rcases List.mem_append.mp hr with y | y
    · exact F.pr r y
    · rw [List.mem_singleton.mp y]; exact hq
theorem Fits.go {n : Nat} {w h : List Nat} {bk : Bk} {ks : List Nat} (F : Fits n w h bk ks) (ok : BkOk bk) (l : bk.prs.length < 1000) {c : Com} {k : Nat} (okc : ComOk bk c) (fc : FitC n w h ks k c) : Fits n w h (doC bk c) (ksC ks k c) := by
  cases c with
  | come s => exact F.add ok fc fun q hq => (by cases hq)
  | wed m f => exact F.pair fc
  | born s m f =>
    refine (F.pair (q := (m, f)) fc.1).add (ok.paired l okc.1 okc.2) fc.2.2 fun q hq => ?_
    cases Option.some.inj hq
    exact ⟨by rw [F.len]; exact okc.1.lt, fc.2.1⟩
theorem doC_size (bk : Bk) (c : Com) : (doC bk c).ps.length ≤ bk.ps.length + 1 := by
  cases c with
  | come s => show (bk.ps ++ [_]).length ≤ _; rw [List.length_append]; exact Nat.le_refl _
  | wed m f => exact Nat.le_succ _
  | born s m f => show (bk.ps ++ [_]).length ≤ _; rw [List.length_append]; exact Nat.le_refl _
/-- what is not in av stays -/
def Kept (H H' : Hp) (av : List Addr) : Prop := ∀ c o, H c = some o → c ∉ av → H' c = some o
def Fresh (H : Hp) (av av' : List Addr) : Prop := ∀ c ∈ av', c ∈ av ∨ H c = none
theorem Kept.trans {H H1 H2 : Hp} {av av1 : List Addr} (k : Kept H H1 av) (f : Fresh H av av1) (k2 : Kept H1 H2 av1) : Kept H H2 av := fun c o hc hn => k2 c o (k c o hc hn) fun z => (f c z).elim hn fun y => by rw [y] at hc; cases hc
theorem Fresh.trans {H H1 : Hp} {av av1 av2 : List Addr} (k : Kept H H1 av) (f : Fresh H av av1) (f2 : Fresh H1 av1 av2) : Fresh H av av2 := fun c hc => by
  rcases f2 c hc with z | z
  · exact f c z
  · by_cases q : c ∈ av
    · exact .inl q
    · refine .inr ?_
      cases y : H c with
      | none => rfl
      | some o => rw [k c o y q] at z; cases z
theorem Kept.same {H H1 H2 : Hp} {av : List Addr} (k : Kept H H1 av) (s : Same H1 H2) : Kept H H2 av := fun c o hc hn => s _ _ (k c o hc hn)
def spFitComer : Sp := fun vs H Q _ => ∃ (LP LK D1 D2 : Addr) (ts : List Addr) (bk : Bk) (ks : List Nat) (n : Nat) (w h : List Nat) (z : Int), vs = [.ref LP, .ref LK, .ref D1, .ref D2, .int z] ∧ PeopleAt H LP ts bk.ps ∧ bk.ps.length ≤ 60 ∧ H LK = some (.lst (natL ks)) ∧ ks.length = bk.ps.length ∧ (∀ i, i < ks.length → kdAt ks i < n) ∧ H D1 = some (.lst (natL w)) ∧ H D2 = some (.lst (natL h)) ∧ IsTurn n w ∧ IsTurn n h ∧ 1 ≤ n ∧
  ∀ t c k H', H t = none → Same H H' → H' t = some (.tup (comT c ++ [nat k])) → ComOk bk c → FitC n w h ks k c → Q (.ref t) H'
def spFitBook (e : Ad) (K : PySem.W.Frag) : Sp := fun vs H Q _ => ∃ (b LP LR LK LT LC D1 D2 : Addr) (fp ts us : List Addr) (bk : Bk) (ks : List Nat) (n : Nat) (w h : List Nat) (cs : List Int), vs = [.ref b, .ref LP, .ref LR, .ref LK, .ref LT, .ref LC] ∧
  Acc e.Book H b LP LR fp ts us bk ∧ H LK = some (.lst (natL ks)) ∧ Fits n w h bk ks ∧ H LT = some (.lst [.ref D1, .ref D2]) ∧ H D1 = some (.lst (natL w)) ∧ H D2 = some (.lst (natL h)) ∧ IsTurn n w ∧ IsTurn n h ∧ 1 ≤ n ∧ ScrAt K H LC (cs.map V.int) (LP :: LR :: LK :: fp) ∧
  (LK ∉ LP :: LR :: fp) ∧ (LT ∉ LP :: LR :: LK :: fp) ∧ (D1 ∉ LP :: LR :: LK :: fp) ∧ (D2 ∉ LP :: LR :: LK :: fp) ∧ bk.prs.length + cs.length ≤ 900 ∧ bk.ps.length ≤ 58 ∧
  ∀ fp' ts' us' bk' ks' H', Acc e.Book H' b LP LR fp' ts' us' bk' → H' LK = some (.lst (natL ks')) → LK ∉ LP :: LR :: fp' → Fits n w h bk' ks' → Kept H H' (LP :: LR :: LK :: fp) → Fresh H (LP :: LR :: LK :: fp) (LP :: LR :: LK :: fp') → bk'.ps.length ≤ 58 → bk'.prs.length ≤ 900 → Q (.bl true) H'
def womenOf (bk : Bk) (ks : List Nat) (k : Nat) : List Nat := (List.range bk.ps.length).filter fun i => ofSex bk false i && decide (kdAt ks i = k)
section
variable {P : Program} {w : World} {K : PySem.W.Frag} {mg : Str → Option Value} {base : Heap} {CX : CXT} {C : Addr} {e : Ad}
theorem sc_fitcomer : FnScope ["people", "kinds", "wives", "heirs", "cell", "sex", "men", "man", "bride", "women", "woman"] ["people", "kinds", "wives", "heirs", "cell"] (defScope (top 39)) := ⟨rfl, rfl, rfl, by decide +kernel, rfl, by decide +kernel, by decide +kernel⟩
theorem ok_fitcomer {f : Addr} {fd : FuncData} (F : Fun K "_law_fit_comer" "_law_fit_comer" (top 39) f fd) (T : Txt K mg C e) : FnOk P w K mg base CX 1 f fd ["people", "kinds", "wives", "heirs", "cell"] spFitComer := by
  refine F.okN sc_fitcomer (fun vs H Q E h => ?_) (fun cdv A outer s H vs Q E hr h => ?_)
  · obtain ⟨LP, LK, D1, D2, ts, bk, ks, n, w, h, z, rfl, _⟩ := h; rfl
  · obtain ⟨LP, LK, D1, D2, ts, bk, ks, n, w', h', z, rfl, pe, n60, hk, kl, klt, hw, hh, tw, th, n1, k⟩ := h
    have nd := sc_fitcomer.nd
    refine ⟨_, (pss_cons (ps_set (i := 5) nd rfl (Or.inl rfl) (pe_ix ix_list (pe_lst (pa_cons pe_str (pa_cons pe_str pa_nil))) (pe_op op_mod (pv 4) pe_int) (fun _ _ => rfl)))
      (pss_cons (ps_setCompF (i := 6) nd rfl (Or.inl rfl) (fv := [("people", 0)]) ⟨rfl, by decide +kernel, rfl, by decide +kernel, rfl, by decide +kernel, ⟨⟨rfl, Or.inl rfl, Or.inl rfl, rfl⟩, trivial⟩, rfl, rfl⟩ rfl (pi_range1 rfl T.z_range (pa_cons (pe_callB call_len_seq rfl T.z_len PySem.boot_len (pa_cons (pv 0) pa_nil)) pa_nil)) (fun _ _ _ => (pv 0)) (fun _ _ _ => (pt_cmpR op_eq (pe_ix ix_tup (pe_ix ix_list (pv 1) (pv 0) (fun _ _ => rfl)) pe_int (fun _ _ => rfl)) pe_str (nomark _))))
      (pss_cons (ps_if (PW.pt (pw_or (pt_cmpR op_eq (pe_op op_mod (pe_op op_fdiv (pv 4) pe_int) pe_int) pe_int (nomark _)) (pw_or1 (pt_cmpR op_eq (pe_callB call_len_seq rfl T.z_len PySem.boot_len (pa_cons (pv 6) pa_nil)) pe_int (nomark _))))) (pss_one (ps_ret (pe_tup (pa_cons (pv 5) (pa_cons pe_non (pa_cons pe_non (pa_cons (pe_op op_mod (pe_op op_fdiv (pv 4) pe_int) (pe_callB call_len_seq rfl T.z_len PySem.boot_len (pa_cons (pv 2) pa_nil))) pa_nil))))))) pss_nil)
      (pss_cons (ps_set (i := 7) nd rfl (Or.inl rfl) (pe_ix ix_list (pv 6) (pe_op op_mod (pe_op op_fdiv (pv 4) pe_int) (pe_callB call_len_seq rfl T.z_len PySem.boot_len (pa_cons (pv 6) pa_nil))) (fun _ _ => rfl)))
      (pss_cons (ps_set (i := 8) nd rfl (Or.inr rfl) (pe_ix ix_list (pv 2) (pe_ix ix_list (pv 1) (pv 7) (fun _ _ => rfl)) (fun _ _ => rfl)))
      (pss_cons (ps_setCompF (i := 9) nd rfl (Or.inl rfl) (fv := [("bride", 8), ("kinds", 1), ("people", 0)]) ⟨rfl, by decide +kernel, rfl, by decide +kernel, rfl, by decide +kernel, ⟨⟨rfl, Or.inl rfl, Or.inl rfl, rfl⟩, ⟨⟨rfl, Or.inl rfl, Or.inl rfl, rfl⟩, ⟨⟨rfl, Or.inl rfl, Or.inl rfl, rfl⟩, trivial⟩⟩⟩, rfl, rfl⟩ rfl (pi_range1 rfl T.z_range (pa_cons (pe_callB call_len_seq rfl T.z_len PySem.boot_len (pa_cons (pv 0) pa_nil)) pa_nil)) (fun _ _ _ => (pv 0)) (fun _ _ _ => (PW.pt (pw_and (pt_cmpR op_eq (pe_ix ix_tup (pe_ix ix_list (pv 3) (pv 0) (fun _ _ => rfl)) pe_int (fun _ _ => rfl)) pe_str (nomark _)) (pw_and1 (pt_cmpR op_eq (pe_ix ix_list (pv 2) (pv 0) (fun _ _ => rfl)) (pv 1) (nomark _)))))))
      (pss_cons (ps_if (pt_cmpR op_eq (pe_callB call_len_seq rfl T.z_len PySem.boot_len (pa_cons (pv 9) pa_nil)) pe_int (nomark _)) (pss_one (ps_ret (pe_tup (pa_cons pe_str (pa_cons pe_non (pa_cons pe_non (pa_cons (pv 8) pa_nil))))))) pss_nil)
      (pss_cons (ps_set (i := 10) nd rfl (Or.inl rfl) (pe_ix ix_list (pv 9) (pe_op op_mod (pe_op op_fdiv (pv 4) pe_int) (pe_callB call_len_seq rfl T.z_len PySem.boot_len (pa_cons (pv 9) pa_nil))) (fun _ _ => rfl)))
      (pss_cons (ps_if (pt_cmpR op_eq (pe_op op_mod (pe_op op_fdiv (pv 4) pe_int) pe_int) pe_int (nomark _)) (pss_one (ps_ret (pe_tup (pa_cons pe_str (pa_cons (pv 7) (pa_cons (pv 10) (pa_cons pe_int pa_nil))))))) pss_nil)
      (pss_one (ps_ret (pe_tup (pa_cons (pv 5) (pa_cons (pv 7) (pa_cons (pv 10) (pa_cons (pe_ix ix_list (pv 3) (pe_ix ix_list (pv 1) (pv 7) (fun _ _ => rfl)) (fun _ _ => rfl)) pa_nil)))))))))))))))), ?_⟩
    have tl := pe.len
    obtain ⟨sx, hsx⟩ := pick_sex (z % 2) (Int.emod_nonneg _ (by decide)) (Int.emod_lt_of_pos _ (by decide))
    -- sex
    refine ⟨(show 2 ≤ sizeLine by decide), fun L hL => ⟨_, rfl, _, _, rfl, rfl, (show (0 : Int) < 2 by decide), L, _, _, _, rfl, rfl, SqL.of upd_same, hsx, ?_⟩⟩
    have s1 := same_new (o := .lst [V.str "man", V.str "woman"]) hL
    generalize upd H L _ = H1 at s1
    walk_at "ns"
    -- men
    refine ⟨_, rfl, LP, _, rfl, .inl (SqL.of (s1 _ _ pe.l)), _, rfl, by rw [List.length_map, tl]; omega, by rw [List.length_map, tl]; omega, ?_⟩
    rw [List.length_map, tl, Int.toNat_natCast]
    refine comp_rangeF0 (ofSex bk true) nat (Nat.le_trans n60 (by decide)) (fun i H' R hi sm kk _ _ _ => ?_) (fun i H' R hi pi sm kk _ _ _ => ⟨_, rfl, kk _ (Same.refl _)⟩) fun M1 H2 hM1 s2 hl2 => ?_
    · obtain ⟨t, x, _, hx, h1, h2⟩ := men_at (pe.same (s1.trans sm)) hi
      refine ⟨_, rfl, _, rfl, LP, _, _, _, rfl, rfl, SqL.of ((s1.trans sm) _ _ pe.l), h1, t, _, 0, _, rfl, rfl, SqT.of h2, rfl, rfl, _, rfl, ?_⟩
      have : decide (sexV x.1 = V.str "man") = ofSex bk true i := by rw [sex_man, ofSex_eq hx]; exact eq_true_b _
      show R (decide (sexV x.1 = V.str "man")) H'
      rw [this]; exact kk _ (Same.refl _)
    have s12 := s1.trans s2
    have g2 : H2 M1 = some (.lst (natL (sexL bk true))) := hl2
    walk_at "ns"
    -- a stranger
    obtain ⟨kq, hkq, lkq⟩ := emod_nat (z / 10) (show 0 < n by omega)
    have wl : (natL w').length = n := by rw [natL_len, tw.len]
    have str : ∀ H3 t, Same H2 H3 → H3 t = none → Q (.ref t) (upd H3 t (.tup [sexV sx, .non, .non, V.int (z / 10 % ((natL w').length : Nat))])) := fun H3 t s3 ht => by
      refine k t (.come sx) kq _ ((s12.trans s3).free ht) ((s12.trans s3).trans (same_new ht)) ?_ trivial lkq
      rw [upd_same, wl, hkq]; rfl
    have pw : (0 : Int) < ((natL w').length : Nat) := by rw [wl]; omega
    refine ⟨_, rfl, _, _, rfl, rfl, ⟨by decide, by decide⟩, _, _, rfl, rfl, (show (0 : Int) < 5 by decide), rfl, _, rfl, iteD2 (fun _ => iteT ?_) (fun _ => ?_)⟩
    · exact ⟨_, rfl, _, rfl, _, _, rfl, rfl, ⟨by decide, by decide⟩, _, rfl, D1, _, rfl, .inl (SqL.of (s12 _ _ hw)), _, _, rfl, rfl, pw, (show 4 ≤ sizeLine by decide), fun t ht => str _ t (Same.refl _) ht⟩
    refine ⟨_, rfl, M1, _, rfl, .inl (SqL.of g2), rfl, _, rfl, iteD2 (fun _ => ?_) (fun z1 => ?_)⟩
    · exact ⟨_, rfl, _, rfl, _, _, rfl, rfl, ⟨by decide, by decide⟩, _, rfl, D1, _, rfl, .inl (SqL.of (s12 _ _ hw)), _, _, rfl, rfl, pw, (show 4 ≤ sizeLine by decide), fun t ht => str _ t (Same.refl _) ht⟩
    have l1 : 0 < (sexL bk true).length := by
      rcases Nat.eq_zero_or_pos (sexL bk true).length with q | q
      · exact absurd (by rw [natL_len, q]; rfl) z1
      · exact q
    obtain ⟨m, hm, am⟩ := pick_of (sexL bk true) (z / 10) l1
    have sm := mem_sexL.mp hm
    have p1 : (0 : Int) < ((natL (sexL bk true)).length : Nat) := by rw [natL_len]; omega
    refine ⟨_, rfl, _, rfl, _, _, rfl, rfl, ⟨by decide, by decide⟩, _, rfl, M1, _, rfl, .inl (SqL.of g2), _, _, rfl, rfl, p1, M1, _, _, _, rfl, rfl, SqL.of g2, am, ?_⟩
    walk_at "ns"
    -- bride
    have lm : m < ks.length := by rw [kl]; exact sm.lt
    have hkm := klt m lm
    refine ⟨_, rfl, _, rfl, _, rfl, LK, _, _, _, rfl, rfl, SqL.of (s12 _ _ hk), kd_at lm, D1, _, _, _, rfl, rfl, SqL.of (s12 _ _ hw), atN tw hkm, ?_⟩
    walk_at "ns"
    -- women
    refine ⟨_, rfl, LP, _, rfl, .inl (SqL.of (s12 _ _ pe.l)), _, rfl, by rw [List.length_map, tl]; omega, by rw [List.length_map, tl]; omega, ?_⟩
    rw [List.length_map, tl, Int.toNat_natCast]
    refine comp_rangeF0 (fun i => ofSex bk false i && decide (kdAt ks i = fw w' (kdAt ks m))) nat (Nat.le_trans n60 (by decide)) (fun i H' R hi sm' kk _ _ _ => ?_) (fun i H' R hi pi sm' kk _ _ _ => ⟨_, rfl, kk _ (Same.refl _)⟩) fun M2 H3 hM2 s3 hl3 => ?_
    · have s1m := s12.trans sm'
      obtain ⟨t, x, _, hx, h1, h2⟩ := men_at (pe.same s1m) hi
      refine ⟨_, rfl, _, rfl, LP, _, _, _, rfl, rfl, SqL.of (s1m _ _ pe.l), h1, t, _, 0, _, rfl, rfl, SqT.of h2, rfl, rfl, _, rfl, ?_⟩
      have e1 : decide (sexV x.1 = V.str "woman") = ofSex bk false i := by rw [sex_woman, ofSex_eq hx]; exact eq_false_b _
      show if decide (sexV x.1 = V.str "woman") = true then _ else _
      rw [e1]
      cases c0 : ofSex bk false i
      · refine iteF ?_
        rw [c0, Bool.false_and] at kk
        exact kk _ (Same.refl _)
      · refine iteT ?_
        rw [c0, Bool.true_and] at kk
        refine ⟨_, rfl, _, rfl, LK, _, _, _, rfl, rfl, SqL.of (s1m _ _ hk), kd_at (by rw [kl]; exact hi), _, rfl, rfl, _, rfl, ?_⟩
        have e2 : decide (nat (kdAt ks i) = nat (fw w' (kdAt ks m))) = decide (kdAt ks i = fw w' (kdAt ks m)) := by
          by_cases q : kdAt ks i = fw w' (kdAt ks m)
          · rw [decide_eq_true q, decide_eq_true (by rw [q])]
          · rw [decide_eq_false q, decide_eq_false (fun z => q (by have := V.int.inj z; omega))]
        show R (decide (nat (kdAt ks i) = nat (fw w' (kdAt ks m)))) H'
        rw [e2]; exact kk _ (Same.refl _)
    have s13 := s12.trans s3
    have g3 : H3 M2 = some (.lst (natL (womenOf bk ks (fw w' (kdAt ks m))))) := hl3
    have memw : ∀ i, i ∈ womenOf bk ks (fw w' (kdAt ks m)) → IsS bk i false ∧ kdAt ks i = fw w' (kdAt ks m) := fun i hi => by
      obtain ⟨a1, a2⟩ := List.mem_filter.mp hi
      rw [Bool.and_eq_true] at a2
      exact ⟨mem_sexL.mp (List.mem_filter.mpr ⟨a1, a2.1⟩), of_decide_eq_true a2.2⟩
    walk_at "ns"
    refine ⟨_, rfl, M2, _, rfl, .inl (SqL.of g3), rfl, _, rfl, iteD2 (fun _ => ?_) (fun z2 => ?_)⟩
    · refine ⟨_, rfl, (show 4 ≤ sizeLine by decide), fun t ht => ?_⟩
      exact k t (.come false) (fw w' (kdAt ks m)) _ (s13.free ht) (s13.trans (same_new ht)) upd_same trivial (fw_lt tw hkm)
    have l2 : 0 < (womenOf bk ks (fw w' (kdAt ks m))).length := by
      rcases Nat.eq_zero_or_pos (womenOf bk ks (fw w' (kdAt ks m))).length with q | q
      · exact absurd (by rw [natL_len, q]; rfl) z2
      · exact q
    obtain ⟨f', hf, af⟩ := pick_of _ (z / 97) l2
    obtain ⟨sf, kf⟩ := memw f' hf
    have p2 : (0 : Int) < ((natL (womenOf bk ks (fw w' (kdAt ks m)))).length : Nat) := by rw [natL_len]; omega
    refine ⟨_, rfl, _, rfl, _, _, rfl, rfl, ⟨by decide, by decide⟩, _, rfl, M2, _, rfl, .inl (SqL.of g3), _, _, rfl, rfl, p2, M2, _, _, _, rfl, rfl, SqL.of g3, af, ?_⟩
    walk_at "ns"
    refine ⟨_, rfl, _, _, rfl, rfl, ⟨by decide, by decide⟩, _, _, rfl, rfl, (show (0 : Int) < 5 by decide), rfl, _, rfl, iteD2 (fun _ => ?_) (fun _ => ?_)⟩
    · refine ⟨_, rfl, _, rfl, (show 4 ≤ sizeLine by decide), fun t ht => ?_⟩
      exact k t (.wed m f') 0 _ (s13.free ht) (s13.trans (same_new ht)) upd_same ⟨sm, sf⟩ kf
    · refine ⟨_, rfl, _, rfl, _, rfl, _, rfl, _, rfl, _, rfl, LK, _, _, _, rfl, rfl, SqL.of (s13 _ _ hk), kd_at lm, D2, _, _, _, rfl, rfl, SqL.of (s13 _ _ hh), atN th hkm, (show 4 ≤ sizeLine by decide), fun t ht => ?_⟩
      exact k t (.born sx m f') (fw h' (kdAt ks m)) _ (s13.free ht) (s13.trans (same_new ht)) upd_same ⟨sm, sf⟩ ⟨kf, rfl, fw_lt th hkm⟩
end


--CUT
/-! whoever is reached is where the walk leads -/
theorem Acc.apart {B : Addr} {H : Hp} {b LP LR LK : Addr} {fp ts us : List Addr} {bk : Bk} (h : Acc B H b LP LR fp ts us bk) (nK : LK ∉ LP :: LR :: fp) {xs : List V} (hK : H LK = some (.lst xs)) {H' : Hp} (o1 : ∀ r o, H r = some o → r ≠ LK → H' r = some o) : Acc B H' b LP LR fp ts us bk := by
  simp only [List.mem_cons, not_or] at nK
  have tn : ∀ r ys, H r = some (.tup ys) → H' r = some (.tup ys) := fun r ys hr => o1 r _ hr fun z => by rw [z, hK] at hr; cases hr
  refine ⟨h.bo.keep fun c o hc hm => o1 c o hc fun z => ?_, ⟨o1 _ _ h.pe.l (Ne.symm nK.1), h.pe.t.keep fun p xs _ hp => tn p xs hp⟩, ⟨o1 _ _ h.pa.l (Ne.symm nK.2.1), h.pa.t.keep fun p xs _ hp => tn p xs hp⟩, h.nP, h.nR, h.ne⟩
  rcases List.mem_cons.mp hm with y | y
  · exact h.bo.pne hK (y.symm.trans z)
  · exact nK.2.2 (z ▸ y)
section
variable {P : Program} {w : World} {K : PySem.W.Frag} {mg : Str → Option Value} {base : Heap} {CX : CXT} {C : Addr} {e : Ad}
theorem sc_fitbook : FnScope ["book", "people", "pairs", "kinds", "turns", "cells", "cell", "comer"] ["book", "people", "pairs", "kinds", "turns", "cells"] (defScope (top 40)) := ⟨rfl, rfl, rfl, by decide +kernel, rfl, by decide +kernel, by decide +kernel⟩
theorem cut3 (c : Com) (k : Nat) : cutV (comT c ++ [nat k]) none (some 3) = comT c := by cases c <;> rfl
theorem ok_fitbook {f : Addr} {fd : FuncData} (F : Fun K "_law_fit_book" "_law_fit_book" (top 40) f fd) (T : Txt K mg C e) (hE : NoE (CXR P w)) (D__law_fit_comer : Def P w K mg base (CXR P w) "_law_fit_comer" 1 ["people", "kinds", "wives", "heirs", "cell"] spFitComer) (D__law_put : Def P w K mg base (CXR P w) "_law_put" 4 ["book", "people", "pairs", "comer"] (spPut e)) : FnOk P w K mg base (CXR P w) 5 f fd ["book", "people", "pairs", "kinds", "turns", "cells"] (spFitBook e K) := by
  refine F.okN sc_fitbook (fun vs H Q E h => ?_) (fun cdv A outer s H vs Q E hr h => ?_)
  · obtain ⟨b, LP, LR, LK, LT, LC, D1, D2, fp, ts, us, bk, ks, n, w, h, cs, rfl, _⟩ := h; rfl
  · obtain ⟨b, LP, LR, LK, LT, LC, D1, D2, fp, ts, us, bk, ks, n, w', h', cs, rfl, ac0, gK0, F0, gT0, g10, g20, tw, th, n1, sc0, nK0, nT0, n10, n20, l900, l58, k⟩ := h
    have nd := sc_fitbook.nd
    have big : 4000 ≤ sizeLine := by decide
    refine ⟨_, (pss_cons (ps_for PassesOwn.never rfl (pi_list (pv 5)) (pg_name (i := 6) nd rfl (Or.inl rfl)) (pss_cons (ps_set (i := 7) nd rfl (Or.inl rfl) (pe_callD D__law_fit_comer hE hr rfl (pa_cons (pv 1) (pa_cons (pv 3) (pa_cons (pe_ix ix_list (pv 4) pe_int (fun _ _ => rfl)) (pa_cons (pe_ix ix_list (pv 4) pe_int (fun _ _ => rfl)) (pa_cons (pv 6) pa_nil)))))))
      (pss_one (ps_if (pt_cmpR op_lt (pe_callB call_len_seq rfl T.z_len PySem.boot_len (pa_cons (pv 1) pa_nil)) pe_int (nomark _)) (pss_cons (ps_join (ps_if (pt_cmpR op_ne (pe_ix ix_tup (pv 7) pe_int (fun _ _ => rfl)) pe_str (nomark _)) (pss_one (ps_expr (pe_bm PySem.F.plainAttrs_list PySem.F.slot_list_append PySem.F.type_list_append mt_append (pv 3) (pa_cons (pe_ix ix_tup (pv 7) pe_int (fun _ _ => rfl)) pa_nil)))) pss_nil))
      (pss_one (ps_if (pt_not (pt_val (pe_callD D__law_put hE hr rfl (pa_cons (pv 0) (pa_cons (pv 1) (pa_cons (pv 2) (pa_cons (pe_slice sl_tup (pv 7) po_none (po_some pe_int)) pa_nil))))))) (pss_one (ps_ret pe_bl)) pss_nil))) pss_nil))))
      (pss_one (ps_ret pe_bl))), ?_⟩
    refine ⟨_, rfl, LC, rfl, ⟨_, sc0.sq⟩, for_list (xs := cs.map V.int) (fun i σ G => (∃ o6 o7, σ = [some (.ref b), some (.ref LP), some (.ref LR), some (.ref LK), some (.ref LT), some (.ref LC), o6, o7]) ∧ ∃ fp1 ts1 us1 bk1 ks1, Acc e.Book G b LP LR fp1 ts1 us1 bk1 ∧ G LK = some (.lst (natL ks1)) ∧ LK ∉ LP :: LR :: fp1 ∧ Fits n w' h' bk1 ks1 ∧ Kept H G (LP :: LR :: LK :: fp) ∧ Fresh H (LP :: LR :: LK :: fp) (LP :: LR :: LK :: fp1) ∧ bk1.prs.length ≤ bk.prs.length + i ∧ bk1.ps.length ≤ 58) ⟨⟨none, none, rfl⟩, fp, ts, us, bk, ks, ac0, gK0, nK0, F0, fun c o hc _ => hc, fun c hc => .inl hc, Nat.le_refl _, l58⟩ (fun i σ G _ ⟨_, fp1, _, _, _, _, _, _, _, _, kp, fr, _⟩ => (sc0.go kp fr).sq) ?_ ?_⟩
    · rintro i v σ G hi ⟨⟨o6, o7, rfl⟩, fp1, ts1, us1, bk1, ks1, ac1, gK1, nK1, F1, kp1, fr1, pl1, m58⟩
      have li : i < cs.length := by have := (List.getElem?_eq_some_iff.mp hi).1; rw [List.length_map] at this; exact this
      obtain ⟨z, rfl⟩ : ∃ z : Int, v = .int z := by
        rw [List.getElem?_map] at hi
        obtain ⟨z, _, rfl⟩ := Option.map_eq_some_iff.mp hi
        exact ⟨z, rfl⟩
      have ok1 := ac1.bo.ok
      have tl := ac1.pe.len
      walk_at "ns"
      have gT := kp1 _ _ gT0 nT0
      refine ⟨_, rfl, _, rfl, _, rfl, LT, _, _, _, rfl, rfl, SqL.of gT, rfl, _, rfl, LT, _, _, _, rfl, rfl, SqL.of gT, rfl, _, rfl, LP, LK, D1, D2, ts1, bk1, ks1, n, w', h', z, rfl, ac1.pe, ok1.n60, gK1, F1.len, F1.lt, kp1 _ _ g10 n10, kp1 _ _ g20 n20, tw, th, n1, fun t c kq G1 ht s1 gt okc fc => ?_⟩
      have ac2 := ac1.same s1
      have gK2 := s1 _ _ gK1
      walk_at "ns"
      refine ⟨_, rfl, LP, _, rfl, .inl (SqL.of ac2.pe.l), _, _, rfl, rfl, _, rfl, ?_⟩
      rw [List.length_map, tl]
      refine iteD2 (fun lt => ?_) (fun _ => ⟨⟨_, _, rfl⟩, fp1, ts1, us1, bk1, ks1, ac2, gK2, nK1, F1, kp1.same s1, fr1, Nat.le_trans pl1 (Nat.add_le_add_left (Nat.le_succ i) _), m58⟩)
      refine ⟨fun σ' G' => σ' = [some (.ref b), some (.ref LP), some (.ref LR), some (.ref LK), some (.ref LT), some (.ref LC), some (.int z), some (.ref t)] ∧ G' LK = some (.lst (natL (ksC ks1 kq c))) ∧ ∀ r o, G1 r = some o → r ≠ LK → G' r = some o, ?_, ?_⟩
      · have kadd : ∀ sx v1 v2, G1 t = some (.tup [sexV sx, v1, v2, nat kq]) → ksC ks1 kq c = ks1 ++ [kq] → True := fun _ _ _ _ _ => trivial
        have len1 : (natL ks1).length + 1 ≤ sizeLine := by rw [natL_len, F1.len]; omega
        have app : (natL ks1 ++ [nat kq]) = natL (ks1 ++ [kq]) := by unfold natL; rw [List.map_append]; rfl
        cases c with
        | come sx =>
          refine ⟨_, rfl, t, _, 0, _, rfl, rfl, SqT.of gt, rfl, rfl, _, rfl, ?_⟩
          show if (!decide (sexV sx = V.str "wed")) = true then _ else _
          rw [decide_eq_false (sex_wed sx)]
          refine iteT ⟨_, rfl, .inl ⟨rfl, _, SqL.of gK2⟩, _, rfl, t, _, 3, _, rfl, rfl, SqT.of gt, rfl, LK, _, _, rfl, rfl, gK2, by rw [natL_len, F1.len]; omega, rfl, ?_, fun r o hr hn => by rw [upd_ne hn]; exact hr⟩
          rw [upd_same, app]; rfl
        | wed m f' =>
          refine ⟨_, rfl, t, _, 0, _, rfl, rfl, SqT.of gt, rfl, rfl, _, rfl, iteF ⟨rfl, gK2, fun r o hr _ => hr⟩⟩
        | born sx m f' =>
          refine ⟨_, rfl, t, _, 0, _, rfl, rfl, SqT.of gt, rfl, rfl, _, rfl, ?_⟩
          show if (!decide (sexV sx = V.str "wed")) = true then _ else _
          rw [decide_eq_false (sex_wed sx)]
          refine iteT ⟨_, rfl, .inl ⟨rfl, _, SqL.of gK2⟩, _, rfl, t, _, 3, _, rfl, rfl, SqT.of gt, rfl, LK, _, _, rfl, rfl, gK2, by rw [natL_len, F1.len]; omega, rfl, ?_, fun r o hr hn => by rw [upd_ne hn]; exact hr⟩
          rw [upd_same, app]; rfl
      rintro σ' G2 ⟨rfl, gK3, o2⟩
      have ac3 := ac2.apart nK1 gK2 o2
      have gt2 := o2 _ _ gt fun q => by rw [q, gK2] at gt; cases gt
      have l4 : (comT c ++ [nat kq]).length = 4 := by cases c <;> rfl
      refine ⟨_, rfl, _, rfl, _, rfl, _, rfl, _, rfl, t, _, rfl, SqT.of gt2, ?_, fun t2 ht2 => ?_⟩
      · rw [l4]
        intro q
        exact absurd q.2 (by decide)
      rw [cut3]
      have s3 := same_new (o := .tup (comT c)) ht2
      have g3 : (upd G2 t2 (.tup (comT c))) t2 = some (.tup (comT c)) := upd_same
      generalize upd G2 t2 (.tup (comT c)) = G3 at s3 g3
      refine ⟨b, LP, LR, t2, fp1, ts1, us1, bk1, c, rfl, ac3.same s3, g3, okc, by omega, by omega, fun fp4 ts4 us4 G4 ac4 kp4 fr4 => ⟨_, rfl, iteF ?_⟩⟩
      have gK4 := kp4 _ _ (s3 _ _ gK3) nK1
      have nK4 : LK ∉ LP :: LR :: fp4 := fun q => by
        simp only [List.mem_cons, not_or] at q nK1
        rcases q with q | q | q
        · exact nK1.1 q
        · exact nK1.2.1 q
        · rcases fr4 _ q with y | y
          · exact nK1.2.2 y
          · rw [s3 _ _ gK3] at y; cases y
      have kp14 : Kept G G4 (LP :: LR :: LK :: fp1) := fun c' o hc hn => by
        simp only [List.mem_cons, not_or] at hn
        refine kp4 c' o (s3 _ _ (o2 _ _ (s1 _ _ hc) hn.2.2.1)) ?_
        simp only [List.mem_cons, not_or]
        exact ⟨hn.1, hn.2.1, hn.2.2.2⟩
      have fr14 : Fresh G (LP :: LR :: LK :: fp1) (LP :: LR :: LK :: fp4) := fun c' hc => by
        simp only [List.mem_cons] at hc ⊢
        rcases hc with q | q | q | q
        · exact .inl (.inl q)
        · exact .inl (.inr (.inl q))
        · exact .inl (.inr (.inr (.inl q)))
        · rcases fr4 _ q with y | y
          · exact .inl (.inr (.inr (.inr y)))
          · by_cases ck : c' = LK
            · exact .inl (.inr (.inr (.inl ck)))
            · refine .inr ?_
              cases y' : G c' with
              | none => rfl
              | some o => rw [s3 _ _ (o2 _ _ (s1 _ _ y') ck)] at y; cases y
      refine ⟨⟨_, _, rfl⟩, fp4, ts4, us4, doC bk1 c, ksC ks1 kq c, ac4, gK4, nK4, F1.go ok1 (by omega) okc fc, kp1.trans fr1 kp14, fr1.trans kp1 fr14, ?_, ?_⟩
      · have := doC_len bk1 c
        omega
      · have := doC_size bk1 c
        omega
    · rintro σ G ⟨⟨o6, o7, rfl⟩, fp1, ts1, us1, bk1, ks1, ac1, gK1, nK1, F1, kp1, fr1, pl1, m58⟩
      rw [List.length_map] at pl1
      exact k fp1 ts1 us1 bk1 ks1 G ac1 gK1 nK1 F1 kp1 fr1 m58 (by omega)
end


--CUT
/-! classes told on from one person to the next -/
/-- a, of class c, tells b the class k -/
inductive Adj (w h : List Nat) (bk : Bk) (a c : Nat) : Nat → Nat → Prop
  | wi {b : Nat} (hq : (a, b) ∈ bk.prs) : Adj w h bk a c b (fw w c)
  | hu {b : Nat} (hq : (b, a) ∈ bk.prs) : Adj w h bk a c b (bw w c)
  | kf {b : Nat} {y : Per} {f : Nat} (hy : bk.ps[b]? = some y) (e : y.2 = some (a, f)) : Adj w h bk a c b (fw h c)
  | km {b : Nat} {y : Per} {m : Nat} (hy : bk.ps[b]? = some y) (e : y.2 = some (m, a)) : Adj w h bk a c b (fw h (bw w c))
  | fa {x : Per} {m f : Nat} (hx : bk.ps[a]? = some x) (e : x.2 = some (m, f)) : Adj w h bk a c m (bw h c)
  | mo {x : Per} {m f : Nat} (hx : bk.ps[a]? = some x) (e : x.2 = some (m, f)) : Adj w h bk a c f (fw w (bw h c))
theorem BkOk.man {bk : Bk} (ok : BkOk bk) {a b : Nat} (h : (a, b) ∈ bk.prs) {x : Per} (hx : bk.ps[a]? = some x) : x.1 = true := by
  obtain ⟨⟨y, hy, e⟩, _⟩ := ok.pr _ h
  rw [hx] at hy; cases hy; exact e
theorem BkOk.woman {bk : Bk} (ok : BkOk bk) {a b : Nat} (h : (b, a) ∈ bk.prs) {x : Per} (hx : bk.ps[a]? = some x) : x.1 = false := by
  obtain ⟨_, ⟨y, hy, e⟩⟩ := ok.pr _ h
  rw [hx] at hy; cases hy; exact e
def IsH (l : Nat) : Prop := l = 102 ∨ l = 109 ∨ l = 112 ∨ l = 115 ∨ l = 100
/-- what the program asks by letters -/
theorem adj_near {w h : List Nat} {bk : Bk} (ok : BkOk bk) {a c b k : Nat} {x : Per} (hx : bk.ps[a]? = some x) : Adj w h bk a c b k ↔ ∃ l, IsH l ∧ b ∈ nearL bk a l ∧ k = stC w h x.1 c l := by
  have n1 : nearL bk a 102 = (match x.2 with | none => [] | some q => [q.1]) := by unfold nearL; rw [hx]; rfl
  have n2 : nearL bk a 109 = (match x.2 with | none => [] | some q => [q.2]) := by unfold nearL; rw [hx]; rfl
  have n3 : nearL bk a 112 = mates bk.prs a := by unfold nearL; rw [hx]; rfl
  have n4 : nearL bk a 115 = (kids bk a).filter (ofSex bk true) := by unfold nearL; rw [hx]; rfl
  have n5 : nearL bk a 100 = (kids bk a).filter (ofSex bk false) := by unfold nearL; rw [hx]; rfl
  have c1 : stC w h x.1 c 102 = bw h c := rfl
  have c2 : stC w h x.1 c 109 = fw w (bw h c) := rfl
  have c3 : stC w h x.1 c 112 = (if x.1 then fw w c else bw w c) := rfl
  have c4 : stC w h x.1 c 115 = fw h (if x.1 then c else bw w c) := rfl
  have c5 : stC w h x.1 c 100 = fw h (if x.1 then c else bw w c) := rfl
  have kid : ∀ {y : Per} {q : Nat × Nat}, bk.ps[b]? = some y → y.2 = some q → (a = q.1 ∨ a = q.2) → k = fw h (if x.1 then c else bw w c) → ∃ l, IsH l ∧ b ∈ nearL bk a l ∧ k = stC w h x.1 c l := fun {y q} hy e o ek => by
    have hk : b ∈ kids bk a := mem_kids.mpr ⟨y, q, hy, e, o⟩
    cases sy : y.1 with
    | true => exact ⟨115, .inr (.inr (.inr (.inl rfl))), by rw [n4, List.mem_filter]; exact ⟨hk, by rw [ofSex_eq hy, sy]; rfl⟩, by rw [c4]; exact ek⟩
    | false => exact ⟨100, .inr (.inr (.inr (.inr rfl))), by rw [n5, List.mem_filter]; exact ⟨hk, by rw [ofSex_eq hy, sy]; rfl⟩, by rw [c5]; exact ek⟩
  have ik : b ∈ kids bk a → Adj w h bk a c b (fw h (if x.1 then c else bw w c)) := fun hk => by
    obtain ⟨y, ⟨m, f⟩, hy, e, o⟩ := mem_kids.mp hk
    have inp := (ok.par y (List.mem_of_getElem? hy) _ e).2.2
    rcases o with o | o
    · have o : a = m := o
      subst o
      rw [ok.man inp hx]; exact .kf hy e
    · have o : a = f := o
      subst o
      rw [ok.woman inp hx]; exact .km hy e
  constructor
  · intro A
    cases A with
    | wi hq => exact ⟨112, .inr (.inr (.inl rfl)), by rw [n3]; exact mem_mates.mpr (.inl hq), by rw [c3, ok.man hq hx]; rfl⟩
    | hu hq => exact ⟨112, .inr (.inr (.inl rfl)), by rw [n3]; exact mem_mates.mpr (.inr hq), by rw [c3, ok.woman hq hx]; rfl⟩
    | @kf _ y f hy e =>
      have inp := (ok.par y (List.mem_of_getElem? hy) _ e).2.2
      exact kid hy e (.inl rfl) (by rw [ok.man inp hx]; rfl)
    | @km _ y m hy e =>
      have inp := (ok.par y (List.mem_of_getElem? hy) _ e).2.2
      exact kid hy e (.inr rfl) (by rw [ok.woman inp hx]; rfl)
    | @fa y m f hy e =>
      rw [hx] at hy; cases hy
      exact ⟨102, .inl rfl, by rw [n1, e]; exact List.mem_singleton.mpr rfl, c1.symm⟩
    | @mo y m f hy e =>
      rw [hx] at hy; cases hy
      exact ⟨109, .inr (.inl rfl), by rw [n2, e]; exact List.mem_singleton.mpr rfl, c2.symm⟩
  · rintro ⟨l, (rfl | rfl | rfl | rfl | rfl), hb, rfl⟩
    · rw [n1] at hb
      cases e : x.2 with
      | none => rw [e] at hb; cases hb
      | some q => rw [e] at hb; rw [List.mem_singleton.mp hb, c1]; exact .fa hx e
    · rw [n2] at hb
      cases e : x.2 with
      | none => rw [e] at hb; cases hb
      | some q => rw [e] at hb; rw [List.mem_singleton.mp hb, c2]; exact .mo hx e
    · rw [n3] at hb
      rw [c3]
      rcases mem_mates.mp hb with z | z
      · rw [ok.man z hx]; exact .wi z
      · rw [ok.woman z hx]; exact .hu z
    · rw [n4] at hb; rw [c4]; exact ik (List.mem_filter.mp hb).1
    · rw [n5] at hb; rw [c5]; exact ik (List.mem_filter.mp hb).1
section
variable {n : Nat} {w h : List Nat} {bk : Bk}
theorem Adj.lt (ok : BkOk bk) (tw : IsTurn n w) (th : IsTurn n h) {a c b k : Nat} (hc : c < n) (A : Adj w h bk a c b k) : b < bk.ps.length ∧ k < n := by
  cases A with
  | wi hq => exact ⟨(ok.pr _ hq).2.lt, fw_lt tw hc⟩
  | hu hq => exact ⟨(ok.pr _ hq).1.lt, bw_lt tw hc⟩
  | kf hy e => exact ⟨(List.getElem?_eq_some_iff.mp hy).1, fw_lt th hc⟩
  | km hy e => exact ⟨(List.getElem?_eq_some_iff.mp hy).1, fw_lt th (bw_lt tw hc)⟩
  | fa hx e => exact ⟨(ok.par _ (List.mem_of_getElem? hx) _ e).1.lt, bw_lt th hc⟩
  | mo hx e => exact ⟨(ok.par _ (List.mem_of_getElem? hx) _ e).2.1.lt, fw_lt tw (bw_lt th hc)⟩
/-- what is told on, as far as it goes -/
inductive Tells (w h : List Nat) (bk : Bk) (a c : Nat) : Nat → Nat → Prop
  | here : Tells w h bk a c a c
  | on {b k b' k' : Nat} (t : Tells w h bk a c b k) (s : Adj w h bk b k b' k') : Tells w h bk a c b' k'
theorem Tells.lt (ok : BkOk bk) (tw : IsTurn n w) (th : IsTurn n h) {a c b k : Nat} (ha : a < bk.ps.length) (hc : c < n) (t : Tells w h bk a c b k) : b < bk.ps.length ∧ k < n := by
  induction t with
  | here => exact ⟨ha, hc⟩
  | on _ s ih => exact s.lt ok tw th ih.2
def Clash (w h : List Nat) (bk : Bk) (a c : Nat) : Prop := ∃ b k k', Tells w h bk a c b k ∧ Tells w h bk a c b k' ∧ k ≠ k'
/-- a map that holds the start and is closed holds all that is told -/
theorem tells_in {a c : Nat} {m : Nat → Option Nat} (h0 : m a = some c) (cl : ∀ b k b' k', m b = some k → Adj w h bk b k b' k' → m b' = some k') {b k : Nat} (t : Tells w h bk a c b k) : m b = some k := by
  induction t with
  | here => exact h0
  | on _ s ih => exact cl _ _ _ _ ih s
/-- who hangs together with whom -/
def Nb (bk : Bk) (a b : Nat) : Prop := (a, b) ∈ bk.prs ∨ (b, a) ∈ bk.prs ∨ (∃ y q, bk.ps[b]? = some y ∧ y.2 = some q ∧ (a = q.1 ∨ a = q.2)) ∨ ∃ x q, bk.ps[a]? = some x ∧ x.2 = some q ∧ (b = q.1 ∨ b = q.2)
theorem Adj.nb {a c b k : Nat} (A : Adj w h bk a c b k) : Nb bk a b := by
  cases A with
  | wi hq => exact .inl hq
  | hu hq => exact .inr (.inl hq)
  | kf hy e => exact .inr (.inr (.inl ⟨_, _, hy, e, .inl rfl⟩))
  | km hy e => exact .inr (.inr (.inl ⟨_, _, hy, e, .inr rfl⟩))
  | fa hx e => exact .inr (.inr (.inr ⟨_, _, hx, e, .inl rfl⟩))
  | mo hx e => exact .inr (.inr (.inr ⟨_, _, hx, e, .inr rfl⟩))
theorem Nb.adj {a b : Nat} (N : Nb bk a b) (c : Nat) : ∃ k, Adj w h bk a c b k := by
  rcases N with z | z | ⟨y, ⟨m, f⟩, hy, e, o⟩ | ⟨x, ⟨m, f⟩, hx, e, o⟩
  · exact ⟨_, .wi z⟩
  · exact ⟨_, .hu z⟩
  · rcases o with o | o
    · have o : a = m := o
      subst o; exact ⟨_, .kf hy e⟩
    · have o : a = f := o
      subst o; exact ⟨_, .km hy e⟩
  · rcases o with o | o
    · have o : b = m := o
      subst o; exact ⟨_, .fa hx e⟩
    · have o : b = f := o
      subst o; exact ⟨_, .mo hx e⟩
inductive Hang (bk : Bk) (a : Nat) : Nat → Prop
  | here : Hang bk a a
  | on {b b' : Nat} (t : Hang bk a b) (s : Nb bk b b') : Hang bk a b'
theorem Nb.lt (ok : BkOk bk) {a b : Nat} (N : Nb bk a b) : b < bk.ps.length := by
  rcases N with z | z | ⟨y, q, hy, e, o⟩ | ⟨x, q, hx, e, o⟩
  · exact (ok.pr _ z).2.lt
  · exact (ok.pr _ z).1.lt
  · exact (List.getElem?_eq_some_iff.mp hy).1
  · obtain ⟨s1, s2, _⟩ := ok.par x (List.mem_of_getElem? hx) q e
    rcases o with rfl | rfl
    · exact s1.lt
    · exact s2.lt
theorem Hang.lt (ok : BkOk bk) {a b : Nat} (ha : a < bk.ps.length) (t : Hang bk a b) : b < bk.ps.length := by
  cases t with
  | here => exact ha
  | on _ s => exact s.lt ok
theorem Tells.hang {a c b k : Nat} (t : Tells w h bk a c b k) : Hang bk a b := by
  induction t with
  | here => exact .here
  | on _ s ih => exact .on ih s.nb
theorem Hang.tells {a b : Nat} (t : Hang bk a b) (c : Nat) : ∃ k, Tells w h bk a c b k := by
  induction t with
  | here => exact ⟨c, .here⟩
  | on _ s ih =>
    obtain ⟨k, t⟩ := ih
    obtain ⟨k', A⟩ := s.adj (w := w) (h := h) k
    exact ⟨k', .on t A⟩
/-- a told list: what it holds -/
structure Told (w h : List Nat) (bk : Bk) (a c : Nat) (ms : List (Option Nat)) : Prop where
  len : ms.length = bk.ps.length
  all : ∀ b k, ms[b]? = some (some k) ↔ Tells w h bk a c b k
theorem Told.on {a c : Nat} {ms : List (Option Nat)} (T : Told w h bk a c ms) {b k b' k' : Nat} (hb : ms[b]? = some (some k)) (A : Adj w h bk b k b' k') : ms[b']? = some (some k') := (T.all _ _).mpr (.on ((T.all _ _).mp hb) A)
theorem Told.get {a c : Nat} {ms : List (Option Nat)} (T : Told w h bk a c ms) {b : Nat} (hb : b < bk.ps.length) : (ms[b]? = some none ∧ ¬ Hang bk a b) ∨ ∃ k, ms[b]? = some (some k) ∧ Hang bk a b := by
  have e := List.getElem?_eq_getElem (l := ms) (i := b) (by rw [T.len]; exact hb)
  cases z : ms[b]'(by rw [T.len]; exact hb) with
  | none =>
    rw [z] at e
    refine .inl ⟨e, fun hg => ?_⟩
    obtain ⟨k, t⟩ := hg.tells (w := w) (h := h) c
    have := (T.all b k).mpr t
    rw [e] at this; cases this
  | some k => rw [z] at e; exact .inr ⟨k, e, ((T.all b k).mp e).hang⟩
end
/-! a list of classes or nothing -/
def optV : Option Nat → V
  | none => .non
  | some k => nat k
theorem nsnoc {l : List Nat} {x : Nat} (h : l.Nodup) (n : x ∉ l) : (l ++ [x]).Nodup := by
  rw [List.nodup_append]
  exact ⟨h, List.nodup_cons.mpr ⟨fun y => (List.not_mem_nil y), List.nodup_nil⟩, fun a ha b hb e => n (by rw [← List.mem_singleton.mp hb, ← e]; exact ha)⟩
theorem natLs (ws : List Nat) (x : Nat) : natL ws ++ [nat x] = natL (ws ++ [x]) := by unfold natL; rw [List.map_append]; rfl
theorem cnt_set : ∀ (ms : List (Option Nat)) (b k : Nat), ms[b]? = some none → (ms.set b (some k)).count none + 1 = ms.count none
  | [], _, _, h => by cases h
  | m :: ms, 0, k, h => by
    have : m = none := Option.some.inj h
    subst this
    rw [List.set_cons_zero, List.count_cons_of_ne (by simp), List.count_cons_self]
  | m :: ms, b + 1, k, h => by
    have ih := cnt_set ms b k h
    rw [List.set_cons_succ, List.count_cons, List.count_cons]
    omega
theorem opt_at {ms : List (Option Nat)} {b : Nat} {o : Option Nat} (h : ms[b]? = some o) : atI (ms.map optV) (b : Int) = some (optV o) := atI_nat (by rw [List.getElem?_map, h]; rfl)
theorem ixN_nat {n b : Nat} (h : b < n) : ixN n (b : Int) = some b := by
  unfold ixN
  rw [if_pos (Int.natCast_nonneg b), if_pos (by omega), Int.toNat_natCast]
theorem set_opt (ms : List (Option Nat)) (b k : Nat) : (ms.map optV).set b (nat k) = (ms.set b (some k)).map optV := by rw [List.map_set]; rfl
/-- how far the telling has come: ws still to be asked, ex being asked -/
structure TeAt (w h : List Nat) (bk : Bk) (a c : Nat) (ms : List (Option Nat)) (ws : List Nat) (ex : Nat → Prop) : Prop where
  len : ms.length = bk.ps.length
  st : ms[a]? = some (some c)
  sound : ∀ b k, ms[b]? = some (some k) → Tells w h bk a c b k
  wnd : ws.Nodup
  wso : ∀ b ∈ ws, ∃ k, ms[b]? = some (some k)
  cl : ∀ b k, ms[b]? = some (some k) → b ∉ ws → ¬ ex b → ∀ b' k', Adj w h bk b k b' k' → ms[b']? = some (some k')
theorem TeAt.told {w h : List Nat} {bk : Bk} {a c : Nat} {ms : List (Option Nat)} (T : TeAt w h bk a c ms [] fun _ => False) : Told w h bk a c ms := by
  refine ⟨T.len, fun b k => ⟨T.sound b k, fun t => ?_⟩⟩
  have key := tells_in (m := fun b => (ms[b]?).join) (w := w) (h := h) (bk := bk) (a := a) (c := c) (by simp only [T.st]; rfl) (fun b k b' k' hb A => by
    have hb' : ms[b]? = some (some k) := by
      cases z : ms[b]? with
      | none => rw [z] at hb; cases hb
      | some o => rw [z] at hb; have hb : o = some k := hb; rw [hb]
    have := T.cl b k hb' (fun z => by cases z) id b' k' A
    show (ms[b']?).join = some k'
    rw [this]; rfl) t
  cases z : ms[b]? with
  | none => simp only [z] at key; cases key
  | some o => simp only [z] at key; have key : o = some k := key; rw [key]
theorem get_set {ms : List (Option Nat)} {b k b' : Nat} {o : Option Nat} (h : (ms.set b (some k))[b']? = some o) : (b' = b ∧ o = some k) ∨ (b' ≠ b ∧ ms[b']? = some o) := by
  by_cases e : b = b'
  · subst e
    rw [List.getElem?_set_self' ] at h
    cases z : ms[b]? with
    | none => rw [z] at h; cases h
    | some v => rw [z] at h; exact .inl ⟨rfl, (Option.some.inj h).symm⟩
  · rw [List.getElem?_set_ne e] at h
    exact .inr ⟨Ne.symm e, h⟩
theorem set_keep {ms : List (Option Nat)} {b k b' k' : Nat} (n : ms[b]? = some none) (h : ms[b']? = some (some k')) : (ms.set b (some k))[b']? = some (some k') := by
  have : b ≠ b' := fun e => by subst e; rw [n] at h; cases h
  rw [List.getElem?_set_ne this]; exact h
/-- one more is told -/
theorem TeAt.more {w h : List Nat} {bk : Bk} {a c : Nat} {ms : List (Option Nat)} {ws : List Nat} {ex : Nat → Prop} (T : TeAt w h bk a c ms ws ex) {b k : Nat} (n : ms[b]? = some none) (t : Tells w h bk a c b k) : TeAt w h bk a c (ms.set b (some k)) (ws ++ [b]) ex := by
  have lb : b < ms.length := (List.getElem?_eq_some_iff.mp n).1
  refine ⟨by rw [List.length_set]; exact T.len, set_keep n T.st, fun b' k' hb => ?_, nsnoc T.wnd fun z => ?_, fun b' hb => ?_, fun b' k' hb hn he b2 k2 A => ?_⟩
  · rcases get_set hb with ⟨rfl, e⟩ | ⟨_, hb⟩
    · rw [Option.some.inj e]; exact t
    · exact T.sound _ _ hb
  · obtain ⟨k', z⟩ := T.wso b z
    rw [n] at z; cases z
  · rcases List.mem_append.mp hb with z | z
    · obtain ⟨k', z⟩ := T.wso b' z
      exact ⟨k', set_keep n z⟩
    · rw [List.mem_singleton.mp z]; exact ⟨k, List.getElem?_set_self lb⟩
  · rcases get_set hb with ⟨rfl, e⟩ | ⟨_, hb⟩
    · exact absurd (List.mem_append_right _ (List.mem_singleton.mpr rfl)) hn
    · exact set_keep n (T.cl b' k' hb (fun z => hn (List.mem_append_left _ z)) he b2 k2 A)
theorem te_start {w h : List Nat} {bk : Bk} {a c : Nat} (la : a < bk.ps.length) : TeAt w h bk a c ((List.replicate bk.ps.length (none : Option Nat)).set a (some c)) [a] fun _ => False := by
  have ms0 : ((List.replicate bk.ps.length (none : Option Nat)).set a (some c))[a]? = some (some c) := List.getElem?_set_self (by rw [List.length_replicate]; exact la)
  have ms1 : ∀ b k, ((List.replicate bk.ps.length (none : Option Nat)).set a (some c))[b]? = some (some k) → b = a ∧ k = c := fun b k hb => by
    rcases get_set hb with ⟨rfl, e⟩ | ⟨_, hb⟩
    · exact ⟨rfl, Option.some.inj e⟩
    · rw [List.getElem?_replicate] at hb
      split at hb
      · cases hb
      · cases hb
  refine ⟨by rw [List.length_set, List.length_replicate], ms0, fun b k hb => ?_, List.nodup_cons.mpr ⟨fun z => (by cases z), List.nodup_nil⟩, fun b hb => ⟨c, by rw [List.mem_singleton.mp hb]; exact ms0⟩, fun b k hb hn => ?_⟩
  · obtain ⟨rfl, rfl⟩ := ms1 b k hb
    exact .here
  · obtain ⟨rfl, rfl⟩ := ms1 b k hb
    exact absurd (List.mem_singleton.mpr rfl) hn
theorem rep_none : ∀ n : Nat, (List.replicate n [V.non]).flatten = (List.replicate n (none : Option Nat)).map optV
  | 0 => rfl
  | n + 1 => by rw [List.replicate_succ, List.replicate_succ, List.flatten_cons, List.map_cons, rep_none n]; rfl


--CUT
/-! near_classes, fitting -/
def hangL : List Nat := [102, 109, 112, 115, 100]
theorem hang_is {l : Nat} : l ∈ hangL ↔ IsH l := by
  unfold hangL IsH
  simp only [List.mem_cons, List.not_mem_nil, or_false]
theorem hangS : ("fmpsd" : Str) = txt hangL := by decide +kernel
theorem hang_isL {l : Nat} (h : l ∈ hangL) : IsL l := by
  rcases hang_is.mp h with rfl | rfl | rfl | rfl | rfl <;> decide
theorem TsAt.app {H : Hp} {ps qs : List Addr} {xss yss : List (List V)} (h : TsAt H ps xss) (g : TsAt H qs yss) : TsAt H (ps ++ qs) (xss ++ yss) := by
  refine ⟨by rw [List.length_append, List.length_append, h.len, g.len], fun i p xs a b => ?_⟩
  by_cases c : i < ps.length
  · rw [List.getElem?_append_left c] at a
    rw [List.getElem?_append_left (by rw [← h.len]; exact c)] at b
    exact h.at_ i p xs a b
  · rw [List.getElem?_append_right (by omega)] at a
    rw [List.getElem?_append_right (by rw [← h.len]; omega), ← h.len] at b
    exact g.at_ _ p xs a b
def spNearC (C : Addr) (e : Ad) : Sp := fun vs H Q E => ∃ (p x : Addr) (fp : List Addr) (bk : Bk) (n : Nat) (w h : List Nat) (a c : Nat), vs = [.ref p, .ref x, nat a, nat c] ∧ BookAt e.Book H p fp bk ∧ TableAt C H x n w h ∧ a < bk.ps.length ∧ c < n ∧
  ∀ D ts (L : List (Nat × Nat)) H', H D = none → Same H H' → H' D = some (.lst (ts.map V.ref)) → TsAt H' ts (L.map prT) → (∀ b k, (b, k) ∈ L ↔ Adj w h bk a c b k) → L.length ≤ 300 → Q (.ref D) H'
def spFitting (C : Addr) (e : Ad) : Sp := fun vs H Q E => ∃ (p x : Addr) (fp : List Addr) (bk : Bk) (n : Nat) (w h : List Nat) (i z : Int), vs = [.ref p, .ref x, .int i, .int z] ∧ BookAt e.Book H p fp bk ∧ TableAt C H x n w h ∧ Sn i ∧ Sn z ∧
  (InB bk i → InC n z → (∀ ms D H', H D = none → Same H H' → H' D = some (.lst (ms.map optV)) → Told w h bk i.toNat z.toNat ms → Q (.ref D) H') ∧ (Clash w h bk i.toNat z.toNat → ∀ H', Same H H' → Q .non H')) ∧
  (¬ InB bk i → E (.ref e.NoPerson) none H) ∧ (InB bk i → ¬ InC n z → E (.ref e.NoClass) none H)
theorem reachP_one {bk : Bk} {a l b : Nat} : reachP bk (fun b => b = a) [l] b ↔ b ∈ nearL bk a l := by
  show (∃ a', a' = a ∧ b ∈ nearL bk a' l) ↔ _
  constructor
  · rintro ⟨_, rfl, h⟩; exact h
  · intro h; exact ⟨a, rfl, h⟩
section
variable {P : Program} {w : World} {K : PySem.W.Frag} {mg : Str → Option Value} {base : Heap} {CX : CXT} {C : Addr} {e : Ad}
/-- tuples of a number and one class, one after the other -/
theorem comp_tups {fv : List (Str × Nat)} {te : TEB} {σ : St} {a : Addr} {ys : List Nat} {k : Nat} {H1 : Hp} {Q : VK} (ga : H1 a = some (.lst (natL ys))) (hn : ys.length ≤ sizeLine)
    (el : ∀ (y : Nat) (H' : Hp) (R : VK), Same H1 H' → (∀ t, H' t = none → R (.ref t) (upd H' t (.tup (prT (y, k))))) → ∀ s₀ H₀ ex, te s₀ H₀ ex (blkS fv σ (some (nat y))) H' R)
    (fin : ∀ D ts H2, H1 D = none → Same H1 H2 → H2 D = some (.lst (ts.map V.ref)) → TsAt H2 ts ((ys.map fun y => (y, k)).map prT) → (∀ t ∈ ts, H1 t = none) → Q (.ref D) H2) : tCompJ fv te σ (Itl K a) H1 Q := by
  intro D hD
  have sd : ∀ {H2 : Hp} {o : HO}, Same H1 H2 → Same H1 (upd H2 D o) := fun {H2 o} s b u e => by
    rw [upd_ne (ne_of_none e hD)]; exact s b u e
  refine ⟨fun i m vs G => ∃ ts : List Addr, m = ys.length - i ∧ i ≤ ys.length ∧ ts.length = i ∧ vs = ts.map V.ref ∧ Same H1 G ∧ G D = some (.lst vs) ∧ TsAt G ts (((ys.take i).map fun y => (y, k)).map prT) ∧ ∀ t ∈ ts, H1 t = none ∧ t ≠ D, ⟨ys.length, [], by simp, Nat.zero_le _, rfl, rfl, sd (Same.refl H1), upd_same, TsAt.nil, fun q z => (by cases z)⟩, ?_⟩
  rintro i m vs G ⟨ts, rfl, hi, tl, rfl, sm, hDi, lt, ft⟩
  refine ⟨hDi, ?_⟩
  have hqi : SqL K G a (natL ys) := SqL.of (sm _ _ ga)
  by_cases hlt : i < ys.length
  · refine .inr ⟨⟨natL ys, nat ys[i], hqi, natL_get (List.getElem?_eq_getElem hlt)⟩, by rw [List.length_map, tl]; omega, fun x H' y => ?_⟩
    obtain ⟨e, y⟩ := y
    subst H'
    have hx : x = nat ys[i] := by
      have := y _ hqi
      rw [natL_get (List.getElem?_eq_getElem hlt)] at this
      exact (Option.some.inj this).symm
    subst hx
    refine fun s₀ H₀ ex => el ys[i] _ _ sm (fun t ht => ?_) s₀ H₀ ex
    have nD : t ≠ D := fun z => by rw [z, hDi] at ht; cases ht
    have s2 : Same G (upd G t (.tup (prT (ys[i], k)))) := same_new ht
    refine ⟨s2 D _ hDi, ys.length - (i + 1), by omega, ts ++ [t], rfl, hlt, by rw [List.length_append, tl]; rfl, by rw [List.map_append]; rfl, sd (sm.trans s2), upd_same, ?_, fun q hq => ?_⟩
    · rw [List.take_add_one, List.getElem?_eq_getElem hlt, List.map_append, List.map_append]
      refine TsAt.snoc (lt.keep fun p xs hp ho => ?_) ?_
      · rw [upd_ne (ft p hp).2]; exact s2 _ _ ho
      · rw [upd_ne nD]; exact upd_same
    · rcases List.mem_append.mp hq with z | z
      · exact ft q z
      · rw [List.mem_singleton.mp z]; exact ⟨sm.free ht, nD⟩
  · have e : i = ys.length := by omega
    subst e
    rw [List.take_length] at lt
    exact .inl ⟨⟨_, hqi, by rw [natL_len]; exact Nat.le_refl _⟩, fin D ts G hD sm hDi lt fun q hq => (ft q hq).1⟩
theorem sc_nearc : FnScope ["book", "table", "a", "c", "answer", "letter", "there"] ["book", "table", "a", "c"] (defScope (top 22)) := ⟨rfl, rfl, rfl, by decide +kernel, rfl, by decide +kernel, by decide +kernel⟩
theorem ok_nearc {f : Addr} {fd : FuncData} (F : Fun K "near_classes" "near_classes" (top 22) f fd) (T : Txt K mg C e) (D_walked : Def P w K mg base (CXR P w) "walked" 5 ["table", "sex", "c", "walk"] (spWalked C e)) (D_sex_of : MDef P w K mg base (CXR P w) e.Book "sex_of" 2 ["self", "a"] (spSexOf e)) (D_kin : MDef P w K mg base (CXR P w) e.Book "kin" 4 ["self", "a", "walk"] (spKin e)) : FnOk P w K mg base (CXR P w) 6 f fd ["book", "table", "a", "c"] (spNearC C e) := by
  refine F.okX sc_nearc (fun vs H Q E h => ?_) (fun cdv A outer s H vs Q E hr hx h => ?_)
  · obtain ⟨p, x, fp, bk, n, w, h, a, c, rfl, _⟩ := h; rfl
  · obtain ⟨p, x, fp, bk, n, w', h', a, c, rfl, BA, TA, la, lc, k⟩ := h
    have nd := sc_nearc.nd
    obtain ⟨dx, a0, b0, c0, d0, qs, hfp, e1, e2, e3, e4, e5, e6, e7⟩ := id BA.ob
    have ok := BA.ok
    have n60 := ok.n60
    have n8 := TA.n8
    have big : 4000 ≤ sizeLine := by decide
    have p9 : (100 : Nat) < 10 ^ 9 := by decide
    have D_walked := D_walked.imp (walkedN (e := e))
    have hy : bk.ps[a]? = some bk.ps[a] := List.getElem?_eq_getElem la
    generalize bk.ps[a] = y at hy
    have sna : Sn (a : Int) := log_small (by omega)
    have inA : InB bk (a : Int) := ⟨Int.natCast_nonneg a, by omega⟩
    refine ⟨_, (pss_cons (ps_set (i := 4) nd rfl (Or.inl rfl) (pe_lst pa_nil))
      (pss_cons (ps_for PassesOwn.leaving rfl (pi_str (pe_globE rfl T.g_LETTERS_THAT_HANG)) (pg_name (i := 5) nd rfl (Or.inl rfl)) (pss_cons (ps_set (i := 6) nd rfl (Or.inr rfl) (pe_ix ix_tup (pe_callX D_walked hx.s hr rfl (pa_cons (pv 1) (pa_cons (pe_methX (pv 0) T.cl_Book D_sex_of hx.s hr (pa_cons (pv 2) pa_nil)) (pa_cons (pv 3) (pa_cons (pv 5) pa_nil))))) pe_int (fun _ _ => rfl)))
      (pss_one (ps_expr (pe_bm PySem.F.plainAttrs_list PySem.F.slot_list_extend PySem.F.type_list_extend mt_extend (pv 4) (pa_cons (pe_comp (fv := [("there", 6)]) ⟨rfl, by decide +kernel, rfl, by decide +kernel, rfl, by decide +kernel, ⟨⟨rfl, Or.inl rfl, Or.inl rfl, rfl⟩, trivial⟩, rfl, rfl⟩ rfl (pi_list (pe_methX (pv 0) T.cl_Book D_kin hx.s hr (pa_cons (pv 2) (pa_cons (pv 5) pa_nil)))) (fun _ _ _ => (pe_tup (pa_cons (pv 0) (pa_cons (pv 1) pa_nil))))) pa_nil))))))
      (pss_one (ps_ret (pv 4))))), ?_⟩
    refine ⟨by decide, fun DA hDA => ?_⟩
    have s1 := same_new (o := .lst []) hDA
    have g1 : (upd H DA (.lst [])) DA = some (.lst (([] : List Addr).map V.ref)) := upd_same
    generalize upd H DA (.lst []) = H1 at s1 g1
    walk_at "ns"
    refine ⟨_, congrArg V.str hangS, for_str (l := hangL) (fun j σ G => ∃ (ts : List Addr) (L : List (Nat × Nat)) (o5 o6 : Option V), σ = [some (.ref p), some (.ref x), some (nat a), some (nat c), some (.ref DA), o5, o6] ∧ Same H G ∧ G DA = some (.lst (ts.map V.ref)) ∧ TsAt G ts (L.map prT) ∧ (∀ b k, (b, k) ∈ L ↔ ∃ l ∈ hangL.take j, b ∈ nearL bk a l ∧ k = stC w' h' y.1 c l) ∧ L.length ≤ 60 * j) ?_ ?_ ?_⟩
    · exact ⟨[], [], none, none, rfl, s1, g1, TsAt.nil, fun b k => ⟨fun z => (by cases z), fun ⟨l, z, _⟩ => (by cases z)⟩, Nat.le_refl _⟩
    · rintro j l σ G hj ⟨ts, L, o5, o6, rfl, sG, gA, tL, mL, lL⟩
      have hl : l ∈ hangL := List.mem_of_getElem? hj
      have hj5 : j < 5 := (List.getElem?_eq_some_iff.mp hj).1
      have isL := hang_isL hl
      have isW : IsW [l] := ⟨(show 1 ≤ 60 by decide), fun z hz => by rw [List.mem_singleton.mp hz]; exact isL⟩
      walk_at "ns"
      refine ⟨_, rfl, _, rfl, p, dx, _, rfl, sG _ _ e1, bno .., _, rfl, p, fp, bk, a, rfl, BA.same sG, sna, fun _ v hv => ?_, fun z => absurd inA z⟩
      obtain ⟨y', hy', rfl⟩ := hv
      rw [Int.toNat_natCast, hy] at hy'
      obtain rfl := Option.some.inj hy'
      refine ⟨_, rfl, _, rfl, x, n, w', h', y.1, c, [l], rfl, TA.same sG, lc, isW, fun t ht => ?_⟩
      have s2 : Same G (upd G t (.tup (pairV (led w' h' (y.1, c) [l])))) := same_new ht
      have gt : (upd G t (.tup (pairV (led w' h' (y.1, c) [l])))) t = some (.tup (pairV (led w' h' (y.1, c) [l]))) := upd_same
      generalize upd G t (.tup (pairV (led w' h' (y.1, c) [l]))) = G2 at s2 gt
      refine ⟨t, _, 1, _, rfl, rfl, SqT.of gt, rfl, ?_⟩
      have ek : (led w' h' (y.1, c) [l]).2 = stC w' h' y.1 c l := rfl
      rw [ek]
      generalize hk : stC w' h' y.1 c l = kd
      walk_at "ns"
      have sG2 := sG.trans s2
      refine ⟨_, rfl, .inl ⟨rfl, _, SqL.of (s2 _ _ gA)⟩, _, rfl, p, dx, _, rfl, sG2 _ _ e1, bno .., _, rfl, _, rfl, p, fp, bk, a, [l], rfl, BA.same sG2, sna, (show 1 ≤ 1000 by decide), isW.sg, fun _ _ xs DK G3 pw mem lt hDK s3 g3 => ?_, fun z => absurd inA z, fun _ z => absurd isW z⟩
      have mem' : ∀ b, b ∈ xs ↔ b ∈ nearL bk a l := fun b => by rw [mem b, Int.toNat_natCast, reachP_one]
      have xl : xs.length ≤ bk.ps.length := nodup_len _ _ (pw.imp fun {u v} z => Nat.ne_of_lt z) lt
      refine ⟨DK, rfl, ⟨_, SqL.of g3⟩, comp_tups g3 (by omega) (fun yb H' R sm kk _ _ _ => ⟨_, rfl, _, rfl, two_fits, kk⟩) fun DE ts2 G4 hDE s4 g4 t4 f4 => ?_⟩
      have s24 := s2.trans (s3.trans s4)
      have gA4 := s24 _ _ gA
      have rl := tL.len
      have rl2 := t4.len
      rw [List.length_map] at rl
      rw [List.length_map, List.length_map] at rl2
      refine ⟨DA, DE, _, _, rfl, rfl, gA4, g4, by rw [List.length_map, List.length_map]; omega, ?_⟩
      rw [← List.map_append]
      refine ⟨ts ++ ts2, L ++ xs.map (fun y => (y, kd)), _, _, rfl, same_upd (sG.trans s24) hDA, upd_same, ?_, fun b k => ?_, ?_⟩
      · rw [show (L ++ xs.map (fun y => (y, kd))).map prT = L.map prT ++ (xs.map (fun y => (y, kd))).map prT from List.map_append]
        refine L2.TsAt.keep (TsAt.app (tL.same s24) t4) fun q zs hq ho => ?_
        rw [upd_ne (fun z => by rw [z, gA4] at ho; cases ho)]; exact ho
      · rw [List.mem_append, mL b k, List.take_add_one, hj]
        constructor
        · rintro (⟨l', z1, z2⟩ | z)
          · exact ⟨l', List.mem_append_left _ z1, z2⟩
          · obtain ⟨y', hy', e⟩ := List.mem_map.mp z
            cases e
            exact ⟨l, List.mem_append_right _ (by simp), (mem' b).mp hy', hk.symm⟩
        · rintro ⟨l', z1, z2, z3⟩
          rcases List.mem_append.mp z1 with u | u
          · exact .inl ⟨l', u, z2, z3⟩
          · have : l' = l := by simpa using u
            subst this
            rw [hk] at z3
            exact .inr (List.mem_map.mpr ⟨b, (mem' b).mpr z2, by rw [z3]⟩)
      · rw [List.length_append, List.length_map]; omega
    · rintro σ G ⟨ts, L, o5, o6, rfl, sG, gA, tL, mL, lL⟩
      rw [show hangL.take hangL.length = hangL from List.take_length] at mL
      exact ⟨_, rfl, k DA ts L G hDA sG gA tL (fun b k => by rw [mL b k, adj_near ok hy]; exact ⟨fun ⟨l, z1, z2⟩ => ⟨l, hang_is.mp z1, z2⟩, fun ⟨l, z1, z2⟩ => ⟨l, hang_is.mpr z1, z2⟩⟩) lL⟩
theorem sc_fitting : FnScope ["book", "table", "a", "c", "classes", "waiting", "here", "near", "b", "there"] ["book", "table", "a", "c"] (defScope (top 23)) := ⟨rfl, rfl, rfl, by decide +kernel, rfl, by decide +kernel, by decide +kernel⟩
theorem ok_fitting {f : Addr} {fd : FuncData} (F : Fun K "fitting" "fitting" (top 23) f fd) (T : Txt K mg C e) (D_check_person : MDef P w K mg base (CXR P w) e.Book "check_person" 1 ["self", "a"] (spCheckP e)) (D_check_class : MDef P w K mg base (CXR P w) C "check_class" 1 ["self", "c"] (spCheck C e)) (D_Book_size : MDef P w K mg base (CXR P w) e.Book "size" 1 ["self"] (spSizeB e)) (D_near_classes : Def P w K mg base (CXR P w) "near_classes" 6 ["book", "table", "a", "c"] (spNearC C e)) : FnOk P w K mg base (CXR P w) 7 f fd ["book", "table", "a", "c"] (spFitting C e) := by
  refine F.okX sc_fitting (fun vs H Q E h => ?_) (fun cdv A outer s H vs Q E hr hx h => ?_)
  · obtain ⟨p, x, fp, bk, n, w, h, i, z, rfl, _⟩ := h; rfl
  · obtain ⟨p, x, fp, bk, n, w', h', i, z, rfl, BA, TA, si, sz, k, kP, kC⟩ := h
    have nd := sc_fitting.nd
    obtain ⟨dx, a0, b0, c0, d0, qs, hfp, e1, e2, e3, e4, e5, e6, e7⟩ := id BA.ob
    obtain ⟨dt, a1, b1, c1, d1, t1, t2, t3, t4, t5⟩ := id TA.ob
    have ok := BA.ok
    have n60 := ok.n60
    have n8 := TA.n8
    have tw := TA.tw
    have th := TA.th
    have big : 4000 ≤ sizeLine := by decide
    refine ⟨_, (pss_cons (ps_expr (pe_methX (pv 0) T.cl_Book D_check_person hx.s hr (pa_cons (pv 2) pa_nil)))
      (pss_cons (ps_expr (pe_methX (pv 1) T.cl_Table D_check_class hx.s hr (pa_cons (pv 3) pa_nil)))
      (pss_cons (ps_set (i := 4) nd rfl (Or.inl rfl) (pe_op op_rep (pe_lst (pa_cons pe_non pa_nil)) (pe_methX0 (pv 0) T.cl_Book D_Book_size hx.s hr)))
      (pss_cons (ps_asg (pv 3) (pg_sub (pv 4) (pv 2) set_list))
      (pss_cons (ps_set (i := 5) nd rfl (Or.inl rfl) (pe_lst (pa_cons (pv 2) pa_nil)))
      (pss_cons (ps_while PassesOwn.leaving (pt_cmpR op_gt (pe_callB call_len_seq rfl T.z_len PySem.boot_len (pa_cons (pv 5) pa_nil)) pe_int (nomark _)) (pss_cons (ps_set (i := 6) nd rfl (Or.inl rfl) (pe_bm0 PySem.F.plainAttrs_list PySem.F.slot_list_pop PySem.F.type_list_pop mt_pop (pv 5)))
      (pss_cons (ps_set (i := 7) nd rfl (Or.inl rfl) (pe_callX D_near_classes hx.s hr rfl (pa_cons (pv 0) (pa_cons (pv 1) (pa_cons (pv 6) (pa_cons (pe_ix ix_list (pv 4) (pv 6) (fun _ _ => rfl)) pa_nil))))))
      (pss_one (ps_for PassesOwn.leaving rfl (pi_list (pv 7)) (pg_tup rfl (pgs_cons (pg_name (i := 8) nd rfl (Or.inl rfl)) (pgs_cons (pg_name (i := 9) nd rfl (Or.inl rfl)) pgs_nil))) (pss_cons (ps_if (pt_cmpR op_isN (pe_ix ix_list (pv 4) (pv 8) (fun _ _ => rfl)) pe_non (nomark _)) (pss_cons (ps_asg (pv 9) (pg_sub (pv 4) (pv 8) set_list))
      (pss_one (ps_expr (pe_bm PySem.F.plainAttrs_list PySem.F.slot_list_append PySem.F.type_list_append mt_append (pv 5) (pa_cons (pv 8) pa_nil))))) pss_nil)
      (pss_one (ps_if (pt_cmpR op_ne (pe_ix ix_list (pv 4) (pv 8) (fun _ _ => rfl)) (pv 9) (nomark _)) (pss_one (ps_ret pe_non)) pss_nil))))))))
      (pss_one (ps_ret (pv 4))))))))), ?_⟩
    refine ⟨_, rfl, p, dx, _, rfl, e1, bno .., _, rfl, p, fp, bk, i, rfl, BA, si, fun hi v hv => ?_, kP⟩
    refine ⟨_, rfl, x, dt, _, rfl, t1, no_check .., _, rfl, x, n, w', h', z, rfl, TA, sz, fun hc => ?_, kC hi⟩
    obtain ⟨kT, kN⟩ := k hi hc
    obtain ⟨a, rfl, la, ea⟩ := toN hi
    obtain ⟨c, rfl, lc, ec⟩ := toN hc
    rw [ea, ec] at kT kN
    refine ⟨one_fits, fun l0 hl0 => ?_⟩
    have s0 : Same H (upd H l0 (.lst [.non])) := same_new hl0
    have gl0 : (upd H l0 (.lst [.non])) l0 = some (.lst [.non]) := upd_same
    generalize upd H l0 (.lst [V.non]) = H0 at s0 gl0
    refine ⟨_, rfl, p, dx, _, rfl, s0 _ _ e1, bno .., p, fp, bk, rfl, BA.same s0, l0, _, _, rfl, rfl, gl0, by omega, by omega, by rw [Int.toNat_natCast]; show 1 * _ ≤ _; omega, fun DC hDC => ?_⟩
    rw [Int.toNat_natCast, rep_none]
    have s1 := s0.trans (same_new (o := .lst ((List.replicate bk.ps.length (none : Option Nat)).map optV)) hDC)
    have hDCH : H DC = none := s0.free hDC
    have gC0 : (upd H0 DC (.lst ((List.replicate bk.ps.length (none : Option Nat)).map optV))) DC = some (.lst ((List.replicate bk.ps.length (none : Option Nat)).map optV)) := upd_same
    generalize upd H0 DC (.lst ((List.replicate bk.ps.length (none : Option Nat)).map optV)) = H1 at s1 gC0
    walk_at "ns"
    refine ⟨_, rfl, _, rfl, _, rfl, DC, _, _, a, rfl, rfl, gC0, ixN_nat (by rw [List.length_map, List.length_replicate]; exact la), ?_⟩
    rw [set_opt]
    have te0 := te_start (w := w') (h := h') la (c := c)
    generalize (List.replicate bk.ps.length (none : Option Nat)).set a (some c) = ms0 at te0
    have gC1 : (upd H1 DC (.lst (ms0.map optV))) DC = some (.lst (ms0.map optV)) := upd_same
    have s2 : Same H (upd H1 DC (.lst (ms0.map optV))) := same_upd s1 hDCH
    generalize upd H1 DC (.lst (ms0.map optV)) = H2 at gC1 s2
    refine ⟨_, rfl, one_fits, fun DW hDW => ?_⟩
    have hDWH := s2.free hDW
    have nCW : DC ≠ DW := ne_of_none gC1 hDW
    have s3 := s2.trans (same_new hDW (o := .lst [nat a]))
    have gC3 : (upd H2 DW (.lst [nat a])) DC = some (.lst (ms0.map optV)) := by rw [upd_ne nCW]; exact gC1
    have gW3 : (upd H2 DW (.lst [nat a])) DW = some (.lst (natL [a])) := upd_same
    generalize upd H2 DW (.lst [nat a]) = H3 at s3 gC3 gW3
    walk_at "ns"
    refine ⟨fun m σ G => ∃ ms ws o6 o7 o8 o9, m = 2 * ms.count none + ws.length ∧ σ = [some (.ref p), some (.ref x), some (nat a), some (nat c), some (.ref DC), some (.ref DW), o6, o7, o8, o9] ∧ Same H G ∧ G DC = some (.lst (ms.map optV)) ∧ G DW = some (.lst (natL ws)) ∧ TeAt w' h' bk a c ms ws fun _ => False, ⟨_, ms0, [a], none, none, none, none, rfl, rfl, s3, gC3, gW3, te0⟩, ?_⟩
    rintro m σ G ⟨ms, ws, o6, o7, o8, o9, rfl, rfl, sG, gC, gW, te⟩
    refine ⟨_, rfl, DW, _, rfl, .inl (SqL.of gW), _, _, rfl, rfl, _, rfl, ?_⟩
    rw [natL_len]
    refine iteD2 (fun hpos => ?_) (fun hz => ?_)
    · obtain ⟨ws0, here, rfl⟩ : ∃ ws0 x, ws = ws0 ++ [x] := by
        rcases List.eq_nil_or_concat ws with z | ⟨l, x, z⟩
        · subst z; exact absurd hpos (by decide)
        · exact ⟨l, x, by rw [z, List.concat_eq_append]⟩
      obtain ⟨kh, hkh⟩ := te.wso here (List.mem_append_right _ (List.mem_singleton.mpr rfl))
      obtain ⟨lh, lk⟩ := (te.sound _ _ hkh).lt ok tw th la lc
      refine ⟨fun σ' G' => ∃ m', m' < 2 * ms.count none + (ws0 ++ [here]).length ∧ ∃ ms ws o6 o7 o8 o9, m' = 2 * ms.count none + ws.length ∧ σ' = [some (.ref p), some (.ref x), some (nat a), some (nat c), some (.ref DC), some (.ref DW), o6, o7, o8, o9] ∧ Same H G' ∧ G' DC = some (.lst (ms.map optV)) ∧ G' DW = some (.lst (natL ws)) ∧ TeAt w' h' bk a c ms ws fun _ => False, fun σ' G' h => h, ?_⟩
      refine ⟨_, rfl, .inl ⟨rfl, _, SqL.of gW⟩, DW, _, nat here, rfl, rfl, gW, ?_, ?_⟩
      · rw [← natLs, List.length_append]
        show (natL ws0 ++ [nat here])[(natL ws0).length + 1 - 1]? = _
        rw [Nat.add_sub_cancel, List.getElem?_append_right (Nat.le_refl _), Nat.sub_self]
        rfl
      rw [show (natL (ws0 ++ [here])).dropLast = natL ws0 by rw [← natLs]; simp]
      have s4 : Same H (upd G DW (.lst (natL ws0))) := same_upd sG hDWH
      have gC4 : (upd G DW (.lst (natL ws0))) DC = some (.lst (ms.map optV)) := by rw [upd_ne nCW]; exact gC
      have gW4 : (upd G DW (.lst (natL ws0))) DW = some (.lst (natL ws0)) := upd_same
      generalize upd G DW (.lst (natL ws0)) = G4 at s4 gC4 gW4
      walk_at "ns"
      refine ⟨_, rfl, _, rfl, _, rfl, _, rfl, _, rfl, DC, _, _, _, rfl, rfl, SqL.of gC4, opt_at hkh, p, x, fp, bk, n, w', h', here, kh, rfl, BA.same s4, TA.same s4, lh, lk, fun Dn rs L G5 hDn s5 gn tL mL lL => ?_⟩
      have rl := tL.len
      rw [List.length_map] at rl
      have gC5 := s5 _ _ gC4
      have gW5 := s5 _ _ gW4
      have nnC : Dn ≠ DC := fun z => by rw [z, gC4] at hDn; cases hDn
      have nnW : Dn ≠ DW := fun z => by rw [z, gW4] at hDn; cases hDn
      walk_at "ns"
      refine ⟨_, rfl, Dn, rfl, ⟨_, SqL.of gn⟩, for_list (xs := rs.map V.ref) (fun j σ G' => ∃ ms' ws' o8 o9, σ = [some (.ref p), some (.ref x), some (nat a), some (nat c), some (.ref DC), some (.ref DW), some (nat here), some (.ref Dn), o8, o9] ∧ (∀ c o, G5 c = some o → c ≠ DC → c ≠ DW → G' c = some o) ∧ G' DC = some (.lst (ms'.map optV)) ∧ G' DW = some (.lst (natL ws')) ∧ TeAt w' h' bk a c ms' ws' (fun d => d = here) ∧ ms'[here]? = some (some kh) ∧ (∀ q ∈ L.take j, ms'[q.1]? = some (some q.2)) ∧ 2 * ms'.count none + ws'.length ≤ 2 * ms.count none + ws0.length) ⟨ms, ws0, _, _, rfl, fun c o h _ _ => h, gC5, gW5, ⟨te.len, te.st, te.sound, (List.nodup_append.mp te.wnd).1, fun b hb => te.wso b (List.mem_append_left _ hb), fun b k hb hn he => te.cl b k hb (fun z => ?_) id⟩, hkh, fun q z => (by simp at z), Nat.le_refl _⟩ (fun m σ G' _ ⟨_, _, _, _, _, kp, _⟩ => SqL.of (kp _ _ gn nnC nnW)) ?_ ?_⟩
      · rcases List.mem_append.mp z with y | y
        · exact hn y
        · exact he (List.mem_singleton.mp y)
      · rintro j v σ G' hj ⟨ms', ws', o8', o9', rfl, kp, gC', gW', te', hh', don, ms2⟩
        rw [List.getElem?_map] at hj
        obtain ⟨t, ht, rfl⟩ := Option.map_eq_some_iff.mp hj
        have lj : j < L.length := by rw [← rl]; exact (List.getElem?_eq_some_iff.mp ht).1
        have hq : L[j]? = some L[j] := List.getElem?_eq_getElem lj
        generalize L[j] = q at hq
        obtain ⟨b, kd⟩ := q
        have gt1 : G5 t = some (.tup (prT (b, kd))) := tL.at_ j t _ ht (by rw [List.getElem?_map, hq]; rfl)
        have gt : G' t = some (.tup (prT (b, kd))) := kp _ _ gt1 (fun z => by rw [z, gC5] at gt1; cases gt1) (fun z => by rw [z, gW5] at gt1; cases gt1)
        have tb : Tells w' h' bk a c b kd := .on (te'.sound _ _ hh') ((mL b kd).mp (List.mem_of_getElem? hq))
        obtain ⟨lb, lkd⟩ := tb.lt ok tw th la lc
        have tk : ∀ r, r ∈ L.take (j + 1) → r ∈ L.take j ∨ r = (b, kd) := fun r hr => by
          rw [List.take_add_one, hq] at hr
          rcases List.mem_append.mp hr with z | z
          · exact .inl z
          · exact .inr (by simpa using z)
        have lbm : b < ms'.length := by rw [te'.len]; exact lb
        have l60 : ws'.length ≤ bk.ps.length := nodup_len _ _ te'.wnd fun b hb => by obtain ⟨k, hk⟩ := te'.wso b hb; exact ((te'.sound b k hk).lt ok tw th la lc).1
        have sG' : Same H G' := fun c o hc => kp c o (s5 _ _ (s4 _ _ hc)) (fun z => by rw [z, hDCH] at hc; cases hc) (fun z => by rw [z, hDWH] at hc; cases hc)
        refine ⟨t, _, rfl, SqT.of gt, rfl, _, _, rfl, _, _, rfl, rfl, ?_⟩
        walk_at "ns"
        have hb0 : ms'[b]? = some ms'[b] := List.getElem?_eq_getElem lbm
        generalize ms'[b] = ob at hb0
        cases ob with
        | none =>
          refine ⟨_, rfl, _, rfl, DC, _, _, _, rfl, rfl, SqL.of gC', opt_at hb0, rfl, _, rfl, iteT ?_⟩
          refine ⟨_, rfl, _, rfl, _, rfl, DC, _, _, b, rfl, rfl, gC', ixN_nat (by rw [List.length_map]; exact lbm), ?_⟩
          rw [set_opt]
          have gW2 : (upd G' DC (.lst ((ms'.set b (some kd)).map optV))) DW = some (.lst (natL ws')) := by rw [upd_ne (Ne.symm nCW)]; exact gW'
          refine ⟨_, rfl, .inl ⟨rfl, _, SqL.of gW2⟩, _, rfl, DW, _, _, rfl, rfl, gW2, by rw [natL_len]; omega, ?_⟩
          rw [natLs]
          have gC6 : (upd (upd G' DC (.lst ((ms'.set b (some kd)).map optV))) DW (.lst (natL (ws' ++ [b])))) DC = some (.lst ((ms'.set b (some kd)).map optV)) := by rw [upd_ne nCW]; exact upd_same
          refine ⟨_, rfl, _, rfl, DC, _, _, _, rfl, rfl, SqL.of gC6, opt_at (List.getElem?_set_self lbm), _, rfl, rfl, _, rfl, ?_⟩
          show if (!decide (nat kd = nat kd)) = true then _ else _
          rw [decide_eq_true rfl]
          refine iteF ⟨ms'.set b (some kd), ws' ++ [b], _, _, rfl, fun c o hc c1 c2 => by rw [upd_ne c2, upd_ne c1]; exact kp c o hc c1 c2, gC6, upd_same, te'.more hb0 tb, set_keep hb0 hh', fun r hr => ?_, ?_⟩
          · rcases tk r hr with z | rfl
            · exact set_keep hb0 (don r z)
            · exact List.getElem?_set_self lbm
          · have := cnt_set ms' b kd hb0
            rw [List.length_append]
            show _ + (ws'.length + 1) ≤ _
            omega
        | some k1 =>
          refine ⟨_, rfl, _, rfl, DC, _, _, _, rfl, rfl, SqL.of gC', opt_at hb0, rfl, _, rfl, iteF ?_⟩
          refine ⟨_, rfl, _, rfl, DC, _, _, _, rfl, rfl, SqL.of gC', opt_at hb0, _, rfl, rfl, _, rfl, ?_⟩
          show if (!decide (nat k1 = nat kd)) = true then _ else _
          by_cases e1 : k1 = kd
          · subst e1
            rw [decide_eq_true rfl]
            refine iteF ⟨ms', ws', _, _, rfl, kp, gC', gW', te', hh', fun r hr => ?_, ms2⟩
            rcases tk r hr with z | rfl
            · exact don r z
            · exact hb0
          · rw [decide_eq_false (fun z => e1 (by have := V.int.inj z; omega))]
            exact iteT (kN ⟨b, k1, kd, te'.sound _ _ hb0, tb, e1⟩ G' sG')
      · rintro σ G' ⟨ms', ws', o8', o9', rfl, kp, gC', gW', te', hh', don, ms2⟩
        rw [List.length_map, rl, List.take_length] at don
        have sG' : Same H G' := fun c o hc => kp c o (s5 _ _ (s4 _ _ hc)) (fun z => by rw [z, hDCH] at hc; cases hc) (fun z => by rw [z, hDWH] at hc; cases hc)
        refine ⟨_, by rw [List.length_append]; show _ < _ + (ws0.length + 1); omega, ms', ws', _, _, _, _, rfl, rfl, sG', gC', gW', te'.len, te'.st, te'.sound, te'.wnd, te'.wso, fun b k hb hn _ b' k' A => ?_⟩
        by_cases z : b = here
        · subst z
          rw [hh'] at hb
          cases Option.some.inj (Option.some.inj hb)
          exact don _ ((mL b' k').mpr A)
        · exact te'.cl b k hb hn z b' k' A
    · have hz' : ws = [] := List.length_eq_zero_iff.mp (by omega)
      subst hz'
      exact ⟨_, rfl, kT ms DC G hDCH sG gC te.told⟩
end


--CUT
/-! the law of fitting: its own helpers -/
def oat (ms : List (Option Nat)) (i : Nat) : Option Nat := (ms[i]?).join
theorem oat_get {ms : List (Option Nat)} {i : Nat} (h : i < ms.length) : ms[i]? = some (oat ms i) := by
  unfold oat
  rw [List.getElem?_eq_getElem h]
  rfl
theorem oat_at {ms : List (Option Nat)} {i : Nat} (h : i < ms.length) : atI (ms.map optV) (i : Int) = some (optV (oat ms i)) := opt_at (oat_get h)
theorem oat_some {ms : List (Option Nat)} {i k : Nat} : oat ms i = some k ↔ ms[i]? = some (some k) := by
  unfold oat
  cases ms[i]? with
  | none => constructor <;> intro h <;> cases h
  | some o => constructor <;> intro h
              · exact congrArg some h
              · exact Option.some.inj h
def PrOk (w : List Nat) (ms : List (Option Nat)) (q : Nat × Nat) : Prop := (∀ k, oat ms q.1 = some k → oat ms q.2 = some (fw w k)) ∧ (oat ms q.1 = none → oat ms q.2 = none)
def ChOk (h : List Nat) (ms : List (Option Nat)) (i : Nat) (x : Per) : Prop := ∀ q, x.2 = some q → (∀ k, oat ms q.1 = some k → oat ms i = some (fw h k)) ∧ (oat ms q.1 = none → oat ms i = none)
structure FitsO (w h : List Nat) (bk : Bk) (ms : List (Option Nat)) : Prop where
  pr : ∀ q ∈ bk.prs, PrOk w ms q
  ch : ∀ (i : Nat) x, bk.ps[i]? = some x → ChOk h ms i x
theorem Told.go {w h : List Nat} {bk : Bk} {a c : Nat} {ms : List (Option Nat)} (T : Told w h bk a c ms) {b k b' k' : Nat} (hb : oat ms b = some k) (A : Adj w h bk b k b' k') : oat ms b' = some k' := oat_some.mpr (T.on (oat_some.mp hb) A)
/-- what is told fits -/
theorem Told.fits {w h : List Nat} {bk : Bk} (ok : BkOk bk) {a c : Nat} {ms : List (Option Nat)} (T : Told w h bk a c ms) : FitsO w h bk ms := by
  have nn : ∀ {b b'}, Nb bk b' b → oat ms b = none → oat ms b' = none := fun {b b'} N hb => by
    cases z : oat ms b' with
    | none => rfl
    | some k =>
      obtain ⟨k', A⟩ := N.adj (w := w) (h := h) k
      rw [T.go z A] at hb; cases hb
  refine ⟨fun q hq => ⟨fun k hk => T.go hk (.wi hq), nn (.inr (.inl hq))⟩, fun i x hx q e => ⟨fun k hk => T.go hk (.kf (f := q.2) hx e), nn (.inr (.inr (.inr ⟨x, q, hx, e, .inl rfl⟩)))⟩⟩
def spFits : Sp := fun vs H Q _ => ∃ (LP LR LT D1 D2 : Addr) (ts us : List Addr) (bk : Bk) (n : Nat) (w h : List Nat) (ms : List (Option Nat)), vs = [.ref LP, .ref LR, .ref LT, .ref D1, .ref D2] ∧ PeopleAt H LP ts bk.ps ∧ PairsAt H LR us bk.prs ∧ BkOk bk ∧ H LT = some (.lst (ms.map optV)) ∧ H D1 = some (.lst (natL w)) ∧ H D2 = some (.lst (natL h)) ∧ IsTurn n w ∧ IsTurn n h ∧ ms.length = bk.ps.length ∧ (∀ i k, oat ms i = some k → k < n) ∧
  ∀ b : Bool, (b = true ↔ FitsO w h bk ms) → Q (.bl b) H
theorem optV_non {o : Option Nat} : decide (optV o = V.non) = o.isNone := by
  cases o with
  | none => exact decide_eq_true rfl
  | some k => exact decide_eq_false (fun z => by cases z)
theorem optV_nat {o : Option Nat} {k : Nat} : decide (optV o = nat k) = decide (o = some k) := by
  cases o with
  | none => rw [decide_eq_false (fun z : optV none = nat k => by cases z), decide_eq_false (fun z : (none : Option Nat) = some k => by cases z)]
  | some j =>
    by_cases h : j = k
    · subst h; rw [decide_eq_true (show optV (some j) = nat j from rfl), decide_eq_true (show some j = some j from rfl)]
    · rw [decide_eq_false (fun z : optV (some j) = nat k => h (by have := V.int.inj z; omega)), decide_eq_false (fun z : some j = some k => h (Option.some.inj z))]
theorem pr_at {H : Hp} {LR : Addr} {us : List Addr} {prs : List (Nat × Nat)} (h : PairsAt H LR us prs) {i : Nat} {v : V} (hv : (us.map V.ref)[i]? = some v) : ∃ t q, v = .ref t ∧ prs[i]? = some q ∧ H t = some (.tup (prT q)) := by
  rw [List.getElem?_map] at hv
  obtain ⟨t, ht, rfl⟩ := Option.map_eq_some_iff.mp hv
  have lt : i < prs.length := by rw [← h.len]; exact (List.getElem?_eq_some_iff.mp ht).1
  obtain ⟨t', ht', g⟩ := h.at_ (List.getElem?_eq_getElem lt)
  rw [ht] at ht'
  cases Option.some.inj ht'
  exact ⟨t, _, rfl, List.getElem?_eq_getElem lt, g⟩
section
variable {P : Program} {w : World} {K : PySem.W.Frag} {mg : Str → Option Value} {base : Heap} {CX : CXT} {C : Addr} {e : Ad}
theorem sc_fits : FnScope ["people", "pairs", "told", "wives", "heirs", "two", "a", "father"] ["people", "pairs", "told", "wives", "heirs"] (defScope (top 41)) := ⟨rfl, rfl, rfl, by decide +kernel, rfl, by decide +kernel, by decide +kernel⟩
theorem ok_fits {f : Addr} {fd : FuncData} (F : Fun K "_law_fits" "_law_fits" (top 41) f fd) (T : Txt K mg C e) : FnOk P w K mg base CX 1 f fd ["people", "pairs", "told", "wives", "heirs"] spFits := by
  refine F.okN sc_fits (fun vs H Q E h => ?_) (fun cdv A outer s H vs Q E hr h => ?_)
  · obtain ⟨LP, LR, LT, D1, D2, ts, us, bk, n, w, h, ms, rfl, _⟩ := h; rfl
  · obtain ⟨LP, LR, LT, D1, D2, ts, us, bk, n, w', h', ms, rfl, pe, pa, ok, gT, g1, g2, tw, th, ml, mlt, k⟩ := h
    have nd := sc_fits.nd
    have n60 := ok.n60
    have pl := ok.pl
    have ul := pa.len
    have tl := pe.len
    have big : 4000 ≤ sizeLine := by decide
    have at_ : ∀ i, i < bk.ps.length → atI (ms.map optV) (i : Int) = some (optV (oat ms i)) := fun i hi => oat_at (by rw [ml]; exact hi)
    refine ⟨_, (pss_cons (ps_for PassesOwn.never rfl (pi_list (pv 1)) (pg_name (i := 5) nd rfl (Or.inl rfl)) (pss_cons (ps_if (PW.pt (pw_and (pt_cmpR op_notN (pe_ix ix_list (pv 2) (pe_ix ix_tup (pv 5) pe_int (fun _ _ => rfl)) (fun _ _ => rfl)) pe_non (nomark _)) (pw_and1 (pt_cmpR op_ne (pe_ix ix_list (pv 2) (pe_ix ix_tup (pv 5) pe_int (fun _ _ => rfl)) (fun _ _ => rfl)) (pe_ix ix_list (pv 3) (pe_ix ix_list (pv 2) (pe_ix ix_tup (pv 5) pe_int (fun _ _ => rfl)) (fun _ _ => rfl)) (fun _ _ => rfl)) (nomark _))))) (pss_one (ps_ret pe_bl)) pss_nil)
      (pss_one (ps_if (PW.pt (pw_and (pt_cmpR op_isN (pe_ix ix_list (pv 2) (pe_ix ix_tup (pv 5) pe_int (fun _ _ => rfl)) (fun _ _ => rfl)) pe_non (nomark _)) (pw_and1 (pt_cmpR op_notN (pe_ix ix_list (pv 2) (pe_ix ix_tup (pv 5) pe_int (fun _ _ => rfl)) (fun _ _ => rfl)) pe_non (nomark _))))) (pss_one (ps_ret pe_bl)) pss_nil))))
      (pss_cons (ps_for PassesOwn.never rfl (pi_range1 rfl T.z_range (pa_cons (pe_callB call_len_seq rfl T.z_len PySem.boot_len (pa_cons (pv 0) pa_nil)) pa_nil)) (pg_name (i := 6) nd rfl (Or.inl rfl)) (pss_cons (ps_set (i := 7) nd rfl (Or.inl rfl) (pe_ix ix_tup (pe_ix ix_list (pv 0) (pv 6) (fun _ _ => rfl)) pe_int (fun _ _ => rfl)))
      (pss_one (ps_if (pt_cmpR op_notN (pv 7) pe_non (nomark _)) (pss_cons (ps_if (PW.pt (pw_and (pt_cmpR op_isN (pe_ix ix_list (pv 2) (pv 7) (fun _ _ => rfl)) pe_non (nomark _)) (pw_and1 (pt_cmpR op_notN (pe_ix ix_list (pv 2) (pv 6) (fun _ _ => rfl)) pe_non (nomark _))))) (pss_one (ps_ret pe_bl)) pss_nil)
      (pss_one (ps_if (PW.pt (pw_and (pt_cmpR op_notN (pe_ix ix_list (pv 2) (pv 7) (fun _ _ => rfl)) pe_non (nomark _)) (pw_and1 (pt_cmpR op_ne (pe_ix ix_list (pv 2) (pv 6) (fun _ _ => rfl)) (pe_ix ix_list (pv 4) (pe_ix ix_list (pv 2) (pv 7) (fun _ _ => rfl)) (fun _ _ => rfl)) (nomark _))))) (pss_one (ps_ret pe_bl)) pss_nil))) pss_nil))))
      (pss_one (ps_ret pe_bl)))), ?_⟩
    refine ⟨_, rfl, LR, rfl, ⟨_, SqL.of pa.l⟩, for_list (xs := us.map V.ref) (fun j σ G => ∃ o5, σ = [some (.ref LP), some (.ref LR), some (.ref LT), some (.ref D1), some (.ref D2), o5, none, none] ∧ G = H ∧ ∀ q ∈ bk.prs.take j, PrOk w' ms q) ⟨none, rfl, rfl, fun q z => by simp at z⟩ (fun m σ G _ ⟨_, _, z, _⟩ => by rw [z]; exact SqL.of pa.l) ?_ ?_⟩
    · rintro j v σ G hj ⟨o5, rfl, rfl, done⟩
      obtain ⟨t, q, rfl, hq, gt⟩ := pr_at pa hj
      have inq := List.mem_of_getElem? hq
      obtain ⟨m1, m2⟩ := ok.pr q inq
      have a1 := at_ q.1 m1.lt
      have a2 := at_ q.2 m2.lt
      have nx : PrOk w' ms q → ∀ r ∈ bk.prs.take (j + 1), PrOk w' ms r := fun pq r hr => by
        rw [List.take_add_one, hq] at hr
        rcases List.mem_append.mp hr with z | z
        · exact done r z
        · have : r = q := by simpa using z
          rw [this]; exact pq
      have bad : ¬ PrOk w' ms q → Q (.bl false) G := fun z => k false ⟨fun y => (by cases y), fun F => absurd (F.pr q inq) z⟩
      walk_at "ns"
      cases z1 : oat ms q.1 with
      | none =>
        rw [z1] at a1
        refine ⟨_, rfl, _, rfl, t, _, 0, _, rfl, rfl, SqT.of gt, rfl, LT, _, _, _, rfl, rfl, SqL.of gT, a1, rfl, _, rfl, iteF ?_⟩
        refine ⟨_, rfl, _, rfl, t, _, 0, _, rfl, rfl, SqT.of gt, rfl, LT, _, _, _, rfl, rfl, SqL.of gT, a1, rfl, _, rfl, iteT ?_⟩
        refine ⟨_, rfl, _, rfl, t, _, 1, _, rfl, rfl, SqT.of gt, rfl, LT, _, _, _, rfl, rfl, SqL.of gT, a2, rfl, _, rfl, ?_⟩
        rw [optV_non]
        cases z2 : oat ms q.2 with
        | none => exact iteF ⟨_, rfl, rfl, nx ⟨fun k hk => (by rw [z1] at hk; cases hk), fun _ => z2⟩⟩
        | some k2 => exact iteT (bad fun z => by rw [z.2 z1] at z2; cases z2)
      | some k1 =>
        rw [z1] at a1
        have lk := mlt _ _ z1
        refine ⟨_, rfl, _, rfl, t, _, 0, _, rfl, rfl, SqT.of gt, rfl, LT, _, _, _, rfl, rfl, SqL.of gT, a1, rfl, _, rfl, iteT ?_⟩
        refine ⟨_, rfl, _, rfl, t, _, 1, _, rfl, rfl, SqT.of gt, rfl, LT, _, _, _, rfl, rfl, SqL.of gT, a2, _, rfl, _, rfl, _, rfl, t, _, 0, _, rfl, rfl, SqT.of gt, rfl, LT, _, _, _, rfl, rfl, SqL.of gT, a1, D1, _, _, _, rfl, rfl, SqL.of g1, atI_nat (natL_get (fw_get tw lk)), by cases oat ms q.2 <;> rfl, _, rfl, ?_⟩
        rw [optV_nat]
        by_cases z2 : oat ms q.2 = some (fw w' k1)
        · rw [decide_eq_true z2]
          refine iteF ?_
          refine ⟨_, rfl, _, rfl, t, _, 0, _, rfl, rfl, SqT.of gt, rfl, LT, _, _, _, rfl, rfl, SqL.of gT, a1, rfl, _, rfl, iteF ?_⟩
          exact ⟨_, rfl, rfl, nx ⟨fun k hk => (by rw [z1] at hk; cases Option.some.inj hk; exact z2), fun hk => by rw [z1] at hk; cases hk⟩⟩
        · rw [decide_eq_false z2]
          exact iteT (bad fun z => z2 (z.1 k1 z1))
    · rintro σ G ⟨o5, rfl, rfl, done⟩
      rw [List.length_map, ul, List.take_length] at done
      refine ⟨_, rfl, LP, _, rfl, .inl (SqL.of pe.l), _, rfl, by rw [List.length_map]; omega, by rw [List.length_map]; omega, ?_⟩
      rw [List.length_map, tl, Int.toNat_natCast]
      refine for_range0 (fun i σ G' => ∃ o6 o7, σ = [some (.ref LP), some (.ref LR), some (.ref LT), some (.ref D1), some (.ref D2), o5, o6, o7] ∧ G' = G ∧ ∀ j x, j < i → bk.ps[j]? = some x → ChOk h' ms j x) ⟨none, none, rfl, rfl, fun j x z => absurd z (Nat.not_lt_zero _)⟩ ?_ ?_
      · rintro i σ G' hi ⟨o6, o7, rfl, rfl, don⟩
        have hx : bk.ps[i]? = some bk.ps[i] := List.getElem?_eq_getElem hi
        generalize bk.ps[i] = x at hx
        obtain ⟨t, ht, at', gt⟩ := pe.at_ hx
        have ai := at_ i hi
        have nx : ChOk h' ms i x → ∀ j y, j < i + 1 → bk.ps[j]? = some y → ChOk h' ms j y := fun cq j y hj hy => by
          rcases Nat.lt_or_ge j i with z | z
          · exact don j y z hy
          · have : j = i := by omega
            subst this
            rw [hx] at hy
            cases Option.some.inj hy
            exact cq
        have bad : ¬ ChOk h' ms i x → Q (.bl false) G' := fun z => k false ⟨fun y => (by cases y), fun F => absurd (F.ch i x hx) z⟩
        walk_at "ns"
        refine ⟨_, rfl, _, rfl, LP, _, _, _, rfl, rfl, SqL.of pe.l, at', t, _, 1, _, rfl, rfl, SqT.of gt, rfl, ?_⟩
        walk_at "ns"
        cases hq : x.2 with
        | none =>
          have e9 : faV x = .non := by unfold faV; rw [hq]
          rw [e9]
          exact ⟨_, rfl, rfl, _, rfl, iteF ⟨_, _, rfl, rfl, nx fun q z => by rw [hq] at z; cases z⟩⟩
        | some q =>
          have e9 : faV x = nat q.1 := by unfold faV; rw [hq]
          rw [e9]
          have m1 := (ok.par x (List.mem_of_getElem? hx) q hq).1.lt
          have a1 := at_ q.1 m1
          refine ⟨_, rfl, rfl, _, rfl, iteT ?_⟩
          cases z1 : oat ms q.1 with
          | none =>
            rw [z1] at a1
            refine ⟨_, rfl, _, rfl, LT, _, _, _, rfl, rfl, SqL.of gT, a1, rfl, _, rfl, iteT ?_⟩
            refine ⟨_, rfl, _, rfl, LT, _, _, _, rfl, rfl, SqL.of gT, ai, rfl, _, rfl, ?_⟩
            rw [optV_non]
            cases z2 : oat ms i with
            | none =>
              refine iteF ?_
              refine ⟨_, rfl, _, rfl, LT, _, _, _, rfl, rfl, SqL.of gT, a1, rfl, _, rfl, iteF ?_⟩
              exact ⟨_, _, rfl, rfl, nx fun q' z => by
                rw [hq] at z
                cases Option.some.inj z
                exact ⟨fun k hk => (by rw [z1] at hk; cases hk), fun _ => z2⟩⟩
            | some k2 => exact iteT (bad fun z => by rw [(z q hq).2 z1] at z2; cases z2)
          | some k1 =>
            rw [z1] at a1
            have lk := mlt _ _ z1
            refine ⟨_, rfl, _, rfl, LT, _, _, _, rfl, rfl, SqL.of gT, a1, rfl, _, rfl, iteF ?_⟩
            refine ⟨_, rfl, _, rfl, LT, _, _, _, rfl, rfl, SqL.of gT, a1, rfl, _, rfl, iteT ?_⟩
            refine ⟨_, rfl, _, rfl, LT, _, _, _, rfl, rfl, SqL.of gT, ai, _, rfl, _, rfl, _, rfl, LT, _, _, _, rfl, rfl, SqL.of gT, a1, D2, _, _, _, rfl, rfl, SqL.of g2, atI_nat (natL_get (fw_get th lk)), by cases oat ms i <;> rfl, _, rfl, ?_⟩
            rw [optV_nat]
            by_cases z2 : oat ms i = some (fw h' k1)
            · rw [decide_eq_true z2]
              exact iteF ⟨_, _, rfl, rfl, nx fun q' z => by
                rw [hq] at z
                cases Option.some.inj z
                exact ⟨fun k hk => (by rw [z1] at hk; cases Option.some.inj hk; exact z2), fun hk => by rw [z1] at hk; cases hk⟩⟩
            · rw [decide_eq_false z2]
              exact iteT (bad fun z => z2 ((z q hq).1 k1 z1))
      · rintro σ G' ⟨o6, o7, rfl, rfl, don⟩
        exact k true ⟨fun _ => ⟨done, fun i x hx => don i x (List.getElem?_eq_some_iff.mp hx).1 hx⟩, fun _ => rfl⟩
end


--CUT
/-! who hangs together, walked by the law -/
def spTogether : Sp := fun vs H Q _ => ∃ (LP LR : Addr) (ts us : List Addr) (bk : Bk) (a : Nat), vs = [.ref LP, .ref LR, nat a] ∧ PeopleAt H LP ts bk.ps ∧ PairsAt H LR us bk.prs ∧ BkOk bk ∧ a < bk.ps.length ∧
  ∀ D xs H', H D = none → Same H H' → H' D = some (.lst (natL xs)) → (∀ b, b ∈ xs ↔ Hang bk a b) → xs.Nodup → Q (.ref D) H'
/-- near lists: those next to here, and here itself at most -/
def NbL (bk : Bk) (here : Nat) (l : List Nat) : Prop := ∀ b ∈ l, Nb bk here b ∨ b = here
theorem cut1 (x : Per) : cutV (perT x) (some 1) none = [faV x, moV x] := rfl
theorem inV_two (a : Nat) (q : Nat × Nat) : inV (nat a) (prT q) = decide (a = q.1 ∨ a = q.2) := by
  unfold inV prT
  show ((((q.1 : Int) == (a : Int)) || (((q.2 : Int) == (a : Int)) || false))) = _
  rw [Bool.or_false, Bool.eq_iff_iff, Bool.or_eq_true, decide_eq_true_iff]
  constructor
  · rintro (z | z)
    · exact .inl (by have := eq_of_beq z; omega)
    · exact .inr (by have := eq_of_beq z; omega)
  · rintro (rfl | rfl)
    · exact .inl (by simp)
    · exact .inr (by simp)
theorem inV_par (a : Nat) (x : Per) : inV (nat a) [faV x, moV x] = true ↔ ∃ q, x.2 = some q ∧ (a = q.1 ∨ a = q.2) := by
  unfold faV moV
  cases hq : x.2 with
  | none =>
    constructor
    · intro z; cases z
    · rintro ⟨q, z, _⟩; cases z
  | some q =>
    show inV (nat a) (prT q) = true ↔ _
    rw [inV_two, decide_eq_true_iff]
    exact ⟨fun z => ⟨q, rfl, z⟩, fun ⟨q', z, y⟩ => by cases Option.some.inj z; exact y⟩
theorem par_flat (x : Per) : [faV x, moV x].all flatV = true := by
  unfold faV moV
  cases x.2 <;> rfl
def isKid (bk : Bk) (a i : Nat) : Bool := match bk.ps[i]? with
  | some y => inV (nat a) [faV y, moV y]
  | none => false
theorem isKid_eq {bk : Bk} {a i : Nat} {y : Per} (h : bk.ps[i]? = some y) : isKid bk a i = inV (nat a) [faV y, moV y] := by unfold isKid; rw [h]
def parL (x : Per) : List Nat := match x.2 with
  | none => []
  | some q => [q.1, q.2]
theorem par_list (x : Per) : ((List.range [faV x, moV x].length).filter (fun j => match [faV x, moV x][j]? with
    | some v => !decide (v = V.non)
    | none => false)).map (fun j => match [faV x, moV x][j]? with
    | some v => v
    | none => V.non) = natL (parL x) := by
  unfold faV moV parL
  cases x.2 with
  | none => rfl
  | some q => rfl
section
variable {fv : List (Str × Nat)} {σ : St} {tc : TTB} {te : TEB}
theorem comp_tupF {K : PySem.W.Frag} {a : Addr} {xs : List V} {H1 : Hp} {Q : VK} (p : Nat → Bool) (f : Nat → V) (ga : H1 a = some (.tup xs)) (hn : xs.length ≤ sizeLine)
    (ct : ∀ (i : Nat) (x : V) (H' : Hp) (R : Bool → Hp → Prop), xs[i]? = some x → Same H1 H' → (∀ H2, Same H' H2 → R (p i) H2) → ∀ s₀ H₀ ex, tc s₀ H₀ ex (blkS fv σ (some x)) H' R)
    (el : ∀ (i : Nat) (x : V) (H' : Hp) (R : VK), xs[i]? = some x → p i = true → Same H1 H' → (∀ H2, Same H' H2 → R (f i) H2) → ∀ s₀ H₀ ex, te s₀ H₀ ex (blkS fv σ (some x)) H' R)
    (fin : ∀ D H2, H1 D = none → Same H1 H2 → H2 D = some (.lst (((List.range xs.length).filter p).map f)) → Q (.ref D) H2) : tCompF fv tc te σ (Itt K a) H1 Q := by
  intro D hD
  have sd : ∀ {H2 : Hp} {o : HO}, Same H1 H2 → Same H1 (upd H2 D o) := fun {H2 o} s b u e => by
    rw [upd_ne (ne_of_none e hD)]; exact s b u e
  refine ⟨fun i m ys H => m = xs.length - i ∧ i ≤ xs.length ∧ ys = ((List.range i).filter p).map f ∧ Same H1 H ∧ H D = some (.lst ys), ⟨xs.length, by simp, Nat.zero_le _, rfl, sd (Same.refl H1), upd_same⟩, ?_⟩
  rintro i m ys H ⟨rfl, hi, rfl, sm, hDi⟩
  have hq' : SqT K H a xs := SqT.of (sm _ _ ga)
  refine ⟨hDi, ?_⟩
  by_cases hlt : i < xs.length
  · have len : (((List.range i).filter p).map f).length ≤ i := by
      rw [List.length_map]
      exact Nat.le_trans (List.length_filter_le _ _) (by rw [List.length_range]; exact Nat.le_refl _)
    refine .inr ⟨⟨xs, xs[i], hq', by simp [hlt]⟩, by omega, fun x H' y => ?_⟩
    obtain ⟨e, y⟩ := y
    subst e
    have hx := y xs hq'
    intro s₀ H₀ ex
    refine ct i x _ _ hx sm (fun H2 s2 => ?_) s₀ H₀ ex
    cases q : p i with
    | false =>
      refine ⟨xs.length - (i + 1), by omega, rfl, hlt, ?_, sm.trans s2, s2 D _ hDi⟩
      rw [List.range_succ, List.filter_append, List.map_append, List.filter_cons_of_neg (by rw [q]; decide), List.filter_nil, List.map_nil, List.append_nil]
    | true =>
      refine el i x H2 _ hx q (sm.trans s2) (fun H3 s3 => ⟨s3 D _ (s2 D _ hDi), xs.length - (i + 1), by omega, rfl, hlt, ?_, sd ((sm.trans s2).trans s3), upd_same⟩) s₀ H₀ ex
      rw [List.range_succ, List.filter_append, List.map_append, List.filter_cons_of_pos q, List.filter_nil]
      rfl
  · have e : i = xs.length := by omega
    subst e
    exact .inl ⟨⟨xs, hq', Nat.le_refl _⟩, fin D H hD sm hDi⟩
end
section
variable {P : Program} {w : World} {K : PySem.W.Frag} {mg : Str → Option Value} {base : Heap} {CX : CXT} {C : Addr} {e : Ad}
theorem sc_together : FnScope ["people", "pairs", "a", "found", "at", "here", "near", "two", "b"] ["people", "pairs", "a"] (defScope (top 42)) := ⟨rfl, rfl, rfl, by decide +kernel, rfl, by decide +kernel, by decide +kernel⟩
theorem ok_together {f : Addr} {fd : FuncData} (F : Fun K "_law_together" "_law_together" (top 42) f fd) (T : Txt K mg C e) : FnOk P w K mg base CX 1 f fd ["people", "pairs", "a"] spTogether := by
  refine F.okN sc_together (fun vs H Q E h => ?_) (fun cdv A outer s H vs Q E hr h => ?_)
  · obtain ⟨LP, LR, ts, us, bk, a, rfl, _⟩ := h; rfl
  · obtain ⟨LP, LR, ts, us, bk, a, rfl, pe, pa, ok, la, k⟩ := h
    have nd := sc_together.nd
    have n60 := ok.n60
    have pl := ok.pl
    have ul := pa.len
    have tl := pe.len
    have big : 4000 ≤ sizeLine := by decide
    refine ⟨_, (pss_cons (ps_set (i := 3) nd rfl (Or.inl rfl) (pe_lst (pa_cons (pv 2) pa_nil)))
      (pss_cons (ps_set (i := 4) nd rfl (Or.inl rfl) pe_int)
      (pss_cons (ps_while PassesOwn.never (pt_cmpR op_lt (pv 4) (pe_callB call_len_seq rfl T.z_len PySem.boot_len (pa_cons (pv 3) pa_nil)) (nomark _)) (pss_cons (ps_set (i := 5) nd rfl (Or.inr rfl) (pe_ix ix_list (pv 3) (pv 4) (fun _ _ => rfl)))
      (pss_cons (ps_set (i := 4) nd rfl (Or.inl rfl) (pe_op op_add (pv 4) pe_int))
      (pss_cons (ps_setCompF (i := 6) nd rfl (Or.inl rfl) (fv := []) ⟨rfl, by decide +kernel, rfl, by decide +kernel, rfl, by decide +kernel, trivial, rfl, rfl⟩ rfl (pi_tup (pe_slice sl_tup (pe_ix ix_list (pv 0) (pv 5) (fun _ _ => rfl)) (po_some pe_int) po_none)) (fun _ _ _ => (pv 0)) (fun _ _ _ => (pt_cmpR op_notN (pv 0) pe_non (nomark _))))
      (pss_cons (ps_set (i := 6) nd rfl (Or.inl rfl) (pe_op op_cat (pv 6) (pe_compF (fv := [("here", 5), ("people", 0)]) ⟨rfl, by decide +kernel, rfl, by decide +kernel, rfl, by decide +kernel, ⟨⟨rfl, Or.inl rfl, Or.inl rfl, rfl⟩, ⟨⟨rfl, Or.inl rfl, Or.inl rfl, rfl⟩, trivial⟩⟩, rfl, rfl⟩ rfl (pi_range1 rfl T.z_range (pa_cons (pe_callB call_len_seq rfl T.z_len PySem.boot_len (pa_cons (pv 0) pa_nil)) pa_nil)) (fun _ _ _ => (pv 0)) (fun _ _ _ => (pt_cmpR op_in_seq (pv 1) (pe_slice sl_tup (pe_ix ix_list (pv 2) (pv 0) (fun _ _ => rfl)) (po_some pe_int) po_none) (by with_unfolding_all rfl))))))
      (pss_cons (ps_for PassesOwn.never rfl (pi_list (pv 1)) (pg_name (i := 7) nd rfl (Or.inl rfl)) (pss_one (ps_if (pt_cmpR op_in_seq (pv 5) (pv 7) (by with_unfolding_all rfl)) (pss_one (ps_set (i := 6) nd rfl (Or.inl rfl) (pe_op op_cat (pv 6) (pe_callTy call_list_of rfl T.z_list bt_list (pa_cons (pv 7) pa_nil))))) pss_nil)))
      (pss_one (ps_for PassesOwn.never rfl (pi_list (pv 6)) (pg_name (i := 8) nd rfl (Or.inl rfl)) (pss_one (ps_if (pt_cmpR op_notIn_seq (pv 8) (pv 3) (by with_unfolding_all rfl)) (pss_one (ps_expr (pe_bm PySem.F.plainAttrs_list PySem.F.slot_list_append PySem.F.type_list_append mt_append (pv 3) (pa_cons (pv 8) pa_nil)))) pss_nil))))))))))
      (pss_one (ps_ret (pe_callB call_sorted rfl T.z_sorted bt_sorted (pa_cons (pv 3) pa_nil))))))), ?_⟩
    refine ⟨_, rfl, one_fits, fun Df hDf => ?_⟩
    have s1 : Same H (upd H Df (.lst [nat a])) := same_new hDf
    have g1 : (upd H Df (.lst [nat a])) Df = some (.lst (natL [a])) := upd_same
    generalize upd H Df (.lst [nat a]) = H1 at s1 g1
    walk_at "ns"
    walk_at "ns"
    refine ⟨fun m σ G => ∃ xs at' o5 o6 o7 o8, m = bk.ps.length - at' ∧ σ = [some (.ref LP), some (.ref LR), some (nat a), some (.ref Df), some (nat at'), o5, o6, o7, o8] ∧ Same H G ∧ G Df = some (.lst (natL xs)) ∧ at' ≤ xs.length ∧ xs.Nodup ∧ a ∈ xs ∧ (∀ b ∈ xs, Hang bk a b) ∧ ∀ j b, j < at' → xs[j]? = some b → ∀ b', Nb bk b b' → b' ∈ xs,
      ⟨_, [a], 0, none, none, none, none, rfl, rfl, s1, g1, Nat.zero_le _, List.nodup_cons.mpr ⟨fun z => (by cases z), List.nodup_nil⟩, List.mem_singleton.mpr rfl, fun b hb => by rw [List.mem_singleton.mp hb]; exact .here, fun j b z => absurd z (Nat.not_lt_zero _)⟩, ?_⟩
    rintro m σ G ⟨xs, at', o5, o6, o7, o8, rfl, rfl, sG, gf, lx, nx, ax, sx, cx⟩
    have xl : xs.length ≤ bk.ps.length := nodup_len _ _ nx fun b hb => (sx b hb).lt ok la
    refine ⟨_, rfl, _, rfl, Df, _, rfl, .inl (SqL.of gf), _, _, rfl, rfl, _, rfl, ?_⟩
    rw [natL_len]
    refine iteD2 (fun hlt => ?_) (fun hge => ?_)
    · have hlt : at' < xs.length := by omega
      have hh : xs[at']? = some xs[at'] := List.getElem?_eq_getElem hlt
      generalize xs[at'] = here at hh
      have lh := (sx here (List.mem_of_getElem? hh)).lt ok la
      have hx : bk.ps[here]? = some bk.ps[here] := List.getElem?_eq_getElem lh
      generalize bk.ps[here] = x at hx
      refine ⟨fun σ' G' => ∃ m', m' < bk.ps.length - at' ∧ ∃ xs at' o5 o6 o7 o8, m' = bk.ps.length - at' ∧ σ' = [some (.ref LP), some (.ref LR), some (nat a), some (.ref Df), some (nat at'), o5, o6, o7, o8] ∧ Same H G' ∧ G' Df = some (.lst (natL xs)) ∧ at' ≤ xs.length ∧ xs.Nodup ∧ a ∈ xs ∧ (∀ b ∈ xs, Hang bk a b) ∧ ∀ j b, j < at' → xs[j]? = some b → ∀ b', Nb bk b b' → b' ∈ xs, fun σ' G' h => h, ?_⟩
      refine ⟨_, rfl, _, rfl, Df, _, _, _, rfl, rfl, SqL.of gf, atI_nat (natL_get hh), ?_⟩
      walk_at "ns"
      refine ⟨_, rfl, _, _, rfl, rfl, ?_⟩
      walk_at "ns"
      -- the parents
      obtain ⟨t, ht, att, gt⟩ := (pe.same sG).at_ hx
      refine ⟨_, rfl, _, rfl, LP, _, _, _, rfl, rfl, SqL.of (pe.same sG).l, att, _, rfl, t, _, rfl, SqT.of gt, ?_, fun t2 ht2 => ?_⟩
      · rintro ⟨z, _⟩; exact absurd z (show ¬ HT.sIx 3 0 (some 1) = 0 by decide)
      rw [cut1]
      have s2 : Same G (upd G t2 (.tup [faV x, moV x])) := same_new ht2
      have g2 : (upd G t2 (.tup [faV x, moV x])) t2 = some (.tup [faV x, moV x]) := upd_same
      generalize upd G t2 (.tup [faV x, moV x]) = G2 at s2 g2
      refine ⟨t2, rfl, ⟨_, SqT.of g2⟩, ?_⟩
      refine comp_tupF (fun j => match [faV x, moV x][j]? with
        | some v => !decide (v = V.non)
        | none => false) (fun j => match [faV x, moV x][j]? with
        | some v => v
        | none => V.non) g2 (show 2 ≤ sizeLine by omega) (fun j v H' R hj sm kk _ _ _ => ?_) (fun j v H' R hj pj sm kk _ _ _ => ?_) fun D1 G3 hD1 s3 g3 => ?_
      · rw [hj] at kk
        exact ⟨_, rfl, rfl, _, rfl, kk _ (Same.refl _)⟩
      · rw [hj] at kk
        exact ⟨_, rfl, kk _ (Same.refl _)⟩
      rw [par_list] at g3
      have sG3 := sG.trans (s2.trans s3)
      walk_at "ns"
      -- the children
      have pe3 := pe.same sG3
      refine ⟨_, rfl, _, rfl, LP, _, rfl, .inl (SqL.of pe3.l), _, rfl, by rw [List.length_map]; omega, by rw [List.length_map]; omega, ?_⟩
      rw [List.length_map, tl, Int.toNat_natCast]
      refine comp_rangeF0 (isKid bk here) nat (by omega) (fun i H' R hi sm kk _ _ _ => ?_) (fun i H' R hi pi sm kk _ _ _ => ⟨_, rfl, kk _ (Same.refl _)⟩) fun D2 G4 hD2 s4 g4 => ?_
      · have hy : bk.ps[i]? = some bk.ps[i] := List.getElem?_eq_getElem hi
        generalize bk.ps[i] = y at hy
        obtain ⟨ty, hty, aty, gty⟩ := (pe3.same sm).at_ hy
        rw [isKid_eq hy] at kk
        refine ⟨_, rfl, _, rfl, _, rfl, LP, _, _, _, rfl, rfl, SqL.of (pe3.same sm).l, aty, _, rfl, ty, _, rfl, SqT.of gty, ?_, fun t3 ht3 => ?_⟩
        · rintro ⟨z, _⟩; exact absurd z (show ¬ HT.sIx 3 0 (some 1) = 0 by decide)
        rw [cut1]
        exact ⟨t3, _, rfl, .inr (SqT.of upd_same), rfl, par_flat y, _, rfl, kk _ (same_new ht3)⟩
      have g4 : G4 D2 = some (.lst (natL ((List.range bk.ps.length).filter (isKid bk here)))) := g4
      have kl : ((List.range bk.ps.length).filter (isKid bk here)).length ≤ bk.ps.length := Nat.le_trans (List.length_filter_le _ _) (by rw [List.length_range]; exact Nat.le_refl _)
      have pl2 : (parL x).length ≤ 2 := by unfold parL; cases x.2 <;> simp
      refine ⟨D1, D2, _, _, rfl, rfl, s4 _ _ g3, g4, by rw [natL_len, natL_len]; omega, fun D3 hD3 => ?_⟩
      rw [show natL (parL x) ++ natL ((List.range bk.ps.length).filter (isKid bk here)) = natL (parL x ++ (List.range bk.ps.length).filter (isKid bk here)) by unfold natL; rw [List.map_append]]
      generalize hnr : parL x ++ (List.range bk.ps.length).filter (isKid bk here) = nr0
      have nl0 : nr0.length ≤ 62 := by rw [← hnr, List.length_append]; omega
      have par0 : ∀ q, x.2 = some q → q.1 ∈ nr0 ∧ q.2 ∈ nr0 := fun q e => by
        have : parL x = [q.1, q.2] := by unfold parL; rw [e]
        rw [← hnr, this]
        exact ⟨by simp, by simp⟩
      have kid0 : ∀ b y q, bk.ps[b]? = some y → y.2 = some q → (here = q.1 ∨ here = q.2) → b ∈ nr0 := fun b y q hy e o => by
        rw [← hnr]
        refine List.mem_append_right _ (List.mem_filter.mpr ⟨List.mem_range.mpr (List.getElem?_eq_some_iff.mp hy).1, ?_⟩)
        rw [isKid_eq hy]
        exact (inV_par here y).mpr ⟨q, e, o⟩
      have snd0 : NbL bk here nr0 := fun b hb => by
        rw [← hnr] at hb
        rcases List.mem_append.mp hb with z | z
        · refine .inl ?_
          cases e : x.2 with
          | none => unfold parL at z; rw [e] at z; cases z
          | some q =>
            unfold parL at z; rw [e] at z
            refine .inr (.inr (.inr ⟨x, q, hx, e, ?_⟩))
            simpa using z
        · obtain ⟨z1, z2⟩ := List.mem_filter.mp z
          have lb : b < bk.ps.length := List.mem_range.mp z1
          have hy : bk.ps[b]? = some bk.ps[b] := List.getElem?_eq_getElem lb
          rw [isKid_eq hy] at z2
          obtain ⟨q, e, o⟩ := (inV_par here _).mp z2
          exact .inl (.inr (.inr (.inl ⟨_, q, hy, e, o⟩)))
      have s5 : Same G (upd G4 D3 (.lst (natL nr0))) := (s2.trans (s3.trans s4)).trans (same_new hD3)
      have g5 : (upd G4 D3 (.lst (natL nr0))) D3 = some (.lst (natL nr0)) := upd_same
      have f5 : G D3 = none := (s2.trans (s3.trans s4)).free hD3
      generalize upd G4 D3 (.lst (natL nr0)) = G5 at s5 g5
      have sG5 := sG.trans s5
      have pa5 := pa.same sG5
      walk_at "ns"
      -- the couples
      refine ⟨_, rfl, LR, rfl, ⟨_, SqL.of pa5.l⟩, for_list (xs := us.map V.ref) (fun j σ G6 => ∃ nr Dn o7, σ = [some (.ref LP), some (.ref LR), some (nat a), some (.ref Df), some (nat (at' + 1)), some (nat here), some (.ref Dn), o7, o8] ∧ Same G G6 ∧ G Dn = none ∧ G6 Dn = some (.lst (natL nr)) ∧ NbL bk here nr ∧ (∀ b ∈ nr0, b ∈ nr) ∧ (∀ q ∈ bk.prs.take j, (here = q.1 ∨ here = q.2) → q.1 ∈ nr ∧ q.2 ∈ nr) ∧ nr.length ≤ 62 + 2 * j) ⟨nr0, D3, _, rfl, s5, f5, g5, snd0, fun b hb => hb, fun q z => (by simp at z), nl0⟩ (fun m σ G6 _ ⟨_, _, _, _, s6, _⟩ => SqL.of ((sG.trans s6) _ _ pa.l)) ?_ ?_⟩
      · rintro j v σ G6 hj ⟨nr, Dn, o7', rfl, s6, fn, gn, snd, sub, cpl, nl⟩
        obtain ⟨u, q, rfl, hq, gu⟩ := pr_at (pa.same (sG.trans s6)) hj
        have inq := List.mem_of_getElem? hq
        have jl : j < bk.prs.length := (List.getElem?_eq_some_iff.mp hq).1
        have tk : ∀ r, r ∈ bk.prs.take (j + 1) → r ∈ bk.prs.take j ∨ r = q := fun r hr => by
          rw [List.take_add_one, hq] at hr
          rcases List.mem_append.mp hr with z | z
          · exact .inl z
          · exact .inr (by simpa using z)
        walk_at "ns"
        refine ⟨_, rfl, _, rfl, u, _, rfl, .inr (SqT.of gu), rfl, rfl, _, rfl, ?_⟩
        show if inV (nat here) (prT q) = true then _ else _
        rw [inV_two]
        refine iteD2 (fun hin => ?_) (fun hno => ?_)
        · refine ⟨_, rfl, _, rfl, u, _, rfl, .inr (SqT.of gu), fun l1 h1 => ?_⟩
          refine ⟨Dn, l1, _, _, rfl, rfl, same_new h1 _ _ gn, upd_same, by rw [natL_len]; show nr.length + 2 ≤ sizeLine; omega, fun D7 hD7 => ?_⟩
          rw [show natL nr ++ prT q = natL (nr ++ [q.1, q.2]) by unfold natL; rw [List.map_append]; rfl]
          have s7 := s6.trans ((same_new (o := .lst (prT q)) h1).trans (same_new (o := .lst (natL (nr ++ [q.1, q.2]))) hD7))
          refine ⟨nr ++ [q.1, q.2], D7, _, rfl, s7, (s6.trans (same_new (o := .lst (prT q)) h1)).free hD7, upd_same, fun b hb => ?_, fun b hb => List.mem_append_left _ (sub b hb), fun r hr o => ?_, by rw [List.length_append]; show nr.length + 2 ≤ _; omega⟩
          · rcases List.mem_append.mp hb with z | z
            · exact snd b z
            · simp only [List.mem_cons, List.not_mem_nil, or_false] at z
              rcases z with rfl | rfl
              · rcases hin with e | e
                · exact .inr e.symm
                · exact .inl (.inr (.inl (by rw [e]; exact inq)))
              · rcases hin with e | e
                · exact .inl (.inl (by rw [e]; exact inq))
                · exact .inr e.symm
          · rcases tk r hr with z | rfl
            · exact ⟨List.mem_append_left _ (cpl r z o).1, List.mem_append_left _ (cpl r z o).2⟩
            · exact ⟨by simp, by simp⟩
        · refine ⟨nr, Dn, _, rfl, s6, fn, gn, snd, sub, fun r hr o => ?_, by omega⟩
          rcases tk r hr with z | rfl
          · exact cpl r z o
          · exact absurd o hno
      rintro σ G6 ⟨nr, Dn, o7', rfl, s6, fn, gn, snd, sub, cpl, nl⟩
      rw [List.length_map, ul, List.take_length] at cpl
      rw [List.length_map, ul] at nl
      have nDf : Dn ≠ Df := fun z => by rw [z, gf] at fn; cases fn
      have full : ∀ b, Nb bk here b → b ∈ nr := fun b N => by
        rcases N with z | z | ⟨y, q, hy, e, o⟩ | ⟨x', q, hx', e, o⟩
        · exact (cpl _ z (.inl rfl)).2
        · exact (cpl _ z (.inr rfl)).1
        · exact sub b (kid0 b y q hy e o)
        · rw [hx] at hx'
          cases Option.some.inj hx'
          rcases o with rfl | rfl
          · exact sub _ (par0 q e).1
          · exact sub _ (par0 q e).2
      walk_at "ns"
      -- those who are new
      refine ⟨_, rfl, Dn, rfl, ⟨_, SqL.of gn⟩, for_list (xs := natL nr) (fun j σ G7 => ∃ ys o8, σ = [some (.ref LP), some (.ref LR), some (nat a), some (.ref Df), some (nat (at' + 1)), some (nat here), some (.ref Dn), o7', o8] ∧ (∀ c o, G6 c = some o → c ≠ Df → G7 c = some o) ∧ G7 Df = some (.lst (natL ys)) ∧ ys.Nodup ∧ (∀ b ∈ ys, Hang bk a b) ∧ (∃ r, ys = xs ++ r) ∧ ∀ b ∈ nr.take j, b ∈ ys) ⟨xs, _, rfl, fun c o h _ => h, s6 _ _ gf, nx, sx, ⟨[], (List.append_nil _).symm⟩, fun b z => by simp at z⟩ (fun m σ G7 _ ⟨_, _, _, kp, _⟩ => SqL.of (kp _ _ gn nDf)) ?_ ?_⟩
      · rintro j v σ G7 hj ⟨ys, o8', rfl, kp, gy, ny, sy, ⟨r, er⟩, iy⟩
        obtain ⟨b, hb, rfl⟩ : ∃ t, nr[j]? = some t ∧ v = nat t := by
          unfold natL at hj
          rw [List.getElem?_map] at hj
          obtain ⟨t, ht, rfl⟩ := Option.map_eq_some_iff.mp hj
          exact ⟨t, ht, rfl⟩
        have tk : ∀ d, d ∈ nr.take (j + 1) → d ∈ nr.take j ∨ d = b := fun d hd => by
          rw [List.take_add_one, hb] at hd
          rcases List.mem_append.mp hd with z | z
          · exact .inl z
          · exact .inr (by simpa using z)
        have hgb : Hang bk a b := by
          rcases snd b (List.mem_of_getElem? hb) with z | z
          · exact .on (sx here (List.mem_of_getElem? hh)) z
          · rw [z]; exact sx here (List.mem_of_getElem? hh)
        have yl : ys.length ≤ bk.ps.length := nodup_len _ _ ny fun b hb => (sy b hb).lt ok la
        walk_at "ns"
        refine ⟨_, rfl, _, rfl, Df, _, rfl, .inl (SqL.of gy), rfl, natL_flat _, _, rfl, ?_⟩
        show if (!inV (nat b) (natL ys)) = true then _ else _
        rw [inV_natL]
        by_cases q : b ∈ ys
        · rw [decide_eq_true q]
          refine iteF ⟨ys, _, rfl, kp, gy, ny, sy, ⟨r, er⟩, fun d hd => ?_⟩
          rcases tk d hd with z | rfl
          · exact iy d z
          · exact q
        · rw [decide_eq_false q]
          refine iteT ⟨_, rfl, .inl ⟨rfl, _, SqL.of gy⟩, _, rfl, Df, _, _, rfl, rfl, gy, by rw [natL_len]; omega, ?_⟩
          rw [natLs]
          refine ⟨ys ++ [b], _, rfl, fun c o hc nc => by rw [upd_ne nc]; exact kp c o hc nc, upd_same, nsnoc ny q, fun d hd => ?_, ⟨r ++ [b], by rw [er, List.append_assoc]⟩, fun d hd => ?_⟩
          · rcases List.mem_append.mp hd with z | z
            · exact sy d z
            · rw [List.mem_singleton.mp z]; exact hgb
          · rcases tk d hd with z | rfl
            · exact List.mem_append_left _ (iy d z)
            · exact List.mem_append_right _ (List.mem_singleton.mpr rfl)
      rintro σ G7 ⟨ys, o8', rfl, kp, gy, ny, sy, ⟨r, er⟩, iy⟩
      rw [natL_len, List.take_length] at iy
      have s7 : Same H G7 := fun c o hc => kp c o ((sG.trans s6) _ _ hc) (fun z => by rw [z, hDf] at hc; cases hc)
      refine ⟨_, ?_, ys, at' + 1, _, _, _, _, rfl, rfl, s7, gy, ?_, ny, ?_, sy, fun j b hj hb b' N => ?_⟩
      · omega
      · rw [er, List.length_append]; omega
      · rw [er]; exact List.mem_append_left _ ax
      · rcases Nat.lt_or_ge j at' with z | z
        · have hb' : xs[j]? = some b := by rw [er, List.getElem?_append_left (by omega)] at hb; exact hb
          rw [er]; exact List.mem_append_left _ (cx j b z hb' b' N)
        · have : j = at' := by omega
          subst this
          have hb' : xs[j]? = some b := by rw [er, List.getElem?_append_left (by omega)] at hb; exact hb
          rw [hh] at hb'
          cases Option.some.inj hb'
          exact iy b' (full b' N)
    · have ea : at' = xs.length := by omega
      have all : ∀ b, b ∈ xs ↔ Hang bk a b := fun b => ⟨sx b, fun hg => by
        induction hg with
        | here => exact ax
        | on _ N ih =>
          obtain ⟨j, hj⟩ := List.getElem?_of_mem ih
          exact cx j _ (by rw [ea]; exact (List.getElem?_eq_some_iff.mp hj).1) hj _ N⟩
      refine ⟨_, rfl, Df, intL xs, rfl, by rw [← natL_intL]; exact SqL.of gf, by rw [intL_len]; omega, fun R1 ns hR1 hp hs => ?_⟩
      obtain ⟨r, er, pr, sr⟩ := toNats hp hs
      rw [er]
      exact k R1 r _ (sG.free hR1) (sG.trans (same_new hR1)) upd_same (fun b => by rw [pr.mem_iff]; exact all b) (pr.nodup_iff.mpr nx)
end


--CUT
/-! what one person tells, by the law's own account -/
structure NearOk (w h : List Nat) (bk : Bk) (a c : Nat) (L : List (Nat × Nat)) : Prop where
  snd : ∀ q ∈ L, Adj w h bk a c q.1 q.2 ∨ q = (a, c)
  all : ∀ b k, Adj w h bk a c b k → (b, k) ∈ L
def spLNear : Sp := fun vs H Q _ => ∃ (LP LR D1 D2 : Addr) (ts us : List Addr) (bk : Bk) (n : Nat) (w h : List Nat) (a c : Nat), vs = [.ref LP, .ref LR, .ref D1, .ref D2, nat a, nat c] ∧ PeopleAt H LP ts bk.ps ∧ PairsAt H LR us bk.prs ∧ BkOk bk ∧ H D1 = some (.lst (natL w)) ∧ H D2 = some (.lst (natL h)) ∧ IsTurn n w ∧ IsTurn n h ∧ a < bk.ps.length ∧ c < n ∧
  ∀ D rs (L : List (Nat × Nat)) H', H D = none → Same H H' → H' D = some (.lst (rs.map V.ref)) → TsAt H' rs (L.map prT) → NearOk w h bk a c L → L.length ≤ 2100 → Q (.ref D) H'
def grm (w : List Nat) (s : Bool) (c : Nat) : Nat := if s then c else bw w c
section
variable {n : Nat} {w h : List Nat} {bk : Bk} {a c : Nat} {x : Per}
theorem grm_lt (tw : IsTurn n w) (hc : c < n) {s : Bool} : grm w s c < n := by
  unfold grm
  split
  · exact hc
  · exact bw_lt tw hc
theorem near_pr (ok : BkOk bk) (tw : IsTurn n w) (hc : c < n) (hx : bk.ps[a]? = some x) {q : Nat × Nat} (hq : q ∈ bk.prs) (o : a = q.1 ∨ a = q.2) :
    (Adj w h bk a c q.1 (grm w x.1 c) ∨ (q.1, grm w x.1 c) = (a, c)) ∧ (Adj w h bk a c q.2 (fw w (grm w x.1 c)) ∨ (q.2, fw w (grm w x.1 c)) = (a, c)) := by
  obtain ⟨m, f⟩ := q
  rcases o with o | o
  · have o : a = m := o
    subst o
    have e : grm w x.1 c = c := by unfold grm; rw [ok.man hq hx]; rfl
    rw [e]
    exact ⟨.inr rfl, .inl (.wi hq)⟩
  · have o : a = f := o
    subst o
    have e : grm w x.1 c = bw w c := by unfold grm; rw [ok.woman hq hx]; rfl
    rw [e, fw_bw tw hc]
    exact ⟨.inl (.hu hq), .inr rfl⟩
theorem near_ch (ok : BkOk bk) (hx : bk.ps[a]? = some x) {b : Nat} {y : Per} {q : Nat × Nat} (hy : bk.ps[b]? = some y) (e : y.2 = some q) (o : a = q.1 ∨ a = q.2) : Adj w h bk a c b (fw h (grm w x.1 c)) := by
  obtain ⟨m, f⟩ := q
  have inp := (ok.par y (List.mem_of_getElem? hy) _ e).2.2
  rcases o with o | o
  · have o : a = m := o
    subst o
    have e' : grm w x.1 c = c := by unfold grm; rw [ok.man inp hx]; rfl
    rw [e']; exact .kf hy e
  · have o : a = f := o
    subst o
    have e' : grm w x.1 c = bw w c := by unfold grm; rw [ok.woman inp hx]; rfl
    rw [e']; exact .km hy e
/-- all that there is to be told -/
theorem near_all (ok : BkOk bk) (hx : bk.ps[a]? = some x) {L : List (Nat × Nat)} (pr : ∀ q ∈ bk.prs, (a = q.1 ∨ a = q.2) → (q.1, grm w x.1 c) ∈ L ∧ (q.2, fw w (grm w x.1 c)) ∈ L)
    (ch : ∀ b y q, bk.ps[b]? = some y → y.2 = some q → (a = q.1 ∨ a = q.2) → (b, fw h (grm w x.1 c)) ∈ L) (pa : ∀ q, x.2 = some q → (q.1, bw h c) ∈ L ∧ (q.2, fw w (bw h c)) ∈ L) {b k : Nat} (A : Adj w h bk a c b k) : (b, k) ∈ L := by
  cases A with
  | wi hq =>
    have e : grm w x.1 c = c := by unfold grm; rw [ok.man hq hx]; rfl
    have := (pr _ hq (.inl rfl)).2
    rw [e] at this; exact this
  | hu hq =>
    have e : grm w x.1 c = bw w c := by unfold grm; rw [ok.woman hq hx]; rfl
    have := (pr _ hq (.inr rfl)).1
    rw [e] at this; exact this
  | kf hy e =>
    have inp := (ok.par _ (List.mem_of_getElem? hy) _ e).2.2
    have e' : grm w x.1 c = c := by unfold grm; rw [ok.man inp hx]; rfl
    have := ch _ _ _ hy e (.inl rfl)
    rw [e'] at this; exact this
  | km hy e =>
    have inp := (ok.par _ (List.mem_of_getElem? hy) _ e).2.2
    have e' : grm w x.1 c = bw w c := by unfold grm; rw [ok.woman inp hx]; rfl
    have := ch _ _ _ hy e (.inr rfl)
    rw [e'] at this; exact this
  | fa hy e =>
    rw [hx] at hy; cases Option.some.inj hy
    exact (pa _ e).1
  | mo hy e =>
    rw [hx] at hy; cases Option.some.inj hy
    exact (pa _ e).2
end
section
variable {P : Program} {w : World} {K : PySem.W.Frag} {mg : Str → Option Value} {base : Heap} {CX : CXT} {C : Addr} {e : Ad}
theorem two_app {H : Hp} {rs : List Addr} {L : List (Nat × Nat)} (h : TsAt H rs (L.map prT)) {t1 t2 : Addr} {q1 q2 : Nat × Nat} (h1 : H t1 = some (.tup (prT q1))) (h2 : H t2 = some (.tup (prT q2))) : TsAt H (rs ++ [t1, t2]) ((L ++ [q1, q2]).map prT) := by
  have z := (h.snoc h1).snoc h2
  rw [List.append_assoc, List.append_assoc] at z
  rw [List.map_append]
  exact z
theorem if_join {b : Bool} {A B : TE} {σ : St} {H : Hp} {K : VK} {v : V} (h1 : b = true → ∀ K : VK, K v H → A σ H K) (h2 : b = false → ∀ K : VK, K v H → B σ H K) (k : K v H) : if b = true then A σ H K else B σ H K := by
  cases b with
  | true => rw [if_pos rfl]; exact h1 rfl K k
  | false => rw [if_neg Bool.false_ne_true]; exact h2 rfl K k
theorem sc_lnear : FnScope ["people", "pairs", "wives", "heirs", "a", "c", "groom", "found", "two", "b", "elder"] ["people", "pairs", "wives", "heirs", "a", "c"] (defScope (top 43)) := ⟨rfl, rfl, rfl, by decide +kernel, rfl, by decide +kernel, by decide +kernel⟩
theorem ok_lnear {f : Addr} {fd : FuncData} (F : Fun K "_law_near" "_law_near" (top 43) f fd) (T : Txt K mg C e) : FnOk P w K mg base CX 1 f fd ["people", "pairs", "wives", "heirs", "a", "c"] spLNear := by
  refine F.okN sc_lnear (fun vs H Q E h => ?_) (fun cdv A outer s H vs Q E hr h => ?_)
  · obtain ⟨LP, LR, D1, D2, ts, us, bk, n, w, h, a, c, rfl, _⟩ := h; rfl
  · obtain ⟨LP, LR, D1, D2, ts, us, bk, n, w', h', a, c, rfl, pe, pa, ok, g1, g2, tw, th, la, lc, k⟩ := h
    have nd := sc_lnear.nd
    have n60 := ok.n60
    have pl := ok.pl
    have ul := pa.len
    have tl := pe.len
    have big : 4000 ≤ sizeLine := by decide
    have hx : bk.ps[a]? = some bk.ps[a] := List.getElem?_eq_getElem la
    generalize bk.ps[a] = x at hx
    obtain ⟨t, ht, att, gt⟩ := pe.at_ hx
    have lg := grm_lt tw lc (s := x.1)
    have ix : ∀ {G : Hp} {D : Addr} {u : List Nat}, IsTurn n u → G D = some (.lst (natL u)) → SqL K G D ((intL u).map V.int) ∧ (c : Int) ∈ intL u := fun {G D u} tu g => ⟨by rw [← natL_intL]; exact SqL.of g, List.mem_map_of_mem (tu.mem.mpr lc)⟩
    refine ⟨_, (pss_cons (ps_set (i := 6) nd rfl (Or.inl rfl) (pe_ifExp (pt_cmpR op_eq (pe_ix ix_tup (pe_ix ix_list (pv 0) (pv 4) (fun _ _ => rfl)) pe_int (fun _ _ => rfl)) pe_str (nomark _)) (pv 5) (pe_bm PySem.F.plainAttrs_list PySem.F.slot_list_index PySem.F.type_list_index mt_index (pv 2) (pa_cons (pv 5) pa_nil))))
      (pss_cons (ps_set (i := 7) nd rfl (Or.inl rfl) (pe_lst pa_nil))
      (pss_cons (ps_for PassesOwn.never rfl (pi_list (pv 1)) (pg_name (i := 8) nd rfl (Or.inl rfl)) (pss_one (ps_if (pt_cmpR op_in_seq (pv 4) (pv 8) (by with_unfolding_all rfl)) (pss_one (ps_set (i := 7) nd rfl (Or.inl rfl) (pe_op op_cat (pv 7) (pe_lst (pa_cons (pe_tup (pa_cons (pe_ix ix_tup (pv 8) pe_int (fun _ _ => rfl)) (pa_cons (pv 6) pa_nil))) (pa_cons (pe_tup (pa_cons (pe_ix ix_tup (pv 8) pe_int (fun _ _ => rfl)) (pa_cons (pe_ix ix_list (pv 2) (pv 6) (fun _ _ => rfl)) pa_nil))) pa_nil)))))) pss_nil)))
      (pss_cons (ps_for PassesOwn.never rfl (pi_range1 rfl T.z_range (pa_cons (pe_callB call_len_seq rfl T.z_len PySem.boot_len (pa_cons (pv 0) pa_nil)) pa_nil)) (pg_name (i := 9) nd rfl (Or.inl rfl)) (pss_one (ps_if (pt_cmpR op_in_seq (pv 4) (pe_slice sl_tup (pe_ix ix_list (pv 0) (pv 9) (fun _ _ => rfl)) (po_some pe_int) po_none) (by with_unfolding_all rfl)) (pss_one (ps_expr (pe_bm PySem.F.plainAttrs_list PySem.F.slot_list_append PySem.F.type_list_append mt_append (pv 7) (pa_cons (pe_tup (pa_cons (pv 9) (pa_cons (pe_ix ix_list (pv 3) (pv 6) (fun _ _ => rfl)) pa_nil))) pa_nil)))) pss_nil)))
      (pss_cons (ps_if (pt_cmpR op_notN (pe_ix ix_tup (pe_ix ix_list (pv 0) (pv 4) (fun _ _ => rfl)) pe_int (fun _ _ => rfl)) pe_non (nomark _)) (pss_cons (ps_set (i := 10) nd rfl (Or.inl rfl) (pe_bm PySem.F.plainAttrs_list PySem.F.slot_list_index PySem.F.type_list_index mt_index (pv 3) (pa_cons (pv 5) pa_nil)))
      (pss_one (ps_set (i := 7) nd rfl (Or.inl rfl) (pe_op op_cat (pv 7) (pe_lst (pa_cons (pe_tup (pa_cons (pe_ix ix_tup (pe_ix ix_list (pv 0) (pv 4) (fun _ _ => rfl)) pe_int (fun _ _ => rfl)) (pa_cons (pv 10) pa_nil))) (pa_cons (pe_tup (pa_cons (pe_ix ix_tup (pe_ix ix_list (pv 0) (pv 4) (fun _ _ => rfl)) pe_int (fun _ _ => rfl)) (pa_cons (pe_ix ix_list (pv 2) (pv 10) (fun _ _ => rfl)) pa_nil))) pa_nil))))))) pss_nil)
      (pss_one (ps_ret (pv 7)))))))), ?_⟩
    refine ⟨_, rfl, _, rfl, LP, _, _, _, rfl, rfl, SqL.of pe.l, att, t, _, 0, _, rfl, rfl, SqT.of gt, rfl, rfl, _, rfl, if_join (v := nat (grm w' x.1 c)) (fun q K' kk => ⟨_, rfl, ?_⟩) (fun q K' kk => ⟨_, rfl, .inl ⟨rfl, _, SqL.of g1⟩, _, rfl, D1, intL w', (c : Int), rfl, rfl, (ix tw g1).1, (ix tw g1).2, ?_⟩) ?_⟩
    · rw [sex_man] at q
      unfold grm at kk; rw [q] at kk; exact kk
    · rw [sex_man] at q
      rw [idx_intL]
      unfold grm at kk; rw [q] at kk; exact kk
    generalize hgr : grm w' x.1 c = g at lg
    walk_at "ns"
    refine ⟨by decide, fun Df0 hDf0 => ?_⟩
    have s0 := same_new (o := .lst []) hDf0
    have f0 : (upd H Df0 (.lst [])) Df0 = some (.lst (([] : List Addr).map V.ref)) := upd_same
    generalize upd H Df0 (.lst []) = H0 at s0 f0
    walk_at "ns"
    refine ⟨_, rfl, LR, rfl, ⟨_, SqL.of (s0 _ _ pa.l)⟩, for_list (xs := us.map V.ref) (fun j σ G => ∃ (L : List (Nat × Nat)) (rs : List Addr) (Df : Addr) (o8 : Option V), σ = [some (.ref LP), some (.ref LR), some (.ref D1), some (.ref D2), some (nat a), some (nat c), some (nat g), some (.ref Df), o8, none, none] ∧ Same H G ∧ H Df = none ∧ G Df = some (.lst (rs.map V.ref)) ∧ TsAt G rs (L.map prT) ∧ (∀ q ∈ L, Adj w' h' bk a c q.1 q.2 ∨ q = (a, c)) ∧ (∀ q ∈ bk.prs.take j, (a = q.1 ∨ a = q.2) → (q.1, g) ∈ L ∧ (q.2, fw w' g) ∈ L) ∧ L.length ≤ 2 * j) ⟨[], [], Df0, none, rfl, s0, hDf0, f0, TsAt.nil, fun q z => (by cases z), fun q z => (by simp at z), Nat.le_refl _⟩ (fun m σ G _ ⟨_, _, _, _, _, sG, _⟩ => SqL.of (sG _ _ pa.l)) ?_ ?_⟩
    · rintro j v σ G hj ⟨L, rs, Df, o8, rfl, sG, hDf, gf, tL, snd, cpl, ll⟩
      obtain ⟨u, q, rfl, hq, gu⟩ := pr_at (pa.same sG) hj
      have inq := List.mem_of_getElem? hq
      have jl : j < bk.prs.length := (List.getElem?_eq_some_iff.mp hq).1
      have rl := tL.len
      rw [List.length_map] at rl
      have tk : ∀ r, r ∈ bk.prs.take (j + 1) → r ∈ bk.prs.take j ∨ r = q := fun r hr => by
        rw [List.take_add_one, hq] at hr
        rcases List.mem_append.mp hr with z | z
        · exact .inl z
        · exact .inr (by simpa using z)
      walk_at "ns"
      refine ⟨_, rfl, _, rfl, u, _, rfl, .inr (SqT.of gu), rfl, rfl, _, rfl, ?_⟩
      show if inV (nat a) (prT q) = true then _ else _
      rw [inV_two]
      refine iteD2 (fun hin => ?_) (fun hno => ?_)
      · refine ⟨_, rfl, _, rfl, u, _, 0, _, rfl, rfl, SqT.of gu, rfl, _, rfl, two_fits, fun t1 h1 => ?_⟩
        have s1 : Same G (upd G t1 (.tup [nat q.1, nat g])) := same_new h1
        have gt1 : (upd G t1 (.tup [nat q.1, nat g])) t1 = some (.tup (prT (q.1, g))) := upd_same
        generalize upd G t1 (.tup [nat q.1, nat g]) = G1 at s1 gt1
        refine ⟨_, rfl, u, _, 1, _, rfl, rfl, SqT.of (s1 _ _ gu), rfl, _, rfl, _, rfl, D1, _, _, _, rfl, rfl, SqL.of ((sG.trans s1) _ _ g1), atN tw lg, two_fits, fun t2 h2 => ?_⟩
        have s2 : Same G1 (upd G1 t2 (.tup [nat q.2, nat (fw w' g)])) := same_new h2
        have gt2 : (upd G1 t2 (.tup [nat q.2, nat (fw w' g)])) t2 = some (.tup (prT (q.2, fw w' g))) := upd_same
        generalize upd G1 t2 (.tup [nat q.2, nat (fw w' g)]) = G2 at s2 gt2
        refine ⟨two_fits, fun l hl => ?_⟩
        have s3 : Same G2 (upd G2 l (.lst [.ref t1, .ref t2])) := same_new hl
        have g3 : (upd G2 l (.lst [.ref t1, .ref t2])) l = some (.lst ([t1, t2].map V.ref)) := upd_same
        generalize upd G2 l (.lst [.ref t1, .ref t2]) = G3 at s3 g3
        have s13 := s1.trans (s2.trans s3)
        refine ⟨Df, l, _, _, rfl, rfl, s13 _ _ gf, g3, by rw [List.length_map, List.length_map]; show rs.length + 2 ≤ sizeLine; omega, fun D' hD' => ?_⟩
        rw [← List.map_append]
        have s4 := same_new (o := .lst ((rs ++ [t1, t2]).map V.ref)) hD'
        have s14 := s13.trans s4
        refine ⟨L ++ [(q.1, g), (q.2, fw w' g)], rs ++ [t1, t2], D', _, rfl, sG.trans s14, (sG.trans s13).free hD', upd_same, two_app (tL.same s14) ((s2.trans (s3.trans s4)) _ _ gt1) ((s3.trans s4) _ _ gt2), fun r hr => ?_, fun r hr o => ?_, by rw [List.length_append]; show L.length + 2 ≤ _; omega⟩
        · have np := near_pr (h := h') ok tw lc hx inq hin
          rw [hgr] at np
          rcases List.mem_append.mp hr with z | z
          · exact snd r z
          · simp only [List.mem_cons, List.not_mem_nil, or_false] at z
            rcases z with rfl | rfl
            · exact np.1
            · exact np.2
        · rcases tk r hr with z | rfl
          · exact ⟨List.mem_append_left _ (cpl r z o).1, List.mem_append_left _ (cpl r z o).2⟩
          · exact ⟨by simp, by simp⟩
      · refine ⟨L, rs, Df, _, rfl, sG, hDf, gf, tL, snd, fun r hr o => ?_, by omega⟩
        rcases tk r hr with z | rfl
        · exact cpl r z o
        · exact absurd o hno
    rintro σ G ⟨L, rs, Df, o8, rfl, sG, hDf, gf, tL, snd, cpl, ll⟩
    rw [List.length_map, ul, List.take_length] at cpl
    rw [List.length_map, ul] at ll
    -- children
    have peG := pe.same sG
    refine ⟨_, rfl, LP, _, rfl, .inl (SqL.of peG.l), _, rfl, by rw [List.length_map]; omega, by rw [List.length_map]; omega, ?_⟩
    rw [List.length_map, tl, Int.toNat_natCast]
    refine for_range0 (fun i σ G' => ∃ (L' : List (Nat × Nat)) (rs' : List Addr) (o9 : Option V), σ = [some (.ref LP), some (.ref LR), some (.ref D1), some (.ref D2), some (nat a), some (nat c), some (nat g), some (.ref Df), o8, o9, none] ∧ Same H G' ∧ G' Df = some (.lst (rs'.map V.ref)) ∧ TsAt G' rs' (L'.map prT) ∧ (∀ q ∈ L', Adj w' h' bk a c q.1 q.2 ∨ q = (a, c)) ∧ (∀ q ∈ L, q ∈ L') ∧ (∀ b y q, b < i → bk.ps[b]? = some y → y.2 = some q → (a = q.1 ∨ a = q.2) → (b, fw h' g) ∈ L') ∧ L'.length ≤ 2000 + i) ⟨L, rs, none, rfl, sG, gf, tL, snd, fun q z => z, fun b y q z => absurd z (Nat.not_lt_zero _), by omega⟩ ?_ ?_
    · rintro i σ G' hi ⟨L', rs', o9, rfl, sG', gf', tL', snd', sub', chd, ll'⟩
      have hy : bk.ps[i]? = some bk.ps[i] := List.getElem?_eq_getElem hi
      generalize bk.ps[i] = y at hy
      have pe' := pe.same sG'
      obtain ⟨ty, hty, aty, gty⟩ := pe'.at_ hy
      have rl := tL'.len
      rw [List.length_map] at rl
      walk_at "ns"
      refine ⟨_, rfl, _, rfl, _, rfl, LP, _, _, _, rfl, rfl, SqL.of pe'.l, aty, _, rfl, ty, _, rfl, SqT.of gty, ?_, fun t3 ht3 => ?_⟩
      · rintro ⟨z, _⟩; exact absurd z (show ¬ HT.sIx 3 0 (some 1) = 0 by decide)
      rw [cut1]
      have s1 : Same G' (upd G' t3 (.tup [faV y, moV y])) := same_new ht3
      have gt3 : (upd G' t3 (.tup [faV y, moV y])) t3 = some (.tup [faV y, moV y]) := upd_same
      generalize upd G' t3 (.tup [faV y, moV y]) = G1 at s1 gt3
      refine ⟨t3, _, rfl, .inr (SqT.of gt3), rfl, par_flat y, _, rfl, ?_⟩
      show if inV (nat a) [faV y, moV y] = true then _ else _
      refine iteB (fun hk => ?_) (fun hk => ?_)
      · obtain ⟨q, e, o⟩ := (inV_par a y).mp hk
        refine ⟨_, rfl, .inl ⟨rfl, _, SqL.of (s1 _ _ gf')⟩, _, rfl, _, rfl, _, rfl, D2, _, _, _, rfl, rfl, SqL.of ((sG'.trans s1) _ _ g2), atN th lg, two_fits, fun t4 ht4 => ?_⟩
        have s2 : Same G1 (upd G1 t4 (.tup [nat i, nat (fw h' g)])) := same_new ht4
        have gt4 : (upd G1 t4 (.tup [nat i, nat (fw h' g)])) t4 = some (.tup (prT (i, fw h' g))) := upd_same
        generalize upd G1 t4 (.tup [nat i, nat (fw h' g)]) = G2 at s2 gt4
        have s12 := s1.trans s2
        have gf2 := s12 _ _ gf'
        refine ⟨Df, _, _, rfl, rfl, gf2, by rw [List.length_map]; omega, ?_⟩
        have nt4 : t4 ≠ Df := fun z => by rw [z, gf2] at gt4; cases gt4
        refine ⟨L' ++ [(i, fw h' g)], rs' ++ [t4], _, rfl, same_upd (sG'.trans s12) hDf, by rw [upd_same, List.map_append]; rfl, ?_, fun r hr => ?_, fun r hr => List.mem_append_left _ (sub' r hr), fun b y' q' hb hy' e' o' => ?_, by rw [List.length_append]; show L'.length + 1 ≤ _; omega⟩
        · rw [List.map_append]
          refine TsAt.snoc ((tL'.same s12).keep fun p xs hp ho => ?_) (by rw [upd_ne nt4]; exact gt4)
          rw [upd_ne (fun z => by rw [z, gf2] at ho; cases ho)]; exact ho
        · rcases List.mem_append.mp hr with z | z
          · exact snd' r z
          · rw [List.mem_singleton.mp z]
            have := near_ch (w := w') (h := h') (c := c) ok hx hy e o
            rw [hgr] at this
            exact .inl this
        · by_cases z : b = i
          · subst z; exact List.mem_append_right _ (List.mem_singleton.mpr rfl)
          · exact List.mem_append_left _ (chd b y' q' (by omega) hy' e' o')
      · refine ⟨L', rs', _, rfl, sG'.trans s1, s1 _ _ gf', tL'.same s1, snd', sub', fun b y' q' hb hy' e' o' => ?_, by omega⟩
        by_cases z : b = i
        · subst z
          rw [hy] at hy'
          cases Option.some.inj hy'
          have := (inV_par a y).mpr ⟨q', e', o'⟩
          rw [hk] at this; cases this
        · exact chd b y' q' (by omega) hy' e' o'
    rintro σ G' ⟨L', rs', o9, rfl, sG', gf', tL', snd', sub', chd, ll'⟩
    -- parents
    have pe' := pe.same sG'
    obtain ⟨t', ht', att', gt'⟩ := pe'.at_ hx
    have rl := tL'.len
    rw [List.length_map] at rl
    have pr0 : ∀ q ∈ bk.prs, (a = q.1 ∨ a = q.2) → (q.1, grm w' x.1 c) ∈ L' ∧ (q.2, fw w' (grm w' x.1 c)) ∈ L' := fun q hq o => by rw [hgr]; exact ⟨sub' _ (cpl q hq o).1, sub' _ (cpl q hq o).2⟩
    have ch0 : ∀ b y q, bk.ps[b]? = some y → y.2 = some q → (a = q.1 ∨ a = q.2) → (b, fw h' (grm w' x.1 c)) ∈ L' := fun b y q hy e o => by rw [hgr]; exact chd b y q (List.getElem?_eq_some_iff.mp hy).1 hy e o
    refine ⟨_, rfl, _, rfl, LP, _, _, _, rfl, rfl, SqL.of pe'.l, att', t', _, 1, _, rfl, rfl, SqT.of gt', rfl, rfl, _, rfl, ?_⟩
    cases hq : x.2 with
    | none =>
      have e9 : faV x = .non := by unfold faV; rw [hq]
      rw [e9]
      refine iteF ⟨_, rfl, k Df rs' L' G' hDf sG' gf' tL' ⟨snd', fun b k A => near_all ok hx pr0 ch0 (fun q e => by rw [hq] at e; cases e) A⟩ (by omega)⟩
    | some q =>
      have e9 : faV x = nat q.1 := by unfold faV; rw [hq]
      have e8 : moV x = nat q.2 := by unfold moV; rw [hq]
      rw [e9]
      refine iteT ⟨_, rfl, .inl ⟨rfl, _, SqL.of (sG' _ _ g2)⟩, _, rfl, D2, intL h', (c : Int), rfl, rfl, (ix th (sG' _ _ g2)).1, (ix th (sG' _ _ g2)).2, ?_⟩
      rw [idx_intL, show List.idxOf c h' = bw h' c from rfl]
      have lb := bw_lt th lc
      generalize hbw : bw h' c = el at lb
      walk_at "ns"
      refine ⟨_, rfl, _, rfl, _, rfl, LP, _, _, _, rfl, rfl, SqL.of pe'.l, att', t', _, 1, _, rfl, rfl, SqT.of gt', rfl, _, rfl, two_fits, fun t1 h1 => ?_⟩
      rw [e9]
      have s1 : Same G' (upd G' t1 (.tup [nat q.1, nat (el)])) := same_new h1
      have gt1 : (upd G' t1 (.tup [nat q.1, nat (el)])) t1 = some (.tup (prT (q.1, el))) := upd_same
      refine ⟨_, rfl, _, rfl, LP, _, _, _, rfl, rfl, SqL.of (s1 _ _ pe'.l), att', t', _, 2, _, rfl, rfl, SqT.of (s1 _ _ gt'), rfl, _, rfl, _, rfl, D1, _, _, _, rfl, rfl, SqL.of ((sG'.trans s1) _ _ g1), atN tw lb, two_fits, fun t2 h2 => ?_⟩
      rw [e8]
      generalize upd G' t1 (.tup [nat q.1, nat (el)]) = G1 at s1 gt1 h2
      have s2 : Same G1 (upd G1 t2 (.tup [nat q.2, nat (fw w' el)])) := same_new h2
      have gt2 : (upd G1 t2 (.tup [nat q.2, nat (fw w' el)])) t2 = some (.tup (prT (q.2, fw w' el))) := upd_same
      generalize upd G1 t2 (.tup [nat q.2, nat (fw w' el)]) = G2 at s2 gt2
      refine ⟨two_fits, fun l hl => ?_⟩
      have s3 : Same G2 (upd G2 l (.lst [.ref t1, .ref t2])) := same_new hl
      have g3 : (upd G2 l (.lst [.ref t1, .ref t2])) l = some (.lst ([t1, t2].map V.ref)) := upd_same
      generalize upd G2 l (.lst [.ref t1, .ref t2]) = G3 at s3 g3
      have s13 := s1.trans (s2.trans s3)
      refine ⟨Df, l, _, _, rfl, rfl, s13 _ _ gf', g3, by rw [List.length_map, List.length_map]; show rs'.length + 2 ≤ sizeLine; omega, fun D' hD' => ?_⟩
      rw [← List.map_append]
      have s4 := same_new (o := .lst ((rs' ++ [t1, t2]).map V.ref)) hD'
      have s14 := s13.trans s4
      refine ⟨_, rfl, k D' (rs' ++ [t1, t2]) (L' ++ [(q.1, el), (q.2, fw w' el)]) _ ((sG'.trans s13).free hD') (sG'.trans s14) upd_same (two_app (tL'.same s14) ((s2.trans (s3.trans s4)) _ _ gt1) ((s3.trans s4) _ _ gt2)) ⟨fun r hr => ?_, fun b k A => ?_⟩ (by rw [List.length_append]; show L'.length + 2 ≤ _; omega)⟩
      · rcases List.mem_append.mp hr with z | z
        · exact snd' r z
        · simp only [List.mem_cons, List.not_mem_nil, or_false] at z
          rcases z with rfl | rfl
          · exact .inl (by rw [← hbw]; exact .fa hx hq)
          · exact .inl (by rw [← hbw]; exact .mo hx hq)
      · exact near_all ok hx (fun r hr o => ⟨List.mem_append_left _ (pr0 r hr o).1, List.mem_append_left _ (pr0 r hr o).2⟩) (fun b y r hy e o => List.mem_append_left _ (ch0 b y r hy e o)) (fun r e => by
          rw [hq] at e
          cases Option.some.inj e
          rw [hbw]
          exact ⟨by simp, by simp⟩) A
end


--CUT
/-! a clash, walked by the law -/
def KvIs (kvs : List (Key × V)) (ms : List (Option Nat)) : Prop := ∀ b : Nat, valV kvs (Sum.inl (b : Int)) = (oat ms b).map nat
theorem oat_set_self {ms : List (Option Nat)} {b k : Nat} (lb : b < ms.length) : oat (ms.set b (some k)) b = some k := oat_some.mpr (List.getElem?_set_self lb)
theorem oat_set_ne {ms : List (Option Nat)} {b k b' : Nat} (ne : b' ≠ b) : oat (ms.set b (some k)) b' = oat ms b' := by
  unfold oat
  rw [List.getElem?_set_ne (Ne.symm ne)]
theorem KvIs.put {kvs : List (Key × V)} {ms : List (Option Nat)} (h : KvIs kvs ms) {b k : Nat} (lb : b < ms.length) : KvIs (putK kvs (Sum.inl (b : Int)) (nat k)) (ms.set b (some k)) := fun b' => by
  rw [valV_put]
  by_cases e : b' = b
  · subst e; rw [if_pos rfl, oat_set_self lb]; rfl
  · rw [if_neg (fun z => e (by have := Sum.inl.inj z; omega)), h b', oat_set_ne e]
theorem Told.no_clash {w h : List Nat} {bk : Bk} {a c : Nat} {ms : List (Option Nat)} (T : Told w h bk a c ms) : ¬ Clash w h bk a c := by
  rintro ⟨b, k, k', t1, t2, ne⟩
  have e1 := (T.all b k).mpr t1
  rw [(T.all b k').mpr t2] at e1
  exact ne (Option.some.inj (Option.some.inj e1)).symm
theorem drop_snoc {l : List Nat} {i b : Nat} (h : i ≤ l.length) : (l ++ [b]).drop i = l.drop i ++ [b] := List.drop_append_of_le_length h
def spClash : Sp := fun vs H Q _ => ∃ (LP LR LT D1 D2 : Addr) (ts us : List Addr) (bk : Bk) (n : Nat) (w h : List Nat) (a c : Nat), vs = [.ref LP, .ref LR, .ref LT, nat a, nat c] ∧ PeopleAt H LP ts bk.ps ∧ PairsAt H LR us bk.prs ∧ BkOk bk ∧ H LT = some (.lst [.ref D1, .ref D2]) ∧ H D1 = some (.lst (natL w)) ∧ H D2 = some (.lst (natL h)) ∧ IsTurn n w ∧ IsTurn n h ∧ a < bk.ps.length ∧ c < n ∧
  ∀ (b : Bool) H', Same H H' → (b = true ↔ Clash w h bk a c) → Q (.bl b) H'
section
variable {P : Program} {w : World} {K : PySem.W.Frag} {mg : Str → Option Value} {base : Heap} {CX : CXT} {C : Addr} {e : Ad}
theorem sc_clash : FnScope ["people", "pairs", "turns", "a", "c", "told", "line", "at", "here", "b", "kind"] ["people", "pairs", "turns", "a", "c"] (defScope (top 44)) := ⟨rfl, rfl, rfl, by decide +kernel, rfl, by decide +kernel, by decide +kernel⟩
theorem ok_clash {f : Addr} {fd : FuncData} (F : Fun K "_law_clash" "_law_clash" (top 44) f fd) (T : Txt K mg C e) (hE : NoE (CXR P w)) (D__law_near : Def P w K mg base (CXR P w) "_law_near" 1 ["people", "pairs", "wives", "heirs", "a", "c"] spLNear) : FnOk P w K mg base (CXR P w) 2 f fd ["people", "pairs", "turns", "a", "c"] spClash := by
  refine F.okN sc_clash (fun vs H Q E h => ?_) (fun cdv A outer s H vs Q E hr h => ?_)
  · obtain ⟨LP, LR, LT, D1, D2, ts, us, bk, n, w, h, a, c, rfl, _⟩ := h; rfl
  · obtain ⟨LP, LR, LT, D1, D2, ts, us, bk, n, w', h', a, c, rfl, pe, pa, ok, gT, g1, g2, tw, th, la, lc, k⟩ := h
    have nd := sc_clash.nd
    have n60 := ok.n60
    have big : 4000 ≤ sizeLine := by decide
    refine ⟨_, (pss_cons (ps_set (i := 5) nd rfl (Or.inl rfl) (pe_disp (pps_cons (pv 3) (pv 4) pps_nil) rfl rfl (by simp) (by decide)))
      (pss_cons (ps_set (i := 6) nd rfl (Or.inl rfl) (pe_lst (pa_cons (pv 3) pa_nil)))
      (pss_cons (ps_set (i := 7) nd rfl (Or.inl rfl) pe_int)
      (pss_cons (ps_while PassesOwn.never (pt_cmpR op_lt (pv 7) (pe_callB call_len_seq rfl T.z_len PySem.boot_len (pa_cons (pv 6) pa_nil)) (nomark _)) (pss_cons (ps_set (i := 8) nd rfl (Or.inl rfl) (pe_ix ix_list (pv 6) (pv 7) (fun _ _ => rfl)))
      (pss_cons (ps_set (i := 7) nd rfl (Or.inl rfl) (pe_op op_add (pv 7) pe_int))
      (pss_one (ps_for PassesOwn.never rfl (pi_list (pe_callD D__law_near hE hr rfl (pa_cons (pv 0) (pa_cons (pv 1) (pa_cons (pe_ix ix_list (pv 2) pe_int (fun _ _ => rfl)) (pa_cons (pe_ix ix_list (pv 2) pe_int (fun _ _ => rfl)) (pa_cons (pv 8) (pa_cons (pe_dget (hu_of hr) (pv 5) (pv 8) (fun _ _ => rfl)) pa_nil)))))))) (pg_tup rfl (pgs_cons (pg_name (i := 9) nd rfl (Or.inl rfl)) (pgs_cons (pg_name (i := 10) nd rfl (Or.inl rfl)) pgs_nil))) (pss_cons (ps_if (pt_cmpR op_ne (pe_dget2 (hu_of hr) (pv 5) (pv 9) (pv 10) ⟨rfl, rfl, rfl, rfl⟩) (pv 10) (nomark _)) (pss_one (ps_ret pe_bl)) pss_nil)
      (pss_one (ps_if (pt_cmp (pc_dnotin (hu_of hr) (pv 9) (pv 5))) (pss_cons (ps_dput (hu_of hr) (pv 5) (pv 9) (pv 10) rfl)
      (pss_one (ps_expr (pe_bm PySem.F.plainAttrs_list PySem.F.slot_list_append PySem.F.type_list_append mt_append (pv 6) (pa_cons (pv 9) pa_nil))))) pss_nil))))))))
      (pss_one (ps_ret pe_bl)))))), ?_⟩
    -- told = {a: c}
    intro Dd hDd
    refine ⟨_, rfl, _, rfl, upd_same, [(Sum.inl (a : Int), nat c)], rfl, (show 1 ≤ 15 by decide), ?_⟩
    have gd0 : (upd (upd H Dd (.dK [])) Dd (.dK (mergeK [] [(Sum.inl (a : Int), nat c)]))) Dd = some (.dK [(Sum.inl (a : Int), nat c)]) := upd_same
    have s1 : Same H (upd (upd H Dd (.dK [])) Dd (.dK (mergeK [] [(Sum.inl (a : Int), nat c)]))) := same_upd (same_new hDd) hDd
    generalize upd (upd H Dd (.dK [])) Dd (.dK (mergeK [] [(Sum.inl (a : Int), nat c)])) = H1 at gd0 s1
    walk_at "ns"
    refine ⟨_, rfl, one_fits, fun Dl hDl => ?_⟩
    have ndl : Dd ≠ Dl := ne_of_none gd0 hDl
    have hDlH : H Dl = none := s1.free hDl
    have s2 : Same H (upd H1 Dl (.lst [nat a])) := s1.trans (same_new hDl)
    have gl0 : (upd H1 Dl (.lst [nat a])) Dl = some (.lst (natL [a])) := upd_same
    have gd1 : (upd H1 Dl (.lst [nat a])) Dd = some (.dK [(Sum.inl (a : Int), nat c)]) := by rw [upd_ne ndl]; exact gd0
    generalize upd H1 Dl (.lst [nat a]) = H2 at s2 gl0 gd1
    walk_at "ns"
    walk_at "ns"
    have te1 := te_start (w := w') (h := h') la (c := c)
    have ms0 := te1.st
    refine ⟨fun m σ G => ∃ ms kvs ln at' o8 o9 o10, m = bk.ps.length - at' ∧ σ = [some (.ref LP), some (.ref LR), some (.ref LT), some (nat a), some (nat c), some (.ref Dd), some (.ref Dl), some (nat at'), o8, o9, o10] ∧ Same H G ∧ G Dd = some (.dK kvs) ∧ KvIs kvs ms ∧ kvs.length ≤ ln.length ∧ G Dl = some (.lst (natL ln)) ∧ at' ≤ ln.length ∧ ln.Nodup ∧ (∀ b ∈ ln, ∃ k, ms[b]? = some (some k)) ∧ TeAt w' h' bk a c ms (ln.drop at') fun _ => False,
      ⟨_, _, _, [a], 0, none, none, none, rfl, rfl, s2, gd1, ?_, (show 1 ≤ 1 by decide), gl0, Nat.zero_le _, List.nodup_cons.mpr ⟨fun z => (by cases z), List.nodup_nil⟩, fun b hb => ⟨c, by rw [List.mem_singleton.mp hb]; exact ms0⟩, te1⟩, ?_⟩
    · intro b
      by_cases e : b = a
      · subst e; rw [oat_some.mpr ms0]; exact valV_pos rfl
      · rw [valV_neg (fun z => e (by have := Sum.inl.inj z; omega)), oat_set_ne e]
        unfold oat
        rw [List.getElem?_replicate]
        split <;> rfl
    rintro m σ G ⟨ms, kvs, ln, at', o8, o9, o10, rfl, rfl, sG, gd, kv, kl, gl, al, nl, lso, te⟩
    have tlt : ∀ b k, ms[b]? = some (some k) → b < bk.ps.length ∧ k < n := fun b k hb => (te.sound b k hb).lt ok tw th la lc
    have ll : ln.length ≤ bk.ps.length := nodup_len _ _ nl fun b hb => by obtain ⟨k, hk⟩ := lso b hb; exact (tlt b k hk).1
    refine ⟨_, rfl, _, rfl, Dl, _, rfl, .inl (SqL.of gl), _, _, rfl, rfl, _, rfl, ?_⟩
    rw [natL_len]
    refine iteD2 (fun hlt => ?_) (fun hge => ?_)
    · have hlt : at' < ln.length := by omega
      have hh : ln[at']? = some ln[at'] := List.getElem?_eq_getElem hlt
      have hdr : ln.drop at' = ln[at'] :: ln.drop (at' + 1) := List.drop_eq_getElem_cons hlt
      generalize ln[at'] = here at hh hdr
      obtain ⟨kh, hkh⟩ := lso here (List.mem_of_getElem? hh)
      obtain ⟨lh, lk⟩ := tlt _ _ hkh
      have dg : DGet G Dd (nat here) (some (nat kh)) := by
        have := DGet.k (k := Sum.inl (here : Int)) gd
        rw [kv here, oat_some.mpr hkh] at this
        exact this
      refine ⟨fun σ' G' => ∃ m', m' < bk.ps.length - at' ∧ ∃ ms kvs ln at' o8 o9 o10, m' = bk.ps.length - at' ∧ σ' = [some (.ref LP), some (.ref LR), some (.ref LT), some (nat a), some (nat c), some (.ref Dd), some (.ref Dl), some (nat at'), o8, o9, o10] ∧ Same H G' ∧ G' Dd = some (.dK kvs) ∧ KvIs kvs ms ∧ kvs.length ≤ ln.length ∧ G' Dl = some (.lst (natL ln)) ∧ at' ≤ ln.length ∧ ln.Nodup ∧ (∀ b ∈ ln, ∃ k, ms[b]? = some (some k)) ∧ TeAt w' h' bk a c ms (ln.drop at') fun _ => False, fun σ' G' h => h, ?_⟩
      refine ⟨_, rfl, _, rfl, Dl, _, _, _, rfl, rfl, SqL.of gl, atI_nat (natL_get hh), ?_⟩
      walk_at "ns"
      refine ⟨_, rfl, _, _, rfl, rfl, ?_⟩
      walk_at "ns"
      refine ⟨_, rfl, _, rfl, _, rfl, LT, _, 0, _, rfl, rfl, SqL.of (sG _ _ gT), rfl, _, rfl, LT, _, 1, _, rfl, rfl, SqL.of (sG _ _ gT), rfl, _, rfl, _, rfl, _, rfl, Dd, _, rfl, dg, LP, LR, D1, D2, ts, us, bk, n, w', h', here, kh, rfl, pe.same sG, pa.same sG, ok, sG _ _ g1, sG _ _ g2, tw, th, lh, lk, fun Dn rs L G1 hDn s3 gn tL nok lL => ?_⟩
      have rl := tL.len
      rw [List.length_map] at rl
      have gd1 := s3 _ _ gd
      have gl1 := s3 _ _ gl
      have nnd : Dn ≠ Dd := fun z => by rw [z, gd] at hDn; cases hDn
      have nnl : Dn ≠ Dl := fun z => by rw [z, gl] at hDn; cases hDn
      refine ⟨Dn, rfl, ⟨_, SqL.of gn⟩, for_list (xs := rs.map V.ref) (fun j σ G' => ∃ ms' kvs' ln' o9 o10, σ = [some (.ref LP), some (.ref LR), some (.ref LT), some (nat a), some (nat c), some (.ref Dd), some (.ref Dl), some (nat (at' + 1)), some (nat here), o9, o10] ∧ (∀ c o, G1 c = some o → c ≠ Dd → c ≠ Dl → G' c = some o) ∧ G' Dd = some (.dK kvs') ∧ KvIs kvs' ms' ∧ kvs'.length ≤ ln'.length ∧ G' Dl = some (.lst (natL ln')) ∧ at' + 1 ≤ ln'.length ∧ ln'.Nodup ∧ (∀ b ∈ ln', ∃ k, ms'[b]? = some (some k)) ∧ TeAt w' h' bk a c ms' (ln'.drop (at' + 1)) (fun d => d = here) ∧ ms'[here]? = some (some kh) ∧ ∀ q ∈ L.take j, ms'[q.1]? = some (some q.2)) ⟨ms, kvs, ln, _, _, rfl, fun c o h _ _ => h, gd1, kv, kl, gl1, hlt, nl, lso, ⟨te.len, te.st, te.sound, ?_, fun b hb => te.wso b (by rw [hdr]; exact List.mem_cons_of_mem _ hb), fun b k hb hn he => te.cl b k hb (fun z => ?_) id⟩, hkh, fun q z => by simp at z⟩ (fun m σ G' _ ⟨_, _, _, _, _, _, kp, _⟩ => SqL.of (kp _ _ gn nnd nnl)) ?_ ?_⟩
      · have := te.wnd
        rw [hdr] at this
        exact (List.nodup_cons.mp this).2
      · rw [hdr] at z
        rcases List.mem_cons.mp z with y | y
        · exact he y
        · exact hn y
      · rintro j v σ G' hj ⟨ms', kvs', ln', o9', o10', rfl, kp, gd', kv', kl', gl', al', nl', lso', te', hh', don⟩
        rw [List.getElem?_map] at hj
        obtain ⟨t, ht, rfl⟩ := Option.map_eq_some_iff.mp hj
        have lj : j < L.length := by rw [← rl]; exact (List.getElem?_eq_some_iff.mp ht).1
        have hq : L[j]? = some L[j] := List.getElem?_eq_getElem lj
        generalize L[j] = q at hq
        obtain ⟨b, kd⟩ := q
        have gt1 : G1 t = some (.tup (prT (b, kd))) := tL.at_ j t _ ht (by rw [List.getElem?_map, hq]; rfl)
        have gt : G' t = some (.tup (prT (b, kd))) := kp _ _ gt1 (fun z => by rw [z, gd1] at gt1; cases gt1) (fun z => by rw [z, gl1] at gt1; cases gt1)
        have tb : Tells w' h' bk a c b kd := by
          rcases nok.snd _ (List.mem_of_getElem? hq) with z | z
          · exact .on (te'.sound _ _ hh') z
          · have e1 := (Prod.mk.inj z).1
            have e2 := (Prod.mk.inj z).2
            rw [e1, e2]; exact te'.sound _ _ hh'
        obtain ⟨lb, lkd⟩ := tb.lt ok tw th la lc
        have tk : ∀ r, r ∈ L.take (j + 1) → r ∈ L.take j ∨ r = (b, kd) := fun r hr => by
          rw [List.take_add_one, hq] at hr
          rcases List.mem_append.mp hr with z | z
          · exact .inl z
          · exact .inr (by simpa using z)
        have l60 : ln'.length ≤ bk.ps.length := nodup_len _ _ nl' fun b hb => by obtain ⟨k, hk⟩ := lso' b hb; exact ((te'.sound b k hk).lt ok tw th la lc).1
        have sG' : Same H G' := fun c o hc => kp c o (s3 _ _ (sG _ _ hc)) (fun z => by rw [z, hDd] at hc; cases hc) (fun z => by rw [z, hDlH] at hc; cases hc)
        refine ⟨t, _, rfl, SqT.of gt, rfl, _, _, rfl, _, _, rfl, rfl, ?_⟩
        walk_at "ns"
        have dg2 : DGet G' Dd (nat b) ((oat ms' b).map nat) := by
          have := DGet.k (k := Sum.inl (b : Int)) gd'
          rw [kv' b] at this
          exact this
        refine ⟨_, rfl, Dd, rfl, .inl ⟨_, .inl gd'⟩, _, rfl, _, rfl, _, dg2, _, rfl, ?_⟩
        cases ob : oat ms' b with
        | some k1 =>
          rw [ob] at dg2
          have mb := oat_some.mp ob
          refine ⟨rfl, _, rfl, ?_⟩
          show if (!decide (nat k1 = nat kd)) = true then _ else _
          by_cases e1 : k1 = kd
          · subst e1
            rw [decide_eq_true rfl]
            refine iteF ?_
            refine ⟨_, rfl, _, rfl, Dd, _, rfl, dg2, _, rfl, iteF ?_⟩
            refine ⟨ms', kvs', ln', _, _, rfl, kp, gd', kv', kl', gl', al', nl', lso', te', hh', fun r hr => ?_⟩
            rcases tk r hr with z | rfl
            · exact don r z
            · exact mb
          · rw [decide_eq_false (fun z => e1 (by have := V.int.inj z; omega))]
            exact iteT (k true G' sG' ⟨fun _ => ⟨b, k1, kd, te'.sound _ _ mb, tb, e1⟩, fun _ => rfl⟩)
        | none =>
          rw [ob] at dg2
          have mb : ms'[b]? = some none := by
            have := oat_get (ms := ms') (i := b) (by rw [te'.len]; exact lb)
            rw [ob] at this; exact this
          refine ⟨rfl, _, rfl, ?_⟩
          show if (!decide (nat kd = nat kd)) = true then _ else _
          rw [decide_eq_true rfl]
          refine iteF ?_
          refine ⟨_, rfl, _, rfl, Dd, _, rfl, dg2, _, rfl, iteT ?_⟩
          refine ⟨_, rfl, _, rfl, _, rfl, Dd, _, rfl, DPut.k (k := Sum.inl (b : Int)) gd' (by omega), ?_⟩
          have gl2 : (upd G' Dd (.dK (putK kvs' (Sum.inl (b : Int)) (nat kd)))) Dl = some (.lst (natL ln')) := by rw [upd_ne (Ne.symm ndl)]; exact gl'
          refine ⟨_, rfl, .inl ⟨rfl, _, SqL.of gl2⟩, _, rfl, Dl, _, _, rfl, rfl, gl2, by rw [natL_len]; omega, ?_⟩
          rw [natLs]
          have te2 := te'.more mb tb
          rw [← drop_snoc al'] at te2
          have bn : b ∉ ln' := fun z => by
            obtain ⟨k', z⟩ := lso' b z
            rw [mb] at z; cases z
          refine ⟨ms'.set b (some kd), _, ln' ++ [b], _, _, rfl, fun c o hc c1 c2 => by rw [upd_ne c2, upd_ne c1]; exact kp c o hc c1 c2, by rw [upd_ne ndl]; exact upd_same, kv'.put (by rw [te'.len]; exact lb), ?_, upd_same, by rw [List.length_append]; show _ ≤ _ + 1; omega, nsnoc nl' bn, fun d hd => ?_, te2, set_keep mb hh', fun r hr => ?_⟩
          · have := length_putK kvs' (Sum.inl (b : Int)) (nat kd)
            rw [List.length_append]; show _ ≤ _ + 1; omega
          · rcases List.mem_append.mp hd with z | z
            · obtain ⟨k', z⟩ := lso' d z
              exact ⟨k', set_keep mb z⟩
            · rw [List.mem_singleton.mp z]; exact ⟨kd, List.getElem?_set_self (by rw [te'.len]; exact lb)⟩
          · rcases tk r hr with z | rfl
            · exact set_keep mb (don r z)
            · exact List.getElem?_set_self (by rw [te'.len]; exact lb)
      · rintro σ G' ⟨ms', kvs', ln', o9', o10', rfl, kp, gd', kv', kl', gl', al', nl', lso', te', hh', don⟩
        rw [List.length_map, rl, List.take_length] at don
        have sG' : Same H G' := fun c o hc => kp c o (s3 _ _ (sG _ _ hc)) (fun z => by rw [z, hDd] at hc; cases hc) (fun z => by rw [z, hDlH] at hc; cases hc)
        refine ⟨_, by omega, ms', kvs', ln', at' + 1, _, _, _, rfl, rfl, sG', gd', kv', kl', gl', al', nl', lso', te'.len, te'.st, te'.sound, te'.wnd, te'.wso, fun b k hb hn _ b' k' A => ?_⟩
        by_cases z : b = here
        · subst z
          rw [hh'] at hb
          cases Option.some.inj (Option.some.inj hb)
          exact don _ (nok.all _ _ A)
        · exact te'.cl b k hb hn z b' k' A
    · have ea : at' = ln.length := by omega
      have te0 := te
      rw [ea, List.drop_length] at te0
      exact k false G sG ⟨fun z => (by cases z), fun z => absurd z te0.told.no_clash⟩
end


--CUT
/-! what is refused, and what is asked of a told list -/
def spRefused12 (C : Addr) (e : Ad) : Sp := fun vs H Q _ => ∃ (p x : Addr) (fp : List Addr) (bk : Bk) (n : Nat) (w h : List Nat) (i z : Int) (b : Bool), vs = [.ref p, .ref x, .int i, .int z] ∧ BookAt e.Book H p fp bk ∧ TableAt C H x n w h ∧ Sn i ∧ Sn z ∧
  ((b = true ∧ ¬ InB bk i) ∨ (b = false ∧ InB bk i ∧ ¬ InC n z)) ∧ ∀ D H', H D = none → Same H H' → H' D = some (.lst [.bl b, .bl (!b)]) → Q (.ref D) H'
def spGoodL : Sp := fun vs H Q _ => ∃ (Lf LP LR LT D1 D2 : Addr) (ts us : List Addr) (bk : Bk) (n : Nat) (w h : List Nat) (a c : Nat) (ms : List (Option Nat)), vs = [.ref Lf, .ref LP, .ref LR, .ref LT, nat a, nat c] ∧ H Lf = some (.lst (ms.map optV)) ∧ PeopleAt H LP ts bk.ps ∧ PairsAt H LR us bk.prs ∧ BkOk bk ∧ H LT = some (.lst [.ref D1, .ref D2]) ∧ H D1 = some (.lst (natL w)) ∧ H D2 = some (.lst (natL h)) ∧ IsTurn n w ∧ IsTurn n h ∧ a < bk.ps.length ∧ c < n ∧ Told w h bk a c ms ∧
  ∀ H', Same H H' → Q (.bl true) H'
def spAsked (C : Addr) (e : Ad) : Sp := fun vs H Q _ => ∃ (b x LP LR LT D1 D2 : Addr) (fp ts us : List Addr) (bk : Bk) (n : Nat) (w h : List Nat) (a c : Nat), vs = [.ref b, .ref x, .ref LP, .ref LR, .ref LT, nat a, nat c] ∧ BookAt e.Book H b fp bk ∧ TableAt C H x n w h ∧ PeopleAt H LP ts bk.ps ∧ PairsAt H LR us bk.prs ∧ H LT = some (.lst [.ref D1, .ref D2]) ∧ H D1 = some (.lst (natL w)) ∧ H D2 = some (.lst (natL h)) ∧ a < bk.ps.length ∧ c < n ∧
  ∀ H', Same H H' → Q (.bl true) H'
section
variable {P : Program} {w : World} {K : PySem.W.Frag} {mg : Str → Option Value} {base : Heap} {CX : CXT} {C : Addr} {e : Ad}
theorem sc_refused12 : FnScope ["book", "table", "a", "c", "marks", "e"] ["book", "table", "a", "c"] (defScope (top 45)) := ⟨rfl, rfl, rfl, by decide +kernel, rfl, by decide +kernel, by decide +kernel⟩
theorem ok_refused12 {f : Addr} {fd : FuncData} (F : Fun K "_law_refused" "_law_refused" (top 45) f fd) (T : Txt K mg C e) (D_fitting : Def P w K mg base (CXR P w) "fitting" 7 ["book", "table", "a", "c"] (spFitting C e)) : FnOk P w K mg base (CXR P w) 8 f fd ["book", "table", "a", "c"] (spRefused12 C e) := by
  refine F.okN sc_refused12 (fun vs H Q E h => ?_) (fun cdv A outer s H vs Q E hr h => ?_)
  · obtain ⟨p, x, fp, bk, n, w, h, i, z, b, rfl, _⟩ := h; rfl
  · obtain ⟨p, x, fp, bk, n, w', h', i, z, b, rfl, BA, TA, si, sz, hb, k⟩ := h
    have nd := sc_refused12.nd
    refine ⟨_, (pss_cons (ps_set (i := 4) nd rfl (Or.inl rfl) (pe_lst pa_nil))
      (pss_cons (ps_try (i := 5) nd rfl rfl T.m_KinError rfl (fun _ _ => (pss_one (ps_expr (pe_callX D_fitting exitsT hr rfl (pa_cons (pv 0) (pa_cons (pv 1) (pa_cons (pv 2) (pa_cons (pv 3) pa_nil)))))))) (fun _ => (pss_one (ps_set (i := 4) nd rfl (Or.inl rfl) (pe_lst (pa_cons (pe_callB call_isinstX rfl T.z_isinstance bt_isinstance (pa_cons (pv 5) (pa_cons (pe_globC rfl T.m_NoPerson) pa_nil))) (pa_cons (pe_callB call_isinstX rfl T.z_isinstance bt_isinstance (pa_cons (pv 5) (pa_cons (pe_globC rfl T.m_NoClass) pa_nil))) pa_nil)))))))
      (pss_one (ps_ret (pv 4))))), ?_⟩
    refine ⟨by decide, fun D0 hD0 => ?_⟩
    have s0 : Same H (upd H D0 (.lst [])) := same_new hD0
    generalize upd H D0 (.lst []) = H0 at s0
    intro _
    have fin : ∀ (a : Addr) (b1 b2 : Bool) (D : Addr), H0 a = none → ∀ o, (upd H0 a o) D = none → b1 = b → b2 = !b → Q (.ref D) (upd (upd H0 a o) D (.lst [.bl b1, .bl b2])) := by
      rintro a b1 b2 D ha o hD rfl rfl
      have s2 := s0.trans (same_new ha (o := o))
      exact k D _ (s2.free hD) (s2.trans (same_new hD)) upd_same
    have pk : ¬ InB bk i → b = true := fun z => by rcases hb with q | q; exact q.1; exact absurd q.2.1 z
    have wk : InB bk i → b = false ∧ ¬ InC n z := fun z => by rcases hb with q | q; exact absurd z q.2; exact ⟨q.1, q.2.2⟩
    refine ⟨_, rfl, _, rfl, _, rfl, _, rfl, p, x, fp, bk, n, w', h', i, z, rfl, BA.same s0, TA.same s0, si, sz, fun hi hc => absurd hc (wk hi).2, fun ni => ⟨T.w_NoPerson, fun a ha => ?_⟩, fun hi nw => ⟨T.w_NoClass, fun a ha => ?_⟩⟩
    · exact ⟨_, rfl, a, _, _, _, _, rfl, upd_same, rfl, T.c_NoPerson, T.k_NoPerson_NoPerson, _, rfl, a, _, _, _, _, rfl, upd_same, rfl, T.c_NoPerson, T.k_NoPerson_NoClass, by decide, fun D hD => ⟨_, rfl, fin a _ _ D ha _ hD (pk ni).symm (by rw [pk ni]; rfl)⟩⟩
    · exact ⟨_, rfl, a, _, _, _, _, rfl, upd_same, rfl, T.c_NoClass, T.k_NoClass_NoPerson, _, rfl, a, _, _, _, _, rfl, upd_same, rfl, T.c_NoClass, T.k_NoClass_NoClass, by decide, fun D hD => ⟨_, rfl, fin a _ _ D ha _ hD (wk hi).1.symm (by rw [(wk hi).1]; rfl)⟩⟩
theorem sc_goodl : FnScope ["found", "people", "pairs", "turns", "a", "c", "kin", "b"] ["found", "people", "pairs", "turns", "a", "c"] (defScope (top 46)) := ⟨rfl, rfl, rfl, by decide +kernel, rfl, by decide +kernel, by decide +kernel⟩
theorem ok_goodl {f : Addr} {fd : FuncData} (F : Fun K "_law_list_good" "_law_list_good" (top 46) f fd) (T : Txt K mg C e) (hE : NoE (CXR P w)) (D__law_together : Def P w K mg base (CXR P w) "_law_together" 1 ["people", "pairs", "a"] spTogether) (D__law_whole : Def P w K mg base (CXR P w) "_law_whole" 1 ["found"] spWhole) (D__law_fits : Def P w K mg base (CXR P w) "_law_fits" 1 ["people", "pairs", "told", "wives", "heirs"] spFits) : FnOk P w K mg base (CXR P w) 2 f fd ["found", "people", "pairs", "turns", "a", "c"] spGoodL := by
  refine F.okN sc_goodl (fun vs H Q E h => ?_) (fun cdv A outer s H vs Q E hr h => ?_)
  · obtain ⟨Lf, LP, LR, LT, D1, D2, ts, us, bk, n, w, h, a, c, ms, rfl, _⟩ := h; rfl
  · obtain ⟨Lf, LP, LR, LT, D1, D2, ts, us, bk, n, w', h', a, c, ms, rfl, gf, pe, pa, ok, gT, g1, g2, tw, th, la, lc, TD, k⟩ := h
    have nd := sc_goodl.nd
    have n60 := ok.n60
    have tl := pe.len
    have big : 4000 ≤ sizeLine := by decide
    have hac : ms[a]? = some (some c) := (TD.all a c).mpr .here
    refine ⟨_, (pss_cons (ps_if (PW.pt (pw_or (pt_not (pt_val (pe_callB call_isinst rfl T.z_isinstance bt_isinstance (pa_cons (pv 0) (pa_cons (pe_bltn (v := .ty "list") rfl T.z_list bt_list rfl) pa_nil))))) (pw_or (pt_cmpR op_ne (pe_callB call_len_seq rfl T.z_len PySem.boot_len (pa_cons (pv 0) pa_nil)) (pe_callB call_len_seq rfl T.z_len PySem.boot_len (pa_cons (pv 1) pa_nil)) (nomark _)) (pw_or1 (pt_cmpR op_ne (pe_ix ix_list (pv 0) (pv 4) (fun _ _ => rfl)) (pv 5) (nomark _)))))) (pss_one (ps_ret pe_bl)) pss_nil)
      (pss_cons (ps_set (i := 6) nd rfl (Or.inl rfl) (pe_callD D__law_together hE hr rfl (pa_cons (pv 1) (pa_cons (pv 2) (pa_cons (pv 4) pa_nil)))))
      (pss_cons (ps_for PassesOwn.never rfl (pi_range1 rfl T.z_range (pa_cons (pe_callB call_len_seq rfl T.z_len PySem.boot_len (pa_cons (pv 1) pa_nil)) pa_nil)) (pg_name (i := 7) nd rfl (Or.inl rfl)) (pss_cons (ps_if (pt_cmpR op_ne (pe_cmpR op_notN (pe_ix ix_list (pv 0) (pv 7) (fun _ _ => rfl)) pe_non (nomark _)) (pe_cmpR op_in_seq (pv 7) (pv 6) (by with_unfolding_all rfl)) (nomark _)) (pss_one (ps_ret pe_bl)) pss_nil)
      (pss_one (ps_if (PW.pt (pw_and (pt_cmpR op_notN (pe_ix ix_list (pv 0) (pv 7) (fun _ _ => rfl)) pe_non (nomark _)) (pw_and1 (PW.pt (pw_or (pt_not (pt_val (pe_callD D__law_whole hE hr rfl (pa_cons (pe_ix ix_list (pv 0) (pv 7) (fun _ _ => rfl)) pa_nil)))) (pw_or1 (pt_not (pt_chain op_le op_lt pe_int (pe_ix ix_list (pv 0) (pv 7) (fun _ _ => rfl)) (pe_callB call_len_seq rfl T.z_len PySem.boot_len (pa_cons (pe_ix ix_list (pv 3) pe_int (fun _ _ => rfl)) pa_nil)))))))))) (pss_one (ps_ret pe_bl)) pss_nil))))
      (pss_one (ps_ret (pe_callD D__law_fits hE hr rfl (pa_cons (pv 1) (pa_cons (pv 2) (pa_cons (pv 0) (pa_cons (pe_ix ix_list (pv 3) pe_int (fun _ _ => rfl)) (pa_cons (pe_ix ix_list (pv 3) pe_int (fun _ _ => rfl)) pa_nil))))))))))), ?_⟩
    refine ⟨_, rfl, .ref Lf, "list", _, true, rfl, TyOf.lst gf, kit_same, _, rfl, iteF ?_⟩
    refine ⟨_, rfl, Lf, _, rfl, .inl (SqL.of gf), _, rfl, LP, _, rfl, .inl (SqL.of pe.l), rfl, _, rfl, ?_⟩
    rw [List.length_map, List.length_map, tl, TD.len, decide_eq_true rfl]
    refine iteF ?_
    refine ⟨_, rfl, _, rfl, Lf, _, _, _, rfl, rfl, SqL.of gf, opt_at hac, _, rfl, rfl, _, rfl, ?_⟩
    show if (!decide (nat c = nat c)) = true then _ else _
    rw [decide_eq_true rfl]
    refine iteF ?_
    refine ⟨_, rfl, _, rfl, _, rfl, LP, LR, ts, us, bk, a, rfl, pe, pa, ok, la, fun Dk xs G hDk sG gk mk nk => ?_⟩
    have gfG := sG _ _ gf
    walk_at "ns"
    refine ⟨_, rfl, LP, _, rfl, .inl (SqL.of (sG _ _ pe.l)), _, rfl, by rw [List.length_map]; omega, by rw [List.length_map]; omega, ?_⟩
    rw [List.length_map, tl, Int.toNat_natCast]
    refine for_range0 (fun i σ G' => ∃ o7, σ = [some (.ref Lf), some (.ref LP), some (.ref LR), some (.ref LT), some (nat a), some (nat c), some (.ref Dk), o7] ∧ G' = G) ⟨none, rfl, rfl⟩ ?_ ?_
    · rintro i σ G' hi ⟨o7, rfl, rfl⟩
      walk_at "ns"
      have gT' := sG _ _ gT
      have g1' := sG _ _ g1
      rcases TD.get hi with ⟨hm, hn⟩ | ⟨k1, hm, hg⟩
      · have ni : i ∉ xs := fun z => hn ((mk i).mp z)
        refine ⟨_, rfl, _, rfl, Lf, _, _, _, rfl, rfl, SqL.of gfG, opt_at hm, rfl, _, rfl, _, rfl, Dk, _, rfl, .inl (SqL.of gk), rfl, natL_flat _, rfl, _, rfl, ?_⟩
        show if (!decide (V.bl (!decide (optV none = V.non)) = V.bl (inV (nat i) (natL xs)))) = true then _ else _
        rw [inV_natL, decide_eq_false ni, optV_non]
        refine iteF ?_
        exact ⟨_, rfl, _, rfl, Lf, _, _, _, rfl, rfl, SqL.of gfG, opt_at hm, rfl, _, rfl, iteF ⟨_, rfl, rfl⟩⟩
      · have yi : i ∈ xs := (mk i).mpr hg
        have lk := (((TD.all i k1).mp hm).lt ok tw th la lc).2
        refine ⟨_, rfl, _, rfl, Lf, _, _, _, rfl, rfl, SqL.of gfG, opt_at hm, rfl, _, rfl, _, rfl, Dk, _, rfl, .inl (SqL.of gk), rfl, natL_flat _, rfl, _, rfl, ?_⟩
        show if (!decide (V.bl (!decide (optV (some k1) = V.non)) = V.bl (inV (nat i) (natL xs)))) = true then _ else _
        rw [inV_natL, decide_eq_true yi, optV_non]
        refine iteF ?_
        refine ⟨_, rfl, _, rfl, Lf, _, _, _, rfl, rfl, SqL.of gfG, opt_at hm, rfl, _, rfl, iteT ?_⟩
        refine ⟨_, rfl, _, rfl, Lf, _, _, _, rfl, rfl, SqL.of gfG, opt_at hm, _, rfl, _, rfl, iteF ?_⟩
        refine ⟨_, rfl, _, rfl, Lf, _, _, _, rfl, rfl, SqL.of gfG, opt_at hm, _, _, rfl, rfl, _, rfl, iteD (Int.natCast_nonneg k1) ?_⟩
        refine ⟨_, rfl, LT, _, 0, _, rfl, rfl, SqL.of gT', rfl, D1, _, rfl, .inl (SqL.of g1'), _, _, rfl, rfl, _, rfl, ?_⟩
        rw [natL_len, tw.len, decide_eq_true (show (k1 : Int) < (n : Int) by omega)]
        exact iteF ⟨_, rfl, rfl⟩
    · rintro σ G' ⟨o7, rfl, rfl⟩
      refine ⟨_, rfl, _, rfl, _, rfl, _, rfl, LT, _, 0, _, rfl, rfl, SqL.of (sG _ _ gT), rfl, _, rfl, LT, _, 1, _, rfl, rfl, SqL.of (sG _ _ gT), rfl, LP, LR, Lf, D1, D2, ts, us, bk, n, w', h', ms, rfl, pe.same sG, pa.same sG, ok, gfG, sG _ _ g1, sG _ _ g2, tw, th, TD.len, fun i k hk => (((TD.all i k).mp (oat_some.mp hk)).lt ok tw th la lc).2, fun b hb => ?_⟩
      rw [hb.mpr (TD.fits ok)]
      exact k _ sG
theorem sc_asked : FnScope ["book", "table", "people", "pairs", "turns", "a", "c", "found", "good"] ["book", "table", "people", "pairs", "turns", "a", "c"] (defScope (top 47)) := ⟨rfl, rfl, rfl, by decide +kernel, rfl, by decide +kernel, by decide +kernel⟩
theorem ok_asked {f : Addr} {fd : FuncData} (F : Fun K "_law_asked" "_law_asked" (top 47) f fd) (T : Txt K mg C e) (hE : NoE (CXR P w)) (D_fitting : Def P w K mg base (CXR P w) "fitting" 7 ["book", "table", "a", "c"] (spFitting C e)) (D__law_clash : Def P w K mg base (CXR P w) "_law_clash" 2 ["people", "pairs", "turns", "a", "c"] spClash) (D__law_list_good : Def P w K mg base (CXR P w) "_law_list_good" 2 ["found", "people", "pairs", "turns", "a", "c"] spGoodL) : FnOk P w K mg base (CXR P w) 8 f fd ["book", "table", "people", "pairs", "turns", "a", "c"] (spAsked C e) := by
  refine F.okN sc_asked (fun vs H Q E h => ?_) (fun cdv A outer s H vs Q E hr h => ?_)
  · obtain ⟨b, x, LP, LR, LT, D1, D2, fp, ts, us, bk, n, w, h, a, c, rfl, _⟩ := h; rfl
  · obtain ⟨b, x, LP, LR, LT, D1, D2, fp, ts, us, bk, n, w', h', a, c, rfl, BA, TA, pe, pa, gT, g1, g2, la, lc, k⟩ := h
    have nd := sc_asked.nd
    have ok := BA.ok
    have n60 := ok.n60
    have n8 := TA.n8
    have tw := TA.tw
    have th := TA.th
    have big : 4000 ≤ sizeLine := by decide
    have p9 : (100 : Nat) < 10 ^ 9 := by decide
    have sna : Sn (a : Int) := log_small (by omega)
    have snc : Sn (c : Int) := log_small (by omega)
    have inA : InB bk (a : Int) := ⟨Int.natCast_nonneg a, by omega⟩
    have inC : InC n (c : Int) := ⟨Int.natCast_nonneg c, by omega⟩
    refine ⟨_, (pss_cons (ps_set (i := 7) nd rfl (Or.inl rfl) (pe_callD D_fitting hE hr rfl (pa_cons (pv 0) (pa_cons (pv 1) (pa_cons (pv 5) (pa_cons (pv 6) pa_nil))))))
      (pss_cons (ps_if (pt_cmpR op_isN (pv 7) pe_non (nomark _)) (pss_one (ps_ret (pe_callD D__law_clash hE hr rfl (pa_cons (pv 2) (pa_cons (pv 3) (pa_cons (pv 4) (pa_cons (pv 5) (pa_cons (pv 6) pa_nil)))))))) pss_nil)
      (pss_cons (ps_set (i := 8) nd rfl (Or.inl rfl) (pe_callD D__law_list_good hE hr rfl (pa_cons (pv 7) (pa_cons (pv 2) (pa_cons (pv 3) (pa_cons (pv 4) (pa_cons (pv 5) (pa_cons (pv 6) pa_nil))))))))
      (pss_cons (ps_expr (pe_bm PySem.F.plainAttrs_list PySem.F.slot_list_append PySem.F.type_list_append mt_append (pv 7) (pa_cons pe_int pa_nil)))
      (pss_one (ps_ret (pv 8))))))), ?_⟩
    refine ⟨_, rfl, _, rfl, _, rfl, _, rfl, b, x, fp, bk, n, w', h', a, c, rfl, BA, TA, sna, snc, fun _ _ => ⟨fun ms D G hD sG gD TD => ?_, fun cl G sG => ?_⟩, fun z => absurd inA z, fun _ z => absurd inC z⟩
    · walk_at "ns"
      refine ⟨_, rfl, rfl, _, rfl, iteF ?_⟩
      refine ⟨_, rfl, _, rfl, _, rfl, _, rfl, _, rfl, _, rfl, D, LP, LR, LT, D1, D2, ts, us, bk, n, w', h', a, c, ms, rfl, gD, pe.same sG, pa.same sG, ok, sG _ _ gT, sG _ _ g1, sG _ _ g2, tw, th, la, lc, TD, fun G2 s2 => ?_⟩
      walk_at "ns"
      refine ⟨_, rfl, .inl ⟨rfl, _, SqL.of (s2 _ _ gD)⟩, D, _, _, rfl, rfl, s2 _ _ gD, by rw [List.length_map, TD.len]; omega, ?_⟩
      exact ⟨_, rfl, k _ (same_upd (sG.trans s2) hD)⟩
    · walk_at "ns"
      refine ⟨_, rfl, rfl, _, rfl, iteT ?_⟩
      refine ⟨_, rfl, _, rfl, _, rfl, _, rfl, _, rfl, LP, LR, LT, D1, D2, ts, us, bk, n, w', h', a, c, rfl, pe.same sG, pa.same sG, ok, sG _ _ gT, sG _ _ g1, sG _ _ g2, tw, th, la, lc, fun b' G2 s2 hb => ?_⟩
      rw [hb.mpr cl]
      exact k _ (sG.trans s2)
end


--CUT
theorem cut_dropF (xs : List V) (k : Nat) : ∃ m, cutV xs (some (k : Int)) none = xs.drop m := by
  by_cases h : k ≤ xs.length
  · exact ⟨k, cut_dropN xs k h⟩
  · refine ⟨xs.length, ?_⟩
    unfold cutV
    have e1 : HT.sIx xs.length 0 (some (k : Int)) = xs.length := by unfold HT.sIx; simp only; split <;> omega
    rw [e1]
    have e2 : HT.sIx xs.length xs.length none = xs.length := rfl
    rw [e2, Nat.sub_self, List.take_zero, List.drop_length]
theorem doC_ge (bk : Bk) (c : Com) : bk.ps.length ≤ (doC bk c).ps.length := by
  cases c with
  | come s => show _ ≤ (bk.ps ++ [_]).length; rw [List.length_append]; omega
  | wed m f => exact Nat.le_refl _
  | born s m f => show _ ≤ (bk.ps ++ [_]).length; rw [List.length_append]; omega
/-- the turns that were handed over, apart from what is written to -/
structure TuAt (G : Hp) (LT D1 D2 : Addr) (w h : List Nat) (av : List Addr) : Prop where
  gT : G LT = some (.lst [.ref D1, .ref D2])
  g1 : G D1 = some (.lst (natL w))
  g2 : G D2 = some (.lst (natL h))
  nT : LT ∉ av
  n1 : D1 ∉ av
  n2 : D2 ∉ av
theorem TuAt.go {G G' : Hp} {LT D1 D2 : Addr} {w h : List Nat} {av av' : List Addr} (t : TuAt G LT D1 D2 w h av) (kp : ∀ c o, G c = some o → c ∉ av → G' c = some o) (fr : ∀ c ∈ av', c ∈ av ∨ G c = none) : TuAt G' LT D1 D2 w h av' := by
  have key : ∀ {c o}, G c = some o → c ∉ av → c ∉ av' := fun {c o} hc n z => (fr c z).elim n fun y => by rw [y] at hc; cases hc
  exact ⟨kp _ _ t.gT t.nT, kp _ _ t.g1 t.n1, kp _ _ t.g2 t.n2, key t.gT t.nT, key t.g1 t.n1, key t.g2 t.n2⟩
theorem TuAt.same {G G' : Hp} {LT D1 D2 : Addr} {w h : List Nat} {av : List Addr} (t : TuAt G LT D1 D2 w h av) (s : Same G G') : TuAt G' LT D1 D2 w h av := t.go (fun c o hc _ => s c o hc) fun c hc => .inl hc
theorem TuAt.sub {G : Hp} {LT D1 D2 : Addr} {w h : List Nat} {av av' : List Addr} (t : TuAt G LT D1 D2 w h av) (s : ∀ c ∈ av', c ∈ av) : TuAt G LT D1 D2 w h av' := t.go (fun c o hc _ => hc) fun c hc => .inl (s c hc)
theorem ScrAt.sub {K : PySem.W.Frag} {H : Hp} {a : Addr} {xs : List V} {av av' : List Addr} (t : ScrAt K H a xs av) (s : ∀ c ∈ av', c ∈ av) : ScrAt K H a xs av' := t.go (fun c o hc _ => hc) fun c hc => .inl (s c hc)
section
variable {P : Program} {w : World} {K : PySem.W.Frag} {mg : Str → Option Value} {base : Heap} {CX : CXT} {C : Addr} {e : Ad}
theorem sc_law : FnScope ["script", "many", "turns", "built", "book", "people", "pairs", "cell", "table", "a", "c", "comer"] ["script"] (defScope (top 48)) := ⟨rfl, rfl, rfl, by decide +kernel, rfl, by decide +kernel, by decide +kernel⟩
theorem ok_law {f : Addr} {fd : FuncData} (F : Fun K "law" "law" (top 48) f fd) (T : Txt K mg C e) (hE : NoE (CXR P w))
    (D__law_cell_at : Def P w K mg base (CXR P w) "_law_cell_at" 1 ["script", "k"] (spCellAt K)) (D__law_turn_by : Def P w K mg base (CXR P w) "_law_turn_by" 1 ["cell", "many"] spTurnBy)
    (D__law_comer : Def P w K mg base (CXR P w) "_law_comer" 1 ["people", "cell"] spComer) (D__law_put : Def P w K mg base (CXR P w) "_law_put" 4 ["book", "people", "pairs", "comer"] (spPut e)) (D__law_fit_book : Def P w K mg base (CXR P w) "_law_fit_book" 5 ["book", "people", "pairs", "kinds", "turns", "cells"] (spFitBook e K))
    (D__law_refused : Def P w K mg base (CXR P w) "_law_refused" 8 ["book", "table", "a", "c"] (spRefused12 C e)) (D__law_asked : Def P w K mg base (CXR P w) "_law_asked" 8 ["book", "table", "people", "pairs", "turns", "a", "c"] (spAsked C e))
    (D_Table : CDef P w K mg base (CXR P w) "Table" C 2 ["self", "wives", "heirs"] (spInitX C e)) (D_Book : CDef P w K mg base (CXR P w) "Book" e.Book 1 ["self"] (spBookInit e)) :
    FnOk P w K mg base (CXR P w) 9 f fd ["script"] (spLaw K) := by
  refine F.okN sc_law (fun vs H Q E h => ?_) (fun cdv A outer s H vs Q E hr h => ?_)
  · obtain ⟨a, ns, rfl, _⟩ := h; rfl
  · obtain ⟨a, ns, rfl, n63, hS, k⟩ := h
    have nd := sc_law.nd
    have hu := hr.units0
    have big : 4000 ≤ sizeLine := by decide
    have p9 : (100 : Nat) < 10 ^ 9 := by decide
    refine ⟨_, (pss_cons (ps_set (i := 1) nd rfl (Or.inl rfl) (pe_op op_add pe_int (pe_op op_mod (pe_callD D__law_cell_at hE hr rfl (pa_cons (pv 0) (pa_cons pe_int pa_nil))) pe_int)))
      (pss_cons (ps_set (i := 2) nd rfl (Or.inl rfl) (pe_lst (pa_cons (pe_callD D__law_turn_by hE hr rfl (pa_cons (pe_callD D__law_cell_at hE hr rfl (pa_cons (pv 0) (pa_cons pe_int pa_nil))) (pa_cons (pv 1) pa_nil))) (pa_cons (pe_callD D__law_turn_by hE hr rfl (pa_cons (pe_callD D__law_cell_at hE hr rfl (pa_cons (pv 0) (pa_cons pe_int pa_nil))) (pa_cons (pv 1) pa_nil))) pa_nil))))
      (pss_cons (ps_set (i := 3) nd rfl (Or.inl rfl) (pe_callTy call_list_of rfl T.z_list bt_list (pa_cons (pv 2) pa_nil)))
      (pss_cons (ps_join (ps_if (pt_cmpR op_eq (pe_op op_mod (pe_callD D__law_cell_at hE hr rfl (pa_cons (pv 0) (pa_cons pe_int pa_nil))) pe_int) pe_int (nomark _)) (pss_one (ps_set (i := 3) nd rfl (Or.inl rfl) (pe_lst (pa_cons (pe_callD D__law_turn_by hE hr rfl (pa_cons (pe_callD D__law_cell_at hE hr rfl (pa_cons (pv 0) (pa_cons pe_int pa_nil))) (pa_cons (pv 1) pa_nil))) (pa_cons (pe_callD D__law_turn_by hE hr rfl (pa_cons (pe_callD D__law_cell_at hE hr rfl (pa_cons (pv 0) (pa_cons pe_int pa_nil))) (pa_cons (pv 1) pa_nil))) pa_nil))))) pss_nil))
      (pss_cons (ps_set (i := 4) nd rfl (Or.inl rfl) (pe_makeD0 D_Book hE hr rfl))
      (pss_cons (ps_set (i := 5) nd rfl (Or.inl rfl) (pe_lst pa_nil))
      (pss_cons (ps_set (i := 6) nd rfl (Or.inl rfl) (pe_lst pa_nil))
      (pss_cons (ps_join (ps_if (pt_cmpR op_eq (pe_op op_mod (pe_callD D__law_cell_at hE hr rfl (pa_cons (pv 0) (pa_cons pe_int pa_nil))) pe_int) pe_int (nomark _)) (pss_one (ps_for PassesOwn.never rfl (pi_list (pe_slice sl_list (pv 0) (po_some pe_int) po_none)) (pg_name (i := 7) nd rfl (Or.inl rfl)) (pss_one (ps_if (PW.pt (pw_and (pt_cmpR op_lt (pe_callB call_len_seq rfl T.z_len PySem.boot_len (pa_cons (pv 5) pa_nil)) pe_int (nomark _)) (pw_and1 (pt_not (pt_val (pe_callD D__law_put hE hr rfl (pa_cons (pv 4) (pa_cons (pv 5) (pa_cons (pv 6) (pa_cons (pe_callD D__law_comer hE hr rfl (pa_cons (pv 5) (pa_cons (pv 7) pa_nil))) pa_nil)))))))))) (pss_one (ps_ret pe_bl)) pss_nil)))) (pss_one (ps_if (pt_not (pt_val (pe_callD D__law_fit_book hE hr rfl (pa_cons (pv 4) (pa_cons (pv 5) (pa_cons (pv 6) (pa_cons (pe_lst pa_nil) (pa_cons (pv 3) (pa_cons (pe_slice sl_list (pv 0) (po_some pe_int) po_none) pa_nil))))))))) (pss_one (ps_ret pe_bl)) pss_nil))))
      (pss_cons (ps_set (i := 8) nd rfl (Or.inl rfl) (pe_makeD D_Table hE hr rfl (pa_cons (pe_ix ix_list (pv 2) pe_int (fun _ _ => rfl)) (pa_cons (pe_ix ix_list (pv 2) pe_int (fun _ _ => rfl)) pa_nil))))
      (pss_cons (ps_if (pt_cmpR (op_neL hu) (pe_callD D__law_refused hE hr rfl (pa_cons (pv 4) (pa_cons (pv 8) (pa_cons (pe_callB call_len_seq rfl T.z_len PySem.boot_len (pa_cons (pv 5) pa_nil)) (pa_cons (pv 1) pa_nil))))) (pe_lst (pa_cons pe_bl (pa_cons pe_bl pa_nil))) (nomark _)) (pss_one (ps_ret pe_bl)) pss_nil)
      (pss_cons (ps_if (pt_cmpR op_eq (pe_callB call_len_seq rfl T.z_len PySem.boot_len (pa_cons (pv 5) pa_nil)) pe_int (nomark _)) (pss_one (ps_ret pe_bl)) pss_nil)
      (pss_cons (ps_set (i := 9) nd rfl (Or.inl rfl) (pe_op op_mod (pe_callD D__law_cell_at hE hr rfl (pa_cons (pv 0) (pa_cons pe_int pa_nil))) (pe_callB call_len_seq rfl T.z_len PySem.boot_len (pa_cons (pv 5) pa_nil))))
      (pss_cons (ps_set (i := 10) nd rfl (Or.inl rfl) (pe_op op_mod (pe_callD D__law_cell_at hE hr rfl (pa_cons (pv 0) (pa_cons pe_int pa_nil))) (pv 1)))
      (pss_cons (ps_if (PW.pt (pw_or (pt_cmpR (op_neL hu) (pe_callD D__law_refused hE hr rfl (pa_cons (pv 4) (pa_cons (pv 8) (pa_cons (pv 9) (pa_cons (pv 1) pa_nil))))) (pe_lst (pa_cons pe_bl (pa_cons pe_bl pa_nil))) (nomark _)) (pw_or1 (pt_cmpR (op_neL hu) (pe_callD D__law_refused hE hr rfl (pa_cons (pv 4) (pa_cons (pv 8) (pa_cons (pv 9) (pa_cons (pe_un un_neg pe_int) pa_nil))))) (pe_lst (pa_cons pe_bl (pa_cons pe_bl pa_nil))) (nomark _))))) (pss_one (ps_ret pe_bl)) pss_nil)
      (pss_cons (ps_if (pt_not (pt_val (pe_callD D__law_asked hE hr rfl (pa_cons (pv 4) (pa_cons (pv 8) (pa_cons (pv 5) (pa_cons (pv 6) (pa_cons (pv 2) (pa_cons (pv 9) (pa_cons (pv 10) pa_nil)))))))))) (pss_one (ps_ret pe_bl)) pss_nil)
      (pss_cons (ps_set (i := 11) nd rfl (Or.inl rfl) (pe_callD D__law_comer hE hr rfl (pa_cons (pv 5) (pa_cons (pe_op op_fdiv (pe_callD D__law_cell_at hE hr rfl (pa_cons (pv 0) (pa_cons pe_int pa_nil))) pe_int) pa_nil))))
      (pss_cons (ps_if (pt_not (pt_val (pe_callD D__law_put hE hr rfl (pa_cons (pv 4) (pa_cons (pv 5) (pa_cons (pv 6) (pa_cons (pv 11) pa_nil))))))) (pss_one (ps_ret pe_bl)) pss_nil)
      (pss_one (ps_ret (pe_callD D__law_asked hE hr rfl (pa_cons (pv 4) (pa_cons (pv 8) (pa_cons (pv 5) (pa_cons (pv 6) (pa_cons (pv 2) (pa_cons (pv 9) (pa_cons (pv 10) pa_nil))))))))))))))))))))))))))), ?_⟩
    -- many
    refine ⟨_, rfl, a, ns, 0, rfl, hS, fun z0 => ⟨_, _, rfl, rfl, (show (0 : Int) < 5 by decide), _, _, rfl, rfl, ?_⟩⟩
    dsimp only
    obtain ⟨n, hn, n1, n5⟩ : ∃ n : Nat, 1 + z0 % 5 = (n : Int) ∧ 1 ≤ n ∧ n ≤ 5 := ⟨(1 + z0 % 5).toNat, by omega, by omega, by omega⟩
    have n8 : n ≤ 8 := by omega
    rw [hn]
    walk_at "ns"
    -- turns
    refine ⟨_, rfl, a, ns, 1, rfl, hS, fun z1 => ⟨_, rfl, z1, n, rfl, n8, fun wv D1 H1 tw hD1 s1 hl1 => ?_⟩⟩
    refine ⟨_, rfl, a, ns, 2, rfl, s1.seq hS, fun z2 => ⟨_, rfl, z2, n, rfl, n8, fun hv D2 H2 th hD2 s2 hl2 => ⟨two_fits, fun LT hLT => ?_⟩⟩⟩
    have s3 := same_new (o := .lst [.ref D1, .ref D2]) hLT
    have gT3 : (upd H2 LT (.lst [.ref D1, .ref D2])) LT = some (.lst [.ref D1, .ref D2]) := upd_same
    generalize upd H2 LT (.lst [.ref D1, .ref D2]) = H3 at s3 gT3
    have g13 := s3 _ _ (s2 _ _ hl1)
    have g23 := s3 _ _ hl2
    have s03 := s1.trans (s2.trans s3)
    walk_at "ns"
    -- built
    refine ⟨_, rfl, LT, _, rfl, .inl (SqL.of gT3), fun LB0 hLB0 => ?_⟩
    have s4 := same_new (o := .lst [.ref D1, .ref D2]) hLB0
    have gB4 : (upd H3 LB0 (.lst [.ref D1, .ref D2])) LB0 = some (.lst [.ref D1, .ref D2]) := upd_same
    generalize upd H3 LB0 (.lst [.ref D1, .ref D2]) = H4 at s4 gB4
    have s04 := s03.trans s4
    walk_at "ns"
    refine ⟨fun σ' G => ∃ LB E1 E2 wb hb, IsTurn n wb ∧ IsTurn n hb ∧ σ' = [some (.ref a), some (nat n), some (.ref LT), some (.ref LB), none, none, none, none, none, none, none, none] ∧ Same H4 G ∧ G LB = some (.lst [.ref E1, .ref E2]) ∧ G E1 = some (.lst (natL wb)) ∧ G E2 = some (.lst (natL hb)), ?_, ?_⟩
    · refine ⟨_, rfl, a, ns, 3, rfl, s04.seq hS, fun z3 => ⟨_, _, rfl, rfl, (show (0 : Int) < 3 by decide), rfl, _, rfl, iteD2 (fun _ => ?_) (fun _ => ⟨LB0, D1, D2, wv, hv, tw, th, rfl, Same.refl _, gB4, s4 _ _ g13, s4 _ _ g23⟩)⟩⟩
      refine ⟨_, rfl, a, ns, 3, rfl, s04.seq hS, fun y3 => ⟨_, rfl, y3, n, rfl, n8, fun wb E1 G1 tb hE1 q1 gl1 => ?_⟩⟩
      refine ⟨_, rfl, a, ns, 4, rfl, (s04.trans q1).seq hS, fun y4 => ⟨_, rfl, y4, n, rfl, n8, fun hb E2 G2 tb2 hE2 q2 gl2 => ⟨two_fits, fun LB hLB => ?_⟩⟩⟩
      have q3 := same_new (o := .lst [.ref E1, .ref E2]) hLB
      exact ⟨LB, E1, E2, wb, hb, tb, tb2, rfl, q1.trans (q2.trans q3), upd_same, q3 _ _ (q2 _ _ gl1), q3 _ _ gl2⟩
    rintro σ' H5 ⟨LB, E1, E2, wb, hb, tb, tb2, rfl, s5, gB, gE1, gE2⟩
    have s05 := s04.trans s5
    have s35 := s4.trans s5
    have gT5 := s35 _ _ gT3
    have g15 := s35 _ _ g13
    have g25 := s35 _ _ g23
    clear s1 s2 s3 s4 hLB0 gB4 hl1 hl2 hD1 hD2 hLT s03 s04 s35 gT3 g13 g23
    -- book
    intro b dx nx ndx nex
    have sx : Same H5 (upd (upd H5 dx (.own b)) b (.ins e.Book dx [])) := same_upd (same_new ndx) nx
    refine ⟨b, dx, rfl, upd_same, fun fp0 H6 kp0 fr0 BA0 => ⟨rfl, ?_⟩⟩
    have s6 : Same H5 H6 := fun c o h => kp0 c o (sx c o h) (ne_of_none h nx)
    have fr5 : ∀ c ∈ fp0, H5 c = none := fun c hc => by
      cases z : H5 c with
      | none => rfl
      | some o => have := sx c o z; rw [fr0 c hc] at this; cases this
    clear kp0 sx
    walk_at "ns"
    -- people, pairs
    refine ⟨by decide, fun LP hLP => ?_⟩
    have s7 := same_new (o := .lst []) hLP
    have gP : (upd H6 LP (.lst [])) LP = some (.lst []) := upd_same
    generalize upd H6 LP (.lst []) = H7 at s7 gP
    walk_at "ns"
    refine ⟨by decide, fun LR hLR => ?_⟩
    have s8 := same_new (o := .lst []) hLR
    have gR : (upd H7 LR (.lst [])) LR = some (.lst []) := upd_same
    generalize upd H7 LR (.lst []) = H8 at s8 gR
    have held : ∀ {G : Hp}, BookAt e.Book G b fp0 ⟨[], []⟩ → ∀ {c : Addr}, G c = none → c ∉ fp0 := fun BA c hc z => by
      obtain ⟨o, ho⟩ := BA.held (List.mem_cons_of_mem b z)
      rw [hc] at ho; cases ho
    have ac8 : Acc e.Book H8 b LP LR fp0 [] [] ⟨[], []⟩ := ⟨BA0.same (s7.trans s8), ⟨s8 _ _ gP, TsAt.nil⟩, ⟨gR, TsAt.nil⟩, held BA0 hLP, held (BA0.same s7) hLR, ne_of_none gP hLR⟩
    have av5 : ∀ c ∈ LP :: LR :: fp0, H5 c = none := fun c hc => by
      simp only [List.mem_cons] at hc
      rcases hc with rfl | rfl | hc
      · exact s6.free hLP
      · exact (s6.trans s7).free hLR
      · exact fr5 c hc
    have s58 := s6.trans (s7.trans s8)
    have nin : ∀ c o, H5 c = some o → c ∉ LP :: LR :: fp0 := fun c o ho z => by rw [av5 c z] at ho; cases ho
    have sc8 : ScrAt K H8 a (ns.map V.int) (LP :: LR :: fp0) := (ScrAt.of (av := LP :: LR :: fp0) (s05.seq hS) (nin a)).same s58
    have tu8 : TuAt H8 LT D1 D2 wv hv (LP :: LR :: fp0) := TuAt.same ⟨gT5, g15, g25, nin _ _ gT5, nin _ _ g15, nin _ _ g25⟩ s58
    have gB8 := s58 _ _ gB
    have gE18 := s58 _ _ gE1
    have gE28 := s58 _ _ gE2
    have newn : ∀ {G : Hp} {c : Addr}, Same H8 G → G c = none → c ∉ LP :: LR :: fp0 := fun sG hc z => by
      simp only [List.mem_cons] at z
      rcases z with rfl | rfl | z
      · rw [sG _ _ ac8.pe.l] at hc; cases hc
      · rw [sG _ _ ac8.pa.l] at hc; cases hc
      · exact held (ac8.bo.same sG) hc z
    walk_at "ns"
    obtain ⟨m0, em0⟩ := cut_dropF (ns.map V.int) 6
    have em1 : cutV (ns.map V.int) (some 6) none = (ns.drop m0).map V.int := by rw [List.map_drop]; exact em0
    -- the book is built
    refine ⟨fun σ' G => ∃ o7 fp ts us bk, σ' = [some (.ref a), some (nat n), some (.ref LT), some (.ref LB), some (.ref b), some (.ref LP), some (.ref LR), o7, none, none, none, none] ∧ Acc e.Book G b LP LR fp ts us bk ∧ ScrAt K G a (ns.map V.int) (LP :: LR :: fp) ∧ TuAt G LT D1 D2 wv hv (LP :: LR :: fp) ∧ bk.ps.length ≤ 58 ∧ bk.prs.length ≤ 900, ?_, ?_⟩
    · refine ⟨_, rfl, a, ns, 3, rfl, sc8.sq, fun z3 => ⟨_, _, rfl, rfl, (show (0 : Int) < 3 by decide), rfl, _, rfl, iteD2 (fun _ => ?_) (fun _ => ?_)⟩⟩
      · -- by nothing
        refine ⟨_, rfl, _, rfl, a, _, rfl, sc8.sq, fun L hL => ?_⟩
        rw [em1]
        have q1 := same_new (o := .lst ((ns.drop m0).map V.int)) hL
        have gL : (upd H8 L (.lst ((ns.drop m0).map V.int))) L = some (.lst ((ns.drop m0).map V.int)) := upd_same
        generalize upd H8 L (.lst ((ns.drop m0).map V.int)) = H9 at q1 gL
        have scL : ScrAt K H9 L ((ns.drop m0).map V.int) (LP :: LR :: fp0) := .inr ⟨.inl gL, newn (Same.refl _) hL⟩
        refine ⟨L, rfl, ⟨_, scL.sq⟩, for_list (xs := (ns.drop m0).map V.int) (fun i σ G => ∃ o7 fp ts us bk, σ = [some (.ref a), some (nat n), some (.ref LT), some (.ref LB), some (.ref b), some (.ref LP), some (.ref LR), o7, none, none, none, none] ∧ Acc e.Book G b LP LR fp ts us bk ∧ ScrAt K G a (ns.map V.int) (LP :: LR :: fp) ∧ ScrAt K G L ((ns.drop m0).map V.int) (LP :: LR :: fp) ∧ TuAt G LT D1 D2 wv hv (LP :: LR :: fp) ∧ bk.prs.length ≤ i ∧ bk.ps.length ≤ 58) ⟨none, fp0, [], [], ⟨[], []⟩, rfl, ac8.same q1, sc8.same q1, scL, tu8.same q1, Nat.le_refl _, Nat.zero_le _⟩ (fun i σ G _ ⟨_, fp, ts, us, bk, _, _, _, sl, _⟩ => sl.sq) ?_ ?_⟩
        · rintro i v σ G hi ⟨o7, fp, ts, us, bk, rfl, ac, sa, sl, tu, pl, p58⟩
          have li : i < 63 := by
            have := (List.getElem?_eq_some_iff.mp hi).1
            rw [List.length_map, List.length_drop] at this
            omega
          obtain ⟨z, rfl⟩ : ∃ z : Int, v = .int z := by
            rw [List.getElem?_map] at hi
            obtain ⟨z, _, rfl⟩ := Option.map_eq_some_iff.mp hi
            exact ⟨z, rfl⟩
          walk_at "ns"
          have tl := ac.pe.len
          have n60 := ac.bo.ok.n60
          refine ⟨_, rfl, LP, _, rfl, .inl (SqL.of ac.pe.l), _, _, rfl, rfl, _, rfl, ?_⟩
          rw [List.length_map, tl]
          refine iteD2 (fun lt => ?_) (fun _ => iteF ⟨_, fp, ts, us, bk, rfl, ac, sa, sl, tu, Nat.le_succ_of_le pl, p58⟩)
          refine ⟨_, rfl, _, rfl, _, rfl, _, rfl, _, rfl, LP, ts, bk, z, rfl, ac.pe, n60, fun t c G1 ht s4 gt okc => ?_⟩
          refine ⟨b, LP, LR, t, fp, ts, us, bk, c, rfl, ac.same s4, gt, okc, by omega, by omega, fun fp2 ts2 us2 G2 ac2 kp2 fr2 => ⟨_, rfl, iteF ?_⟩⟩
          have av2 : ∀ c ∈ LP :: LR :: fp2, c ∈ LP :: LR :: fp ∨ G1 c = none := fun c hc => by
            simp only [List.mem_cons] at hc ⊢
            rcases hc with h | h | h
            · exact .inl (.inl h)
            · exact .inl (.inr (.inl h))
            · rcases fr2 c h with y | y
              · exact .inl (.inr (.inr y))
              · exact .inr y
          have dz := doC_size bk c
          exact ⟨_, fp2, ts2, us2, doC bk c, rfl, ac2, (sa.same s4).go kp2 av2, (sl.same s4).go kp2 av2, (tu.same s4).go kp2 av2, Nat.le_trans (doC_len bk c) (Nat.succ_le_succ pl), by omega⟩
        · rintro σ G ⟨o7, fp, ts, us, bk, rfl, ac, sa, sl, tu, pl, p58⟩
          refine ⟨_, fp, ts, us, bk, rfl, ac, sa, tu, p58, ?_⟩
          rw [List.length_map, List.length_drop] at pl
          omega
      · -- by turns
        refine ⟨_, rfl, _, rfl, _, rfl, by decide, fun LK hLK => ?_⟩
        have q1 := same_new (o := .lst []) hLK
        have gK : (upd H8 LK (.lst [])) LK = some (.lst []) := upd_same
        generalize upd H8 LK (.lst []) = H9 at q1 gK
        refine ⟨_, rfl, _, rfl, _, rfl, a, _, rfl, (sc8.same q1).sq, fun LC hLC => ?_⟩
        rw [em1]
        have q2 := same_new (o := .lst ((ns.drop m0).map V.int)) hLC
        have gC : (upd H9 LC (.lst ((ns.drop m0).map V.int))) LC = some (.lst ((ns.drop m0).map V.int)) := upd_same
        generalize upd H9 LC (.lst ((ns.drop m0).map V.int)) = H10 at q2 gC
        have q12 := q1.trans q2
        have nK : LK ∉ LP :: LR :: fp0 := newn (Same.refl _) hLK
        have ad : ∀ {c o}, H8 c = some o → c ∉ LP :: LR :: fp0 → c ∉ LP :: LR :: LK :: fp0 := fun {c o} hc hn z => by
          simp only [List.mem_cons] at z hn
          rcases z with z | z | z | z
          · exact hn (.inl z)
          · exact hn (.inr (.inl z))
          · rw [z, hLK] at hc; cases hc
          · exact hn (.inr (.inr z))
        have nC : LC ∉ LP :: LR :: LK :: fp0 := fun z => by
          have := newn q1 hLC
          simp only [List.mem_cons] at z this
          rcases z with z | z | z | z
          · exact this (.inl z)
          · exact this (.inr (.inl z))
          · rw [z, gK] at hLC; cases hLC
          · exact this (.inr (.inr z))
        have sc10 : ScrAt K H10 a (ns.map V.int) (LP :: LR :: LK :: fp0) := by
          rcases sc8.same q12 with z | ⟨z1, z2⟩
          · exact .inl z
          · rcases sc8 with y | ⟨y1, y2⟩
            · exact .inl y
            · refine .inr ⟨z1, ?_⟩
              rcases y1 with y1 | ⟨o, y1⟩
              · exact ad y1 y2
              · exact ad y1 y2
        have tu10 : TuAt H10 LT D1 D2 wv hv (LP :: LR :: LK :: fp0) := ⟨q12 _ _ tu8.gT, q12 _ _ tu8.g1, q12 _ _ tu8.g2, ad tu8.gT tu8.nT, ad tu8.g1 tu8.n1, ad tu8.g2 tu8.n2⟩
        have nB := nin _ _ gB
        have nE1 := nin _ _ gE1
        have nE2 := nin _ _ gE2
        refine ⟨b, LP, LR, LK, LB, LC, E1, E2, fp0, [], [], ⟨[], []⟩, [], n, wb, hb, ns.drop m0, rfl, ac8.same q12, q2 _ _ gK, Fits.nil, q12 _ _ gB8, q12 _ _ gE18, q12 _ _ gE28, tb, tb2, n1, .inr ⟨.inl gC, nC⟩, nK, ad gB8 nB, ad gE18 nE1, ad gE28 nE2, by show 0 + _ ≤ 900; rw [List.length_drop]; omega, by show 0 ≤ 58; decide, fun fp ts us bk ks G ac gKs nK2 FF kp fr l58 l900 => ⟨_, rfl, iteF ?_⟩⟩
        have sub : ∀ c ∈ LP :: LR :: fp, c ∈ LP :: LR :: LK :: fp := fun c hc => by
          simp only [List.mem_cons] at hc ⊢
          rcases hc with h | h | h
          · exact .inl h
          · exact .inr (.inl h)
          · exact .inr (.inr (.inr h))
        exact ⟨_, fp, ts, us, bk, rfl, ac, ScrAt.sub (sc10.go kp fr) sub, (tu10.go kp fr).sub sub, l58, l900⟩
    rintro σ' G ⟨o7, fp, ts, us, bk, rfl, ac, sa, tu, p58, l900⟩
    clear sc8 tu8 gB8 gE18 gE28 newn ac8 held av5 nin s58 s8 s7 s6 hLR hLP gP gR BA0 fr0 fr5 gB gE1 gE2 s05 gT5 g15 g25 s5
    have tl := ac.pe.len
    have n60 := ac.bo.ok.n60
    have hld : ∀ c ∈ LP :: LR :: fp, ∃ o, G c = some o := fun c hc => by
      simp only [List.mem_cons] at hc
      rcases hc with rfl | rfl | hc
      · exact ⟨_, ac.pe.l⟩
      · exact ⟨_, ac.pa.l⟩
      · exact ac.bo.held (List.mem_cons_of_mem b hc)
    -- table
    refine ⟨_, rfl, LT, _, 0, _, rfl, rfl, SqL.of tu.gT, rfl, _, rfl, LT, _, 1, _, rfl, rfl, SqL.of tu.gT, rfl, ?_⟩
    intro x dx' nx' ndx' nex'
    have sx : Same G (upd (upd G dx' (.own x)) x (.ins C dx' [])) := same_upd (same_new ndx') nx'
    refine ⟨x, dx', D1, D2, intL wv, intL hv, rfl, upd_same, by rw [← natL_intL]; exact sx _ _ tu.g1, by rw [← natL_intL]; exact sx _ _ tu.g2, turn_sm tw n8, turn_sm th n8, fun m w2 h2 e1 e2 q1 q2 _ _ G2 kp TT => ?_, fun z => absurd ⟨n, wv, hv, rfl, rfl, tw, th, n1, n8⟩ z⟩
    have e1 := intL_inj e1
    have e2 := intL_inj e2
    subst e1 e2
    have em : m = n := by rw [← q1.len, tw.len]
    subst em
    refine ⟨rfl, ?_⟩
    have s2 : Same G G2 := fun c o hc => kp c o (sx _ _ hc) (ne_of_none hc nx')
    have TT2 : ∀ G', (∀ c o, G2 c = some o → c ∉ LP :: LR :: fp → G' c = some o) → TableAt C G' x m wv hv := fun G' h => TT G' fun c o hc hn => h c o hc fun z => by
      obtain ⟨o', ho'⟩ := hld c z
      rcases hn with hn | rfl
      · rw [sx _ _ ho'] at hn; cases hn
      · rw [nx'] at ho'; cases ho'
    clear TT kp sx
    have ac2 := ac.same s2
    have sa2 := sa.same s2
    have tu2 := tu.same s2
    have TA2 : TableAt C G2 x m wv hv := TT2 G2 fun c o h _ => h
    have sn : ∀ i : Nat, i ≤ 60 → Sn (i : Int) := fun i h => log_small (by show ((i : Nat) : Int).natAbs < 10 ^ 9; omega)
    walk_at "ns"
    -- refused: no person
    refine ⟨_, rfl, _, rfl, _, rfl, LP, _, rfl, .inl (SqL.of ac2.pe.l), _, rfl, b, x, fp, bk, m, wv, hv, (((ts.map V.ref).length : Nat) : Int), (m : Int), true, rfl, ac2.bo, TA2, by rw [List.length_map, tl]; exact sn _ n60, sn _ (by omega), .inl ⟨rfl, fun z => by have := z.2; rw [List.length_map, tl] at this; omega⟩, fun D G3 hD s3 hl3 => ?_⟩
    refine ⟨(show 2 ≤ sizeLine by decide), fun M hM => ⟨D, M, _, _, rfl, rfl, SqL.of (same_new hM _ _ hl3), SqL.of upd_same, rfl, rfl, _, rfl, iteF ?_⟩⟩
    have s4 : Same G2 (upd G3 M (.lst [V.bl true, V.bl false])) := s3.trans (same_new (o := .lst [V.bl true, V.bl false]) hM)
    generalize upd G3 M (.lst [V.bl true, V.bl false]) = G4 at s4
    have ac4 := ac2.same s4
    have sa4 := sa2.same s4
    refine ⟨_, rfl, LP, _, rfl, .inl (SqL.of ac4.pe.l), rfl, _, rfl, iteD2 (fun _ => k _) (fun nz => ?_)⟩
    have pos : 0 < bk.ps.length := by
      rcases Nat.eq_zero_or_pos bk.ps.length with q | q
      · exact absurd (by rw [List.length_map, tl, q]; rfl) nz
      · exact q
    -- a, c
    refine ⟨_, rfl, a, ns, 4, rfl, sa4.sq, fun z4 => ⟨_, rfl, LP, _, rfl, .inl (SqL.of ac4.pe.l), _, _, rfl, rfl, by rw [List.length_map, tl]; omega, ?_⟩⟩
    rw [List.length_map, tl]
    obtain ⟨ia, hia, la⟩ := emod_nat z4 pos
    rw [show (fun i j : Int => V.int (i % j)) z4 (bk.ps.length : Int) = nat ia from congrArg V.int hia]
    walk_at "ns"
    refine ⟨_, rfl, a, ns, 5, rfl, sa4.sq, fun z5 => ⟨_, rfl, _, _, rfl, rfl, (show (0 : Int) < (m : Int) by omega), ?_⟩⟩
    obtain ⟨ic, hic, lc⟩ := emod_nat z5 (show 0 < m by omega)
    rw [show (fun i j : Int => V.int (i % j)) z5 (m : Int) = nat ic from congrArg V.int hic]
    walk_at "ns"
    have inA : InB bk (ia : Int) := ⟨Int.natCast_nonneg ia, by omega⟩
    have TA4 := TA2.same s4
    -- refused: no class
    refine ⟨_, rfl, _, rfl, _, rfl, _, rfl, b, x, fp, bk, m, wv, hv, (ia : Int), (m : Int), false, rfl, ac4.bo, TA4, sn _ (by omega), sn _ (by omega), .inr ⟨rfl, inA, fun z => absurd z.2 (by omega)⟩, fun D' G5 hD' s5 hl5 => ?_⟩
    refine ⟨(show 2 ≤ sizeLine by decide), fun M hM => ⟨D', M, _, _, rfl, rfl, SqL.of (same_new hM _ _ hl5), SqL.of upd_same, rfl, rfl, _, rfl, iteF ?_⟩⟩
    have s6 : Same G4 (upd G5 M (.lst [V.bl false, V.bl true])) := s5.trans (same_new (o := .lst [V.bl false, V.bl true]) hM)
    generalize upd G5 M (.lst [V.bl false, V.bl true]) = G6 at s6
    refine ⟨_, rfl, _, rfl, _, rfl, 1, rfl, b, x, fp, bk, m, wv, hv, (ia : Int), -1, false, rfl, (ac4.same s6).bo, TA4.same s6, sn _ (by omega), log_small (by decide), .inr ⟨rfl, inA, fun z => absurd z.1 (by decide)⟩, fun D'' G7 hD'' s7 hl7 => ?_⟩
    refine ⟨(show 2 ≤ sizeLine by decide), fun M hM => ⟨D'', M, _, _, rfl, rfl, SqL.of (same_new hM _ _ hl7), SqL.of upd_same, rfl, rfl, _, rfl, iteF ?_⟩⟩
    have s8 : Same G4 (upd G7 M (.lst [V.bl false, V.bl true])) := s6.trans (s7.trans (same_new (o := .lst [V.bl false, V.bl true]) hM))
    generalize upd G7 M (.lst [V.bl false, V.bl true]) = G8 at s8
    have s28 := s4.trans s8
    have ac8 := ac2.same s28
    have tu8 := tu2.same s28
    -- asked
    refine ⟨_, rfl, _, rfl, _, rfl, _, rfl, _, rfl, _, rfl, _, rfl, b, x, LP, LR, LT, D1, D2, fp, ts, us, bk, m, wv, hv, ia, ic, rfl, ac8.bo, TA2.same s28, ac8.pe, ac8.pa, tu8.gT, tu8.g1, tu8.g2, la, lc, fun G9 s9 => ⟨_, rfl, iteF ?_⟩⟩
    have s29 := s28.trans s9
    have ac9 := ac2.same s29
    have sa9 := sa2.same s29
    have tu9 := tu2.same s29
    -- one deed more
    refine ⟨_, rfl, _, rfl, a, ns, 3, rfl, sa9.sq, fun z3 => ⟨_, _, rfl, rfl, ⟨by decide, by decide⟩, LP, ts, bk, _, rfl, ac9.pe, n60, fun t c G10 ht s10 gt okc => ?_⟩⟩
    have s210 := s29.trans s10
    walk_at "ns"
    refine ⟨_, rfl, _, rfl, _, rfl, _, rfl, b, LP, LR, t, fp, ts, us, bk, c, rfl, ac2.same s210, gt, okc, by omega, by omega, fun fp2 ts2 us2 G11 ac11 kp11 fr11 => ⟨_, rfl, iteF ?_⟩⟩
    have av11 : ∀ c ∈ LP :: LR :: fp2, c ∈ LP :: LR :: fp ∨ G10 c = none := fun c hc => by
      simp only [List.mem_cons] at hc ⊢
      rcases hc with h | h | h
      · exact .inl (.inl h)
      · exact .inl (.inr (.inl h))
      · rcases fr11 c h with y | y
        · exact .inl (.inr (.inr y))
        · exact .inr y
    have TA11 : TableAt C G11 x m wv hv := TT2 G11 fun c o hc hn => kp11 c o (s210 _ _ hc) hn
    have tu11 := (tu2.same s210).go kp11 av11
    exact ⟨_, rfl, _, rfl, _, rfl, _, rfl, _, rfl, _, rfl, _, rfl, b, x, LP, LR, LT, D1, D2, fp2, ts2, us2, doC bk c, m, wv, hv, ia, ic, rfl, ac11.bo, TA11, ac11.pe, ac11.pa, tu11.gT, tu11.g1, tu11.g2, Nat.lt_of_lt_of_le la (doC_ge bk c), lc, fun G12 _ => k _⟩
end


set_option maxHeartbeats 0 in
theorem all_mk {l : PySem.W.OpenLaw} {w : World} {K : PySem.W.Frag} {h : Heap} {mg : Str → Option Value} {fa : Addr} (X : K.In h) (G : h.Ns mainGlobals mg) (hfa : mg "law" = some (.ref fa))
    {a_KinError : Addr}
    {a_NoTable : Addr}
    {a_NoClass : Addr}
    {a_NoWalk : Addr}
    {a_NoPerson : Addr}
    {a_NoParents : Addr}
    {a_TooMany : Addr}
    {a_Book : Addr}
    {a_Table : Addr}
    {oc_d__law_cell_at kV_d__law_cell_at dc_d__law_cell_at pm_d__law_cell_at cd_d__law_cell_at ct_d__law_cell_at : Value} {od_d__law_cell_at an_d__law_cell_at : Option Addr} {sl_d__law_cell_at : Array (Option Value)} {f_d__law_cell_at : Addr}
    {oc_d__law_turn_by kV_d__law_turn_by dc_d__law_turn_by pm_d__law_turn_by cd_d__law_turn_by ct_d__law_turn_by : Value} {od_d__law_turn_by an_d__law_turn_by : Option Addr} {sl_d__law_turn_by : Array (Option Value)} {f_d__law_turn_by : Addr}
    {oc_d__law_comer kV_d__law_comer dc_d__law_comer pm_d__law_comer cd_d__law_comer ct_d__law_comer : Value} {od_d__law_comer an_d__law_comer : Option Addr} {sl_d__law_comer : Array (Option Value)} {f_d__law_comer : Addr}
    {oc_m_check_room kV_m_check_room dc_m_check_room pm_m_check_room cd_m_check_room ct_m_check_room : Value} {od_m_check_room an_m_check_room : Option Addr} {sl_m_check_room : Array (Option Value)} {f_m_check_room : Addr}
    {oc_m_enter kV_m_enter dc_m_enter pm_m_enter cd_m_enter ct_m_enter : Value} {od_m_enter an_m_enter : Option Addr} {sl_m_enter : Array (Option Value)} {f_m_enter : Addr}
    {oc_m_come kV_m_come dc_m_come pm_m_come cd_m_come ct_m_come : Value} {od_m_come an_m_come : Option Addr} {sl_m_come : Array (Option Value)} {f_m_come : Addr}
    {oc_m_check_person kV_m_check_person dc_m_check_person pm_m_check_person cd_m_check_person ct_m_check_person : Value} {od_m_check_person an_m_check_person : Option Addr} {sl_m_check_person : Array (Option Value)} {f_m_check_person : Addr}
    {oc_m_check_couple kV_m_check_couple dc_m_check_couple pm_m_check_couple cd_m_check_couple ct_m_check_couple : Value} {od_m_check_couple an_m_check_couple : Option Addr} {sl_m_check_couple : Array (Option Value)} {f_m_check_couple : Addr}
    {oc_m_pair kV_m_pair dc_m_pair pm_m_pair cd_m_pair ct_m_pair : Value} {od_m_pair an_m_pair : Option Addr} {sl_m_pair : Array (Option Value)} {f_m_pair : Addr}
    {oc_m_born kV_m_born dc_m_born pm_m_born cd_m_born ct_m_born : Value} {od_m_born an_m_born : Option Addr} {sl_m_born : Array (Option Value)} {f_m_born : Addr}
    {oc_m_wed kV_m_wed dc_m_wed pm_m_wed cd_m_wed ct_m_wed : Value} {od_m_wed an_m_wed : Option Addr} {sl_m_wed : Array (Option Value)} {f_m_wed : Addr}
    {oc_d__law_put kV_d__law_put dc_d__law_put pm_d__law_put cd_d__law_put ct_d__law_put : Value} {od_d__law_put an_d__law_put : Option Addr} {sl_d__law_put : Array (Option Value)} {f_d__law_put : Addr}
    {oc_d__law_fit_comer kV_d__law_fit_comer dc_d__law_fit_comer pm_d__law_fit_comer cd_d__law_fit_comer ct_d__law_fit_comer : Value} {od_d__law_fit_comer an_d__law_fit_comer : Option Addr} {sl_d__law_fit_comer : Array (Option Value)} {f_d__law_fit_comer : Addr}
    {oc_d__law_fit_book kV_d__law_fit_book dc_d__law_fit_book pm_d__law_fit_book cd_d__law_fit_book ct_d__law_fit_book : Value} {od_d__law_fit_book an_d__law_fit_book : Option Addr} {sl_d__law_fit_book : Array (Option Value)} {f_d__law_fit_book : Addr}
    {oc_m_check_class kV_m_check_class dc_m_check_class pm_m_check_class cd_m_check_class ct_m_check_class : Value} {od_m_check_class an_m_check_class : Option Addr} {sl_m_check_class : Array (Option Value)} {f_m_check_class : Addr}
    {oc_m_Book_size kV_m_Book_size dc_m_Book_size pm_m_Book_size cd_m_Book_size ct_m_Book_size : Value} {od_m_Book_size an_m_Book_size : Option Addr} {sl_m_Book_size : Array (Option Value)} {f_m_Book_size : Addr}
    {oc_d_check_walk kV_d_check_walk dc_d_check_walk pm_d_check_walk cd_d_check_walk ct_d_check_walk : Value} {od_d_check_walk an_d_check_walk : Option Addr} {sl_d_check_walk : Array (Option Value)} {f_d_check_walk : Addr}
    {oc_m_wife_of kV_m_wife_of dc_m_wife_of pm_m_wife_of cd_m_wife_of ct_m_wife_of : Value} {od_m_wife_of an_m_wife_of : Option Addr} {sl_m_wife_of : Array (Option Value)} {f_m_wife_of : Addr}
    {oc_m_father_of kV_m_father_of dc_m_father_of pm_m_father_of cd_m_father_of ct_m_father_of : Value} {od_m_father_of an_m_father_of : Option Addr} {sl_m_father_of : Array (Option Value)} {f_m_father_of : Addr}
    {oc_m_husband_of kV_m_husband_of dc_m_husband_of pm_m_husband_of cd_m_husband_of ct_m_husband_of : Value} {od_m_husband_of an_m_husband_of : Option Addr} {sl_m_husband_of : Array (Option Value)} {f_m_husband_of : Addr}
    {oc_d_partner_class kV_d_partner_class dc_d_partner_class pm_d_partner_class cd_d_partner_class ct_d_partner_class : Value} {od_d_partner_class an_d_partner_class : Option Addr} {sl_d_partner_class : Array (Option Value)} {f_d_partner_class : Addr}
    {oc_m_heir_of kV_m_heir_of dc_m_heir_of pm_m_heir_of cd_m_heir_of ct_m_heir_of : Value} {od_m_heir_of an_m_heir_of : Option Addr} {sl_m_heir_of : Array (Option Value)} {f_m_heir_of : Addr}
    {oc_d_child_class kV_d_child_class dc_d_child_class pm_d_child_class cd_d_child_class ct_d_child_class : Value} {od_d_child_class an_d_child_class : Option Addr} {sl_d_child_class : Array (Option Value)} {f_d_child_class : Addr}
    {oc_d_class_after kV_d_class_after dc_d_class_after pm_d_class_after cd_d_class_after ct_d_class_after : Value} {od_d_class_after an_d_class_after : Option Addr} {sl_d_class_after : Array (Option Value)} {f_d_class_after : Addr}
    {oc_d_partner_sex kV_d_partner_sex dc_d_partner_sex pm_d_partner_sex cd_d_partner_sex ct_d_partner_sex : Value} {od_d_partner_sex an_d_partner_sex : Option Addr} {sl_d_partner_sex : Array (Option Value)} {f_d_partner_sex : Addr}
    {oc_d_sex_after kV_d_sex_after dc_d_sex_after pm_d_sex_after cd_d_sex_after ct_d_sex_after : Value} {od_d_sex_after an_d_sex_after : Option Addr} {sl_d_sex_after : Array (Option Value)} {f_d_sex_after : Addr}
    {oc_d_walked kV_d_walked dc_d_walked pm_d_walked cd_d_walked ct_d_walked : Value} {od_d_walked an_d_walked : Option Addr} {sl_d_walked : Array (Option Value)} {f_d_walked : Addr}
    {oc_m_sex_of kV_m_sex_of dc_m_sex_of pm_m_sex_of cd_m_sex_of ct_m_sex_of : Value} {od_m_sex_of an_m_sex_of : Option Addr} {sl_m_sex_of : Array (Option Value)} {f_m_sex_of : Addr}
    {oc_m_children kV_m_children dc_m_children pm_m_children cd_m_children ct_m_children : Value} {od_m_children an_m_children : Option Addr} {sl_m_children : Array (Option Value)} {f_m_children : Addr}
    {oc_m_siblings kV_m_siblings dc_m_siblings pm_m_siblings cd_m_siblings ct_m_siblings : Value} {od_m_siblings an_m_siblings : Option Addr} {sl_m_siblings : Array (Option Value)} {f_m_siblings : Addr}
    {oc_m_kin_by_letter kV_m_kin_by_letter dc_m_kin_by_letter pm_m_kin_by_letter cd_m_kin_by_letter ct_m_kin_by_letter : Value} {od_m_kin_by_letter an_m_kin_by_letter : Option Addr} {sl_m_kin_by_letter : Array (Option Value)} {f_m_kin_by_letter : Addr}
    {oc_m_kin kV_m_kin dc_m_kin pm_m_kin cd_m_kin ct_m_kin : Value} {od_m_kin an_m_kin : Option Addr} {sl_m_kin : Array (Option Value)} {f_m_kin : Addr}
    {oc_d_near_classes kV_d_near_classes dc_d_near_classes pm_d_near_classes cd_d_near_classes ct_d_near_classes : Value} {od_d_near_classes an_d_near_classes : Option Addr} {sl_d_near_classes : Array (Option Value)} {f_d_near_classes : Addr}
    {oc_d_fitting kV_d_fitting dc_d_fitting pm_d_fitting cd_d_fitting ct_d_fitting : Value} {od_d_fitting an_d_fitting : Option Addr} {sl_d_fitting : Array (Option Value)} {f_d_fitting : Addr}
    {oc_d__law_refused kV_d__law_refused dc_d__law_refused pm_d__law_refused cd_d__law_refused ct_d__law_refused : Value} {od_d__law_refused an_d__law_refused : Option Addr} {sl_d__law_refused : Array (Option Value)} {f_d__law_refused : Addr}
    {oc_d__law_near kV_d__law_near dc_d__law_near pm_d__law_near cd_d__law_near ct_d__law_near : Value} {od_d__law_near an_d__law_near : Option Addr} {sl_d__law_near : Array (Option Value)} {f_d__law_near : Addr}
    {oc_d__law_clash kV_d__law_clash dc_d__law_clash pm_d__law_clash cd_d__law_clash ct_d__law_clash : Value} {od_d__law_clash an_d__law_clash : Option Addr} {sl_d__law_clash : Array (Option Value)} {f_d__law_clash : Addr}
    {oc_d__law_together kV_d__law_together dc_d__law_together pm_d__law_together cd_d__law_together ct_d__law_together : Value} {od_d__law_together an_d__law_together : Option Addr} {sl_d__law_together : Array (Option Value)} {f_d__law_together : Addr}
    {oc_d__law_whole kV_d__law_whole dc_d__law_whole pm_d__law_whole cd_d__law_whole ct_d__law_whole : Value} {od_d__law_whole an_d__law_whole : Option Addr} {sl_d__law_whole : Array (Option Value)} {f_d__law_whole : Addr}
    {oc_d__law_fits kV_d__law_fits dc_d__law_fits pm_d__law_fits cd_d__law_fits ct_d__law_fits : Value} {od_d__law_fits an_d__law_fits : Option Addr} {sl_d__law_fits : Array (Option Value)} {f_d__law_fits : Addr}
    {oc_d__law_list_good kV_d__law_list_good dc_d__law_list_good pm_d__law_list_good cd_d__law_list_good ct_d__law_list_good : Value} {od_d__law_list_good an_d__law_list_good : Option Addr} {sl_d__law_list_good : Array (Option Value)} {f_d__law_list_good : Addr}
    {oc_d__law_asked kV_d__law_asked dc_d__law_asked pm_d__law_asked cd_d__law_asked ct_d__law_asked : Value} {od_d__law_asked an_d__law_asked : Option Addr} {sl_d__law_asked : Array (Option Value)} {f_d__law_asked : Addr}
    {oc_d_is_turn kV_d_is_turn dc_d_is_turn pm_d_is_turn cd_d_is_turn ct_d_is_turn : Value} {od_d_is_turn an_d_is_turn : Option Addr} {sl_d_is_turn : Array (Option Value)} {f_d_is_turn : Addr}
    {oc_d_turned_back kV_d_turned_back dc_d_turned_back pm_d_turned_back cd_d_turned_back ct_d_turned_back : Value} {od_d_turned_back an_d_turned_back : Option Addr} {sl_d_turned_back : Array (Option Value)} {f_d_turned_back : Addr}
    {oc_m_Table___init__ kV_m_Table___init__ dc_m_Table___init__ pm_m_Table___init__ cd_m_Table___init__ ct_m_Table___init__ : Value} {od_m_Table___init__ an_m_Table___init__ : Option Addr} {sl_m_Table___init__ : Array (Option Value)} {f_m_Table___init__ : Addr}
    {oc_m_Book___init__ kV_m_Book___init__ dc_m_Book___init__ pm_m_Book___init__ cd_m_Book___init__ ct_m_Book___init__ : Value} {od_m_Book___init__ an_m_Book___init__ : Option Addr} {sl_m_Book___init__ : Array (Option Value)} {f_m_Book___init__ : Addr}
    {oc_d_law kV_d_law dc_d_law pm_d_law cd_d_law ct_d_law : Value} {od_d_law an_d_law : Option Addr} {sl_d_law : Array (Option Value)} {f_d_law : Addr}
    {t_LETTERS : Tok}
    {t_LETTERS_TO_MEN : Tok}
    {t_MOST_LETTERS : Tok}
    {t_LETTERS_THAT_HANG : Tok}
    {t_MOST_PERSONS : Tok}
    {t_MOST_CLASSES : Tok}
    (b_KinError : PySem.W.nsIn K mainGlobals "KinError" = some (some (.ref a_KinError)))
    (b_NoTable : PySem.W.nsIn K mainGlobals "NoTable" = some (some (.ref a_NoTable)))
    (b_NoClass : PySem.W.nsIn K mainGlobals "NoClass" = some (some (.ref a_NoClass)))
    (b_NoWalk : PySem.W.nsIn K mainGlobals "NoWalk" = some (some (.ref a_NoWalk)))
    (b_NoPerson : PySem.W.nsIn K mainGlobals "NoPerson" = some (some (.ref a_NoPerson)))
    (b_NoParents : PySem.W.nsIn K mainGlobals "NoParents" = some (some (.ref a_NoParents)))
    (b_TooMany : PySem.W.nsIn K mainGlobals "TooMany" = some (some (.ref a_TooMany)))
    (b_Book : PySem.W.nsIn K mainGlobals "Book" = some (some (.ref a_Book)))
    (b_Table : PySem.W.nsIn K mainGlobals "Table" = some (some (.ref a_Table)))
    (pg_Book : PySem.W.plainGet K a_Book Str.empty = true)
    (hd_Book : PySem.W.hasDictIn K a_Book = true)
    (po_Book : PySem.W.plainOver K a_Book = true)
    (sa_Book : PySem.W.findIn K (.ref a_Book) "__setattr__" = some (some (.builtin "object.__setattr__")))
    (mk_Book : PySem.W.makesIn K a_Book = true)
    (kc_Book : PySem.W.keepIn K (.ref a_Book) = true)
    (n_sexes : PySem.W.findIn K (.ref a_Book) "sexes" = some none)
    (n_fathers : PySem.W.findIn K (.ref a_Book) "fathers" = some none)
    (n_mothers : PySem.W.findIn K (.ref a_Book) "mothers" = some none)
    (n_partner_lists : PySem.W.findIn K (.ref a_Book) "partner_lists" = some none)
    (pg_Table : PySem.W.plainGet K a_Table Str.empty = true)
    (hd_Table : PySem.W.hasDictIn K a_Table = true)
    (po_Table : PySem.W.plainOver K a_Table = true)
    (sa_Table : PySem.W.findIn K (.ref a_Table) "__setattr__" = some (some (.builtin "object.__setattr__")))
    (mk_Table : PySem.W.makesIn K a_Table = true)
    (kc_Table : PySem.W.keepIn K (.ref a_Table) = true)
    (n_wife_turn : PySem.W.findIn K (.ref a_Table) "wife_turn" = some none)
    (n_heir_turn : PySem.W.findIn K (.ref a_Table) "heir_turn" = some none)
    (n_husband_turn : PySem.W.findIn K (.ref a_Table) "husband_turn" = some none)
    (n_father_turn : PySem.W.findIn K (.ref a_Table) "father_turn" = some none)
    (kd1 : PySem.W.specialIn K (.builtin "object.__class__") "__get__" = some (some (.builtin "getset_descriptor.__get__")))
    (kd2 : PySem.W.takesIn K (.builtin "object.__class__") = some true)
    (x_NoTable : PySem.W.excIn K a_NoTable bmVE "ValueError.__new__" = true)
    (c1_NoTable : PySem.W.isClsIn K a_NoTable = true)
    (c2_NoTable : PySem.W.findIn K (.ref a_NoTable) "__getattribute__" = some (some (.builtin "BaseException.__getattribute__")))
    (c3_NoTable : PySem.W.findIn K (.ref a_NoTable) "__getattr__" = some none)
    (c4_NoTable : PySem.W.findIn K (.ref a_NoTable) "__class__" = some (some (.builtin "object.__class__")))
    (c5_NoTable : PySem.W.mroIn K a_NoTable (.type "object") = some true)
    (c6_NoTable : PySem.W.mroIn K a_NoTable (.type "BaseException") = some true)
    (w_NoTable : PySem.W.exmOne K (.ref a_NoTable) (.ref a_KinError) = some true)
    (v_NoTable : PySem.W.kitOne K (.ref a_NoTable) (.type "ValueError") = some true)
    (k_NoTable_NoTable : PySem.W.kitOne K (.ref a_NoTable) (.ref a_NoTable) = some true)
    (k_NoTable_NoClass : PySem.W.kitOne K (.ref a_NoTable) (.ref a_NoClass) = some false)
    (k_NoTable_NoWalk : PySem.W.kitOne K (.ref a_NoTable) (.ref a_NoWalk) = some false)
    (k_NoTable_NoPerson : PySem.W.kitOne K (.ref a_NoTable) (.ref a_NoPerson) = some false)
    (k_NoTable_NoParents : PySem.W.kitOne K (.ref a_NoTable) (.ref a_NoParents) = some false)
    (k_NoTable_TooMany : PySem.W.kitOne K (.ref a_NoTable) (.ref a_TooMany) = some false)
    (x_NoClass : PySem.W.excIn K a_NoClass bmVE "ValueError.__new__" = true)
    (c1_NoClass : PySem.W.isClsIn K a_NoClass = true)
    (c2_NoClass : PySem.W.findIn K (.ref a_NoClass) "__getattribute__" = some (some (.builtin "BaseException.__getattribute__")))
    (c3_NoClass : PySem.W.findIn K (.ref a_NoClass) "__getattr__" = some none)
    (c4_NoClass : PySem.W.findIn K (.ref a_NoClass) "__class__" = some (some (.builtin "object.__class__")))
    (c5_NoClass : PySem.W.mroIn K a_NoClass (.type "object") = some true)
    (c6_NoClass : PySem.W.mroIn K a_NoClass (.type "BaseException") = some true)
    (w_NoClass : PySem.W.exmOne K (.ref a_NoClass) (.ref a_KinError) = some true)
    (v_NoClass : PySem.W.kitOne K (.ref a_NoClass) (.type "ValueError") = some true)
    (k_NoClass_NoTable : PySem.W.kitOne K (.ref a_NoClass) (.ref a_NoTable) = some false)
    (k_NoClass_NoClass : PySem.W.kitOne K (.ref a_NoClass) (.ref a_NoClass) = some true)
    (k_NoClass_NoWalk : PySem.W.kitOne K (.ref a_NoClass) (.ref a_NoWalk) = some false)
    (k_NoClass_NoPerson : PySem.W.kitOne K (.ref a_NoClass) (.ref a_NoPerson) = some false)
    (k_NoClass_NoParents : PySem.W.kitOne K (.ref a_NoClass) (.ref a_NoParents) = some false)
    (k_NoClass_TooMany : PySem.W.kitOne K (.ref a_NoClass) (.ref a_TooMany) = some false)
    (x_NoWalk : PySem.W.excIn K a_NoWalk bmVE "ValueError.__new__" = true)
    (c1_NoWalk : PySem.W.isClsIn K a_NoWalk = true)
    (c2_NoWalk : PySem.W.findIn K (.ref a_NoWalk) "__getattribute__" = some (some (.builtin "BaseException.__getattribute__")))
    (c3_NoWalk : PySem.W.findIn K (.ref a_NoWalk) "__getattr__" = some none)
    (c4_NoWalk : PySem.W.findIn K (.ref a_NoWalk) "__class__" = some (some (.builtin "object.__class__")))
    (c5_NoWalk : PySem.W.mroIn K a_NoWalk (.type "object") = some true)
    (c6_NoWalk : PySem.W.mroIn K a_NoWalk (.type "BaseException") = some true)
    (w_NoWalk : PySem.W.exmOne K (.ref a_NoWalk) (.ref a_KinError) = some true)
    (v_NoWalk : PySem.W.kitOne K (.ref a_NoWalk) (.type "ValueError") = some true)
    (k_NoWalk_NoTable : PySem.W.kitOne K (.ref a_NoWalk) (.ref a_NoTable) = some false)
    (k_NoWalk_NoClass : PySem.W.kitOne K (.ref a_NoWalk) (.ref a_NoClass) = some false)
    (k_NoWalk_NoWalk : PySem.W.kitOne K (.ref a_NoWalk) (.ref a_NoWalk) = some true)
    (k_NoWalk_NoPerson : PySem.W.kitOne K (.ref a_NoWalk) (.ref a_NoPerson) = some false)
    (k_NoWalk_NoParents : PySem.W.kitOne K (.ref a_NoWalk) (.ref a_NoParents) = some false)
    (k_NoWalk_TooMany : PySem.W.kitOne K (.ref a_NoWalk) (.ref a_TooMany) = some false)
    (x_NoPerson : PySem.W.excIn K a_NoPerson bmVE "ValueError.__new__" = true)
    (c1_NoPerson : PySem.W.isClsIn K a_NoPerson = true)
    (c2_NoPerson : PySem.W.findIn K (.ref a_NoPerson) "__getattribute__" = some (some (.builtin "BaseException.__getattribute__")))
    (c3_NoPerson : PySem.W.findIn K (.ref a_NoPerson) "__getattr__" = some none)
    (c4_NoPerson : PySem.W.findIn K (.ref a_NoPerson) "__class__" = some (some (.builtin "object.__class__")))
    (c5_NoPerson : PySem.W.mroIn K a_NoPerson (.type "object") = some true)
    (c6_NoPerson : PySem.W.mroIn K a_NoPerson (.type "BaseException") = some true)
    (w_NoPerson : PySem.W.exmOne K (.ref a_NoPerson) (.ref a_KinError) = some true)
    (v_NoPerson : PySem.W.kitOne K (.ref a_NoPerson) (.type "ValueError") = some true)
    (k_NoPerson_NoTable : PySem.W.kitOne K (.ref a_NoPerson) (.ref a_NoTable) = some false)
    (k_NoPerson_NoClass : PySem.W.kitOne K (.ref a_NoPerson) (.ref a_NoClass) = some false)
    (k_NoPerson_NoWalk : PySem.W.kitOne K (.ref a_NoPerson) (.ref a_NoWalk) = some false)
    (k_NoPerson_NoPerson : PySem.W.kitOne K (.ref a_NoPerson) (.ref a_NoPerson) = some true)
    (k_NoPerson_NoParents : PySem.W.kitOne K (.ref a_NoPerson) (.ref a_NoParents) = some false)
    (k_NoPerson_TooMany : PySem.W.kitOne K (.ref a_NoPerson) (.ref a_TooMany) = some false)
    (x_NoParents : PySem.W.excIn K a_NoParents bmVE "ValueError.__new__" = true)
    (c1_NoParents : PySem.W.isClsIn K a_NoParents = true)
    (c2_NoParents : PySem.W.findIn K (.ref a_NoParents) "__getattribute__" = some (some (.builtin "BaseException.__getattribute__")))
    (c3_NoParents : PySem.W.findIn K (.ref a_NoParents) "__getattr__" = some none)
    (c4_NoParents : PySem.W.findIn K (.ref a_NoParents) "__class__" = some (some (.builtin "object.__class__")))
    (c5_NoParents : PySem.W.mroIn K a_NoParents (.type "object") = some true)
    (c6_NoParents : PySem.W.mroIn K a_NoParents (.type "BaseException") = some true)
    (w_NoParents : PySem.W.exmOne K (.ref a_NoParents) (.ref a_KinError) = some true)
    (v_NoParents : PySem.W.kitOne K (.ref a_NoParents) (.type "ValueError") = some true)
    (k_NoParents_NoTable : PySem.W.kitOne K (.ref a_NoParents) (.ref a_NoTable) = some false)
    (k_NoParents_NoClass : PySem.W.kitOne K (.ref a_NoParents) (.ref a_NoClass) = some false)
    (k_NoParents_NoWalk : PySem.W.kitOne K (.ref a_NoParents) (.ref a_NoWalk) = some false)
    (k_NoParents_NoPerson : PySem.W.kitOne K (.ref a_NoParents) (.ref a_NoPerson) = some false)
    (k_NoParents_NoParents : PySem.W.kitOne K (.ref a_NoParents) (.ref a_NoParents) = some true)
    (k_NoParents_TooMany : PySem.W.kitOne K (.ref a_NoParents) (.ref a_TooMany) = some false)
    (x_TooMany : PySem.W.excIn K a_TooMany bmVE "ValueError.__new__" = true)
    (c1_TooMany : PySem.W.isClsIn K a_TooMany = true)
    (c2_TooMany : PySem.W.findIn K (.ref a_TooMany) "__getattribute__" = some (some (.builtin "BaseException.__getattribute__")))
    (c3_TooMany : PySem.W.findIn K (.ref a_TooMany) "__getattr__" = some none)
    (c4_TooMany : PySem.W.findIn K (.ref a_TooMany) "__class__" = some (some (.builtin "object.__class__")))
    (c5_TooMany : PySem.W.mroIn K a_TooMany (.type "object") = some true)
    (c6_TooMany : PySem.W.mroIn K a_TooMany (.type "BaseException") = some true)
    (w_TooMany : PySem.W.exmOne K (.ref a_TooMany) (.ref a_KinError) = some true)
    (v_TooMany : PySem.W.kitOne K (.ref a_TooMany) (.type "ValueError") = some true)
    (k_TooMany_NoTable : PySem.W.kitOne K (.ref a_TooMany) (.ref a_NoTable) = some false)
    (k_TooMany_NoClass : PySem.W.kitOne K (.ref a_TooMany) (.ref a_NoClass) = some false)
    (k_TooMany_NoWalk : PySem.W.kitOne K (.ref a_TooMany) (.ref a_NoWalk) = some false)
    (k_TooMany_NoPerson : PySem.W.kitOne K (.ref a_TooMany) (.ref a_NoPerson) = some false)
    (k_TooMany_NoParents : PySem.W.kitOne K (.ref a_TooMany) (.ref a_NoParents) = some false)
    (k_TooMany_TooMany : PySem.W.kitOne K (.ref a_TooMany) (.ref a_TooMany) = some true)
    (a_d__law_cell_at : PySem.W.nsIn K mainGlobals "_law_cell_at" = some (some (.ref f_d__law_cell_at)))
    (l_d__law_cell_at : K.lookup f_d__law_cell_at = some ⟨oc_d__law_cell_at, od_d__law_cell_at, .func (PySem.W.fnOf "_law_cell_at" "_law_cell_at" (defArgs (top 33)) (defBody (top 33)) (defScope (top 33)) .none kV_d__law_cell_at dc_d__law_cell_at pm_d__law_cell_at an_d__law_cell_at cd_d__law_cell_at ct_d__law_cell_at), sl_d__law_cell_at⟩)
    (cc_d__law_cell_at : PySem.W.codeIn K cd_d__law_cell_at "_law_cell_at" = true)
    (kk_d__law_cell_at : PySem.W.keepIn K (.ref f_d__law_cell_at) = true)
    (a_d__law_turn_by : PySem.W.nsIn K mainGlobals "_law_turn_by" = some (some (.ref f_d__law_turn_by)))
    (l_d__law_turn_by : K.lookup f_d__law_turn_by = some ⟨oc_d__law_turn_by, od_d__law_turn_by, .func (PySem.W.fnOf "_law_turn_by" "_law_turn_by" (defArgs (top 36)) (defBody (top 36)) (defScope (top 36)) .none kV_d__law_turn_by dc_d__law_turn_by pm_d__law_turn_by an_d__law_turn_by cd_d__law_turn_by ct_d__law_turn_by), sl_d__law_turn_by⟩)
    (cc_d__law_turn_by : PySem.W.codeIn K cd_d__law_turn_by "_law_turn_by" = true)
    (kk_d__law_turn_by : PySem.W.keepIn K (.ref f_d__law_turn_by) = true)
    (a_d__law_comer : PySem.W.nsIn K mainGlobals "_law_comer" = some (some (.ref f_d__law_comer)))
    (l_d__law_comer : K.lookup f_d__law_comer = some ⟨oc_d__law_comer, od_d__law_comer, .func (PySem.W.fnOf "_law_comer" "_law_comer" (defArgs (top 37)) (defBody (top 37)) (defScope (top 37)) .none kV_d__law_comer dc_d__law_comer pm_d__law_comer an_d__law_comer cd_d__law_comer ct_d__law_comer), sl_d__law_comer⟩)
    (cc_d__law_comer : PySem.W.codeIn K cd_d__law_comer "_law_comer" = true)
    (kk_d__law_comer : PySem.W.keepIn K (.ref f_d__law_comer) = true)
    (a_m_check_room : PySem.W.findIn K (.ref a_Book) "check_room" = some (some (.ref f_m_check_room)))
    (i_m_check_room : PySem.W.isFn K (.ref f_m_check_room) = true)
    (l_m_check_room : K.lookup f_m_check_room = some ⟨oc_m_check_room, od_m_check_room, .func (PySem.W.fnOf "check_room" "Book.check_room" (defArgs (inClass (top 26) 3)) (defBody (inClass (top 26) 3)) (defScope (inClass (top 26) 3)) .none kV_m_check_room dc_m_check_room pm_m_check_room an_m_check_room cd_m_check_room ct_m_check_room), sl_m_check_room⟩)
    (cc_m_check_room : PySem.W.codeIn K cd_m_check_room "Book.check_room" = true)
    (kk_m_check_room : PySem.W.keepIn K (.ref f_m_check_room) = true)
    (a_m_enter : PySem.W.findIn K (.ref a_Book) "enter" = some (some (.ref f_m_enter)))
    (i_m_enter : PySem.W.isFn K (.ref f_m_enter) = true)
    (l_m_enter : K.lookup f_m_enter = some ⟨oc_m_enter, od_m_enter, .func (PySem.W.fnOf "enter" "Book.enter" (defArgs (inClass (top 26) 4)) (defBody (inClass (top 26) 4)) (defScope (inClass (top 26) 4)) .none kV_m_enter dc_m_enter pm_m_enter an_m_enter cd_m_enter ct_m_enter), sl_m_enter⟩)
    (cc_m_enter : PySem.W.codeIn K cd_m_enter "Book.enter" = true)
    (kk_m_enter : PySem.W.keepIn K (.ref f_m_enter) = true)
    (a_m_come : PySem.W.findIn K (.ref a_Book) "come" = some (some (.ref f_m_come)))
    (i_m_come : PySem.W.isFn K (.ref f_m_come) = true)
    (l_m_come : K.lookup f_m_come = some ⟨oc_m_come, od_m_come, .func (PySem.W.fnOf "come" "Book.come" (defArgs (inClass (top 26) 6)) (defBody (inClass (top 26) 6)) (defScope (inClass (top 26) 6)) .none kV_m_come dc_m_come pm_m_come an_m_come cd_m_come ct_m_come), sl_m_come⟩)
    (cc_m_come : PySem.W.codeIn K cd_m_come "Book.come" = true)
    (kk_m_come : PySem.W.keepIn K (.ref f_m_come) = true)
    (a_m_check_person : PySem.W.findIn K (.ref a_Book) "check_person" = some (some (.ref f_m_check_person)))
    (i_m_check_person : PySem.W.isFn K (.ref f_m_check_person) = true)
    (l_m_check_person : K.lookup f_m_check_person = some ⟨oc_m_check_person, od_m_check_person, .func (PySem.W.fnOf "check_person" "Book.check_person" (defArgs (inClass (top 26) 1)) (defBody (inClass (top 26) 1)) (defScope (inClass (top 26) 1)) .none kV_m_check_person dc_m_check_person pm_m_check_person an_m_check_person cd_m_check_person ct_m_check_person), sl_m_check_person⟩)
    (cc_m_check_person : PySem.W.codeIn K cd_m_check_person "Book.check_person" = true)
    (kk_m_check_person : PySem.W.keepIn K (.ref f_m_check_person) = true)
    (a_m_check_couple : PySem.W.findIn K (.ref a_Book) "check_couple" = some (some (.ref f_m_check_couple)))
    (i_m_check_couple : PySem.W.isFn K (.ref f_m_check_couple) = true)
    (l_m_check_couple : K.lookup f_m_check_couple = some ⟨oc_m_check_couple, od_m_check_couple, .func (PySem.W.fnOf "check_couple" "Book.check_couple" (defArgs (inClass (top 26) 2)) (defBody (inClass (top 26) 2)) (defScope (inClass (top 26) 2)) .none kV_m_check_couple dc_m_check_couple pm_m_check_couple an_m_check_couple cd_m_check_couple ct_m_check_couple), sl_m_check_couple⟩)
    (cc_m_check_couple : PySem.W.codeIn K cd_m_check_couple "Book.check_couple" = true)
    (kk_m_check_couple : PySem.W.keepIn K (.ref f_m_check_couple) = true)
    (a_m_pair : PySem.W.findIn K (.ref a_Book) "pair" = some (some (.ref f_m_pair)))
    (i_m_pair : PySem.W.isFn K (.ref f_m_pair) = true)
    (l_m_pair : K.lookup f_m_pair = some ⟨oc_m_pair, od_m_pair, .func (PySem.W.fnOf "pair" "Book.pair" (defArgs (inClass (top 26) 5)) (defBody (inClass (top 26) 5)) (defScope (inClass (top 26) 5)) .none kV_m_pair dc_m_pair pm_m_pair an_m_pair cd_m_pair ct_m_pair), sl_m_pair⟩)
    (cc_m_pair : PySem.W.codeIn K cd_m_pair "Book.pair" = true)
    (kk_m_pair : PySem.W.keepIn K (.ref f_m_pair) = true)
    (a_m_born : PySem.W.findIn K (.ref a_Book) "born" = some (some (.ref f_m_born)))
    (i_m_born : PySem.W.isFn K (.ref f_m_born) = true)
    (l_m_born : K.lookup f_m_born = some ⟨oc_m_born, od_m_born, .func (PySem.W.fnOf "born" "Book.born" (defArgs (inClass (top 26) 7)) (defBody (inClass (top 26) 7)) (defScope (inClass (top 26) 7)) .none kV_m_born dc_m_born pm_m_born an_m_born cd_m_born ct_m_born), sl_m_born⟩)
    (cc_m_born : PySem.W.codeIn K cd_m_born "Book.born" = true)
    (kk_m_born : PySem.W.keepIn K (.ref f_m_born) = true)
    (a_m_wed : PySem.W.findIn K (.ref a_Book) "wed" = some (some (.ref f_m_wed)))
    (i_m_wed : PySem.W.isFn K (.ref f_m_wed) = true)
    (l_m_wed : K.lookup f_m_wed = some ⟨oc_m_wed, od_m_wed, .func (PySem.W.fnOf "wed" "Book.wed" (defArgs (inClass (top 26) 8)) (defBody (inClass (top 26) 8)) (defScope (inClass (top 26) 8)) .none kV_m_wed dc_m_wed pm_m_wed an_m_wed cd_m_wed ct_m_wed), sl_m_wed⟩)
    (cc_m_wed : PySem.W.codeIn K cd_m_wed "Book.wed" = true)
    (kk_m_wed : PySem.W.keepIn K (.ref f_m_wed) = true)
    (a_d__law_put : PySem.W.nsIn K mainGlobals "_law_put" = some (some (.ref f_d__law_put)))
    (l_d__law_put : K.lookup f_d__law_put = some ⟨oc_d__law_put, od_d__law_put, .func (PySem.W.fnOf "_law_put" "_law_put" (defArgs (top 38)) (defBody (top 38)) (defScope (top 38)) .none kV_d__law_put dc_d__law_put pm_d__law_put an_d__law_put cd_d__law_put ct_d__law_put), sl_d__law_put⟩)
    (cc_d__law_put : PySem.W.codeIn K cd_d__law_put "_law_put" = true)
    (kk_d__law_put : PySem.W.keepIn K (.ref f_d__law_put) = true)
    (a_d__law_fit_comer : PySem.W.nsIn K mainGlobals "_law_fit_comer" = some (some (.ref f_d__law_fit_comer)))
    (l_d__law_fit_comer : K.lookup f_d__law_fit_comer = some ⟨oc_d__law_fit_comer, od_d__law_fit_comer, .func (PySem.W.fnOf "_law_fit_comer" "_law_fit_comer" (defArgs (top 39)) (defBody (top 39)) (defScope (top 39)) .none kV_d__law_fit_comer dc_d__law_fit_comer pm_d__law_fit_comer an_d__law_fit_comer cd_d__law_fit_comer ct_d__law_fit_comer), sl_d__law_fit_comer⟩)
    (cc_d__law_fit_comer : PySem.W.codeIn K cd_d__law_fit_comer "_law_fit_comer" = true)
    (kk_d__law_fit_comer : PySem.W.keepIn K (.ref f_d__law_fit_comer) = true)
    (a_d__law_fit_book : PySem.W.nsIn K mainGlobals "_law_fit_book" = some (some (.ref f_d__law_fit_book)))
    (l_d__law_fit_book : K.lookup f_d__law_fit_book = some ⟨oc_d__law_fit_book, od_d__law_fit_book, .func (PySem.W.fnOf "_law_fit_book" "_law_fit_book" (defArgs (top 40)) (defBody (top 40)) (defScope (top 40)) .none kV_d__law_fit_book dc_d__law_fit_book pm_d__law_fit_book an_d__law_fit_book cd_d__law_fit_book ct_d__law_fit_book), sl_d__law_fit_book⟩)
    (cc_d__law_fit_book : PySem.W.codeIn K cd_d__law_fit_book "_law_fit_book" = true)
    (kk_d__law_fit_book : PySem.W.keepIn K (.ref f_d__law_fit_book) = true)
    (a_m_check_class : PySem.W.findIn K (.ref a_Table) "check_class" = some (some (.ref f_m_check_class)))
    (i_m_check_class : PySem.W.isFn K (.ref f_m_check_class) = true)
    (l_m_check_class : K.lookup f_m_check_class = some ⟨oc_m_check_class, od_m_check_class, .func (PySem.W.fnOf "check_class" "Table.check_class" (defArgs (inClass (top 31) 2)) (defBody (inClass (top 31) 2)) (defScope (inClass (top 31) 2)) .none kV_m_check_class dc_m_check_class pm_m_check_class an_m_check_class cd_m_check_class ct_m_check_class), sl_m_check_class⟩)
    (cc_m_check_class : PySem.W.codeIn K cd_m_check_class "Table.check_class" = true)
    (kk_m_check_class : PySem.W.keepIn K (.ref f_m_check_class) = true)
    (a_m_Book_size : PySem.W.findIn K (.ref a_Book) "size" = some (some (.ref f_m_Book_size)))
    (i_m_Book_size : PySem.W.isFn K (.ref f_m_Book_size) = true)
    (l_m_Book_size : K.lookup f_m_Book_size = some ⟨oc_m_Book_size, od_m_Book_size, .func (PySem.W.fnOf "size" "Book.size" (defArgs (inClass (top 26) 9)) (defBody (inClass (top 26) 9)) (defScope (inClass (top 26) 9)) .none kV_m_Book_size dc_m_Book_size pm_m_Book_size an_m_Book_size cd_m_Book_size ct_m_Book_size), sl_m_Book_size⟩)
    (cc_m_Book_size : PySem.W.codeIn K cd_m_Book_size "Book.size" = true)
    (kk_m_Book_size : PySem.W.keepIn K (.ref f_m_Book_size) = true)
    (a_d_check_walk : PySem.W.nsIn K mainGlobals "check_walk" = some (some (.ref f_d_check_walk)))
    (l_d_check_walk : K.lookup f_d_check_walk = some ⟨oc_d_check_walk, od_d_check_walk, .func (PySem.W.fnOf "check_walk" "check_walk" (defArgs (top 13)) (defBody (top 13)) (defScope (top 13)) .none kV_d_check_walk dc_d_check_walk pm_d_check_walk an_d_check_walk cd_d_check_walk ct_d_check_walk), sl_d_check_walk⟩)
    (cc_d_check_walk : PySem.W.codeIn K cd_d_check_walk "check_walk" = true)
    (kk_d_check_walk : PySem.W.keepIn K (.ref f_d_check_walk) = true)
    (a_m_wife_of : PySem.W.findIn K (.ref a_Table) "wife_of" = some (some (.ref f_m_wife_of)))
    (i_m_wife_of : PySem.W.isFn K (.ref f_m_wife_of) = true)
    (l_m_wife_of : K.lookup f_m_wife_of = some ⟨oc_m_wife_of, od_m_wife_of, .func (PySem.W.fnOf "wife_of" "Table.wife_of" (defArgs (inClass (top 31) 3)) (defBody (inClass (top 31) 3)) (defScope (inClass (top 31) 3)) .none kV_m_wife_of dc_m_wife_of pm_m_wife_of an_m_wife_of cd_m_wife_of ct_m_wife_of), sl_m_wife_of⟩)
    (cc_m_wife_of : PySem.W.codeIn K cd_m_wife_of "Table.wife_of" = true)
    (kk_m_wife_of : PySem.W.keepIn K (.ref f_m_wife_of) = true)
    (a_m_father_of : PySem.W.findIn K (.ref a_Table) "father_of" = some (some (.ref f_m_father_of)))
    (i_m_father_of : PySem.W.isFn K (.ref f_m_father_of) = true)
    (l_m_father_of : K.lookup f_m_father_of = some ⟨oc_m_father_of, od_m_father_of, .func (PySem.W.fnOf "father_of" "Table.father_of" (defArgs (inClass (top 31) 6)) (defBody (inClass (top 31) 6)) (defScope (inClass (top 31) 6)) .none kV_m_father_of dc_m_father_of pm_m_father_of an_m_father_of cd_m_father_of ct_m_father_of), sl_m_father_of⟩)
    (cc_m_father_of : PySem.W.codeIn K cd_m_father_of "Table.father_of" = true)
    (kk_m_father_of : PySem.W.keepIn K (.ref f_m_father_of) = true)
    (a_m_husband_of : PySem.W.findIn K (.ref a_Table) "husband_of" = some (some (.ref f_m_husband_of)))
    (i_m_husband_of : PySem.W.isFn K (.ref f_m_husband_of) = true)
    (l_m_husband_of : K.lookup f_m_husband_of = some ⟨oc_m_husband_of, od_m_husband_of, .func (PySem.W.fnOf "husband_of" "Table.husband_of" (defArgs (inClass (top 31) 4)) (defBody (inClass (top 31) 4)) (defScope (inClass (top 31) 4)) .none kV_m_husband_of dc_m_husband_of pm_m_husband_of an_m_husband_of cd_m_husband_of ct_m_husband_of), sl_m_husband_of⟩)
    (cc_m_husband_of : PySem.W.codeIn K cd_m_husband_of "Table.husband_of" = true)
    (kk_m_husband_of : PySem.W.keepIn K (.ref f_m_husband_of) = true)
    (a_d_partner_class : PySem.W.nsIn K mainGlobals "partner_class" = some (some (.ref f_d_partner_class)))
    (l_d_partner_class : K.lookup f_d_partner_class = some ⟨oc_d_partner_class, od_d_partner_class, .func (PySem.W.fnOf "partner_class" "partner_class" (defArgs (top 16)) (defBody (top 16)) (defScope (top 16)) .none kV_d_partner_class dc_d_partner_class pm_d_partner_class an_d_partner_class cd_d_partner_class ct_d_partner_class), sl_d_partner_class⟩)
    (cc_d_partner_class : PySem.W.codeIn K cd_d_partner_class "partner_class" = true)
    (kk_d_partner_class : PySem.W.keepIn K (.ref f_d_partner_class) = true)
    (a_m_heir_of : PySem.W.findIn K (.ref a_Table) "heir_of" = some (some (.ref f_m_heir_of)))
    (i_m_heir_of : PySem.W.isFn K (.ref f_m_heir_of) = true)
    (l_m_heir_of : K.lookup f_m_heir_of = some ⟨oc_m_heir_of, od_m_heir_of, .func (PySem.W.fnOf "heir_of" "Table.heir_of" (defArgs (inClass (top 31) 5)) (defBody (inClass (top 31) 5)) (defScope (inClass (top 31) 5)) .none kV_m_heir_of dc_m_heir_of pm_m_heir_of an_m_heir_of cd_m_heir_of ct_m_heir_of), sl_m_heir_of⟩)
    (cc_m_heir_of : PySem.W.codeIn K cd_m_heir_of "Table.heir_of" = true)
    (kk_m_heir_of : PySem.W.keepIn K (.ref f_m_heir_of) = true)
    (a_d_child_class : PySem.W.nsIn K mainGlobals "child_class" = some (some (.ref f_d_child_class)))
    (l_d_child_class : K.lookup f_d_child_class = some ⟨oc_d_child_class, od_d_child_class, .func (PySem.W.fnOf "child_class" "child_class" (defArgs (top 17)) (defBody (top 17)) (defScope (top 17)) .none kV_d_child_class dc_d_child_class pm_d_child_class an_d_child_class cd_d_child_class ct_d_child_class), sl_d_child_class⟩)
    (cc_d_child_class : PySem.W.codeIn K cd_d_child_class "child_class" = true)
    (kk_d_child_class : PySem.W.keepIn K (.ref f_d_child_class) = true)
    (a_d_class_after : PySem.W.nsIn K mainGlobals "class_after" = some (some (.ref f_d_class_after)))
    (l_d_class_after : K.lookup f_d_class_after = some ⟨oc_d_class_after, od_d_class_after, .func (PySem.W.fnOf "class_after" "class_after" (defArgs (top 18)) (defBody (top 18)) (defScope (top 18)) .none kV_d_class_after dc_d_class_after pm_d_class_after an_d_class_after cd_d_class_after ct_d_class_after), sl_d_class_after⟩)
    (cc_d_class_after : PySem.W.codeIn K cd_d_class_after "class_after" = true)
    (kk_d_class_after : PySem.W.keepIn K (.ref f_d_class_after) = true)
    (a_d_partner_sex : PySem.W.nsIn K mainGlobals "partner_sex" = some (some (.ref f_d_partner_sex)))
    (l_d_partner_sex : K.lookup f_d_partner_sex = some ⟨oc_d_partner_sex, od_d_partner_sex, .func (PySem.W.fnOf "partner_sex" "partner_sex" (defArgs (top 14)) (defBody (top 14)) (defScope (top 14)) .none kV_d_partner_sex dc_d_partner_sex pm_d_partner_sex an_d_partner_sex cd_d_partner_sex ct_d_partner_sex), sl_d_partner_sex⟩)
    (cc_d_partner_sex : PySem.W.codeIn K cd_d_partner_sex "partner_sex" = true)
    (kk_d_partner_sex : PySem.W.keepIn K (.ref f_d_partner_sex) = true)
    (a_d_sex_after : PySem.W.nsIn K mainGlobals "sex_after" = some (some (.ref f_d_sex_after)))
    (l_d_sex_after : K.lookup f_d_sex_after = some ⟨oc_d_sex_after, od_d_sex_after, .func (PySem.W.fnOf "sex_after" "sex_after" (defArgs (top 15)) (defBody (top 15)) (defScope (top 15)) .none kV_d_sex_after dc_d_sex_after pm_d_sex_after an_d_sex_after cd_d_sex_after ct_d_sex_after), sl_d_sex_after⟩)
    (cc_d_sex_after : PySem.W.codeIn K cd_d_sex_after "sex_after" = true)
    (kk_d_sex_after : PySem.W.keepIn K (.ref f_d_sex_after) = true)
    (a_d_walked : PySem.W.nsIn K mainGlobals "walked" = some (some (.ref f_d_walked)))
    (l_d_walked : K.lookup f_d_walked = some ⟨oc_d_walked, od_d_walked, .func (PySem.W.fnOf "walked" "walked" (defArgs (top 19)) (defBody (top 19)) (defScope (top 19)) .none kV_d_walked dc_d_walked pm_d_walked an_d_walked cd_d_walked ct_d_walked), sl_d_walked⟩)
    (cc_d_walked : PySem.W.codeIn K cd_d_walked "walked" = true)
    (kk_d_walked : PySem.W.keepIn K (.ref f_d_walked) = true)
    (a_m_sex_of : PySem.W.findIn K (.ref a_Book) "sex_of" = some (some (.ref f_m_sex_of)))
    (i_m_sex_of : PySem.W.isFn K (.ref f_m_sex_of) = true)
    (l_m_sex_of : K.lookup f_m_sex_of = some ⟨oc_m_sex_of, od_m_sex_of, .func (PySem.W.fnOf "sex_of" "Book.sex_of" (defArgs (inClass (top 26) 10)) (defBody (inClass (top 26) 10)) (defScope (inClass (top 26) 10)) .none kV_m_sex_of dc_m_sex_of pm_m_sex_of an_m_sex_of cd_m_sex_of ct_m_sex_of), sl_m_sex_of⟩)
    (cc_m_sex_of : PySem.W.codeIn K cd_m_sex_of "Book.sex_of" = true)
    (kk_m_sex_of : PySem.W.keepIn K (.ref f_m_sex_of) = true)
    (a_m_children : PySem.W.findIn K (.ref a_Book) "children" = some (some (.ref f_m_children)))
    (i_m_children : PySem.W.isFn K (.ref f_m_children) = true)
    (l_m_children : K.lookup f_m_children = some ⟨oc_m_children, od_m_children, .func (PySem.W.fnOf "children" "Book.children" (defArgs (inClass (top 26) 14)) (defBody (inClass (top 26) 14)) (defScope (inClass (top 26) 14)) .none kV_m_children dc_m_children pm_m_children an_m_children cd_m_children ct_m_children), sl_m_children⟩)
    (cc_m_children : PySem.W.codeIn K cd_m_children "Book.children" = true)
    (kk_m_children : PySem.W.keepIn K (.ref f_m_children) = true)
    (a_m_siblings : PySem.W.findIn K (.ref a_Book) "siblings" = some (some (.ref f_m_siblings)))
    (i_m_siblings : PySem.W.isFn K (.ref f_m_siblings) = true)
    (l_m_siblings : K.lookup f_m_siblings = some ⟨oc_m_siblings, od_m_siblings, .func (PySem.W.fnOf "siblings" "Book.siblings" (defArgs (inClass (top 26) 15)) (defBody (inClass (top 26) 15)) (defScope (inClass (top 26) 15)) .none kV_m_siblings dc_m_siblings pm_m_siblings an_m_siblings cd_m_siblings ct_m_siblings), sl_m_siblings⟩)
    (cc_m_siblings : PySem.W.codeIn K cd_m_siblings "Book.siblings" = true)
    (kk_m_siblings : PySem.W.keepIn K (.ref f_m_siblings) = true)
    (a_m_kin_by_letter : PySem.W.findIn K (.ref a_Book) "kin_by_letter" = some (some (.ref f_m_kin_by_letter)))
    (i_m_kin_by_letter : PySem.W.isFn K (.ref f_m_kin_by_letter) = true)
    (l_m_kin_by_letter : K.lookup f_m_kin_by_letter = some ⟨oc_m_kin_by_letter, od_m_kin_by_letter, .func (PySem.W.fnOf "kin_by_letter" "Book.kin_by_letter" (defArgs (inClass (top 26) 16)) (defBody (inClass (top 26) 16)) (defScope (inClass (top 26) 16)) .none kV_m_kin_by_letter dc_m_kin_by_letter pm_m_kin_by_letter an_m_kin_by_letter cd_m_kin_by_letter ct_m_kin_by_letter), sl_m_kin_by_letter⟩)
    (cc_m_kin_by_letter : PySem.W.codeIn K cd_m_kin_by_letter "Book.kin_by_letter" = true)
    (kk_m_kin_by_letter : PySem.W.keepIn K (.ref f_m_kin_by_letter) = true)
    (a_m_kin : PySem.W.findIn K (.ref a_Book) "kin" = some (some (.ref f_m_kin)))
    (i_m_kin : PySem.W.isFn K (.ref f_m_kin) = true)
    (l_m_kin : K.lookup f_m_kin = some ⟨oc_m_kin, od_m_kin, .func (PySem.W.fnOf "kin" "Book.kin" (defArgs (inClass (top 26) 17)) (defBody (inClass (top 26) 17)) (defScope (inClass (top 26) 17)) .none kV_m_kin dc_m_kin pm_m_kin an_m_kin cd_m_kin ct_m_kin), sl_m_kin⟩)
    (cc_m_kin : PySem.W.codeIn K cd_m_kin "Book.kin" = true)
    (kk_m_kin : PySem.W.keepIn K (.ref f_m_kin) = true)
    (a_d_near_classes : PySem.W.nsIn K mainGlobals "near_classes" = some (some (.ref f_d_near_classes)))
    (l_d_near_classes : K.lookup f_d_near_classes = some ⟨oc_d_near_classes, od_d_near_classes, .func (PySem.W.fnOf "near_classes" "near_classes" (defArgs (top 22)) (defBody (top 22)) (defScope (top 22)) .none kV_d_near_classes dc_d_near_classes pm_d_near_classes an_d_near_classes cd_d_near_classes ct_d_near_classes), sl_d_near_classes⟩)
    (cc_d_near_classes : PySem.W.codeIn K cd_d_near_classes "near_classes" = true)
    (kk_d_near_classes : PySem.W.keepIn K (.ref f_d_near_classes) = true)
    (a_d_fitting : PySem.W.nsIn K mainGlobals "fitting" = some (some (.ref f_d_fitting)))
    (l_d_fitting : K.lookup f_d_fitting = some ⟨oc_d_fitting, od_d_fitting, .func (PySem.W.fnOf "fitting" "fitting" (defArgs (top 23)) (defBody (top 23)) (defScope (top 23)) .none kV_d_fitting dc_d_fitting pm_d_fitting an_d_fitting cd_d_fitting ct_d_fitting), sl_d_fitting⟩)
    (cc_d_fitting : PySem.W.codeIn K cd_d_fitting "fitting" = true)
    (kk_d_fitting : PySem.W.keepIn K (.ref f_d_fitting) = true)
    (a_d__law_refused : PySem.W.nsIn K mainGlobals "_law_refused" = some (some (.ref f_d__law_refused)))
    (l_d__law_refused : K.lookup f_d__law_refused = some ⟨oc_d__law_refused, od_d__law_refused, .func (PySem.W.fnOf "_law_refused" "_law_refused" (defArgs (top 45)) (defBody (top 45)) (defScope (top 45)) .none kV_d__law_refused dc_d__law_refused pm_d__law_refused an_d__law_refused cd_d__law_refused ct_d__law_refused), sl_d__law_refused⟩)
    (cc_d__law_refused : PySem.W.codeIn K cd_d__law_refused "_law_refused" = true)
    (kk_d__law_refused : PySem.W.keepIn K (.ref f_d__law_refused) = true)
    (a_d__law_near : PySem.W.nsIn K mainGlobals "_law_near" = some (some (.ref f_d__law_near)))
    (l_d__law_near : K.lookup f_d__law_near = some ⟨oc_d__law_near, od_d__law_near, .func (PySem.W.fnOf "_law_near" "_law_near" (defArgs (top 43)) (defBody (top 43)) (defScope (top 43)) .none kV_d__law_near dc_d__law_near pm_d__law_near an_d__law_near cd_d__law_near ct_d__law_near), sl_d__law_near⟩)
    (cc_d__law_near : PySem.W.codeIn K cd_d__law_near "_law_near" = true)
    (kk_d__law_near : PySem.W.keepIn K (.ref f_d__law_near) = true)
    (a_d__law_clash : PySem.W.nsIn K mainGlobals "_law_clash" = some (some (.ref f_d__law_clash)))
    (l_d__law_clash : K.lookup f_d__law_clash = some ⟨oc_d__law_clash, od_d__law_clash, .func (PySem.W.fnOf "_law_clash" "_law_clash" (defArgs (top 44)) (defBody (top 44)) (defScope (top 44)) .none kV_d__law_clash dc_d__law_clash pm_d__law_clash an_d__law_clash cd_d__law_clash ct_d__law_clash), sl_d__law_clash⟩)
    (cc_d__law_clash : PySem.W.codeIn K cd_d__law_clash "_law_clash" = true)
    (kk_d__law_clash : PySem.W.keepIn K (.ref f_d__law_clash) = true)
    (a_d__law_together : PySem.W.nsIn K mainGlobals "_law_together" = some (some (.ref f_d__law_together)))
    (l_d__law_together : K.lookup f_d__law_together = some ⟨oc_d__law_together, od_d__law_together, .func (PySem.W.fnOf "_law_together" "_law_together" (defArgs (top 42)) (defBody (top 42)) (defScope (top 42)) .none kV_d__law_together dc_d__law_together pm_d__law_together an_d__law_together cd_d__law_together ct_d__law_together), sl_d__law_together⟩)
    (cc_d__law_together : PySem.W.codeIn K cd_d__law_together "_law_together" = true)
    (kk_d__law_together : PySem.W.keepIn K (.ref f_d__law_together) = true)
    (a_d__law_whole : PySem.W.nsIn K mainGlobals "_law_whole" = some (some (.ref f_d__law_whole)))
    (l_d__law_whole : K.lookup f_d__law_whole = some ⟨oc_d__law_whole, od_d__law_whole, .func (PySem.W.fnOf "_law_whole" "_law_whole" (defArgs (top 34)) (defBody (top 34)) (defScope (top 34)) .none kV_d__law_whole dc_d__law_whole pm_d__law_whole an_d__law_whole cd_d__law_whole ct_d__law_whole), sl_d__law_whole⟩)
    (cc_d__law_whole : PySem.W.codeIn K cd_d__law_whole "_law_whole" = true)
    (kk_d__law_whole : PySem.W.keepIn K (.ref f_d__law_whole) = true)
    (a_d__law_fits : PySem.W.nsIn K mainGlobals "_law_fits" = some (some (.ref f_d__law_fits)))
    (l_d__law_fits : K.lookup f_d__law_fits = some ⟨oc_d__law_fits, od_d__law_fits, .func (PySem.W.fnOf "_law_fits" "_law_fits" (defArgs (top 41)) (defBody (top 41)) (defScope (top 41)) .none kV_d__law_fits dc_d__law_fits pm_d__law_fits an_d__law_fits cd_d__law_fits ct_d__law_fits), sl_d__law_fits⟩)
    (cc_d__law_fits : PySem.W.codeIn K cd_d__law_fits "_law_fits" = true)
    (kk_d__law_fits : PySem.W.keepIn K (.ref f_d__law_fits) = true)
    (a_d__law_list_good : PySem.W.nsIn K mainGlobals "_law_list_good" = some (some (.ref f_d__law_list_good)))
    (l_d__law_list_good : K.lookup f_d__law_list_good = some ⟨oc_d__law_list_good, od_d__law_list_good, .func (PySem.W.fnOf "_law_list_good" "_law_list_good" (defArgs (top 46)) (defBody (top 46)) (defScope (top 46)) .none kV_d__law_list_good dc_d__law_list_good pm_d__law_list_good an_d__law_list_good cd_d__law_list_good ct_d__law_list_good), sl_d__law_list_good⟩)
    (cc_d__law_list_good : PySem.W.codeIn K cd_d__law_list_good "_law_list_good" = true)
    (kk_d__law_list_good : PySem.W.keepIn K (.ref f_d__law_list_good) = true)
    (a_d__law_asked : PySem.W.nsIn K mainGlobals "_law_asked" = some (some (.ref f_d__law_asked)))
    (l_d__law_asked : K.lookup f_d__law_asked = some ⟨oc_d__law_asked, od_d__law_asked, .func (PySem.W.fnOf "_law_asked" "_law_asked" (defArgs (top 47)) (defBody (top 47)) (defScope (top 47)) .none kV_d__law_asked dc_d__law_asked pm_d__law_asked an_d__law_asked cd_d__law_asked ct_d__law_asked), sl_d__law_asked⟩)
    (cc_d__law_asked : PySem.W.codeIn K cd_d__law_asked "_law_asked" = true)
    (kk_d__law_asked : PySem.W.keepIn K (.ref f_d__law_asked) = true)
    (a_d_is_turn : PySem.W.nsIn K mainGlobals "is_turn" = some (some (.ref f_d_is_turn)))
    (l_d_is_turn : K.lookup f_d_is_turn = some ⟨oc_d_is_turn, od_d_is_turn, .func (PySem.W.fnOf "is_turn" "is_turn" (defArgs (top 29)) (defBody (top 29)) (defScope (top 29)) .none kV_d_is_turn dc_d_is_turn pm_d_is_turn an_d_is_turn cd_d_is_turn ct_d_is_turn), sl_d_is_turn⟩)
    (cc_d_is_turn : PySem.W.codeIn K cd_d_is_turn "is_turn" = true)
    (kk_d_is_turn : PySem.W.keepIn K (.ref f_d_is_turn) = true)
    (a_d_turned_back : PySem.W.nsIn K mainGlobals "turned_back" = some (some (.ref f_d_turned_back)))
    (l_d_turned_back : K.lookup f_d_turned_back = some ⟨oc_d_turned_back, od_d_turned_back, .func (PySem.W.fnOf "turned_back" "turned_back" (defArgs (top 30)) (defBody (top 30)) (defScope (top 30)) .none kV_d_turned_back dc_d_turned_back pm_d_turned_back an_d_turned_back cd_d_turned_back ct_d_turned_back), sl_d_turned_back⟩)
    (cc_d_turned_back : PySem.W.codeIn K cd_d_turned_back "turned_back" = true)
    (kk_d_turned_back : PySem.W.keepIn K (.ref f_d_turned_back) = true)
    (a_m_Table___init__ : PySem.W.findIn K (.ref a_Table) "__init__" = some (some (.ref f_m_Table___init__)))
    (i_m_Table___init__ : PySem.W.isFn K (.ref f_m_Table___init__) = true)
    (l_m_Table___init__ : K.lookup f_m_Table___init__ = some ⟨oc_m_Table___init__, od_m_Table___init__, .func (PySem.W.fnOf "__init__" "Table.__init__" (defArgs (inClass (top 31) 0)) (defBody (inClass (top 31) 0)) (defScope (inClass (top 31) 0)) .none kV_m_Table___init__ dc_m_Table___init__ pm_m_Table___init__ an_m_Table___init__ cd_m_Table___init__ ct_m_Table___init__), sl_m_Table___init__⟩)
    (cc_m_Table___init__ : PySem.W.codeIn K cd_m_Table___init__ "Table.__init__" = true)
    (kk_m_Table___init__ : PySem.W.keepIn K (.ref f_m_Table___init__) = true)
    (a_m_Book___init__ : PySem.W.findIn K (.ref a_Book) "__init__" = some (some (.ref f_m_Book___init__)))
    (i_m_Book___init__ : PySem.W.isFn K (.ref f_m_Book___init__) = true)
    (l_m_Book___init__ : K.lookup f_m_Book___init__ = some ⟨oc_m_Book___init__, od_m_Book___init__, .func (PySem.W.fnOf "__init__" "Book.__init__" (defArgs (inClass (top 26) 0)) (defBody (inClass (top 26) 0)) (defScope (inClass (top 26) 0)) .none kV_m_Book___init__ dc_m_Book___init__ pm_m_Book___init__ an_m_Book___init__ cd_m_Book___init__ ct_m_Book___init__), sl_m_Book___init__⟩)
    (cc_m_Book___init__ : PySem.W.codeIn K cd_m_Book___init__ "Book.__init__" = true)
    (kk_m_Book___init__ : PySem.W.keepIn K (.ref f_m_Book___init__) = true)
    (a_d_law : PySem.W.nsIn K mainGlobals "law" = some (some (.ref f_d_law)))
    (l_d_law : K.lookup f_d_law = some ⟨oc_d_law, od_d_law, .func (PySem.W.fnOf "law" "law" (defArgs (top 48)) (defBody (top 48)) (defScope (top 48)) .none kV_d_law dc_d_law pm_d_law an_d_law cd_d_law ct_d_law), sl_d_law⟩)
    (cc_d_law : PySem.W.codeIn K cd_d_law "law" = true)
    (kk_d_law : PySem.W.keepIn K (.ref f_d_law) = true)
    (g_LETTERS : PySem.W.nsIn K mainGlobals "LETTERS" = some (some (.str "fmsdpbz" t_LETTERS)))
    (g_LETTERS_TO_MEN : PySem.W.nsIn K mainGlobals "LETTERS_TO_MEN" = some (some (.str "fsb" t_LETTERS_TO_MEN)))
    (g_MOST_LETTERS : PySem.W.nsIn K mainGlobals "MOST_LETTERS" = some (some (.int 60 t_MOST_LETTERS)))
    (g_LETTERS_THAT_HANG : PySem.W.nsIn K mainGlobals "LETTERS_THAT_HANG" = some (some (.str "fmpsd" t_LETTERS_THAT_HANG)))
    (g_MOST_PERSONS : PySem.W.nsIn K mainGlobals "MOST_PERSONS" = some (some (.int 60 t_MOST_PERSONS)))
    (g_MOST_CLASSES : PySem.W.nsIn K mainGlobals "MOST_CLASSES" = some (some (.int 8 t_MOST_CLASSES)))
    (z_ValueError : PySem.W.nsIn K mainGlobals "ValueError" = some none)
    (z_bool : PySem.W.nsIn K mainGlobals "bool" = some none)
    (z_int : PySem.W.nsIn K mainGlobals "int" = some none)
    (z_isinstance : PySem.W.nsIn K mainGlobals "isinstance" = some none)
    (z_len : PySem.W.nsIn K mainGlobals "len" = some none)
    (z_list : PySem.W.nsIn K mainGlobals "list" = some none)
    (z_range : PySem.W.nsIn K mainGlobals "range" = some none)
    (z_sorted : PySem.W.nsIn K mainGlobals "sorted" = some none) :
    ∃ fd : FuncData, (∀ (s : Shared) (v : Value), BindsTo s fd ⟨[v], []⟩ [("script", v)]) ∧ ∀ base : Heap, K.In base → base.Ns mainGlobals mg → FnOk l.prog w K mg base (CXR l.prog w) 9 fa fd ["script"] (spLaw K) := by
  have ee := hfa.symm.trans (PySem.W.mg_of X G a_d_law)
  cases ee
  have T : Txt K mg a_Table ⟨a_KinError, a_NoTable, a_NoClass, a_NoWalk, a_NoPerson, a_NoParents, a_TooMany, a_Book⟩ := ⟨PySem.W.mg_of X G b_Book, ⟨pg_Book, hd_Book, po_Book, sa_Book⟩, n_sexes, n_fathers, n_mothers, n_partner_lists, PySem.W.mg_of X G b_Table, ⟨pg_Table, hd_Table, po_Table, sa_Table⟩, n_wife_turn, n_heir_turn, n_husband_turn, n_father_turn, PySem.W.mg_none_of X G z_ValueError, PySem.W.mg_none_of X G z_bool, PySem.W.mg_none_of X G z_int, PySem.W.mg_none_of X G z_isinstance, PySem.W.mg_none_of X G z_len, PySem.W.mg_none_of X G z_list, PySem.W.mg_none_of X G z_range, PySem.W.mg_none_of X G z_sorted, ⟨_, PySem.W.mg_of X G g_LETTERS, ⟨_, rfl⟩⟩, ⟨_, PySem.W.mg_of X G g_LETTERS_TO_MEN, ⟨_, rfl⟩⟩, ⟨_, PySem.W.mg_of X G g_MOST_LETTERS, ⟨_, rfl⟩⟩, ⟨_, PySem.W.mg_of X G g_LETTERS_THAT_HANG, ⟨_, rfl⟩⟩, ⟨_, PySem.W.mg_of X G g_MOST_PERSONS, ⟨_, rfl⟩⟩, ⟨_, PySem.W.mg_of X G g_MOST_CLASSES, ⟨_, rfl⟩⟩, ⟨kd1, kd2⟩, PySem.W.mg_of X G b_KinError, PySem.W.mg_of X G b_NoTable, x_NoTable, ⟨c1_NoTable, c2_NoTable, c3_NoTable, c4_NoTable, kd1, kd2, c5_NoTable, c6_NoTable⟩, w_NoTable, v_NoTable, k_NoTable_NoTable, k_NoTable_NoClass, k_NoTable_NoWalk, k_NoTable_NoPerson, k_NoTable_NoParents, k_NoTable_TooMany, PySem.W.mg_of X G b_NoClass, x_NoClass, ⟨c1_NoClass, c2_NoClass, c3_NoClass, c4_NoClass, kd1, kd2, c5_NoClass, c6_NoClass⟩, w_NoClass, v_NoClass, k_NoClass_NoTable, k_NoClass_NoClass, k_NoClass_NoWalk, k_NoClass_NoPerson, k_NoClass_NoParents, k_NoClass_TooMany, PySem.W.mg_of X G b_NoWalk, x_NoWalk, ⟨c1_NoWalk, c2_NoWalk, c3_NoWalk, c4_NoWalk, kd1, kd2, c5_NoWalk, c6_NoWalk⟩, w_NoWalk, v_NoWalk, k_NoWalk_NoTable, k_NoWalk_NoClass, k_NoWalk_NoWalk, k_NoWalk_NoPerson, k_NoWalk_NoParents, k_NoWalk_TooMany, PySem.W.mg_of X G b_NoPerson, x_NoPerson, ⟨c1_NoPerson, c2_NoPerson, c3_NoPerson, c4_NoPerson, kd1, kd2, c5_NoPerson, c6_NoPerson⟩, w_NoPerson, v_NoPerson, k_NoPerson_NoTable, k_NoPerson_NoClass, k_NoPerson_NoWalk, k_NoPerson_NoPerson, k_NoPerson_NoParents, k_NoPerson_TooMany, PySem.W.mg_of X G b_NoParents, x_NoParents, ⟨c1_NoParents, c2_NoParents, c3_NoParents, c4_NoParents, kd1, kd2, c5_NoParents, c6_NoParents⟩, w_NoParents, v_NoParents, k_NoParents_NoTable, k_NoParents_NoClass, k_NoParents_NoWalk, k_NoParents_NoPerson, k_NoParents_NoParents, k_NoParents_TooMany, PySem.W.mg_of X G b_TooMany, x_TooMany, ⟨c1_TooMany, c2_TooMany, c3_TooMany, c4_TooMany, kd1, kd2, c5_TooMany, c6_TooMany⟩, w_TooMany, v_TooMany, k_TooMany_NoTable, k_TooMany_NoClass, k_TooMany_NoWalk, k_TooMany_NoPerson, k_TooMany_NoParents, k_TooMany_TooMany⟩
  have hE : NoE (CXR l.prog w) := noER
  have F_d__law_cell_at := fun_mk (st := (top 33)) l_d__law_cell_at cc_d__law_cell_at kk_d__law_cell_at
  have b_d__law_cell_at := F_d__law_cell_at.binds (ps := ["script", "k"]) fun _ _ _ _ _ _ us hl => match us, hl with | [_, _], _ => rfl
  have F_d__law_turn_by := fun_mk (st := (top 36)) l_d__law_turn_by cc_d__law_turn_by kk_d__law_turn_by
  have b_d__law_turn_by := F_d__law_turn_by.binds (ps := ["cell", "many"]) fun _ _ _ _ _ _ us hl => match us, hl with | [_, _], _ => rfl
  have F_d__law_comer := fun_mk (st := (top 37)) l_d__law_comer cc_d__law_comer kk_d__law_comer
  have b_d__law_comer := F_d__law_comer.binds (ps := ["people", "cell"]) fun _ _ _ _ _ _ us hl => match us, hl with | [_, _], _ => rfl
  have F_m_check_room := fun_mk (st := (inClass (top 26) 3)) l_m_check_room cc_m_check_room kk_m_check_room
  have b_m_check_room := F_m_check_room.binds (ps := ["self"]) fun _ _ _ _ _ _ us hl => match us, hl with | [_], _ => rfl
  have F_m_enter := fun_mk (st := (inClass (top 26) 4)) l_m_enter cc_m_enter kk_m_enter
  have b_m_enter := F_m_enter.binds (ps := ["self", "sex", "father", "mother"]) fun _ _ _ _ _ _ us hl => match us, hl with | [_, _, _, _], _ => rfl
  have F_m_come := fun_mk (st := (inClass (top 26) 6)) l_m_come cc_m_come kk_m_come
  have b_m_come := F_m_come.binds (ps := ["self", "sex"]) fun _ _ _ _ _ _ us hl => match us, hl with | [_, _], _ => rfl
  have F_m_check_person := fun_mk (st := (inClass (top 26) 1)) l_m_check_person cc_m_check_person kk_m_check_person
  have b_m_check_person := F_m_check_person.binds (ps := ["self", "a"]) fun _ _ _ _ _ _ us hl => match us, hl with | [_, _], _ => rfl
  have F_m_check_couple := fun_mk (st := (inClass (top 26) 2)) l_m_check_couple cc_m_check_couple kk_m_check_couple
  have b_m_check_couple := F_m_check_couple.binds (ps := ["self", "man", "woman"]) fun _ _ _ _ _ _ us hl => match us, hl with | [_, _, _], _ => rfl
  have F_m_pair := fun_mk (st := (inClass (top 26) 5)) l_m_pair cc_m_pair kk_m_pair
  have b_m_pair := F_m_pair.binds (ps := ["self", "man", "woman"]) fun _ _ _ _ _ _ us hl => match us, hl with | [_, _, _], _ => rfl
  have F_m_born := fun_mk (st := (inClass (top 26) 7)) l_m_born cc_m_born kk_m_born
  have b_m_born := F_m_born.binds (ps := ["self", "sex", "father", "mother"]) fun _ _ _ _ _ _ us hl => match us, hl with | [_, _, _, _], _ => rfl
  have F_m_wed := fun_mk (st := (inClass (top 26) 8)) l_m_wed cc_m_wed kk_m_wed
  have b_m_wed := F_m_wed.binds (ps := ["self", "man", "woman"]) fun _ _ _ _ _ _ us hl => match us, hl with | [_, _, _], _ => rfl
  have F_d__law_put := fun_mk (st := (top 38)) l_d__law_put cc_d__law_put kk_d__law_put
  have b_d__law_put := F_d__law_put.binds (ps := ["book", "people", "pairs", "comer"]) fun _ _ _ _ _ _ us hl => match us, hl with | [_, _, _, _], _ => rfl
  have F_d__law_fit_comer := fun_mk (st := (top 39)) l_d__law_fit_comer cc_d__law_fit_comer kk_d__law_fit_comer
  have b_d__law_fit_comer := F_d__law_fit_comer.binds (ps := ["people", "kinds", "wives", "heirs", "cell"]) fun _ _ _ _ _ _ us hl => match us, hl with | [_, _, _, _, _], _ => rfl
  have F_d__law_fit_book := fun_mk (st := (top 40)) l_d__law_fit_book cc_d__law_fit_book kk_d__law_fit_book
  have b_d__law_fit_book := F_d__law_fit_book.binds (ps := ["book", "people", "pairs", "kinds", "turns", "cells"]) fun _ _ _ _ _ _ us hl => match us, hl with | [_, _, _, _, _, _], _ => rfl
  have F_m_check_class := fun_mk (st := (inClass (top 31) 2)) l_m_check_class cc_m_check_class kk_m_check_class
  have b_m_check_class := F_m_check_class.binds (ps := ["self", "c"]) fun _ _ _ _ _ _ us hl => match us, hl with | [_, _], _ => rfl
  have F_m_Book_size := fun_mk (st := (inClass (top 26) 9)) l_m_Book_size cc_m_Book_size kk_m_Book_size
  have b_m_Book_size := F_m_Book_size.binds (ps := ["self"]) fun _ _ _ _ _ _ us hl => match us, hl with | [_], _ => rfl
  have F_d_check_walk := fun_mk (st := (top 13)) l_d_check_walk cc_d_check_walk kk_d_check_walk
  have b_d_check_walk := F_d_check_walk.binds (ps := ["walk"]) fun _ _ _ _ _ _ us hl => match us, hl with | [_], _ => rfl
  have F_m_wife_of := fun_mk (st := (inClass (top 31) 3)) l_m_wife_of cc_m_wife_of kk_m_wife_of
  have b_m_wife_of := F_m_wife_of.binds (ps := ["self", "c"]) fun _ _ _ _ _ _ us hl => match us, hl with | [_, _], _ => rfl
  have F_m_father_of := fun_mk (st := (inClass (top 31) 6)) l_m_father_of cc_m_father_of kk_m_father_of
  have b_m_father_of := F_m_father_of.binds (ps := ["self", "c"]) fun _ _ _ _ _ _ us hl => match us, hl with | [_, _], _ => rfl
  have F_m_husband_of := fun_mk (st := (inClass (top 31) 4)) l_m_husband_of cc_m_husband_of kk_m_husband_of
  have b_m_husband_of := F_m_husband_of.binds (ps := ["self", "c"]) fun _ _ _ _ _ _ us hl => match us, hl with | [_, _], _ => rfl
  have F_d_partner_class := fun_mk (st := (top 16)) l_d_partner_class cc_d_partner_class kk_d_partner_class
  have b_d_partner_class := F_d_partner_class.binds (ps := ["table", "sex", "c"]) fun _ _ _ _ _ _ us hl => match us, hl with | [_, _, _], _ => rfl
  have F_m_heir_of := fun_mk (st := (inClass (top 31) 5)) l_m_heir_of cc_m_heir_of kk_m_heir_of
  have b_m_heir_of := F_m_heir_of.binds (ps := ["self", "c"]) fun _ _ _ _ _ _ us hl => match us, hl with | [_, _], _ => rfl
  have F_d_child_class := fun_mk (st := (top 17)) l_d_child_class cc_d_child_class kk_d_child_class
  have b_d_child_class := F_d_child_class.binds (ps := ["table", "sex", "c"]) fun _ _ _ _ _ _ us hl => match us, hl with | [_, _, _], _ => rfl
  have F_d_class_after := fun_mk (st := (top 18)) l_d_class_after cc_d_class_after kk_d_class_after
  have b_d_class_after := F_d_class_after.binds (ps := ["table", "sex", "c", "letter"]) fun _ _ _ _ _ _ us hl => match us, hl with | [_, _, _, _], _ => rfl
  have F_d_partner_sex := fun_mk (st := (top 14)) l_d_partner_sex cc_d_partner_sex kk_d_partner_sex
  have b_d_partner_sex := F_d_partner_sex.binds (ps := ["sex"]) fun _ _ _ _ _ _ us hl => match us, hl with | [_], _ => rfl
  have F_d_sex_after := fun_mk (st := (top 15)) l_d_sex_after cc_d_sex_after kk_d_sex_after
  have b_d_sex_after := F_d_sex_after.binds (ps := ["sex", "letter"]) fun _ _ _ _ _ _ us hl => match us, hl with | [_, _], _ => rfl
  have F_d_walked := fun_mk (st := (top 19)) l_d_walked cc_d_walked kk_d_walked
  have b_d_walked := F_d_walked.binds (ps := ["table", "sex", "c", "walk"]) fun _ _ _ _ _ _ us hl => match us, hl with | [_, _, _, _], _ => rfl
  have F_m_sex_of := fun_mk (st := (inClass (top 26) 10)) l_m_sex_of cc_m_sex_of kk_m_sex_of
  have b_m_sex_of := F_m_sex_of.binds (ps := ["self", "a"]) fun _ _ _ _ _ _ us hl => match us, hl with | [_, _], _ => rfl
  have F_m_children := fun_mk (st := (inClass (top 26) 14)) l_m_children cc_m_children kk_m_children
  have b_m_children := F_m_children.binds (ps := ["self", "a"]) fun _ _ _ _ _ _ us hl => match us, hl with | [_, _], _ => rfl
  have F_m_siblings := fun_mk (st := (inClass (top 26) 15)) l_m_siblings cc_m_siblings kk_m_siblings
  have b_m_siblings := F_m_siblings.binds (ps := ["self", "a"]) fun _ _ _ _ _ _ us hl => match us, hl with | [_, _], _ => rfl
  have F_m_kin_by_letter := fun_mk (st := (inClass (top 26) 16)) l_m_kin_by_letter cc_m_kin_by_letter kk_m_kin_by_letter
  have b_m_kin_by_letter := F_m_kin_by_letter.binds (ps := ["self", "a", "letter"]) fun _ _ _ _ _ _ us hl => match us, hl with | [_, _, _], _ => rfl
  have F_m_kin := fun_mk (st := (inClass (top 26) 17)) l_m_kin cc_m_kin kk_m_kin
  have b_m_kin := F_m_kin.binds (ps := ["self", "a", "walk"]) fun _ _ _ _ _ _ us hl => match us, hl with | [_, _, _], _ => rfl
  have F_d_near_classes := fun_mk (st := (top 22)) l_d_near_classes cc_d_near_classes kk_d_near_classes
  have b_d_near_classes := F_d_near_classes.binds (ps := ["book", "table", "a", "c"]) fun _ _ _ _ _ _ us hl => match us, hl with | [_, _, _, _], _ => rfl
  have F_d_fitting := fun_mk (st := (top 23)) l_d_fitting cc_d_fitting kk_d_fitting
  have b_d_fitting := F_d_fitting.binds (ps := ["book", "table", "a", "c"]) fun _ _ _ _ _ _ us hl => match us, hl with | [_, _, _, _], _ => rfl
  have F_d__law_refused := fun_mk (st := (top 45)) l_d__law_refused cc_d__law_refused kk_d__law_refused
  have b_d__law_refused := F_d__law_refused.binds (ps := ["book", "table", "a", "c"]) fun _ _ _ _ _ _ us hl => match us, hl with | [_, _, _, _], _ => rfl
  have F_d__law_near := fun_mk (st := (top 43)) l_d__law_near cc_d__law_near kk_d__law_near
  have b_d__law_near := F_d__law_near.binds (ps := ["people", "pairs", "wives", "heirs", "a", "c"]) fun _ _ _ _ _ _ us hl => match us, hl with | [_, _, _, _, _, _], _ => rfl
  have F_d__law_clash := fun_mk (st := (top 44)) l_d__law_clash cc_d__law_clash kk_d__law_clash
  have b_d__law_clash := F_d__law_clash.binds (ps := ["people", "pairs", "turns", "a", "c"]) fun _ _ _ _ _ _ us hl => match us, hl with | [_, _, _, _, _], _ => rfl
  have F_d__law_together := fun_mk (st := (top 42)) l_d__law_together cc_d__law_together kk_d__law_together
  have b_d__law_together := F_d__law_together.binds (ps := ["people", "pairs", "a"]) fun _ _ _ _ _ _ us hl => match us, hl with | [_, _, _], _ => rfl
  have F_d__law_whole := fun_mk (st := (top 34)) l_d__law_whole cc_d__law_whole kk_d__law_whole
  have b_d__law_whole := F_d__law_whole.binds (ps := ["found"]) fun _ _ _ _ _ _ us hl => match us, hl with | [_], _ => rfl
  have F_d__law_fits := fun_mk (st := (top 41)) l_d__law_fits cc_d__law_fits kk_d__law_fits
  have b_d__law_fits := F_d__law_fits.binds (ps := ["people", "pairs", "told", "wives", "heirs"]) fun _ _ _ _ _ _ us hl => match us, hl with | [_, _, _, _, _], _ => rfl
  have F_d__law_list_good := fun_mk (st := (top 46)) l_d__law_list_good cc_d__law_list_good kk_d__law_list_good
  have b_d__law_list_good := F_d__law_list_good.binds (ps := ["found", "people", "pairs", "turns", "a", "c"]) fun _ _ _ _ _ _ us hl => match us, hl with | [_, _, _, _, _, _], _ => rfl
  have F_d__law_asked := fun_mk (st := (top 47)) l_d__law_asked cc_d__law_asked kk_d__law_asked
  have b_d__law_asked := F_d__law_asked.binds (ps := ["book", "table", "people", "pairs", "turns", "a", "c"]) fun _ _ _ _ _ _ us hl => match us, hl with | [_, _, _, _, _, _, _], _ => rfl
  have F_d_is_turn := fun_mk (st := (top 29)) l_d_is_turn cc_d_is_turn kk_d_is_turn
  have b_d_is_turn := F_d_is_turn.binds (ps := ["row", "many"]) fun _ _ _ _ _ _ us hl => match us, hl with | [_, _], _ => rfl
  have F_d_turned_back := fun_mk (st := (top 30)) l_d_turned_back cc_d_turned_back kk_d_turned_back
  have b_d_turned_back := F_d_turned_back.binds (ps := ["turn"]) fun _ _ _ _ _ _ us hl => match us, hl with | [_], _ => rfl
  have F_m_Table___init__ := fun_mk (st := (inClass (top 31) 0)) l_m_Table___init__ cc_m_Table___init__ kk_m_Table___init__
  have b_m_Table___init__ := F_m_Table___init__.binds (ps := ["self", "wives", "heirs"]) fun _ _ _ _ _ _ us hl => match us, hl with | [_, _, _], _ => rfl
  have F_m_Book___init__ := fun_mk (st := (inClass (top 26) 0)) l_m_Book___init__ cc_m_Book___init__ kk_m_Book___init__
  have b_m_Book___init__ := F_m_Book___init__.binds (ps := ["self"]) fun _ _ _ _ _ _ us hl => match us, hl with | [_], _ => rfl
  have F_d_law := fun_mk (st := (top 48)) l_d_law cc_d_law kk_d_law
  have b_d_law := F_d_law.binds (ps := ["script"]) fun _ _ _ _ _ _ us hl => match us, hl with | [_], _ => rfl
  refine ⟨PySem.W.fnOf "law" "law" (defArgs (top 48)) (defBody (top 48)) (defScope (top 48)) .none kV_d_law dc_d_law pm_d_law an_d_law cd_d_law ct_d_law, fun s v => .of_eq rfl, fun base _ _ => ?_⟩
  have D__law_cell_at : Def l.prog w K mg base (CXR l.prog w) "_law_cell_at" 1 ["script", "k"] (spCellAt K) := ⟨_, _, PySem.W.mg_of X G a_d__law_cell_at, kk_d__law_cell_at, b_d__law_cell_at, ok_cell F_d__law_cell_at T⟩
  have D__law_turn_by : Def l.prog w K mg base (CXR l.prog w) "_law_turn_by" 1 ["cell", "many"] spTurnBy := ⟨_, _, PySem.W.mg_of X G a_d__law_turn_by, kk_d__law_turn_by, b_d__law_turn_by, ok_turnby F_d__law_turn_by T⟩
  have D__law_comer : Def l.prog w K mg base (CXR l.prog w) "_law_comer" 1 ["people", "cell"] spComer := ⟨_, _, PySem.W.mg_of X G a_d__law_comer, kk_d__law_comer, b_d__law_comer, ok_comer F_d__law_comer T⟩
  have D_check_room : MDef l.prog w K mg base (CXR l.prog w) a_Book "check_room" 1 ["self"] (spRoom (⟨a_KinError, a_NoTable, a_NoClass, a_NoWalk, a_NoPerson, a_NoParents, a_TooMany, a_Book⟩ : Ad)) := ⟨_, _, ⟨a_m_check_room, i_m_check_room, kk_m_check_room⟩, b_m_check_room, ok_room F_m_check_room T⟩
  have D_enter : MDef l.prog w K mg base (CXR l.prog w) a_Book "enter" 1 ["self", "sex", "father", "mother"] (spEnter (⟨a_KinError, a_NoTable, a_NoClass, a_NoWalk, a_NoPerson, a_NoParents, a_TooMany, a_Book⟩ : Ad)) := ⟨_, _, ⟨a_m_enter, i_m_enter, kk_m_enter⟩, b_m_enter, ok_enter F_m_enter T⟩
  have D_come : MDef l.prog w K mg base (CXR l.prog w) a_Book "come" 2 ["self", "sex"] (spCome (⟨a_KinError, a_NoTable, a_NoClass, a_NoWalk, a_NoPerson, a_NoParents, a_TooMany, a_Book⟩ : Ad)) := ⟨_, _, ⟨a_m_come, i_m_come, kk_m_come⟩, b_m_come, ok_come F_m_come T D_check_room D_enter⟩
  have D_check_person : MDef l.prog w K mg base (CXR l.prog w) a_Book "check_person" 1 ["self", "a"] (spCheckP (⟨a_KinError, a_NoTable, a_NoClass, a_NoWalk, a_NoPerson, a_NoParents, a_TooMany, a_Book⟩ : Ad)) := ⟨_, _, ⟨a_m_check_person, i_m_check_person, kk_m_check_person⟩, b_m_check_person, ok_checkp F_m_check_person T⟩
  have D_check_couple : MDef l.prog w K mg base (CXR l.prog w) a_Book "check_couple" 2 ["self", "man", "woman"] (spCouple (⟨a_KinError, a_NoTable, a_NoClass, a_NoWalk, a_NoPerson, a_NoParents, a_TooMany, a_Book⟩ : Ad)) := ⟨_, _, ⟨a_m_check_couple, i_m_check_couple, kk_m_check_couple⟩, b_m_check_couple, ok_couple F_m_check_couple T D_check_person⟩
  have D_pair : MDef l.prog w K mg base (CXR l.prog w) a_Book "pair" 1 ["self", "man", "woman"] (spPair (⟨a_KinError, a_NoTable, a_NoClass, a_NoWalk, a_NoPerson, a_NoParents, a_TooMany, a_Book⟩ : Ad)) := ⟨_, _, ⟨a_m_pair, i_m_pair, kk_m_pair⟩, b_m_pair, ok_pair F_m_pair T⟩
  have D_born : MDef l.prog w K mg base (CXR l.prog w) a_Book "born" 3 ["self", "sex", "father", "mother"] (spBorn (⟨a_KinError, a_NoTable, a_NoClass, a_NoWalk, a_NoPerson, a_NoParents, a_TooMany, a_Book⟩ : Ad)) := ⟨_, _, ⟨a_m_born, i_m_born, kk_m_born⟩, b_m_born, ok_born F_m_born T D_check_couple D_check_room D_pair D_enter⟩
  have D_wed : MDef l.prog w K mg base (CXR l.prog w) a_Book "wed" 3 ["self", "man", "woman"] (spWed (⟨a_KinError, a_NoTable, a_NoClass, a_NoWalk, a_NoPerson, a_NoParents, a_TooMany, a_Book⟩ : Ad)) := ⟨_, _, ⟨a_m_wed, i_m_wed, kk_m_wed⟩, b_m_wed, ok_wed F_m_wed T D_check_couple D_pair⟩
  have D__law_put : Def l.prog w K mg base (CXR l.prog w) "_law_put" 4 ["book", "people", "pairs", "comer"] (spPut (⟨a_KinError, a_NoTable, a_NoClass, a_NoWalk, a_NoPerson, a_NoParents, a_TooMany, a_Book⟩ : Ad)) := ⟨_, _, PySem.W.mg_of X G a_d__law_put, kk_d__law_put, b_d__law_put, ok_put F_d__law_put T hE D_come D_born D_wed⟩
  have D__law_fit_comer : Def l.prog w K mg base (CXR l.prog w) "_law_fit_comer" 1 ["people", "kinds", "wives", "heirs", "cell"] spFitComer := ⟨_, _, PySem.W.mg_of X G a_d__law_fit_comer, kk_d__law_fit_comer, b_d__law_fit_comer, ok_fitcomer F_d__law_fit_comer T⟩
  have D__law_fit_book : Def l.prog w K mg base (CXR l.prog w) "_law_fit_book" 5 ["book", "people", "pairs", "kinds", "turns", "cells"] (spFitBook (⟨a_KinError, a_NoTable, a_NoClass, a_NoWalk, a_NoPerson, a_NoParents, a_TooMany, a_Book⟩ : Ad) K) := ⟨_, _, PySem.W.mg_of X G a_d__law_fit_book, kk_d__law_fit_book, b_d__law_fit_book, ok_fitbook F_d__law_fit_book T hE D__law_fit_comer D__law_put⟩
  have D_check_class : MDef l.prog w K mg base (CXR l.prog w) a_Table "check_class" 1 ["self", "c"] (spCheck a_Table (⟨a_KinError, a_NoTable, a_NoClass, a_NoWalk, a_NoPerson, a_NoParents, a_TooMany, a_Book⟩ : Ad)) := ⟨_, _, ⟨a_m_check_class, i_m_check_class, kk_m_check_class⟩, b_m_check_class, ok_check F_m_check_class T⟩
  have D_Book_size : MDef l.prog w K mg base (CXR l.prog w) a_Book "size" 1 ["self"] (spSizeB (⟨a_KinError, a_NoTable, a_NoClass, a_NoWalk, a_NoPerson, a_NoParents, a_TooMany, a_Book⟩ : Ad)) := ⟨_, _, ⟨a_m_Book_size, i_m_Book_size, kk_m_Book_size⟩, b_m_Book_size, ok_sizeb F_m_Book_size T⟩
  have D_check_walk : Def l.prog w K mg base (CXR l.prog w) "check_walk" 1 ["walk"] (spCheckWalk (⟨a_KinError, a_NoTable, a_NoClass, a_NoWalk, a_NoPerson, a_NoParents, a_TooMany, a_Book⟩ : Ad)) := ⟨_, _, PySem.W.mg_of X G a_d_check_walk, kk_d_check_walk, b_d_check_walk, ok_ckw F_d_check_walk T⟩
  have D_wife_of : MDef l.prog w K mg base (CXR l.prog w) a_Table "wife_of" 2 ["self", "c"] (spWife a_Table (⟨a_KinError, a_NoTable, a_NoClass, a_NoWalk, a_NoPerson, a_NoParents, a_TooMany, a_Book⟩ : Ad)) := ⟨_, _, ⟨a_m_wife_of, i_m_wife_of, kk_m_wife_of⟩, b_m_wife_of, ok_wife F_m_wife_of T D_check_class⟩
  have D_father_of : MDef l.prog w K mg base (CXR l.prog w) a_Table "father_of" 2 ["self", "c"] (spFather a_Table (⟨a_KinError, a_NoTable, a_NoClass, a_NoWalk, a_NoPerson, a_NoParents, a_TooMany, a_Book⟩ : Ad)) := ⟨_, _, ⟨a_m_father_of, i_m_father_of, kk_m_father_of⟩, b_m_father_of, ok_father F_m_father_of T D_check_class⟩
  have D_husband_of : MDef l.prog w K mg base (CXR l.prog w) a_Table "husband_of" 2 ["self", "c"] (spHusband a_Table (⟨a_KinError, a_NoTable, a_NoClass, a_NoWalk, a_NoPerson, a_NoParents, a_TooMany, a_Book⟩ : Ad)) := ⟨_, _, ⟨a_m_husband_of, i_m_husband_of, kk_m_husband_of⟩, b_m_husband_of, ok_husband F_m_husband_of T D_check_class⟩
  have D_partner_class : Def l.prog w K mg base (CXR l.prog w) "partner_class" 3 ["table", "sex", "c"] (spPartnerClass a_Table) := ⟨_, _, PySem.W.mg_of X G a_d_partner_class, kk_d_partner_class, b_d_partner_class, ok_pcls F_d_partner_class T D_wife_of D_husband_of⟩
  have D_heir_of : MDef l.prog w K mg base (CXR l.prog w) a_Table "heir_of" 2 ["self", "c"] (spHeir a_Table (⟨a_KinError, a_NoTable, a_NoClass, a_NoWalk, a_NoPerson, a_NoParents, a_TooMany, a_Book⟩ : Ad)) := ⟨_, _, ⟨a_m_heir_of, i_m_heir_of, kk_m_heir_of⟩, b_m_heir_of, ok_heir F_m_heir_of T D_check_class⟩
  have D_child_class : Def l.prog w K mg base (CXR l.prog w) "child_class" 3 ["table", "sex", "c"] (spChildClass a_Table) := ⟨_, _, PySem.W.mg_of X G a_d_child_class, kk_d_child_class, b_d_child_class, ok_ccls F_d_child_class T D_heir_of D_husband_of⟩
  have D_class_after : Def l.prog w K mg base (CXR l.prog w) "class_after" 4 ["table", "sex", "c", "letter"] (spClassAfter a_Table) := ⟨_, _, PySem.W.mg_of X G a_d_class_after, kk_d_class_after, b_d_class_after, ok_clsa F_d_class_after T D_wife_of D_father_of D_partner_class D_child_class⟩
  have D_partner_sex : Def l.prog w K mg base (CXR l.prog w) "partner_sex" 1 ["sex"] spPartnerSex := ⟨_, _, PySem.W.mg_of X G a_d_partner_sex, kk_d_partner_sex, b_d_partner_sex, ok_psex F_d_partner_sex ⟩
  have D_sex_after : Def l.prog w K mg base (CXR l.prog w) "sex_after" 2 ["sex", "letter"] spSexAfter := ⟨_, _, PySem.W.mg_of X G a_d_sex_after, kk_d_sex_after, b_d_sex_after, ok_sexa F_d_sex_after T hE D_partner_sex⟩
  have D_walked : Def l.prog w K mg base (CXR l.prog w) "walked" 5 ["table", "sex", "c", "walk"] (spWalked a_Table (⟨a_KinError, a_NoTable, a_NoClass, a_NoWalk, a_NoPerson, a_NoParents, a_TooMany, a_Book⟩ : Ad)) := ⟨_, _, PySem.W.mg_of X G a_d_walked, kk_d_walked, b_d_walked, ok_walked F_d_walked T D_check_walk D_check_class D_class_after D_sex_after⟩
  have D_sex_of : MDef l.prog w K mg base (CXR l.prog w) a_Book "sex_of" 2 ["self", "a"] (spSexOf (⟨a_KinError, a_NoTable, a_NoClass, a_NoWalk, a_NoPerson, a_NoParents, a_TooMany, a_Book⟩ : Ad)) := ⟨_, _, ⟨a_m_sex_of, i_m_sex_of, kk_m_sex_of⟩, b_m_sex_of, ok_sexof F_m_sex_of T D_check_person⟩
  have D_children : MDef l.prog w K mg base (CXR l.prog w) a_Book "children" 2 ["self", "a"] (spChildrenB (⟨a_KinError, a_NoTable, a_NoClass, a_NoWalk, a_NoPerson, a_NoParents, a_TooMany, a_Book⟩ : Ad)) := ⟨_, _, ⟨a_m_children, i_m_children, kk_m_children⟩, b_m_children, ok_childrenb F_m_children T D_check_person⟩
  have D_siblings : MDef l.prog w K mg base (CXR l.prog w) a_Book "siblings" 1 ["self", "a"] (spSibs (⟨a_KinError, a_NoTable, a_NoClass, a_NoWalk, a_NoPerson, a_NoParents, a_TooMany, a_Book⟩ : Ad)) := ⟨_, _, ⟨a_m_siblings, i_m_siblings, kk_m_siblings⟩, b_m_siblings, ok_sibs F_m_siblings T⟩
  have D_kin_by_letter : MDef l.prog w K mg base (CXR l.prog w) a_Book "kin_by_letter" 3 ["self", "a", "letter"] (spKinL (⟨a_KinError, a_NoTable, a_NoClass, a_NoWalk, a_NoPerson, a_NoParents, a_TooMany, a_Book⟩ : Ad)) := ⟨_, _, ⟨a_m_kin_by_letter, i_m_kin_by_letter, kk_m_kin_by_letter⟩, b_m_kin_by_letter, ok_kinl F_m_kin_by_letter T D_children D_siblings D_sex_after⟩
  have D_kin : MDef l.prog w K mg base (CXR l.prog w) a_Book "kin" 4 ["self", "a", "walk"] (spKin (⟨a_KinError, a_NoTable, a_NoClass, a_NoWalk, a_NoPerson, a_NoParents, a_TooMany, a_Book⟩ : Ad)) := ⟨_, _, ⟨a_m_kin, i_m_kin, kk_m_kin⟩, b_m_kin, ok_kin F_m_kin T D_check_person D_check_walk D_kin_by_letter⟩
  have D_near_classes : Def l.prog w K mg base (CXR l.prog w) "near_classes" 6 ["book", "table", "a", "c"] (spNearC a_Table (⟨a_KinError, a_NoTable, a_NoClass, a_NoWalk, a_NoPerson, a_NoParents, a_TooMany, a_Book⟩ : Ad)) := ⟨_, _, PySem.W.mg_of X G a_d_near_classes, kk_d_near_classes, b_d_near_classes, ok_nearc F_d_near_classes T D_walked D_sex_of D_kin⟩
  have D_fitting : Def l.prog w K mg base (CXR l.prog w) "fitting" 7 ["book", "table", "a", "c"] (spFitting a_Table (⟨a_KinError, a_NoTable, a_NoClass, a_NoWalk, a_NoPerson, a_NoParents, a_TooMany, a_Book⟩ : Ad)) := ⟨_, _, PySem.W.mg_of X G a_d_fitting, kk_d_fitting, b_d_fitting, ok_fitting F_d_fitting T D_check_person D_check_class D_Book_size D_near_classes⟩
  have D__law_refused : Def l.prog w K mg base (CXR l.prog w) "_law_refused" 8 ["book", "table", "a", "c"] (spRefused12 a_Table (⟨a_KinError, a_NoTable, a_NoClass, a_NoWalk, a_NoPerson, a_NoParents, a_TooMany, a_Book⟩ : Ad)) := ⟨_, _, PySem.W.mg_of X G a_d__law_refused, kk_d__law_refused, b_d__law_refused, ok_refused12 F_d__law_refused T D_fitting⟩
  have D__law_near : Def l.prog w K mg base (CXR l.prog w) "_law_near" 1 ["people", "pairs", "wives", "heirs", "a", "c"] spLNear := ⟨_, _, PySem.W.mg_of X G a_d__law_near, kk_d__law_near, b_d__law_near, ok_lnear F_d__law_near T⟩
  have D__law_clash : Def l.prog w K mg base (CXR l.prog w) "_law_clash" 2 ["people", "pairs", "turns", "a", "c"] spClash := ⟨_, _, PySem.W.mg_of X G a_d__law_clash, kk_d__law_clash, b_d__law_clash, ok_clash F_d__law_clash T hE D__law_near⟩
  have D__law_together : Def l.prog w K mg base (CXR l.prog w) "_law_together" 1 ["people", "pairs", "a"] spTogether := ⟨_, _, PySem.W.mg_of X G a_d__law_together, kk_d__law_together, b_d__law_together, ok_together F_d__law_together T⟩
  have D__law_whole : Def l.prog w K mg base (CXR l.prog w) "_law_whole" 1 ["found"] spWhole := ⟨_, _, PySem.W.mg_of X G a_d__law_whole, kk_d__law_whole, b_d__law_whole, ok_whole F_d__law_whole T⟩
  have D__law_fits : Def l.prog w K mg base (CXR l.prog w) "_law_fits" 1 ["people", "pairs", "told", "wives", "heirs"] spFits := ⟨_, _, PySem.W.mg_of X G a_d__law_fits, kk_d__law_fits, b_d__law_fits, ok_fits F_d__law_fits T⟩
  have D__law_list_good : Def l.prog w K mg base (CXR l.prog w) "_law_list_good" 2 ["found", "people", "pairs", "turns", "a", "c"] spGoodL := ⟨_, _, PySem.W.mg_of X G a_d__law_list_good, kk_d__law_list_good, b_d__law_list_good, ok_goodl F_d__law_list_good T hE D__law_together D__law_whole D__law_fits⟩
  have D__law_asked : Def l.prog w K mg base (CXR l.prog w) "_law_asked" 8 ["book", "table", "people", "pairs", "turns", "a", "c"] (spAsked a_Table (⟨a_KinError, a_NoTable, a_NoClass, a_NoWalk, a_NoPerson, a_NoParents, a_TooMany, a_Book⟩ : Ad)) := ⟨_, _, PySem.W.mg_of X G a_d__law_asked, kk_d__law_asked, b_d__law_asked, ok_asked F_d__law_asked T hE D_fitting D__law_clash D__law_list_good⟩
  have D_is_turn : Def l.prog w K mg base (CXR l.prog w) "is_turn" 1 ["row", "many"] spIsTurn := ⟨_, _, PySem.W.mg_of X G a_d_is_turn, kk_d_is_turn, b_d_is_turn, ok_isturn F_d_is_turn T⟩
  have D_turned_back : Def l.prog w K mg base (CXR l.prog w) "turned_back" 1 ["turn"] spTurnedBack := ⟨_, _, PySem.W.mg_of X G a_d_turned_back, kk_d_turned_back, b_d_turned_back, ok_tback F_d_turned_back T⟩
  have D_Table : CDef l.prog w K mg base (CXR l.prog w) "Table" a_Table 2 ["self", "wives", "heirs"] (spInitX a_Table (⟨a_KinError, a_NoTable, a_NoClass, a_NoWalk, a_NoPerson, a_NoParents, a_TooMany, a_Book⟩ : Ad)) := ⟨_, _, PySem.W.mg_of X G b_Table, ⟨mk_Table, a_m_Table___init__, i_m_Table___init__, kc_Table⟩, b_m_Table___init__, ok_init F_m_Table___init__ T D_is_turn D_turned_back⟩
  have D_Book : CDef l.prog w K mg base (CXR l.prog w) "Book" a_Book 1 ["self"] (spBookInit (⟨a_KinError, a_NoTable, a_NoClass, a_NoWalk, a_NoPerson, a_NoParents, a_TooMany, a_Book⟩ : Ad)) := ⟨_, _, PySem.W.mg_of X G b_Book, ⟨mk_Book, a_m_Book___init__, i_m_Book___init__, kc_Book⟩, b_m_Book___init__, ok_binit F_m_Book___init__ T⟩
  exact ok_law F_d_law T hE D__law_cell_at D__law_turn_by D__law_comer D__law_put D__law_fit_book D__law_refused D__law_asked D_Table D_Book
theorem walk {l : PySem.W.OpenLaw} {q : Program} {loose : List Str} {XP : (Str → Option Value) → Heap → Prop} {YP : World → Heap → Prop} {d : DefRec} {K : Params → PySem.W.Frag} (hn : l.most = some 63) (hdf : d.params.defaults = [])
    (hY : ∀ (w : World) (h : Heap), YP w h → (K w.params).In h)
    (F : ∀ (w : World) (mg : Str → Option Value) (fa : Addr) (h : Heap), (K w.params).In h → h.Ns mainGlobals mg → mg d.name = some (.ref fa) →
      ∃ fd : FuncData, (∀ (s : Shared) (u : Value), BindsTo s fd ⟨[u], []⟩ [("script", u)]) ∧ ∀ base : Heap, (K w.params).In base → base.Ns mainGlobals mg → FnOk l.prog w (K w.params) mg base (CXR l.prog w) 9 fa fd ["script"] (spLaw (K w.params))) :
    PySem.W.WalkO q loose XP YP l.row.toRowW d [] (fun f vs => PySem.call f vs) :=
  L2.walk_of (n := 63) (k := 9) (x := "script") (CX := fun w => CXR l.prog w) (sp := fun w => spLaw (K w.params)) hn (by decide) hdf ⟨rfl, by decide, by decide, rfl⟩ hY F (fun _ _ a ns hl _ hS => ⟨a, ns, rfl, hl, hS, fun _ => rfl⟩) fun _ _ _ _ _ ⟨_, _, _, _, _, z⟩ => z
end Prf
def PySem.W.Fast.tw16684200786942742246 : Unit := ()
def PySem.W.Fast.tw7537932491887007512 : Unit := ()
def PySem.W.Fast.tw16433130433684079110 : Unit := ()
def PySem.W.Fast.tw10708040418883401082 : Unit := ()
def PySem.W.Fast.tw5695204428923347366 : Unit := ()
def PySem.W.Fast.tw7426335591854985751 : Unit := ()
def PySem.W.Fast.tw13011346750980826465 : Unit := ()
def PySem.W.Fast.tw1459110919703071719 : Unit := ()
def PySem.W.Fast.tw6350401461548896726 : Unit := ()
def PySem.W.Fast.tw1098007929767240315 : Unit := ()
def PySem.W.Fast.tw2254951363118064836 : Unit := ()
def PySem.W.Fast.tw12177784426179506770 : Unit := ()
def PySem.W.Fast.tw1454315110648016772 : Unit := ()
def PySem.W.Fast.tw4411995426565215419 : Unit := ()
def PySem.W.Fast.tw3843871270120160883 : Unit := ()
def PySem.W.Fast.tw8006844234987644842 : Unit := ()
def PySem.W.Fast.tw5835005719760271243 : Unit := ()
open PySem PySem.W PyProof.Rows
set_option maxRecDepth 100000 in
set_option maxHeartbeats 0 in
theorem PySem.Challenge.cw_kinturns_k12_whole_fitting_holds : PySem.Challenge.rw_kinturns_k12_whole_fitting.Holds := by
  w_on; o_law; k_head; (case hw => w_witness2)
  k_fill
  refine Prf.walk (l := PySem.Challenge.rw_kinturns_k12_whole_fitting) rfl rfl (fun w h Y => PySem.W.kIn_of Y) ?F
  case F =>
    intro w mg fa h KX G hmg
    refine' Prf.all_mk KX G hmg ?b_KinError ?b_NoTable ?b_NoClass ?b_NoWalk ?b_NoPerson ?b_NoParents ?b_TooMany ?b_Book ?b_Table ?pg_Book ?hd_Book ?po_Book ?sa_Book ?mk_Book ?kc_Book ?n_sexes ?n_fathers ?n_mothers ?n_partner_lists ?pg_Table ?hd_Table ?po_Table ?sa_Table ?mk_Table ?kc_Table ?n_wife_turn ?n_heir_turn ?n_husband_turn ?n_father_turn ?kd1 ?kd2 ?x_NoTable ?c1_NoTable ?c2_NoTable ?c3_NoTable ?c4_NoTable ?c5_NoTable ?c6_NoTable ?w_NoTable ?v_NoTable ?k_NoTable_NoTable ?k_NoTable_NoClass ?k_NoTable_NoWalk ?k_NoTable_NoPerson ?k_NoTable_NoParents ?k_NoTable_TooMany ?x_NoClass ?c1_NoClass ?c2_NoClass ?c3_NoClass ?c4_NoClass ?c5_NoClass ?c6_NoClass ?w_NoClass ?v_NoClass ?k_NoClass_NoTable ?k_NoClass_NoClass ?k_NoClass_NoWalk ?k_NoClass_NoPerson ?k_NoClass_NoParents ?k_NoClass_TooMany ?x_NoWalk ?c1_NoWalk ?c2_NoWalk ?c3_NoWalk ?c4_NoWalk ?c5_NoWalk ?c6_NoWalk ?w_NoWalk ?v_NoWalk ?k_NoWalk_NoTable ?k_NoWalk_NoClass ?k_NoWalk_NoWalk ?k_NoWalk_NoPerson ?k_NoWalk_NoParents ?k_NoWalk_TooMany ?x_NoPerson ?c1_NoPerson ?c2_NoPerson ?c3_NoPerson ?c4_NoPerson ?c5_NoPerson ?c6_NoPerson ?w_NoPerson ?v_NoPerson ?k_NoPerson_NoTable ?k_NoPerson_NoClass ?k_NoPerson_NoWalk ?k_NoPerson_NoPerson ?k_NoPerson_NoParents ?k_NoPerson_TooMany ?x_NoParents ?c1_NoParents ?c2_NoParents ?c3_NoParents ?c4_NoParents ?c5_NoParents ?c6_NoParents ?w_NoParents ?v_NoParents ?k_NoParents_NoTable ?k_NoParents_NoClass ?k_NoParents_NoWalk ?k_NoParents_NoPerson ?k_NoParents_NoParents ?k_NoParents_TooMany ?x_TooMany ?c1_TooMany ?c2_TooMany ?c3_TooMany ?c4_TooMany ?c5_TooMany ?c6_TooMany ?w_TooMany ?v_TooMany ?k_TooMany_NoTable ?k_TooMany_NoClass ?k_TooMany_NoWalk ?k_TooMany_NoPerson ?k_TooMany_NoParents ?k_TooMany_TooMany ?a_d__law_cell_at ?l_d__law_cell_at ?cc_d__law_cell_at ?kk_d__law_cell_at ?a_d__law_turn_by ?l_d__law_turn_by ?cc_d__law_turn_by ?kk_d__law_turn_by ?a_d__law_comer ?l_d__law_comer ?cc_d__law_comer ?kk_d__law_comer ?a_m_check_room ?i_m_check_room ?l_m_check_room ?cc_m_check_room ?kk_m_check_room ?a_m_enter ?i_m_enter ?l_m_enter ?cc_m_enter ?kk_m_enter ?a_m_come ?i_m_come ?l_m_come ?cc_m_come ?kk_m_come ?a_m_check_person ?i_m_check_person ?l_m_check_person ?cc_m_check_person ?kk_m_check_person ?a_m_check_couple ?i_m_check_couple ?l_m_check_couple ?cc_m_check_couple ?kk_m_check_couple ?a_m_pair ?i_m_pair ?l_m_pair ?cc_m_pair ?kk_m_pair ?a_m_born ?i_m_born ?l_m_born ?cc_m_born ?kk_m_born ?a_m_wed ?i_m_wed ?l_m_wed ?cc_m_wed ?kk_m_wed ?a_d__law_put ?l_d__law_put ?cc_d__law_put ?kk_d__law_put ?a_d__law_fit_comer ?l_d__law_fit_comer ?cc_d__law_fit_comer ?kk_d__law_fit_comer ?a_d__law_fit_book ?l_d__law_fit_book ?cc_d__law_fit_book ?kk_d__law_fit_book ?a_m_check_class ?i_m_check_class ?l_m_check_class ?cc_m_check_class ?kk_m_check_class ?a_m_Book_size ?i_m_Book_size ?l_m_Book_size ?cc_m_Book_size ?kk_m_Book_size ?a_d_check_walk ?l_d_check_walk ?cc_d_check_walk ?kk_d_check_walk ?a_m_wife_of ?i_m_wife_of ?l_m_wife_of ?cc_m_wife_of ?kk_m_wife_of ?a_m_father_of ?i_m_father_of ?l_m_father_of ?cc_m_father_of ?kk_m_father_of ?a_m_husband_of ?i_m_husband_of ?l_m_husband_of ?cc_m_husband_of ?kk_m_husband_of ?a_d_partner_class ?l_d_partner_class ?cc_d_partner_class ?kk_d_partner_class ?a_m_heir_of ?i_m_heir_of ?l_m_heir_of ?cc_m_heir_of ?kk_m_heir_of ?a_d_child_class ?l_d_child_class ?cc_d_child_class ?kk_d_child_class ?a_d_class_after ?l_d_class_after ?cc_d_class_after ?kk_d_class_after ?a_d_partner_sex ?l_d_partner_sex ?cc_d_partner_sex ?kk_d_partner_sex ?a_d_sex_after ?l_d_sex_after ?cc_d_sex_after ?kk_d_sex_after ?a_d_walked ?l_d_walked ?cc_d_walked ?kk_d_walked ?a_m_sex_of ?i_m_sex_of ?l_m_sex_of ?cc_m_sex_of ?kk_m_sex_of ?a_m_children ?i_m_children ?l_m_children ?cc_m_children ?kk_m_children ?a_m_siblings ?i_m_siblings ?l_m_siblings ?cc_m_siblings ?kk_m_siblings ?a_m_kin_by_letter ?i_m_kin_by_letter ?l_m_kin_by_letter ?cc_m_kin_by_letter ?kk_m_kin_by_letter ?a_m_kin ?i_m_kin ?l_m_kin ?cc_m_kin ?kk_m_kin ?a_d_near_classes ?l_d_near_classes ?cc_d_near_classes ?kk_d_near_classes ?a_d_fitting ?l_d_fitting ?cc_d_fitting ?kk_d_fitting ?a_d__law_refused ?l_d__law_refused ?cc_d__law_refused ?kk_d__law_refused ?a_d__law_near ?l_d__law_near ?cc_d__law_near ?kk_d__law_near ?a_d__law_clash ?l_d__law_clash ?cc_d__law_clash ?kk_d__law_clash ?a_d__law_together ?l_d__law_together ?cc_d__law_together ?kk_d__law_together ?a_d__law_whole ?l_d__law_whole ?cc_d__law_whole ?kk_d__law_whole ?a_d__law_fits ?l_d__law_fits ?cc_d__law_fits ?kk_d__law_fits ?a_d__law_list_good ?l_d__law_list_good ?cc_d__law_list_good ?kk_d__law_list_good ?a_d__law_asked ?l_d__law_asked ?cc_d__law_asked ?kk_d__law_asked ?a_d_is_turn ?l_d_is_turn ?cc_d_is_turn ?kk_d_is_turn ?a_d_turned_back ?l_d_turned_back ?cc_d_turned_back ?kk_d_turned_back ?a_m_Table___init__ ?i_m_Table___init__ ?l_m_Table___init__ ?cc_m_Table___init__ ?kk_m_Table___init__ ?a_m_Book___init__ ?i_m_Book___init__ ?l_m_Book___init__ ?cc_m_Book___init__ ?kk_m_Book___init__ ?a_d_law ?l_d_law ?cc_d_law ?kk_d_law ?g_LETTERS ?g_LETTERS_TO_MEN ?g_MOST_LETTERS ?g_LETTERS_THAT_HANG ?g_MOST_PERSONS ?g_MOST_CLASSES ?z_ValueError ?z_bool ?z_int ?z_isinstance ?z_len ?z_list ?z_range ?z_sorted
    (case b_KinError => k_is)
    (case b_NoTable => k_is)
    (case b_NoClass => k_is)
    (case b_NoWalk => k_is)
    (case b_NoPerson => k_is)
    (case b_NoParents => k_is)
    (case b_TooMany => k_is)
    (case b_Book => k_is)
    (case b_Table => k_is)
    (case pg_Book => k_is)
    (case hd_Book => k_is)
    (case po_Book => k_is)
    (case sa_Book => k_is)
    (case mk_Book => k_is)
    (case kc_Book => k_is)
    (case n_sexes => k_is)
    (case n_fathers => k_is)
    (case n_mothers => k_is)
    (case n_partner_lists => k_is)
    (case pg_Table => k_is)
    (case hd_Table => k_is)
    (case po_Table => k_is)
    (case sa_Table => k_is)
    (case mk_Table => k_is)
    (case kc_Table => k_is)
    (case n_wife_turn => k_is)
    (case n_heir_turn => k_is)
    (case n_husband_turn => k_is)
    (case n_father_turn => k_is)
    (case kd1 => k_is)
    (case kd2 => k_is)
    (case x_NoTable => k_exc)
    (case c1_NoTable => k_is)
    (case c2_NoTable => k_is)
    (case c3_NoTable => k_is)
    (case c4_NoTable => k_is)
    (case c5_NoTable => k_is)
    (case c6_NoTable => k_is)
    (case w_NoTable => kts_exm)
    (case v_NoTable => kit_is)
    (case k_NoTable_NoTable => kit_is)
    (case k_NoTable_NoClass => kit_is)
    (case k_NoTable_NoWalk => kit_is)
    (case k_NoTable_NoPerson => kit_is)
    (case k_NoTable_NoParents => kit_is)
    (case k_NoTable_TooMany => kit_is)
    (case x_NoClass => k_exc)
    (case c1_NoClass => k_is)
    (case c2_NoClass => k_is)
    (case c3_NoClass => k_is)
    (case c4_NoClass => k_is)
    (case c5_NoClass => k_is)
    (case c6_NoClass => k_is)
    (case w_NoClass => kts_exm)
    (case v_NoClass => kit_is)
    (case k_NoClass_NoTable => kit_is)
    (case k_NoClass_NoClass => kit_is)
    (case k_NoClass_NoWalk => kit_is)
    (case k_NoClass_NoPerson => kit_is)
    (case k_NoClass_NoParents => kit_is)
    (case k_NoClass_TooMany => kit_is)
    (case x_NoWalk => k_exc)
    (case c1_NoWalk => k_is)
    (case c2_NoWalk => k_is)
    (case c3_NoWalk => k_is)
    (case c4_NoWalk => k_is)
    (case c5_NoWalk => k_is)
    (case c6_NoWalk => k_is)
    (case w_NoWalk => kts_exm)
    (case v_NoWalk => kit_is)
    (case k_NoWalk_NoTable => kit_is)
    (case k_NoWalk_NoClass => kit_is)
    (case k_NoWalk_NoWalk => kit_is)
    (case k_NoWalk_NoPerson => kit_is)
    (case k_NoWalk_NoParents => kit_is)
    (case k_NoWalk_TooMany => kit_is)
    (case x_NoPerson => k_exc)
    (case c1_NoPerson => k_is)
    (case c2_NoPerson => k_is)
    (case c3_NoPerson => k_is)
    (case c4_NoPerson => k_is)
    (case c5_NoPerson => k_is)
    (case c6_NoPerson => k_is)
    (case w_NoPerson => kts_exm)
    (case v_NoPerson => kit_is)
    (case k_NoPerson_NoTable => kit_is)
    (case k_NoPerson_NoClass => kit_is)
    (case k_NoPerson_NoWalk => kit_is)
    (case k_NoPerson_NoPerson => kit_is)
    (case k_NoPerson_NoParents => kit_is)
    (case k_NoPerson_TooMany => kit_is)
    (case x_NoParents => k_exc)
    (case c1_NoParents => k_is)
    (case c2_NoParents => k_is)
    (case c3_NoParents => k_is)
    (case c4_NoParents => k_is)
    (case c5_NoParents => k_is)
    (case c6_NoParents => k_is)
    (case w_NoParents => kts_exm)
    (case v_NoParents => kit_is)
    (case k_NoParents_NoTable => kit_is)
    (case k_NoParents_NoClass => kit_is)
    (case k_NoParents_NoWalk => kit_is)
    (case k_NoParents_NoPerson => kit_is)
    (case k_NoParents_NoParents => kit_is)
    (case k_NoParents_TooMany => kit_is)
    (case x_TooMany => k_exc)
    (case c1_TooMany => k_is)
    (case c2_TooMany => k_is)
    (case c3_TooMany => k_is)
    (case c4_TooMany => k_is)
    (case c5_TooMany => k_is)
    (case c6_TooMany => k_is)
    (case w_TooMany => kts_exm)
    (case v_TooMany => kit_is)
    (case k_TooMany_NoTable => kit_is)
    (case k_TooMany_NoClass => kit_is)
    (case k_TooMany_NoWalk => kit_is)
    (case k_TooMany_NoPerson => kit_is)
    (case k_TooMany_NoParents => kit_is)
    (case k_TooMany_TooMany => kit_is)
    (case a_d__law_cell_at => k_is)
    (case l_d__law_cell_at => k_is)
    (case cc_d__law_cell_at => k_is)
    (case kk_d__law_cell_at => k_is)
    (case a_d__law_turn_by => k_is)
    (case l_d__law_turn_by => k_is)
    (case cc_d__law_turn_by => k_is)
    (case kk_d__law_turn_by => k_is)
    (case a_d__law_comer => k_is)
    (case l_d__law_comer => k_is)
    (case cc_d__law_comer => k_is)
    (case kk_d__law_comer => k_is)
    (case a_m_check_room => k_is)
    (case i_m_check_room => k_is)
    (case l_m_check_room => k_is)
    (case cc_m_check_room => k_is)
    (case kk_m_check_room => k_is)
    (case a_m_enter => k_is)
    (case i_m_enter => k_is)
    (case l_m_enter => k_is)
    (case cc_m_enter => k_is)
    (case kk_m_enter => k_is)
    (case a_m_come => k_is)
    (case i_m_come => k_is)
    (case l_m_come => k_is)
    (case cc_m_come => k_is)
    (case kk_m_come => k_is)
    (case a_m_check_person => k_is)
    (case i_m_check_person => k_is)
    (case l_m_check_person => k_is)
    (case cc_m_check_person => k_is)
    (case kk_m_check_person => k_is)
    (case a_m_check_couple => k_is)
    (case i_m_check_couple => k_is)
    (case l_m_check_couple => k_is)
    (case cc_m_check_couple => k_is)
    (case kk_m_check_couple => k_is)
    (case a_m_pair => k_is)
    (case i_m_pair => k_is)
    (case l_m_pair => k_is)
    (case cc_m_pair => k_is)
    (case kk_m_pair => k_is)
    (case a_m_born => k_is)
    (case i_m_born => k_is)
    (case l_m_born => k_is)
    (case cc_m_born => k_is)
    (case kk_m_born => k_is)
    (case a_m_wed => k_is)
    (case i_m_wed => k_is)
    (case l_m_wed => k_is)
    (case cc_m_wed => k_is)
    (case kk_m_wed => k_is)
    (case a_d__law_put => k_is)
    (case l_d__law_put => k_is)
    (case cc_d__law_put => k_is)
    (case kk_d__law_put => k_is)
    (case a_d__law_fit_comer => k_is)
    (case l_d__law_fit_comer => k_is)
    (case cc_d__law_fit_comer => k_is)
    (case kk_d__law_fit_comer => k_is)
    (case a_d__law_fit_book => k_is)
    (case l_d__law_fit_book => k_is)
    (case cc_d__law_fit_book => k_is)
    (case kk_d__law_fit_book => k_is)
    (case a_m_check_class => k_is)
    (case i_m_check_class => k_is)
    (case l_m_check_class => k_is)
    (case cc_m_check_class => k_is)
    (case kk_m_check_class => k_is)
    (case a_m_Book_size => k_is)
    (case i_m_Book_size => k_is)
    (case l_m_Book_size => k_is)
    (case cc_m_Book_size => k_is)
    (case kk_m_Book_size => k_is)
    (case a_d_check_walk => k_is)
    (case l_d_check_walk => k_is)
    (case cc_d_check_walk => k_is)
    (case kk_d_check_walk => k_is)
    (case a_m_wife_of => k_is)
    (case i_m_wife_of => k_is)
    (case l_m_wife_of => k_is)
    (case cc_m_wife_of => k_is)
    (case kk_m_wife_of => k_is)
    (case a_m_father_of => k_is)
    (case i_m_father_of => k_is)
    (case l_m_father_of => k_is)
    (case cc_m_father_of => k_is)
    (case kk_m_father_of => k_is)
    (case a_m_husband_of => k_is)
    (case i_m_husband_of => k_is)
    (case l_m_husband_of => k_is)
    (case cc_m_husband_of => k_is)
    (case kk_m_husband_of => k_is)
    (case a_d_partner_class => k_is)
    (case l_d_partner_class => k_is)
    (case cc_d_partner_class => k_is)
    (case kk_d_partner_class => k_is)
    (case a_m_heir_of => k_is)
    (case i_m_heir_of => k_is)
    (case l_m_heir_of => k_is)
    (case cc_m_heir_of => k_is)
    (case kk_m_heir_of => k_is)
    (case a_d_child_class => k_is)
    (case l_d_child_class => k_is)
    (case cc_d_child_class => k_is)
    (case kk_d_child_class => k_is)
    (case a_d_class_after => k_is)
    (case l_d_class_after => k_is)
    (case cc_d_class_after => k_is)
    (case kk_d_class_after => k_is)
    (case a_d_partner_sex => k_is)
    (case l_d_partner_sex => k_is)
    (case cc_d_partner_sex => k_is)
    (case kk_d_partner_sex => k_is)
    (case a_d_sex_after => k_is)
    (case l_d_sex_after => k_is)
    (case cc_d_sex_after => k_is)
    (case kk_d_sex_after => k_is)
    (case a_d_walked => k_is)
    (case l_d_walked => k_is)
    (case cc_d_walked => k_is)
    (case kk_d_walked => k_is)
    (case a_m_sex_of => k_is)
    (case i_m_sex_of => k_is)
    (case l_m_sex_of => k_is)
    (case cc_m_sex_of => k_is)
    (case kk_m_sex_of => k_is)
    (case a_m_children => k_is)
    (case i_m_children => k_is)
    (case l_m_children => k_is)
    (case cc_m_children => k_is)
    (case kk_m_children => k_is)
    (case a_m_siblings => k_is)
    (case i_m_siblings => k_is)
    (case l_m_siblings => k_is)
    (case cc_m_siblings => k_is)
    (case kk_m_siblings => k_is)
    (case a_m_kin_by_letter => k_is)
    (case i_m_kin_by_letter => k_is)
    (case l_m_kin_by_letter => k_is)
    (case cc_m_kin_by_letter => k_is)
    (case kk_m_kin_by_letter => k_is)
    (case a_m_kin => k_is)
    (case i_m_kin => k_is)
    (case l_m_kin => k_is)
    (case cc_m_kin => k_is)
    (case kk_m_kin => k_is)
    (case a_d_near_classes => k_is)
    (case l_d_near_classes => k_is)
    (case cc_d_near_classes => k_is)
    (case kk_d_near_classes => k_is)
    (case a_d_fitting => k_is)
    (case l_d_fitting => k_is)
    (case cc_d_fitting => k_is)
    (case kk_d_fitting => k_is)
    (case a_d__law_refused => k_is)
    (case l_d__law_refused => k_is)
    (case cc_d__law_refused => k_is)
    (case kk_d__law_refused => k_is)
    (case a_d__law_near => k_is)
    (case l_d__law_near => k_is)
    (case cc_d__law_near => k_is)
    (case kk_d__law_near => k_is)
    (case a_d__law_clash => k_is)
    (case l_d__law_clash => k_is)
    (case cc_d__law_clash => k_is)
    (case kk_d__law_clash => k_is)
    (case a_d__law_together => k_is)
    (case l_d__law_together => k_is)
    (case cc_d__law_together => k_is)
    (case kk_d__law_together => k_is)
    (case a_d__law_whole => k_is)
    (case l_d__law_whole => k_is)
    (case cc_d__law_whole => k_is)
    (case kk_d__law_whole => k_is)
    (case a_d__law_fits => k_is)
    (case l_d__law_fits => k_is)
    (case cc_d__law_fits => k_is)
    (case kk_d__law_fits => k_is)
    (case a_d__law_list_good => k_is)
    (case l_d__law_list_good => k_is)
    (case cc_d__law_list_good => k_is)
    (case kk_d__law_list_good => k_is)
    (case a_d__law_asked => k_is)
    (case l_d__law_asked => k_is)
    (case cc_d__law_asked => k_is)
    (case kk_d__law_asked => k_is)
    (case a_d_is_turn => k_is)
    (case l_d_is_turn => k_is)
    (case cc_d_is_turn => k_is)
    (case kk_d_is_turn => k_is)
    (case a_d_turned_back => k_is)
    (case l_d_turned_back => k_is)
    (case cc_d_turned_back => k_is)
    (case kk_d_turned_back => k_is)
    (case a_m_Table___init__ => k_is)
    (case i_m_Table___init__ => k_is)
    (case l_m_Table___init__ => k_is)
    (case cc_m_Table___init__ => k_is)
    (case kk_m_Table___init__ => k_is)
    (case a_m_Book___init__ => k_is)
    (case i_m_Book___init__ => k_is)
    (case l_m_Book___init__ => k_is)
    (case cc_m_Book___init__ => k_is)
    (case kk_m_Book___init__ => k_is)
    (case a_d_law => k_is)
    (case l_d_law => k_is)
    (case cc_d_law => k_is)
    (case kk_d_law => k_is)
    (case g_LETTERS => k_is)
    (case g_LETTERS_TO_MEN => k_is)
    (case g_MOST_LETTERS => k_is)
    (case g_LETTERS_THAT_HANG => k_is)
    (case g_MOST_PERSONS => k_is)
    (case g_MOST_CLASSES => k_is)
    (case z_ValueError => k_is)
    (case z_bool => k_is)
    (case z_int => k_is)
    (case z_isinstance => k_is)
    (case z_len => k_is)
    (case z_list => k_is)
    (case z_range => k_is)
    (case z_sorted => k_is)
#print axioms PySem.Challenge.cw_kinturns_k12_whole_fitting_holds
