import PyProof.Rows.All
import Wide.All
import OpenK.AllK
import Wide.FinOn
import Lean
import PyProof.EqAt
import PyProof.EqKinds
import PyProof.NeKinds
import PyProof.TupleCall
import PySem.Challenge.RW_kinturns_k08_whole_the_first_table
set_option Elab.async false
set_option linter.all false
set_option maxRecDepth 100000
/-! THE HAND LAYER, for ints, bools, texts, own classes, LISTS and tuples (index, slices, in, append, pop ..), calls, loops. Paste it whole ahead of your own text; what your proof does not reach may be deleted. -/
namespace L2
open PySem PySem.Spec PyProof.Rows

/-- a key: an int or a str -/
abbrev Key := Sum Int Str
def keyIs : Key → Value → Bool
  | .inl k, v => Value.isInt k v
  | .inr x, v => Value.isStrOf x v
def keyH (w : World) : Key → Int
  | .inl k => hashInt k
  | .inr x => hashStr w x
theorem keyIs_shape : ∀ {k : Key} {v : Value}, keyIs k v = true → (∃ i t, k = Sum.inl i ∧ v = Value.int i t) ∨ (∃ x t, k = Sum.inr x ∧ v = Value.str x t)
  | .inl i, v, h => by
    obtain ⟨t, e⟩ := Value.isInt_shape (k := i) (v := v) h
    exact .inl ⟨i, t, rfl, e⟩
  | .inr x, v, h => by
    obtain ⟨t, e⟩ := Value.isStrOf_shape (x := x) (v := v) h
    exact .inr ⟨x, t, rfl, e⟩
theorem keyIs_int (i : Int) (t : Tok) : keyIs (.inl i) (.int i t) = true := by simp [keyIs, Value.isInt]
theorem keyIs_str (x : Str) (t : Tok) : keyIs (.inr x) (.str x t) = true := by simp [keyIs, Value.isStrOf]
theorem key_ll (a b : Int) : decide ((Sum.inl a : Key) = Sum.inl b) = (a == b) := by
  by_cases e : a = b
  · subst e; simp
  · have h : ¬ (Sum.inl a : Key) = Sum.inl b := fun q => e (Sum.inl.inj q)
    rw [decide_eq_false h]
    exact (beq_eq_false_iff_ne.mpr e).symm
theorem key_rr (a b : Str) : decide ((Sum.inr a : Key) = Sum.inr b) = decide (a = b) := by
  by_cases e : a = b
  · subst e; simp
  · have h : ¬ (Sum.inr a : Key) = Sum.inr b := fun q => e (Sum.inr.inj q)
    rw [decide_eq_false h, decide_eq_false e]
theorem key_lr (a : Int) (b : Str) : decide ((Sum.inl a : Key) = Sum.inr b) = false := decide_eq_false (fun q => nomatch q)
theorem key_rl (a : Str) (b : Int) : decide ((Sum.inr a : Key) = Sum.inl b) = false := decide_eq_false (fun q => nomatch q)

def mixKind (prog : Program) (w : World) : PySem.KeyKind prog w Key where
  is := keyIs
  hash := keyH w
  inj := fun v a b ha hb => by
    rcases keyIs_shape ha with ⟨i, t, rfl, rfl⟩ | ⟨x, t, rfl, rfl⟩
    · rcases keyIs_shape hb with ⟨j, u, rfl, e⟩ | ⟨y, u, rfl, e⟩
      · injection e with e1 _; rw [e1]
      · exact nomatch e
    · rcases keyIs_shape hb with ⟨j, u, rfl, e⟩ | ⟨y, u, rfl, e⟩
      · exact nomatch e
      · injection e with e1 _; rw [e1]
  byValue := fun k v h => by
    rcases keyIs_shape h with ⟨i, t, rfl, rfl⟩ | ⟨x, t, rfl, rfl⟩ <;> rfl
  pyHash := fun hv h => by
    rcases keyIs_shape hv with ⟨i, t, rfl, rfl⟩ | ⟨x, t, rfl, rfl⟩
    · exact wpAny_pyHash_int h
    · exact wpAny_pyHash_str h
  eqBool := fun hu hv h => by
    rcases keyIs_shape hu with ⟨i, t, rfl, rfl⟩ | ⟨x, t, rfl, rfl⟩
    · rcases keyIs_shape hv with ⟨j, u, rfl, rfl⟩ | ⟨y, u, rfl, rfl⟩
      · rw [key_ll] at h; exact wpAny_eqBool_int h
      · rw [key_lr] at h; exact SeqAt.EqAt.int_str i t y u _ _ _ _ h
    · rcases keyIs_shape hv with ⟨j, u, rfl, rfl⟩ | ⟨y, u, rfl, rfl⟩
      · rw [key_rl] at h; exact SeqAt.EqAt.str_int x t j u _ _ _ _ h
      · rw [key_rr] at h; exact wpAny_eqBool_str h
  «strs» := fun k x t v h => by
    rcases keyIs_shape h with ⟨i, u, rfl, e⟩ | ⟨y, u, rfl, e⟩
    · exact nomatch e
    · injection e with e1 _
      subst e1
      cases v <;> rfl

theorem mixKind_is (prog : Program) (w : World) (k : Key) (v : Value) : (mixKind prog w).is k v = keyIs k v := rfl
theorem mixKind_int (prog : Program) (w : World) (i : Int) (t : Tok) : (mixKind prog w).is (.inl i) (.int i t) = true := keyIs_int i t
theorem mixKind_str (prog : Program) (w : World) (x : Str) (t : Tok) : (mixKind prog w).is (.inr x) (.str x t) = true := keyIs_str x t
end L2

namespace L2
open PySem PySem.Spec PyProof.Rows

/-- a value, without the heap -/
inductive V where
  | non | bl (b : Bool) | int (i : Int) | str (x : Str) | byt (b : Array UInt8) | flt (b : UInt64) | ref (a : Addr) | ty (n : String)
  deriving DecidableEq

def RelV : V → Value → Prop
  | .non, u => u = Value.none
  | .bl b, u => u = Value.bool b
  | .int i, u => ∃ t, u = Value.int i t
  | .str x, u => ∃ t, u = Value.str x t
  | .byt b, u => ∃ t, u = Value.bytes b t
  | .flt b, u => ∃ t, u = Value.float b t
  | .ref a, u => u = Value.ref a
  | .ty n, u => u = Value.type n

abbrev Vals : List V → List Value → Prop := Paired RelV
theorem Vals.length {xs : List V} {us : List Value} (r : Vals xs us) : xs.length = us.length := Paired.length r
theorem Vals.get : ∀ {xs : List V} {us : List Value} {i : Nat} {x : V}, Vals xs us → xs[i]? = some x → ∃ u, us[i]? = some u ∧ RelV x u
  | _, _, _, _, .nil, e => by simp at e
  | _, _, 0, _, .cons r _, e => by simp at e; subst e; exact ⟨_, rfl, r⟩
  | _, _, i + 1, x, .cons _ t, e => by
    obtain ⟨u, h1, h2⟩ := Vals.get (i := i) (x := x) t (by simpa using e)
    exact ⟨u, by simpa using h1, h2⟩
theorem Vals.append : ∀ {xs ys : List V} {us ws : List Value}, Vals xs us → Vals ys ws → Vals (xs ++ ys) (us ++ ws)
  | _, _, _, _, .nil, s => s
  | _, _, _, _, .cons r t, s => .cons r (Vals.append t s)
def RelO : Option V → Option Value → Prop
  | some v, some u => RelV v u
  | none, none => True
  | _, _ => False
def KV {κ : Type} : List (κ × V) → List (κ × Value) → Prop := Paired fun (p : κ × V) (q : κ × Value) => p.1 = q.1 ∧ RelV p.2 q.2

/-- a key of a dict (00_mix): an int or a text -/
def kV : Key → V
  | .inl i => .int i
  | .inr x => .str x

/-- what stands at a tracked address -/
inductive HO where
  /-- a list -/
  | lst (xs : List V)
  /-- a tuple (never changes) -/
  | tup (xs : List V)
  /-- a dict whose keys are ints and texts; one whose keys are tuples of ints and texts (the empty one is both) -/
  | dK (kvs : List (Key × V)) | dT (kvs : List (List Key × V))
  /-- a set of ints: its members, its size -/
  | set (S : Int → Bool) (n : Nat)
  /-- an instance of the class at C, its dict at dx, its attributes -/
  | ins (C dx : Addr) (fs : List (Str × V))
  /-- the dict of the instance at x -/
  | own (x : Addr)
  /-- the dict of an exception -/
  | xd (fs : List (Str × V))
  /-- a bound method, f of x -/
  | met (f x : Addr)
  /-- a range object lo, lo + 1, .. below hi -/
  | rng (lo hi : Int)
  /-- a thing that is known to the object (the script; a dict while a loop walks it): read, never written while it is so -/
  | frz (o : Obj) (u : HO)
  /-- a code object's table -/
  | tbl (ps : Array Value)
  /-- any other thing, by what is true of its one object (a def of one's own: SetO a S n := HO.ext fun h => ..) -/
  | ext (φ : Heap → Prop)

abbrev Hp := Addr → Option HO
def upd (H : Hp) (a : Addr) (o : HO) : Hp := fun b => if b = a then some o else H b
theorem upd_same {H : Hp} {a : Addr} {o : HO} : upd H a o a = some o := by unfold upd; rw [if_pos rfl]
theorem upd_ne {H : Hp} {a b : Addr} {o : HO} (h : b ≠ a) : upd H a o b = H b := by unfold upd; rw [if_neg h]
/-- two objects of different content stand apart -/
theorem ne_of {H : Hp} {a b : Addr} {o u : HO} (h : H a = some o) (h' : H b = some u) (d : o ≠ u) : a ≠ b := by
  intro e; subst e; rw [h] at h'; exact d (Option.some.inj h')
theorem ne_of_none {H : Hp} {a b : Addr} {o : HO} (h : H a = some o) (h' : H b = none) : a ≠ b := by
  intro e; subst e; rw [h] at h'; cases h'

section
variable (P : Program) (w : World)
def ObjOk (H : Hp) (h : Heap) (a : Addr) : HO → Prop
  | .lst xs => xs.length ≤ sizeLine ∧ ∃ (its : List Value) (n : Nat), Vals xs its ∧ h.get? a = some { cls := .type "list", data := .seq its.toArray n }
  | .tup xs => xs.length ≤ sizeLine ∧ ∃ its : List Value, Vals xs its ∧ IsTup h a its.toArray
  | .dK kvs => kvs.length ≤ sizeLine ∧ (a == sysModules) = false ∧ ∃ vs, KV kvs vs ∧ h.DictOf (mixKind P w) a vs
  | .dT kvs => kvs.length ≤ sizeLine ∧ (a == sysModules) = false ∧ ∃ xs : List (List Key × Addr × Value),
      Paired (fun (p : List Key × V) (q : List Key × Addr × Value) => p.1 = q.1 ∧ H q.2.1 = some (.tup (p.1.map kV)) ∧ RelV p.2 q.2.2) kvs xs ∧
      ∃ o es ep, h.get? a = some o ∧ o.ExactDict ∧ o.data = .dict es ep ∧ es.toList = xs.map (entryOfKey (tupleKind (mixKind P w))) ∧ (xs.map (·.1)).Nodup
  | .set S n => h.SetOf (intKind P w) a S n
  | .ins C dx fs => H dx = some (.own a) ∧ fs.length ≤ 1000 ∧ dx ≠ a ∧ h.get? a = some (PySem.W.instObj C dx) ∧
      ∃ mA, h.Ns1 dx mA ∧ (∀ f, RelO (fs.lookup f) (mA f)) ∧ PySem.Within mA (fs.map (·.1))
  | .own _ => ∃ o, h.get? a = some o
  | .xd fs => ∃ mA, h.Ns1 a mA ∧ ∀ f, RelO (fs.lookup f) (mA f)
  | .rng lo hi => ∃ t u v, h.get? a = some { cls := .type "range", data := .fields #[.int lo t, .int hi u, .int 1 v] }
  | .frz o u => h.get? a = some o ∧ ObjOk H h a u
  | .tbl ps => h.get? a = some { cls := .none, data := .fields ps }
  | .met f x => h.get? a = some (PySem.W.methodObj (.ref f) (.ref x))
  | .ext φ => φ h ∧ (∃ o, h.get? a = some o) ∧ ∀ h1 h2 : Heap, φ h1 → (∀ o, h1.get? a = some o → h2.get? a = some o) → φ h2
/-- the abstract heap is held -/
def HOk (H : Hp) (h : Heap) : Prop := ∀ a o, H a = some o → ObjOk P w H h a o
end

section
variable {P : Program} {w : World} {H H' : Hp} {h h' : Heap} {a : Addr} {o : HO}
theorem ObjOk.lt (x : ObjOk P w H h a o) : a < h.objs.size := by
  cases o with
  | lst xs => obtain ⟨_, _, _, _, e⟩ := x; exact Heap.lt_size e
  | tup xs => obtain ⟨_, _, _, p⟩ := x; exact p.lt
  | dK kvs => obtain ⟨_, _, _, _, o, _, _, e, _⟩ := x; exact Heap.lt_size e
  | dT kvs => obtain ⟨_, _, _, _, o, _, _, e, _⟩ := x; exact Heap.lt_size e
  | set S n => obtain ⟨o, _, _, _, e, _⟩ := x; exact Heap.lt_size e
  | ins C dx fs => obtain ⟨_, _, _, e, _⟩ := x; exact Heap.lt_size e
  | own y => obtain ⟨_, e⟩ := x; exact Heap.lt_size e
  | xd fs => obtain ⟨_, ⟨_, _, _, e, _⟩, _⟩ := x; exact Heap.lt_size e
  | rng lo hi => obtain ⟨_, _, _, e⟩ := x; exact Heap.lt_size e
  | frz ob u => obtain ⟨e, _⟩ := x; exact Heap.lt_size e
  | tbl ps => exact Heap.lt_size (show h.get? a = some _ from x)
  | met f y => exact Heap.lt_size (show h.get? a = some _ from x)
  | ext φ => obtain ⟨_, ⟨_, e⟩, _⟩ := x; exact Heap.lt_size e
theorem Paired.mapP {α β : Type} {F G : α → β → Prop} : ∀ {l₁ : List α} {l₂ : List β}, Paired F l₁ l₂ → (∀ a b, F a b → G a b) → Paired G l₁ l₂
  | _, _, .nil, _ => .nil
  | _, _, .cons r t, f => .cons (f _ _ r) (Paired.mapP t f)
/-- what an object's description leans on: its own object, its own dict, the tuples -/
theorem ObjOk.stay (x : ObjOk P w H h a o) (k : ∀ b u, (b = a ∨ H b = some (.own a)) → h.get? b = some u → h'.get? b = some u)
    (ho : ∀ b, H b = some (.own a) → H' b = some (.own a)) (ht : ∀ b xs, H b = some (.tup xs) → H' b = some (.tup xs)) : ObjOk P w H' h' a o := by
  induction o with
  | lst xs => obtain ⟨z, its, n, r, e⟩ := x; exact ⟨z, its, n, r, k _ _ (.inl rfl) e⟩
  | tup xs => obtain ⟨z, its, r, ob, e, c⟩ := x; exact ⟨z, its, r, ob, k _ _ (.inl rfl) e, c⟩
  | dK kvs => obtain ⟨z, y, vs, r, ob, es, ep, e, c⟩ := x; exact ⟨z, y, vs, r, ob, es, ep, k _ _ (.inl rfl) e, c⟩
  | dT kvs =>
    obtain ⟨z, y, xs, r, ob, es, ep, e, c⟩ := x
    exact ⟨z, y, xs, Paired.mapP r fun p q z => ⟨z.1, ht _ _ z.2.1, z.2.2⟩, ob, es, ep, k _ _ (.inl rfl) e, c⟩
  | set S n => obtain ⟨ob, es, ep, t, e, c⟩ := x; exact ⟨ob, es, ep, t, k _ _ (.inl rfl) e, c⟩
  | ins C dx fs =>
    obtain ⟨d, z, ne, e, mA, ⟨od, es, ep, e2, c⟩, r⟩ := x
    exact ⟨ho _ d, z, ne, k _ _ (.inl rfl) e, mA, ⟨od, es, ep, k _ _ (.inr d) e2, c⟩, r⟩
  | own y => obtain ⟨ob, e⟩ := x; exact ⟨ob, k _ _ (.inl rfl) e⟩
  | xd fs => obtain ⟨mA, ⟨od, es, ep, e, c⟩, r⟩ := x; exact ⟨mA, ⟨od, es, ep, k _ _ (.inl rfl) e, c⟩, r⟩
  | rng lo hi => obtain ⟨t, u, v, e⟩ := x; exact ⟨t, u, v, k _ _ (.inl rfl) e⟩
  | frz ob u ih => obtain ⟨e, q⟩ := x; exact ⟨k _ _ (.inl rfl) e, ih q⟩
  | tbl ps =>
    have e : h.get? a = some { cls := .none, data := .fields ps } := x
    show h'.get? a = some { cls := .none, data := .fields ps }
    exact k a _ (.inl rfl) e
  | met f y =>
    have e : h.get? a = some (PySem.W.methodObj (.ref f) (.ref y)) := x
    show h'.get? a = some (PySem.W.methodObj (.ref f) (.ref y))
    exact k a _ (.inl rfl) e
  | ext φ => obtain ⟨p, ⟨o, e⟩, st⟩ := x; exact ⟨st _ _ p fun o q => k _ _ (.inl rfl) q, ⟨o, k _ _ (.inl rfl) e⟩, st⟩
theorem HOk.lt (x : HOk P w H h) (e : H a = some o) : a < h.objs.size := (x a o e).lt
theorem HOk.fresh (x : HOk P w H h) (e : h.objs.size ≤ a) : H a = none := by
  cases q : H a with
  | none => rfl
  | some u => exact absurd (Nat.lt_of_lt_of_le (x.lt q) e) (Nat.lt_irrefl _)
/-- every object of the heap is kept -/
theorem HOk.kept (x : HOk P w H h) (k : ∀ b u, h.get? b = some u → h'.get? b = some u) : HOk P w H h' := fun a o e =>
  (x a o e).stay (fun b u _ q => k b u q) (fun _ q => q) fun _ _ q => q
/-- a new object is laid and tracked -/
theorem HOk.laid (x : HOk P w H h) (k : ∀ b u, h.get? b = some u → h'.get? b = some u) (hp : h.objs.size ≤ a) (new : ObjOk P w (upd H a o) h' a o) : HOk P w (upd H a o) h' := fun b u e => by
  have hn := x.fresh hp
  by_cases hb : b = a
  · subst hb; rw [upd_same] at e; cases e; exact new
  · rw [upd_ne hb] at e
    exact (x b u e).stay (fun c v _ q => k c v q) (fun c q => by rw [upd_ne (ne_of_none q hn)]; exact q) fun c xs q => by rw [upd_ne (ne_of_none q hn)]; exact q
end

/-- what may be read as u: it is u, or a known u -/
def Rd (H : Hp) (a : Addr) (u : HO) : Prop := H a = some u ∨ ∃ o, H a = some (.frz o u)
theorem Rd.ok {P : Program} {w : World} {H : Hp} {h : Heap} {a : Addr} {u : HO} (r : Rd H a u) (x : HOk P w H h) : ObjOk P w H h a u := by
  rcases r with r | ⟨o, r⟩
  · exact x a u r
  · obtain ⟨_, q⟩ := x a _ r
    exact q
/-- what may be written -/
def Mut : Option HO → Prop
  | some (.lst _) => True
  | some (.dK _) => True
  | some (.dT _) => True
  | some (.set _ _) => True
  | some (.ins _ _ _) => True
  | some (.ext _) => True
  | _ => False
section
variable {P : Program} {w : World} {H : Hp} {h h' : Heap} {x e : Addr} {o' : HO}
/-- the object at e is changed: x itself, or the dict of the instance x -/
theorem HOk.write (ok : HOk P w H h) (mu : Mut (H x)) (he : e = x ∨ H e = some (.own x)) (k : ∀ b u, b ≠ e → h.get? b = some u → h'.get? b = some u) (heo : ∃ u, h'.get? e = some u)
    (new : ObjOk P w (upd H x o') h' x o') : HOk P w (upd H x o') h' := fun b u q => by
  have nown : ∀ c y, H c = some (.own y) → c ≠ x := fun c y r z => by subst z; rw [r] at mu; exact mu
  have ntup : ∀ c xs, H c = some (.tup xs) → c ≠ x := fun c xs r z => by subst z; rw [r] at mu; exact mu
  by_cases hb : b = x
  · subst hb; rw [upd_same] at q; cases q; exact new
  · rw [upd_ne hb] at q
    by_cases hbe : b = e
    · have q' : H b = some (.own x) := by
        rcases he with z | z
        · exact absurd (hbe.trans z) hb
        · rw [hbe]; exact z
      rw [q] at q'; cases q'
      obtain ⟨v, hv⟩ := heo
      exact ⟨v, by rw [hbe]; exact hv⟩
    · refine (ok b u q).stay (fun c v hc r => k c v ?_ r) (fun c r => by rw [upd_ne (nown c b r)]; exact r) fun c xs r => by rw [upd_ne (ntup c xs r)]; exact r
      rcases hc with rfl | hc
      · exact hbe
      · rintro rfl
        rcases he with z | z
        · exact nown c b hc z
        · rw [hc] at z; cases z; exact hb rfl
end

/-! ### kept unless tracked; of the frames at fs (the callers') the slots may change (an exception that passes writes there); of the records at ex (iterators) nothing is said -/
structure Un (fs ex : List Addr) (H H' : Hp) (h h' : Heap) : Prop where
  keep : ∀ b o, h.get? b = some o → H b = none → b ∉ fs → b ∉ ex → h'.get? b = some o
  slot : ∀ b o, h.get? b = some o → H b = none → b ∈ fs → b ∉ ex → ∃ sl, h'.get? b = some { o with slots := sl }
  free : ∀ b o, h.get? b = some o → H b = none → b ∉ ex → H' b = none
  there : ∀ b o, h.get? b = some o → b ∉ ex → ∃ o', h'.get? b = some o'
  tups : ∀ b xs, H b = some (.tup xs) → H' b = some (.tup xs)
  frzs : ∀ b o u, H b = some (.frz o u) → H' b = some (.frz o u)
  tbls : ∀ b ps, H b = some (.tbl ps) → ∃ more, H' b = some (.tbl (ps ++ more))
section
variable {fs fs' ex ex' : List Addr} {H H1 H2 : Hp} {h h1 h2 h' : Heap} {a x e : Addr} {o : HO}
theorem Un.any (u : Un fs ex H H1 h h1) {b : Addr} {ob : Obj} (q : h.get? b = some ob) (n : H b = none) (hx : b ∉ ex) : ∃ sl, h1.get? b = some { ob with slots := sl } := by
  by_cases hb : b ∈ fs
  · exact u.slot b ob q n hb hx
  · exact ⟨ob.slots, u.keep b ob q n hb hx⟩
theorem Un.kept (k : ∀ b u, h.get? b = some u → h'.get? b = some u) : Un fs ex H H h h' :=
  ⟨fun b ob q _ _ _ => k b ob q, fun b ob q _ _ _ => ⟨ob.slots, k b ob q⟩, fun _ _ _ n _ => n, fun b ob q _ => ⟨ob, k b ob q⟩, fun _ _ q => q, fun _ _ _ q => q, fun _ ps q => ⟨#[], by rw [q]; simp⟩⟩
theorem Un.refl : Un fs ex H H h h := Un.kept fun _ _ q => q
theorem Un.laid (k : ∀ b u, h.get? b = some u → h'.get? b = some u) (hp : h.objs.size ≤ a) (hn : H a = none) : Un fs ex H (upd H a o) h h' where
  keep := fun b u q _ _ _ => k b u q
  slot := fun b u q _ _ _ => ⟨u.slots, k b u q⟩
  free := fun b u q n _ => by rw [upd_ne (Nat.ne_of_lt (Nat.lt_of_lt_of_le (Heap.lt_size q) hp))]; exact n
  there := fun b u q _ => ⟨u, k b u q⟩
  tups := fun b xs q => by rw [upd_ne (ne_of_none q hn)]; exact q
  frzs := fun b u xs q => by rw [upd_ne (ne_of_none q hn)]; exact q
  tbls := fun b ps q => ⟨#[], by rw [upd_ne (ne_of_none q hn), q]; simp⟩
theorem Un.write (mu : Mut (H x)) (he : e = x ∨ H e = some (.own x)) (k : ∀ b u, b ≠ e → h.get? b = some u → h'.get? b = some u) (heo : ∃ u, h'.get? e = some u) : Un fs ex H (upd H x o) h h' := by
  have hx : ∀ b, H b = none → b ≠ x := fun b n z => by subst z; rw [n] at mu; exact mu
  have hb : ∀ b, H b = none → b ≠ e := fun b n z => by
    subst z
    rcases he with r | r
    · exact hx b n r
    · rw [n] at r; cases r
  have hm : ∀ b u, H b = some u → ¬ Mut (some u) → b ≠ x := fun b u q nm z => by subst z; rw [q] at mu; exact nm mu
  refine ⟨fun b u q n _ _ => k b u (hb b n) q, fun b u q n _ _ => ⟨u.slots, k b u (hb b n) q⟩, fun b u q n _ => by rw [upd_ne (hx b n)]; exact n, fun b u q _ => ?_,
    fun b xs q => by rw [upd_ne (hm b _ q fun z => z)]; exact q, fun b u xs q => by rw [upd_ne (hm b _ q fun z => z)]; exact q, fun b ps q => ⟨#[], by rw [upd_ne (hm b _ q fun z => z), q]; simp⟩⟩
  by_cases hbe : b = e
  · subst hbe; exact heo
  · exact ⟨u, k b u hbe q⟩
end

/-! ### the heap without what is tracked -/
def trk (h : Heap) (H : Hp) : List Addr := (List.range h.objs.size).filter fun a => (H a).isSome
def hidT (h : Heap) (H : Hp) : Heap := PySem.W.hideAll h (trk h H)
theorem hidT_size (h : Heap) (H : Hp) : (hidT h H).objs.size = h.objs.size := PySem.W.hideAll_size _ _
theorem hidT_get {h : Heap} {H : Hp} {b : Addr} {o : Obj} (e : h.get? b = some o) (n : H b = none) : (hidT h H).get? b = some o :=
  PySem.W.hideAll_get _ e fun hm => by
    have q : (H b).isSome = true := (List.mem_filter.mp hm).2
    rw [n] at q; simp at q
theorem of_hidT {h : Heap} {H : Hp} {b : Addr} {o : Obj} (e : (hidT h H).get? b = some o) : h.get? b = some o ∧ H b = none := by
  have e' : h.get? b = some o := PySem.W.of_hideAll (trk h H) e
  refine ⟨e', ?_⟩
  cases q : H b with
  | none => rfl
  | some x =>
    have hm : b ∈ trk h H := List.mem_filter.mpr ⟨List.mem_range.mpr (Heap.lt_size e'), by simp [q]⟩
    have z : (hidT h H).get? b = none := PySem.W.hideAll_none (trk h H) hm
    rw [z] at e; cases e

/-! ### OpenK's ledger, filled with every new object but one -/
def allNews (g h : Heap) (L : Addr) : List (Addr × Obj) := (List.range h.objs.size).filterMap fun a => if a = L ∨ (g.get? a).isSome = true then none else (h.get? a).map fun o => (a, o)
def rest (g h : Heap) (L d : Addr) : List (Addr × Obj) := (allNews g h L).filter fun p => decide (p.1 ≠ d)
end L2

namespace L2
open PySem PySem.Spec PyProof.Rows

/-- the module's facts, over the base: the heap at the law's entry without what is tracked there -/
structure Mod (K : PySem.W.Frag) (mg : Str → Option Value) (base : Heap) : Prop where
  kin : K.In base
  glob : base.Ns mainGlobals mg
  blt : ∃ mb, base.Ns builtinsNs mb ∧ ∀ x : Str, x ≠ "__name__" → mb x = bootBuiltins x
  nolimit : base.NoLimit

/-- the context: a def's body (or a comprehension's block) running. base: fixed through the whole law; s₀, H₀: the entry; outer: the frames whose slots others may change (a def's callers); stack: all frames that run;
   ex: iterators that were made ahead of the entry and are walked here (a comprehension's); fn: the names whose cells were made at the entry (a def: all; a comprehension's block: its own); calm: not within an except suite; pn: pins that every state bears; xe: what is wanted of an exception that leaves the code -/
structure Cx where
  prog : Program
  w : World
  K : PySem.W.Frag
  mg : Str → Option Value
  base : Heap
  A : Around
  N : List Str
  s₀ : Shared
  H₀ : Hp
  env : Env
  outer : List Env
  stack : List Env
  ex : List Addr
  fn : Str → Bool
  calm : Bool
  pn : List (Addr × Obj)
  xe : Value → Shared → Prop
/-- the callers' frames -/
def frs (l : List Env) : List Addr := l.filterMap (·.frame)
abbrev Cx.fs (X : Cx) : List Addr := frs X.outer

def Vis (sc : Scope) (x : Str) : Prop := sc.names.lookup x = some .local ∨ sc.names.lookup x = some .cell ∨ sc.names.lookup x = some .free
def Loc (sc : Scope) (x : Str) : Prop := sc.names.lookup x = some .local ∨ sc.names.lookup x = some .cell
def Look (env : Env) (h : Heap) (m : Str → Option Value) (x : Str) (u : Value) : Prop :=
  (env.kindOf x = some .local ∧ m x = some u) ∨ ((env.kindOf x = some .cell ∨ env.kindOf x = some .free) ∧ ∃ c, env.cells.lookup x = some c ∧ h.IsCell c (some u))

structure Cx.Ok (X : Cx) : Prop where
  mod : Mod X.K X.mg X.base
  kind : X.env.scope.kind = .function
  glob : X.env.globals = mainGlobals
  blt : X.env.builtins = builtinsNs
  above : X.s₀.heap.objs.size ≤ X.env.locals
  inj : ∀ x y c, X.env.cells.lookup x = some c → X.env.cells.lookup y = some c → x = y
  has : ∀ x, (X.env.kindOf x = some .cell ∨ X.env.kindOf x = some .free) → ∃ c, X.env.cells.lookup x = some c
  cab : ∀ x c, X.fn x = true → X.env.cells.lookup x = some c → X.s₀.heap.objs.size ≤ c
  hd : X.calm = true → X.A.handled = none
  frames : X.A.frames = some X.stack
  stk : X.stack = X.outer ∨ (X.stack = X.env :: X.outer ∧ X.env.frame = some X.env.locals)
  exf : ∀ b ∈ X.ex, b ≠ X.env.locals ∧ ∀ x c, X.env.cells.lookup x = some c → c ≠ b
  bs : ∀ b o, X.base.get? b = some o → X.s₀.heap.get? b = some o ∧ X.H₀ b = none
  bsz : X.base.objs.size ≤ X.s₀.heap.objs.size
  noex : ∀ b o, X.base.get? b = some o → b ∉ X.ex
  exfs : ∀ b ∈ X.ex, b ∉ X.fs
  funs : X.s₀.heap.FunFrames X.base X.outer
  frf : ∀ b ∈ X.fs, X.H₀ b = none

structure Inv (X : Cx) (pins : List (Addr × Obj)) (σ : List (Option V)) (H : Hp) (s : Shared) : Prop where
  ok : X.Ok
  os : s.os = X.s₀.os
  bare : AllBare s.gens
  base : Un X.fs X.ex X.H₀ H X.s₀.heap s.heap
  loc : ∃ m, s.heap.Ns X.env.locals m ∧ ∀ (i : Nat) (x : Str) (v : V), X.N[i]? = some x → σ[i]? = some (some v) → Vis X.env.scope x → ∃ u, RelV v u ∧ Look X.env s.heap m x u
  cell : ∀ x c, X.env.cells.lookup x = some c → ∃ v, s.heap.IsCell c v
  free : H X.env.locals = none
  freeC : ∀ x c, X.env.cells.lookup x = some c → H c = none
  pin : ∀ p ∈ X.pn ++ pins, s.heap.get? p.1 = some p.2 ∧ H p.1 = none ∧ p.1 ≠ X.env.locals ∧ p.1 ∉ X.fs ∧ ∀ v, p.2.data ≠ .cell v
  hok : HOk X.prog X.w H s.heap
  len : σ.length = X.N.length

section
variable {X : Cx} {pins : List (Addr × Obj)} {σ : List (Option V)} {H H' : Hp} {s : Shared} {h' : Heap}

theorem Cx.Ok.nofr (ok : X.Ok) {b : Addr} {o : Obj} (e : X.base.get? b = some o) : b ∉ X.fs := fun hb => by
  have := (ok.funs.mem hb).1
  rw [e] at this; cases this
theorem Inv.bs (I : Inv X pins σ H s) : ∀ b o, X.base.get? b = some o → s.heap.get? b = some o ∧ H b = none := fun b o e =>
  ⟨I.base.keep b o (I.ok.bs b o e).1 (I.ok.bs b o e).2 (I.ok.nofr e) (I.ok.noex b o e), I.base.free b o (I.ok.bs b o e).1 (I.ok.bs b o e).2 (I.ok.noex b o e)⟩
theorem Inv.bk (I : Inv X pins σ H s) : ∀ b o, X.base.get? b = some o → s.heap.get? b = some o := fun b o e => (I.bs b o e).1
theorem Inv.mod (I : Inv X pins σ H s) : Mod X.K X.mg X.base := I.ok.mod
theorem Inv.kIn (I : Inv X pins σ H s) : X.K.In s.heap := I.ok.mod.kin.keeps I.bk
theorem Inv.lt (I : Inv X pins σ H s) : X.env.locals < s.heap.objs.size := let ⟨_, hn, _⟩ := I.loc; hn.lt
theorem Inv.sz (I : Inv X pins σ H s) : X.s₀.heap.objs.size ≤ s.heap.objs.size := Nat.le_trans I.ok.above (Nat.le_of_lt I.lt)
theorem Inv.nofs (I : Inv X pins σ H s) {a : Addr} (h : s.heap.objs.size ≤ a) : a ∉ X.fs := fun hb => by
  obtain ⟨_, o, ho, _⟩ := I.ok.funs.mem hb
  exact absurd (Nat.lt_of_lt_of_le (Heap.lt_size ho) (Nat.le_trans I.sz h)) (Nat.lt_irrefl _)
theorem Inv.cne (I : Inv X pins σ H s) : ∀ x c, X.env.cells.lookup x = some c → c ≠ X.env.locals := fun x c e z => by
  obtain ⟨v, o, ho, hd⟩ := I.cell x c e
  obtain ⟨m, ⟨o', es, ep, ho', hd', _⟩, _⟩ := I.loc
  rw [z, ho'] at ho; cases ho; rw [hd'] at hd; cases hd
theorem Inv.funs (I : Inv X pins σ H s) : s.heap.FunFrames X.base X.outer := by
  have all : ∀ (l : List Env), (∀ b ∈ frs l, b ∈ X.fs) → X.s₀.heap.FunFrames X.base l → s.heap.FunFrames X.base l := by
    intro l
    induction l with
    | nil => intro _ _; trivial
    | cons env r ih =>
      intro hs hl
      obtain ⟨hk, ⟨L, o, hf, hn, ho, hd⟩, hr⟩ := hl
      have hL : L ∈ X.fs := hs L (by unfold frs; rw [List.filterMap_cons, hf]; exact List.mem_cons_self)
      obtain ⟨sl, e⟩ := I.base.slot L o ho (I.ok.frf L hL) hL fun z => I.ok.exfs L z hL
      exact ⟨hk, ⟨L, _, hf, hn, e, hd⟩, ih (fun b hb => hs b (by unfold frs; rw [List.filterMap_cons, hf]; exact List.mem_cons_of_mem _ hb)) hr⟩
  exact all X.outer (fun _ hb => hb) I.ok.funs

/-- the frames that run, for a call -/
theorem Inv.stack (I : Inv X pins σ H s) : s.heap.FunFrames X.base X.stack := by
  rcases I.ok.stk with e | ⟨e, hf⟩
  · rw [e]; exact I.funs
  · rw [e]
    obtain ⟨m, hn, _⟩ := I.loc
    refine .cons (by rw [I.ok.kind]; decide) hf hn ?_ I.funs
    exact Heap.get?_none_of_le (Nat.le_trans I.ok.bsz I.ok.above)
theorem Inv.stkSub (I : Inv X pins σ H s) : ∀ b ∈ frs X.stack, b ∈ X.env.locals :: X.fs := fun b hb => by
  rcases I.ok.stk with e | ⟨e, hf⟩
  · rw [e] at hb; exact List.mem_cons_of_mem _ hb
  · rw [e] at hb
    unfold frs at hb
    rw [List.filterMap_cons, hf] at hb
    exact hb
theorem Inv.stkFree (I : Inv X pins σ H s) : ∀ b ∈ frs X.stack, H b = none := fun b hb => by
  rcases List.mem_cons.mp (I.stkSub b hb) with e | hb
  · rw [e]; exact I.free
  · obtain ⟨_, o, ho, _⟩ := I.ok.funs.mem hb
    exact I.base.free b o ho (I.ok.frf b hb) fun z => I.ok.exfs b z hb

/-- THE STEP: the untracked objects but the frame and the records at ch are kept (the callers' frames up to slots), the frame's map is kept, the new abstract heap is held -/
theorem Inv.step {g' : Array GenState} {t' : Nat} {d' : Drawn} {ch : List Addr} (I : Inv X pins σ H s)
    (hch : ∀ b ∈ ch, (b ∈ X.ex ∨ X.s₀.heap.objs.size ≤ b) ∧ b ≠ X.env.locals ∧ (∀ x c, X.env.cells.lookup x = some c → c ≠ b) ∧ ∀ p ∈ X.pn ++ pins, p.1 ≠ b)
    (keep : ∀ b o, b ≠ X.env.locals → b ∉ X.fs → b ∉ ch → s.heap.get? b = some o → H b = none → h'.get? b = some o)
    (slot : ∀ b o, b ≠ X.env.locals → b ∈ X.fs → b ∉ ch → s.heap.get? b = some o → H b = none → ∃ sl, h'.get? b = some { o with slots := sl }) (free : ∀ b o, b ∉ ch → s.heap.get? b = some o → H b = none → H' b = none)
    (there : ∀ b o, b ∉ ch → s.heap.get? b = some o → ∃ o', h'.get? b = some o')
    (tups : ∀ b xs, H b = some (.tup xs) → H' b = some (.tup xs)) (frzs : ∀ b o u, H b = some (.frz o u) → H' b = some (.frz o u)) (tbls : ∀ b ps, H b = some (.tbl ps) → ∃ more, H' b = some (.tbl (ps ++ more)))
    (ns : ∀ m, s.heap.Ns X.env.locals m → h'.Ns X.env.locals m) (hok : HOk X.prog X.w H' h') (hg : AllBare g') :
    Inv X pins σ H' { s with heap := h', gens := g', drawn := d', toks := t' } := by
  have neL : ∀ b o, X.s₀.heap.get? b = some o → b ≠ X.env.locals := fun b o e => Nat.ne_of_lt (Nat.lt_of_lt_of_le (Heap.lt_size e) I.ok.above)
  have neC : ∀ b o, X.s₀.heap.get? b = some o → b ∉ X.ex → b ∉ ch := fun b o e hx hb => by
    rcases (hch b hb).1 with z | z
    · exact hx z
    · exact absurd (Nat.lt_of_lt_of_le (Heap.lt_size e) z) (Nat.lt_irrefl _)
  have cellK : ∀ x c, X.env.cells.lookup x = some c → ∀ v, s.heap.IsCell c v → h'.IsCell c v := fun x c e v ⟨o, ho, hd⟩ => by
    have nch : c ∉ ch := fun z => (hch c z).2.2.1 x c e rfl
    by_cases hc : c ∈ X.fs
    · obtain ⟨sl, q⟩ := slot c o (I.cne x c e) hc nch ho (I.freeC x c e)
      exact ⟨_, q, hd⟩
    · exact ⟨o, keep c o (I.cne x c e) hc nch ho (I.freeC x c e), hd⟩
  refine ⟨I.ok, I.os, hg, ⟨fun b o e n hb hx => ?_, fun b o e n hb hx => ?_, fun b o e n hx => ?_, fun b o e hx => ?_, fun b xs e => tups b xs (I.base.tups b xs e), fun b o xs e => frzs b o xs (I.base.frzs b o xs e), fun b ps e => ?_⟩, ?_, fun x c e => ?_, ?_, fun x c e => ?_, fun p hp => ?_, hok, I.len⟩
  · exact keep b o (neL b o e) hb (neC b o e hx) (I.base.keep b o e n hb hx) (I.base.free b o e n hx)
  · obtain ⟨sl, e1⟩ := I.base.slot b o e n hb hx
    obtain ⟨sl', e2⟩ := slot b _ (neL b o e) hb (neC b o e hx) e1 (I.base.free b o e n hx)
    exact ⟨sl', e2⟩
  · obtain ⟨o', e1⟩ := I.base.there b o e hx
    exact free b o' (neC b o e hx) e1 (I.base.free b o e n hx)
  · obtain ⟨o', e1⟩ := I.base.there b o e hx
    exact there b o' (neC b o e hx) e1
  · obtain ⟨m1, e1⟩ := I.base.tbls b ps e
    obtain ⟨m2, e2⟩ := tbls b _ e1
    exact ⟨m1 ++ m2, by rw [e2, Array.append_assoc]⟩
  · obtain ⟨m, hn, hl⟩ := I.loc
    refine ⟨m, ns m hn, fun i x v e1 e2 e3 => ?_⟩
    obtain ⟨u, r, l⟩ := hl i x v e1 e2 e3
    refine ⟨u, r, ?_⟩
    rcases l with l | ⟨k, c, e, z⟩
    · exact .inl l
    · exact .inr ⟨k, c, e, cellK x c e _ z⟩
  · obtain ⟨v, z⟩ := I.cell x c e
    exact ⟨v, cellK x c e v z⟩
  · obtain ⟨m, ⟨o, _, _, ho, _⟩, _⟩ := I.loc
    exact free _ o (fun z => (hch _ z).2.1 rfl) ho I.free
  · obtain ⟨v, o, ho, hd⟩ := I.cell x c e
    exact free c o (fun z => (hch c z).2.2.1 x c e rfl) ho (I.freeC x c e)
  · obtain ⟨e, n, ne, nf, d⟩ := I.pin p hp
    have nch : p.1 ∉ ch := fun z => (hch p.1 z).2.2.2 p hp rfl
    exact ⟨keep p.1 p.2 ne nf nch e n, free p.1 p.2 nch e n, ne, nf, d⟩
/-- .. where the frame's own object is kept too -/
theorem Inv.un {t' : Nat} (I : Inv X pins σ H s) (u : Un X.fs [] H H' s.heap h') (hok : HOk X.prog X.w H' h') : Inv X pins σ H' { s with heap := h', toks := t' } := by
  obtain ⟨m, ⟨o, es, ep, ho, r⟩, _⟩ := id I.loc
  obtain ⟨sl, hL⟩ := u.any ho I.free (by simp)
  exact I.step (g' := s.gens) (d' := s.drawn) (ch := []) (fun _ z => nomatch z) (fun b o _ hb _ e n => u.keep b o e n hb (by simp)) (fun b o _ hb _ e n => u.slot b o e n hb (by simp)) (fun b o _ e n => u.free b o e n (by simp)) (fun b o _ e => u.there b o e (by simp)) u.tups u.frzs u.tbls (fun m' hm => by
    obtain ⟨o', es', ep', ho', r'⟩ := hm
    rw [ho] at ho'; cases ho'
    exact ⟨_, es', ep', hL, r'⟩) hok I.bare
/-- behind a call (or a comprehension's block): the slots of this frame may have changed too, the records at ch may have turned -/
theorem Inv.call {g' : Array GenState} {t' : Nat} {d' : Drawn} {ch : List Addr} (I : Inv X pins σ H s) (u : Un (frs X.stack) ch H H' s.heap h') (hok : HOk X.prog X.w H' h') (hg : AllBare g')
    (hch : ∀ b ∈ ch, (b ∈ X.ex ∨ X.s₀.heap.objs.size ≤ b) ∧ b ≠ X.env.locals ∧ (∀ x c, X.env.cells.lookup x = some c → c ≠ b) ∧ ∀ p ∈ X.pn ++ pins, p.1 ≠ b) :
    Inv X pins σ H' { s with heap := h', gens := g', drawn := d', toks := t' } := by
  obtain ⟨m, ⟨o, es, ep, ho, r⟩, _⟩ := id I.loc
  obtain ⟨sl, hL⟩ := u.any ho I.free fun z => (hch _ z).2.1 rfl
  exact I.step (ch := ch) hch (fun b o hL hb hc e n => u.keep b o e n (fun z => (List.mem_cons.mp (I.stkSub b z)).elim hL hb) hc) (fun b o _ _ hc e n => u.any e n hc) (fun b o hc e n => u.free b o e n hc) (fun b o hc e => u.there b o e hc) u.tups u.frzs u.tbls (fun m' hm => by
    obtain ⟨o', es', ep', ho', r'⟩ := hm
    rw [ho] at ho'; cases ho'
    exact ⟨_, es', ep', hL, r'⟩) hok hg
/-- an untracked record of ours (an iterator) has turned -/
theorem Inv.turned {t' : Nat} {it : Addr} (I : Inv X pins σ H s) (k : ∀ b o, b ≠ it → s.heap.get? b = some o → h'.get? b = some o) (hn : H it = none) (hL : it ≠ X.env.locals)
    (h1 : it ∈ X.ex ∨ X.s₀.heap.objs.size ≤ it) (h2 : ∀ x c, X.env.cells.lookup x = some c → c ≠ it) (h3 : ∀ p ∈ X.pn ++ pins, p.1 ≠ it) : Inv X pins σ H { s with heap := h', toks := t' } := by
  have nit : ∀ b u, H b = some u → b ≠ it := fun b u e z => by rw [z, hn] at e; cases e
  refine I.step (g' := s.gens) (d' := s.drawn) (ch := [it]) (fun b hb => ?_) (fun b o _ _ hc e _ => k b o (fun z => hc (by simp [z])) e) (fun b o _ _ hc e _ => ⟨o.slots, k b o (fun z => hc (by simp [z])) e⟩) (fun _ _ _ _ n => n)
    (fun b o hc e => ⟨o, k b o (fun z => hc (by simp [z])) e⟩) (fun _ _ e => e) (fun _ _ _ e => e) (fun b ps e => ⟨#[], by rw [e]; simp⟩) (fun m hm => ?_) (fun b u e => ?_) I.bare
  · have e : b = it := by simpa using hb
    subst e
    exact ⟨h1, hL, h2, h3⟩
  · obtain ⟨o, es, ep, ho, r⟩ := hm
    exact ⟨o, es, ep, k _ o (Ne.symm hL) ho, r⟩
  · refine (I.hok b u e).stay (fun c v hc q => k c v ?_ q) (fun _ q => q) fun _ _ q => q
    rcases hc with z | z
    · rw [z]; exact nit b u e
    · exact nit c _ z
theorem Inv.tok (I : Inv X pins σ H s) (t : Nat) : Inv X pins σ H { s with toks := t } := I.un (h' := s.heap) (t' := t) Un.refl I.hok
/-- all objects kept -/
theorem Inv.kept {t' : Nat} (I : Inv X pins σ H s) (k : ∀ b u, s.heap.get? b = some u → h'.get? b = some u) : Inv X pins σ H { s with heap := h', toks := t' } := I.un (Un.kept k) (I.hok.kept k)
/-- a new object laid and tracked -/
theorem Inv.laid {a : Addr} {o : HO} {t' : Nat} (I : Inv X pins σ H s) (k : ∀ b u, s.heap.get? b = some u → h'.get? b = some u) (hp : s.heap.objs.size ≤ a) (new : ObjOk X.prog X.w (upd H a o) h' a o) :
    Inv X pins σ (upd H a o) { s with heap := h', toks := t' } := I.un (Un.laid k hp (I.hok.fresh hp)) (I.hok.laid k hp new)
/-- an object written -/
theorem Inv.write {x e : Addr} {o : HO} {t' : Nat} (I : Inv X pins σ H s) (mu : Mut (H x)) (he : e = x ∨ H e = some (.own x)) (k : ∀ b u, b ≠ e → s.heap.get? b = some u → h'.get? b = some u) (heo : ∃ u, h'.get? e = some u)
    (new : ObjOk X.prog X.w (upd H x o) h' x o) : Inv X pins σ (upd H x o) { s with heap := h', toks := t' } := I.un (Un.write mu he k heo) (I.hok.write mu he k heo new)
theorem Inv.pins_of {pins' : List (Addr × Obj)} (I : Inv X pins σ H s) (h : ∀ p ∈ pins', s.heap.get? p.1 = some p.2 ∧ H p.1 = none ∧ p.1 ≠ X.env.locals ∧ p.1 ∉ X.fs ∧ ∀ v, p.2.data ≠ .cell v) : Inv X pins' σ H s :=
  ⟨I.ok, I.os, I.bare, I.base, I.loc, I.cell, I.free, I.freeC, fun p hp => (List.mem_append.mp hp).elim (fun z => I.pin p (List.mem_append_left _ z)) (h p), I.hok, I.len⟩

theorem nodup_ix {N : List Str} (hN : N.Nodup) {i j : Nat} {x : Str} (a : N[i]? = some x) (b : N[j]? = some x) : i = j := by
  obtain ⟨h1, e1⟩ := List.getElem?_eq_some_iff.mp a
  obtain ⟨h2, e2⟩ := List.getElem?_eq_some_iff.mp b
  exact (List.getElem_inj hN).mp (e1.trans e2.symm)

/-- a name is stored; what changed -/
theorem store_ok2 {M : Model} {A : Around} {E : Value → Shared → Prop} {i : Nat} {x : Str} {v : V} {u : Value} {Q : Unit → Shared → Prop} (I : Inv X pins σ H s) (hN : X.N.Nodup) (hi : X.N[i]? = some x) (hx : Loc X.env.scope x) (r : RelV v u)
    (h : ∀ s', Inv X pins (σ.set i (some v)) H s' → (∃ a, Heap.SameBut a s.heap s'.heap ∧ (a = X.env.locals ∨ X.env.cells.lookup x = some a)) → Q () s') (hf : X.fn x = true ∨ X.env.scope.names.lookup x = some .local := by first | exact .inl rfl | exact .inr rfl | assumption) : wpAny M A (storeName X.env x u) Q E s := by
  obtain ⟨m, hn, hl⟩ := id I.loc
  have hcls : (X.env.scope.kind == .class || (X.env.scope.kind == .module && X.env.locals != X.env.globals)) = false := by rw [I.ok.kind]; rfl
  have hiσ : i < σ.length := by rw [I.len]; exact (List.getElem?_eq_some_iff.mp hi).1
  have cne := I.cne
  have tracked : ∀ {a : Addr} {h' : Heap}, (∃ o, s.heap.get? a = some o ∧ H a = none) → Heap.SameBut a s.heap h' → HOk X.prog X.w H h' := fun {a h'} ha hs b ob e => by
    obtain ⟨_, _, hfree⟩ := ha
    refine (I.hok b ob e).stay (fun c w' hc q => (hs.2 c ?_).trans q) (fun _ q => q) fun _ _ q => q
    rintro rfl
    rcases hc with rfl | hc
    · rw [hfree] at e; cases e
    · rw [hfree] at hc; cases hc
  rcases hx with hk | hk
  · refine wpAny_storeName_local hk hn (fun h' hn' hs => ?_) hcls
    obtain ⟨oL, _, _, hoL, _⟩ := id hn
    refine h _ ⟨I.ok, I.os, I.bare, ⟨fun b o e n hb hx => ?_, fun b o e n hb hx => ?_, I.base.free, fun b o e hx => ?_, I.base.tups, I.base.frzs, I.base.tbls⟩, ⟨_, hn', fun j y v' e1 e2 e3 => ?_⟩, fun y c e => ?_, I.free, I.freeC, fun p hp => ?_, tracked ⟨oL, hoL, I.free⟩ hs, by simpa using I.len⟩ ⟨_, hs, .inl rfl⟩
    · exact (hs.2 b (Nat.ne_of_lt (Nat.lt_of_lt_of_le (Heap.lt_size e) I.ok.above))).trans (I.base.keep b o e n hb hx)
    · obtain ⟨sl, e1⟩ := I.base.slot b o e n hb hx
      exact ⟨sl, (hs.2 b (Nat.ne_of_lt (Nat.lt_of_lt_of_le (Heap.lt_size e) I.ok.above))).trans e1⟩
    · obtain ⟨o', e1⟩ := I.base.there b o e hx
      exact ⟨o', (hs.2 b (Nat.ne_of_lt (Nat.lt_of_lt_of_le (Heap.lt_size e) I.ok.above))).trans e1⟩
    · by_cases hj : j = i
      · subst hj
        rw [hi] at e1; cases e1
        rw [List.getElem?_set_self hiσ] at e2
        cases e2
        exact ⟨u, r, .inl ⟨hk, by simp⟩⟩
      · rw [List.getElem?_set_ne (Ne.symm hj)] at e2
        obtain ⟨u', r', q⟩ := hl j y v' e1 e2 e3
        refine ⟨u', r', ?_⟩
        rcases q with ⟨k, e⟩ | ⟨k, c, e, z⟩
        · refine .inl ⟨k, ?_⟩
          have : y ≠ x := fun e => hj (nodup_ix hN e1 (e ▸ hi))
          simp [this, e]
        · exact .inr ⟨k, c, e, z.sameBut hs (cne y c e)⟩
    · obtain ⟨w', z⟩ := I.cell y c e
      exact ⟨w', z.sameBut hs (cne y c e)⟩
    · obtain ⟨e, n, ne, nf, d⟩ := I.pin p hp
      exact ⟨(hs.2 p.1 ne).trans e, n, ne, nf, d⟩
  · have hfn : X.fn x = true := by
      rcases hf with z | z
      · exact z
      · rw [z] at hk; cases hk
    obtain ⟨c, hc⟩ := I.ok.has x (.inl hk)
    obtain ⟨w', z⟩ := I.cell x c hc
    refine wpAny_storeName_cell I.ok.kind hk hc z (fun h' hc' hs => ?_)
    obtain ⟨oc, hoc, hocd⟩ := id z
    refine h { s with heap := h' } ⟨I.ok, I.os, I.bare, ⟨fun b o e n hb hx => ?_, fun b o e n hb hx => ?_, I.base.free, fun b o e hx => ?_, I.base.tups, I.base.frzs, I.base.tbls⟩, ⟨m, hn.sameBut hs (Ne.symm (cne x c hc)), fun j y v' e1 e2 e3 => ?_⟩, fun y c' e => ?_, I.free, I.freeC, fun p hp => ?_, tracked ⟨oc, hoc, I.freeC x c hc⟩ hs, by simpa using I.len⟩ ⟨c, hs, .inr hc⟩
    · exact (hs.2 b (Nat.ne_of_lt (Nat.lt_of_lt_of_le (Heap.lt_size e) (I.ok.cab x c hfn hc)))).trans (I.base.keep b o e n hb hx)
    · obtain ⟨sl, e1⟩ := I.base.slot b o e n hb hx
      exact ⟨sl, (hs.2 b (Nat.ne_of_lt (Nat.lt_of_lt_of_le (Heap.lt_size e) (I.ok.cab x c hfn hc)))).trans e1⟩
    · obtain ⟨o', e1⟩ := I.base.there b o e hx
      exact ⟨o', (hs.2 b (Nat.ne_of_lt (Nat.lt_of_lt_of_le (Heap.lt_size e) (I.ok.cab x c hfn hc)))).trans e1⟩
    · by_cases hj : j = i
      · subst hj
        rw [hi] at e1; cases e1
        rw [List.getElem?_set_self hiσ] at e2
        cases e2
        exact ⟨u, r, .inr ⟨.inl hk, c, hc, hc'⟩⟩
      · rw [List.getElem?_set_ne (Ne.symm hj)] at e2
        obtain ⟨u', r', q⟩ := hl j y v' e1 e2 e3
        refine ⟨u', r', ?_⟩
        rcases q with q | ⟨k, c', e, z'⟩
        · exact .inl q
        · refine .inr ⟨k, c', e, z'.sameBut hs ?_⟩
          rintro rfl
          exact hj (nodup_ix hN e1 (I.ok.inj _ _ _ e hc ▸ hi))
    · by_cases hcc : c' = c
      · subst hcc; exact ⟨_, hc'⟩
      · obtain ⟨w2, z2⟩ := I.cell y c' e
        exact ⟨w2, z2.sameBut hs hcc⟩
    · obtain ⟨e, n, ne, nf, d⟩ := I.pin p hp
      refine ⟨(hs.2 p.1 ?_).trans e, n, ne, nf, d⟩
      intro q
      rw [q, hoc] at e
      have q' : oc = p.2 := Option.some.inj e
      exact d w' (by rw [← q']; exact hocd)
theorem store_ok {M : Model} {A : Around} {E : Value → Shared → Prop} {i : Nat} {x : Str} {v : V} {u : Value} {Q : Unit → Shared → Prop} (I : Inv X pins σ H s) (hN : X.N.Nodup) (hi : X.N[i]? = some x) (hx : Loc X.env.scope x) (r : RelV v u)
    (h : ∀ s', Inv X pins (σ.set i (some v)) H s' → Q () s') (hf : X.fn x = true ∨ X.env.scope.names.lookup x = some .local := by first | exact .inl rfl | exact .inr rfl | assumption) : wpAny M A (storeName X.env x u) Q E s :=
  store_ok2 I hN hi hx r (fun s' I' _ => h s' I') hf
/-- behind a call or a block, the state as it is -/
theorem Inv.call' {s' : Shared} {ch : List Addr} (I : Inv X pins σ H s) (ho : s'.os = s.os) (u : Un (frs X.stack) ch H H' s.heap s'.heap) (hok : HOk X.prog X.w H' s'.heap) (hg : AllBare s'.gens)
    (hch : ∀ b ∈ ch, (b ∈ X.ex ∨ X.s₀.heap.objs.size ≤ b) ∧ b ≠ X.env.locals ∧ (∀ x c, X.env.cells.lookup x = some c → c ≠ b) ∧ ∀ p ∈ X.pn ++ pins, p.1 ≠ b) : Inv X pins σ H' s' := by
  obtain ⟨h', g', d', t', o'⟩ := s'
  have e : o' = s.os := ho
  subst e
  exact I.call (g' := g') (t' := t') (d' := d') u hok hg hch
end

/-! ### the judgements -/
/-- an exception: its class, its own dict's address (where it has one), the abstract heap behind it -/
abbrev XK := Value → Option Addr → Hp → Prop
abbrev St := List (Option V)
abbrev VK := V → Hp → Prop
/-- an expression's reading; a test's; an argument list's -/
abbrev TE := St → Hp → VK → Prop
abbrev TT := St → Hp → (Bool → Hp → Prop) → Prop
abbrev TA := St → Hp → (List V → Hp → Prop) → Prop
/-- what is wanted behind a statement -/
structure Ends where
  nx : St → Hp → Prop
  rt : VK
  bk : St → Hp → Prop := fun _ _ => False
  ct : St → Hp → Prop := fun _ _ => False
abbrev TS := Ends → St → Hp → Prop

def EP (X : Cx) (pins : List (Addr × Obj)) (σ : St) (Q : VK) (u : Value) (s' : Shared) : Prop := ∃ v H', Inv X pins σ H' s' ∧ RelV v u ∧ Q v H'
def TP (X : Cx) (pins : List (Addr × Obj)) (σ : St) (Q : Bool → Hp → Prop) (b : Bool) (s' : Shared) : Prop := ∃ H', Inv X pins σ H' s' ∧ Q b H'
def AP (X : Cx) (pins : List (Addr × Obj)) (σ : St) (Q : List V → Hp → Prop) (us : List Value) (s' : Shared) : Prop := ∃ vs H', Inv X pins σ H' s' ∧ Vals vs us ∧ Q vs H'
def SP (X : Cx) (pins : List (Addr × Obj)) (D : Ends) (f : Flow) (s' : Shared) : Prop :=
  match f with
  | .next => ∃ σ' H', Inv X pins σ' H' s' ∧ D.nx σ' H'
  | .brk => ∃ σ' H', Inv X pins σ' H' s' ∧ D.bk σ' H'
  | .cont => ∃ σ' H', Inv X pins σ' H' s' ∧ D.ct σ' H'
  | .ret u => ∃ v σ' H', Inv X pins σ' H' s' ∧ RelV v u ∧ D.rt v H'

def PE (X : Cx) (e : Expr) (t : TE) : Prop :=
  ∀ (pins : List (Addr × Obj)) (s : Shared) (σ : St) (H : Hp) (Q : VK), Inv X pins σ H s → t σ H Q → wpAny (model X.prog X.w) X.A (eval e X.env) (EP X pins σ Q) X.xe s
def PT (X : Cx) (e : Expr) (t : TT) : Prop :=
  ∀ (pins : List (Addr × Obj)) (s : Shared) (σ : St) (H : Hp) (Q : Bool → Hp → Prop), Inv X pins σ H s → t σ H Q → wpAny (model X.prog X.w) X.A (isTrue e X.env (eval e X.env)) (TP X pins σ Q) X.xe s
/-- a test whatever its 'whole' is (and, or) -/
def PW (X : Cx) (e : Expr) (t : TT) : Prop :=
  ∀ (whole : Sem Value) (pins : List (Addr × Obj)) (s : Shared) (σ : St) (H : Hp) (Q : Bool → Hp → Prop), Inv X pins σ H s → t σ H Q → wpAny (model X.prog X.w) X.A (isTrue e X.env whole) (TP X pins σ Q) X.xe s
theorem PW.pt {X : Cx} {e : Expr} {t : TT} (h : PW X e t) : PT X e t := h _
/-- an argument list (no star), from the left -/
def PA (X : Cx) (es : List Expr) (t : TA) : Prop :=
  ∀ (pos : Pos) (pins : List (Addr × Obj)) (s : Shared) (σ : St) (H : Hp) (Q : List V → Hp → Prop), Inv X pins σ H s → t σ H Q → wpAny (model X.prog X.w) X.A (spliced (backTo pos (starEach es X.env))) (AP X pins σ Q) X.xe s
def PS (X : Cx) (st : Stmt) (t : TS) : Prop :=
  ∀ (pins : List (Addr × Obj)) (s : Shared) (σ : St) (H : Hp) (D : Ends), Inv X pins σ H s → t D σ H → wpAny (model X.prog X.w) X.A (exec st X.env) (SP X pins D) X.xe s
def PSs (X : Cx) (st : List Stmt) (t : TS) : Prop :=
  ∀ (pins : List (Addr × Obj)) (s : Shared) (σ : St) (H : Hp) (D : Ends), Inv X pins σ H s → t D σ H → wpAny (model X.prog X.w) X.A (execs st X.env) (SP X pins D) X.xe s
/-- weaken the end -/
theorem thn {α : Type} {t : Sem α} {Q Q' : α → Shared → Prop} {M : Model} {A : Around} {E : Value → Shared → Prop} {s : Shared} (h : wpAny M A t Q E s) (hQ : ∀ a s, Q a s → Q' a s) : wpAny M A t Q' E s := wpAny_mono h hQ fun _ _ x => x
end L2

namespace L2
open PySem PySem.Spec PyProof.Rows
section
variable {X : Cx}

/-! ### names and constants -/
def tVar (i : Nat) : TE := fun σ H Q => ∃ v, σ[i]? = some (some v) ∧ Q v H
def tC (v : V) : TE := fun _ H Q => Q v H
theorem pe_var {i : Nat} {x : Str} {pos : Pos} (hN : X.N[i]? = some x) (hv : Vis X.env.scope x) (hd : (x == ("__debug__" : Str)) = false := by decide) (hcd : (x == ("__classdict__" : Str)) = false := by decide) : PE X (.Name x pos) (tVar i) := by
  intro pins s σ H Q I h
  obtain ⟨v, e, h⟩ := h
  obtain ⟨m, hn, hl⟩ := I.loc
  obtain ⟨u, r, l⟩ := hl i x v hN e hv
  have fin : EP X pins σ Q u s := ⟨v, H, I, r, h⟩
  rcases l with ⟨hk, hm⟩ | ⟨hk, c, hc, hcell⟩
  · exact wpAny_Name (wpAny_loadName_local I.ok.kind hk hn hm fin) hd
  · rcases hk with hk | hk
    · exact wpAny_Name (wpAny_loadName_cell I.ok.kind hk hc hcell fin) hd
    · exact wpAny_Name (wpAny_loadName_free I.ok.kind hk hc hcell fin hcd) hd
theorem pe_int {i j pos} : PE X (.Constant (.int i) j pos) (tC (.int i)) := fun _ _ _ H _ I h => wpAny_Constant_int ⟨.int i, H, I.tok _, ⟨_, rfl⟩, h⟩
theorem pe_bl {b j pos} : PE X (.Constant (.bool b) j pos) (tC (.bl b)) := fun _ _ _ H _ I h => Constant_bool ⟨.bl b, H, I, rfl, h⟩
theorem pe_non {j pos} : PE X (.Constant .none j pos) (tC .non) := fun _ _ _ H _ I h => Constant_none ⟨.non, H, I, rfl, h⟩
theorem pe_str {x j pos} : PE X (.Constant (.str x) j pos) (tC (.str x)) := fun _ _ _ H _ I h => Calls.Constant_str ⟨.str x, H, I.tok _, ⟨_, rfl⟩, h⟩

/-- a global name of the def -/
def Gl (X : Cx) (x : Str) : Prop := X.env.kindOf x = some .globalImplicit
theorem ld_glob {E : Value → Shared → Prop} {pins : List (Addr × Obj)} {s : Shared} {σ : St} {H : Hp} {x : Str} {u : Value} {pos : Pos} {Q : Value → Shared → Prop} (I : Inv X pins σ H s) (hg : Gl X x) (hm : X.mg x = some u) (h : Q u s)
    (hd : (x == ("__debug__" : Str)) = false := by decide) : wpAny (model X.prog X.w) X.A (eval (.Name x pos) X.env) Q E s :=
  Calls.Name_function_global I.ok.kind hg (Calls.loadGlobal_global (by rw [I.ok.glob]; exact I.mod.glob.keeps I.bk) hm h) hd
theorem ld_blt {E : Value → Shared → Prop} {pins : List (Addr × Obj)} {s : Shared} {σ : St} {H : Hp} {x : Str} {u : Value} {pos : Pos} {Q : Value → Shared → Prop} (I : Inv X pins σ H s) (hg : Gl X x) (hm : X.mg x = none) (hv : bootBuiltins x = some u) (h : Q u s)
    (hn : x ≠ "__name__" := by decide) (hd : (x == ("__debug__" : Str)) = false := by decide) : wpAny (model X.prog X.w) X.A (eval (.Name x pos) X.env) Q E s := by
  obtain ⟨mb, h1, h2⟩ := I.mod.blt
  exact Calls.Name_function_global I.ok.kind hg (Calls.loadGlobal_builtin (by rw [I.ok.glob]; exact I.mod.glob.keeps I.bk) hm (by rw [I.ok.blt]; exact h1.keeps I.bk) ((h2 x hn).trans hv) h) hd
/-- a module's constant, a class, a function, as a value -/
theorem pe_glob {x : Str} {v : V} {u : Value} {pos : Pos} (hg : Gl X x) (hm : X.mg x = some u) (r : RelV v u) (hd : (x == ("__debug__" : Str)) = false := by decide) : PE X (.Name x pos) (tC v) :=
  fun _ _ _ H _ I h => ld_glob I hg hm ⟨v, H, I, r, h⟩ hd
theorem pe_bltn {x : Str} {v : V} {u : Value} {pos : Pos} (hg : Gl X x) (hm : X.mg x = none) (hv : bootBuiltins x = some u) (r : RelV v u) (hn : x ≠ "__name__" := by decide) (hd : (x == ("__debug__" : Str)) = false := by decide) : PE X (.Name x pos) (tC v) :=
  fun _ _ _ H _ I h => ld_blt I hg hm hv ⟨v, H, I, r, h⟩ hn hd

/-! ### arithmetic -/
variable {a b : Expr} {ta tb : TE} {pos : Pos}
/-! ### comparisons -/
def PC (X : Cx) (op : CmpOp) (a b : Expr) (t : TE) : Prop :=
  ∀ (pins : List (Addr × Obj)) (s : Shared) (σ : St) (H : Hp) (Q : VK), Inv X pins σ H s → t σ H Q →
    wpAny (model X.prog X.w) X.A (eval a X.env) (fun v s₁ => wpAny (model X.prog X.w) X.A (eval b X.env) (fun u s₂ => wpAny (model X.prog X.w) X.A (compareOp op v u) (EP X pins σ Q) X.xe s₂) X.xe s₁) X.xe s
/-- a comparison as a value, as a test -/
def tB (t : TE) : TT := fun σ H Q => t σ H fun x H1 => ∃ c, x = .bl c ∧ Q c H1
theorem pt_cmp {op : CmpOp} {t : TE} (h : PC X op a b t) (h1 : behindInMarks op b = false := by first | exact nobehind _ (by decide) (by decide) | rfl) : PT X (.Compare a [op] [b] pos) (tB t) := by
  intro pins s σ H Q I hw
  refine wpAny_isTrue_Compare1 (thn (h pins s σ H _ I hw) fun v s1 h1 => thn h1 fun u s2 h2 => thn h2 fun c s3 ⟨x, H1, I1, r1, q1⟩ => ?_) h1
  obtain ⟨d, rfl, q⟩ := q1
  cases r1
  exact wpAny_truthy_bool ⟨H1, I1, q⟩
/-- an expression whose value is a bool, as a test -/
theorem pt_val {e : Expr} {t : TE} (h : PE X e t) (he : ∀ whole, isTrue e X.env whole = (do let v ← whole; standAt e.pos; holding [v] (truthy v)) := by intro _; rfl) : PT X e (tB t) := by
  intro pins s σ H Q I hw
  refine isTrue_plain (thn (h pins s σ H _ I hw) fun v s1 ⟨x, H1, I1, r1, q1⟩ => ?_) (he _)
  obtain ⟨d, rfl, q⟩ := q1
  cases r1
  exact wpAny_truthy_bool ⟨H1, I1, q⟩

/-! ### and, or, not -/
variable {tA tB' : TT} {rest : List Expr}
def tAnd (t u : TT) : TT := fun σ H Q => t σ H fun c H1 => if c = true then u σ H1 Q else Q false H1
def tOr (t u : TT) : TT := fun σ H Q => t σ H fun c H1 => if c = true then Q true H1 else u σ H1 Q
def tNot (t : TT) : TT := fun σ H Q => t σ H fun c H1 => Q (!c) H1
theorem pw_and1 (ha : PT X a tA) : PW X (.BoolOp .And [a] pos) tA := by
  intro wh pins s σ H Q I h
  refine isTrue_and (thn (ha pins s σ H Q I h) fun c s1 e => ?_)
  cases c with
  | true => exact isTrue_and_nil e
  | false => exact e
theorem pw_or1 (ha : PT X a tA) : PW X (.BoolOp .Or [a] pos) tA := by
  intro wh pins s σ H Q I h
  refine isTrue_or (thn (ha pins s σ H Q I h) fun c s1 e => ?_)
  cases c with
  | false => exact isTrue_or_nil e
  | true => exact e
theorem pw_and (ha : PT X a tA) (hb : PW X (.BoolOp .And (b :: rest) pos) tB') : PW X (.BoolOp .And (a :: b :: rest) pos) (tAnd tA tB') := by
  intro wh pins s σ H Q I h
  refine isTrue_and (thn (ha pins s σ H _ I h) fun c s1 ⟨H1, I1, q1⟩ => ?_)
  cases c with
  | true => exact hb wh pins s1 σ H1 Q I1 q1
  | false => exact ⟨H1, I1, q1⟩
theorem pw_or (ha : PT X a tA) (hb : PW X (.BoolOp .Or (b :: rest) pos) tB') : PW X (.BoolOp .Or (a :: b :: rest) pos) (tOr tA tB') := by
  intro wh pins s σ H Q I h
  refine isTrue_or (thn (ha pins s σ H _ I h) fun c s1 ⟨H1, I1, q1⟩ => ?_)
  cases c with
  | true => exact ⟨H1, I1, q1⟩
  | false => exact hb wh pins s1 σ H1 Q I1 q1
theorem pt_not (ha : PT X a tA) : PT X (.UnaryOp .Not a pos) (tNot tA) := by
  intro pins s σ H Q I h
  exact isTrue_not (ha pins s σ H (fun c H1 => Q (!c) H1) I h)
/-- .. as values (bools) -/
def tAndV (ta tb : TE) : TE := fun σ H Q => ta σ H fun x H1 => ∃ c, x = .bl c ∧ if c = true then tb σ H1 Q else Q (.bl false) H1
def tNotV (ta : TE) : TE := fun σ H Q => ta σ H fun x H1 => ∃ c, x = .bl c ∧ Q (.bl (!c)) H1
theorem pe_one {op} {t : TE} (h : PE X a t) : PE X (.BoolOp op [a] pos) t := fun pins s σ H Q I hw => BoolOp_one (h pins s σ H Q I hw)
theorem pe_and (ha : PE X a ta) (hb : PE X (.BoolOp .And (b :: rest) pos) tb) : PE X (.BoolOp .And (a :: b :: rest) pos) (tAndV ta tb) := by
  intro pins s σ H Q I h
  refine BoolOp_and (thn (ha pins s σ H _ I h) fun v s1 ⟨x, H1, I1, r1, q1⟩ => ?_)
  obtain ⟨c, rfl, q1⟩ := q1
  cases r1
  refine wpAny_truthy_bool ?_
  cases c with
  | true => exact hb pins s1 σ H1 Q I1 q1
  | false => exact ⟨.bl false, H1, I1, rfl, q1⟩
theorem pe_not (ha : PE X a ta) : PE X (.UnaryOp .Not a pos) (tNotV ta) := by
  intro pins s σ H Q I h
  refine UnaryOp_ (thn (ha pins s σ H _ I h) fun v s1 ⟨x, H1, I1, r1, q1⟩ => ?_)
  obtain ⟨c, rfl, q1⟩ := q1
  cases r1
  exact not_of (wpAny_truthy_bool ⟨.bl (!c), H1, I1, rfl, q1⟩)
/-- a if t else b -/
def tIf (t : TT) (ta tb : TE) : TE := fun σ H Q => t σ H fun c H1 => if c = true then ta σ H1 Q else tb σ H1 Q
theorem pe_ifExp {c : Expr} (hc : PT X c tA) (ha : PE X a ta) (hb : PE X b tb) : PE X (.IfExp c a b pos) (tIf tA ta tb) := by
  intro pins s σ H Q I h
  refine wpAny_IfExp (thn (hc pins s σ H _ I h) fun d s1 ⟨H1, I1, q1⟩ => ?_)
  cases d with
  | true => exact ha pins s1 σ H1 Q I1 q1
  | false => exact hb pins s1 σ H1 Q I1 q1
end
end L2

namespace L2
open PySem PySem.Spec PyProof.Rows

/-! ### a list, a tuple that is read: tracked, frozen, or an object of the module -/
def SqL (K : PySem.W.Frag) (H : Hp) (a : Addr) (xs : List V) : Prop :=
  Rd H a (.lst xs) ∨
    ∃ (o : Obj) (its : Array Value) (n : Nat), K.lookup a = some o ∧ o.cls = .type "list" ∧ o.dict = none ∧ o.data = .seq its n ∧ its.size ≤ sizeLine ∧ Vals xs its.toList
def SqT (K : PySem.W.Frag) (H : Hp) (a : Addr) (xs : List V) : Prop :=
  Rd H a (.tup xs) ∨
    ∃ (o : Obj) (its : Array Value) (n : Nat), K.lookup a = some o ∧ o.cls = .type "tuple" ∧ o.data = .seq its n ∧ its.size ≤ sizeLine ∧ Vals xs its.toList
def absV : Value → Option V
  | .none => some .non
  | .bool b => some (.bl b)
  | .int i _ => some (.int i)
  | .str x _ => some (.str x)
  | .bytes b _ => some (.byt b)
  | .float b _ => some (.flt b)
  | .ref a => some (.ref a)
  | .type n => some (.ty n)
  | _ => none
theorem RelV.abs {x : V} {u : Value} (r : RelV x u) : absV u = some x := by
  cases x with
  | non => cases r; rfl
  | bl _ => cases r; rfl
  | int _ => obtain ⟨t, rfl⟩ := r; rfl
  | str _ => obtain ⟨t, rfl⟩ := r; rfl
  | byt _ => obtain ⟨t, rfl⟩ := r; rfl
  | flt _ => obtain ⟨t, rfl⟩ := r; rfl
  | ref _ => cases r; rfl
  | ty _ => cases r; rfl
theorem RelV.inj {x y : V} {u : Value} (r : RelV x u) (q : RelV y u) : x = y := Option.some.inj (r.abs.symm.trans q.abs)
theorem Vals.inj : ∀ {xs ys : List V} {us : List Value}, Vals xs us → Vals ys us → xs = ys
  | _, _, _, .nil, .nil => rfl
  | _, _, _, .cons r t, .cons r' t' => by rw [r.inj r', Vals.inj t t']
section
variable {X : Cx} {pins : List (Addr × Obj)} {σ : St} {H : Hp} {s : Shared} {a : Addr} {xs ys : List V}
theorem SqL.of {K : PySem.W.Frag} (h : H a = some (.lst xs)) : SqL K H a xs := .inl (.inl h)
theorem SqT.of {K : PySem.W.Frag} (h : H a = some (.tup xs)) : SqT K H a xs := .inl (.inl h)
theorem Inv.list (I : Inv X pins σ H s) (h : SqL X.K H a xs) : ∃ its : List Value, Vals xs its ∧ PlainL s.heap a its.toArray ∧ xs.length ≤ sizeLine := by
  rcases h with h | ⟨o, its, n, hk, hc, hd, hs, hz, r⟩
  · obtain ⟨z, its, n, r, e⟩ := h.ok I.hok
    exact ⟨its, r, ⟨_, n, e, rfl, rfl, rfl⟩, z⟩
  · refine ⟨its.toList, r, ⟨o, n, I.kIn a o hk, hc, hd, by simpa using hs⟩, ?_⟩
    have e := r.length
    simp only [Array.length_toList] at e
    omega
theorem Inv.tuple (I : Inv X pins σ H s) (h : SqT X.K H a xs) : ∃ its : List Value, Vals xs its ∧ IsTup s.heap a its.toArray ∧ xs.length ≤ sizeLine := by
  rcases h with h | ⟨o, its, n, hk, hc, hs, hz, r⟩
  · obtain ⟨z, its, r, p⟩ := h.ok I.hok
    exact ⟨its, r, p, z⟩
  · refine ⟨its.toList, r, ⟨o, I.kIn a o hk, hc, n, by simpa using hs⟩, ?_⟩
    have e := r.length
    simp only [Array.length_toList] at e
    omega
theorem Inv.list_inj (I : Inv X pins σ H s) (h : SqL X.K H a xs) (h' : SqL X.K H a ys) : xs = ys := by
  obtain ⟨its, r, ⟨o, n, e, _, _, d⟩, _⟩ := I.list h
  obtain ⟨its', r', ⟨o', n', e', _, _, d'⟩, _⟩ := I.list h'
  rw [e] at e'; cases e'
  rw [d] at d'
  injection d' with d1 _
  have : its = its' := by simpa using congrArg Array.toList d1
  subst this
  exact r.inj r'
theorem Inv.tuple_inj (I : Inv X pins σ H s) (h : SqT X.K H a xs) (h' : SqT X.K H a ys) : xs = ys := by
  obtain ⟨its, r, ⟨o, e, _, n, d⟩, _⟩ := I.tuple h
  obtain ⟨its', r', ⟨o', e', _, n', d'⟩, _⟩ := I.tuple h'
  rw [e] at e'; cases e'
  rw [d] at d'
  injection d' with d1 _
  have : its = its' := by simpa using congrArg Array.toList d1
  subst this
  exact r.inj r'
end

/-! ### another wish about exceptions -/
abbrev Cx.wish (X : Cx) (E : Value → Shared → Prop) : Cx := { X with xe := E }
/-- no exception leaves -/
abbrev Cx.nox (X : Cx) : Cx := X.wish fun _ _ => False
theorem Cx.Ok.wish {X : Cx} (ok : X.Ok) (E : Value → Shared → Prop) : (X.wish E).Ok :=
  ⟨ok.mod, ok.kind, ok.glob, ok.blt, ok.above, ok.inj, ok.has, ok.cab, ok.hd, ok.frames, ok.stk, ok.exf, ok.bs, ok.bsz, ok.noex, ok.exfs, ok.funs, ok.frf⟩
theorem Cx.Ok.unwish {X : Cx} {E : Value → Shared → Prop} (ok : (X.wish E).Ok) : X.Ok :=
  ⟨ok.mod, ok.kind, ok.glob, ok.blt, ok.above, ok.inj, ok.has, ok.cab, ok.hd, ok.frames, ok.stk, ok.exf, ok.bs, ok.bsz, ok.noex, ok.exfs, ok.funs, ok.frf⟩
section
variable {X : Cx} {pins : List (Addr × Obj)} {σ : St} {H : Hp} {s : Shared} {E : Value → Shared → Prop}
theorem Inv.wish (I : Inv X pins σ H s) (E : Value → Shared → Prop) : Inv (X.wish E) pins σ H s := ⟨I.ok.wish E, I.os, I.bare, I.base, I.loc, I.cell, I.free, I.freeC, I.pin, I.hok, I.len⟩
theorem Inv.unwish (I : Inv (X.wish E) pins σ H s) : Inv X pins σ H s := ⟨I.ok.unwish, I.os, I.bare, I.base, I.loc, I.cell, I.free, I.freeC, I.pin, I.hok, I.len⟩
theorem SP.unwish {D : Ends} {f : Flow} {s' : Shared} (h : SP (X.wish E) pins D f s') : SP X pins D f s' := by
  cases f with
  | next => obtain ⟨σ', H', I, q⟩ := h; exact ⟨σ', H', I.unwish, q⟩
  | brk => obtain ⟨σ', H', I, q⟩ := h; exact ⟨σ', H', I.unwish, q⟩
  | cont => obtain ⟨σ', H', I, q⟩ := h; exact ⟨σ', H', I.unwish, q⟩
  | ret u => obtain ⟨v, σ', H', I, r, q⟩ := h; exact ⟨v, σ', H', I.unwish, r, q⟩
theorem PSs.nox {st : List Stmt} {t : TS} (h : PSs X.nox st t) : PSs X st t := fun pins s σ H D I hw =>
  wpAny_mono (h pins s σ H D (I.wish _) hw) (fun _ _ q => q.unwish) fun _ _ z => False.elim z
end

/-! ### blocks and small statements -/
section
variable {X : Cx} {st : Stmt} {rest : List Stmt} {t u : TS} {e : Expr} {te : TE} {pos : Pos}
def tNext : TS := fun D σ H => D.nx σ H
def tSeq (t u : TS) : TS := fun D σ H => t { D with nx := u D } σ H
theorem pss_nil : PSs X [] tNext := fun _ _ σ H _ I h => wpAny_execs_nil ⟨σ, H, I, h⟩
theorem pss_cons (h1 : PS X st t) (h2 : PSs X rest u) : PSs X (st :: rest) (tSeq t u) := by
  intro pins s σ H D I h
  refine wpAny_execs_cons (thn (h1 pins s σ H { D with nx := u D } I h) fun f s1 q => ?_)
  cases f with
  | next =>
    obtain ⟨σ', H', I', q⟩ := q
    exact h2 pins s1 σ' H' D I' q
  | ret v => exact q
  | brk => exact q
  | cont => exact q
theorem pss_one (h1 : PS X st t) : PSs X [st] t := by
  intro pins s σ H D I h
  refine wpAny_execs_cons (thn (h1 pins s σ H D I h) fun f s1 q => ?_)
  cases f with
  | next => exact wpAny_execs_nil q
  | ret v => exact q
  | brk => exact q
  | cont => exact q
/-- in a def's body nothing is shown -/
theorem Inv.quiet {pins : List (Addr × Obj)} {σ : St} {H : Hp} {s : Shared} (I : Inv X pins σ H s) : interactive X.env = false := by simp [interactive, I.ok.kind]
/-- an expression whose value is dropped -/
def tDrop (te : TE) : TS := fun D σ H => te σ H fun _ H1 => D.nx σ H1
theorem ps_expr (he : PE X e te) (hs : swapsWith e none pos.line X.env = pure false := by rfl) : PS X (.Expr e pos) (tDrop te) := by
  intro pins s σ H D I h
  exact wpAny_Expr_any (thn (he pins s σ H _ I h) fun v s1 ⟨x, H1, I1, r1, q1⟩ => ⟨σ, H1, I1, q1⟩) I.quiet hs
def tRet (te : TE) : TS := fun D σ H => te σ H D.rt
theorem ps_ret (he : PE X e te) : PS X (.Return (some e) pos) (tRet te) := by
  intro pins s σ H D I h
  exact wpAny_Return_some (thn (he pins s σ H _ I h) fun v s1 ⟨x, H1, I1, r1, q1⟩ => ⟨x, σ, H1, I1, r1, q1⟩)
def tIfS (c : TT) (t u : TS) : TS := fun D σ H => c σ H fun b H1 => if b = true then t D σ H1 else u D σ H1
theorem ps_if {c : Expr} {a b : List Stmt} {tc : TT} (hc : PT X c tc) (ha : PSs X a t) (hb : PSs X b u) : PS X (.If c a b pos) (tIfS tc t u) := by
  intro pins s σ H D I h
  refine wpAny_If (thn (hc pins s σ H _ I h) fun d s1 ⟨H1, I1, q1⟩ => ?_)
  cases d with
  | true => exact ha pins s1 σ H1 D I1 q1
  | false => exact hb pins s1 σ H1 D I1 q1
end

/-! ### targets -/
abbrev TG := V → St → Hp → (St → Hp → Prop) → Prop
abbrev TGs := List V → St → Hp → (St → Hp → Prop) → Prop
def PG (X : Cx) (target : Expr) (t : TG) : Prop :=
  ∀ (pins : List (Addr × Obj)) (s : Shared) (σ : St) (H : Hp) (v : V) (u : Value) (Q : St → Hp → Prop), Inv X pins σ H s → RelV v u → t v σ H Q →
    wpAny (model X.prog X.w) X.A (assign target X.env u) (fun _ s' => ∃ σ' H', Inv X pins σ' H' s' ∧ Q σ' H') X.xe s
/-- several targets, one after another -/
def PGs (X : Cx) (ts : List Expr) (t : TGs) : Prop :=
  ∀ (pins : List (Addr × Obj)) (s : Shared) (σ : St) (H : Hp) (vs : List V) (us : List Value) (Q : St → Hp → Prop), Inv X pins σ H s → Vals vs us → t vs σ H Q →
    wpAny (model X.prog X.w) X.A (assignInOrder ((assignEach ts X.env).map (·.2)) us) (fun _ s' => ∃ σ' H', Inv X pins σ' H' s' ∧ Q σ' H') X.xe s
section
variable {X : Cx} {pos : Pos}
def gName (i : Nat) : TG := fun v σ H Q => Q (σ.set i (some v)) H
theorem pg_name {i : Nat} {x : Str} (hN : X.N.Nodup) (hi : X.N[i]? = some x) (hx : Loc X.env.scope x) (hf : X.fn x = true ∨ X.env.scope.names.lookup x = some .local := by first | exact .inl rfl | exact .inr rfl | assumption) : PG X (.Name x pos) (gName i) := by
  intro pins s σ H v u Q I r h
  exact wpAny_assign_Name (store_ok I hN hi hx r (fun s' I' => ⟨_, H, I', h⟩) hf)
def gNil : TGs := fun vs σ H Q => vs = [] ∧ Q σ H
def gCons (t : TG) (u : TGs) : TGs := fun vs σ H Q => ∃ v r, vs = v :: r ∧ t v σ H fun σ' H' => u r σ' H' Q
theorem pgs_nil : PGs X [] gNil := by
  intro pins s σ H vs us Q I r h
  obtain ⟨e, h⟩ := h
  subst e
  cases r
  exact assignInOrder_nil ⟨σ, H, I, h⟩
theorem pgs_cons {e : Expr} {es : List Expr} {t : TG} {u : TGs} (h1 : PG X e t) (h2 : PGs X es u)
    (hs : (assignEach (e :: es) X.env).map (·.2) = assign e X.env :: (assignEach es X.env).map (·.2) := by rfl) : PGs X (e :: es) (gCons t u) := by
  intro pins s σ H vs us Q I r h
  obtain ⟨v, vr, e1, h⟩ := h
  subst e1
  cases r with
  | cons r rr =>
    rw [hs]
    refine assignInOrder_cons (thn (h1 pins s σ H _ _ _ I r h) fun _ s1 ⟨σ1, H1, I1, q1⟩ => ?_)
    exact h2 pins s1 σ1 H1 _ _ Q I1 rr q1
/-- (a, b, ..) = a tuple of that length -/
def gTup (K : PySem.W.Frag) (n : Nat) (t : TGs) : TG := fun v σ H Q => ∃ a xs, v = .ref a ∧ SqT K H a xs ∧ xs.length = n ∧ t xs σ H Q
theorem pg_tup {es : List Expr} {k : Nat} {t : TGs} {n : Nat} (hc : X.calm = true) (h : PGs X es t)
    (hn : (assignEach es X.env).length = n := by rfl) (hst : (assignEach es X.env).findIdx? (·.1) = none := by rfl) : PG X (.Tuple es k pos) (gTup X.K n t) := by
  intro pins s σ H v u Q I r hw
  obtain ⟨a, xs, e1, hq, hl, hw⟩ := hw
  subst e1
  cases r
  obtain ⟨its, rv, ht, hz⟩ := I.tuple hq
  refine assign_Tuple_tuple (I.ok.hd hc) ht (by simp [hn, ← hl, rv.length]) hst fun h' hx => ?_
  have I1 : Inv X pins σ H { s with heap := h' } := I.kept (t' := s.toks) fun b o e => hx b o (Nat.ne_of_lt (Heap.lt_size e)) e
  exact h pins _ σ H xs _ Q I1 (by simpa using rv) hw
/-- target = value -/
def tAsg (te : TE) (g : TG) : TS := fun D σ H => te σ H fun x H1 => g x σ H1 D.nx
/-- name = value -/
theorem ps_set {i : Nat} {x : Str} {e : Expr} {te : TE} {pos' : Pos} (hN : X.N.Nodup) (hi : X.N[i]? = some x) (hx : Loc X.env.scope x) (he : PE X e te) (hs : swapsWith e (some (.Name x pos')) pos.line X.env = pure false := by rfl) (hf : X.fn x = true ∨ X.env.scope.names.lookup x = some .local := by first | exact .inl rfl | exact .inr rfl | assumption) :
    PS X (.Assign [.Name x pos'] e pos) (tAsg te (gName i)) := by
  intro pins s σ H D I h
  refine wpAny_Assign_Name (thn (he pins s σ H _ I h) fun v s1 ⟨y, H1, I1, r1, q1⟩ => ?_) hs
  exact store_ok I1 hN hi hx r1 (fun s2 I2 => ⟨_, H1, I2, q1⟩) hf
end

/-! ### while -/
section
variable {X : Cx} {pos : Pos}
/-- the invariant W with its measure -/
def tWhile (c : TT) (tb : TS) : TS := fun D σ H => ∃ W : Nat → St → Hp → Prop, (∃ m, W m σ H) ∧ ∀ m σ H, W m σ H →
  c σ H fun b H1 => if b = true then ∃ N : St → Hp → Prop, (∀ σ' H', N σ' H' → ∃ m', m' < m ∧ W m' σ' H') ∧ tb { D with nx := N, ct := N, bk := D.nx } σ H1 else D.nx σ H1
theorem ps_while {c : Expr} {body : List Stmt} {tc : TT} {tb : TS} (hp : PassesOwn (model X.prog X.w) X.A X.env X.xe) (hc : PT X c tc) (hb : PSs X body tb) : PS X (.While c body [] pos) (tWhile tc tb) := by
  intro pins s σ H D I h
  obtain ⟨W, ⟨m0, w0⟩, turn⟩ := h
  refine wpAny_While (codeAny_whileLoop (fun n s' => ∃ σ' H', Inv X pins σ' H' s' ∧ W n σ' H') ?_ m0 ⟨σ, H, I, w0⟩)
  rintro n s1 ⟨σ1, H1, I1, w1⟩
  refine wpAny_passesOwn hp (thn (hc pins s1 σ1 H1 _ I1 (turn n σ1 H1 w1)) fun b s2 ⟨H2, I2, q2⟩ => ?_)
  cases b with
  | true =>
    obtain ⟨N, hN, q2⟩ := q2
    rw [if_pos rfl]
    refine wpAny_passesOwn hp (thn (hb pins s2 σ1 H2 _ I2 q2) fun f s3 q3 => ?_)
    cases f with
    | next =>
      obtain ⟨σ3, H3, I3, n3⟩ := q3
      obtain ⟨m', hm, w3⟩ := hN σ3 H3 n3
      exact ⟨m', hm, σ3, H3, I3, w3⟩
    | cont =>
      obtain ⟨σ3, H3, I3, n3⟩ := q3
      obtain ⟨m', hm, w3⟩ := hN σ3 H3 n3
      exact ⟨m', hm, σ3, H3, I3, w3⟩
    | brk => exact q3
    | ret v => exact q3
  | false =>
    rw [if_neg Bool.false_ne_true]
    exact wpAny_execs_nil ⟨σ1, H2, I2, q2⟩
end

/-! ### what a loop or a comprehension walks -/
/-- at turn i: it yields x (the heap may grow), or it stops -/
structure It where
  go : Nat → Hp → Prop
  yld : Nat → Hp → V → Hp → Prop
  stop : Nat → Hp → Prop
/-- the iterator's own objects may turn: they are not the frame's, not pinned, younger than the entry (or a comprehension's own) -/
def FpOk (X : Cx) (pins : List (Addr × Obj)) (H : Hp) (b : Addr) : Prop :=
  H b = none ∧ b ≠ X.env.locals ∧ b ∉ X.fs ∧ (b ∈ X.ex ∨ X.s₀.heap.objs.size ≤ b) ∧ (∀ x c, X.env.cells.lookup x = some c → c ≠ b) ∧ ∀ p ∈ X.pn ++ pins, p.1 ≠ b
theorem Inv.fpOk {X : Cx} {pins : List (Addr × Obj)} {σ : St} {H H' : Hp} {s : Shared} {b : Addr} (I : Inv X pins σ H s) (hb : s.heap.objs.size ≤ b) (hn : H' b = none) : FpOk X pins H' b := by
  refine ⟨hn, Nat.ne_of_gt (Nat.lt_of_lt_of_le I.lt hb), I.nofs hb, .inr (Nat.le_trans I.sz hb), fun x c e z => ?_, fun p hp z => ?_⟩
  · obtain ⟨v, q⟩ := I.cell x c e
    exact absurd (Nat.lt_of_lt_of_le q.lt (by rw [z]; exact hb)) (Nat.lt_irrefl _)
  · exact absurd (Nat.lt_of_lt_of_le (Heap.lt_size (I.pin p hp).1) (by rw [z]; exact hb)) (Nat.lt_irrefl _)
structure Turn (P : Program) (w : World) (K : PySem.W.Frag) (tg : Expr) (J : It) (fp : List Addr) (it : Addr) (tn : Nat → Heap → Prop) : Prop where
  mem : it ∈ fp
  obj : ∀ i h, tn i h → ∀ b ∈ fp, ∃ o, h.get? b = some o ∧ ∀ v, o.data ≠ .cell v
  keep : ∀ i h h', tn i h → (∀ b ∈ fp, ∀ o, h.get? b = some o → h'.get? b = some o) → tn i h'
  item : ∀ (X : Cx), X.prog = P → X.w = w → X.K = K → X.calm = true → ∀ (i : Nat) (pins : List (Addr × Obj)) (s : Shared) (σ : St) (H : Hp) (E : Value → Shared → Prop), Inv X pins σ H s → (∀ b ∈ fp, FpOk X pins H b) → tn i s.heap → J.go i H →
    wpAny (model P w) X.A (pyNext (.ref it)) (fun r s1 => ∃ u, r = some u ∧
      wpAny (model P w) X.A (letOwnedTupleGo tg (.ref it) u) (fun _ s2 => ∃ x H', Inv X pins σ H' s2 ∧ RelV x u ∧ J.yld i H x H' ∧ tn (i + 1) s2.heap ∧ ∀ b ∈ fp, H' b = none) E s1) E s
  done : ∀ (X : Cx), X.prog = P → X.w = w → X.K = K → X.calm = true → ∀ (i : Nat) (pins : List (Addr × Obj)) (s : Shared) (σ : St) (H : Hp) (E : Value → Shared → Prop), Inv X pins σ H s → (∀ b ∈ fp, FpOk X pins H b) → tn i s.heap → J.stop i H →
    wpAny (model P w) X.A (pyNext (.ref it)) (fun r s1 => r = none ∧ Inv X pins σ H s1) E s
  self : ∀ (A : Around) (i : Nat) (s : Shared) (Q : Value → Shared → Prop) (E : Value → Shared → Prop), tn i s.heap → Q (.ref it) s → wpAny (model P w) A (pyIter (.ref it)) Q E s
abbrev TI := St → Hp → (It → Hp → Prop) → Prop
/-- an iterator has come -/
def PIE (X : Cx) (pins : List (Addr × Obj)) (σ : St) (tg : Expr) (R : It → Hp → Prop) (itv : Value) (s2 : Shared) : Prop :=
  ∃ (it : Addr) (fp : List Addr) (tn : Nat → Heap → Prop) (J : It) (H' : Hp), itv = .ref it ∧ Inv X pins σ H' s2 ∧ Turn X.prog X.w X.K tg J fp it tn ∧ tn 0 s2.heap ∧ (∀ b ∈ fp, FpOk X pins H' b) ∧ R J H'
def PI (X : Cx) (tg iter : Expr) (wi : TI) : Prop :=
  ∀ (pins : List (Addr × Obj)) (s : Shared) (σ : St) (H : Hp) (R : It → Hp → Prop), Inv X pins σ H s → wi σ H R →
    wpAny (model X.prog X.w) X.A (eval iter X.env) (fun v s1 => wpAny (model X.prog X.w) X.A (pyIter v) (PIE X pins σ tg R) X.xe s1) X.xe s

/-- the step ahead of the store is nothing for an iterator that keeps no tuple -/
theorem go_of {M : Model} {A : Around} {E : Value → Shared → Prop} {s : Shared} {tg : Expr} {it : Addr} {u : Value} {o : Obj} {n : String} {vs : Array Value} {Q : Unit → Shared → Prop} (ho : s.heap.get? it = some o) (hc : o.cls = .type n) (hd : o.data = .fields vs)
    (hn : ["enumerate", "zip", "dict_itemiterator", "dict_reverseitemiterator", "odict_iterator", "itertools.zip_longest", "itertools.pairwise"].contains n = false) (hQ : Q () s) : wpAny M A (letOwnedTupleGo tg (.ref it) u) Q E s := by
  unfold letOwnedTupleGo
  cases tg <;> first
    | exact wpAny_pure hQ
    | (cases u <;> first
        | exact wpAny_pure hQ
        | (refine wpAny_bind (wpAny_load ho ?_)
           rw [hc, hd]
           show wpAny M A (if (["enumerate", "zip", "dict_itemiterator", "dict_reverseitemiterator", "odict_iterator", "itertools.zip_longest", "itertools.pairwise"].contains n && vs[0]? == some (rawInt _)) = true then _ else _) Q E s
           rw [if_neg (by intro h; rw [hn, Bool.false_and] at h; cases h)]
           exact wpAny_pure hQ))

/-- the list at a, as it stands at each turn (a loop may append to it) -/
def Itl (K : PySem.W.Frag) (a : Addr) : It :=
  ⟨fun i H => ∃ xs x, SqL K H a xs ∧ xs[i]? = some x, fun i H x H' => H' = H ∧ ∀ xs, SqL K H a xs → xs[i]? = some x, fun i H => ∃ xs, SqL K H a xs ∧ xs.length ≤ i⟩
def Itt (K : PySem.W.Frag) (a : Addr) : It :=
  ⟨fun i H => ∃ xs x, SqT K H a xs ∧ xs[i]? = some x, fun i H x H' => H' = H ∧ ∀ xs, SqT K H a xs → xs[i]? = some x, fun i H => ∃ xs, SqT K H a xs ∧ xs.length ≤ i⟩
/-- lo, lo + 1, .. (n of them) -/
def Itr (lo : Int) (n : Nat) : It := ⟨fun i _ => i < n, fun i H x H' => H' = H ∧ x = .int (lo + i), fun i _ => n ≤ i⟩
theorem turn_list {P : Program} {w : World} {K : PySem.W.Frag} {tg : Expr} (a it : Addr) : Turn P w K tg (Itl K a) [it] it (fun i h => h.IsListIter it a i) where
  mem := by simp
  obj := fun i h st b hb => by
    have e : b = it := by simpa using hb
    subst e
    obtain ⟨o, e, c, d⟩ := st
    exact ⟨o, e, fun v z => by rw [d] at z; cases z⟩
  keep := fun i h h' st k => st.at fun o e => k it (by simp) o e
  item := by
    intro X hP hw hK hc i pins s σ H E I hf st hg
    subst hP hw hK
    obtain ⟨xs, x, hq, hx⟩ := hg
    obtain ⟨its, rv, p, hz⟩ := I.list hq
    obtain ⟨u, hu, ru⟩ := rv.get hx
    obtain ⟨f0, f1, f2, f3, f4, f5⟩ := hf it (by simp)
    refine wpAny_pyNext_list_item st p.isList (x := u) (by simpa using hu) fun h' st' sb => ?_
    have I1 : Inv X pins σ H { s with heap := h' } := I.turned (t' := s.toks) (fun b o hb e => (sb.2 b hb).trans e) f0 f1 f3 f4 f5
    obtain ⟨o, e, c, d⟩ := id st'
    exact ⟨u, rfl, go_of (s := { s with heap := h' }) e c d (by decide) ⟨x, H, I1, ru, ⟨rfl, fun ys hy => by rw [I.list_inj hy hq]; exact hx⟩, st', fun b hb => (hf b hb).1⟩⟩
  done := by
    intro X hP hw hK hc i pins s σ H E I hf st hg
    subst hP hw hK
    obtain ⟨xs, hq, hx⟩ := hg
    obtain ⟨its, rv, p, hz⟩ := I.list hq
    obtain ⟨f0, f1, f2, f3, f4, f5⟩ := hf it (by simp)
    have hl := rv.length
    exact wpAny_pyNext_list_end (I.ok.hd hc) st p.isList (by simp; omega) fun h' eb => ⟨rfl, I.turned (t' := s.toks) (fun b o hb e => eb b o hb e) f0 f1 f3 f4 f5⟩
  self := fun _ _ _ _ _ st h => wpAny_pyIter_listiter st h
theorem turn_tuple {P : Program} {w : World} {K : PySem.W.Frag} {tg : Expr} (a it : Addr) : Turn P w K tg (Itt K a) [it] it (fun i h => h.IsTupleIter it a i) where
  mem := by simp
  obj := fun i h st b hb => by
    have e : b = it := by simpa using hb
    subst e
    obtain ⟨o, e, c, d⟩ := st
    exact ⟨o, e, fun v z => by rw [d] at z; cases z⟩
  keep := fun i h h' st k => st.at fun o e => k it (by simp) o e
  item := by
    intro X hP hw hK hc i pins s σ H E I hf st hg
    subst hP hw hK
    obtain ⟨xs, x, hq, hx⟩ := hg
    obtain ⟨its, rv, p, hz⟩ := I.tuple hq
    obtain ⟨u, hu, ru⟩ := rv.get hx
    obtain ⟨f0, f1, f2, f3, f4, f5⟩ := hf it (by simp)
    refine wpAny_pyNext_tuple_item st (show s.heap.IsTuple a its.toArray from p) (x := u) (by simpa using hu) fun h' st' sb => ?_
    have I1 : Inv X pins σ H { s with heap := h' } := I.turned (t' := s.toks) (fun b o hb e => (sb.2 b hb).trans e) f0 f1 f3 f4 f5
    obtain ⟨o, e, c, d⟩ := id st'
    exact ⟨u, rfl, go_of (s := { s with heap := h' }) e c d (by decide) ⟨x, H, I1, ru, ⟨rfl, fun ys hy => by rw [I.tuple_inj hy hq]; exact hx⟩, st', fun b hb => (hf b hb).1⟩⟩
  done := by
    intro X hP hw hK hc i pins s σ H E I hf st hg
    subst hP hw hK
    obtain ⟨xs, hq, hx⟩ := hg
    obtain ⟨its, rv, p, hz⟩ := I.tuple hq
    obtain ⟨f0, f1, f2, f3, f4, f5⟩ := hf it (by simp)
    have hl := rv.length
    exact wpAny_pyNext_tuple_end (I.ok.hd hc) st (show s.heap.IsTuple a its.toArray from p) (by simp; omega) fun h' eb => ⟨rfl, I.turned (t' := s.toks) (fun b o hb e => eb b o hb e) f0 f1 f3 f4 f5⟩
  self := fun _ _ _ _ _ st h => wpAny_pyIter_tupleiter st h
theorem turn_range {P : Program} {w : World} {K : PySem.W.Frag} {tg : Expr} (it : Addr) (lo : Int) (n : Nat) : Turn P w K tg (Itr lo n) [it] it (fun i h => IsRangeIter h it (lo + (i : Nat) * 1) ((n : Int) - (i : Nat)) 1) where
  mem := by simp
  obj := fun i h st b hb => by
    have e : b = it := by simpa using hb
    subst e
    exact ⟨_, st, fun v z => by
      have z' : Data.fields _ = Data.cell v := z
      cases z'⟩
  keep := fun i h h' st k => k it (by simp) _ st
  item := by
    intro X hP hw hK hc i pins s σ H E I hf st hg
    subst hP hw hK
    obtain ⟨f0, f1, f2, f3, f4, f5⟩ := hf it (by simp)
    have W := Walks.range (prog := X.prog) (w := X.w) (I.ok.hd hc) it lo 1 n
    refine W.item i s _ _ hg st fun v h' tk hv st' kk => ?_
    obtain ⟨t, rfl⟩ := hv
    have I1 : Inv X pins σ H { s with heap := h', toks := tk } := I.turned (fun b o hb e => kk b o (by simpa using hb) e) f0 f1 f3 f4 f5
    refine ⟨_, rfl, go_of (s := { s with heap := h', toks := tk }) (n := "range_iterator") st' rfl rfl (by decide) ⟨.int (lo + i), H, I1, ⟨t, ?_⟩, ⟨rfl, rfl⟩, st', fun b hb => (hf b hb).1⟩⟩
    rw [Int.mul_one]
  done := by
    intro X hP hw hK hc i pins s σ H E I hf st hg
    subst hP hw hK
    obtain ⟨f0, f1, f2, f3, f4, f5⟩ := hf it (by simp)
    exact wpAny_pyNext_range_end (I.ok.hd hc) st (by have : n ≤ i := hg; omega) fun h' eb => ⟨rfl, I.turned (t' := s.toks) (fun b o hb e => eb b o hb e) f0 f1 f3 f4 f5⟩
  self := fun _ _ _ _ _ st h => wpAny_pyIter_rangeiter st h
end L2

namespace L2
open PySem PySem.Spec PyProof.Rows
section
variable {X : Cx} {tg : Expr}
def iList (K : PySem.W.Frag) (tl : TE) : TI := fun σ H R => tl σ H fun x H1 => ∃ a, x = .ref a ∧ (∃ xs, SqL K H1 a xs) ∧ R (Itl K a) H1
def iTup (K : PySem.W.Frag) (tl : TE) : TI := fun σ H R => tl σ H fun x H1 => ∃ a, x = .ref a ∧ (∃ xs, SqT K H1 a xs) ∧ R (Itt K a) H1
theorem pi_list {l : Expr} {tl : TE} (hl : PE X l tl) : PI X tg l (iList X.K tl) := by
  intro pins s σ H R I h
  refine thn (hl pins s σ H _ I h) fun v s1 ⟨x, H1, I1, r1, q1⟩ => ?_
  obtain ⟨a, e, ⟨xs, hq⟩, q⟩ := q1
  subst e
  cases r1
  obtain ⟨its, rv, p, hz⟩ := I1.list hq
  refine wpAny_pyIter_list p.isList ?_
  refine ⟨s1.heap.objs.size, [s1.heap.objs.size], _, _, H1, rfl, I1.kept (t' := s1.toks) fun b o e => Heap.get?_push_of_some _ e, turn_list a _, ⟨_, Heap.get?_push_size _ rfl, rfl, rfl⟩, fun b hb => ?_, q⟩
  have e : b = s1.heap.objs.size := by simpa using hb
  subst e
  exact I1.fpOk (Nat.le_refl _) (I1.hok.fresh (Nat.le_refl _))
theorem pi_tup {l : Expr} {tl : TE} (hl : PE X l tl) : PI X tg l (iTup X.K tl) := by
  intro pins s σ H R I h
  refine thn (hl pins s σ H _ I h) fun v s1 ⟨x, H1, I1, r1, q1⟩ => ?_
  obtain ⟨a, e, ⟨xs, hq⟩, q⟩ := q1
  subst e
  cases r1
  obtain ⟨its, rv, p, hz⟩ := I1.tuple hq
  refine wpAny_pyIter_tuple (show s1.heap.IsTuple a its.toArray from p) ?_
  refine ⟨s1.heap.objs.size, [s1.heap.objs.size], _, _, H1, rfl, I1.kept (t' := s1.toks) fun b o e => Heap.get?_push_of_some _ e, turn_tuple a _, ⟨_, Heap.get?_push_size _ rfl, rfl, rfl⟩, fun b hb => ?_, q⟩
  have e : b = s1.heap.objs.size := by simpa using hb
  subst e
  exact I1.fpOk (Nat.le_refl _) (I1.hok.fresh (Nat.le_refl _))
/-- a range object just made, walked -/
theorem range_it {pins : List (Addr × Obj)} {σ : St} {H : Hp} {s : Shared} {R : It → Hp → Prop} {E : Value → Shared → Prop} {lo hi : Int} {t u v : Tok} {tk : Nat} (I : Inv X pins σ H s) (h1 : -(2 ^ 62) ≤ lo) (h2 : lo < 2 ^ 62) (h3 : -(2 ^ 62) ≤ hi) (h4 : hi < 2 ^ 62)
    (q : R (Itr lo (hi - lo).toNat) H) : wpAny (model X.prog X.w) X.A (pyIter (.ref s.heap.objs.size)) (PIE X pins σ tg R) E { s with heap := s.heap.push { cls := .type "range", data := .fields #[.int lo t, .int hi u, .int 1 v] }, toks := tk } := by
  refine wpAny_pyIter_range (IsRange.new ..) (small_one h1 h2 h3 h4) ?_
  have I1 : Inv X pins σ H { s with heap := s.heap.push { cls := .type "range", data := .fields #[.int lo t, .int hi u, .int 1 v] }, toks := tk } := I.kept fun b o e => Heap.get?_push_of_some _ e
  refine ⟨(s.heap.push { cls := .type "range", data := .fields #[.int lo t, .int hi u, .int 1 v] }).objs.size, [(s.heap.push { cls := .type "range", data := .fields #[.int lo t, .int hi u, .int 1 v] }).objs.size], _, _, H, rfl,
    I1.kept (t' := tk) fun b o e => Heap.get?_push_of_some _ e, turn_range _ lo (hi - lo).toNat, ?_, fun b hb => ?_, q⟩
  · have e1 : lo + ((0 : Nat) : Int) * 1 = lo := by simp
    have e2 : (((hi - lo).toNat : Nat) : Int) - ((0 : Nat) : Int) = Builtin.Range.rangeSize lo hi 1 := by rw [rangeSize_one]; split <;> omega
    show IsRangeIter _ _ (lo + ((0 : Nat) : Int) * 1) ((((hi - lo).toNat : Nat) : Int) - ((0 : Nat) : Int)) 1
    rw [e1, e2]
    exact Heap.get?_push_size _ rfl
  · have e : b = (s.heap.push { cls := .type "range", data := .fields #[.int lo t, .int hi u, .int 1 v] }).objs.size := by simpa using hb
    subst e
    exact I1.fpOk (Nat.le_refl _) (I1.hok.fresh (Nat.le_refl _))
def iRng1 (ta : TA) : TI := fun σ H R => ta σ H fun vs H1 => ∃ j : Int, vs = [.int j] ∧ -(2 ^ 62) ≤ j ∧ j < 2 ^ 62 ∧ R (Itr 0 j.toNat) H1
def iRng2 (ta : TA) : TI := fun σ H R => ta σ H fun vs H1 => ∃ i j : Int, vs = [.int i, .int j] ∧ (-(2 ^ 62) ≤ i ∧ i < 2 ^ 62 ∧ -(2 ^ 62) ≤ j ∧ j < 2 ^ 62) ∧ R (Itr i (j - i).toNat) H1
theorem pi_range1 {a : Expr} {ta : TA} {p pos : Pos} (hg : Gl X "range") (hm : X.mg "range" = none) (ha : PA X [a] ta) (hs : starEach [a] X.env = [(false, eval a X.env)] := by rfl) : PI X tg (.Call (.Name "range" p) [a] [] pos) (iRng1 ta) := by
  intro pins s σ H R I h
  refine Call_ (ld_blt I hg hm boot_range (PyProof.Rows.callWith_type1 (thn (ha pos pins s σ H _ I h) fun us s1 ⟨vs, H1, I1, r1, q1⟩ => ?_) hs rfl))
  obtain ⟨j, e, q1, q2, q⟩ := q1
  subst e
  cases r1 with
  | cons r rr =>
    cases rr
    obtain ⟨t, rfl⟩ := r
    exact call_range_1 (range_it I1 (by omega) (by omega) q1 q2 (by simpa using q))
theorem pi_range2 {a b : Expr} {ta : TA} {p pos : Pos} (hg : Gl X "range") (hm : X.mg "range" = none) (ha : PA X [a, b] ta) (hs : starEach [a, b] X.env = [(false, eval a X.env), (false, eval b X.env)] := by rfl) (hs2 : starEach [b] X.env = [(false, eval b X.env)] := by rfl) :
    PI X tg (.Call (.Name "range" p) [a, b] [] pos) (iRng2 ta) := by
  intro pins s σ H R I h
  refine Call_ (ld_blt I hg hm boot_range (PyProof.Rows.callWith_type1 (thn (ha pos pins s σ H _ I h) fun us s1 ⟨vs, H1, I1, r1, q1⟩ => ?_) (by rw [hs, hs2]) (by rw [hs2]; rfl)))
  obtain ⟨i, j, e, ⟨q1, q2, q3, q4⟩, q⟩ := q1
  subst e
  cases r1 with
  | cons r rr =>
    cases rr with
    | cons r' rr =>
      cases rr
      obtain ⟨t, rfl⟩ := r
      obtain ⟨t', rfl⟩ := r'
      exact call_range_2 (range_it I1 q1 q2 q3 q4 q)

/-! ### for -/
/-- W: the invariant by the turn and a measure; N: what the body is to reach -/
def tFor (wi : TI) (g : TG) (tb : TS) : TS := fun D σ H => wi σ H fun J H1 => ∃ W : Nat → Nat → St → Hp → Prop, (∃ m, W 0 m σ H1) ∧ ∀ i m σ H, W i m σ H →
  (J.stop i H ∧ D.nx σ H) ∨ (J.go i H ∧ ∃ N : St → Hp → Prop, (∀ σ' H', N σ' H' → ∃ m', m' < m ∧ W (i + 1) m' σ' H') ∧ ∀ x H', J.yld i H x H' → g x σ H' fun σ2 H2 => tb { D with nx := N, ct := N, bk := D.nx } σ2 H2)
/-- the records at fp as they stand -/
def pinsAt (fp : List Addr) (h : Heap) : List (Addr × Obj) := fp.filterMap fun b => (h.get? b).map fun o => (b, o)
theorem mem_pinsAt {fp : List Addr} {h : Heap} {b : Addr} {o : Obj} (hb : b ∈ fp) (e : h.get? b = some o) : (b, o) ∈ pinsAt fp h := List.mem_filterMap.mpr ⟨b, hb, by rw [e]; rfl⟩
theorem of_pinsAt {fp : List Addr} {h : Heap} {p : Addr × Obj} (hp : p ∈ pinsAt fp h) : p.1 ∈ fp ∧ h.get? p.1 = some p.2 := by
  obtain ⟨b, hb, e⟩ := List.mem_filterMap.mp hp
  cases q : h.get? b with
  | none => rw [q] at e; cases e
  | some o =>
    rw [q] at e
    have e' : (b, o) = p := Option.some.inj e
    subst e'
    exact ⟨hb, q⟩
theorem Inv.pinned {pins : List (Addr × Obj)} {σ : St} {H : Hp} {s : Shared} {fp : List Addr} (I : Inv X pins σ H s) (hf : ∀ b ∈ fp, FpOk X pins H b) (ho : ∀ b ∈ fp, ∃ o, s.heap.get? b = some o ∧ ∀ v, o.data ≠ .cell v) : Inv X (pins ++ pinsAt fp s.heap) σ H s :=
  I.pins_of fun p hp => (List.mem_append.mp hp).elim (fun z => I.pin p (List.mem_append_right _ z)) fun z => by
    obtain ⟨hb, e⟩ := of_pinsAt z
    obtain ⟨f0, f1, f2, _⟩ := hf p.1 hb
    obtain ⟨o, e', d⟩ := ho p.1 hb
    rw [e] at e'; cases e'
    exact ⟨e, f0, f1, f2, d⟩
theorem Inv.unpinned {pins pl : List (Addr × Obj)} {σ : St} {H : Hp} {s : Shared} (I : Inv X (pins ++ pl) σ H s) : Inv X pins σ H s := I.pins_of fun p hp => I.pin p (List.mem_append_right _ (List.mem_append_left _ hp))
theorem ps_for {iter : Expr} {body : List Stmt} {wi : TI} {g : TG} {tb : TS} {pos : Pos} (hp : PassesOwn (model X.prog X.w) X.A X.env X.xe) (hc : X.calm = true) (hi : PI X tg iter wi) (hg : PG X tg g) (hb : PSs X body tb)
    (hs : ∀ x, foldedSetIterable iter X.env x = pure x := by intro _; rfl) : PS X (.For tg iter body [] pos) (tFor wi g tb) := by
  intro pins s σ H D I h
  refine wpAny_For (thn (hi pins s σ H _ I h) fun v s1 h1 => thn h1 fun itv s2 h2 => ?_) hs
  obtain ⟨it, fp, tn, J, H2, e, I2, T, st2, f2, W, ⟨m0, w0⟩, turn⟩ := h2
  subst e
  -- what stays true of the iterator's objects through the loop
  have stat : ∀ {H' : Hp}, (∀ b ∈ fp, H' b = none) → ∀ b ∈ fp, FpOk X pins H' b := fun hn b hb => ⟨hn b hb, (f2 b hb).2⟩
  refine codeAny_forLoop_any (fun n s' => ∃ i σ' H', Inv X pins σ' H' s' ∧ tn i s'.heap ∧ (∀ b ∈ fp, H' b = none) ∧ W i n σ' H') ?_ m0 ⟨0, σ, H2, I2, st2, fun b hb => (f2 b hb).1, w0⟩
  rintro n s3 ⟨i, σ3, H3, I3, st3, fr3, w3⟩
  rcases turn i n σ3 H3 w3 with ⟨stop, qn⟩ | ⟨go, N, hN, step⟩
  · refine wpAny_passesOwn hp (thn (T.done X rfl rfl rfl hc i pins s3 σ3 H3 X.xe I3 (stat fr3) st3 stop) fun r s4 ⟨hr, I4⟩ => ?_)
    subst hr
    exact wpAny_execs_nil ⟨σ3, H3, I4, qn⟩
  · refine wpAny_passesOwn hp (thn (T.item X rfl rfl rfl hc i pins s3 σ3 H3 X.xe I3 (stat fr3) st3 go) fun r s4 ⟨u, hr, h4⟩ => ?_)
    subst hr
    refine wpAny_passesOwn hp (thn h4 fun _ s5 ⟨x, H5, I5, r5, y5, st5, fr5⟩ => ?_)
    have I5' := I5.pinned (stat fr5) (T.obj _ _ st5)
    refine wpAny_passesOwn hp (thn (hg _ s5 σ3 H5 x u _ I5' r5 (step x H5 y5)) fun _ s6 ⟨σ6, H6, I6, q6⟩ => ?_)
    refine wpAny_passesOwn hp (thn (hb _ s6 σ6 H6 _ I6 q6) fun f s7 q7 => ?_)
    have again : ∀ {σ7 : St} {H7 : Hp}, Inv X (pins ++ pinsAt fp s5.heap) σ7 H7 s7 → N σ7 H7 → ∃ m, m < n ∧ ∃ i σ' H', Inv X pins σ' H' s7 ∧ tn i s7.heap ∧ (∀ b ∈ fp, H' b = none) ∧ W i m σ' H' := fun {σ7 H7} I7 n7 => by
      obtain ⟨m', hm, w7⟩ := hN σ7 H7 n7
      refine ⟨m', hm, i + 1, σ7, H7, I7.unpinned, T.keep _ _ _ st5 fun b hb o e => (I7.pin (b, o) (List.mem_append_right _ (List.mem_append_right _ (mem_pinsAt hb e)))).1, fun b hb => ?_, w7⟩
      obtain ⟨o, e, d⟩ := T.obj _ _ st5 b hb
      exact (I7.pin (b, o) (List.mem_append_right _ (List.mem_append_right _ (mem_pinsAt hb e)))).2.1
    cases f with
    | next => obtain ⟨σ7, H7, I7, n7⟩ := q7; exact again I7 n7
    | cont => obtain ⟨σ7, H7, I7, n7⟩ := q7; exact again I7 n7
    | brk => obtain ⟨σ7, H7, I7, q7⟩ := q7; exact ⟨σ7, H7, I7.unpinned, q7⟩
    | ret v => obtain ⟨x7, σ7, H7, I7, r7, q7⟩ := q7; exact ⟨x7, σ7, H7, I7.unpinned, r7, q7⟩
end

/-! ### the forms one uses -/
/-- over a list that the body leaves as it is -/
theorem for_list {K : PySem.W.Frag} {a : Addr} {xs : List V} {g : TG} {tb : TS} {D : Ends} {σ : St} {H : Hp} (Pv : Nat → St → Hp → Prop) (h0 : Pv 0 σ H) (hl : ∀ i σ H, i ≤ xs.length → Pv i σ H → SqL K H a xs)
    (hs : ∀ i x σ H, xs[i]? = some x → Pv i σ H → g x σ H fun σ2 H2 => tb { D with nx := Pv (i + 1), ct := Pv (i + 1), bk := D.nx } σ2 H2) (hd : ∀ σ H, Pv xs.length σ H → D.nx σ H) :
    ∃ W : Nat → Nat → St → Hp → Prop, (∃ m, W 0 m σ H) ∧ ∀ i m σ H, W i m σ H →
      ((Itl K a).stop i H ∧ D.nx σ H) ∨ ((Itl K a).go i H ∧ ∃ N : St → Hp → Prop, (∀ σ' H', N σ' H' → ∃ m', m' < m ∧ W (i + 1) m' σ' H') ∧ ∀ x H', (Itl K a).yld i H x H' → g x σ H' fun σ2 H2 => tb { D with nx := N, ct := N, bk := D.nx } σ2 H2) := by
  refine ⟨fun i m σ H => m = xs.length - i ∧ i ≤ xs.length ∧ Pv i σ H, ⟨xs.length, by simp, Nat.zero_le _, h0⟩, ?_⟩
  rintro i m σ H ⟨rfl, hi, p⟩
  have q := hl i σ H hi p
  by_cases hlt : i < xs.length
  · refine .inr ⟨⟨xs, xs[i], q, by simp [hlt]⟩, Pv (i + 1), fun σ' H' p' => ⟨xs.length - (i + 1), by omega, rfl, hlt, p'⟩, fun x H' y => ?_⟩
    obtain ⟨e, y⟩ := y
    subst e
    exact hs i x σ _ (y xs q) p
  · have e : i = xs.length := by omega
    subst e
    exact .inl ⟨⟨xs, q, Nat.le_refl _⟩, hd σ H p⟩
theorem for_tup {K : PySem.W.Frag} {a : Addr} {xs : List V} {g : TG} {tb : TS} {D : Ends} {σ : St} {H : Hp} (Pv : Nat → St → Hp → Prop) (h0 : Pv 0 σ H) (hl : ∀ i σ H, i ≤ xs.length → Pv i σ H → SqT K H a xs)
    (hs : ∀ i x σ H, xs[i]? = some x → Pv i σ H → g x σ H fun σ2 H2 => tb { D with nx := Pv (i + 1), ct := Pv (i + 1), bk := D.nx } σ2 H2) (hd : ∀ σ H, Pv xs.length σ H → D.nx σ H) :
    ∃ W : Nat → Nat → St → Hp → Prop, (∃ m, W 0 m σ H) ∧ ∀ i m σ H, W i m σ H →
      ((Itt K a).stop i H ∧ D.nx σ H) ∨ ((Itt K a).go i H ∧ ∃ N : St → Hp → Prop, (∀ σ' H', N σ' H' → ∃ m', m' < m ∧ W (i + 1) m' σ' H') ∧ ∀ x H', (Itt K a).yld i H x H' → g x σ H' fun σ2 H2 => tb { D with nx := N, ct := N, bk := D.nx } σ2 H2) := by
  refine ⟨fun i m σ H => m = xs.length - i ∧ i ≤ xs.length ∧ Pv i σ H, ⟨xs.length, by simp, Nat.zero_le _, h0⟩, ?_⟩
  rintro i m σ H ⟨rfl, hi, p⟩
  have q := hl i σ H hi p
  by_cases hlt : i < xs.length
  · refine .inr ⟨⟨xs, xs[i], q, by simp [hlt]⟩, Pv (i + 1), fun σ' H' p' => ⟨xs.length - (i + 1), by omega, rfl, hlt, p'⟩, fun x H' y => ?_⟩
    obtain ⟨e, y⟩ := y
    subst e
    exact hs i x σ _ (y xs q) p
  · have e : i = xs.length := by omega
    subst e
    exact .inl ⟨⟨xs, q, Nat.le_refl _⟩, hd σ H p⟩
theorem for_range {lo : Int} {n : Nat} {g : TG} {tb : TS} {D : Ends} {σ : St} {H : Hp} (Pv : Nat → St → Hp → Prop) (h0 : Pv 0 σ H)
    (hs : ∀ i σ H, i < n → Pv i σ H → g (.int (lo + i)) σ H fun σ2 H2 => tb { D with nx := Pv (i + 1), ct := Pv (i + 1), bk := D.nx } σ2 H2) (hd : ∀ σ H, Pv n σ H → D.nx σ H) :
    ∃ W : Nat → Nat → St → Hp → Prop, (∃ m, W 0 m σ H) ∧ ∀ i m σ H, W i m σ H →
      ((Itr lo n).stop i H ∧ D.nx σ H) ∨ ((Itr lo n).go i H ∧ ∃ N : St → Hp → Prop, (∀ σ' H', N σ' H' → ∃ m', m' < m ∧ W (i + 1) m' σ' H') ∧ ∀ x H', (Itr lo n).yld i H x H' → g x σ H' fun σ2 H2 => tb { D with nx := N, ct := N, bk := D.nx } σ2 H2) := by
  refine ⟨fun i m σ H => m = n - i ∧ i ≤ n ∧ Pv i σ H, ⟨n, by simp, Nat.zero_le _, h0⟩, ?_⟩
  rintro i m σ H ⟨rfl, hi, p⟩
  by_cases hlt : i < n
  · refine .inr ⟨hlt, Pv (i + 1), fun σ' H' p' => ⟨n - (i + 1), by omega, rfl, hlt, p'⟩, fun x H' y => ?_⟩
    obtain ⟨e, y⟩ := y
    subst e y
    exact hs i σ _ hlt p
  · have e : i = n := by omega
    subst e
    exact .inl ⟨Nat.le_refl _, hd σ H p⟩
end L2

namespace L2
open PySem PySem.Spec PyProof.Rows

abbrev R2 := V → V → Hp → VK → Prop
/-- a two-place operation on values: f is binaryOp op, inplaceOp op or compareOp op -/
def OpR (X : Cx) (f : Value → Value → Sem Value) (r : R2) : Prop :=
  ∀ (pins : List (Addr × Obj)) (s : Shared) (σ : St) (H : Hp) (x y : V) (v u : Value) (Q : VK), Inv X pins σ H s → RelV x v → RelV y u → r x y H Q →
    wpAny (model X.prog X.w) X.A (f v u) (EP X pins σ Q) X.xe s
/-- a call of a value that is known (a builtin, a type) with values -/
def CallR (X : Cx) (f : Value) (r : List V → Hp → VK → Prop) : Prop :=
  ∀ (pins : List (Addr × Obj)) (s : Shared) (σ : St) (H : Hp) (xs : List V) (us : List Value) (Q : VK), Inv X pins σ H s → Vals xs us → r xs H Q →
    wpAny (model X.prog X.w) X.A (call f us) (EP X pins σ Q) X.xe s
def tOp (r : R2) (ta tb : TE) : TE := fun σ H Q => ta σ H fun x H1 => tb σ H1 fun y H2 => r x y H2 Q
/-- ints in, under C, and a value out -/
def rI (C : Int → Int → Prop) (g : Int → Int → V) : R2 := fun x y H Q => ∃ i j, x = .int i ∧ y = .int j ∧ C i j ∧ Q (g i j) H
def rI0 (g : Int → Int → V) : R2 := fun x y H Q => ∃ i j, x = .int i ∧ y = .int j ∧ Q (g i j) H
section
variable {X : Cx} {a b c : Expr} {ta tb tc : TE} {pos : Pos}

theorem binT (ha : PE X a ta) (hb : PE X b tb) {pins : List (Addr × Obj)} {s : Shared} {σ : St} {H : Hp} {R : V → V → Hp → Prop} (I : Inv X pins σ H s)
    (h : ta σ H fun x H1 => tb σ H1 fun y H2 => R x y H2) {Q : Value → Shared → Prop} {f : Value → Value → Sem Value}
    (hf : ∀ v u s2 x y H2, Inv X pins σ H2 s2 → RelV x v → RelV y u → R x y H2 → wpAny (model X.prog X.w) X.A (f v u) Q X.xe s2) :
    wpAny (model X.prog X.w) X.A (eval a X.env) (fun v s₁ => wpAny (model X.prog X.w) X.A (eval b X.env) (fun u s₂ => wpAny (model X.prog X.w) X.A (f v u) Q X.xe s₂) X.xe s₁) X.xe s := by
  refine thn (ha pins s σ H _ I h) fun v s1 ⟨x, H1, I1, r1, q1⟩ => ?_
  refine thn (hb pins s1 σ H1 _ I1 q1) fun u s2 ⟨y, H2, I2, r2, q2⟩ => ?_
  exact hf v u s2 x y H2 I2 r1 r2 q2

theorem pe_op {op : Operator} {r : R2} (ho : OpR X (binaryOp op) r) (ha : PE X a ta) (hb : PE X b tb) : PE X (.BinOp a op b pos) (tOp r ta tb) := by
  intro pins s σ H Q I h
  exact wpAny_BinOp (binT ha hb I h fun v u s2 x y H2 I2 rx ry q => ho pins s2 σ H2 x y v u Q I2 rx ry q)
/-! ### ints -/
theorem opI {f : Value → Value → Sem Value} {C : Int → Int → Prop} {g : Int → Int → Int}
    (rule : ∀ (i j : Int) (t u : Tok) (s : Shared) (Q : Value → Shared → Prop) (E : Value → Shared → Prop), C i j → Q (.int (g i j) s.toks) { s with toks := s.toks + 1 } → wpAny (model X.prog X.w) X.A (f (.int i t) (.int j u)) Q E s) :
    OpR X f (rI C fun i j => .int (g i j)) := by
  intro pins s σ H x y v u Q I rx ry h
  obtain ⟨i, j, rfl, rfl, hc, q⟩ := h
  obtain ⟨t, rfl⟩ := rx
  obtain ⟨t', rfl⟩ := ry
  exact rule i j t t' s _ _ hc ⟨.int (g i j), H, I.tok _, ⟨_, rfl⟩, q⟩
theorem opI0 {f : Value → Value → Sem Value} {g : Int → Int → Int}
    (rule : ∀ (i j : Int) (t u : Tok) (s : Shared) (Q : Value → Shared → Prop) (E : Value → Shared → Prop), Q (.int (g i j) s.toks) { s with toks := s.toks + 1 } → wpAny (model X.prog X.w) X.A (f (.int i t) (.int j u)) Q E s) :
    OpR X f (rI0 fun i j => .int (g i j)) := by
  intro pins s σ H x y v u Q I rx ry h
  obtain ⟨i, j, rfl, rfl, q⟩ := h
  obtain ⟨t, rfl⟩ := rx
  obtain ⟨t', rfl⟩ := ry
  exact rule i j t t' s _ _ ⟨.int (g i j), H, I.tok _, ⟨_, rfl⟩, q⟩
theorem opB0 {f : Value → Value → Sem Value} {g : Int → Int → Bool}
    (rule : ∀ (i j : Int) (t u : Tok) (s : Shared) (Q : Value → Shared → Prop) (E : Value → Shared → Prop), Q (.bool (g i j)) s → wpAny (model X.prog X.w) X.A (f (.int i t) (.int j u)) Q E s) :
    OpR X f (rI0 fun i j => .bl (g i j)) := by
  intro pins s σ H x y v u Q I rx ry h
  obtain ⟨i, j, rfl, rfl, q⟩ := h
  obtain ⟨t, rfl⟩ := rx
  obtain ⟨t', rfl⟩ := ry
  exact rule i j t t' s _ _ ⟨.bl (g i j), H, I, rfl, q⟩

def CDiv (i j : Int) : Prop := 0 < j ∧ j < 1073741824
def CMul (i j : Int) : Prop := (-(2 ^ 64) < i ∧ i < 2 ^ 64) ∨ (-(2 ^ 64) < j ∧ j < 2 ^ 64)
theorem CMul.ok {i j : Int} (h : CMul i j) : IntMulOk i j := by
  rcases h with ⟨h1, h2⟩ | ⟨h1, h2⟩
  · exact .of_left (intBits_le_64 h1 h2)
  · exact .of_right (intBits_le_64 h1 h2)
theorem op_add : OpR X (binaryOp .Add) (rI0 fun i j => .int (i + j)) := opI0 fun _ _ _ _ _ _ _ q => add_int q
theorem op_mul : OpR X (binaryOp .Mult) (rI CMul fun i j => .int (i * j)) := opI fun _ _ _ _ _ _ _ hc q => mul_int q hc.ok
/-- // by a positive divisor -/
theorem op_fdiv : OpR X (binaryOp .FloorDiv) (rI CDiv fun i j => .int (i / j)) := opI fun i j _ _ _ _ _ hc q => by
  have h1 : (0 : Int) < j := hc.1
  have h2 : j < 1073741824 := hc.2
  exact floordiv_int (by omega) (by rw [Int.fdiv_eq_ediv_of_nonneg i (by omega)]; exact q) (.inl (PyProof.noPylong_small (by omega)))
/-- % by a positive divisor of any size -/
theorem op_mod : OpR X (binaryOp .Mod) (rI (fun _ j => 0 < j) fun i j => .int (i % j)) := opI fun i j _ _ _ _ _ hc q => by
  have h1 : (0 : Int) < j := hc
  exact mod_int' (by omega) (by rw [Int.fmod_eq_emod_of_nonneg i (by omega)]; exact q)
/-! ### bools among ints: n += (a < b) -/
end

/-! ### comparisons -/
/-- the scalars that == tells apart as data does -/
def scal : V → V → Bool
  | .non, .non => true | .non, .int _ => true | .int _, .non => true | .non, .bl _ => true | .bl _, .non => true | .non, .str _ => true | .str _, .non => true
  | .int _, .int _ => true | .bl _, .bl _ => true | .str _, .str _ => true | .byt _, .byt _ => true
  | .int _, .str _ => true | .str _, .int _ => true | .bl _, .str _ => true | .str _, .bl _ => true
  | _, _ => false
def rEq : R2 := fun x y H Q => scal x y = true ∧ Q (.bl (decide (x = y))) H
def rNe : R2 := fun x y H Q => scal x y = true ∧ Q (.bl (!decide (x = y))) H

theorem dec_int {i j : Int} : decide (V.int i = V.int j) = (i == j) := by
  rw [Bool.eq_iff_iff]
  simp
theorem dec_bl {i j : Bool} : decide (V.bl i = V.bl j) = (i == j) := by
  rw [Bool.eq_iff_iff]
  simp
theorem dec_str {i j : Str} : decide (V.str i = V.str j) = (i == j) := by
  rw [Bool.eq_iff_iff]
  simp
theorem dec_byt {i j : Array UInt8} : decide (V.byt i = V.byt j) = (i.toList == j.toList) := by
  rw [Bool.eq_iff_iff]
  cases i
  cases j
  simp

section
variable {X : Cx} {a b c : Expr} {ta tb tc : TE} {pos : Pos}
theorem fin_bl {pins : List (Addr × Obj)} {σ : St} {H : Hp} {s : Shared} {Q : VK} {k k' : Bool} (I : Inv X pins σ H s) (q : Q (.bl k) H) (e : k = k') : EP X pins σ Q (.bool k') s := by
  subst e
  exact ⟨.bl k, H, I, rfl, q⟩
theorem op_eq : OpR X (compareOp .Eq) rEq := by
  intro pins s σ H x y v u Q I rx ry h
  obtain ⟨hs, q⟩ := h
  cases x with
  | non =>
    cases rx
    cases y with
    | non => cases ry; exact PySem.EqNone.eq_none_none (fin_bl I q (by simp))
    | bl j => cases ry; exact PySem.EqNone.eq_none_bool (fin_bl I q (by simp))
    | int j => obtain ⟨t', rfl⟩ := ry; exact PySem.EqNone.eq_none_int (fin_bl I q (by simp))
    | str j => obtain ⟨t', rfl⟩ := ry; exact PySem.EqNone.eq_none_str (fin_bl I q (by simp))
    | _ => exact absurd (show false = true from hs) Bool.false_ne_true
  | bl i =>
    cases rx
    cases y with
    | non => cases ry; exact PySem.EqNone.eq_bool_none (fin_bl I q (by simp))
    | bl j => cases ry; exact eq_bool (fin_bl I q dec_bl)
    | str j => obtain ⟨t', rfl⟩ := ry; exact PySem.EqMixed.eq_bool_str (fin_bl I q (by simp))
    | _ => exact absurd (show false = true from hs) Bool.false_ne_true
  | int i =>
    obtain ⟨t, rfl⟩ := rx
    cases y with
    | non => cases ry; exact PySem.EqNone.eq_int_none (fin_bl I q (by simp))
    | int j => obtain ⟨t', rfl⟩ := ry; exact eq_int (fin_bl I q dec_int)
    | str j => obtain ⟨t', rfl⟩ := ry; exact PySem.EqMixed.eq_int_str (fin_bl I q (by simp))
    | _ => exact absurd (show false = true from hs) Bool.false_ne_true
  | str i =>
    obtain ⟨t, rfl⟩ := rx
    cases y with
    | non => cases ry; exact PySem.EqNone.eq_str_none (fin_bl I q (by simp))
    | bl j => cases ry; exact PySem.EqMixed.eq_str_bool (fin_bl I q (by simp))
    | int j => obtain ⟨t', rfl⟩ := ry; exact PySem.EqMixed.eq_str_int (fin_bl I q (by simp))
    | str j => obtain ⟨t', rfl⟩ := ry; exact eq_str (fin_bl I q dec_str)
    | _ => exact absurd (show false = true from hs) Bool.false_ne_true
  | byt i =>
    obtain ⟨t, rfl⟩ := rx
    cases y with
    | byt j => obtain ⟨t', rfl⟩ := ry; exact PySem.W.eq_bytes (fin_bl I q dec_byt)
    | _ => exact absurd (show false = true from hs) Bool.false_ne_true
  | _ => cases y <;> exact absurd (show false = true from hs) Bool.false_ne_true
theorem op_ne : OpR X (compareOp .NotEq) rNe := by
  intro pins s σ H x y v u Q I rx ry h
  obtain ⟨hs, q⟩ := h
  cases x with
  | non =>
    cases rx
    cases y with
    | non => cases ry; exact PySem.EqNone.ne_none_none (fin_bl I q (by simp))
    | bl j => cases ry; exact PySem.EqNone.ne_none_bool (fin_bl I q (by simp))
    | int j => obtain ⟨t', rfl⟩ := ry; exact PySem.EqNone.ne_none_int (fin_bl I q (by simp))
    | str j => obtain ⟨t', rfl⟩ := ry; exact PySem.EqNone.ne_none_str (fin_bl I q (by simp))
    | _ => exact absurd (show false = true from hs) Bool.false_ne_true
  | bl i =>
    cases rx
    cases y with
    | non => cases ry; exact PySem.EqNone.ne_bool_none (fin_bl I q (by simp))
    | bl j => cases ry; exact ne_bool (fin_bl I q (congrArg not dec_bl))
    | str j => obtain ⟨t', rfl⟩ := ry; exact PySem.EqMixed.ne_bool_str (fin_bl I q (by simp))
    | _ => exact absurd (show false = true from hs) Bool.false_ne_true
  | int i =>
    obtain ⟨t, rfl⟩ := rx
    cases y with
    | non => cases ry; exact PySem.EqNone.ne_int_none (fin_bl I q (by simp))
    | int j => obtain ⟨t', rfl⟩ := ry; exact ne_int (fin_bl I q (congrArg not dec_int))
    | str j => obtain ⟨t', rfl⟩ := ry; exact PySem.EqMixed.ne_int_str (fin_bl I q (by simp))
    | _ => exact absurd (show false = true from hs) Bool.false_ne_true
  | str i =>
    obtain ⟨t, rfl⟩ := rx
    cases y with
    | non => cases ry; exact PySem.EqNone.ne_str_none (fin_bl I q (by simp))
    | bl j => cases ry; exact PySem.EqMixed.ne_str_bool (fin_bl I q (by simp))
    | int j => obtain ⟨t', rfl⟩ := ry; exact PySem.EqMixed.ne_str_int (fin_bl I q (by simp))
    | str j => obtain ⟨t', rfl⟩ := ry; exact ne_str (fin_bl I q (congrArg not dec_str))
    | _ => exact absurd (show false = true from hs) Bool.false_ne_true
  | byt i =>
    obtain ⟨t, rfl⟩ := rx
    cases y with
    | byt j => obtain ⟨t', rfl⟩ := ry; exact PySem.W.ne_bytes (fin_bl I q (congrArg not dec_byt))
    | _ => exact absurd (show false = true from hs) Bool.false_ne_true
  | _ => cases y <;> exact absurd (show false = true from hs) Bool.false_ne_true

theorem op_lt : OpR X (compareOp .Lt) (rI0 fun i j => .bl (decide (i < j))) := opB0 fun _ _ _ _ _ _ _ q => lt_int q
theorem op_gt : OpR X (compareOp .Gt) (rI0 fun i j => .bl (decide (j < i))) := opB0 fun _ _ _ _ _ _ _ q => gt_int q
theorem op_ge : OpR X (compareOp .GtE) (rI0 fun i j => .bl (decide (j ≤ i))) := opB0 fun _ _ _ _ _ _ _ q => ge_int q
/-- the one string within the other -/
theorem op_in_str : OpR X (compareOp .In) (fun x y H Q => ∃ i j, x = .str i ∧ y = .str j ∧ Q (.bl (!(Builtin.Str.occurrences j i 0 j.length 1).isEmpty)) H) := by
  intro pins s σ H x y v u Q I rx ry h
  obtain ⟨i, j, rfl, rfl, q⟩ := h
  obtain ⟨t, rfl⟩ := rx
  obtain ⟨t', rfl⟩ := ry
  exact in_str (fin_bl I q rfl)

/-- is None, is not None: the right side a value none -/
theorem op_isN : OpR X (compareOp .Is) (fun x y H Q => y = .non ∧ Q (.bl (decide (x = .non))) H) := by
  intro pins s σ H x y v u Q I rx ry h
  obtain ⟨rfl, q⟩ := h
  cases ry
  refine is_none_gen (fin_bl I q ?_)
  cases x <;> first
    | (cases rx; rfl)
    | (obtain ⟨t, rfl⟩ := rx; rfl)
theorem op_notN : OpR X (compareOp .IsNot) (fun x y H Q => y = .non ∧ Q (.bl (!decide (x = .non))) H) := by
  intro pins s σ H x y v u Q I rx ry h
  obtain ⟨rfl, q⟩ := h
  cases ry
  refine isnot_none_gen (fin_bl I q ?_)
  cases x <;> first
    | (cases rx; rfl)
    | (obtain ⟨t, rfl⟩ := rx; rfl)

/-- is, is not of two objects that are tracked lists or instances -/
def isObj : HO → Bool
  | .lst _ => true
  | .ins _ _ _ => true
  | _ => false
theorem nomark (b : Expr) {op : CmpOp} (h : op ≠ .In := by decide) (h2 : op ≠ .NotIn := by decide) : behindInMarks op b = false := by
  have e1 : (op == CmpOp.In) = false := by cases op <;> first | rfl | exact absurd rfl h
  have e2 : (op == CmpOp.NotIn) = false := by cases op <;> first | rfl | exact absurd rfl h2
  cases b <;> simp [behindInMarks, e1, e2]
/-- a comparison as a value; hm: nomark b, or (for in, not in) by with_unfolding_all rfl -/
theorem pe_cmpR {op : CmpOp} {r : R2} (ho : OpR X (compareOp op) r) (ha : PE X a ta) (hb : PE X b tb) (hm : behindInMarks op b = false) : PE X (.Compare a [op] [b] pos) (tOp r ta tb) := by
  intro pins s σ H Q I h
  exact wpAny_Compare1 (binT ha hb I h fun v u s2 x y H2 I2 rx ry q => ho pins s2 σ H2 x y v u Q I2 rx ry q) hm
/-- a reading of a value as a test -/
def tTest (t : TE) : TT := fun σ H Q => t σ H fun x H' => ∃ k, x = .bl k ∧ Q k H'
theorem pt_cmpR {op : CmpOp} {r : R2} (ho : OpR X (compareOp op) r) (ha : PE X a ta) (hb : PE X b tb) (hm : behindInMarks op b = false) : PT X (.Compare a [op] [b] pos) (tTest (tOp r ta tb)) := by
  intro pins s σ H Q I h
  refine wpAny_isTrue_Compare1 (thn (ha pins s σ H _ I h) fun v s1 ⟨x, H1, I1, r1, q1⟩ => thn (hb pins s1 σ H1 _ I1 q1) fun u s2 ⟨y, H2, I2, r2, q2⟩ =>
    thn (ho pins s2 σ H2 x y v u _ I2 r1 r2 q2) fun c s3 ⟨z, H3, I3, r3, k, e, q3⟩ => ?_) hm
  subst e
  cases r3
  exact wpAny_truthy_bool ⟨H3, I3, q3⟩
/-! ### truth -/
theorem line63 : (sizeLine : Nat) < 2 ^ 63 := by rw [sizeLine_eq]; decide
/-! ### strs and bytes -/
theorem op_add_str : OpR X (binaryOp .Add) (fun x y H Q => ∃ i j, x = .str i ∧ y = .str j ∧ i.length + j.length ≤ sizeLine ∧ Q (.str (i ++ j)) H) := by
  intro pins s σ H x y v u Q I rx ry h
  obtain ⟨i, j, rfl, rfl, hz, q⟩ := h
  obtain ⟨t, rfl⟩ := rx
  obtain ⟨t', rfl⟩ := ry
  exact add_str (fun t' tk => ⟨.str (i ++ j), H, I.tok _, ⟨_, rfl⟩, q⟩) hz
/-! ### scalar builtins, by CallR -/
theorem vals1 {x : V} {us : List Value} (r : Vals [x] us) : ∃ u, us = [u] ∧ RelV x u := by
  cases r with
  | cons r1 r2 => cases r2; exact ⟨_, rfl, r1⟩
theorem vals2 {x y : V} {us : List Value} (r : Vals [x, y] us) : ∃ u w', us = [u, w'] ∧ RelV x u ∧ RelV y w' := by
  cases r with
  | cons r1 r2 =>
    cases r2 with
    | cons r3 r4 => cases r4; exact ⟨_, _, rfl, r1, r3⟩
end
end L2

namespace L2
open PySem PySem.Spec PyProof.Rows

/-! ### an instance, its attributes a map -/
structure ObjM (h : Heap) (x dx C : Addr) (mA : Str → Option Value) : Prop where
  obj : h.get? x = some (PySem.W.instObj C dx)
  ns : h.Ns1 dx mA
  ne : dx ≠ x

theorem lookIn_ns {h : Heap} {dx : Addr} {mA : Str → Option Value} (n : h.Ns1 dx mA) : ∃ od, h.get? dx = some od ∧ ∀ name, PySem.W.lookIn name od = some (mA name) := by
  obtain ⟨o, es, ep, ho, hd, hk, _, hm⟩ := n
  refine ⟨o, ho, fun name => ?_⟩
  have e := hm name
  unfold nsFind findBy at e
  rw [← Array.find?_toList] at e
  unfold PySem.W.lookIn
  rw [hd]
  dsimp only
  split
  · rename_i y q
    rw [q] at e
    exact congrArg some e
  · rename_i q
    rw [q] at e
    have a : es.toList.any (·.refKey) = false := by
      rw [List.any_eq_false]
      intro y hy
      obtain ⟨z, t, hkey⟩ := hk y (Array.mem_toList_iff.mp hy)
      simp [DictEntry.refKey, hkey]
    have a' : ¬ es.toList.any (·.refKey) = true := by rw [a]; exact Bool.false_ne_true
    rw [if_neg a']
    exact congrArg some e

theorem ObjM.look {h : Heap} {x dx C : Addr} {mA : Str → Option Value} (I : ObjM h x dx C mA) : ∃ od, PySem.W.InstAt h x (PySem.W.instObj C dx) C (some od) ∧ ∀ name, PySem.W.lookIn name od = some (mA name) :=
  let ⟨od, ho, hl⟩ := lookIn_ns I.ns
  ⟨od, ⟨I.obj, rfl, rfl, ho⟩, hl⟩

section
variable {prog : Program} {w : World} {A : Around} {E : Value → Shared → Prop} {s : Shared} {K : PySem.W.Frag} {x dx C f : Addr} {mA : Str → Option Value} {name : Str} {v : Value}

theorem get_map {expr : Bool} {Q : Value → Shared → Prop} (X : K.In s.heap) (I : ObjM s.heap x dx C mA) (hg : PySem.W.plainGet K C name = true) (hh : PySem.W.hasDictIn K C = true)
    (ha : PySem.W.findIn K (.ref C) name = some none) (hv : mA name = some v) (hv' : PySem.W.handedIn v = true) (h : Q v { s with toks := s.toks + 1 }) :
    wpAny (model prog w) A (getAttr (.ref x) name expr) Q E s := by
  obtain ⟨od, J, hl⟩ := I.look
  exact PySem.W.get_value X J (PySem.W.plainGet_of hg).1 (PySem.W.findObj_own hh ha rfl (by rw [hl, hv])) hv' h

theorem get_meth {pl : Sem Bool} {Q : Value × List Value → Shared → Prop} (X : K.In s.heap) (I : ObjM s.heap x dx C mA) (hg : PySem.W.plainGet K C name = true)
    (hf : PySem.W.findIn K (.ref C) name = some (some (.ref f))) (ht : PySem.W.isFn K (.ref f) = true) (hv : mA name = none) (h : Q (.ref f, [.ref x]) s) :
    wpAny (model prog w) A (getMethod (.ref x) name pl) Q E s := by
  obtain ⟨od, J, hl⟩ := I.look
  exact PySem.W.method_fn X J (PySem.W.plainGet_of hg).1 (PySem.W.plainGet_of hg).2 hf (beq_iff_eq.mp ht) (by show (PySem.W.lookIn name od).map (·.isSome) = some false; rw [hl, hv]; rfl) h

theorem set_map {ns : List Str} {Q : Unit → Shared → Prop} (X : K.In s.heap) (I : ObjM s.heap x dx C mA)
    (hs : PySem.W.findIn K (.ref C) "__setattr__" = some (some (.builtin "object.__setattr__"))) (hp : PySem.W.plainOver K C = true) (ht : PySem.W.takerIn K C name = some none) (hh : PySem.W.hasDictIn K C = true)
    (hw : PySem.Within mA ns) (hsz : ns.length ≤ sizeLine)
    (h : ∀ h', ObjM h' x dx C (fun y => if y = name then some v else mA y) → Heap.SameBut dx s.heap h' → Q () { s with heap := h', toks := s.toks + 2 }) :
    wpAny (model prog w) A (setAttr (.ref x) name v) Q E s := by
  obtain ⟨od, J, hl⟩ := I.look
  refine PySem.W.set_plain X J hs (PySem.W.osa_open (s := { s with toks := s.toks + 1 }) (r := none) X J hp ht fun b => ?_)
  obtain ⟨cd, hc, hd'⟩ := PySem.W.any_some hh
  have hx : s.heap.get? x = some ⟨.ref C, some dx, .plain, #[]⟩ := I.obj
  refine wpAny_bind (wpAny_pure (wpAny_bind (wpAny_bind (wpAny_loadPart hx (wpAny_bind (PySem.W.Looks.here (s := { s with toks := s.toks + 1 }) (PySem.W.looks_clsIn X hc) ?_))))))
  rw [hd']
  refine wpAny_pure (a := some dx) (wpAny_bind (wpAny_pure (wpAny_bind ?_)))
  refine wpAny_nsSet1 (s := { s with toks := s.toks + 1 }) I.ns fun h' hn2 hs2 => ?_
  obtain ⟨oD, esD, epD, hoD, hdD, hcD⟩ := hn2.count (PySem.Within.cons name v hw)
  refine wpAny_bind (wpAny_lookBehind hoD (by rw [hdD]; exact pastItsLine_dict (Nat.le_trans hcD (by rw [List.length_cons]; omega))) ?_)
  exact wpAny_pure (h _ ⟨(hs2.2 _ (Ne.symm I.ne)).trans I.obj, hn2, I.ne⟩ hs2)

/-- C(..): the dict at the heap's end, the instance behind it; then its __init__ -/
theorem make_map {R : Result → Shared → Prop} {vs : List Value} {kw : List (Str × Value)} (X : K.In s.heap) (hm : PySem.W.makesIn K C = true)
    (hi : PySem.W.findIn K (.ref C) "__init__" = some (some (.ref f))) (hf : PySem.W.typeIn K (.ref f) = some (.type "function"))
    (h : codeAny (model prog w) (A.under (.builtin "type.__call__" ⟨.ref C :: vs, kw⟩)) (.call (.ref f) ⟨.ref (s.heap.objs.size + 1) :: vs, kw⟩) (PySem.W.InitBack (s.heap.objs.size + 1) R)
      { s with heap := (s.heap.push PySem.W.emptyDict).push (PySem.W.instObj C s.heap.objs.size) }) :
    codeAny (model prog w) A (.call (.ref C) ⟨vs, kw⟩) R s := by
  obtain ⟨hh, g, d, t, os⟩ := s
  exact PySem.W.make_core (PySem.W.makes_of X hm) (PySem.W.looks_findIn X hi) (fun self => PySem.W.bind_fn X self hf) (.inl rfl) h
end

/-! ### the attributes as a list of pairs -/
def putF (f : Str) (v : V) : List (Str × V) → List (Str × V)
  | [] => [(f, v)]
  | (g, x) :: r => if g = f then (g, v) :: r else (g, x) :: putF f v r
theorem lookup_putF (f g : Str) (v : V) : ∀ fs : List (Str × V), (putF f v fs).lookup g = if g = f then some v else fs.lookup g
  | [] => by
    show List.lookup g [(f, v)] = _
    by_cases h : g = f
    · have hb : (g == f) = true := beq_iff_eq.mpr h
      simp only [List.lookup, hb, if_pos h]
    · have hb : (g == f) = false := beq_eq_false_iff_ne.mpr h
      simp only [List.lookup, hb, if_neg h]
  | (k, x) :: r => by
    have ih := lookup_putF f g v r
    rw [show putF f v ((k, x) :: r) = (if k = f then (k, v) :: r else (k, x) :: putF f v r) from rfl]
    by_cases hk : k = f
    · rw [if_pos hk]
      by_cases h : g = k
      · have hb : (g == k) = true := beq_iff_eq.mpr h
        simp only [List.lookup, hb, if_pos (h.trans hk)]
      · have hb : (g == k) = false := beq_eq_false_iff_ne.mpr h
        simp only [List.lookup, hb, if_neg (fun e : g = f => h (e.trans hk.symm))]
    · rw [if_neg hk]
      by_cases h : g = k
      · have hb : (g == k) = true := beq_iff_eq.mpr h
        simp only [List.lookup, hb, if_neg (fun e : g = f => hk (h.symm.trans e))]
      · have hb : (g == k) = false := beq_eq_false_iff_ne.mpr h
        simp only [List.lookup, hb]
        exact ih
theorem keys_putF (f : Str) (v : V) : ∀ fs : List (Str × V), f ∈ (putF f v fs).map (·.1) ∧ ∀ g, g ∈ fs.map (·.1) → g ∈ (putF f v fs).map (·.1)
  | [] => ⟨by simp [putF], fun g h => by simp at h⟩
  | (k, x) :: r => by
    obtain ⟨i1, i2⟩ := keys_putF f v r
    rw [show putF f v ((k, x) :: r) = (if k = f then (k, v) :: r else (k, x) :: putF f v r) from rfl]
    by_cases hk : k = f
    · rw [if_pos hk]
      subst hk
      exact ⟨by simp, fun g h => by simpa using h⟩
    · rw [if_neg hk]
      refine ⟨?_, fun g h => ?_⟩
      · rw [List.map_cons]
        exact List.mem_cons_of_mem _ i1
      · rw [List.map_cons] at h ⊢
        rcases List.mem_cons.mp h with e | e
        · exact List.mem_cons.mpr (.inl e)
        · exact List.mem_cons_of_mem _ (i2 g e)
theorem length_putF (f : Str) (v : V) : ∀ fs : List (Str × V), (putF f v fs).length ≤ fs.length + 1
  | [] => by simp [putF]
  | (k, x) :: r => by
    have ih := length_putF f v r
    rw [show putF f v ((k, x) :: r) = (if k = f then (k, v) :: r else (k, x) :: putF f v r) from rfl]
    by_cases hk : k = f
    · rw [if_pos hk, List.length_cons, List.length_cons]; omega
    · rw [if_neg hk, List.length_cons, List.length_cons]; omega

theorem RelO.some_of {v : V} {o : Option Value} (r : RelO (some v) o) : ∃ u, o = some u ∧ RelV v u := by
  cases o with
  | none => exact (show False from r).elim
  | some u => exact ⟨u, rfl, r⟩
theorem RelO.none_of {o : Option Value} (r : RelO none o) : o = none := by
  cases o with
  | none => rfl
  | some u => exact (show False from r).elim
theorem handed_of {v : V} {u : Value} (r : RelV v u) : PySem.W.handedIn u = true := by
  cases v with
  | non => cases (show u = Value.none from r); rfl
  | bl b => cases (show u = Value.bool b from r); rfl
  | int i => obtain ⟨t, e⟩ := (show ∃ t, u = Value.int i t from r); cases e; rfl
  | str x => obtain ⟨t, e⟩ := (show ∃ t, u = Value.str x t from r); cases e; rfl
  | byt b => obtain ⟨t, e⟩ := (show ∃ t, u = Value.bytes b t from r); cases e; rfl
  | flt b => obtain ⟨t, e⟩ := (show ∃ t, u = Value.float b t from r); cases e; rfl
  | ref a => cases (show u = Value.ref a from r); rfl
  | ty n => cases (show u = Value.type n from r); rfl

section
variable {P : Program} {w : World} {H H' : Hp} {h h' : Heap} {a C dx : Addr} {fs fs' : List (Str × V)}
theorem ins_get (hok : HOk P w H h) (e : H a = some (.ins C dx fs)) : ∃ mA, ObjM h a dx C mA ∧ (∀ f, RelO (fs.lookup f) (mA f)) ∧ PySem.Within mA (fs.map (·.1)) ∧ fs.length ≤ 1000 ∧ H dx = some (.own a) := by
  obtain ⟨d, z, ne, ob, mA, n, r, q⟩ := (show ObjOk P w H h a (.ins C dx fs) from hok a _ e)
  exact ⟨mA, ⟨ob, n, ne⟩, r, q, z, d⟩
end

/-! ### what of the text a class must have -/
structure Cls (K : PySem.W.Frag) (C : Addr) : Prop where
  pg : PySem.W.plainGet K C Str.empty = true
  hd : PySem.W.hasDictIn K C = true
  po : PySem.W.plainOver K C = true
  sa : PySem.W.findIn K (.ref C) "__setattr__" = some (some (.builtin "object.__setattr__"))
theorem Cls.get {K : PySem.W.Frag} {C : Addr} (c : Cls K C) (f : Str) : PySem.W.plainGet K C f = true := c.pg
/-- no class of it has the name -/
def NoAttr (K : PySem.W.Frag) (C : Addr) (f : Str) : Prop := PySem.W.findIn K (.ref C) f = some none
theorem NoAttr.taker {K : PySem.W.Frag} {C : Addr} {f : Str} (n : NoAttr K C f) : PySem.W.takerIn K C f = some none := by
  unfold PySem.W.takerIn
  rw [show PySem.W.findIn K (.ref C) f = some none from n]
  rfl
/-- a method: a plain def of the class or of one above it -/
structure Meth (K : PySem.W.Frag) (C : Addr) (m : Str) (f : Addr) : Prop where
  at_ : PySem.W.findIn K (.ref C) m = some (some (.ref f))
  fn : PySem.W.isFn K (.ref f) = true
  kp : PySem.W.keepIn K (.ref f) = true

section
variable {X : Cx} {pins : List (Addr × Obj)} {σ : St} {H : Hp} {s : Shared} {a C dx : Addr} {fs : List (Str × V)} {f : Str} {v : V} {A : Around} {E : Value → Shared → Prop}

theorem getattr_ok {b : Bool} {Q : Value → Shared → Prop} (I : Inv X pins σ H s) (e : H a = some (.ins C dx fs)) (c : Cls X.K C) (n : NoAttr X.K C f) (l : fs.lookup f = some v)
    (h : ∀ u s', Inv X pins σ H s' → RelV v u → Q u s') : wpAny (model X.prog X.w) A (getAttr (.ref a) f b) Q E s := by
  obtain ⟨mA, O, r, _, _, _⟩ := ins_get I.hok e
  obtain ⟨u, hu, ru⟩ := RelO.some_of (v := v) (o := mA f) (by rw [← l]; exact r f)
  exact get_map I.kIn O (c.get f) c.hd n hu (handed_of ru) (h u _ (I.tok _) ru)

theorem getmeth_ok {m : Str} {g : Addr} {pl : Sem Bool} {Q : Value × List Value → Shared → Prop} (I : Inv X pins σ H s) (e : H a = some (.ins C dx fs)) (c : Cls X.K C) (k : Meth X.K C m g) (l : fs.lookup m = none)
    (h : Q (.ref g, [.ref a]) s) : wpAny (model X.prog X.w) A (getMethod (.ref a) m pl) Q E s := by
  obtain ⟨mA, O, r, _, _, _⟩ := ins_get I.hok e
  have hn : mA m = none := RelO.none_of (by rw [← l]; exact r m)
  exact get_meth I.kIn O (c.get m) k.at_ k.fn hn h

theorem setattr_ok {y : V} {u : Value} {Q : Unit → Shared → Prop} (I : Inv X pins σ H s) (e : H a = some (.ins C dx fs)) (c : Cls X.K C) (n : NoAttr X.K C f) (hl : fs.length < 1000) (ry : RelV y u)
    (h : ∀ s', Inv X pins σ (upd H a (.ins C dx (putF f y fs))) s' → Q () s') : wpAny (model X.prog X.w) A (setAttr (.ref a) f u) Q E s := by
  obtain ⟨mA, O, r, wi, _, ho⟩ := ins_get I.hok e
  have hz : (fs.map (·.1)).length ≤ sizeLine := by rw [List.length_map, sizeLine_eq]; omega
  refine set_map I.kIn O c.sa c.po n.taker c.hd wi hz fun h' O' sb => h _ ?_
  have hd : ∃ o, h'.get? dx = some o := let ⟨o, _, _, e', _⟩ := O'.ns; ⟨o, e'⟩
  refine I.write (x := a) (e := dx) (by rw [e]; exact True.intro) (.inr ho) (fun b q hb z => (sb.2 b hb).trans z) hd ?_
  refine ⟨by rw [upd_ne O.ne]; exact ho, ?_, O.ne, O'.obj, _, O'.ns, fun g => ?_, fun g hg => ?_⟩
  · have := length_putF f y fs; omega
  · show RelO ((putF f y fs).lookup g) (if g = f then some u else mA g)
    rw [lookup_putF]
    by_cases q : g = f
    · rw [if_pos q, if_pos q]; exact ry
    · rw [if_neg q, if_neg q]; exact r g
  · by_cases q : g = f
    · rw [q]; exact (keys_putF f y fs).1
    · refine (keys_putF f y fs).2 g (wi g fun z => hg ?_)
      show (if g = f then some u else mA g) = none
      rw [if_neg q]; exact z

/-- a new instance, tracked, without attributes -/
theorem Inv.made (I : Inv X pins σ H s) : Inv X pins σ (upd (upd H s.heap.objs.size (.own (s.heap.objs.size + 1))) (s.heap.objs.size + 1) (.ins C s.heap.objs.size []))
    { s with heap := (s.heap.push PySem.W.emptyDict).push (PySem.W.instObj C s.heap.objs.size) } := by
  have e1 : (s.heap.push PySem.W.emptyDict).get? s.heap.objs.size = some PySem.W.emptyDict := Heap.get?_push_size s.heap rfl
  have e2 : ((s.heap.push PySem.W.emptyDict).push (PySem.W.instObj C s.heap.objs.size)).get? (s.heap.objs.size + 1) = some (PySem.W.instObj C s.heap.objs.size) := by
    have := Heap.get?_push_size (s.heap.push PySem.W.emptyDict) (o := PySem.W.instObj C s.heap.objs.size) rfl
    rwa [Heap.size_push] at this
  have e3 : (s.heap.push PySem.W.emptyDict).Ns s.heap.objs.size (fun _ => none) := ⟨PySem.W.emptyDict, #[], _, e1, rfl, (fun e he => absurd he (by simp)), fun _ => rfl⟩
  have I1 := I.laid (a := s.heap.objs.size) (o := .own (s.heap.objs.size + 1)) (h' := s.heap.push PySem.W.emptyDict) (t' := s.toks) (fun b u q => Heap.get?_push_of_some _ q) (Nat.le_refl _) ⟨_, e1⟩
  refine I1.laid (a := s.heap.objs.size + 1) (o := .ins C s.heap.objs.size []) (t' := s.toks) (fun b u q => Heap.get?_push_of_some _ q) (Nat.le_of_eq (Heap.size_push _ _)) ?_
  have ne : s.heap.objs.size ≠ s.heap.objs.size + 1 := Nat.ne_of_lt (Nat.lt_succ_self _)
  refine ⟨by rw [upd_ne ne, upd_same], Nat.zero_le _, ne, e2, fun _ => none, (Heap.Ns1.of_empty e3).at fun o q => Heap.get?_push_of_some _ q, fun _ => True.intro, fun y hy => absurd rfl hy⟩

/-- e.f where nothing but the object is asked: through attributeBase (super) and the last hold -/
theorem attr_of {prog : Program} {w : World} {env : Env} {e : Expr} {f : Str} {pos : Pos} {s : Shared} {Q : Value → Shared → Prop} (hb : attributeBase e f env (eval e env) = eval e env)
    (h : wpAny (model prog w) A (eval e env) (fun o s₁ => wpAny (model prog w) A (getAttr o f true) Q E s₁) E s) : wpAny (model prog w) A (eval (.Attribute e f pos) env) Q E s :=
  Attribute_any_ h (by rw [arm_eval_Attribute, hb])
end

/-! ### readings and rules -/
/-- e.f, an attribute of the instance -/
def tFld (K : PySem.W.Frag) (ta : TE) (f : Str) : TE := fun σ H Q => ta σ H fun x H1 => ∃ a C dx fs v, x = .ref a ∧ H1 a = some (.ins C dx fs) ∧ Cls K C ∧ NoAttr K C f ∧ fs.lookup f = some v ∧ Q v H1
/-- e.f = value -/
def sFld (K : PySem.W.Frag) (ta tv : TE) (f : Str) : TS := fun D σ H => tv σ H fun y H1 => ta σ H1 fun x H2 => ∃ a C dx fs, x = .ref a ∧ H2 a = some (.ins C dx fs) ∧ Cls K C ∧ NoAttr K C f ∧ fs.length < 1000 ∧
  D.nx σ (upd H2 a (.ins C dx (putF f y fs)))
section
variable {X : Cx} {o e value : Expr} {f : Str} {pos pos' tpos : Pos} {ta tv : TE}
theorem pe_fld (he : PE X e ta) (hb : attributeBase e f X.env (eval e X.env) = eval e X.env) : PE X (.Attribute e f pos) (tFld X.K ta f) := by
  intro pins s σ H Q I h
  refine attr_of hb (thn (he pins s σ H _ I h) fun u s1 ⟨x, H1, I1, rx, a, C, dx, fs, v, ex, ea, c, n, l, q⟩ => ?_)
  subst ex
  obtain rfl : u = Value.ref a := rx
  exact getattr_ok I1 ea c n l fun u' s2 I2 ru => ⟨v, H1, I2, ru, q⟩
theorem ps_fld (ha : PE X o ta) (hv : PE X value tv) (hs : swapsWith value (some (.Attribute o f pos')) pos.line X.env = pure false) : PS X (.Assign [.Attribute o f pos'] value pos) (sFld X.K ta tv f) := by
  intro pins s σ H D I h
  refine plainObj_wpAny_Assign_Attribute (thn (hv pins s σ H _ I h) fun u s1 ⟨y, H1, I1, ry, q⟩ => thn (ha pins s1 σ H1 _ I1 q) fun ov s2 ⟨x, H2, I2, rx, a, C, dx, fs, ex, ea, c, n, l, q2⟩ => ?_) hs
  subst ex
  obtain rfl : ov = Value.ref a := rx
  exact setattr_ok I2 ea c n l ry fun s3 I3 => ⟨σ, _, I3, q2⟩
end

/-! ### isinstance -/
section
variable {X : Cx} {pins : List (Addr × Obj)} {σ : St} {H : Hp} {s : Shared} {A : Around} {E : Value → Shared → Prop} {Q : Value → Shared → Prop} {c : Value} {b : Bool}
/-- the type of a value, as the fragment's deciders take it; for an instance its class -/
inductive TyOf (K : PySem.W.Frag) (H : Hp) : V → Value → Prop where
  | non : TyOf K H .non (.type "NoneType")
  | bl (x : Bool) : TyOf K H (.bl x) (.type "bool")
  | int (i : Int) : TyOf K H (.int i) (.type "int")
  | str (x : Str) : TyOf K H (.str x) (.type "str")
  | flt (x : UInt64) : TyOf K H (.flt x) (.type "float")
  | lst {a : Addr} {xs : List V} (e : H a = some (.lst xs)) : TyOf K H (.ref a) (.type "list")
  | frz {a : Addr} {o : Obj} {xs : List V} (e : H a = some (.frz o (.lst xs))) : TyOf K H (.ref a) (.type "list")
  | tup {a : Addr} {xs : List V} (e : H a = some (.tup xs)) : TyOf K H (.ref a) (.type "tuple")
  | dK {a : Addr} {kvs : List (Key × V)} (e : H a = some (.dK kvs)) : TyOf K H (.ref a) (.type "dict")
  | dT {a : Addr} {kvs : List (List Key × V)} (e : H a = some (.dT kvs)) : TyOf K H (.ref a) (.type "dict")
  | ins {a C dx : Addr} {fs : List (Str × V)} (e : H a = some (.ins C dx fs)) (cl : Cls K C) (ha : PySem.W.findIn K (.ref C) "__class__" = some (some (.builtin "object.__class__")))
      (hn : PySem.W.specialIn K (.builtin "object.__class__") "__get__" = some (some (.builtin "getset_descriptor.__get__"))) (htk : PySem.W.takesIn K (.builtin "object.__class__") = some true)
      (hm : PySem.W.mroIn K C (.type "object") = some true) : TyOf K H (.ref a) (.ref C)
/-- isinstance(x, c) for one class c, a built-in or an own one: kitOne's answer -/
theorem isinst_ok {x : V} {u t : Value} (I : Inv X pins σ H s) (rx : RelV x u) (ty : TyOf X.K H x t) (e : PySem.W.kitOne X.K t c = some b) (h : ∀ tk, Q (.bool b) { s with toks := tk }) :
    wpAny (model X.prog X.w) A (call (.builtin "isinstance") [u, c]) Q E s := by
  cases ty with
  | non => cases (show u = Value.none from rx); exact PySem.W.kia_one PySem.W.kitx_none I.kIn True.intro e (fun z => nomatch z) h
  | bl y => cases (show u = Value.bool y from rx); exact PySem.W.kia_one PySem.W.kitx_bool I.kIn True.intro e (fun z => nomatch z) h
  | int i => obtain ⟨t, q⟩ := (show ∃ t, u = Value.int i t from rx); cases q; exact PySem.W.kia_one PySem.W.kitx_int I.kIn True.intro e (fun z => nomatch z) h
  | str y => obtain ⟨t, q⟩ := (show ∃ t, u = Value.str y t from rx); cases q; exact PySem.W.kia_one PySem.W.kitx_str I.kIn True.intro e (fun z => nomatch z) h
  | flt y => obtain ⟨t, q⟩ := (show ∃ t, u = Value.float y t from rx); cases q; exact PySem.W.kia_one PySem.W.kitx_float I.kIn True.intro e (fun z => nomatch z) h
  | @lst a xs ea =>
    cases (show u = Value.ref a from rx)
    obtain ⟨_, _, n, _, h1⟩ := (show ObjOk X.prog X.w H s.heap a (.lst xs) from I.hok a _ ea)
    exact PySem.W.kia_one PySem.W.kitx_list I.kIn ⟨_, h1, rfl⟩ e (fun z => nomatch z) h
  | @frz a ob xs ea =>
    cases (show u = Value.ref a from rx)
    obtain ⟨_, _, _, n, _, h1⟩ := (show ObjOk X.prog X.w H s.heap a (.frz ob (.lst xs)) from I.hok a _ ea)
    exact PySem.W.kia_one PySem.W.kitx_list I.kIn ⟨_, h1, rfl⟩ e (fun z => nomatch z) h
  | @tup a xs ea =>
    cases (show u = Value.ref a from rx)
    obtain ⟨_, _, _, p⟩ := (show ObjOk X.prog X.w H s.heap a (.tup xs) from I.hok a _ ea)
    obtain ⟨o, h1, h2, _⟩ := p
    exact PySem.W.kia_one PySem.W.kitx_tuple I.kIn ⟨o, h1, h2⟩ e (fun z => nomatch z) h
  | @dK a kvs ea =>
    cases (show u = Value.ref a from rx)
    obtain ⟨_, _, vs, _, p⟩ := (show ObjOk X.prog X.w H s.heap a (.dK kvs) from I.hok a _ ea)
    obtain ⟨o, es, ep, h1, h2, _⟩ := p
    exact PySem.W.kia_one PySem.W.kitx_dict I.kIn ⟨o, h1, h2.1⟩ e (fun z => nomatch z) h
  | @dT a kvs ea =>
    cases (show u = Value.ref a from rx)
    obtain ⟨_, _, xs, _, o, es, ep, h1, h2, _⟩ := (show ObjOk X.prog X.w H s.heap a (.dT kvs) from I.hok a _ ea)
    exact PySem.W.kia_one PySem.W.kitx_dict I.kIn ⟨o, h1, h2.1⟩ e (fun z => nomatch z) h
  | @ins a C dx fs ea cl ha hn htk hm =>
    cases (show u = Value.ref a from rx)
    obtain ⟨mA, O, _⟩ := ins_get I.hok ea
    obtain ⟨od, J, _⟩ := O.look
    exact PySem.W.kia_one (PySem.W.kitx_own (cl.get _) cl.hd ha hn htk hm) I.kIn J e (fun z => nomatch z) h
end
end L2

namespace L2
open PySem PySem.Spec PyProof.Rows

/-! ### room -/
structure Room (k : Nat) (A : Around) : Prop where
  hd : A.handled = none
  dp : A.depth + 3 * k + 5 < recursionLimit
  un : A.units + 16 * k + 200 < cLine
  gd : A.guards = some []
theorem Room.mono {j k : Nat} {A : Around} (r : Room k A) (h : j ≤ k) : Room j A := ⟨r.hd, by have := r.dp; omega, by have := r.un; omega, by first | exact r.gd | simpa [Around.under, Around.deeper, Code.guards, Code.isGuard, guardIds, pushGuards] using r.gd⟩
theorem Room.deeper {k : Nat} {A : Around} (r : Room (k + 1) A) (env : Env) : Room k (A.deeper env) :=
  ⟨r.hd, by have := r.dp; show A.depth + 1 + 3 * k + 5 < _; omega, by have := r.un; show A.units + 3 + 16 * k + 200 < _; omega, by first | exact r.gd | simpa [Around.under, Around.deeper, Code.guards, Code.isGuard, guardIds, pushGuards] using r.gd⟩
theorem make_depth {A : Around} {C : Addr} {us : List Value} {kw : List (Str × Value)} : (A.under (.builtin "type.__call__" ⟨.ref C :: us, kw⟩)).depth = A.depth + 1 := by
  first | rfl | simp [Around.under, Code.weight, Code.isCreation, Code.isGuard, Code.isCaller, Code.frames, Code.isFrame, guardIds]
theorem make_units {A : Around} {C : Addr} {us : List Value} {kw : List (Str × Value)} : (A.under (.builtin "type.__call__" ⟨.ref C :: us, kw⟩)).units = A.units + 1 := by
  first | rfl | simp [Around.under, Code.cUnits, Code.frames, Code.isFrame]
theorem Room.make {k : Nat} {A : Around} (r : Room (k + 1) A) (C : Addr) (us : List Value) (kw : List (Str × Value)) : Room k (A.under (.builtin "type.__call__" ⟨.ref C :: us, kw⟩)) :=
  ⟨r.hd, by have := r.dp; rw [make_depth]; omega, by have := r.un; rw [make_units]; omega, by first | exact r.gd | simpa [Around.under, Around.deeper, Code.guards, Code.isGuard, guardIds, pushGuards] using r.gd⟩
theorem Room.depth {k : Nat} {A : Around} (r : Room k A) : A.depth < recursionLimit := by have := r.dp; omega
theorem Room.units {k : Nat} {A : Around} (r : Room k A) : A.units + 64 < cLine := by have := r.un; omega
theorem Room.units0 {k : Nat} {A : Around} (r : Room k A) : A.units < cLine := by have := r.un; omega

/-! ### argument lists and displays -/
def tNil : TA := fun _ H Q => Q [] H
def tCons (ta : TE) (tr : TA) : TA := fun σ H Q => ta σ H fun x H1 => tr σ H1 fun xs H2 => Q (x :: xs) H2
section
variable {X : Cx} {e : Expr} {es : List Expr} {te : TE} {t : TA} {pos : Pos}
theorem pa_nil : PA X [] tNil := fun _ _ _ _ H Q I h => Calls.spliced_nil ⟨[], H, I, .nil, h⟩
theorem pa_cons (ha : PE X e te) (hr : PA X es t) (hs : starEach (e :: es) X.env = (false, eval e X.env) :: starEach es X.env := by rfl) : PA X (e :: es) (tCons te t) := by
  intro pos pins s σ H Q I h
  rw [hs]
  show wpAny _ _ (spliced ((false, eval e X.env) :: backTo pos (starEach es X.env))) _ _ s
  refine Calls.spliced_cons (thn (ha pins s σ H _ I h) fun u s1 ⟨x, H1, I1, r1, q1⟩ => ?_)
  exact thn (hr pos pins s1 σ H1 _ I1 q1) fun us s2 ⟨xs, H2, I2, r2, q2⟩ => ⟨x :: xs, H2, I2, .cons r1 r2, q2⟩

/-- a tuple, a list of written items -/
def tTup (t : TA) : TE := fun σ H Q => t σ H fun xs H1 => xs.length ≤ sizeLine ∧ ∀ p, H1 p = none → Q (.ref p) (upd H1 p (.tup xs))
def tLst (t : TA) : TE := fun σ H Q => t σ H fun xs H1 => xs.length ≤ sizeLine ∧ ∀ p, H1 p = none → Q (.ref p) (upd H1 p (.lst xs))
theorem pe_tup {x1} (h : PA X es t) : PE X (.Tuple es x1 pos) (tTup t) := by
  intro pins s σ H Q I hq
  refine wpAny_Tuple_spliced (thn (h pos pins s σ H _ I hq) fun us s1 ⟨xs, H1, I1, r, z, q⟩ => ⟨by rw [← r.length]; exact z, ?_⟩)
  have hf : H1 s1.heap.objs.size = none := I1.hok.fresh (Nat.le_refl _)
  refine ⟨.ref s1.heap.objs.size, upd H1 s1.heap.objs.size (.tup xs), I1.laid (t' := s1.toks) (fun b u e => Heap.get?_push_of_some _ e) (Nat.le_refl _) ?_, rfl, q _ hf⟩
  exact ⟨z, us, r, ⟨_, Heap.get?_push_size _ rfl, rfl, _, rfl⟩⟩
theorem pe_lst (h : PA X es t) : PE X (.List es pos) (tLst t) := by
  intro pins s σ H Q I hq
  refine wpAny_List_spliced (thn (h pos pins s σ H _ I hq) fun us s1 ⟨xs, H1, I1, r, z, q⟩ => ⟨by rw [← r.length]; exact z, ?_⟩)
  have hf : H1 s1.heap.objs.size = none := I1.hok.fresh (Nat.le_refl _)
  refine ⟨.ref s1.heap.objs.size, upd H1 s1.heap.objs.size (.lst xs), I1.laid (t' := s1.toks) (fun b u e => Heap.get?_push_of_some _ e) (Nat.le_refl _) ?_, rfl, q _ hf⟩
  exact ⟨z, us, 0, r, Heap.get?_push_size _ rfl⟩
end

/-! ### what a def promises -/
/-- a def's promise: the bound arguments in the parameters' order, the heap, the wanted end, the wanted exception -/
abbrev Sp := List V → Hp → VK → XK → Prop
/-- how an exception lies behind a call (file 08 gives it): the callers' frames, abstract heap and state ahead of the call, the wish, the exception, the state -/
abbrev CXT := List Env → Hp → Shared → XK → Value → Shared → Prop

/-- the state at a call -/
structure Env0 (P : Program) (w : World) (K : PySem.W.Frag) (mg : Str → Option Value) (base : Heap) (A : Around) (outer : List Env) (s : Shared) (H : Hp) : Prop where
  frames : A.frames = some outer
  mod : Mod K mg base
  bs : ∀ b o, base.get? b = some o → s.heap.get? b = some o ∧ H b = none
  bsz : base.objs.size ≤ s.heap.objs.size
  funs : s.heap.FunFrames base outer
  frf : ∀ b ∈ frs outer, H b = none
  hok : HOk P w H s.heap
  bare : AllBare s.gens
/-- a call's end -/
def CE (outer : List Env) (P : Program) (w : World) (H : Hp) (s : Shared) (Q : VK) (u : Value) (s' : Shared) : Prop :=
  ∃ v H', s'.os = s.os ∧ AllBare s'.gens ∧ Un (frs outer) [] H H' s.heap s'.heap ∧ HOk P w H' s'.heap ∧ RelV v u ∧ Q v H'
def CR (CX : CXT) (outer : List Env) (P : Program) (w : World) (H : Hp) (s : Shared) (Q : VK) (E : XK) (r : Result) (s' : Shared) : Prop :=
  match r with
  | .ok (.ret u) => CE outer P w H s Q u s'
  | .ok _ => False
  | .error e => CX outer H s E e s'
structure FnOk (P : Program) (w : World) (K : PySem.W.Frag) (mg : Str → Option Value) (base : Heap) (CX : CXT) (k : Nat) (f : Addr) (fd : FuncData) (ps : List Str) (sp : Sp) : Prop where
  len : ∀ vs H Q E, sp vs H Q E → vs.length = ps.length
  run : ∀ (A : Around) (outer : List Env) (s : Shared) (H : Hp) (args : Args) (us : List Value) (vs : List V) (Q : VK) (E : XK), Room k A → Env0 P w K mg base A outer s H → BindsTo s fd args (ps.zip us) → Vals vs us → sp vs H Q E →
    codeAny (model P w) A (.call (.ref f) args) (CR CX outer P w H s Q E) s
/-- a weaker promise -/
theorem FnOk.imp {P : Program} {w : World} {K : PySem.W.Frag} {mg : Str → Option Value} {base : Heap} {CX : CXT} {k : Nat} {f : Addr} {fd : FuncData} {ps : List Str} {sp sp' : Sp} (F : FnOk P w K mg base CX k f fd ps sp)
    (h : ∀ vs H Q E, sp' vs H Q E → sp vs H Q E) : FnOk P w K mg base CX k f fd ps sp' :=
  ⟨fun vs H Q E q => F.len vs H Q E (h _ _ _ _ q), fun A outer s H args us vs Q E hr he hb hv hs => F.run A outer s H args us vs Q E hr he hb hv (h _ _ _ _ hs)⟩

theorem Env0.make {P : Program} {w : World} {K : PySem.W.Frag} {mg : Str → Option Value} {base : Heap} {A : Around} {outer : List Env} {s : Shared} {H : Hp} (e : Env0 P w K mg base A outer s H) (C : Addr) (us : List Value) (kw : List (Str × Value)) :
    Env0 P w K mg base (A.under (.builtin "type.__call__" ⟨.ref C :: us, kw⟩)) outer s H := ⟨by first | exact e.frames | (simpa [Around.under, Code.envs, Code.isFrame, pushEnvs] using e.frames), e.mod, e.bs, e.bsz, e.funs, e.frf, e.hok, e.bare⟩
section
variable {X : Cx} {pins : List (Addr × Obj)} {σ : St} {H : Hp} {s s' : Shared}
/-- from a body: what a callee wants -/
theorem Inv.env0 (I : Inv X pins σ H s) : Env0 X.prog X.w X.K X.mg X.base X.A X.stack s H :=
  ⟨I.ok.frames, I.ok.mod, I.bs, Nat.le_trans I.ok.bsz I.sz, I.stack, I.stkFree, I.hok, I.bare⟩
/-- behind a call -/
theorem Inv.after {Q : VK} {u : Value} (I : Inv X pins σ H s) (h : CE X.stack X.prog X.w H s Q u s') : EP X pins σ Q u s' := by
  obtain ⟨v, H', os, bare, un, hok, r, q⟩ := h
  obtain ⟨hh, g, d, t, os'⟩ := s'
  obtain rfl : os' = s.os := os
  exact ⟨v, H', I.call (h' := hh) (g' := g) (d' := d) (t' := t) (ch := []) un hok bare (fun b z => absurd z (by simp)), r, q⟩
end

/-! ### calls -/
/-- f(..): the written arguments, then the defaults dvs; E: what is wanted of an exception -/
def tCall (sp : Sp) (dvs : List V) (E : XK) (t : TA) : TE := fun σ H Q => t σ H fun vs H1 => sp (vs ++ dvs) H1 Q E
/-- o.m(..) of an instance of the class at C -/
def tMeth (C : Addr) (m : Str) (sp : Sp) (dvs : List V) (E : XK) (ta : TE) (t : TA) : TE := fun σ H Q => ta σ H fun x H1 => ∃ a dx fs, x = .ref a ∧ H1 a = some (.ins C dx fs) ∧ fs.lookup m = none ∧
  t σ H1 fun vs H2 => sp (x :: (vs ++ dvs)) H2 Q E
/-- C(..): a new instance and its dict, then __init__ -/
def tMake (C : Addr) (sp : Sp) (dvs : List V) (E : XK) (t : TA) : TE := fun σ H Q => t σ H fun vs H1 => ∀ x dx, H1 x = none → H1 dx = none → dx ≠ x →
  sp (.ref x :: (vs ++ dvs)) (upd (upd H1 dx (.own x)) x (.ins C dx [])) (fun v H2 => v = .non ∧ Q (.ref x) H2) E

/-- how the parameters are bound: us the positional arguments, kw the keywords' values by name, ds the defaults that fill up -/
def Binds (K : PySem.W.Frag) (fd : FuncData) (ps : List Str) (ds : List Value) : Prop :=
  ∀ (s : Shared) (us : List Value), K.In s.heap → (us ++ ds).length = ps.length → BindsTo s fd ⟨us, []⟩ (ps.zip (us ++ ds))
/-- every parameter is given -/
theorem Binds.all {K : PySem.W.Frag} {fd : FuncData} {ps : List Str} (h : ∀ us : List Value, us.length = ps.length → bindArgs fd ⟨us, []⟩ = pure (ps.zip us)) : Binds K fd ps [] := fun s us _ hl => by
  rw [List.append_nil] at hl ⊢
  exact .of_eq (h us hl)

/-- an exception of a callee reaches what this body wants of exceptions -/
def Passes (CX : CXT) (X : Cx) (E : XK) : Prop := ∀ (pins : List (Addr × Obj)) (σ : St) (H : Hp) (s : Shared) (e : Value) (s' : Shared), Inv X pins σ H s → CX X.stack H s E e s' → X.xe e s'

section
variable {X : Cx} {CX : CXT} {k : Nat} {f C : Addr} {fd : FuncData} {ps : List Str} {sp : Sp} {dvs : List V} {ds : List Value} {E : XK} {x m : Str} {p pos apos : Pos} {e o : Expr} {es : List Expr} {ta : TE} {t : TA}

/-- the callee runs -/
theorem run_fn {pins : List (Addr × Obj)} {σ : St} {H : Hp} {s : Shared} {Q : VK} {us : List Value} {vs : List V} (F : FnOk X.prog X.w X.K X.mg X.base CX k f fd ps sp) (hr : Room k X.A) (hb : Binds X.K fd ps ds) (hd : Vals dvs ds) (hx : Passes CX X E)
    (I : Inv X pins σ H s) (r : Vals vs us) (h : sp (vs ++ dvs) H Q E) : wpAny (model X.prog X.w) X.A (call (.ref f) us) (EP X pins σ Q) X.xe s := by
  have r2 : Vals (vs ++ dvs) (us ++ ds) := r.append hd
  have hl : (us ++ ds).length = ps.length := by rw [← r2.length]; exact F.len _ _ _ _ h
  refine wpAny_call (codeAny_mono (F.run X.A X.stack s H ⟨us, []⟩ (us ++ ds) (vs ++ dvs) Q E hr I.env0 (hb s us I.kIn hl) r2 h) fun r s' hq => ?_)
  cases r with
  | error e => exact hx pins σ H s e s' I hq
  | ok fl =>
    cases fl with
    | ret u => exact I.after hq
    | next => exact False.elim hq
    | brk => exact False.elim hq
    | cont => exact False.elim hq

theorem pe_call (F : FnOk X.prog X.w X.K X.mg X.base CX k f fd ps sp) (hr : Room k X.A) (hg : Gl X x) (hm : X.mg x = some (.ref f)) (hk : PySem.W.keepIn X.K (.ref f) = true) (hb : Binds X.K fd ps ds) (hd : Vals dvs ds) (hx : Passes CX X E)
    (ha : PA X (e :: es) t) (hdb : (x == ("__debug__" : Str)) = false := by decide) (he : starEach (e :: es) X.env = (false, eval e X.env) :: starEach es X.env := by rfl) (hpl : (backTo pos (starEach es X.env)).any (·.1) = false := by rfl) :
    PE X (.Call (.Name x p) (e :: es) [] pos) (tCall sp dvs E t) := by
  intro pins s σ H Q I h
  refine wpAny_Call_Name_kw (ld_glob I hg hm ?_ hdb)
  refine PySem.W.callWith_K (h₀ := X.base) I.ok.mod.kin hk (thn (ha pos pins s σ H _ I h) fun us s1 ⟨vs, H1, I1, r, q⟩ => ⟨I1.kIn, ?_⟩) he hpl
  exact run_fn F hr hb hd hx I1 r q
/-- o.m() -/
theorem pe_meth0 {pl : Sem Bool} (he : PE X o ta) (c : Cls X.K C) (hm : Meth X.K C m f) (F : FnOk X.prog X.w X.K X.mg X.base CX k f fd ps sp) (hr : Room k X.A) (hb : Binds X.K fd ps ds) (hd : Vals dvs ds) (hx : Passes CX X E)
    (ht : eval (.Call (.Attribute o m apos) [] [] pos) X.env = (do
      let ov ← eval o X.env
      standAt apos.atName
      let (f, first) ← holding [ov] (getMethod ov m pl)
      callWith pos f first (backTo pos (starEach [] X.env)) (backToKw pos (keywordEach [] X.env))) := by rfl) :
    PE X (.Call (.Attribute o m apos) [] [] pos) (tMeth C m sp dvs E ta tNil) := by
  intro pins s σ H Q I h
  refine PySem.W.methodCall_KW (pl := pl) (thn (he pins s σ H _ I h) fun u s1 ⟨x, H1, I1, rx, a, dx, fs, ex, ea, l, q⟩ => ?_) ht
  subst ex
  obtain rfl : u = Value.ref a := rx
  refine getmeth_ok I1 ea c hm l ?_
  exact PySem.W.callWith_K0 (first := [.ref a]) I1.kIn hm.kp (run_fn (us := [.ref a]) (vs := [.ref a]) F hr hb hd hx I1 (.cons rfl .nil) q)

/-- what a class must have to be made -/
structure Mk (K : PySem.W.Frag) (C f : Addr) : Prop where
  makes : PySem.W.makesIn K C = true
  init : PySem.W.findIn K (.ref C) "__init__" = some (some (.ref f))
  fn : PySem.W.isFn K (.ref f) = true
  kp : PySem.W.keepIn K (.ref C) = true

end

/-! ### keywords -/
section
variable {X : Cx} {CX : CXT} {k : Nat} {f C : Addr} {fd : FuncData} {ps ks : List Str} {sp : Sp} {E : XK} {x m : Str} {p pos apos kpos : Pos} {e o : Expr} {es : List Expr} {kws : List Keyword} {te ta : TE} {t tk : TA} {nm : Option Str}
variable {g : List Value → List Value → List Value} {gV : List V → List V → List V}
end

/-! ### a def's body keeps its promise -/
/-- names: the parameters first -/
structure FnScope (N P : List Str) (sc : Scope) : Prop where
  kind : sc.kind = .function
  co : sc.isCoroutine = false
  gen : sc.isGenerator = false
  nd : N.Nodup
  pre : N.take P.length = P
  par : ∀ x ∈ P, sc.names.lookup x = some .local ∨ sc.names.lookup x = some .cell
  nofree : ∀ y ∈ sc.names, y.2 ≠ .free

theorem bindL_out {kindOf : Str → Option NameKind} {x : Str} : ∀ {binds : List (Str × Value)} {m : Str → Option Value}, (∀ v, (x, v) ∉ binds) → bindL kindOf binds m x = m x
  | [], _, _ => rfl
  | (n, v) :: r, m, h => by
    unfold bindL
    rw [bindL_out fun w hw => h w (List.mem_cons_of_mem _ hw)]
    split
    · have : x ≠ n := by rintro rfl; exact h v List.mem_cons_self
      simp [this]
    · rfl
theorem bindC_out {kindOf : Str → Option NameKind} {x : Str} : ∀ {binds : List (Str × Value)} {m : Str → Option Value}, (∀ v, (x, v) ∉ binds) → bindC kindOf binds m x = m x
  | [], _, _ => rfl
  | (n, v) :: r, m, h => by
    unfold bindC
    rw [bindC_out fun w hw => h w (List.mem_cons_of_mem _ hw)]
    split
    · rfl
    · have : x ≠ n := by rintro rfl; exact h v List.mem_cons_self
      simp [this]
theorem bindL_get {kindOf : Str → Option NameKind} {x : Str} {v : Value} : ∀ {P : List Str} {vs : List Value} {i : Nat} {m : Str → Option Value}, P.Nodup → P[i]? = some x → vs[i]? = some v → kindOf x = some .local →
    bindL kindOf (P.zip vs) m x = some v
  | [], _, _, _, _, h, _, _ => by simp at h
  | _ :: _, [], _, _, _, _, h, _ => by simp at h
  | p :: P, w :: vs, 0, m, nd, h1, h2, hk => by
    simp at h1 h2; subst h1; subst h2
    show bindL kindOf ((p, w) :: P.zip vs) m p = _
    unfold bindL
    rw [bindL_out fun v hv => (List.nodup_cons.mp nd).1 (List.of_mem_zip hv).1, if_pos hk]
    simp
  | p :: P, w :: vs, i + 1, m, nd, h1, h2, hk => by
    show bindL kindOf ((p, w) :: P.zip vs) m x = _
    unfold bindL
    exact bindL_get (i := i) (List.nodup_cons.mp nd).2 (by simpa using h1) (by simpa using h2) hk
theorem bindC_get {kindOf : Str → Option NameKind} {x : Str} {v : Value} : ∀ {P : List Str} {vs : List Value} {i : Nat} {m : Str → Option Value}, P.Nodup → P[i]? = some x → vs[i]? = some v → kindOf x ≠ some .local →
    bindC kindOf (P.zip vs) m x = some v
  | [], _, _, _, _, h, _, _ => by simp at h
  | _ :: _, [], _, _, _, _, h, _ => by simp at h
  | p :: P, w :: vs, 0, m, nd, h1, h2, hk => by
    simp at h1 h2; subst h1; subst h2
    show bindC kindOf ((p, w) :: P.zip vs) m p = _
    unfold bindC
    rw [bindC_out fun v hv => (List.nodup_cons.mp nd).1 (List.of_mem_zip hv).1, if_neg hk]
    simp
  | p :: P, w :: vs, i + 1, m, nd, h1, h2, hk => by
    show bindC kindOf ((p, w) :: P.zip vs) m x = _
    unfold bindC
    exact bindC_get (i := i) (List.nodup_cons.mp nd).2 (by simpa using h1) (by simpa using h2) hk

/-- the names' values at the entry -/
def start (N : List Str) (vs : List V) : St := vs.map some ++ List.replicate (N.length - vs.length) none

/-- the context of a def's body, at its entry; an exception leaves the frame, then lies as CX says -/
def cxOf (CX : CXT) (P : Program) (w : World) (K : PySem.W.Frag) (mg : Str → Option Value) (base : Heap) (N : List Str) (qual : Str) (scope : Scope) (f : Addr) (cd : Value) (A : Around) (outer : List Env) (s : Shared) (H : Hp) (E : XK) : Cx where
  prog := P
  w := w
  K := K
  mg := mg
  base := base
  A := A.deeper (envOfC qual scope s.heap.objs.size f cd)
  N := N
  s₀ := s
  H₀ := H
  env := envOfC qual scope s.heap.objs.size f cd
  outer := outer
  stack := envOfC qual scope s.heap.objs.size f cd :: outer
  ex := []
  calm := true
  fn := fun _ => true
  pn := []
  xe := fun e s' => wpAny (model P w) (A.deeper (envOfC qual scope s.heap.objs.size f cd)) (leaving (envOfC qual scope s.heap.objs.size f cd) e) (fun _ s'' => CX outer H s E e s'') (fun e' s'' => CX outer H s E e' s'') s'

theorem cell_has {sc : Scope} {n : Nat} {x : Str} (h : sc.names.lookup x = some .cell) : ∃ c, (cellsFrom n sc.names []).lookup x = some c := by
  have q := PySem.W.cellsFrom_some sc.names n [] (.inl h)
  exact Option.isSome_iff_exists.mp q

theorem inv_start {CX : CXT} {P : Program} {w : World} {K : PySem.W.Frag} {mg : Str → Option Value} {base : Heap} {N ps : List Str} {qual : Str} {scope : Scope} {f : Addr} {cd : Value} {A : Around} {outer : List Env} {s s1 : Shared} {H : Hp} {E : XK} {us : List Value} {vs : List V}
    (S : FnScope N ps scope) (hd : A.handled = none) (e0 : Env0 P w K mg base A outer s H) (hl : vs.length = ps.length) (r : Vals vs us)
    (x : InCallC s s.heap.objs.size (bindL (envOfC qual scope s.heap.objs.size f cd).kindOf (ps.zip us) fun _ => none) (cellsFrom (s.heap.objs.size + 1) scope.names []) (bindC (envOfC qual scope s.heap.objs.size f cd).kindOf (ps.zip us) fun _ => none) s1) :
    Inv (cxOf CX P w K mg base N qual scope f cd A outer s H E) [] (start N vs) H s1 := by
  have hpl : ps.length ≤ N.length := by have := congrArg List.length S.pre; rw [List.length_take] at this; omega
  obtain ⟨h1, tk, rfl, hk⟩ := x.done
  have noA : ∀ b : Addr, b ∉ (cxOf CX P w K mg base N qual scope f cd A outer s H E).ex := fun b z => absurd (show b ∈ ([] : List Addr) from z) (by simp)
  refine ⟨⟨e0.mod, S.kind, rfl, rfl, Nat.le_refl _, fun y z c h1 h2 => ?_, fun y hy => ?_, fun y c _ h => ?_, fun _ => hd, Around.frames_deeper e0.frames, .inr ⟨rfl, rfl⟩, fun b z => absurd z (noA b), e0.bs, e0.bsz, fun b _ _ => noA b, fun b z => absurd z (noA b), e0.funs, e0.frf⟩,
    rfl, e0.bare, Un.kept hk, ⟨_, x.toInCall.ns, fun i y v h1 h2 h3 => ?_⟩, fun y c h => ⟨_, x.cell y c h⟩, e0.hok.fresh (Nat.le_refl _), fun y c h => ?_, fun p hp => absurd (show p ∈ ([] : List (Addr × Obj)) from hp) (by simp), e0.hok.kept hk, ?_⟩
  · exact name_of_addr x.apart (PySem.mem_of_lookup h1) (PySem.mem_of_lookup h2)
  · have hy : scope.names.lookup y = some .cell ∨ scope.names.lookup y = some .free := hy
    rcases hy with hy | hy
    · exact cell_has hy
    · exact absurd rfl (S.nofree _ (PySem.mem_of_lookup hy))
  · exact Nat.le_of_lt (x.above y c (PySem.mem_of_lookup h))
  · have hi : i < vs.length := by
      unfold start at h2
      by_cases hi : i < vs.length
      · exact hi
      · rw [List.getElem?_append_right (by simpa using hi)] at h2
        rw [List.getElem?_replicate] at h2
        split at h2 <;> cases h2
    have ha : vs[i]? = some v := by
      unfold start at h2
      rw [List.getElem?_append_left (by simpa using hi), List.getElem?_map] at h2
      cases e : vs[i]? with
      | none => rw [e] at h2; cases h2
      | some a => rw [e] at h2; cases h2; rfl
    obtain ⟨u, hu, rv⟩ := r.get ha
    have hp : ps[i]? = some y := by
      rw [← S.pre, List.getElem?_take_of_lt (by omega)]; exact h1
    have ndP : ps.Nodup := by rw [← S.pre]; exact S.nd.sublist (List.take_sublist _ _)
    refine ⟨u, rv, ?_⟩
    rcases S.par y (List.mem_of_getElem? hp) with k | k
    · exact .inl ⟨k, bindL_get ndP hp hu k⟩
    · obtain ⟨c, e⟩ := cell_has (n := s.heap.objs.size + 1) k
      refine .inr ⟨.inl k, c, e, ?_⟩
      have q := x.cell y c e
      rw [bindC_get ndP hp hu (by show scope.names.lookup y ≠ _; rw [k]; decide)] at q
      exact q
  · exact e0.hok.fresh (Nat.le_of_lt (x.above y c (PySem.mem_of_lookup h)))
  · unfold start
    show _ = N.length
    rw [List.length_append, List.length_map, List.length_replicate]
    omega

/-- THE RULE: a def (or a method) of the text, by its body. The body's reading t is chosen for each entry; it is run at the parameters' values -/
theorem fn_of {CX : CXT} {P : Program} {w : World} {K : PySem.W.Frag} {mg : Str → Option Value} {base : Heap} {k : Nat} {f : Addr} {name qual : Str} {params : Arguments} {body : List Stmt} {scope : Scope} {dV kV doc pm cdv ct oc : Value} {an od : Option Addr}
    {osl : Array (Option Value)} {N ps : List Str} {sp : Sp} (lk : K.lookup f = some ⟨oc, od, .func (PySem.W.fnOf name qual params body scope dV kV doc pm an cdv ct), osl⟩) (hcd : PySem.W.codeIn K cdv qual = true) (S : FnScope N ps scope)
    (len : ∀ vs H Q E, sp vs H Q E → vs.length = ps.length)
    (hbody : ∀ (A : Around) (outer : List Env) (s : Shared) (H : Hp) (vs : List V) (Q : VK) (E : XK), Room k (A.deeper (envOfC qual scope s.heap.objs.size f cdv)) → sp vs H Q E →
      ∃ t, PSs (cxOf CX P w K mg base N qual scope f cdv A outer s H E) body t ∧ t { nx := fun _ H' => Q .non H', rt := Q } (start N vs) H) :
    FnOk P w K mg base CX (k + 1) f (PySem.W.fnOf name qual params body scope dV kV doc pm an cdv ct) ps sp := by
  refine ⟨len, fun A outer s H args us vs Q E hr e0 hb r hsp => ?_⟩
  have hl := len _ _ _ _ hsp
  have KX : K.In s.heap := e0.mod.kin.keeps fun b o e => (e0.bs b o e).1
  have lim : s.heap.NoLimit := e0.mod.nolimit.keeps fun b o e => (e0.bs b o e).1
  have hkind : ∀ y ∈ ps.zip us, scope.names.lookup y.1 = some .local ∨ (scope.names.lookup y.1 = some .cell ∧ ((cellsFrom (s.heap.objs.size + 1) scope.names []).lookup y.1).isSome = true) := fun ⟨n, v⟩ hy => by
    rcases S.par n (List.of_mem_zip hy).1 with q | q
    · exact .inl q
    · exact .inr ⟨q, PySem.W.cellsFrom_some _ _ _ (.inl q)⟩
  refine codeAny_call_function hr.depth (KX _ _ lk) rfl S.co S.gen rfl (PySem.W.codeRec_of KX hcd) (hb _ _ _ _ ?_)
  refine wpAny_newFunctionEnv_cells S.kind hkind fun env he s1 x => ?_
  subst he
  refine ⟨lim.keeps x.toInCall.keep, codeAny_func ?_⟩
  obtain ⟨t, ht, hq⟩ := hbody A outer s H vs Q E (hr.deeper _) hsp
  have I : Inv (cxOf CX P w K mg base N qual scope f cdv A outer s H E) [] (start N vs) H s1 := inv_start S hr.hd e0 hl r x
  refine wpAny_mono (ht [] s1 (start N vs) H _ I hq) (fun fl s' hs => ?_) fun e s' hs => hs
  have fin : ∀ {σ' : St} {H' : Hp} {v : V} {u : Value}, Inv (cxOf CX P w K mg base N qual scope f cdv A outer s H E) [] σ' H' s' → RelV v u → Q v H' → CE outer P w H s Q u s' :=
    fun {σ' H' v u} J rv q => ⟨v, H', J.os, J.bare, J.base, J.hok, rv, q⟩
  cases fl with
  | ret u =>
    obtain ⟨v, σ', H', J, rv, q⟩ := hs
    exact fin J rv q
  | next =>
    obtain ⟨σ', H', J, q⟩ := hs
    exact fin (v := V.non) (u := Value.none) J rfl q
  | brk =>
    obtain ⟨_, _, _, q⟩ := hs
    exact False.elim q
  | cont =>
    obtain ⟨_, _, _, q⟩ := hs
    exact False.elim q
end L2

namespace L2
open PySem PySem.Spec PyProof.Rows
section
variable {X : Cx} {x : Str} {p pos : Pos} {e : Expr} {es : List Expr} {t : TA} {id T : String} {r : List V → Hp → VK → Prop}

def tCB (r : List V → Hp → VK → Prop) (t : TA) : TE := fun σ H Q => t σ H fun vs H1 => r vs H1 Q
/-- f(e, ..), f a built-in function -/
theorem pe_callB (hc : CallR X (.builtin id) r) (hg : Gl X x) (hm : X.mg x = none) (hv : bootBuiltins x = some (.builtin id)) (ha : PA X (e :: es) t) (hn : x ≠ "__name__" := by decide) (hdb : (x == ("__debug__" : Str)) = false := by decide)
    (he : starEach (e :: es) X.env = (false, eval e X.env) :: starEach es X.env := by rfl) (hpl : (backTo pos (starEach es X.env)).any (·.1) = false := by rfl) : PE X (.Call (.Name x p) (e :: es) [] pos) (tCB r t) := by
  intro pins s σ H Q I h
  refine wpAny_Call_Name_kw (ld_blt I hg hm hv ?_ hn hdb)
  exact PyProof.Rows.callWith_builtin1 (thn (ha pos pins s σ H _ I h) fun us s1 ⟨vs, H1, I1, r1, q1⟩ => hc pins s1 σ H1 vs us Q I1 r1 q1) he hpl
/-- T(e, ..), T a built-in type -/
theorem pe_callTy (hc : CallR X (.type T) r) (hg : Gl X x) (hm : X.mg x = none) (hv : bootBuiltins x = some (.type T)) (ha : PA X (e :: es) t) (hn : x ≠ "__name__" := by decide) (hdb : (x == ("__debug__" : Str)) = false := by decide)
    (he : starEach (e :: es) X.env = (false, eval e X.env) :: starEach es X.env := by rfl) (hpl : (backTo pos (starEach es X.env)).any (·.1) = false := by rfl) : PE X (.Call (.Name x p) (e :: es) [] pos) (tCB r t) := by
  intro pins s σ H Q I h
  refine wpAny_Call_Name_kw (ld_blt I hg hm hv ?_ hn hdb)
  exact PyProof.Rows.callWith_type1 (thn (ha pos pins s σ H _ I h) fun us s1 ⟨vs, H1, I1, r1, q1⟩ => hc pins s1 σ H1 vs us Q I1 r1 q1) he hpl
end
end L2

namespace HT
open PySem PyProof.Rows

/-- t < u of tuples of ints -/
def lexLt : List Int → List Int → Bool
  | [], [] => false
  | [], _ :: _ => true
  | _ :: _, [] => false
  | x :: xs, y :: ys => if x = y then lexLt xs ys else decide (x < y)
theorem lexLt_cons (x y : Int) (xs ys : List Int) : lexLt (x :: xs) (y :: ys) = if x = y then lexLt xs ys else decide (x < y) := rfl
theorem lexLt_nil_nil : lexLt [] [] = false := rfl
theorem lexLt_nil_cons (y : Int) (ys : List Int) : lexLt [] (y :: ys) = true := rfl
theorem lexLt_cons_nil (x : Int) (xs : List Int) : lexLt (x :: xs) [] = false := rfl

section
open PySem.SeqAt
open PySem.AutoSeq1 (wpAny_loadPart')
open PySem.MeetsSeq PySem.MeetsSeq2 PySem.MeetsSeq3

end

section
variable {prog : Program} {w : World} {A : Around} {E : Value → Shared → Prop} {s : Shared}

/-! ### t[a:b], not the whole -/
/-- a slice's bound as a place among n (d where it is left out) -/
def sIx (n d : Nat) : Option Int → Nat
  | none => d
  | some v => if v < 0 then (v + (n : Int)).toNat else min v.toNat n
theorem sIx_none (n d : Nat) : sIx n d none = d := rfl
end
end HT

namespace L2
open PySem PySem.Spec PyProof.Rows

/-! ### the parts of a slice -/
abbrev TO := St → Hp → (Option Int → Hp → Prop) → Prop
theorem intsAre_of {ns : List Int} : ∀ {us : List Value}, Vals (ns.map V.int) us → IntsAre us ns := by
  induction ns with
  | nil => intro us r; rw [List.map_nil] at r; cases r; exact .nil
  | cons n ns ih =>
    intro us r
    rw [List.map_cons] at r
    cases r with
    | cons r1 r2 =>
      obtain ⟨t, e⟩ := r1
      subst e
      exact .cons n t (ih r2)

section
variable {X : Cx} {e : Expr} {te : TE} {lo hi : Option Expr} {tl th : TO} {pos p2 : Pos}

/-! ### t < u, t + u -/
end
end L2

namespace L2
open PySem PySem.Spec PyProof.Rows

/-! ### places -/
/-- the place that an index of any sign means -/
def ixN (n : Nat) (i : Int) : Option Nat := if 0 ≤ i then (if i < n then some i.toNat else none) else if -(n : Int) ≤ i then some (i + n).toNat else none
def atI {α : Type} (xs : List α) (i : Int) : Option α := (ixN xs.length i).bind fun j => xs[j]?
theorem ixN_seq {n : Nat} {i : Int} {j : Nat} (h : ixN n i = some j) : seqIndex? i n = some j ∧ j < n ∧ -(n : Int) ≤ i ∧ i < n := by
  unfold ixN at h
  by_cases h0 : 0 ≤ i
  · rw [if_pos h0] at h
    by_cases h1 : i < n
    · rw [if_pos h1] at h
      have e : i.toNat = j := Option.some.inj h
      exact ⟨by rw [seqIndex_of h0 h1, e], by omega, by omega, h1⟩
    · rw [if_neg h1] at h; cases h
  · rw [if_neg h0] at h
    by_cases h1 : -(n : Int) ≤ i
    · rw [if_pos h1] at h
      have e : (i + n).toNat = j := Option.some.inj h
      exact ⟨by rw [seqIndex_neg (by omega) h1, e], by omega, h1, by omega⟩
    · rw [if_neg h1] at h; cases h
theorem atI_get {α : Type} {xs : List α} {i : Int} {v : α} (h : atI xs i = some v) : ∃ j, seqIndex? i xs.length = some j ∧ xs[j]? = some v ∧ j < xs.length ∧ -(xs.length : Int) ≤ i ∧ i < xs.length := by
  unfold atI at h
  cases e : ixN xs.length i with
  | none => rw [e] at h; cases h
  | some j =>
    rw [e] at h
    obtain ⟨h1, h2, h3, h4⟩ := ixN_seq e
    exact ⟨j, h1, h, h2, h3, h4⟩
theorem atI_nat {α : Type} {xs : List α} {j : Nat} {v : α} (h : xs[j]? = some v) : atI xs (j : Int) = some v := by
  have hj : j < xs.length := (List.getElem?_eq_some_iff.mp h).1
  have e : ixN xs.length (j : Int) = some j := by
    unfold ixN
    rw [if_pos (by omega), if_pos (by omega)]; simp
  unfold atI; rw [e]; exact h
/-! ### what may be subscripted -/
/-- what stands as an index of a plain subscript -/
def PlainIx (b : Expr) : Prop := ∀ o i, subscripted b false o i = operate [o, i] (getItem o i)
/-- a subscript by values -/
def IxR (X : Cx) (r : R2) : Prop :=
  ∀ (value slice : Expr) (pins : List (Addr × Obj)) (s : Shared) (σ : St) (H : Hp) (x y : V) (v u : Value) (Q : VK), Inv X pins σ H s → RelV x v → RelV y u → r x y H Q →
    subscripted slice false v u = operate [v, u] (getItem v u) → wpAny (model X.prog X.w) X.A (subscriptTail value slice v u) (EP X pins σ Q) X.xe s
/-- a call of a builtin's method by values: the receiver, the arguments -/
def MtR (X : Cx) (id : String) (r : V → List V → Hp → VK → Prop) : Prop :=
  ∀ (pins : List (Addr × Obj)) (s : Shared) (σ : St) (H : Hp) (x : V) (xs : List V) (v : Value) (us : List Value) (Q : VK), Inv X pins σ H s → RelV x v → Vals xs us → r x xs H Q →
    wpAny (model X.prog X.w) X.A (call (.builtin id) (v :: us)) (EP X pins σ Q) X.xe s
section
variable {X : Cx} {a b : Expr} {ta tb : TE} {pos : Pos}
/-- a[b] -/
theorem pe_ix {r : R2} (hr : IxR X r) (ha : PE X a ta) (hb : PE X b tb) (hs : PlainIx b) : PE X (.Subscript a b pos) (tOp r ta tb) := by
  intro pins s σ H Q I h
  exact Subscript_ (binT ha hb I h fun v u s2 x y H2 I2 rx ry q => hr a b pins s2 σ H2 x y v u Q I2 rx ry q (hs _ _))

def rIxL (K : PySem.W.Frag) : R2 := fun x y H Q => ∃ p xs i v, x = .ref p ∧ y = .int i ∧ SqL K H p xs ∧ atI xs i = some v ∧ Q v H
def rIxT (K : PySem.W.Frag) : R2 := fun x y H Q => ∃ p xs i v, x = .ref p ∧ y = .int i ∧ SqT K H p xs ∧ atI xs i = some v ∧ Q v H
def rIxS : R2 := fun x y H Q => ∃ z i c, x = .str z ∧ y = .int i ∧ z.length ≤ sizeLine ∧ atI z.cps.toList i = some c ∧ Q (.str ⟨#[c]⟩) H
theorem ix_list : IxR X (rIxL X.K) := by
  intro value slice pins s σ H x y v u Q I rx ry h hs
  obtain ⟨p, xs, i, z, rfl, rfl, hq, he, q⟩ := h
  cases rx
  obtain ⟨t, rfl⟩ := ry
  obtain ⟨its, r, pl, hz⟩ := I.list hq
  obtain ⟨j, h1, h2, h3, h4, h5⟩ := atI_get he
  obtain ⟨w, ew, rw'⟩ := r.get h2
  have hl := r.length
  have hn := line63
  have fin : EP X pins σ Q w s := ⟨z, H, I, rw', q⟩
  by_cases h0 : 0 ≤ i
  · have hj : i.toNat = j := by
      rw [seqIndex_of h0 h5] at h1
      exact Option.some.inj h1
    exact item_listR pl.isList h0 (by omega) (by rw [hj]; simpa using ew) fin hs
  · have hj : (i + (its.toArray.size : Int)).toNat = j := by
      rw [seqIndex_neg (by omega) h4] at h1
      rw [List.size_toArray, ← hl]
      exact Option.some.inj h1
    exact subscriptTail_builtinR (x := w) pl.isList.typeIs slot_list_getitem.lookup
      (wpAny_getItem_list_neg (Q := fun r s' => r = w ∧ EP X pins σ Q r s') pl.isList (by omega) (by rw [List.size_toArray] <;> omega) (by omega) (by rw [hj]; simpa using ew) ⟨rfl, fin⟩) hs
theorem ix_tup : IxR X (rIxT X.K) := by
  intro value slice pins s σ H x y v u Q I rx ry h hs
  obtain ⟨p, xs, i, z, rfl, rfl, hq, he, q⟩ := h
  cases rx
  obtain ⟨t, rfl⟩ := ry
  obtain ⟨its, r, pl, hz⟩ := I.tuple hq
  obtain ⟨j, h1, h2, h3, h4, h5⟩ := atI_get he
  obtain ⟨w, ew, rw'⟩ := r.get h2
  have hl := r.length
  have hn := line63
  have fin : EP X pins σ Q w s := ⟨z, H, I, rw', q⟩
  exact subscriptTail_builtinR (x := w) pl.typeIs slot_tuple_getitem.lookup
    (getItem_tuple (j := j) (Q := fun r s' => r = w ∧ EP X pins σ Q r s') pl (by omega) (by omega) (by rw [List.size_toArray, ← hl]; exact h1) (by simpa using ew) ⟨rfl, fin⟩) hs
theorem ix_str : IxR X rIxS := by
  intro value slice pins s σ H x y v u Q I rx ry h hs
  obtain ⟨z, i, c, rfl, rfl, hz, he, q⟩ := h
  obtain ⟨t, rfl⟩ := rx
  obtain ⟨t', rfl⟩ := ry
  obtain ⟨j, h1, h2, h3, h4, h5⟩ := atI_get he
  have hl : z.cps.toList.length = z.length := by simp [Str.length]
  rw [hl] at h1 h4 h5
  have hn := line63
  exact tail_any (typeIs_str s z t) slot_str_getitem.lookup (getItem_str (c := c) (by
    have e1 : decide (i < -(2 ^ 63 : Int)) = false := decide_eq_false (by omega)
    have e2 : decide (i ≥ 2 ^ 63) = false := decide_eq_false (by omega)
    rw [e1, e2, Bool.or_false]) (by rw [h1]; simpa using h2) ⟨.str ⟨#[c]⟩, H, I.tok _, ⟨_, rfl⟩, q⟩) hs
/-! ### xs[i] = v, any sign -/
/-! ### slices -/
/-! ### in, not in: flat items -/
def flatV : V → Bool
  | .non => true
  | .bl _ => true
  | .int _ => true
  | .str _ => true
  | _ => false
/-- == of flat values -/
def eqV : V → V → Bool
  | .non, .non => true
  | .bl a, .bl b => a == b
  | .bl a, .int b => (if a then 1 else 0) == b
  | .int a, .bl b => a == (if b then 1 else 0)
  | .int a, .int b => a == b
  | .str a, .str b => a == b
  | _, _ => false
theorem eqAt_V {A : Around} {s : Shared} {y x : V} {u v : Value} (ry : RelV y u) (rx : RelV x v) (fy : flatV y = true) (fx : flatV x = true) : SeqAt.EqAt A s u v (eqV y x) := by
  cases y with
  | non =>
    cases ry
    cases x with
    | non => cases rx; exact SeqAt.EqAt.same _
    | bl b => cases rx; exact SeqAt.EqAt.none_bool b
    | int b => obtain ⟨t, rfl⟩ := rx; exact SeqAt.EqAt.none_int b t
    | str b => obtain ⟨t, rfl⟩ := rx; exact SeqAt.EqAt.none_str b t
    | _ => exact absurd (show false = true from fx) Bool.false_ne_true
  | bl a =>
    cases ry
    cases x with
    | non => cases rx; exact SeqAt.EqAt.bool_none a
    | bl b => cases rx; exact SeqAt.EqAt.bool_bool a b
    | int b => obtain ⟨t, rfl⟩ := rx; exact SeqAt.EqAt.bool_int a b t
    | str b => obtain ⟨t, rfl⟩ := rx; exact SeqAt.EqAt.bool_str a b t
    | _ => exact absurd (show false = true from fx) Bool.false_ne_true
  | int a =>
    obtain ⟨t', rfl⟩ := ry
    cases x with
    | non => cases rx; exact SeqAt.EqAt.int_none a t'
    | bl b => cases rx; exact SeqAt.EqAt.int_bool a t' b
    | int b => obtain ⟨t, rfl⟩ := rx; exact SeqAt.EqAt.int_int a t' b t
    | str b => obtain ⟨t, rfl⟩ := rx; exact SeqAt.EqAt.int_str a t' b t
    | _ => exact absurd (show false = true from fx) Bool.false_ne_true
  | str a =>
    obtain ⟨t', rfl⟩ := ry
    cases x with
    | non => cases rx; exact SeqAt.EqAt.str_none a t'
    | bl b => cases rx; exact SeqAt.EqAt.str_bool a t' b
    | int b => obtain ⟨t, rfl⟩ := rx; exact SeqAt.EqAt.str_int a t' b t
    | str b => obtain ⟨t, rfl⟩ := rx; exact SeqAt.EqAt.str_str a t' b t
    | _ => exact absurd (show false = true from fx) Bool.false_ne_true
  | _ => exact absurd (show false = true from fy) Bool.false_ne_true
/-- the items' answers, read off the values (a value's own answer does not lean on its token) -/
def eqU (x : V) (u : Value) : Bool := match u with
  | .none => eqV .non x
  | .bool b => eqV (.bl b) x
  | .int i _ => eqV (.int i) x
  | .str z _ => eqV (.str z) x
  | _ => false
theorem eqU_of {x y : V} {u : Value} (r : RelV y u) (f : flatV y = true) : eqU x u = eqV y x := by
  cases y with
  | non => cases r; rfl
  | bl b => cases r; rfl
  | int i => obtain ⟨t, rfl⟩ := r; rfl
  | str z => obtain ⟨t, rfl⟩ := r; rfl
  | _ => exact absurd (show false = true from f) Bool.false_ne_true
theorem any_eqU {x : V} : ∀ {xs : List V} {us : List Value}, Vals xs us → xs.all flatV = true → us.any (eqU x) = xs.any fun y => eqV y x
  | _, _, .nil, _ => rfl
  | y :: xs, u :: us, .cons r t, f => by
    rw [List.all_cons, Bool.and_eq_true] at f
    rw [List.any_cons, List.any_cons, eqU_of r f.1, any_eqU t f.2]
theorem mem_eqAt {A : Around} {s : Shared} {x : V} {v : Value} (rx : RelV x v) (fx : flatV x = true) : ∀ {xs : List V} {us : List Value}, Vals xs us → xs.all flatV = true → ∀ u ∈ us, SeqAt.EqAt A s u v (eqU x u)
  | _, _, .nil, _ => fun u hu => by cases hu
  | y :: xs, u :: us, .cons r t, f => fun u' hu => by
    rw [List.all_cons, Bool.and_eq_true] at f
    rcases List.mem_cons.mp hu with rfl | hu
    · rw [eqU_of r f.1]; exact eqAt_V r rx f.1 fx
    · exact mem_eqAt rx fx t f.2 u' hu
def inV (x : V) (xs : List V) : Bool := xs.any fun y => eqV y x
/-- x in a list or tuple of flat items -/
def rIn (K : PySem.W.Frag) (neg : Bool) : R2 := fun x y H Q => ∃ p xs, y = .ref p ∧ (SqL K H p xs ∨ SqT K H p xs) ∧ flatV x = true ∧ xs.all flatV = true ∧ Q (.bl (if neg then !inV x xs else inV x xs)) H
theorem op_notIn_seq : OpR X (compareOp .NotIn) (rIn X.K true) := by
  intro pins s σ H x y v u Q I rx ry h
  obtain ⟨p, xs, rfl, hq, fx, fs, q⟩ := h
  cases ry
  rcases hq with hq | hq
  · obtain ⟨its, r, pl, hz⟩ := I.list hq
    refine SeqAt.notIn_listAt (eqU x) pl.isList (fun w hw => mem_eqAt rx fx r fs w (by simpa using hw)) ⟨.bl _, H, I, rfl, ?_⟩
    rw [show its.toArray.any (eqU x) = its.any (eqU x) by simp, any_eqU r fs]
    exact q
  · obtain ⟨its, r, pl, hz⟩ := I.tuple hq
    refine SeqAt.notIn_tupleAt (eqU x) pl (fun w hw => mem_eqAt rx fx r fs w (by simpa using hw)) ⟨.bl _, H, I, rfl, ?_⟩
    rw [show its.toArray.any (eqU x) = its.any (eqU x) by simp, any_eqU r fs]
    exact q
theorem op_notIn_str : OpR X (compareOp .NotIn) (fun x y H Q => ∃ i j, x = .str i ∧ y = .str j ∧ Q (.bl (!(!(Builtin.Str.occurrences j i 0 j.length 1).isEmpty))) H) := by
  intro pins s σ H x y v u Q I rx ry h
  obtain ⟨i, j, rfl, rfl, q⟩ := h
  obtain ⟨t, rfl⟩ := rx
  obtain ⟨t', rfl⟩ := ry
  exact notIn_str ⟨.bl _, H, I, rfl, q⟩

/-! ### len, list(x), tuple(x) of any list or tuple that is read -/
theorem call_len_seq : CallR X (.builtin "len") (fun xs H Q => ∃ p ys, xs = [.ref p] ∧ (SqL X.K H p ys ∨ SqT X.K H p ys) ∧ Q (.int ys.length) H) := by
  intro pins s σ H xs us Q I r h
  obtain ⟨p, ys, rfl, hq, q⟩ := h
  obtain ⟨u, rfl, rx⟩ := vals1 r
  cases rx
  have hn := line63
  rcases hq with hq | hq
  · obtain ⟨its, r', pl, hz⟩ := I.list hq
    have hlen := r'.length
    exact Calls.call_len_list pl.isList (by simp only [List.size_toArray] <;> omega) ⟨.int ys.length, H, I.tok _, ⟨s.toks + 1, by rw [List.size_toArray, hlen]⟩, q⟩
  · obtain ⟨its, r', pl, hz⟩ := I.tuple hq
    have hlen := r'.length
    exact len_tuple pl (by simp only [List.size_toArray] <;> omega) ⟨.int ys.length, H, I.tok _, ⟨s.toks + 1, by rw [List.size_toArray, hlen]⟩, q⟩
theorem call_len_str : CallR X (.builtin "len") (fun xs H Q => ∃ z, xs = [.str z] ∧ z.length ≤ sizeLine ∧ Q (.int z.length) H) := by
  intro pins s σ H xs us Q I r h
  obtain ⟨z, rfl, hz, q⟩ := h
  obtain ⟨u, rfl, t, rfl⟩ := vals1 r
  have hn := line63
  exact len_str (by omega) ⟨.int z.length, H, I.tok _, ⟨_, rfl⟩, q⟩
theorem call_list_of : CallR X (.type "list") (fun xs H Q => ∃ p ys, xs = [.ref p] ∧ (SqL X.K H p ys ∨ SqT X.K H p ys) ∧ ∀ l, H l = none → Q (.ref l) (upd H l (.lst ys))) := by
  intro pins s σ H xs us Q I r h
  obtain ⟨p, ys, rfl, hq, q⟩ := h
  obtain ⟨u, rfl, rx⟩ := vals1 r
  cases rx
  have fin : ∀ (its : List Value), Vals ys its → ys.length ≤ sizeLine → ∀ (h' : Heap) (c' : Nat), (∀ b o', s.heap.get? b = some o' → h'.get? b = some o') →
      h'.get? s.heap.objs.size = some { cls := .type "list", dict := none, data := .seq its.toArray c', slots := #[] } → EP X pins σ Q (.ref s.heap.objs.size) { s with heap := h' } := fun its r' hz h' c' kp e =>
    ⟨.ref s.heap.objs.size, _, I.laid (t' := s.toks) kp (Nat.le_refl _) (show ObjOk X.prog X.w _ h' _ (.lst ys) from ⟨hz, its, c', r', e⟩), rfl, q _ (I.hok.fresh (Nat.le_refl _))⟩
  rcases hq with hq | hq
  · obtain ⟨its, r', pl, hz⟩ := I.list hq
    have hlen := r'.length
    obtain ⟨o, ho, hc, n, hd⟩ := pl.isList
    exact call_list_seq p (.inl rfl) ho hc hd (fun h' c' kp e => fin its r' hz h' c' kp e) (by simp only [List.size_toArray] <;> omega)
  · obtain ⟨its, r', pl, hz⟩ := I.tuple hq
    have hlen := r'.length
    obtain ⟨o, ho, hc, n, hd⟩ := pl
    exact call_list_seq p (.inr rfl) ho hc hd (fun h' c' kp e => fin its r' hz h' c' kp e) (by simp only [List.size_toArray] <;> omega)
theorem call_tuple_of : CallR X (.type "tuple") (fun xs H Q => ∃ p ys, xs = [.ref p] ∧ ((SqL X.K H p ys ∧ ∀ l, H l = none → Q (.ref l) (upd H l (.tup ys))) ∨ (SqT X.K H p ys ∧ Q (.ref p) H))) := by
  intro pins s σ H xs us Q I r h
  obtain ⟨p, ys, rfl, h⟩ := h
  obtain ⟨u, rfl, rx⟩ := vals1 r
  cases rx
  rcases h with ⟨hq, q⟩ | ⟨hq, q⟩
  · obtain ⟨its, r', pl, hz⟩ := I.list hq
    have hlen := r'.length
    refine call_tuple_list pl.isList (fun h' kp => ?_) (by simp only [List.size_toArray] <;> omega)
    have I1 : Inv X pins σ H { s with heap := h' } := I.kept (t' := s.toks) kp
    have I2 : Inv X pins σ (upd H h'.objs.size (.tup ys)) { s with heap := h'.push { cls := .type "tuple", data := .seq its.toArray } } :=
      I1.laid (t' := s.toks) (fun b o e => Heap.get?_push_of_some _ e) (Nat.le_refl _) (show ObjOk X.prog X.w _ _ _ (.tup ys) from ⟨hz, its, r', IsTup.new _ _⟩)
    exact ⟨.ref h'.objs.size, _, I2, rfl, q _ (I1.hok.fresh (Nat.le_refl _))⟩
  · obtain ⟨its, r', pl, hz⟩ := I.tuple hq
    exact call_tuple_same pl ⟨.ref p, H, I, rfl, q⟩

/-! ### the call of a builtin's method: o.m(..) -/
/-- the value is of that builtin type -/
def tyV (K : PySem.W.Frag) (T : String) (x : V) (H : Hp) : Prop := match x with
  | .str _ => T = "str"
  | .int _ => T = "int"
  | .ref p => (T = "list" ∧ ∃ xs, SqL K H p xs) ∨ (T = "tuple" ∧ ∃ o, K.lookup p = some o ∧ o.cls = .type "tuple" ∧ o.dict = none) ∨
      (T = "dict" ∧ ((∃ kvs, H p = some (.dK kvs)) ∨ ∃ kvs, H p = some (.dT kvs))) ∨ (T = "set" ∧ ∃ S n, H p = some (.set S n))
  | _ => False
theorem tyV_is {pins : List (Addr × Obj)} {σ : St} {H : Hp} {s : Shared} {T : String} {x : V} {v : Value} (I : Inv X pins σ H s) (r : RelV x v) (ty : tyV X.K T x H) :
    s.TypeIs v T ∧ ∀ a, v = .ref a → ∃ ob, s.heap.get? a = some ob ∧ ob.dict = none := by
  cases x with
  | str z =>
    obtain ⟨t, rfl⟩ := r
    cases (show T = "str" from ty)
    exact ⟨typeIs_str s z t, fun _ e => nomatch e⟩
  | int i =>
    obtain ⟨t, rfl⟩ := r
    cases (show T = "int" from ty)
    exact ⟨typeIs_int s i t, fun _ e => nomatch e⟩
  | ref p =>
    cases r
    rcases ty with ⟨rfl, xs, hq⟩ | ⟨rfl, o, hk, hc, hd⟩ | ⟨rfl, hk⟩ | ⟨rfl, S, n, hk⟩
    · obtain ⟨its, _, pl, _⟩ := I.list hq
      refine ⟨pl.isList.typeIs, fun a e => ?_⟩
      cases e
      obtain ⟨o, n, e, c, hd, _⟩ := pl
      exact ⟨o, e, hd⟩
    · refine ⟨⟨o, I.kIn p o hk, hc⟩, fun a e => ?_⟩
      cases e
      exact ⟨o, I.kIn _ o hk, hd⟩
    · have z : ∃ o, s.heap.get? p = some o ∧ o.ExactDict := by
        rcases hk with ⟨kvs, hk⟩ | ⟨kvs, hk⟩
        · obtain ⟨_, _, _, _, o, _, _, e, ex, _⟩ := I.hok p _ hk
          exact ⟨o, e, ex⟩
        · obtain ⟨_, _, _, _, o, _, _, e, ex, _⟩ := I.hok p _ hk
          exact ⟨o, e, ex⟩
      obtain ⟨o, e, ex⟩ := z
      refine ⟨⟨o, e, ex.1⟩, fun a e2 => ?_⟩
      cases e2
      exact ⟨o, e, ex.2.1⟩
    · obtain ⟨o, _, _, _, e, ex, _⟩ := I.hok p _ hk
      refine ⟨⟨o, e, ex.1⟩, fun a e2 => ?_⟩
      cases e2
      exact ⟨o, e, ex.2.1⟩
  | _ => exact False.elim ty
def tBM0 (K : PySem.W.Frag) (T : String) (r : V → List V → Hp → VK → Prop) (to : TE) : TE := fun σ H Q => to σ H fun x H1 => tyV K T x H1 ∧ r x [] H1 Q
def tBM (K : PySem.W.Frag) (T : String) (r : V → List V → Hp → VK → Prop) (to : TE) (t : TA) : TE := fun σ H Q => to σ H fun x H1 => tyV K T x H1 ∧ t σ H1 fun xs H2 => r x xs H2 Q
variable {o e : Expr} {es : List Expr} {to : TE} {t : TA} {name : Str} {apos cpos : Pos} {T id : String} {r : V → List V → Hp → VK → Prop}
theorem pe_bm0 (pa : PlainAttrs T) (slot : Slot T name id) (hty : typeOf (.builtin id) = pure (.type "method_descriptor")) (hm : MtR X id r) (ho : PE X o to)
    (hbase : attributeBase o name X.env (eval o X.env) = eval o X.env := by rfl) (hline : (apos.endLine == cpos.line) = true := by rfl) : PE X (.Call (.Attribute o name apos) [] [] cpos) (tBM0 X.K T r to) := by
  intro pins s σ H Q I h
  refine wpAny_Call_method0_late hbase hline (thn (ho pins s σ H _ I h) fun v s1 ⟨x, H1, I1, r1, ty, q1⟩ => ?_)
  obtain ⟨h1, h2⟩ := tyV_is I1 r1 ty
  exact ⟨T, id, pa, slot, hty, h1, h2, Calls.callWith_builtin rfl (PySem.evalArgs_none (hm pins s1 σ H1 x [] v [] Q I1 r1 .nil q1))⟩
theorem pe_bm (pa : PlainAttrs T) (slot : Slot T name id) (hty : typeOf (.builtin id) = pure (.type "method_descriptor")) (hm : MtR X id r) (ho : PE X o to) (ha : PA X (e :: es) t)
    (hbase : attributeBase o name X.env (eval o X.env) = eval o X.env := by rfl)
    (hfew : ((backTo cpos (starEach (e :: es) X.env)).all (fun x => !x.1) && (backToKw cpos (keywordEach [] X.env)).all (fun x => x.1.isSome)
      && decide ((e :: es).length + ([] : List Keyword).length + (if ([] : List Keyword).isEmpty then 0 else 1) < 30)) = true := by rfl)
    (hline : (apos.endLine == cpos.line) = true := by rfl) (hs : starEach (e :: es) X.env = (false, eval e X.env) :: starEach es X.env := by rfl) (hplain : (backTo cpos (starEach es X.env)).any (·.1) = false := by rfl) :
    PE X (.Call (.Attribute o name apos) (e :: es) [] cpos) (tBM X.K T r to t) := by
  intro pins s σ H Q I h
  refine wpAny_Call_method_late hbase hfew hline rfl (thn (ho pins s σ H _ I h) fun v s1 ⟨x, H1, I1, r1, ty, q1⟩ => ?_)
  obtain ⟨h1, h2⟩ := tyV_is I1 r1 ty
  refine ⟨T, id, pa, slot, hty, h1, h2, ?_⟩
  have hA := ha cpos pins s1 σ H1 _ I1 q1
  rw [hs] at hA ⊢
  refine Calls.callWith_builtin (by show (false || (backTo cpos (starEach es X.env)).any (·.1)) = false; rw [hplain] <;> rfl) (Calls.evalArgs_plain ?_)
  exact thn hA fun us s2 ⟨vs, H2, I2, r2, q2⟩ => hm pins s2 σ H2 x vs v us Q I2 r1 r2 q2
/- xs.append(e), list.index on a module's tuple .. are MtR facts of 06m -/
end
end L2

namespace L2
open PySem PySem.Spec PyProof.Rows

def MtM (X : Cx) (id : String) (r : V → List V → Hp → VK → Prop) : Prop :=
  ∀ (pins : List (Addr × Obj)) (s : Shared) (σ : St) (H : Hp) (x : V) (xs : List V) (v : Value) (us : List Value) (Q : VK), Inv X pins σ H s → RelV x v → Vals xs us → r x xs H Q →
    wpAny (model X.prog X.w) X.A (call (.builtin id) (v :: us)) (EP X pins σ Q) X.xe s

/-! ### lists of values -/
theorem Vals.one : ∀ {x : V} {us : List Value}, Vals [x] us → ∃ u, us = [u] ∧ RelV x u
  | _, _, .cons r .nil => ⟨_, rfl, r⟩
theorem Vals.zero : ∀ {us : List Value}, Vals [] us → us = []
  | _, .nil => rfl
theorem Vals.dropLast {xs : List V} {us : List Value} (h : Vals xs us) : Vals xs.dropLast us.dropLast := by
  induction h with
  | nil => exact .nil
  | cons r t ih =>
    cases t with
    | nil => exact .nil
    | cons q t' => exact .cons r ih
theorem Vals.eraseIdx : ∀ {xs : List V} {us : List Value} (i : Nat), Vals xs us → Vals (xs.eraseIdx i) (us.eraseIdx i)
  | _, _, _, .nil => .nil
  | _, _, 0, .cons _ t => t
  | _, _, i + 1, .cons r t => .cons r (Vals.eraseIdx i t)
theorem erase_last {α : Type} (l : List α) : l.eraseIdx (l.length - 1) = l.dropLast := by
  induction l with
  | nil => rfl
  | cons a r ih =>
    cases r with
    | nil => rfl
    | cons b r =>
      have e : (a :: b :: r).length - 1 = ((b :: r).length - 1) + 1 := by
        have h1 : (a :: b :: r).length = r.length + 2 := rfl
        have h2 : (b :: r).length = r.length + 1 := rfl
        omega
      rw [e, List.eraseIdx_cons_succ, ih]
      all_goals rfl
theorem len_erase {α : Type} : ∀ (l : List α) (i : Nat), (l.eraseIdx i).length ≤ l.length
  | [], _ => Nat.le_refl _
  | _ :: _, 0 => Nat.le_succ _
  | _ :: r, i + 1 => Nat.succ_le_succ (len_erase r i)
section
variable {X : Cx} {pins : List (Addr × Obj)} {σ : St} {H : Hp} {s : Shared} {l b : Addr} {xs ys zs : List V}

/-! ### the two steps: a tracked list is rewritten, a new list is laid -/
theorem Inv.lset {its its' : List Value} {n : Nat} {f : Array Value → Array Value} {t' : Nat} (I : Inv X pins σ H s) (hH : H l = some (.lst xs))
    (e : s.heap.get? l = some { cls := .type "list", data := .seq its.toArray n }) (hf : f its.toArray = its'.toArray) (hv : Vals ys its') (hz : ys.length ≤ sizeLine) :
    Inv X pins σ (upd H l (.lst ys)) { s with heap := s.heap.update l (Obj.mapSeq f), toks := t' } := by
  have q := PySem.IsL.update e f
  rw [hf] at q
  refine I.write (x := l) (e := l) (by rw [hH]; exact trivial) (.inl rfl) (fun b' u hb hu => (Heap.get?_update_other s.heap (Obj.mapSeq f) (Ne.symm hb)).trans hu) ⟨_, q⟩ ?_
  exact ⟨hz, its', _, hv, q⟩
theorem Inv.lnew {its : List Value} {t' : Nat} (I : Inv X pins σ H s) (hv : Vals ys its) (hz : ys.length ≤ sizeLine) :
    Inv X pins σ (upd H s.heap.objs.size (.lst ys)) { s with heap := s.heap.push { cls := .type "list", data := .seq its.toArray }, toks := t' } :=
  I.laid (fun _ _ q => Heap.get?_push_of_some _ q) (Nat.le_refl _) ⟨hz, its, 0, hv, Heap.get?_push_size _ rfl⟩
theorem Inv.fresh (I : Inv X pins σ H s) : H s.heap.objs.size = none := I.hok.fresh (Nat.le_refl _)
theorem Inv.lstM (I : Inv X pins σ H s) (hH : H l = some (.lst xs)) : xs.length ≤ sizeLine ∧ ∃ (its : List Value) (n : Nat), Vals xs its ∧ xs.length = its.length ∧ s.heap.get? l = some { cls := .type "list", data := .seq its.toArray n } := by
  obtain ⟨z, its, n, r, e⟩ := I.hok l _ hH
  exact ⟨z, its, n, r, r.length, e⟩

theorem notLongL {n : Nat} (h : n ≤ sizeLine) : Builtin.List.listTooLong n = false := by
  unfold Builtin.List.listTooLong
  exact decide_eq_false (by omega)
end

section
variable {X : Cx}

/-! ### methods -/
def rAppend : V → List V → Hp → VK → Prop := fun x vs H Q => ∃ l xs y, x = .ref l ∧ vs = [y] ∧ H l = some (.lst xs) ∧ xs.length < sizeLine ∧ Q .non (upd H l (.lst (xs ++ [y])))
theorem mt_append : MtM X "list.append" rAppend := by
  intro pins s σ H x vs v us Q I rx rv h
  obtain ⟨l, xs, y, rfl, rfl, hH, hz, q⟩ := h
  cases rx
  obtain ⟨u, rfl, ru⟩ := rv.one
  obtain ⟨z, its, n, r, hl, e⟩ := I.lstM hH
  refine call_meets F.slot_list_append ⟨_, e, rfl⟩ F.entry_list_append (F.args_list_append_2 _ _) (PySem.list_append l its.toArray n u (by rw [List.size_toArray]; omega)) ⟨e, ?_⟩
  refine ⟨.non, _, I.lset (its' := its ++ [u]) hH e (by simp) (r.append (.cons ru .nil)) ?_, rfl, q⟩
  rw [List.length_append, List.length_singleton]
  omega

def rExtend : V → List V → Hp → VK → Prop := fun x vs H Q => ∃ l b xs zs, x = .ref l ∧ vs = [.ref b] ∧ H l = some (.lst xs) ∧ H b = some (.lst zs) ∧ xs.length + zs.length ≤ sizeLine ∧ Q .non (upd H l (.lst (xs ++ zs)))
theorem mt_extend : MtM X "list.extend" rExtend := by
  intro pins s σ H x vs v us Q I rx rv h
  obtain ⟨l, b, xs, zs, rfl, rfl, hH, hB, hz, q⟩ := h
  cases rx
  obtain ⟨u, rfl, ru⟩ := rv.one
  cases ru
  obtain ⟨z, its, n, r, hl, e⟩ := I.lstM hH
  obtain ⟨z2, its2, n2, r2, hl2, e2⟩ := I.lstM hB
  have hsz : its.toArray.size + its2.toArray.size ≤ sizeLine := by rw [List.size_toArray, List.size_toArray]; omega
  have hlong : ¬ (!its.toArray.isEmpty && Builtin.List.listTooLong (its.toArray.size + its2.toArray.size)) = true := by
    rw [notLongL hsz, Bool.and_false]
    exact Bool.false_ne_true
  refine call_meets F.slot_list_extend ⟨_, e, rfl⟩ F.entry_list_extend (F.args_list_extend_2 _ _)
    (AutoSeq1.list_extend_list_list_0 l its.toArray n b its2.toArray n2 hlong (by rw [List.size_toArray]; omega) (by omega)) ⟨e, e2, ?_⟩
  refine ⟨.non, _, I.lset (its' := its ++ its2) hH e (by simp) (r.append r2) ?_, rfl, q⟩
  rw [List.length_append]
  omega

def rPop : V → List V → Hp → VK → Prop := fun x vs H Q => ∃ l xs y, x = .ref l ∧ vs = [] ∧ H l = some (.lst xs) ∧ xs[xs.length - 1]? = some y ∧ Q y (upd H l (.lst xs.dropLast))
theorem mt_pop : MtM X "list.pop" rPop := by
  intro pins s σ H x vs v us Q I rx rv h
  obtain ⟨l, xs, y, rfl, rfl, hH, hy, q⟩ := h
  cases rx
  have hus := rv.zero
  subst hus
  obtain ⟨z, its, n, r, hl, e⟩ := I.lstM hH
  obtain ⟨u, hu, ru⟩ := r.get hy
  have hy' : its.toArray[its.toArray.size - 1]? = some u := by
    show its.toArray[its.length - 1]? = some u
    rw [← Array.getElem?_toList, ← hl]
    exact hu
  refine call_meets F.slot_list_pop ⟨_, e, rfl⟩ F.entry_list_pop (F.args_list_pop_1 _) (MeetsSeq.list_pop_last l its.toArray n u hy' (by rw [List.size_toArray]; omega)) ⟨e, ?_⟩
  refine ⟨y, _, I.lset (its' := its.dropLast) hH e ?_ r.dropLast ?_, ru, q⟩
  · show its.toArray.eraseIdxIfInBounds (its.toArray.size - 1) = its.dropLast.toArray
    rw [List.size_toArray, List.eraseIdxIfInBounds_toArray, erase_last]
  · rw [List.length_dropLast]
    omega

def rPopAt : V → List V → Hp → VK → Prop := fun x vs H Q => ∃ l xs i k y, x = .ref l ∧ vs = [.int i] ∧ H l = some (.lst xs) ∧ -(2 ^ 63) ≤ i ∧ i < 2 ^ 63 ∧ seqIndex? i xs.length = some k ∧ xs[k]? = some y ∧ Q y (upd H l (.lst (xs.eraseIdx k)))
theorem mt_popAt : MtM X "list.pop" rPopAt := by
  intro pins s σ H x vs v us Q I rx rv h
  obtain ⟨l, xs, i, k, y, rfl, rfl, hH, h1, h2, hk, hy, q⟩ := h
  cases rx
  obtain ⟨u, rfl, ru⟩ := rv.one
  obtain ⟨t, rfl⟩ := ru
  obtain ⟨z, its, n, r, hl, e⟩ := I.lstM hH
  obtain ⟨w, hw, rw'⟩ := r.get hy
  refine call_meets F.slot_list_pop ⟨_, e, rfl⟩ F.entry_list_pop (F.args_list_pop_2 _ _)
    (MeetsSeq.list_pop_at l its.toArray n i t k w (fitsIndex_both h1 h2) (by rw [List.size_toArray, ← hl]; exact hk) (by rw [← Array.getElem?_toList]; exact hw) (by rw [List.size_toArray]; omega)) ⟨e, ?_⟩
  refine ⟨y, _, I.lset (its' := its.eraseIdx k) hH e ?_ (r.eraseIdx k) ?_, rw', q⟩
  · show its.toArray.eraseIdxIfInBounds k = (its.eraseIdx k).toArray
    rw [List.eraseIdxIfInBounds_toArray]
  · have := len_erase xs k
    omega

/-! ### list + list, list += list, list * int -/
def rCat : R2 := fun x y H Q => ∃ l b xs zs, x = .ref l ∧ y = .ref b ∧ H l = some (.lst xs) ∧ H b = some (.lst zs) ∧ xs.length + zs.length ≤ sizeLine ∧ ∀ p, H p = none → Q (.ref p) (upd H p (.lst (xs ++ zs)))
theorem op_cat : OpR X (binaryOp .Add) rCat := by
  intro pins s σ H x y v u Q I rx ry h
  obtain ⟨l, b, xs, zs, rfl, rfl, hH, hB, hz, q⟩ := h
  cases rx
  cases ry
  obtain ⟨z, its, n, r, hl, e⟩ := I.lstM hH
  obtain ⟨z2, its2, n2, r2, hl2, e2⟩ := I.lstM hB
  refine PySem.P.add_list e e2 ?_ (by rw [List.size_toArray, List.size_toArray]; omega)
  have ea : its.toArray ++ its2.toArray = (its ++ its2).toArray := by simp
  rw [ea]
  exact ⟨.ref _, _, I.lnew (t' := s.toks) (r.append r2) (by rw [List.length_append]; omega), rfl, q _ I.fresh⟩
/-! ### del xs[i] -/
end

/-! ### xs[a:b] = ys -/
section
variable {prog : Program} {w : World} {A : Around} {E : Value → Shared → Prop} {s : Shared}
end

section
variable {X : Cx}
end
end L2

namespace Att
open PySem PySem.W PySem.Calls PyProof.Rows

/-! ### the script -/
theorem ints_of_wellAll {P : Params} {h : Heap} : ∀ (ns : List Int) (vs : List Value), WellAll P h vs (ns.map WData.int) → IntsAre vs ns := by
  intro ns
  induction ns with
  | nil =>
    intro vs w
    rw [List.map_nil] at w
    cases w
    exact .nil
  | cons n ns ih =>
    intro vs w
    rw [List.map_cons] at w
    cases w with
    | cons a b =>
      cases a
      exact .cons _ _ (ih _ b)

theorem script_of {l : OpenLaw} {n : Nat} (hn : l.most = some n) {P : Params} {h : Heap} {args : List WData} {vals : List Value}
    (hpre : l.row.toRowW.claim.pre args = true) (hwl : WellAll P h vals args) :
    ∃ a vs ns, vals = [Value.ref a] ∧ args = [WData.list (ns.map WData.int)] ∧ h.get? a = some { cls := .type "list", data := .seq vs.toArray } ∧ IntsAre vs ns ∧ ns.length ≤ n := by
  have hsh : WShape.hasAll [] args [.list .int] = true := (pre_splitW hpre).1
  have hc : l.pre.holds [] { args := args } = true := (pre_splitW hpre).2
  obtain ⟨d, r, rfl, h1, h2⟩ := hasAllW_cons hsh
  obtain rfl := hasAllW_nil h2
  obtain ⟨xs, rfl, h3⟩ := hasW_list h1
  obtain ⟨ns, rfl⟩ := items_int h3
  have hlen : ns.length ≤ n := by
    unfold OpenLaw.pre at hc
    have h4 : (WTm.not (.lt (.lit (.int (n : Int))) (.len (.arg 0)))).holds [] { args := [.list (ns.map .int)] } = true := by
      have h4 := (holds_andW hc).1
      rw [hn] at h4
      exact h4
    have h5 := condW_of h4 (w_not (w_lt w_lit (w_len_list (w_arg rfl))))
    rw [List.length_map] at h5
    refine Nat.le_of_not_lt fun q => ?_
    have q' : (n : Int) < ((ns.length : Nat) : Int) := by omega
    first
      | (rw [decide_eq_true q'] at h5; exact absurd h5 (by decide))
      | (simp at h5; omega)
  cases hwl with
  | cons w1 w2 =>
    cases w2
    cases w1 with
    | list ho hall => exact ⟨_, _, ns, rfl, rfl, ho, ints_of_wellAll ns _ hall, hlen⟩

theorem post_true (l : OpenLaw) (args : List WData) : l.row.toRowW.claim.post args (.bool true) args = true :=
  postW_of (r := l.row.toRowW) (X := (true == true))
    (show WShape.has [] (.bool true) .bool = true by first | rfl | decide | simp [WShape.has, WShape.arms, WShape.armsAll])
    (show (WTm.eq .res (.lit (.bool true))).value [] { args := args, res := some (.bool true), after := args } = some (.bool (true == true)) from w_eq_bool (w_res rfl) w_lit) rfl

/-! ### the attachment: holds_open's last premise (the goal 'hc' behind k_head) from a wpAny of the law's body -/
/-- the same from a codeAny of the CALL (for a layer whose function contracts speak of calls) -/
theorem attach_call {l : OpenLaw} {n : Nat} {q : Program} {loose : List Str} {XP : (Str → Option Value) → Heap → Prop} {YP : World → Heap → Prop} {d : DefRec}
    (hn : l.most = some n) (hdf : d.params.defaults = [])
    (call : ∀ (w : World) (s₀ s₁ : Shared) (mg mb : Str → Option Value) (fa : Addr) (o : Obj) (pm cd doc : Value) (a : Addr) (vs : List Value) (ns : List Int),
      Ground q loose [] XP w s₀ mg mb s₁.heap → YP w s₁.heap →
      s₁.heap.get? fa = some o → o.data = .func (docDef d.name d.params d.body d.scope pm cd doc) → s₁.heap.CodeRec cd d.name → mg d.name = some (.ref fa) →
      s₁.heap.get? a = some { cls := .type "list", data := .seq vs.toArray } → IntsAre vs ns → ns.length ≤ n → s₁.gens = #[] →
      codeAny (model l.prog w) callerA (.call (.ref fa) ⟨[.ref a], []⟩) (fun r s' => r = .ok (.ret (.bool true)) ∧ OldK s₁.heap s'.heap ∧ s'.os = s₁.os ∧ AllBare s'.gens) s₁) :
    WalkO q loose XP YP l.row.toRowW d [] (fun f vs => PySem.call f vs) := by
  intro w s₀ s₁ mg mb G Y fa o pm cd doc dV kV ho hd hcd hD hmg hg args vals as hpre hlay hrd hwl hlo
  obtain rfl : dV = .none := Dflts.none hD hdf
  obtain rfl : kV = .none := Dflts.noKw hD
  obtain ⟨a, vs, ns, rfl, rfl, hobj, hints, hlen⟩ := script_of hn hpre hwl
  refine enter_call (codeAny_mono (call w s₀ s₁ mg mb fa o pm cd doc a vs ns G Y ho (fd_plain hd) hcd hmg hobj hints hlen hg) fun r s' hq => ?_)
  obtain ⟨rfl, h2, h3, h4⟩ := hq
  exact ⟨.inl ⟨.bool true, .bool true, [], rfl, fun _ => rfl, .bool true, post_true l _, fun _ => ⟨List.Pairwise.nil, fun _ hm => (nomatch hm)⟩⟩, h2, h3, h4⟩

/-! ### rules over ANY heap (no ledger) from facts about the written part K: the library's own take a ledger (News) for what they write -/
section
variable {prog : Program} {w : World} {A : Around} {E : Value → Shared → Prop} {s : Shared} {K : Frag}

/-! the whole heap as the ledger: makes every rule that writes through a ledger a rule over any heap -/
def ledger (h : Heap) (L d : Addr) : List (Addr × Obj) := (List.range h.objs.size).filterMap fun a => if a = L ∨ a = d then none else (h.get? a).map fun o => (a, o)
end
end Att

namespace L2
open PySem PySem.Spec PyProof.Rows

theorem vals_ints : ∀ {vs : List Value} {ns : List Int}, IntsAre vs ns → Vals (ns.map V.int) vs
  | _, _, .nil => .nil
  | _, _, .cons n t h => .cons ⟨t, rfl⟩ (vals_ints h)

/-- nothing is tracked but the script, known to the object (or it is an object of the module) -/
def Only (H : Hp) : Prop := ∀ b, H b = none ∨ ∃ o xs, H b = some (.frz o (.lst xs))

/-- THE HEAD: the law's promise, at the heap behind the top. F, the promise of the law's def, may use that base is part of the heap (so K.In base, base.Ns mainGlobals mg stand in Mod) -/
theorem law_call {P : Program} {w : World} {K : PySem.W.Frag} {mg mb : Str → Option Value} {CX : CXT} {k : Nat} {fa a : Addr} {fd : FuncData} {x : Str} {sp : Sp} {s₁ : Shared} {vs : List Value} {ns : List Int}
    (KX : K.In s₁.heap) (hns : s₁.heap.Ns mainGlobals mg) (hb : s₁.heap.Ns builtinsNs mb) (hbb : ∀ x : Str, x ≠ "__name__" → mb x = bootBuiltins x) (hlim : s₁.heap.NoLimit) (hg : s₁.gens = #[])
    (ha : s₁.heap.get? a = some { cls := .type "list", data := .seq vs.toArray }) (hi : IntsAre vs ns) (hl : ns.length ≤ sizeLine) (hr : Room k callerA)
    (F : ∀ base : Heap, K.In base → base.Ns mainGlobals mg → FnOk P w K mg base CX k fa fd [x] sp) (hbind : ∀ (s : Shared) (u : Value), BindsTo s fd ⟨[u], []⟩ [(x, u)])
    (hsp : ∀ H : Hp, Only H → SqL K H a (ns.map V.int) → sp [.ref a] H (fun v _ => v = .bl true) fun _ _ _ => False)
    (hCX : ∀ H e s', CX [] H s₁ (fun _ _ _ => False) e s' → False) :
    codeAny (model P w) callerA (.call (.ref fa) ⟨[.ref a], []⟩) (fun r s' => r = .ok (.ret (.bool true)) ∧ OldK s₁.heap s'.heap ∧ s'.os = s₁.os ∧ AllBare s'.gens) s₁ := by
  have rv := vals_ints hi
  have lenV := hi.length
  -- from an abstract heap in which nothing but the script may be tracked
  have core : ∀ H : Hp, Only H → SqL K H a (ns.map V.int) → HOk P w H s₁.heap → (∀ b, H b ≠ none → b = a) → (H a ≠ none → K.lookup a = none) →
      codeAny (model P w) callerA (.call (.ref fa) ⟨[.ref a], []⟩) (fun r s' => r = .ok (.ret (.bool true)) ∧ OldK s₁.heap s'.heap ∧ s'.os = s₁.os ∧ AllBare s'.gens) s₁ := by
    intro H hO hS hok hA hK
    have base_of : ∀ {b : Addr} {o : Obj}, s₁.heap.get? b = some o → H b = none → (hidT s₁.heap H).get? b = some o := fun e n => hidT_get e n
    have noA : ∀ {b : Addr} {o : Obj} {es : Array DictEntry} {ep : Nat}, s₁.heap.get? b = some o → o.data = .dict es ep → H b = none := fun {b o es ep} e d => by
      cases q : H b with
      | none => rfl
      | some u =>
        have e' : b = a := hA b (by rw [q]; simp)
        subst e'
        rw [ha] at e; cases e
        have d' : Data.seq vs.toArray _ = Data.dict es ep := d
        cases d'
    have nsK : ∀ {b : Addr} {m : Str → Option Value}, s₁.heap.Ns b m → (hidT s₁.heap H).Ns b m := fun {b m} ⟨o, es, ep, e, d, r⟩ => ⟨o, es, ep, base_of e (noA e d), d, r⟩
    have hKb : K.In (hidT s₁.heap H) := fun b o e => base_of (KX b o e) (by
      cases q : H b with
      | none => rfl
      | some u =>
        have e' : b = a := hA b (by rw [q]; simp)
        subst e'
        rw [hK (by rw [q]; simp)] at e; cases e)
    have hM : Mod K mg (hidT s₁.heap H) := ⟨hKb, nsK hns, ⟨mb, nsK hb, hbb⟩, let ⟨mc, h1, h2⟩ := hlim; ⟨mc, nsK h1, h2⟩⟩
    have e0 : Env0 P w K mg (hidT s₁.heap H) callerA [] s₁ H := ⟨rfl, hM, fun b o e => of_hidT e, Nat.le_of_eq (hidT_size _ _), trivial, fun b hb => absurd (show b ∈ ([] : List Addr) from hb) (by simp), hok, .of_eq hg⟩
    refine codeAny_mono ((F _ hKb (nsK hns)).run callerA [] s₁ H ⟨[.ref a], []⟩ [.ref a] [.ref a] _ _ hr e0 (hbind s₁ (.ref a)) (.cons rfl .nil) (hsp H hO hS)) fun r s' h => ?_
    cases r with
    | error e => exact (hCX H e s' h).elim
    | ok fl =>
      cases fl with
      | next => exact False.elim h
      | brk => exact False.elim h
      | cont => exact False.elim h
      | ret u =>
        obtain ⟨v, H', os, bare, un, hok', r', q⟩ := h
        have q' : v = .bl true := q
        subst q'
        obtain rfl : u = Value.bool true := r'
        refine ⟨rfl, OldK.of_keep fun b o e => ?_, os, bare⟩
        cases q : H b with
        | none => exact un.keep b o e q (by intro z; exact absurd (show b ∈ ([] : List Addr) from z) (by simp)) (by simp)
        | some u =>
          rcases hO b with z | ⟨ob, xs, z⟩
          · rw [q] at z; cases z
          · have z2 := un.frzs b ob _ z
            obtain ⟨e1, _⟩ := hok b _ z
            obtain ⟨e2, _⟩ := hok' b _ z2
            rw [e] at e1; cases e1
            exact e2
  cases hk : K.lookup a with
  | some o =>
    -- the script is one of the module's own objects
    have e := KX a o hk
    rw [ha] at e
    cases e
    refine core (fun _ => none) (fun _ => .inl rfl) (.inr ⟨_, vs.toArray, _, hk, rfl, rfl, rfl, by rw [List.size_toArray, lenV]; exact hl, by simpa using rv⟩) (fun b u z => by have z' : (none : Option HO) = some u := z; cases z') (fun b z => absurd rfl z) fun z => absurd rfl z
  | none =>
    refine core (fun b => if b = a then some (.frz { cls := .type "list", data := .seq vs.toArray } (.lst (ns.map V.int))) else none) (fun b => ?_) (.inl (.inr ⟨{ cls := .type "list", data := .seq vs.toArray }, if_pos rfl⟩)) (fun b u z => ?_) (fun b z => ?_) fun _ => hk
    · by_cases hb : b = a
      · exact .inr ⟨_, _, if_pos hb⟩
      · exact .inl (if_neg hb)
    · by_cases hb : b = a
      · have z' := (if_pos hb).symm.trans z
        cases z'
        subst hb
        exact ⟨ha, by rw [List.length_map]; exact hl, vs, _, rv, ha⟩
      · have z' := (if_neg hb).symm.trans z
        cases z'
    · by_cases hb : b = a
      · exact hb
      · exact absurd (if_neg hb) z
end L2

namespace L2
open PySem PySem.Spec PyProof.Rows

/-- the goal that k_head leaves (case hc), from the law's promise. F gives the function object fd (K's own) once, then the promise over every base -/
theorem walk_of {l : PySem.W.OpenLaw} {n k : Nat} {q : Program} {loose : List Str} {XP : (Str → Option Value) → Heap → Prop} {YP : World → Heap → Prop} {d : DefRec} {K : Params → PySem.W.Frag} {CX : World → CXT} {sp : World → Sp} {x : Str}
    (hn : l.most = some n) (hn2 : n ≤ sizeLine) (hdf : d.params.defaults = []) (hr : Room k callerA)
    (hY : ∀ (w : World) (h : Heap), YP w h → (K w.params).In h)
    (F : ∀ (w : World) (mg : Str → Option Value) (fa : Addr) (h : Heap), (K w.params).In h → h.Ns mainGlobals mg → mg d.name = some (.ref fa) →
      ∃ fd : FuncData, (∀ (s : Shared) (u : Value), BindsTo s fd ⟨[u], []⟩ [(x, u)]) ∧
        ∀ base : Heap, (K w.params).In base → base.Ns mainGlobals mg → FnOk l.prog w (K w.params) mg base (CX w) k fa fd [x] (sp w))
    (hsp : ∀ (w : World) (H : Hp) (a : Addr) (ns : List Int), ns.length ≤ n → Only H → SqL (K w.params) H a (ns.map V.int) → sp w [.ref a] H (fun v _ => v = .bl true) fun _ _ _ => False)
    (hCX : ∀ (w : World) (H : Hp) (s : Shared) (e : Value) (s' : Shared), CX w [] H s (fun _ _ _ => False) e s' → False) :
    PySem.W.WalkO q loose XP YP l.row.toRowW d [] (fun f vs => PySem.call f vs) := by
  refine Att.attach_call hn hdf fun w s₀ s₁ mg mb fa o pm cd doc a vs ns G Y ho hd hcd hmg hobj hints hlen hg => ?_
  have KX := hY w _ Y
  obtain ⟨fd, hb, hF⟩ := F w mg fa _ KX G.T.g hmg
  exact law_call KX G.T.g G.T.b G.T.builtins G.T.nolimit hg hobj hints (Nat.le_trans hlen hn2) hr hF hb (fun H hO hS => hsp w H a ns hlen hO hS) fun H e s' => hCX w H s₁ e s'
end L2



/-! SHORT WORDS over the layer: a def of the text, its body, what a loop and a test want. -/
namespace L2
open PySem PySem.Spec PyProof.Rows

/-! ### the text by places -/
/-- the j-th statement of a class's body -/
def inClass (s : Stmt) (j : Nat) : Stmt := match s with
  | .ClassDef _ _ _ body _ _ _ _ _ _ _ => body.getD j (.Pass ⟨0, 0, 0, 0⟩)
  | _ => .Pass ⟨0, 0, 0, 0⟩
def defArgs (s : Stmt) : Arguments := match s with
  | .FunctionDef _ a _ _ _ _ _ _ _ _ => a
  | _ => { posonlyargs := [], args := [], vararg := none, kwonlyargs := [], kw_defaults := [], kwarg := none, defaults := [] }
def defBody (s : Stmt) : List Stmt := match s with
  | .FunctionDef _ _ b _ _ _ _ _ _ _ => b
  | _ => []
def defScope (s : Stmt) : Scope := match s with
  | .FunctionDef _ _ _ _ _ _ sc _ _ _ => sc
  | _ => { kind := .function, names := [], isGenerator := false, isCoroutine := false }

/-! ### no exception leaves a def -/
abbrev E0 : XK := fun _ _ _ => False
/-! ### a def (or method) of the text as it stands behind the top -/
structure Fun (K : PySem.W.Frag) (x qual : Str) (st : Stmt) (f : Addr) (fd : FuncData) : Prop where
  ex : ∃ (oc : Value) (od : Option Addr) (kV doc pm : Value) (an : Option Addr) (cdv ct : Value) (osl : Array (Option Value)),
    fd = PySem.W.fnOf x qual (defArgs st) (defBody st) (defScope st) .none kV doc pm an cdv ct ∧ K.lookup f = some ⟨oc, od, .func fd, osl⟩ ∧ PySem.W.codeIn K cdv qual = true
  kp : PySem.W.keepIn K (.ref f) = true
section
variable {P : Program} {w : World} {K : PySem.W.Frag} {mg : Str → Option Value} {base : Heap}
/-- how its arguments bind (no defaults): h is «fun _ _ _ _ _ _ us hl => match us, hl with | [_, _], _ => rfl», one _ a parameter -/
theorem Fun.binds {x qual : Str} {st : Stmt} {f : Addr} {fd : FuncData} {ps : List Str} (F : Fun K x qual st f fd)
    (h : ∀ (kV doc pm : Value) (an : Option Addr) (cdv ct : Value) (us : List Value), us.length = ps.length → bindArgs (PySem.W.fnOf x qual (defArgs st) (defBody st) (defScope st) .none kV doc pm an cdv ct) ⟨us, []⟩ = pure (ps.zip us)) : Binds K fd ps [] := by
  obtain ⟨oc, od, kV, doc, pm, an, cdv, ct, osl, rfl, lk, hcd⟩ := F.ex
  exact .all (h kV doc pm an cdv ct)
theorem fun_mk {x qual : Str} {st : Stmt} {f : Addr} {oc : Value} {od an : Option Addr} {osl : Array (Option Value)} {kV doc pm cdv ct : Value} (l : K.lookup f = some ⟨oc, od, .func (PySem.W.fnOf x qual (defArgs st) (defBody st) (defScope st) .none kV doc pm an cdv ct), osl⟩)
    (c : PySem.W.codeIn K cdv qual = true) (k : PySem.W.keepIn K (.ref f) = true) : Fun K x qual st f (PySem.W.fnOf x qual (defArgs st) (defBody st) (defScope st) .none kV doc pm an cdv ct) := ⟨⟨oc, od, kV, doc, pm, an, cdv, ct, osl, rfl, l, c⟩, k⟩
end
theorem hu_of {A : Around} {k : Nat} (hr : Room k A) : A.units + 1 < cLine := Nat.lt_of_le_of_lt (Nat.add_le_add_left (by decide : 1 ≤ 64) _) hr.units
/-! ### expressions in short: the name that stands in the i-th slot -/
section
variable {X : Cx}
theorem pv (i : Nat) {x : Str} {pos : Pos} (hN : X.N[i]? = some x := by rfl) (hv : Vis X.env.scope x := by first | exact Or.inl rfl | exact Or.inr (Or.inl rfl) | exact Or.inr (Or.inr rfl)) (hd : (x == ("__debug__" : Str)) = false := by decide)
    (hcd : (x == ("__classdict__" : Str)) = false := by decide) : PE X (.Name x pos) (tVar i) := pe_var hN hv hd hcd
end

/-! ### tests -/
theorem iteF {A B : Prop} (h : B) : if false = true then A else B := by
  rw [if_neg Bool.false_ne_true]
  exact h
theorem iteT {A B : Prop} (h : A) : if true = true then A else B := by
  rw [if_pos rfl]
  exact h
/-! ### heaps -/
/-- all that was tracked is as it was -/
def Same (H H' : Hp) : Prop := ∀ b o, H b = some o → H' b = some o
theorem Same.refl (H : Hp) : Same H H := fun _ _ h => h
theorem Same.trans {H H1 H2 : Hp} (a : Same H H1) (b : Same H1 H2) : Same H H2 := fun c o h => b c o (a c o h)
theorem Same.free {H H' : Hp} (e : Same H H') {l : Addr} (h : H' l = Option.none) : H l = Option.none := by
  cases q : H l with
  | none => rfl
  | some o =>
    rw [e l o q] at h
    cases h
theorem Same.seq {K : PySem.W.Frag} {H H' : Hp} {a : Addr} {xs : List V} (e : Same H H') (h : SqL K H a xs) : SqL K H' a xs := by
  rcases h with (h | ⟨o, h⟩) | h
  · exact .inl (.inl (e _ _ h))
  · exact .inl (.inr ⟨o, e _ _ h⟩)
  · exact .inr h

end L2

namespace L2
open PySem PySem.Spec PyProof.Rows

/-! ### lists of pairs as tables -/
section
variable {κ : Type} [DecidableEq κ]
def valV (kvs : List (κ × V)) (k : κ) : Option V := (kvs.find? fun kv => decide (kv.1 = k)).map (·.2)
/-- in its place, or at the end -/
def putK (kvs : List (κ × V)) (k : κ) (v : V) : List (κ × V) :=
  if (kvs.any fun kv => decide (kv.1 = k)) = true then kvs.map (fun kv => if kv.1 = k then (kv.1, v) else kv) else kvs ++ [(k, v)]
theorem valV_nil {k : κ} : valV ([] : List (κ × V)) k = none := rfl
theorem valV_pos {p : κ × V} {r : List (κ × V)} {k : κ} (e : p.1 = k) : valV (p :: r) k = some p.2 := by simp [valV, List.find?_cons, e]
theorem valV_neg {p : κ × V} {r : List (κ × V)} {k : κ} (e : ¬ p.1 = k) : valV (p :: r) k = valV r k := by simp [valV, List.find?_cons, e]
theorem valV_any (k : κ) : ∀ kvs : List (κ × V), (kvs.any fun kv => decide (kv.1 = k)) = (valV kvs k).isSome
  | [] => rfl
  | p :: r => by
    rw [List.any_cons]
    by_cases e : p.1 = k
    · simp only [valV_pos e, decide_eq_true e, Bool.true_or, Option.isSome_some]
    · rw [valV_neg e, decide_eq_false e, Bool.false_or]; exact valV_any k r
theorem valV_map (k j : κ) (y : V) : ∀ kvs : List (κ × V), valV (kvs.map fun kv => if kv.1 = k then (kv.1, y) else kv) j = (valV kvs j).map fun x => if j = k then y else x
  | [] => rfl
  | p :: r => by
    have ih := valV_map k j y r
    rw [List.map_cons]
    by_cases h : p.1 = k
    · rw [if_pos h]
      by_cases e : p.1 = j
      · rw [valV_pos (p := (p.1, y)) e, valV_pos e, Option.map_some, if_pos (e.symm.trans h)]
      · rw [valV_neg (p := (p.1, y)) e, valV_neg e, ih]
    · rw [if_neg h]
      by_cases e : p.1 = j
      · rw [valV_pos (p := p) e, valV_pos e, Option.map_some, if_neg (fun z => h (e.trans z))]
      · rw [valV_neg (p := p) e, valV_neg e, ih]
theorem valV_snoc (k j : κ) (y : V) : ∀ kvs : List (κ × V), valV kvs k = none → valV (kvs ++ [(k, y)]) j = if j = k then some y else valV kvs j
  | [], _ => by
    by_cases e : k = j
    · rw [if_pos e.symm]; exact valV_pos (p := (k, y)) e
    · rw [if_neg (fun z => e z.symm)]; exact valV_neg (p := (k, y)) e
  | p :: r, hn => by
    rw [List.cons_append]
    have hk : ¬ p.1 = k := fun z => by rw [valV_pos z] at hn; cases hn
    rw [valV_neg hk] at hn
    have ih := valV_snoc k j y r hn
    by_cases e : p.1 = j
    · rw [valV_pos e, valV_pos e, if_neg (fun z => hk (e.trans z))]
    · rw [valV_neg e, valV_neg e, ih]
theorem valV_put (kvs : List (κ × V)) (k j : κ) (y : V) : valV (putK kvs k y) j = if j = k then some y else valV kvs j := by
  unfold putK
  by_cases a : (kvs.any fun kv => decide (kv.1 = k)) = true
  · rw [if_pos a, valV_map]
    rw [valV_any] at a
    by_cases e : j = k
    · obtain ⟨x, hx⟩ := Option.isSome_iff_exists.mp a
      rw [if_pos e, e, hx, Option.map_some, if_pos rfl]
    · rw [if_neg e]
      cases valV kvs j with
      | none => rfl
      | some x => rw [Option.map_some, if_neg e]
  · rw [if_neg a]
    refine valV_snoc k j y kvs ?_
    rw [valV_any] at a
    cases q : valV kvs k with
    | none => rfl
    | some x => rw [q] at a; exact (a rfl).elim
theorem length_putK (kvs : List (κ × V)) (k : κ) (v : V) : (putK kvs k v).length ≤ kvs.length + 1 := by
  unfold putK
  split
  · rw [List.length_map]; omega
  · rw [List.length_append, List.length_cons, List.length_nil]; omega
theorem putK_new {kvs : List (κ × V)} {k : κ} (v : V) (h : valV kvs k = none) : putK kvs k v = kvs ++ [(k, v)] := by
  unfold putK
  rw [valV_any, h]
  exact if_neg (by decide)

theorem RelO.isSome_eq {o : Option V} {u : Option Value} (r : RelO o u) : o.isSome = u.isSome := by
  cases o with
  | none => cases u with
    | none => rfl
    | some _ => exact (show False from r).elim
  | some _ => cases u with
    | none => exact (show False from r).elim
    | some _ => rfl
/-- raw tables of the same keys -/
theorem KV.val {kvs : List (κ × V)} {vs : List (κ × Value)} (r : KV kvs vs) (k : κ) : RelO (valV kvs k) (valueAt vs k) := by
  unfold KV at r
  induction r with
  | nil => exact True.intro
  | @cons p q ps qs h t ih =>
    obtain ⟨h1, h2⟩ := h
    by_cases e : p.1 = k
    · have e' : q.1 = k := h1.symm.trans e
      have b : valueAt (q :: qs) k = some q.2 := by simp [valueAt, List.find?_cons, e']
      rw [valV_pos e, b]; exact h2
    · have e' : ¬ q.1 = k := fun z => e (h1.trans z)
      have b : valueAt (q :: qs) k = valueAt qs k := by simp [valueAt, List.find?_cons, e']
      rw [valV_neg e, b]; exact ih
theorem KV.any {kvs : List (κ × V)} {vs : List (κ × Value)} (r : KV kvs vs) (k : κ) : (kvs.any fun kv => decide (kv.1 = k)) = vs.any fun kv => decide (kv.1 = k) := by
  unfold KV at r
  induction r with
  | nil => rfl
  | cons h t ih => rw [List.any_cons, List.any_cons, ih, h.1]
theorem KV.repl {kvs : List (κ × V)} {vs : List (κ × Value)} (r : KV kvs vs) (k : κ) {y : V} {u : Value} (ry : RelV y u) :
    KV (kvs.map fun kv => if kv.1 = k then (kv.1, y) else kv) (vs.map fun kv => if kv.1 = k then (kv.1, u) else kv) := by
  unfold KV at r ⊢
  induction r with
  | nil => exact .nil
  | @cons p q ps qs h t ih =>
    rw [List.map_cons, List.map_cons]
    refine .cons ?_ ih
    obtain ⟨h1, h2⟩ := h
    by_cases e : p.1 = k
    · rw [if_pos e, if_pos (h1.symm.trans e)]; exact ⟨h1, ry⟩
    · rw [if_neg e, if_neg (fun z => e (h1.trans z))]; exact ⟨h1, h2⟩
theorem KV.put {kvs : List (κ × V)} {vs : List (κ × Value)} (r : KV kvs vs) (k : κ) {y : V} {u : Value} (ry : RelV y u) : KV (putK kvs k y) (stored vs k u) := by
  unfold putK stored
  rw [r.any k]
  by_cases e : (vs.any fun kv => decide (kv.1 = k)) = true
  · rw [if_pos e, if_pos e]; exact r.repl k ry
  · rw [if_neg e, if_neg e]; exact Paired.snoc r ⟨rfl, ry⟩
theorem KV.keys {kvs : List (κ × V)} {vs : List (κ × Value)} (r : KV kvs vs) : kvs.map (·.1) = vs.map (·.1) := by
  unfold KV at r
  induction r with
  | nil => rfl
  | cons h t ih => rw [List.map_cons, List.map_cons, ih, h.1]
theorem KV.length {kvs : List (κ × V)} {vs : List (κ × Value)} (r : KV kvs vs) : kvs.length = vs.length := Paired.length r
end


/-! ### a tracked dict, its keys ints and texts or tuples of these -/
theorem kV_is {P : Program} {w : World} {k : Key} {u : Value} (r : RelV (kV k) u) : (mixKind P w).is k u = true := by
  cases k with
  | inl i => obtain ⟨t, e⟩ := (show ∃ t, u = Value.int i t from r); subst e; exact mixKind_int P w i t
  | inr x => obtain ⟨t, e⟩ := (show ∃ t, u = Value.str x t from r); subst e; exact mixKind_str P w x t
theorem items_are {P : Program} {w : World} : ∀ {ks : List Key} {us : List Value}, Vals (ks.map kV) us → ItemsAre (mixKind P w) ks us
  | [], _, r => by rw [List.map_nil] at r; cases r; exact .nil
  | k :: ks, _, r => by
    rw [List.map_cons] at r
    cases r with
    | cons h t => exact .cons (kV_is h) (items_are t)

/-- raw entries of a dict with tuple keys -/
abbrev KT (H : Hp) : List (List Key × V) → List (List Key × Addr × Value) → Prop := Paired fun p q => p.1 = q.1 ∧ H q.2.1 = some (.tup (p.1.map kV)) ∧ RelV p.2 q.2.2
theorem KT.val {H : Hp} {kvs : List (List Key × V)} {xs : List (List Key × Addr × Value)} (r : KT H kvs xs) (k : List Key) : RelO (valV kvs k) ((atKey xs k).map (·.2)) := by
  induction r with
  | nil => exact True.intro
  | @cons p q ps qs h t ih =>
    obtain ⟨h1, _, h2⟩ := h
    by_cases e : p.1 = k
    · have e' : q.1 = k := h1.symm.trans e
      have b : atKey (q :: qs) k = some q.2 := by simp [atKey, List.find?_cons, e']
      rw [valV_pos e, b]; exact h2
    · have e' : ¬ q.1 = k := fun z => e (h1.trans z)
      have b : atKey (q :: qs) k = atKey qs k := by simp [atKey, List.find?_cons, e']
      rw [valV_neg e, b]; exact ih
theorem KT.repl {H : Hp} {kvs : List (List Key × V)} {xs : List (List Key × Addr × Value)} (r : KT H kvs xs) (k : List Key) {y : V} {u : Value} (ry : RelV y u) :
    KT H (kvs.map fun kv => if kv.1 = k then (kv.1, y) else kv) (xs.map (putAt k u)) := by
  induction r with
  | nil => exact .nil
  | @cons p q ps qs h t ih =>
    rw [List.map_cons, List.map_cons]
    refine .cons ?_ ih
    obtain ⟨h1, h2, h3⟩ := h
    unfold putAt
    by_cases e : p.1 = k
    · rw [if_pos e, if_pos (h1.symm.trans e)]; exact ⟨h1, h2, ry⟩
    · rw [if_neg e, if_neg (fun z => e (h1.trans z))]; exact ⟨h1, h2, h3⟩
theorem KT.put {H : Hp} {kvs : List (List Key × V)} {xs : List (List Key × Addr × Value)} (r : KT H kvs xs) (k : List Key) {b : Addr} {y : V} {u : Value} (hb : H b = some (.tup (k.map kV))) (ry : RelV y u) :
    KT H (putK kvs k y) (storedH xs k b u) := by
  have e : (kvs.any fun kv => decide (kv.1 = k)) = (atKey xs k).isSome := by
    rw [valV_any, (r.val k).isSome_eq, Option.isSome_map]
  unfold putK storedH
  rw [e]
  by_cases q : (atKey xs k).isSome = true
  · rw [if_pos q, if_pos q]; exact r.repl k ry
  · rw [if_neg q, if_neg q]; exact Paired.snoc r ⟨rfl, hb, ry⟩
theorem KT.keeps {H H' : Hp} {kvs : List (List Key × V)} {xs : List (List Key × Addr × Value)} (r : KT H kvs xs) (ht : ∀ b ys, H b = some (.tup ys) → H' b = some (.tup ys)) : KT H' kvs xs :=
  Paired.mapP r fun _ _ z => ⟨z.1, ht _ _ z.2.1, z.2.2⟩

section
variable {P : Program} {w : World} {H : Hp} {h : Heap} {a : Addr}
theorem rd_of {u : HO} (ok : HOk P w H h) (e : Rd H a u) : ObjOk P w H h a u := e.ok ok
theorem dk_rd {kvs : List (Key × V)} (ok : HOk P w H h) (e : Rd H a (.dK kvs)) : kvs.length ≤ sizeLine ∧ (a == sysModules) = false ∧ ∃ vs, KV kvs vs ∧ h.DictOf (mixKind P w) a vs :=
  show ObjOk P w H h a (.dK kvs) from rd_of ok e
theorem dk_of {kvs : List (Key × V)} (ok : HOk P w H h) (e : H a = some (.dK kvs)) : kvs.length ≤ sizeLine ∧ (a == sysModules) = false ∧ ∃ vs, KV kvs vs ∧ h.DictOf (mixKind P w) a vs := dk_rd ok (.inl e)
/-- a tracked tuple of ints and texts is a key -/
theorem key_of {ks : List Key} (ok : HOk P w H h) (e : H a = some (.tup (ks.map kV))) : (tupleKind (mixKind P w)).is h ks a := by
  obtain ⟨_, its, r, o, h1, h2, n, h3⟩ := (show ObjOk P w H h a (.tup (ks.map kV)) from ok a _ e)
  exact ⟨o, its.toArray, n, h1, h2, h3, by simpa using items_are r⟩
theorem dt_rd {kvs : List (List Key × V)} (ok : HOk P w H h) (e : Rd H a (.dT kvs)) : kvs.length ≤ sizeLine ∧ (a == sysModules) = false ∧
    ∃ xs, KT H kvs xs ∧ h.DictOfH (tupleKind (mixKind P w)) a xs := by
  obtain ⟨z, y, xs, r, o, es, ep, h1, h2, h3, h4, h5⟩ := (show ObjOk P w H h a (.dT kvs) from rd_of ok e)
  refine ⟨z, y, xs, r, o, es, ep, h1, h2, h3, h4, fun x hx => ?_, h5⟩
  have all : ∀ {l : List (List Key × V)} {m : List (List Key × Addr × Value)}, KT H l m → ∀ x ∈ m, (tupleKind (mixKind P w)).is h x.1 x.2.1 := by
    intro l m q
    induction q with
    | nil => intro x hx; exact nomatch hx
    | @cons p q ps qs hq t ih =>
      intro x hx
      rcases List.mem_cons.mp hx with e | hx
      · subst e
        exact key_of ok (by rw [← hq.1]; exact hq.2.1)
      · exact ih x hx
  exact all r x hx
theorem dt_of {kvs : List (List Key × V)} (ok : HOk P w H h) (e : H a = some (.dT kvs)) : kvs.length ≤ sizeLine ∧ (a == sysModules) = false ∧
    ∃ xs, KT H kvs xs ∧ h.DictOfH (tupleKind (mixKind P w)) a xs := dt_rd ok (.inl e)
end

/-- what the dict at a holds at the key y -/
def DGet (H : Hp) (a : Addr) (y : V) (r : Option V) : Prop :=
  (∃ kvs k, Rd H a (.dK kvs) ∧ y = kV k ∧ r = valV kvs k) ∨ ∃ kvs k b, Rd H a (.dT kvs) ∧ y = .ref b ∧ H b = some (.tup (k.map kV)) ∧ r = valV kvs k
/-- the heap behind a[y] = v -/
def DPut (H : Hp) (a : Addr) (y v : V) (H' : Hp) : Prop :=
  (∃ kvs k, H a = some (.dK kvs) ∧ y = kV k ∧ kvs.length < sizeLine ∧ H' = upd H a (.dK (putK kvs k v))) ∨
  ∃ kvs k b, H a = some (.dT kvs) ∧ y = .ref b ∧ H b = some (.tup (k.map kV)) ∧ kvs.length < sizeLine ∧ H' = upd H a (.dT (putK kvs k v))
theorem DGet.k {H : Hp} {a : Addr} {kvs : List (Key × V)} {k : Key} (e : H a = some (.dK kvs)) : DGet H a (kV k) (valV kvs k) := .inl ⟨kvs, k, .inl e, rfl, rfl⟩
theorem DGet.t {H : Hp} {a b : Addr} {kvs : List (List Key × V)} {k : List Key} (e : H a = some (.dT kvs)) (eb : H b = some (.tup (k.map kV))) : DGet H a (.ref b) (valV kvs k) := .inr ⟨kvs, k, b, .inl e, rfl, eb, rfl⟩
theorem DPut.k {H : Hp} {a : Addr} {kvs : List (Key × V)} {k : Key} {v : V} (e : H a = some (.dK kvs)) (hl : kvs.length < sizeLine) : DPut H a (kV k) v (upd H a (.dK (putK kvs k v))) := .inl ⟨kvs, k, e, rfl, hl, rfl⟩
theorem DPut.t {H : Hp} {a b : Addr} {kvs : List (List Key × V)} {k : List Key} {v : V} (e : H a = some (.dT kvs)) (eb : H b = some (.tup (k.map kV))) (hl : kvs.length < sizeLine) :
    DPut H a (.ref b) v (upd H a (.dT (putK kvs k v))) := .inr ⟨kvs, k, b, e, rfl, eb, hl, rfl⟩


section
variable {X : Cx} {pins : List (Addr × Obj)} {σ : St} {H : Hp} {s : Shared} {a : Addr} {y v : V} {u r : Value} {o : Option V} {A : Around} {E : Value → Shared → Prop}

theorem Inv.big (I : Inv X pins σ H s) : sysModules < s.heap.objs.size := by
  have h : mainGlobals < s.heap.objs.size := (I.mod.glob.keeps I.bk).lt
  exact Nat.lt_trans (by decide) h

theorem d_notIn {Q : Value → Shared → Prop} (hu : A.units + 1 < cLine) (I : Inv X pins σ H s) (g : DGet H a y o) (ry : RelV y u) (h : ∀ s', Inv X pins σ H s' → Q (.bool (!o.isSome)) s') :
    wpAny (model X.prog X.w) A (compareOp .NotIn u (.ref a)) Q E s := by
  rcases g with ⟨kvs, k, e, ey, l⟩ | ⟨kvs, k, b, e, ey, eb, l⟩
  · subst ey
    obtain ⟨z, hd, vs, rel, dd⟩ := dk_rd I.hok e
    refine wpAny_notIn_of (kV_is ry) hd dd.mapOf ?_
    rw [← (rel.val k).isSome_eq, ← l]
    exact h _ (I.tok _)
  · subst ey
    cases (show u = Value.ref b from ry)
    obtain ⟨z, hd, xs, rel, dd⟩ := dt_rd I.hok e
    refine wpAny_notIn_heap (tupleKind_room_in1 hu) (key_of I.hok eb) hd dd ?_
    have q := (rel.val k).isSome_eq
    rw [Option.isSome_map] at q
    rw [← q, ← l]
    exact h _ (I.tok _)
/-- a dict's object is replaced -/
theorem d_write {h' : Heap} {t' : Nat} {ob : HO} (I : Inv X pins σ H s) (mu : Mut (H a)) (hs : Heap.SameBut a s.heap h') (he : ∃ q, h'.get? a = some q) (new : ObjOk X.prog X.w (upd H a ob) h' a ob) :
    Inv X pins σ (upd H a ob) { s with heap := h', toks := t' } :=
  I.write (x := a) (e := a) mu (.inl rfl) (fun b q hb z => (hs.2 b hb).trans z) he new
theorem dk_new {P : Program} {w : World} {H' : Hp} {h' : Heap} {kvs : List (Key × V)} {vs : List (Key × Value)} (z : kvs.length ≤ sizeLine) (hd : (a == sysModules) = false) (rel : KV kvs vs) (dd : h'.DictOf (mixKind P w) a vs) :
    ObjOk P w H' h' a (.dK kvs) := ⟨z, hd, vs, rel, dd⟩
/-- d[y] = v -/
theorem d_setItem {H' : Hp} {Q : Unit → Shared → Prop} (hu : A.units + 1 < cLine) (I : Inv X pins σ H s) (g : DPut H a y v H') (ry : RelV y u) (rv : RelV v r) (h : ∀ s', Inv X pins σ H' s' → Q () s') :
    wpAny (model X.prog X.w) A (setItem (.ref a) u r) Q E s := by
  rcases g with ⟨kvs, k, e, ey, l, eH⟩ | ⟨kvs, k, b, e, ey, eb, l, eH⟩
  · subst ey eH
    obtain ⟨z, hd, vs, rel, dd⟩ := dk_of I.hok e
    have hz : vs.length ≤ sizeLine := by rw [← rel.length]; exact z
    have hl : (putK kvs k v).length ≤ sizeLine := by have := length_putK kvs k v; omega
    refine wpAny_setItem_pairs (hsz := hz) (kV_is ry) dd fun h' dd' hs => h _ ?_
    have he : ∃ q, h'.get? a = some q := let ⟨q, _, _, hq, _⟩ := dd'; ⟨q, hq⟩
    exact d_write I (by rw [e]; exact True.intro) hs he (dk_new hl hd (rel.put k rv) dd')
  · subst ey eH
    cases (show u = Value.ref b from ry)
    obtain ⟨z, hd, xs, rel, dd⟩ := dt_of I.hok e
    have hz : xs.length ≤ sizeLine := by rw [← Paired.length rel]; exact z
    have hl : (putK kvs k v).length ≤ sizeLine := by have := length_putK kvs k v; omega
    refine wpAny_setItem_heap (hsz := hz) (tupleKind_room_in1 hu) (key_of I.hok eb) dd fun h' dd' hs => h _ ?_
    obtain ⟨q, es, ep, hq, h2, h3, h4, _, h5⟩ := dd'
    refine d_write I (by rw [e]; exact True.intro) hs ⟨q, hq⟩ ⟨hl, hd, _, (rel.put k eb rv).keeps fun c ys ec => ?_, q, es, ep, hq, h2, h3, h4, h5⟩
    rw [upd_ne (ne_of ec e (fun z => nomatch z))]
    exact ec
end

section
variable {X : Cx} {pins : List (Addr × Obj)} {σ : St} {H : Hp} {s : Shared} {a : Addr} {kvs : List (Key × V)} {k : Key} {u : Value} {A : Around} {E : Value → Shared → Prop}
end


/-! ### readings and rules -/
def tDNotIn (ty td : TE) : TE := fun σ H Q => ty σ H fun y H1 => td σ H1 fun x H2 => ∃ a o, x = .ref a ∧ DGet H2 a y o ∧ Q (.bl (!o.isSome)) H2
/-- d[y] = v -/
def sDPut (td ty tv : TE) : TS := fun D σ H => tv σ H fun v H1 => td σ H1 fun x H2 => ty σ H2 fun y H3 => ∃ a H4, x = .ref a ∧ DPut H3 a y v H4 ∧ D.nx σ H4
section
variable {X : Cx} {o i e value : Expr} {pos pos' tpos : Pos} {td ty tv : TE}
theorem pc_dnotin (hu : X.A.units + 1 < cLine) (hi : PE X i ty) (ho : PE X o td) : PC X .NotIn i o (tDNotIn ty td) := by
  intro pins s σ H Q I h
  refine thn (hi pins s σ H _ I h) fun iv s1 ⟨y, H1, I1, ry, q1⟩ => thn (ho pins s1 σ H1 _ I1 q1) fun u s2 ⟨x, H2, I2, rx, a, ov, ex, g, q2⟩ => ?_
  subst ex
  obtain rfl : u = Value.ref a := rx
  exact d_notIn hu I2 g ry fun s3 I3 => ⟨.bl (!ov.isSome), H2, I3, rfl, q2⟩
theorem ps_dput (hu : X.A.units + 1 < cLine) (ho : PE X o td) (hi : PE X i ty) (hv : PE X value tv) (hs : swapsWith value (some (.Subscript o i pos')) pos.line X.env = pure false) :
    PS X (.Assign [.Subscript o i pos'] value pos) (sDPut td ty tv) := by
  intro pins s σ H D I h
  refine wpAny_Assign_Subscript (thn (hv pins s σ H _ I h) fun r s1 ⟨v, H1, I1, rv, q1⟩ => thn (ho pins s1 σ H1 _ I1 q1) fun u s2 ⟨x, H2, I2, rx, q2⟩ => thn (hi pins s2 σ H2 _ I2 q2) fun iv s3 ⟨y, H3, I3, ry, a, H4, ex, g, q3⟩ => ?_) hs
  subst ex
  obtain rfl : u = Value.ref a := rx
  exact d_setItem hu I3 g ry rv fun s4 I4 => ⟨σ, H4, I4, q3⟩
end


/-! ### displays -/
theorem dk_empty {P : Program} {w : World} {H : Hp} (h : Heap) (hb : sysModules < h.objs.size) : ObjOk P w H (h.push { cls := .type "dict", data := .dict #[] }) h.objs.size (.dK []) :=
  ⟨Nat.zero_le _, beq_eq_false_iff_ne.mpr (Ne.symm (Nat.ne_of_lt hb)), [], .nil, Heap.DictOf.new h⟩
theorem dt_empty {P : Program} {w : World} {H : Hp} (h : Heap) (hb : sysModules < h.objs.size) : ObjOk P w H (h.push { cls := .type "dict", data := .dict #[] }) h.objs.size (.dT []) :=
  ⟨Nat.zero_le _, beq_eq_false_iff_ne.mpr (Ne.symm (Nat.ne_of_lt hb)), [], .nil, _, #[], 0, Heap.get?_push_size _ rfl, ⟨rfl, rfl, rfl⟩, rfl, rfl, List.nodup_nil⟩
/-- {}, to be a dict of the kind that is wanted -/
def tDNewK : TE := fun _ H Q => ∀ p, H p = none → Q (.ref p) (upd H p (.dK []))
def tDNewT : TE := fun _ H Q => ∀ p, H p = none → Q (.ref p) (upd H p (.dT []))
section
variable {X : Cx} {pos : Pos}
theorem pe_dnewK : PE X (.Dict [] [] pos) tDNewK := fun pins s σ H Q I h =>
  wpAny_Dict_empty ⟨.ref s.heap.objs.size, _, I.laid (a := s.heap.objs.size) (o := .dK []) (t' := s.toks) (fun _ _ q => Heap.get?_push_of_some _ q) (Nat.le_refl _) (dk_empty s.heap I.big), rfl, h _ (I.hok.fresh (Nat.le_refl _))⟩
theorem pe_dnewT : PE X (.Dict [] [] pos) tDNewT := fun pins s σ H Q I h =>
  wpAny_Dict_empty ⟨.ref s.heap.objs.size, _, I.laid (a := s.heap.objs.size) (o := .dT []) (t' := s.toks) (fun _ _ q => Heap.get?_push_of_some _ q) (Nat.le_refl _) (dt_empty s.heap I.big), rfl, h _ (I.hok.fresh (Nat.le_refl _))⟩
end

/-- the pairs of a display, from the left -/
def tPairs : List (TE × TE) → St → Hp → (List (V × V) → Hp → Prop) → Prop
  | [], _, H, Q => Q [] H
  | (tk, tv) :: r, σ, H, Q => tk σ H fun x H1 => tv σ H1 fun y H2 => tPairs r σ H2 fun ps H3 => Q ((x, y) :: ps) H3
abbrev VV : List (V × V) → List (Value × Value) → Prop := Paired fun p q => RelV p.1 q.1 ∧ RelV p.2 q.2
def PPs (X : Cx) (pos : Pos) (keys : List (Option Expr)) (values : List Expr) (trs : List (TE × TE)) : Prop :=
  ∀ (pins : List (Addr × Obj)) (s : Shared) (σ : St) (H : Hp) (Q : List (V × V) → Hp → Prop), Inv X pins σ H s → tPairs trs σ H Q →
    wpAny (model X.prog X.w) X.A (evalPairs (pairTrees keys values X.env pos)) (fun vs s' => ∃ ps H', Inv X pins σ H' s' ∧ VV ps vs ∧ Q ps H') X.xe s
theorem pps_nil {X : Cx} {pos : Pos} : PPs X pos [] [] [] := fun pins s σ H Q I h => pairTrees_nil_walk ⟨[], H, I, .nil, h⟩
theorem pps_cons {X : Cx} {pos : Pos} {k v : Expr} {ks : List (Option Expr)} {vs : List Expr} {tk tv : TE} {trs : List (TE × TE)} (hk : PE X k tk) (hv : PE X v tv) (hr : PPs X pos ks vs trs) :
    PPs X pos (some k :: ks) (v :: vs) ((tk, tv) :: trs) := fun pins s σ H Q I h =>
  pairTrees_cons_walk (thn (hk pins s σ H _ I h) fun u s1 ⟨x, H1, I1, rx, q1⟩ => thn (hv pins s1 σ H1 _ I1 q1) fun w2 s2 ⟨y, H2, I2, ry, q2⟩ =>
    thn (hr pins s2 σ H2 _ I2 q2) fun ws s3 ⟨ps, H3, I3, rel, q3⟩ => ⟨(x, y) :: ps, H3, I3, .cons ⟨rx, ry⟩ rel, q3⟩)

def mergeK (kvs more : List (Key × V)) : List (Key × V) := more.foldl (fun acc kv => putK acc kv.1 kv.2) kvs
theorem KV.merge : ∀ {more : List (Key × V)} {rs : List (Key × Value)} {kvs : List (Key × V)} {vs : List (Key × Value)}, KV more rs → KV kvs vs → KV (mergeK kvs more) (merged vs rs) := by
  intro more rs kvs vs r
  unfold KV at r
  induction r generalizing kvs vs with
  | nil => intro q; exact q
  | @cons p q ps qs h t ih =>
    intro r0
    have e : KV (putK kvs p.1 p.2) (stored vs q.1 q.2) := by
      have := r0.put p.1 h.2
      rw [← h.1]; exact this
    exact ih e
theorem length_mergeK : ∀ (more kvs : List (Key × V)), (mergeK kvs more).length ≤ kvs.length + more.length
  | [], kvs => by show kvs.length ≤ kvs.length + 0; omega
  | p :: r, kvs => by
    have h1 := length_mergeK r (putK kvs p.1 p.2)
    have h2 := length_putK kvs p.1 p.2
    show (mergeK (putK kvs p.1 p.2) r).length ≤ _
    rw [List.length_cons]; omega
theorem carries_of {P : Program} {w : World} : ∀ {kvs : List (Key × V)} {ws : List (Value × Value)}, VV (kvs.map fun kv => (kV kv.1, kv.2)) ws → ∃ rs, Carries (mixKind P w) ws rs ∧ KV kvs rs
  | [], _, r => by rw [List.map_nil] at r; cases r; exact ⟨[], True.intro, .nil⟩
  | p :: kvs, _, r => by
    rw [List.map_cons] at r
    cases r with
    | @cons a b as bs h t =>
      obtain ⟨rs, c, q⟩ := carries_of (P := P) (w := w) t
      obtain ⟨b1, b2⟩ := b
      exact ⟨(p.1, b2) :: rs, ⟨kV_is h.1, rfl, c⟩, .cons ⟨rfl, h.2⟩ q⟩
/-- {k: v, ..} with keys ints and texts; the new dict stands empty while the pairs are made -/
def tDisp (trs : List (TE × TE)) : TE := fun σ H Q => ∀ p, H p = none → tPairs trs σ (upd H p (.dK [])) fun ps H2 => H2 p = some (.dK []) ∧ ∃ kvs : List (Key × V), ps = kvs.map (fun kv => (kV kv.1, kv.2)) ∧ kvs.length ≤ 15 ∧ Q (.ref p) (upd H2 p (.dK (mergeK [] kvs)))
theorem pe_disp {X : Cx} {pos : Pos} {keys : List (Option Expr)} {values : List Expr} {trs : List (TE × TE)} (h : PPs X pos keys values trs) (hall : keys.all (·.isSome) = true) (hl : keys.length = values.length) (h0 : keys ≠ [])
    (h15 : keys.length ≤ 15) : PE X (.Dict keys values pos) (tDisp trs) := by
  intro pins s σ H Q I q
  have hn := I.hok.fresh (Nat.le_refl s.heap.objs.size)
  have I1 := I.laid (a := s.heap.objs.size) (o := .dK []) (h' := s.heap.push { cls := .type "dict", data := .dict #[] }) (t' := s.toks) (fun _ _ q => Heap.get?_push_of_some _ q) (Nat.le_refl _) (dk_empty s.heap I.big)
  refine wpAny_Dict_walk (knd := mixKind X.prog X.w) hall hl h0 h15 (thn (h pins _ σ _ _ I1 (q _ hn)) fun ws s2 ⟨ps, H2, I2, rel, e, kvs, ep, lk, q2⟩ => ?_)
  subst ep
  obtain ⟨rs, c, rk⟩ := carries_of (P := X.prog) (w := X.w) rel
  obtain ⟨z, hd, vs0, r0, dd⟩ := dk_of I2.hok e
  cases r0
  refine ⟨rs, c, dd, fun h' dd' hs => ⟨.ref s.heap.objs.size, _, ?_, rfl, q2⟩⟩
  have hz : (mergeK [] kvs).length ≤ sizeLine := by
    have h1 := length_mergeK kvs []
    rw [List.length_nil] at h1
    rw [sizeLine_eq]; omega
  have he : ∃ q, h'.get? s.heap.objs.size = some q := let ⟨q, _, _, hq, _⟩ := dd'; ⟨q, hq⟩
  exact d_write I2 (by rw [e]; exact True.intro) hs he (dk_new hz hd (rk.merge .nil) dd')


/-! ### methods -/
section
variable {X : Cx} {pins : List (Addr × Obj)} {σ : St} {H : Hp} {s : Shared} {a : Addr} {y d : V} {u r : Value} {o : Option V} {A : Around} {E : Value → Shared → Prop}
end

section
variable {X : Cx} {o e f : Expr} {apos cpos : Pos} {td ty tx : TE}
end

/-! ### dict(d): a copy -/
section
variable {X : Cx} {pins : List (Addr × Obj)} {σ : St} {H : Hp} {s : Shared} {a : Addr} {kvs : List (Key × V)} {A : Around} {E : Value → Shared → Prop}
end


section
variable {X : Cx} {pins : List (Addr × Obj)} {σ : St} {H : Hp} {s : Shared} {a : Addr} {y : V} {u : Value} {A : Around} {E : Value → Shared → Prop}
end
end L2

namespace L2
open PySem PySem.Spec PyProof.Rows
/-! ### a dict's pairs: keys that differ -/
section
variable {κ : Type} [DecidableEq κ]
theorem nd_snoc : ∀ {l : List κ} {k : κ}, l.Nodup → ¬ k ∈ l → (l ++ [k]).Nodup
  | [], k, _, _ => by simp
  | a :: r, k, h, hk => by
    obtain ⟨h1, h2⟩ := List.nodup_cons.mp h
    show (a :: (r ++ [k])).Nodup
    refine List.nodup_cons.mpr ⟨fun m => ?_, nd_snoc h2 fun m => hk (List.mem_cons.mpr (Or.inr m))⟩
    rcases List.mem_append.mp m with q | q
    · exact h1 q
    · exact hk (List.mem_cons.mpr (Or.inl (List.mem_singleton.mp q).symm))
end
end L2

set_option maxHeartbeats 4000000
/-! THE MATHEMATICS: turns of classes, walks over them. -/
namespace Kin
/-- each of 0 .. n - 1 stands just once -/
def IsTurn (n : Nat) (w : List Nat) : Prop := w.Perm (List.range n)
theorem IsTurn.len {n : Nat} {w : List Nat} (h : IsTurn n w) : w.length = n := by rw [List.Perm.length_eq h, List.length_range]
theorem IsTurn.nodup {n : Nat} {w : List Nat} (h : IsTurn n w) : w.Nodup := (List.Perm.nodup_iff h).mpr List.nodup_range
theorem IsTurn.mem {n : Nat} {w : List Nat} (h : IsTurn n w) {c : Nat} : c ∈ w ↔ c < n := by rw [List.Perm.mem_iff h, List.mem_range]
/-- the class to which the turn leads from c -/
def fw (w : List Nat) (c : Nat) : Nat := w.getD c 0
/-- the class from which it leads to c -/
def bw (w : List Nat) (c : Nat) : Nat := w.idxOf c
def inv (w : List Nat) : List Nat := (List.range w.length).map (bw w)
section
variable {n : Nat} {w : List Nat} (h : IsTurn n w) {c : Nat} (hc : c < n)
include h hc
theorem fw_get : w[c]? = some (fw w c) := by
  have hl : c < w.length := by rw [h.len]; exact hc
  unfold fw
  rw [List.getD_eq_getElem?_getD, List.getElem?_eq_getElem hl]
  rfl
theorem fw_lt : fw w c < n := h.mem.mp (List.mem_of_getElem? (fw_get h hc))
theorem bw_lt : bw w c < n := by
  have : bw w c < w.length := List.idxOf_lt_length_iff.mpr (h.mem.mpr hc)
  rw [h.len] at this; exact this
theorem fw_bw : fw w (bw w c) = c := by
  have hl : w.idxOf c < w.length := List.idxOf_lt_length_iff.mpr (h.mem.mpr hc)
  have e := List.getElem_idxOf hl
  unfold fw bw
  rw [List.getD_eq_getElem?_getD, List.getElem?_eq_getElem hl]
  simpa using e
theorem bw_fw : bw w (fw w c) = c := by
  have h1 : fw w (bw w (fw w c)) = fw w c := fw_bw h (fw_lt h hc)
  have hb : bw w (fw w c) < n := bw_lt h (fw_lt h hc)
  have e1 := fw_get h hb
  have e2 := fw_get h hc
  rw [h1] at e1
  obtain ⟨l1, q1⟩ := List.getElem?_eq_some_iff.mp e1
  obtain ⟨l2, q2⟩ := List.getElem?_eq_some_iff.mp e2
  exact (List.getElem_inj h.nodup).mp (q1.trans q2.symm)
theorem inv_get : (inv w)[c]? = some (bw w c) := by
  unfold inv
  rw [List.getElem?_map, h.len, List.getElem?_range hc]
  rfl
end
/-! letters by their codes: f 102, m 109, s 115, d 100, p 112, b 98, z 122; a sex: man = true -/
def IsL (l : Nat) : Prop := l = 102 ∨ l = 109 ∨ l = 115 ∨ l = 100 ∨ l = 112 ∨ l = 98 ∨ l = 122
instance (l : Nat) : Decidable (IsL l) := by unfold IsL; infer_instance
def stS (m : Bool) (l : Nat) : Bool := if l = 112 then !m else (l == 102 || l == 115 || l == 98)
def stC (w h : List Nat) (m : Bool) (c : Nat) (l : Nat) : Nat :=
  if l = 102 then bw h c else if l = 109 then fw w (bw h c) else if l = 112 then (if m then fw w c else bw w c)
  else if l = 115 ∨ l = 100 then fw h (if m then c else bw w c) else c
def step (w h : List Nat) (s : Bool × Nat) (l : Nat) : Bool × Nat := (stS s.1 l, stC w h s.1 s.2 l)
def led (w h : List Nat) (s : Bool × Nat) (ls : List Nat) : Bool × Nat := ls.foldl (step w h) s
def endS (m : Bool) (ls : List Nat) : Bool := ls.foldl stS m
theorem led_fst (w h : List Nat) : ∀ (ls : List Nat) (s : Bool × Nat), (led w h s ls).1 = endS s.1 ls
  | [], _ => rfl
  | l :: r, s => led_fst w h r (step w h s l)
theorem led_append (w h : List Nat) (s : Bool × Nat) (a b : List Nat) : led w h s (a ++ b) = led w h (led w h s a) b := List.foldl_append ..
section
variable {n : Nat} {w h : List Nat} (tw : IsTurn n w) (th : IsTurn n h)
include tw th
theorem stC_lt {m : Bool} {c l : Nat} (hc : c < n) : stC w h m c l < n := by
  unfold stC
  repeat' split
  · exact bw_lt th hc
  · exact fw_lt tw (bw_lt th hc)
  · exact fw_lt tw hc
  · exact bw_lt tw hc
  · exact fw_lt th hc
  · exact fw_lt th (bw_lt tw hc)
  · exact hc
theorem led_lt : ∀ (ls : List Nat) (s : Bool × Nat), s.2 < n → (led w h s ls).2 < n
  | [], _, hc => hc
  | l :: r, s, hc => led_lt r (step w h s l) (stC_lt tw th hc)
/-- the letter that leads back to a person of the sex ahead -/
def bkL (m : Bool) (l : Nat) : Nat :=
  if l = 102 ∨ l = 109 then (if m then 115 else 100) else if l = 115 ∨ l = 100 then (if m then 102 else 109) else if l = 112 then 112 else (if m then 98 else 122)
omit tw th in
/-- its way back -/
def back (m : Bool) : List Nat → List Nat
  | [] => []
  | l :: r => back (stS m l) r ++ [bkL m l]
omit tw th in
end
theorem nodup_len : ∀ (n : Nat) (l : List Nat), l.Nodup → (∀ x ∈ l, x < n) → l.length ≤ n
  | 0, [], _, _ => Nat.le_refl _
  | 0, x :: r, _, h => absurd (h x List.mem_cons_self) (Nat.not_lt_zero _)
  | n + 1, l, nd, h => by
    have ih := nodup_len n (l.erase n) (nd.erase n) fun x hx => by
      obtain ⟨h1, h2⟩ := (List.Nodup.mem_erase_iff nd).mp hx
      have := h x h2
      omega
    have := List.length_erase (a := n) (l := l)
    split at this <;> omega
theorem erase_perm : ∀ (l : List Nat) (k x : Nat), l[k]? = some x → (x :: l.eraseIdx k).Perm l
  | [], k, x, h => by simp at h
  | a :: r, 0, x, h => by simp at h; subst h; exact List.Perm.refl _
  | a :: r, k + 1, x, h => by
    have ih := erase_perm r k x (by simpa using h)
    rw [List.eraseIdx_cons_succ]
    exact (List.Perm.swap a x _).trans (List.Perm.cons a ih)
theorem perm_pick {rest out : List Nat} {n k x : Nat} (h : (rest ++ out).Perm (List.range n)) (hk : rest[k]? = some x) : (rest.eraseIdx k ++ (out ++ [x])).Perm (List.range n) := by
  refine List.Perm.trans ?_ h
  have e1 : (x :: rest.eraseIdx k).Perm rest := erase_perm rest k x hk
  have e2 : (rest.eraseIdx k ++ (out ++ [x])).Perm (rest.eraseIdx k ++ (x :: out)) := List.Perm.append_left _ (List.perm_append_singleton x out)
  refine e2.trans ?_
  have e3 : (rest.eraseIdx k ++ x :: out).Perm (x :: (rest.eraseIdx k ++ out)) := List.perm_middle
  refine e3.trans ?_
  exact List.Perm.append_right out e1
/-- a rising list of different numbers below n, all of them, is the list of them -/
theorem sorted_unique : ∀ {a b : List Int}, a.Perm b → a.Pairwise (· ≤ ·) → b.Pairwise (· ≤ ·) → a = b := fun {a b} h ha hb => by
  exact List.Perm.eq_of_pairwise (fun x y _ _ h1 h2 => Int.le_antisymm h1 h2) ha hb h
def intL (w : List Nat) : List Int := w.map fun (k : Nat) => (k : Int)
theorem intL_len (w : List Nat) : (intL w).length = w.length := by unfold intL; rw [List.length_map]
theorem range_sorted (n : Nat) : (intL (List.range n)).Pairwise (· ≤ ·) := by
  unfold intL
  refine List.pairwise_map.mpr ?_
  exact List.Pairwise.imp (fun {a b} (h : a < b) => by omega) List.pairwise_lt_range
end Kin

namespace Kin
theorem endS_cons (m : Bool) (a : Nat) (r : List Nat) : endS m (a :: r) = endS (stS m a) r := rfl
theorem endS_take {m : Bool} {l : List Nat} {i x : Nat} (hi : l[i]? = some x) : endS m (l.take (i + 1)) = stS (endS m (l.take i)) x := by
  rw [List.take_add_one, hi]
  show List.foldl stS m (l.take i ++ [x]) = _
  rw [List.foldl_append]
  rfl
end Kin

/-! COMPREHENSIONS: [elt for x in iter], no tests, one clause; no exception leaves the block. -/
namespace L2
open PySem PySem.Spec PyProof.Rows

/-- the context of a comprehension's block -/
abbrev blk (X : Cx) (N : List Str) (scope : Scope) (cl : List (Str × Addr)) (s₀ : Shared) (H₀ : Hp) (ex : List Addr) (E : Value → Shared → Prop) : Cx :=
  { X with N := N, s₀ := s₀, H₀ := H₀, env := compEnvC scope cl s₀.heap.objs.size X.env, outer := X.stack, stack := X.stack, ex := ex, fn := fun _ => false, pn := [], xe := E }
/-- the outer names that the block reads: each with its slot outside -/
def FreeOk (X : Cx) (scope : Scope) (cl : List (Str × Addr)) : List (Str × Nat) → Prop
  | [] => True
  | p :: r => (X.N[p.2]? = some p.1 ∧ (X.env.kindOf p.1 = some .cell ∨ X.env.kindOf p.1 = some .free) ∧ ((relabel scope X.env).names.lookup p.1 = some .cell ∨ (relabel scope X.env).names.lookup p.1 = some .free) ∧ cl.lookup p.1 = X.env.cells.lookup p.1) ∧ FreeOk X scope cl r
structure CompOk (X : Cx) (x : Str) (fv : List (Str × Nat)) (scope : Scope) (cl : List (Str × Addr)) : Prop where
  clos : closureFor scope X.env = pure cl
  nocell : ∀ y ∈ scope.names, y.2 ≠ .cell
  kind : scope.kind = .function
  names : ∀ y ∈ scope.names, y.2 = .local → scope.names.lookup y.1 = some .local
  here : scope.names.lookup x = some .local
  nd : (x :: fv.map (·.1)).Nodup
  free : FreeOk X scope cl fv
  cls : cl.map (·.1) = (fv.map (·.1)).reverse
  fr : ((relabel scope X.env).names.filter fun p => p.2 == .cell || p.2 == .free).map (·.1) = fv.map (·.1)
section
variable {X : Cx} {x : Str} {fv : List (Str × Nat)} {scope : Scope} {cl : List (Str × Addr)}
theorem FreeOk.mem : ∀ {fv : List (Str × Nat)}, FreeOk X scope cl fv → ∀ y, y ∈ fv.map (·.1) → (X.env.kindOf y = some .cell ∨ X.env.kindOf y = some .free) ∧ cl.lookup y = X.env.cells.lookup y
  | [], _, y, h => by simp at h
  | p :: r, f, y, h => by
    rw [List.map_cons] at h
    rcases List.mem_cons.mp h with e | h
    · subst e; exact ⟨f.1.2.1, f.1.2.2.2⟩
    · exact FreeOk.mem f.2 y h
theorem FreeOk.at : ∀ {fv : List (Str × Nat)}, FreeOk X scope cl fv → ∀ (i : Nat) y, (fv.map (·.1))[i]? = some y → ∃ j, fv[i]? = some (y, j) ∧ X.N[j]? = some y ∧ (X.env.kindOf y = some .cell ∨ X.env.kindOf y = some .free) ∧
    ((relabel scope X.env).names.lookup y = some .cell ∨ (relabel scope X.env).names.lookup y = some .free) ∧ cl.lookup y = X.env.cells.lookup y
  | [], _, i, y, h => by simp at h
  | p :: r, f, 0, y, h => by
    simp at h; subst h
    exact ⟨p.2, rfl, f.1⟩
  | p :: r, f, i + 1, y, h => by
    obtain ⟨j, h1, h2⟩ := FreeOk.at f.2 i y (by simpa using h)
    exact ⟨j, by simpa using h1, h2⟩
theorem mem_of_lk : ∀ {l : List (Str × Addr)} {y : Str} {c : Addr}, l.lookup y = some c → y ∈ l.map (·.1) := fun {l y c} h => List.mem_map.mpr ⟨(y, c), PySem.mem_of_lookup h, rfl⟩
theorem CompOk.sub (ok : CompOk X x fv scope cl) {y : Str} {c : Addr} (h : cl.lookup y = some c) : X.env.cells.lookup y = some c := by
  have m : y ∈ fv.map (·.1) := by
    have := mem_of_lk h
    rw [ok.cls] at this
    exact List.mem_reverse.mp this
  rw [← (ok.free.mem y m).2]; exact h
theorem CompOk.has (ok : CompOk X x fv scope cl) (hx : X.Ok) {y : Str} (h : (relabel scope X.env).names.lookup y = some .cell ∨ (relabel scope X.env).names.lookup y = some .free) : ∃ c, cl.lookup y = some c := by
  have m : y ∈ fv.map (·.1) := by
    rw [← ok.fr]
    rcases h with h | h
    · exact List.mem_map.mpr ⟨(y, .cell), List.mem_filter.mpr ⟨PySem.mem_of_lookup h, rfl⟩, rfl⟩
    · exact List.mem_map.mpr ⟨(y, .free), List.mem_filter.mpr ⟨PySem.mem_of_lookup h, rfl⟩, rfl⟩
  obtain ⟨k, e⟩ := ok.free.mem y m
  rw [e]
  exact hx.has y k
variable {pins : List (Addr × Obj)} {σ : St} {H : Hp} {s : Shared} {fp : List Addr} {E : Value → Shared → Prop} {N : List Str}
theorem blk_ok (I : Inv X pins σ H s) (ok : CompOk X x fv scope cl) (hf : ∀ b ∈ fp, FpOk X pins H b) (ho : ∀ b ∈ fp, b < s.heap.objs.size) : (blk X N scope cl s H fp E).Ok where
  mod := I.ok.mod
  kind := ok.kind
  glob := I.ok.glob
  blt := I.ok.blt
  above := Nat.le_refl _
  inj := fun y z c h1 h2 => I.ok.inj y z c (ok.sub h1) (ok.sub h2)
  has := fun y hy => ok.has I.ok hy
  cab := fun _ _ h => by cases h
  hd := I.ok.hd
  frames := I.ok.frames
  stk := .inl rfl
  exf := fun b hb => ⟨Nat.ne_of_lt (ho b hb), fun y c h => (hf b hb).2.2.2.2.1 y c (ok.sub h)⟩
  bs := fun b o e => I.bs b o e
  bsz := Nat.le_trans I.ok.bsz I.sz
  noex := fun b o e hb => by
    rcases (hf b hb).2.2.2.1 with h4 | h4
    · exact I.ok.noex b o e h4
    · exact absurd (Nat.lt_of_lt_of_le (Heap.lt_size e) (Nat.le_trans I.ok.bsz h4)) (Nat.lt_irrefl _)
  exfs := fun b hb z => by
    rcases List.mem_cons.mp (I.stkSub b z) with e | e
    · exact (hf b hb).2.1 e
    · exact (hf b hb).2.2.1 e
  funs := I.stack
  frf := I.stkFree
/-- the block's names at its start -/
def blkS (fv : List (Str × Nat)) (σ : St) (o : Option V) : St := o :: fv.map fun p => (σ[p.2]?).join
theorem blkS_set (fv : List (Str × Nat)) (σ : St) (o : Option V) (v : V) : (blkS fv σ o).set 0 (some v) = blkS fv σ (some v) := rfl
theorem blk_start (I : Inv X pins σ H s) (ok : CompOk X x fv scope cl) (hf : ∀ b ∈ fp, FpOk X pins H b) (ho : ∀ b ∈ fp, b < s.heap.objs.size) {h₁ : Heap} {m₁ : Str → Option Value} (hn : h₁.Ns s.heap.objs.size m₁)
    (hk : ∀ b o, s.heap.get? b = some o → h₁.get? b = some o) (tk : Nat) : Inv (blk X (x :: fv.map (·.1)) scope cl s H fp E) [] (blkS fv σ none) H { s with heap := h₁, toks := tk } := by
  refine ⟨blk_ok I ok hf ho, rfl, I.bare, Un.kept hk, ⟨m₁, hn, fun i y v h1 h2 h3 => ?_⟩, fun y c h => ?_, I.hok.fresh (Nat.le_refl _), fun y c h => I.freeC y c (ok.sub h), fun p hp => ?_, I.hok.kept hk, ?_⟩
  · cases i with
    | zero =>
      have h2' : (none : Option V) = some v := by simpa [blkS] using h2
      cases h2'
    | succ i =>
      have h1' : (fv.map (·.1))[i]? = some y := by simpa using h1
      obtain ⟨j, e1, e2, k1, k2, e3⟩ := ok.free.at i y h1'
      have h2' : (σ[j]?).join = some v := by
        have q : (fv.map fun p => (σ[p.2]?).join)[i]? = some (some v) := by simpa [blkS] using h2
        rw [List.getElem?_map, e1] at q
        exact Option.some.inj q
      have h2'' : σ[j]? = some (some v) := by
        cases e : σ[j]? with
        | none => rw [e] at h2'; cases h2'
        | some o => rw [e] at h2'; exact congrArg some h2'
      obtain ⟨m, _, hl⟩ := I.loc
      obtain ⟨u, r, l⟩ := hl j y v e2 h2'' (by
        rcases k1 with k | k
        · exact .inr (.inl k)
        · exact .inr (.inr k))
      refine ⟨u, r, .inr ⟨k2, ?_⟩⟩
      rcases l with ⟨k, _⟩ | ⟨_, c, ec, o, z1, z2⟩
      · rcases k1 with k' | k' <;> (rw [k] at k'; cases k')
      · exact ⟨c, e3.trans ec, o, hk _ _ z1, z2⟩
  · obtain ⟨v, o, z1, z2⟩ := I.cell y c (ok.sub h)
    exact ⟨v, o, hk _ _ z1, z2⟩
  · exact absurd (show p ∈ ([] : List (Addr × Obj)) from hp) (by simp)
  · show (blkS fv σ none).length = _
    simp [blkS]
end
section
variable {prog : Program} {w : World} {A : Around} {R : Result → Shared → Prop} {s : Shared}
theorem codeAny_compLoop_L {elt target iter : Expr} {scope : Scope} {pos : Pos} {it acc : Value} {env : Env} (I : Nat → Shared → Prop)
    (turn : ∀ n s, I n s → wpAny (model prog w) A (pyNext it) (fun r s₁ => match r with
      | none => R (.ok .next) s₁
      | some v => wpAny (model prog w) A (letOwnedTupleGo target it v) (fun _ s₂ => wpAny (model prog w) A (assign target env v) (fun _ s₂ => wpAny (model prog w) A (eval elt env) (fun x s₃ =>
          wpAny (model prog w) A (call (.builtin "list.append") [acc, x]) (fun _ s₄ => ∃ m, m < n ∧ I m s₄) (notedBy (model prog w) A env fun e s' => R (.error e) s') s₃)
          (notedBy (model prog w) A env fun e s' => R (.error e) s') s₂) (notedBy (model prog w) A env fun e s' => R (.error e) s') s₂) (notedBy (model prog w) A env fun e s' => R (.error e) s') s₁) (notedBy (model prog w) A env fun e s' => R (.error e) s') s)
    (n : Nat) (h : I n s) :
    codeAny (model prog w) A (.compLoop (.ListComp elt [⟨target, iter, [], 0⟩] scope pos) 0 it acc env) R s := by
  refine codeAny_loop rfl I (fun n s hI => ?_) n h
  show wpAny _ _ ((compTurn (.ListComp elt [⟨target, iter, [], 0⟩] scope pos) 0 it acc env).onRaise (fun x => do noteFrame x env; theTreesLotGoes x)) _ _ s
  refine wpAny_noted ?_
  rw [compTurn_list1]
  refine wpAny_bind (wpAny_standAt (wpAny_bind (wpAny_mono (turn n s hI) (fun r s₁ h₁ => ?_) fun _ _ h' => h')))
  cases r with
  | none => exact wpAny_pure h₁
  | some v =>
    refine wpAny_bind (wpAny_mono h₁ (fun _ s₂ h₂ => ?_) fun _ _ h' => h')
    exact wpAny_bind (wpAny_mono h₂ (fun _ s₂ h₂ => wpAny_bind (wpAny_bind (wpAny_mono h₂ (fun x s₃ h₃ => wpAny_bind (wpAny_mono h₃
      (fun _ s₄ h₄ => wpAny_pure (wpAny_pure ⟨rfl, h₄⟩)) fun _ _ h' => h')) fun _ _ h' => h'))) fun _ _ h' => h')
end
/-- what is wanted of a comprehension over the iterator J: W the invariant by the turn, a measure, the items so far -/
abbrev TEB := Shared → Hp → List Addr → TE
def tCompJ (fv : List (Str × Nat)) (te : TEB) (σ : St) (J : It) (H1 : Hp) (Q : VK) : Prop :=
  ∀ D, H1 D = none → ∃ W : Nat → Nat → List V → Hp → Prop, (∃ m, W 0 m [] (upd H1 D (.lst []))) ∧
    ∀ i m ys H, W i m ys H → H D = some (.lst ys) ∧ ((J.stop i H ∧ Q (.ref D) H) ∨ (J.go i H ∧ ys.length < sizeLine ∧ ∀ x H', J.yld i H x H' →
      ∀ s₀ H₀ ex, te s₀ H₀ ex (blkS fv σ (some x)) H' fun v H2 => H2 D = some (.lst ys) ∧ ∃ m', m' < m ∧ W (i + 1) m' (ys ++ [v]) (upd H2 D (.lst (ys ++ [v])))))
def tComp (wi : TI) (fv : List (Str × Nat)) (te : TEB) : TE := fun σ H Q => wi σ H fun J H1 => tCompJ fv te σ J H1 Q
section
variable {X : Cx} {x : Str} {fv : List (Str × Nat)} {scope : Scope} {cl : List (Str × Addr)} {pins : List (Addr × Obj)} {σ : St} {px pos : Pos} {iter elt : Expr} {te : TEB}
abbrev NoX : Value → Shared → Prop := fun _ _ => False
theorem comp_block {s2 : Shared} {H2 : Hp} {it : Addr} {fp : List Addr} {tn : Nat → Heap → Prop} {J : It} (ok : CompOk X x fv scope cl) (hc : X.calm = true)
    (he : ∀ s₀ H₀ ex, PE (blk X (x :: fv.map (·.1)) scope cl s₀ H₀ ex NoX) elt (te s₀ H₀ ex)) (I2 : Inv X pins σ H2 s2) (T : Turn X.prog X.w X.K (.Name x px) J fp it tn) (st2 : tn 0 s2.heap) (f2 : ∀ b ∈ fp, FpOk X pins H2 b)
    {Qv : VK} (hQ : tCompJ fv te σ J H2 Qv) {RR : Value → Addr → Result → Shared → Prop}
    (hRR : ∀ D C m' H' s', Inv X pins σ H' s' → s'.heap.Ns C m' → FpOk X pins H' C → Qv (.ref D) H' → RR (.ref D) C (.ok .next) s') :
    wpAny (model X.prog X.w) X.A (newList []) (fun acc s₃ => wpAny (model X.prog X.w) X.A (newFunctionEnv scope X.env.globals cl [] X.env.qual none .none (some X.env)) (fun cenv s₄ =>
      codeAny (model X.prog X.w) X.A (.compStart (.ListComp elt [⟨.Name x px, iter, [], 0⟩] scope pos) 0 (.ref it) acc { cenv with scope := relabel scope X.env }) (RR acc cenv.locals) s₄) X.xe s₃) X.xe s2 := by
  refine wpAny_newObj_type (wpAny_newFunctionEnv ok.nocell (by intro y hy; simp at hy) (fun h₁ hns₁ hsb₁ => ?_) ok.kind)
  dsimp only at hns₁ hsb₁ ⊢
  have I3 : Inv X pins σ (upd H2 s2.heap.objs.size (.lst [])) { s2 with heap := s2.heap.push { cls := .type "list", dict := none, data := .seq ([] : List Value).toArray } } :=
    I2.laid (t' := s2.toks) (fun b o e => Heap.get?_push_of_some _ e) (Nat.le_refl _) ⟨Nat.zero_le _, [], 0, .nil, Heap.get?_push_size _ rfl⟩
  have hD : H2 s2.heap.objs.size = none := I2.hok.fresh (Nat.le_refl _)
  generalize hs3 : ({ s2 with heap := s2.heap.push { cls := .type "list", dict := none, data := .seq ([] : List Value).toArray } } : Shared) = s3 at I3
  have eh : s2.heap.push { cls := .type "list", dict := none, data := .seq ([] : List Value).toArray } = s3.heap := by rw [← hs3]
  rw [eh] at hns₁ hsb₁ ⊢
  have fl : ∀ b ∈ fp, b < s2.heap.objs.size := fun b hb => by
    obtain ⟨o, e, _⟩ := T.obj _ _ st2 b hb
    exact Heap.lt_size e
  have sz3 : s3.heap.objs.size = s2.heap.objs.size + 1 := by rw [← eh, Heap.size_push]
  have f3 : ∀ b ∈ fp, FpOk X pins (upd H2 s2.heap.objs.size (.lst [])) b := fun b hb => ⟨by rw [upd_ne (Nat.ne_of_lt (fl b hb))]; exact (f2 b hb).1, (f2 b hb).2⟩
  have fl3 : ∀ b ∈ fp, b < s3.heap.objs.size := fun b hb => by rw [sz3]; exact Nat.lt_succ_of_lt (fl b hb)
  have old3 : ∀ b o, s3.heap.get? b = some o → h₁.get? b = some o := fun b o e => hsb₁.extBut b o (Nat.ne_of_lt (Heap.lt_size e)) (Heap.get?_push_of_some _ e)
  have old2 : ∀ b o, s2.heap.get? b = some o → h₁.get? b = some o := fun b o e => old3 b o (by rw [← eh]; exact Heap.get?_push_of_some _ e)
  have st1 : tn 0 h₁ := T.keep _ _ _ st2 fun b _ o e => old2 b o e
  have IY := blk_start (E := NoX) I3 ok f3 fl3 hns₁ old3 (s3.toks + ([] : List (Str × Value)).length)
  obtain ⟨W, ⟨m0, w0⟩, turn⟩ := hQ s2.heap.objs.size hD
  have loop : ∀ s4 : Shared, s4 = { s3 with heap := h₁, toks := s3.toks + ([] : List (Str × Value)).length } →
      codeAny (model X.prog X.w) X.A (.compLoop (.ListComp elt [⟨.Name x px, iter, [], 0⟩] scope pos) 0 (.ref it) (.ref s2.heap.objs.size) (compEnvC scope cl s3.heap.objs.size X.env)) (RR (.ref s2.heap.objs.size) s3.heap.objs.size) s4 := by
    rintro s4 rfl
    have stat : ∀ {H' : Hp}, (∀ b ∈ fp, H' b = none) → ∀ b ∈ fp, FpOk (blk X (x :: fv.map (·.1)) scope cl s3 (upd H2 s2.heap.objs.size (.lst [])) fp NoX) [] H' b := fun hn b hb =>
      ⟨hn b hb, Nat.ne_of_lt (fl3 b hb), fun z => by
        rcases List.mem_cons.mp (I3.stkSub b z) with e | e
        · exact (f2 b hb).2.1 e
        · exact (f2 b hb).2.2.1 e, .inl hb, fun y c h => (f2 b hb).2.2.2.2.1 y c (ok.sub h), fun p hp => absurd (show p ∈ ([] : List (Addr × Obj)) from hp) (by simp)⟩
    refine codeAny_compLoop_L (fun n s' => ∃ i o H' ys, Inv (blk X (x :: fv.map (·.1)) scope cl s3 (upd H2 s2.heap.objs.size (.lst [])) fp NoX) [] (blkS fv σ o) H' s' ∧ tn i s'.heap ∧ (∀ b ∈ fp, H' b = none) ∧ W i n ys H') ?_ m0
      ⟨0, none, _, [], IY, st1, fun b hb => (f3 b hb).1, w0⟩
    rintro n s5 ⟨i, o, H5, ys, I5, st5, fr5, w5⟩
    obtain ⟨hD5, w5⟩ := turn i n ys H5 w5
    rcases w5 with ⟨stop, qn⟩ | ⟨go, hsz, step⟩
    · refine wpAny_mono (T.done (blk X (x :: fv.map (·.1)) scope cl s3 (upd H2 s2.heap.objs.size (.lst [])) fp NoX) rfl rfl rfl hc i [] s5 _ H5 NoX I5 (stat fr5) st5 stop) (fun r s6 ⟨hr, I6⟩ => ?_) fun _ _ z => z.elim
      subst hr
      obtain ⟨m', hm', _⟩ := I6.loc
      have I7 : Inv X pins σ H5 s6 := I3.call' (ch := fp) (by rw [I6.os]) I6.base I6.hok I6.bare fun b hb => ⟨(f2 b hb).2.2.2.1, (f2 b hb).2.1, (f2 b hb).2.2.2.2.1, (f2 b hb).2.2.2.2.2⟩
      exact hRR _ _ m' H5 s6 I7 hm' (I3.fpOk (Nat.le_refl _) I6.free) qn
    · refine wpAny_mono (T.item (blk X (x :: fv.map (·.1)) scope cl s3 (upd H2 s2.heap.objs.size (.lst [])) fp NoX) rfl rfl rfl hc i [] s5 _ H5 NoX I5 (stat fr5) st5 go) (fun r s6 ⟨u, hr, h6⟩ => ?_) fun _ _ z => z.elim
      subst hr
      refine wpAny_mono h6 (fun _ s7 ⟨v, H7, I7, r7, y7, st7, fr7⟩ => ?_) fun _ _ z => z.elim
      have I7' := I7.pinned (stat fr7) (T.obj _ _ st7)
      have hx : Loc (blk X (x :: fv.map (·.1)) scope cl s3 (upd H2 s2.heap.objs.size (.lst [])) fp NoX).env.scope x := .inl (lookup_relabel_local ok.here)
      refine wpAny_assign_Name (store_ok (X := blk X (x :: fv.map (·.1)) scope cl s3 (upd H2 s2.heap.objs.size (.lst [])) fp NoX) (i := 0) I7' ok.nd rfl hx r7 (fun s8 I8 => ?_) (.inr (lookup_relabel_local ok.here)))
      refine wpAny_mono (he s3 _ fp _ s8 (blkS fv σ (some v)) H7 _ I8 (step v H7 y7 _ _ _)) (fun u9 s9 ⟨v9, H9, I9, r9, hD9, m', hm', w9⟩ => ?_) fun _ _ z => z.elim
      refine wpAny_mono (mt_append (X := blk X (x :: fv.map (·.1)) scope cl s3 (upd H2 s2.heap.objs.size (.lst [])) fp NoX) _ s9 _ H9 (.ref s2.heap.objs.size) [v9] (.ref s2.heap.objs.size) [u9]
        (fun _ H10 => H10 = upd H9 s2.heap.objs.size (.lst (ys ++ [v9]))) I9 rfl (.cons r9 .nil) ⟨_, ys, v9, rfl, rfl, hD9, hsz, rfl⟩) (fun _ s10 ⟨_, H10, I10, _, e10⟩ => ?_) fun _ _ z => z.elim
      subst e10
      refine ⟨m', hm', i + 1, some v, _, ys ++ [v9], I10.unpinned, T.keep _ _ _ st7 fun b hb o e => (I10.pin (b, o) (List.mem_append_right _ (List.mem_append_right _ (mem_pinsAt hb e)))).1, fun b hb => ?_, w9⟩
      obtain ⟨o, e, d⟩ := T.obj _ _ st7 b hb
      exact (I10.pin (b, o) (List.mem_append_right _ (List.mem_append_right _ (mem_pinsAt hb e)))).2.1
  exact codeAny_compStart_list (loop _ (by rw [← hs3])) (T.self _ 0 _ _ _ st1 (loop _ (by rw [← hs3])))
/-- [elt for x in iter] as a value -/
theorem pe_comp {wi : TI} (ok : CompOk X x fv scope cl) (hc : X.calm = true) (hi : PI X (.Name x px) iter wi) (he : ∀ s₀ H₀ ex, PE (blk X (x :: fv.map (·.1)) scope cl s₀ H₀ ex NoX) elt (te s₀ H₀ ex))
    (hs : ∀ v, foldedSetIterable iter X.env v = pure v := by intro _; rfl) : PE X (.ListComp elt [⟨.Name x px, iter, [], 0⟩] scope pos) (tComp wi fv te) := by
  intro pins s σ H Q I h
  rw [eval_ListComp]
  refine wpAny_comprehension_free (use := none) rfl hs ok.clos ok.kind ok.names (thn (hi pins s σ H _ I h) fun v s1 h1 => thn h1 fun itv s2 h2 => ?_)
  obtain ⟨it, fp, tn, J, H2, rfl, I2, T, st2, f2, hQ⟩ := h2
  refine comp_block (RR := fun acc C => compPost (model X.prog X.w) X.A X.xe none (EP X pins σ Q) acc C) ok hc he I2 T st2 f2 hQ ?_
  intro D C m' H' s' I' hn fC q
  exact ⟨m', hn, fun h' hs' => ⟨.ref D, H', I'.turned (t' := s'.toks) (fun b o hb e => hs'.extBut b o hb e) fC.1 fC.2.1 fC.2.2.2.1 fC.2.2.2.2.1 fC.2.2.2.2.2, rfl, q⟩⟩
/-- y = [elt for x in iter], stored within the block -/
theorem ps_setComp {wi : TI} {i : Nat} {y : Str} {py spos : Pos} (hN : X.N.Nodup) (hiy : X.N[i]? = some y) (hy : Loc X.env.scope y) (ok : CompOk X x fv scope cl) (hc : X.calm = true) (hi : PI X (.Name x px) iter wi) (he : ∀ s₀ H₀ ex, PE (blk X (x :: fv.map (·.1)) scope cl s₀ H₀ ex NoX) elt (te s₀ H₀ ex))
    (hsw : swapsWith (.ListComp elt [⟨.Name x px, iter, [], 0⟩] scope pos) (some (.Name y py)) spos.line X.env = pure true := by rfl)
    (hs : ∀ v, foldedSetIterable iter X.env v = pure v := by intro _; rfl) (hf : X.fn y = true ∨ X.env.scope.names.lookup y = some .local := by first | exact .inl rfl | exact .inr rfl | assumption) :
    PS X (.Assign [.Name y py] (.ListComp elt [⟨.Name x px, iter, [], 0⟩] scope pos) spos) (tAsg (tComp wi fv te) (gName i)) := by
  intro pins s σ H D I h
  rw [exec_Assign_Name_used _ _ _ _ hsw]
  refine wpAny_bind (wpAny_standAt (wpAny_bind ?_))
  show wpAny _ _ (do let _ ← comprehension (.ListComp elt [⟨.Name x px, iter, [], 0⟩] scope pos) scope X.env _ (newList []) false (eval iter X.env) (some (assign (.Name y py) X.env))) _ _ s
  refine wpAny_bind (wpAny_mono (wpAny_comprehension_free (use := some (assign (.Name y py) X.env)) (Q := fun _ s' => SP X pins D .next s') rfl hs ok.clos ok.kind ok.names
    (thn (hi pins s σ H _ I h) fun v s1 h1 => thn h1 fun itv s2 h2 => ?_)) (fun _ s' hq => wpAny_pure (wpAny_pure hq)) fun _ _ e => e)
  obtain ⟨it, fp, tn, J, H2, rfl, I2, T, st2, f2, hQ⟩ := h2
  refine comp_block (RR := fun acc C => compPost (model X.prog X.w) X.A X.xe (some (assign (.Name y py) X.env)) (fun _ s' => SP X pins D .next s') acc C) ok hc he I2 T st2 f2 hQ ?_
  intro D' C m' H' s' I' hn fC q
  show wpAny _ _ (assign (.Name y py) X.env (.ref D')) _ _ _
  refine wpAny_assign_Name (store_ok2 (v := .ref D') I' hN hiy hy rfl (fun s'' I'' hab => ?_) hf)
  obtain ⟨a, hsb, ha⟩ := hab
  have haC : C ≠ a := by
    rcases ha with e | e
    · rw [e]; exact fC.2.1
    · exact (fC.2.2.2.2.1 y a e).symm
  exact ⟨m', hn.sameBut hsb haC, fun h' hs' => ⟨_, H', I''.turned (t' := s''.toks) (fun b o hb e => hs'.extBut b o hb e) fC.1 fC.2.1 fC.2.2.2.1 fC.2.2.2.2.1 fC.2.2.2.2.2, q⟩⟩
/-- over a range, when the elements only lay new things: the i-th element is f i -/
theorem comp_range {lo : Int} {n : Nat} {H1 : Hp} {Q : VK} (f : Nat → V) (hn : n ≤ sizeLine)
    (el : ∀ (i : Nat) (H' : Hp) (R : VK), i < n → Same H1 H' → (∀ H2, Same H' H2 → R (f i) H2) → ∀ s₀ H₀ ex, te s₀ H₀ ex (blkS fv σ (some (.int (lo + i)))) H' R)
    (fin : ∀ D H2, H1 D = none → Same H1 H2 → H2 D = some (.lst ((List.range n).map f)) → Q (.ref D) H2) : tCompJ fv te σ (Itr lo n) H1 Q := by
  intro D hD
  have sd : ∀ {H2 : Hp} {o : HO}, Same H1 H2 → Same H1 (upd H2 D o) := fun {H2 o} s b u e => by
    rw [upd_ne (ne_of_none e hD)]; exact s b u e
  refine ⟨fun i m ys H => m = n - i ∧ i ≤ n ∧ ys = (List.range i).map f ∧ Same H1 H ∧ H D = some (.lst ys), ⟨n, by simp, Nat.zero_le _, rfl, sd (Same.refl H1), upd_same⟩, ?_⟩
  rintro i m ys H ⟨rfl, hi, rfl, sm, hDi⟩
  refine ⟨hDi, ?_⟩
  by_cases hlt : i < n
  · refine .inr ⟨hlt, by simpa using Nat.lt_of_lt_of_le hlt hn, fun x H' y => ?_⟩
    obtain ⟨e, y⟩ := y
    subst e y
    refine fun s₀ H₀ ex => el i _ _ hlt sm (fun H2 s2 => ⟨s2 D _ hDi, n - (i + 1), by omega, rfl, hlt, ?_, sd (sm.trans s2), upd_same⟩) s₀ H₀ ex
    rw [List.range_succ, List.map_append]
    rfl
  · have e : i = n := by omega
    subst e
    exact .inl ⟨Nat.le_refl _, fin D H hD sm hDi⟩
/-- over a list that stays -/
theorem comp_list {K : PySem.W.Frag} {a : Addr} {xs : List V} {H1 : Hp} {Q : VK} (f : Nat → V) (hq : SqL K H1 a xs) (hn : xs.length ≤ sizeLine)
    (el : ∀ (i : Nat) (x : V) (H' : Hp) (R : VK), xs[i]? = some x → Same H1 H' → (∀ H2, Same H' H2 → R (f i) H2) → ∀ s₀ H₀ ex, te s₀ H₀ ex (blkS fv σ (some x)) H' R)
    (fin : ∀ D H2, H1 D = none → Same H1 H2 → H2 D = some (.lst ((List.range xs.length).map f)) → Q (.ref D) H2) : tCompJ fv te σ (Itl K a) H1 Q := by
  intro D hD
  have sd : ∀ {H2 : Hp} {o : HO}, Same H1 H2 → Same H1 (upd H2 D o) := fun {H2 o} s b u e => by
    rw [upd_ne (ne_of_none e hD)]; exact s b u e
  refine ⟨fun i m ys H => m = xs.length - i ∧ i ≤ xs.length ∧ ys = (List.range i).map f ∧ Same H1 H ∧ H D = some (.lst ys), ⟨xs.length, by simp, Nat.zero_le _, rfl, sd (Same.refl H1), upd_same⟩, ?_⟩
  rintro i m ys H ⟨rfl, hi, rfl, sm, hDi⟩
  refine ⟨hDi, ?_⟩
  have hqi := sm.seq hq
  by_cases hlt : i < xs.length
  · refine .inr ⟨⟨xs, xs[i], hqi, by simp [hlt]⟩, by simpa using Nat.lt_of_lt_of_le hlt hn, fun x H' y => ?_⟩
    obtain ⟨e, y⟩ := y
    subst e
    refine fun s₀ H₀ ex => el i x _ _ (y xs hqi) sm (fun H2 s2 => ⟨s2 D _ hDi, xs.length - (i + 1), by omega, rfl, hlt, ?_, sd (sm.trans s2), upd_same⟩) s₀ H₀ ex
    rw [List.range_succ, List.map_append]
    rfl
  · have e : i = xs.length := by omega
    subst e
    exact .inl ⟨⟨xs, hqi, Nat.le_refl _⟩, fin D H hD sm hDi⟩
end
end L2

/-! MORE BUILT-INS: sorted, ranges as objects, list(range), index, isinstance, == and != of flat lists and tuples, texts walked and cut, range downwards. -/
namespace L2
open PySem PySem.Spec PyProof.Rows

theorem vals_of_get : ∀ {xs : List V} {us : List Value}, xs.length = us.length → (∀ (i : Nat) x u, xs[i]? = some x → us[i]? = some u → RelV x u) → Vals xs us
  | [], [], _, _ => .nil
  | [], _ :: _, h, _ => by simp at h
  | _ :: _, [], h, _ => by simp at h
  | x :: xs, u :: us, h, f => .cons (f 0 x u rfl rfl) (vals_of_get (by simpa using h) fun i y v h1 h2 => f (i + 1) y v (by simpa using h1) (by simpa using h2))
section
variable {X : Cx} {pos p : Pos} {a b c : Expr} {ta : TA}
/-- sorted(xs) of fewer than 64 intL -/
theorem call_sorted : CallR X (.builtin "sorted") (fun xs H Q => ∃ (p : Addr) (ns : List Int), xs = [.ref p] ∧ SqL X.K H p (ns.map V.int) ∧ ns.length < 64 ∧ ∀ (l : Addr) (ns' : List Int), H l = none → ns'.Perm ns → ns'.Pairwise (· ≤ ·) → Q (.ref l) (upd H l (.lst (ns'.map V.int)))) := by
  intro pins s σ H xs us Q I r h
  obtain ⟨p, ns, rfl, hq, hl, q⟩ := h
  obtain ⟨u, rfl, rx⟩ := vals1 r
  cases rx
  obtain ⟨its, r', pl, hz⟩ := I.list hq
  have hi : IntsAre its ns := intsAre_of r'
  have hlen := r'.length
  rw [List.length_map] at hlen hz
  refine sorted_ints pl.isList hi (by omega) fun out ns' a1 a2 a3 => ?_
  obtain ⟨e, he⟩ := sortedAll_at s.heap its out
  have fresh : H (s.heap.objs.size + 1) = none := I.hok.fresh (Nat.le_succ _)
  refine ⟨.ref (s.heap.objs.size + 1), _, I.laid (t' := s.toks) (o := .lst (ns'.map V.int)) (fun b o e => sortedAll_old e) (Nat.le_succ _) ?_, rfl, q _ ns' fresh a2 a3⟩
  exact ⟨by rw [List.length_map, a2.length_eq]; exact hz, out.toList, e, vals_ints a1, by simpa using he⟩
/-- range(j) as an object -/
def tRng1 (ta : TA) : TE := fun σ H Q => ta σ H fun vs H1 => ∃ j : Int, vs = [.int j] ∧ ∀ p, H1 p = none → Q (.ref p) (upd H1 p (.rng 0 j))
theorem pe_rng1 (hg : Gl X "range") (hm : X.mg "range" = none) (ha : PA X [a] ta) (hs : starEach [a] X.env = [(false, eval a X.env)] := by rfl) : PE X (.Call (.Name "range" p) [a] [] pos) (tRng1 ta) := by
  intro pins s σ H Q I h
  refine Call_ (ld_blt I hg hm boot_range (PyProof.Rows.callWith_type1 (thn (ha pos pins s σ H _ I h) fun us s1 ⟨vs, H1, I1, r1, q1⟩ => ?_) hs rfl))
  obtain ⟨j, e, q⟩ := q1
  subst e
  cases r1 with
  | cons r rr =>
    cases rr
    obtain ⟨t, rfl⟩ := r
    exact call_range_1 ⟨.ref s1.heap.objs.size, _, I1.laid (o := .rng 0 j) (fun b o e => Heap.get?_push_of_some _ e) (Nat.le_refl _) ⟨_, _, _, Heap.get?_push_size _ rfl⟩, rfl, q _ (I1.hok.fresh (Nat.le_refl _))⟩
def rngV (lo hi : Int) : List V := (List.range (hi - lo).toNat).map fun i => V.int (lo + (i : Nat))
/-- list(range object) -/
theorem call_list_rng (hc : X.calm = true) : CallR X (.type "list") (fun xs H Q => ∃ p lo hi, xs = [.ref p] ∧ H p = some (.rng lo hi) ∧ -(2 ^ 62) ≤ lo ∧ lo < 2 ^ 62 ∧ -(2 ^ 62) ≤ hi ∧ hi < 2 ^ 62 ∧ (hi - lo).toNat ≤ 1000 ∧ ∀ l, H l = none → Q (.ref l) (upd H l (.lst (rngV lo hi)))) := by
  intro pins s σ H xs us Q I r h
  obtain ⟨p, lo, hi, rfl, hp, h1, h2, h3, h4, h5, q⟩ := h
  obtain ⟨u, rfl, rx⟩ := vals1 r
  cases rx
  obtain ⟨t, u, v, e⟩ := I.hok p _ hp
  have hn : Builtin.Range.rangeSize lo hi 1 = (((hi - lo).toNat : Nat) : Int) := by rw [rangeSize_one]; split <;> omega
  refine call_list_range (I.ok.hd hc) e (small_one h1 h2 h3 h4) hn (Nat.le_trans h5 (by decide)) fun h' tk acc' c' hk hS' hacc => ?_
  refine ⟨.ref s.heap.objs.size, _, I.laid (t' := tk) (o := .lst (rngV lo hi)) hk (Nat.le_refl _) ?_, rfl, q _ (I.hok.fresh (Nat.le_refl _))⟩
  have hlen : (rngV lo hi).length = (hi - lo).toNat := by unfold rngV; rw [List.length_map, List.length_range]
  refine ⟨by rw [hlen]; exact Nat.le_trans h5 (by decide), acc'.toList, c', vals_of_get (by rw [hlen, Array.length_toList]; exact hacc.1.symm) fun i x w e1 e2 => ?_, by simpa using hS'⟩
  obtain ⟨tk', ew⟩ := hacc.2 i w (by simpa using e2)
  have hi' : i < (hi - lo).toNat := by rw [← hlen]; exact (List.getElem?_eq_some_iff.mp e1).1
  have ex : x = V.int (lo + (i : Nat)) := by
    unfold rngV at e1
    rw [List.getElem?_map, List.getElem?_range hi'] at e1
    exact (Option.some.inj e1).symm
  subst ex
  exact ⟨tk', by rw [ew, Int.mul_one]⟩
/-- xs.index(k) of a list of intL, there -/
def rIndex (K : PySem.W.Frag) : V → List V → Hp → VK → Prop := fun x vs H Q => ∃ (l : Addr) (ns : List Int) (k : Int), x = .ref l ∧ vs = [.int k] ∧ SqL K H l (ns.map V.int) ∧ k ∈ ns ∧ Q (.int (ns.idxOf k : Nat)) H
theorem mt_index : MtR X "list.index" (rIndex X.K) := by
  intro pins s σ H x vs v us Q I rx rv h
  obtain ⟨l, ns, k, rfl, rfl, hq, hk, q⟩ := h
  cases rx
  obtain ⟨u, rfl, t, rfl⟩ := rv.one
  obtain ⟨its, r', pl, hz⟩ := I.list hq
  have hi : IntsAre its ns := intsAre_of r'
  have hlen := r'.length
  rw [List.length_map] at hlen hz
  have hn := line63
  have hl := pl.isList
  obtain ⟨⟨cls, dd, data, sl⟩, ho, hc, n, hd⟩ := id hl
  simp only at hc hd
  subst hc hd
  have hj : ns.idxOf k < ns.length := List.idxOf_lt_length_iff.mpr hk
  refine call_meets PySem.F.slot_list_index ⟨_, ho, rfl⟩ PySem.F.entry_list_index (PySem.F.args_list_index_2 _ _)
    (SeqAt.list_indexAt l its.toArray n dd sl (.int k t) (isInt k) (ns.idxOf k) (by rw [List.size_toArray, ← hlen]; exact hj) (by omega) ?_ ?_) ⟨ho, fun y hy => (eq_isInt k t hi y (by simpa using hy)).at _ _, ⟨.int (ns.idxOf k : Nat), H, I.tok _, ⟨_, rfl⟩, q⟩⟩
  · show isInt k its[ns.idxOf k] = true
    rw [isInt_at k hi _ (by omega) hj]
    simpa using List.getElem_idxOf hj
  · intro j hjs hlt
    show isInt k its[j] = false
    rw [isInt_at k hi j (by simpa using hjs) (by rw [hlen]; simpa using hjs)]
    exact ne_of_lt_idxOf hlt _
/-- isinstance(x, T), T a built-in type by its name -/
theorem call_isinst : CallR X (.builtin "isinstance") (fun xs H Q => ∃ x T t b, xs = [x, .ty T] ∧ TyOf X.K H x t ∧ PySem.W.kitOne X.K t (.type T) = some b ∧ Q (.bl b) H) := by
  intro pins s σ H xs us Q I r h
  obtain ⟨x, T, t, b, rfl, ty, e, q⟩ := h
  obtain ⟨u, w', rfl, r1, r2⟩ := vals2 r
  cases (show w' = Value.type T from r2)
  exact isinst_ok I r1 ty e fun tk => ⟨.bl b, H, I.tok tk, rfl, q⟩
end

/-! ### == of flat lists and tuples -/
def eqVs : List V → List V → Bool
  | [], [] => true
  | x :: xs, y :: ys => eqV x y && eqVs xs ys
  | _, _ => false
def eAt (xs ys : List V) (j : Nat) : Bool := match xs[j]?, ys[j]? with
  | some x, some y => eqV x y
  | _, _ => false
theorem eAt_all : ∀ {xs ys : List V}, xs.length = ys.length → (List.range xs.length).all (eAt xs ys) = eqVs xs ys
  | [], [], _ => rfl
  | [], _ :: _, h => by simp at h
  | _ :: _, [], h => by simp at h
  | x :: xs, y :: ys, h => by
    have h' : xs.length = ys.length := by simpa using h
    rw [List.length_cons, List.range_succ_eq_map, List.all_cons, List.all_map]
    show (eqV x y && (List.range xs.length).all (eAt xs ys)) = _
    rw [eAt_all h']
    rfl
theorem eqVs_len : ∀ {xs ys : List V}, xs.length ≠ ys.length → eqVs xs ys = false
  | [], [], h => absurd rfl h
  | [], _ :: _, _ => rfl
  | _ :: _, [], _ => rfl
  | x :: xs, y :: ys, h => by
    show (eqV x y && eqVs xs ys) = false
    rw [eqVs_len (xs := xs) (ys := ys) (by simpa using h), Bool.and_false]
theorem eqVs_intL : ∀ (a b : List Int), eqVs (a.map V.int) (b.map V.int) = decide (a = b)
  | [], [] => rfl
  | [], _ :: _ => rfl
  | _ :: _, [] => rfl
  | x :: a, y :: b => by
    show ((x == y) && eqVs (a.map V.int) (b.map V.int)) = _
    rw [eqVs_intL a b]
    by_cases h1 : x = y <;> by_cases h2 : a = b <;> simp [h1, h2]
theorem all_get {p : V → Bool} {xs : List V} {i : Nat} {x : V} (h : xs.all p = true) (e : xs[i]? = some x) : p x = true := List.all_eq_true.mp h x (List.mem_of_getElem? e)
theorem eAt_at {A : Around} {s : Shared} {xs ys : List V} {us ws : List Value} (r1 : Vals xs us) (r2 : Vals ys ws) (f1 : xs.all flatV = true) (f2 : ys.all flatV = true) (j : Nat) (h1 : j < us.toArray.size) (h2 : j < ws.toArray.size) :
    SeqAt.EqAt A s us.toArray[j] ws.toArray[j] (eAt xs ys j) := by
  have l1 := r1.length
  have l2 := r2.length
  rw [List.size_toArray] at h1 h2
  have e1 : xs[j]? = some xs[j] := by simp
  have e2 : ys[j]? = some ys[j] := by simp
  obtain ⟨u, eu, ru⟩ := r1.get e1
  obtain ⟨w, ew, rw'⟩ := r2.get e2
  have q1 : us.toArray[j] = u := by
    have : us[j] = u := by rw [List.getElem?_eq_getElem h1] at eu; exact Option.some.inj eu
    simpa using this
  have q2 : ws.toArray[j] = w := by
    have : ws[j] = w := by rw [List.getElem?_eq_getElem h2] at ew; exact Option.some.inj ew
    simpa using this
  have q3 : eAt xs ys j = eqV xs[j] ys[j] := by unfold eAt; rw [e1, e2]
  rw [q1, q2, q3]
  exact eqAt_V ru rw' (all_get f1 e1) (all_get f2 e2)
section
variable {X : Cx}
def rEqL (K : PySem.W.Frag) (neg : Bool) : R2 := fun x y H Q => ∃ a b xs ys, x = .ref a ∧ y = .ref b ∧ SqL K H a xs ∧ SqL K H b ys ∧ xs.all flatV = true ∧ ys.all flatV = true ∧ Q (.bl (if neg then !eqVs xs ys else eqVs xs ys)) H
def rEqT (K : PySem.W.Frag) (neg : Bool) : R2 := fun x y H Q => ∃ a b xs ys, x = .ref a ∧ y = .ref b ∧ SqT K H a xs ∧ SqT K H b ys ∧ xs.all flatV = true ∧ ys.all flatV = true ∧ Q (.bl (if neg then !eqVs xs ys else eqVs xs ys)) H
theorem op_eqL (hu : X.A.units < cLine) : OpR X (compareOp .Eq) (rEqL X.K false) := by
  intro pins s σ H x y v u Q I rx ry h
  obtain ⟨a, b, xs, ys, rfl, rfl, h1, h2, f1, f2, q⟩ := h
  cases rx
  cases ry
  obtain ⟨us, r1, p1, _⟩ := I.list h1
  obtain ⟨ws, r2, p2, _⟩ := I.list h2
  have l1 := r1.length
  have l2 := r2.length
  by_cases e : xs.length = ys.length
  · refine SeqAt.eq_listAt (e := eAt xs ys) p1.isList p2.isList (by simp only [List.size_toArray] <;> omega) hu (fun j k1 k2 => eAt_at r1 r2 f1 f2 j k1 k2) ⟨.bl _, H, I, ?_, q⟩
    rw [List.size_toArray, ← l1, eAt_all e]
    rfl
  · refine SeqAt.eq_list_lengthsAt p1.isList p2.isList (by simp only [List.size_toArray, bne_iff_ne, ne_eq] <;> omega) hu ⟨.bl _, H, I, ?_, q⟩
    rw [eqVs_len e]
    rfl
theorem op_neL (hu : X.A.units < cLine) : OpR X (compareOp .NotEq) (rEqL X.K true) := by
  intro pins s σ H x y v u Q I rx ry h
  obtain ⟨a, b, xs, ys, rfl, rfl, h1, h2, f1, f2, q⟩ := h
  cases rx
  cases ry
  obtain ⟨us, r1, p1, _⟩ := I.list h1
  obtain ⟨ws, r2, p2, _⟩ := I.list h2
  have l1 := r1.length
  have l2 := r2.length
  by_cases e : xs.length = ys.length
  · refine SeqAt.RcNeAt.lists (e := eAt xs ys) p1.isList p2.isList (by simp only [List.size_toArray] <;> omega) hu (fun j k1 k2 => eAt_at r1 r2 f1 f2 j k1 k2) _ _ _ _ ⟨.bl _, H, I, ?_, q⟩
    rw [List.size_toArray, ← l1, eAt_all e]
    rfl
  · refine SeqAt.RcNeAt.lists_lengths p1.isList p2.isList (by simp only [List.size_toArray, bne_iff_ne, ne_eq] <;> omega) hu _ _ _ _ ⟨.bl _, H, I, ?_, q⟩
    rw [eqVs_len e]
    rfl
theorem eAt_allT {xs ys : List V} : ((List.range (min xs.length ys.length)).all (eAt xs ys) && (xs.length == ys.length)) = eqVs xs ys := by
  by_cases e : xs.length = ys.length
  · rw [← e, Nat.min_self, eAt_all e, beq_self_eq_true, Bool.and_true]
  · rw [eqVs_len e, beq_false_of_ne e, Bool.and_false]
theorem op_eqT (hu : X.A.units < cLine) : OpR X (compareOp .Eq) (rEqT X.K false) := by
  intro pins s σ H x y v u Q I rx ry h
  obtain ⟨a, b, xs, ys, rfl, rfl, h1, h2, f1, f2, q⟩ := h
  cases rx
  cases ry
  obtain ⟨us, r1, p1, _⟩ := I.tuple h1
  obtain ⟨ws, r2, p2, _⟩ := I.tuple h2
  have l1 := r1.length
  have l2 := r2.length
  refine SeqAt.eq_tupleAt (e := eAt xs ys) p1 p2 hu (fun j k1 k2 => eAt_at r1 r2 f1 f2 j k1 k2) ⟨.bl _, H, I, ?_, q⟩
  rw [List.size_toArray, List.size_toArray, ← l1, ← l2, eAt_allT]
  rfl
end

/-! ### a text, sign by sign -/
def Its (x : Str) : It := ⟨fun i _ => i < x.cps.size, fun i H v H' => H' = H ∧ ∃ c, x.cps[i]? = some c ∧ v = .str ⟨#[c]⟩, fun i _ => i = x.cps.size⟩
theorem turn_strA {P : Program} {w : World} {K : PySem.W.Frag} {tg : Expr} (x : Str) (t : Tok) (it : Addr) : Turn P w K tg (Its x) [it] it (fun i h => h.IsStrIter it "str_ascii_iterator" x t i) where
  mem := by simp
  obj := fun i h st b hb => by
    have e : b = it := by simpa using hb
    subst e
    obtain ⟨o, ho, hc, hd⟩ := st
    exact ⟨o, ho, fun v z => by rw [hd] at z; cases z⟩
  keep := fun i h h' st k => let ⟨o, ho, r⟩ := st; ⟨o, k it (by simp) o ho, r⟩
  item := by
    intro X hP hw hK hc i pins s σ H E I hf st hg
    subst hP hw hK
    obtain ⟨f0, f1, f2, f3, f4, f5⟩ := hf it (by simp)
    refine (Walks.strAscii (prog := X.prog) (w := X.w) (I.ok.hd hc) it x t).item i s _ _ hg st fun v h' tk hv st' kk => ?_
    obtain ⟨c, u, hcx, rfl⟩ := hv
    have I1 : Inv X pins σ H { s with heap := h', toks := tk } := I.turned (fun b o hb e => kk b o (by simpa using hb) e) f0 f1 f3 f4 f5
    obtain ⟨o, ho, hcl, hd⟩ := id st'
    exact ⟨_, rfl, go_of (s := { s with heap := h', toks := tk }) (n := "str_ascii_iterator") ho hcl hd (by decide) ⟨.str ⟨#[c]⟩, H, I1, ⟨u, rfl⟩, ⟨rfl, c, hcx, rfl⟩, st', fun b hb => (hf b hb).1⟩⟩
  done := by
    intro X hP hw hK hc i pins s σ H E I hf st hg
    subst hP hw hK
    obtain ⟨f0, f1, f2, f3, f4, f5⟩ := hf it (by simp)
    have hg' : i = x.cps.size := hg
    subst hg'
    exact (Walks.strAscii (prog := X.prog) (w := X.w) (I.ok.hd hc) it x t).done s _ _ st fun h' tk kk => ⟨rfl, I.turned (t' := tk) (fun b o hb e => kk b o (by simpa using hb) e) f0 f1 f3 f4 f5⟩
  self := fun _ _ _ _ _ st h => wpAny_pyIter_striter_ascii st h
theorem turn_strW {P : Program} {w : World} {K : PySem.W.Frag} {tg : Expr} (x : Str) (t : Tok) (it : Addr) : Turn P w K tg (Its x) [it] it (fun i h => h.IsStrIter it "str_iterator" x t i) where
  mem := by simp
  obj := fun i h st b hb => by
    have e : b = it := by simpa using hb
    subst e
    obtain ⟨o, ho, hc, hd⟩ := st
    exact ⟨o, ho, fun v z => by rw [hd] at z; cases z⟩
  keep := fun i h h' st k => let ⟨o, ho, r⟩ := st; ⟨o, k it (by simp) o ho, r⟩
  item := by
    intro X hP hw hK hc i pins s σ H E I hf st hg
    subst hP hw hK
    obtain ⟨f0, f1, f2, f3, f4, f5⟩ := hf it (by simp)
    refine (Walks.strWide (prog := X.prog) (w := X.w) (I.ok.hd hc) it x t).item i s _ _ hg st fun v h' tk hv st' kk => ?_
    obtain ⟨c, u, hcx, rfl⟩ := hv
    have I1 : Inv X pins σ H { s with heap := h', toks := tk } := I.turned (fun b o hb e => kk b o (by simpa using hb) e) f0 f1 f3 f4 f5
    obtain ⟨o, ho, hcl, hd⟩ := id st'
    exact ⟨_, rfl, go_of (s := { s with heap := h', toks := tk }) (n := "str_iterator") ho hcl hd (by decide) ⟨.str ⟨#[c]⟩, H, I1, ⟨u, rfl⟩, ⟨rfl, c, hcx, rfl⟩, st', fun b hb => (hf b hb).1⟩⟩
  done := by
    intro X hP hw hK hc i pins s σ H E I hf st hg
    subst hP hw hK
    obtain ⟨f0, f1, f2, f3, f4, f5⟩ := hf it (by simp)
    have hg' : i = x.cps.size := hg
    subst hg'
    exact (Walks.strWide (prog := X.prog) (w := X.w) (I.ok.hd hc) it x t).done s _ _ st fun h' tk kk => ⟨rfl, I.turned (t' := tk) (fun b o hb e => kk b o (by simpa using hb) e) f0 f1 f3 f4 f5⟩
  self := fun _ _ _ _ _ st h => wpAny_pyIter_striter_wide st h
section
variable {X : Cx} {tg : Expr}
def iStr (tl : TE) : TI := fun σ H R => tl σ H fun v H1 => ∃ x, v = .str x ∧ R (Its x) H1
theorem pi_str {l : Expr} {tl : TE} (hl : PE X l tl) : PI X tg l (iStr tl) := by
  intro pins s σ H R I h
  refine thn (hl pins s σ H _ I h) fun v s1 ⟨x, H1, I1, r1, q1⟩ => ?_
  obtain ⟨z, e, q⟩ := q1
  subst e
  obtain ⟨t, rfl⟩ := r1
  have fp : ∀ b ∈ [s1.heap.objs.size], FpOk X pins H1 b := fun b hb => by
    have e : b = s1.heap.objs.size := by simpa using hb
    subst e
    exact I1.fpOk (Nat.le_refl _) (I1.hok.fresh (Nat.le_refl _))
  cases ha : z.cps.all (· < 128)
  · refine wpAny_pyIter_wide ha ?_
    exact ⟨s1.heap.objs.size, [s1.heap.objs.size], _, _, H1, rfl, I1.kept (t' := s1.toks) fun b o e => Heap.get?_push_of_some _ e, turn_strW z t _, ⟨_, Heap.get?_push_size _ rfl, rfl, rfl⟩, fp, q⟩
  · refine wpAny_pyIter_ascii ha ?_
    exact ⟨s1.heap.objs.size, [s1.heap.objs.size], _, _, H1, rfl, I1.kept (t' := s1.toks) fun b o e => Heap.get?_push_of_some _ e, turn_strA z t _, ⟨_, Heap.get?_push_size _ rfl, rfl, rfl⟩, fp, q⟩
end
/-- a text from its codes -/
abbrev txt (l : List Nat) : Str := ⟨l.toArray⟩
abbrev sgn (c : Nat) : V := .str ⟨#[c]⟩
theorem for_str {l : List Nat} {g : TG} {tb : TS} {D : Ends} {σ : St} {H : Hp} (Pv : Nat → St → Hp → Prop) (h0 : Pv 0 σ H)
    (hs : ∀ i c σ H, l[i]? = some c → Pv i σ H → g (sgn c) σ H fun σ2 H2 => tb { D with nx := Pv (i + 1), ct := Pv (i + 1), bk := D.nx } σ2 H2) (hd : ∀ σ H, Pv l.length σ H → D.nx σ H) :
    ∃ W : Nat → Nat → St → Hp → Prop, (∃ m, W 0 m σ H) ∧ ∀ i m σ H, W i m σ H →
      ((Its (txt l)).stop i H ∧ D.nx σ H) ∨ ((Its (txt l)).go i H ∧ ∃ N : St → Hp → Prop, (∀ σ' H', N σ' H' → ∃ m', m' < m ∧ W (i + 1) m' σ' H') ∧ ∀ x H', (Its (txt l)).yld i H x H' → g x σ H' fun σ2 H2 => tb { D with nx := N, ct := N, bk := D.nx } σ2 H2) := by
  refine ⟨fun i m σ H => m = l.length - i ∧ i ≤ l.length ∧ Pv i σ H, ⟨l.length, by simp, Nat.zero_le _, h0⟩, ?_⟩
  rintro i m σ H ⟨rfl, hi, p⟩
  by_cases hlt : i < l.length
  · refine .inr ⟨by show i < l.toArray.size; simpa using hlt, Pv (i + 1), fun σ' H' p' => ⟨l.length - (i + 1), by omega, rfl, hlt, p'⟩, fun x H' y => ?_⟩
    obtain ⟨e, c, hc, y⟩ := y
    subst e y
    exact hs i c σ _ (by simpa using hc) p
  · have e : i = l.length := by omega
    subst e
    exact .inl ⟨by show l.length = l.toArray.size; simp, hd σ H p⟩

/-! ### slices of a text -/
section
variable {X : Cx}
end

/-! ### range(a, b, -1) -/
section
variable {X : Cx} {tg : Expr}
end
end L2

namespace L2
open PySem PySem.Spec PyProof.Rows
end L2

/-! DEFS IN ONE WORD: what a call of a def, a method, a class wants, as one hypothesis. -/
namespace L2
open PySem PySem.Spec PyProof.Rows
/-- no exception meets the wish that is False -/
structure NoE (CX : CXT) : Prop where
  no : ∀ outer H s e s', CX outer H s E0 e s' → False
theorem NoE.pass {CX : CXT} (h : NoE CX) {X : Cx} : Passes CX X E0 := fun _ _ _ _ _ _ _ z => (h.no _ _ _ _ _ z).elim
section
variable {P : Program} {w : World} {K : PySem.W.Frag} {mg : Str → Option Value} {base : Heap} {CX : CXT}
/-- a def from whose body no exception comes -/
theorem Fun.okN {x qual : Str} {st : Stmt} {f : Addr} {fd : FuncData} {N ps : List Str} {k : Nat} {sp : Sp} (F : Fun K x qual st f fd) (S : FnScope N ps (defScope st)) (len : ∀ vs H Q E, sp vs H Q E → vs.length = ps.length)
    (hbody : ∀ (cdv : Value) (A : Around) (outer : List Env) (s : Shared) (H : Hp) (vs : List V) (Q : VK) (E : XK), Room k (A.deeper (envOfC qual (defScope st) s.heap.objs.size f cdv)) → sp vs H Q E →
      ∃ t, PSs (cxOf CX P w K mg base N qual (defScope st) f cdv A outer s H E).nox (defBody st) t ∧ t { nx := fun _ H' => Q .non H', rt := Q } (start N vs) H) : FnOk P w K mg base CX (k + 1) f fd ps sp := by
  obtain ⟨oc, od, kV, doc, pm, an, cdv, ct, osl, rfl, lk, hcd⟩ := F.ex
  refine fn_of lk hcd S len fun A outer s H vs Q E hr hsp => ?_
  obtain ⟨t, h, q⟩ := hbody cdv A outer s H vs Q E hr hsp
  exact ⟨t, h.nox, q⟩
structure Def (P : Program) (w : World) (K : PySem.W.Frag) (mg : Str → Option Value) (base : Heap) (CX : CXT) (x : Str) (k : Nat) (ps : List Str) (sp : Sp) : Prop where
  ex : ∃ (f : Addr) (fd : FuncData), mg x = some (.ref f) ∧ PySem.W.keepIn K (.ref f) = true ∧ Binds K fd ps [] ∧ FnOk P w K mg base CX k f fd ps sp
structure MDef (P : Program) (w : World) (K : PySem.W.Frag) (mg : Str → Option Value) (base : Heap) (CX : CXT) (C : Addr) (m : Str) (k : Nat) (ps : List Str) (sp : Sp) : Prop where
  ex : ∃ (f : Addr) (fd : FuncData), Meth K C m f ∧ Binds K fd ps [] ∧ FnOk P w K mg base CX k f fd ps sp
structure CDef (P : Program) (w : World) (K : PySem.W.Frag) (mg : Str → Option Value) (base : Heap) (CX : CXT) (x : Str) (C : Addr) (k : Nat) (ps : List Str) (sp : Sp) : Prop where
  ex : ∃ (f : Addr) (fd : FuncData), mg x = some (.ref C) ∧ Mk K C f ∧ Binds K fd ps [] ∧ FnOk P w K mg base CX k f fd ps sp
end
section
variable {X : Cx} {CX : CXT} {k j : Nat} {C : Addr} {ps : List Str} {sp : Sp} {x m : Str} {p pos apos : Pos} {e o : Expr} {es : List Expr} {ta : TE} {t : TA}
theorem pe_callD (D : Def X.prog X.w X.K X.mg X.base CX x k ps sp) (hE : NoE CX) (hr : Room j X.A) (hg : Gl X x) (ha : PA X (e :: es) t) (hj : k ≤ j := by decide) (hdb : (x == ("__debug__" : Str)) = false := by decide)
    (he : starEach (e :: es) X.env = (false, eval e X.env) :: starEach es X.env := by rfl) (hpl : (backTo pos (starEach es X.env)).any (·.1) = false := by rfl) : PE X (.Call (.Name x p) (e :: es) [] pos) (tCall sp [] E0 t) := by
  obtain ⟨f, fd, hm, hk, hb, F⟩ := D.ex
  exact pe_call F (hr.mono hj) hg hm hk hb .nil hE.pass ha hdb he hpl
theorem pe_methD0 {pl : Sem Bool} (he : PE X o ta) (c : Cls X.K C) (D : MDef X.prog X.w X.K X.mg X.base CX C m k ps sp) (hE : NoE CX) (hr : Room j X.A) (hj : k ≤ j := by decide)
    (ht : eval (.Call (.Attribute o m apos) [] [] pos) X.env = (do
      let ov ← eval o X.env
      standAt apos.atName
      let (f, first) ← holding [ov] (getMethod ov m pl)
      callWith pos f first (backTo pos (starEach [] X.env)) (backToKw pos (keywordEach [] X.env))) := by rfl) :
    PE X (.Call (.Attribute o m apos) [] [] pos) (tMeth C m sp [] E0 ta tNil) := by
  obtain ⟨f, fd, hm, hb, F⟩ := D.ex
  exact pe_meth0 he c hm F (hr.mono hj) hb .nil hE.pass ht
/-- a constant of the module -/
theorem pe_globE {v : V} (hg : Gl X x) (h : ∃ u, X.mg x = some u ∧ RelV v u) (hd : (x == ("__debug__" : Str)) = false := by decide) : PE X (.Name x pos) (tC v) := by
  obtain ⟨u, hm, r⟩ := h
  exact pe_glob hg hm r hd
end
theorem iteD {c A B : Prop} [Decidable c] (hc : c) (h : A) : if decide c = true then A else B := by rw [if_pos (decide_eq_true hc)]; exact h
theorem iteDn {c A B : Prop} [Decidable c] (hc : ¬ c) (h : B) : if decide c = true then A else B := by rw [if_neg (by rw [decide_eq_false hc]; exact Bool.false_ne_true)]; exact h
theorem iteD2 {c A B : Prop} [Decidable c] (h1 : c → A) (h2 : ¬ c → B) : if decide c = true then A else B := by
  by_cases hc : c
  · exact iteD hc (h1 hc)
  · exact iteDn hc (h2 hc)
theorem iteB {b : Bool} {A B : Prop} (h1 : b = true → A) (h2 : b = false → B) : if b = true then A else B := by
  cases b with
  | true => exact iteT (h1 rfl)
  | false => exact iteF (h2 rfl)
abbrev nat (k : Nat) : V := .int (k : Int)
def natL (w : List Nat) : List V := w.map fun (k : Nat) => V.int (k : Int)
theorem natL_len (w : List Nat) : (natL w).length = w.length := by unfold natL; rw [List.length_map]
theorem natL_get {w : List Nat} {i c : Nat} (h : w[i]? = some c) : (natL w)[i]? = some (nat c) := by unfold natL; rw [List.getElem?_map, h]; rfl
theorem natL_flat (w : List Nat) : (natL w).all flatV = true := by
  unfold natL
  rw [List.all_map]
  exact List.all_eq_true.mpr fun _ _ => rfl
theorem bt_int : bootBuiltins "int" = some (.type "int") := by decide +kernel
theorem bt_bool : bootBuiltins "bool" = some (.type "bool") := by decide +kernel
theorem bt_list : bootBuiltins "list" = some (.type "list") := by decide +kernel
theorem bt_tuple : bootBuiltins "tuple" = some (.type "tuple") := by decide +kernel
theorem bt_sorted : bootBuiltins "sorted" = some (.builtin "sorted") := by decide +kernel
theorem bt_isinstance : bootBuiltins "isinstance" = some (.builtin "isinstance") := by decide +kernel
end L2
namespace L2
open PySem PySem.Spec PyProof.Rows
theorem comp_range0 {fv : List (Str × Nat)} {σ : St} {te : TEB} {n : Nat} {H1 : Hp} {Q : VK} (f : Nat → V) (hn : n ≤ sizeLine)
    (el : ∀ (i : Nat) (H' : Hp) (R : VK), i < n → Same H1 H' → (∀ H2, Same H' H2 → R (f i) H2) → ∀ s₀ H₀ ex, te s₀ H₀ ex (blkS fv σ (some (nat i))) H' R)
    (fin : ∀ D H2, H1 D = none → Same H1 H2 → H2 D = some (.lst ((List.range n).map f)) → Q (.ref D) H2) : tCompJ fv te σ (Itr 0 n) H1 Q :=
  comp_range f hn (fun i H' R hi sm kk => by rw [Int.zero_add]; exact el i H' R hi sm kk) fin
theorem for_range0 {n : Nat} {g : TG} {tb : TS} {D : Ends} {σ : St} {H : Hp} (Pv : Nat → St → Hp → Prop) (h0 : Pv 0 σ H)
    (hs : ∀ i σ H, i < n → Pv i σ H → g (nat i) σ H fun σ2 H2 => tb { D with nx := Pv (i + 1), ct := Pv (i + 1), bk := D.nx } σ2 H2) (hd : ∀ σ H, Pv n σ H → D.nx σ H) :
    ∃ W : Nat → Nat → St → Hp → Prop, (∃ m, W 0 m σ H) ∧ ∀ i m σ H, W i m σ H →
      ((Itr 0 n).stop i H ∧ D.nx σ H) ∨ ((Itr 0 n).go i H ∧ ∃ N : St → Hp → Prop, (∀ σ' H', N σ' H' → ∃ m', m' < m ∧ W (i + 1) m' σ' H') ∧ ∀ x H', (Itr 0 n).yld i H x H' → g x σ H' fun σ2 H2 => tb { D with nx := N, ct := N, bk := D.nx } σ2 H2) :=
  for_range Pv h0 (fun i σ H hi p => by rw [Int.zero_add]; exact hs i σ H hi p) hd
theorem same_upd {H H' : Hp} {t : Addr} {o : HO} (s : Same H H') (ht : H t = none) : Same H (upd H' t o) := fun b u e => by rw [upd_ne (ne_of_none e ht)]; exact s b u e
theorem same_new {H : Hp} {t : Addr} {o : HO} (ht : H t = none) : Same H (upd H t o) := same_upd (Same.refl H) ht
theorem sgn_iff {z : Str} {c : Nat} (hs : z = ⟨#[c]⟩) (l : Nat) : sgn l = V.str z ↔ l = c := by
  subst hs
  constructor
  · intro h
    injection h with h
    injection h with h
    simpa using h
  · rintro rfl; rfl
theorem txt_len (l : List Nat) : (txt l).length = l.length := by show l.toArray.size = _; simp
theorem kit_same {K : PySem.W.Frag} {T : String} : PySem.W.kitOne K (.type T) (.type T) = some true := by
  unfold PySem.W.kitOne
  rw [if_pos (beq_self_eq_true _)]
theorem kit_ib {K : PySem.W.Frag} : PySem.W.kitOne K (.type "int") (.type "bool") = some false := by
  unfold PySem.W.kitOne
  rw [if_neg (by decide)]
  unfold PySem.W.kitCls PySem.W.subIn
  with_unfolding_all rfl
end L2

/-! EXCEPTIONS: how one lies behind a call, a raise, a try with one clause. -/
namespace L2
open PySem PySem.Spec PyProof.Rows
/-- what B, the heap that stays while an exception flies, holds of h: all but the frames -/
structure UnB (fs : List Addr) (H H' : Hp) (h B : Heap) : Prop where
  keep : ∀ b o, h.get? b = some o → H b = none → b ∉ fs → B.get? b = some o
  free : ∀ b o, h.get? b = some o → H b = none → H' b = none
  there : ∀ b o, h.get? b = some o → b ∉ fs → ∃ o', B.get? b = some o'
  tups : ∀ b xs, H b = some (.tup xs) → H' b = some (.tup xs)
  frzs : ∀ b o u, H b = some (.frz o u) → H' b = some (.frz o u)
  tbls : ∀ b ps, H b = some (.tbl ps) → ∃ more, H' b = some (.tbl (ps ++ more))
def Slots (fs : List Addr) (h h' : Heap) : Prop := ∀ b ∈ fs, ∀ o, h.get? b = some o → (∀ vs, o.data ≠ .fields vs) → ∃ sl, h'.get? b = some { o with slots := sl }
theorem Slots.up {fs : List Addr} {h h1 h2 : Heap} (a : Slots fs h h1) (b : h1.UpToSlots h2) : Slots fs h h2 := fun c hc o e d => by
  obtain ⟨sl, e1⟩ := a c hc o e d
  obtain ⟨sl2, e2⟩ := b c _ e1 d
  exact ⟨sl2, e2⟩
/-- an exception at a, of the class cls, flies to the frames of outer; s, H ahead of the call, H' the abstract heap now -/
structure Fly (P : Program) (w : World) (outer : List Env) (H : Hp) (s : Shared) (a : Addr) (cls : Value) (H' : Hp) (s' : Shared) : Prop where
  ex : ∃ B a0, UnB (frs outer) H H' s.heap B ∧ HOk P w H' B ∧ Heap.FlyingW B outer a cls a0 s'.heap
  os : s'.os = s.os
  bare : AllBare s'.gens
  slot : Slots (frs outer) s.heap s'.heap
def CXR (P : Program) (w : World) : CXT := fun outer H s E e s' => ∃ a cls H', e = .ref a ∧ Fly P w outer H s a cls H' s' ∧ E cls none H'
theorem noER {P : Program} {w : World} : NoE (CXR P w) := ⟨fun _ _ _ _ _ ⟨_, _, _, _, _, z⟩ => z⟩
/-- an exception of a callee, one made here, reach what is wanted -/
structure Exits (CX : CXT) (X : Cx) (E : XK) : Prop where
  pass : Passes CX X E
  made : ∀ (pins : List (Addr × Obj)) (σ : St) (H : Hp) (s : Shared) (h' : Heap) (e : Addr) (cls : Value) (vs : List Value), Inv X pins σ H s → Heap.MadeExcOf s.heap h' e cls vs → E cls none H → X.xe (.ref e) { s with heap := h' }
section
variable {P : Program} {w : World} {K : PySem.W.Frag} {mg : Str → Option Value} {base : Heap} {N : List Str} {qual : Str} {scope : Scope} {f : Addr} {cd : Value} {A : Around} {outer : List Env} {s0 : Shared} {H0 : Hp} {E : XK}
theorem frs_cons {env : Env} {L : Addr} {l : List Env} (h : env.frame = some L) : frs (env :: l) = L :: frs l := by unfold frs; rw [List.filterMap_cons, h]
theorem frs_frame {l : List Env} : ∀ env ∈ l, ∀ b, env.frame = some b → b ∈ frs l := fun env he b hb => List.mem_filterMap.mpr ⟨env, he, hb⟩
section
variable {CX : CXT} {pins : List (Addr × Obj)} {σ : St} {H H' : Hp} {s : Shared} {B : Heap}
theorem unb_out (I : Inv (cxOf CX P w K mg base N qual scope f cd A outer s0 H0 E) pins σ H s) (U : UnB (frs (envOfC qual scope s0.heap.objs.size f cd :: outer)) H H' s.heap B) : UnB (frs outer) H0 H' s0.heap B := by
  have ub := I.base
  have nex : ∀ b : Addr, b ∉ (cxOf CX P w K mg base N qual scope f cd A outer s0 H0 E).ex := fun b z => by cases z
  have fr : frs (envOfC qual scope s0.heap.objs.size f cd :: outer) = s0.heap.objs.size :: frs outer := frs_cons rfl
  have nl : ∀ b o, s0.heap.get? b = some o → b ∉ frs outer → b ∉ frs (envOfC qual scope s0.heap.objs.size f cd :: outer) := fun b o e hb z => by
    rw [fr] at z
    rcases List.mem_cons.mp z with z | z
    · exact Nat.ne_of_lt (Heap.lt_size e) z
    · exact hb z
  refine ⟨fun b o e n hb => ?_, fun b o e n => ?_, fun b o e hb => ?_, fun b xs e => U.tups b xs (ub.tups b xs e), fun b o u e => U.frzs b o u (ub.frzs b o u e), fun b ps e => ?_⟩
  · exact U.keep b o (ub.keep b o e n hb (nex b)) (ub.free b o e n (nex b)) (nl b o e hb)
  · obtain ⟨o2, e2⟩ := ub.there b o e (nex b)
    exact U.free b o2 e2 (ub.free b o e n (nex b))
  · obtain ⟨o2, e2⟩ := ub.there b o e (nex b)
    exact U.there b o2 e2 (nl b o e hb)
  · obtain ⟨m1, e1⟩ := ub.tbls b ps e
    obtain ⟨m2, e2⟩ := U.tbls b _ e1
    exact ⟨m1 ++ m2, by rw [e2, Array.append_assoc]⟩
theorem slots_out (I : Inv (cxOf CX P w K mg base N qual scope f cd A outer s0 H0 E) pins σ H s) {h' : Heap} (S : Slots (frs (envOfC qual scope s0.heap.objs.size f cd :: outer)) s.heap h') : Slots (frs outer) s0.heap h' := fun b hb o e d => by
  have nex : b ∉ (cxOf CX P w K mg base N qual scope f cd A outer s0 H0 E).ex := fun z => by cases z
  obtain ⟨sl, e1⟩ := I.base.slot b o e (I.ok.frf b hb) hb nex
  obtain ⟨sl2, e2⟩ := S b (by rw [frs_cons (L := s0.heap.objs.size) rfl]; exact List.mem_cons_of_mem _ hb) _ e1 d
  exact ⟨sl2, e2⟩
end
theorem exitsR : Exits (CXR P w) (cxOf (CXR P w) P w K mg base N qual scope f cd A outer s0 H0 E) E where
  pass := by
    rintro pins σ H s e s' I ⟨a, cls, H', rfl, F, hE⟩
    obtain ⟨B, a0, U, ok, fl⟩ := F.ex
    refine wpAny_leaves_onW I.ok.frames rfl fl fun h2 fl2 up => ⟨a, cls, H', rfl, ⟨⟨B, a0, unb_out I U, ok, fl2⟩, F.os.trans I.os, F.bare, slots_out I (F.slot.up up)⟩, hE⟩
  made := by
    intro pins σ H s h' e cls vs I hm hE
    have hst := I.stack
    have nf : ∀ b u, H b = some u → b ∉ frs (envOfC qual scope s0.heap.objs.size f cd :: outer) := fun b u hb z => by
      have := I.stkFree b z
      rw [hb] at this; cases this
    have ok : HOk P w H (PySem.W.hideAll s.heap (frs (envOfC qual scope s0.heap.objs.size f cd :: outer))) := fun b u hb =>
      (I.hok b u hb).stay (fun c v hc q => PySem.W.hideAll_get _ q (by
        rcases hc with rfl | hc
        · exact nf _ _ hb
        · exact nf _ _ hc)) (fun _ q => q) fun _ _ q => q
    have U : UnB (frs (envOfC qual scope s0.heap.objs.size f cd :: outer)) H H s.heap (PySem.W.hideAll s.heap (frs (envOfC qual scope s0.heap.objs.size f cd :: outer))) :=
      ⟨fun b o q _ hb => PySem.W.hideAll_get _ q hb, fun _ _ _ n => n, fun b o q hb => ⟨o, PySem.W.hideAll_get _ q hb⟩, fun _ _ q => q, fun _ _ _ q => q, fun _ ps q => ⟨#[], by rw [q]; simp⟩⟩
    refine wpAny_leaves_madeW (h := s.heap) I.ok.frames rfl (fun b o q => PySem.W.of_hideAll _ q) (PySem.W.funFrames_hide hst frs_frame) hm fun h2 t fl tp tn up => ?_
    refine ⟨e, cls, H, rfl, ⟨⟨_, _, unb_out I U, ok, fl⟩, I.os, I.bare, slots_out I fun b hb o q d => ?_⟩, hE⟩
    obtain ⟨sl, e2⟩ := up b o (hm.keeps b o q) d
    exact ⟨sl, e2⟩
end
end L2

namespace L2
open PySem PySem.Spec PyProof.Rows
section
variable {X : Cx} {CX : CXT} {E : XK} {x : Str} {C : Addr} {j : Nat} {p pos cpos np : Pos} {e : Expr} {es : List Expr} {t : TA} {te : TE}
/-! ### raise C(e, ..) -/
def tRaise (C : Addr) (E : XK) (t : TA) : TS := fun _ σ H => t σ H fun vs H1 => vs.length ≤ sizeLine ∧ E (.ref C) none H1
theorem ps_raise {bm : List Value} {B newId initId : String} (hx : Exits CX X E) (O : OwnCls x C bm newId X.mg X.base) (FB : ExcBaseFacts B newId initId bm) (hr : Room j X.A) (hg : Gl X x) (ha : PA X (e :: es) t)
    (hdb : (x == ("__debug__" : Str)) = false := by decide) (he : starEach (e :: es) X.env = (false, eval e X.env) :: starEach es X.env := by rfl) (hpl : (backTo cpos (starEach es X.env)).any (·.1) = false := by rfl) :
    PS X (.Raise (some (.Call (.Name x np) (e :: es) [] cpos)) none pos) (tRaise C E t) := by
  intro pins s σ H D I h
  obtain ⟨tl, ns, nm, qn, bs, hdct, sn, sub, ab, col, dd, k0, k1, k2, k3, k5, mN, hC, hN, hni, T⟩ := O.obj
  have pl : (backTo cpos (starEach (e :: es) X.env)).any (·.1) = false := by
    rw [he]
    show (false || (backTo cpos (starEach es X.env)).any (·.1)) = false
    rw [hpl]; rfl
  refine wpAny_Raise_call_subT (nm := nm) (q := qn) (N := ns) (bs := bs) (bm := tl) (hdct := hdct) (sn := sn) (sub := sub) (ab := ab) (col := col) (dd := dd) (k0 := k0) (k1 := k1) (k2 := k2) (k3 := k3) (k5 := k5) FB (mN := mN) (T.hasType FB.hasBase) hr.hd pl hni
    (ld_glob I hg O.bound ⟨rfl, ?_⟩ hdb)
  have go := ha cpos pins s σ H _ I h
  rw [he] at go ⊢
  exact Calls.evalArgs_plain (thn go fun us s2 ⟨vs, H1, I1, r, z, q⟩ => ⟨rfl, by rw [← r.length]; exact z, I1.bk _ _ hC, hN.keeps I1.bk, T.keeps I1.bk, fun h' a hm => hx.made pins σ H1 s2 h' a _ _ I1 hm q⟩)
/-! ### f-strings, whose words nobody asks; n: the text by now has at most n signs -/
abbrev TJ := St → Hp → Nat → (Hp → Prop) → Prop
def PJ (X : Cx) (es : List Expr) (t : TJ) : Prop :=
  ∀ (pins : List (Addr × Obj)) (s : Shared) (σ : St) (H : Hp) (acc : Str) (n : Nat) (R : Hp → Prop), Inv X pins σ H s → acc.length ≤ n → t σ H n R →
    Joins (model X.prog X.w) X.A X.xe (evalEach es X.env) acc (fun out s1 => out.length ≤ sizeLine ∧ ∃ H1, Inv X pins σ H1 s1 ∧ R H1) s
def tjNil : TJ := fun _ H n R => n ≤ sizeLine ∧ R H
theorem pj_nil : PJ X [] tjNil := fun _ s σ H acc n R I hl h => ⟨Nat.le_trans hl h.1, H, I, h.2⟩
/-- a written part; an int; a text; the repr of a text -/
def tjC (m : Nat) (tj : TJ) : TJ := fun σ H n R => n + m ≤ sizeLine ∧ tj σ H (n + m) R
def tjI (te : TE) (tj : TJ) : TJ := fun σ H n R => te σ H fun x H1 => ∃ i : Int, x = .int i ∧ i.natAbs.log2 < 1920 ∧ n + 1921 ≤ sizeLine ∧ tj σ H1 (n + 1921) R
def tjR (te : TE) (tj : TJ) : TJ := fun σ H n R => te σ H fun x H1 => ∃ y : Str, x = .str y ∧ y.length ≤ 1000 ∧ (∀ c ∈ y.cps.toList, c < 16 ^ 8) ∧ n + 10002 ≤ sizeLine ∧ tj σ H1 (n + 10002) R
section
variable {tj : TJ}
/-- a part is told: the rest goes on -/
theorem pj_on (hr : PJ X es tj) {pins : List (Addr × Obj)} {s : Shared} {σ : St} {H : Hp} {acc y : Str} {n m : Nat} {R : Hp → Prop} {tk : Tok} (I : Inv X pins σ H s) (hl : acc.length ≤ n) (hy : y.length ≤ m) (hz : n + m ≤ sizeLine) (q : tj σ H (n + m) R) :
    ∃ y' t, Value.str y tk = .str y' t ∧ (acc ++ y').length ≤ sizeLine ∧ Joins (model X.prog X.w) X.A X.xe (evalEach es X.env) (acc ++ y') (fun out s1 => out.length ≤ sizeLine ∧ ∃ H1, Inv X pins σ H1 s1 ∧ R H1) s := by
  have el : (acc ++ y).length = acc.length + y.length := strLen_append ..
  exact ⟨y, tk, rfl, by rw [el]; omega, hr pins s σ H (acc ++ y) (n + m) R I (by rw [el]; omega) q⟩
theorem pj_cst {x : Str} {kk} (hr : PJ X es tj) (hx : x.length ≤ 1000 := by decide +kernel) (hs : evalEach (.Constant (.str x) kk pos :: es) X.env = eval (.Constant (.str x) kk pos) X.env :: evalEach es X.env := by rfl) : PJ X (.Constant (.str x) kk pos :: es) (tjC 1000 tj) := by
  intro pins s σ H acc n R I hl hq
  rw [hs]
  exact Calls.Constant_str (pj_on hr (I.tok _) hl hx hq.1 hq.2)
theorem pj_int (h : PE X e te) (hr : PJ X es tj) (hs : evalEach (.FormattedValue e (-1) none pos :: es) X.env = eval (.FormattedValue e (-1) none pos) X.env :: evalEach es X.env := by rfl) : PJ X (.FormattedValue e (-1) none pos :: es) (tjI te tj) := by
  intro pins s σ H acc n R I hl hq
  rw [hs]
  refine wpAny_FormattedValue_plain (thn (h pins s σ H _ I hq) fun u s1 ⟨x, H1, I1, r, i, ex, hb, hz, k⟩ => ?_)
  subst ex
  obtain ⟨tk, rfl⟩ := r
  exact wpAny_formatField_int hb (pj_on hr (I1.tok _) hl (int_text_len_1921 hb) hz k)
theorem pj_rep (h : PE X e te) (hr : PJ X es tj) (hs : evalEach (.FormattedValue e 114 none pos :: es) X.env = eval (.FormattedValue e 114 none pos) X.env :: evalEach es X.env := by rfl) : PJ X (.FormattedValue e 114 none pos :: es) (tjR te tj) := by
  intro pins s σ H acc n R I hl hq
  rw [hs]
  refine wpAny_FormattedValue_repr (thn (h pins s σ H _ I hq) fun u s1 ⟨x, H1, I1, r, y, ex, hb, hc, hz, k⟩ => ?_)
  subst ex
  obtain ⟨tk, rfl⟩ := r
  have len := StrLaws.reprText_len y hc
  have big : 2000000 ≤ sizeLine := by decide
  have fit : (reprText y).length ≤ sizeLine := by omega
  exact pyReprObj_str (formatField_str (fun t' tk => pj_on hr (I1.tok _) hl (by omega) hz k) fit) fit
end
def tJoin (tj : TJ) : TE := fun σ H Q => tj σ H 0 fun H1 => ∀ y, Q (.str y) H1
theorem pe_join {e2 : Expr} {tj : TJ} (h : PJ X (e :: e2 :: es) tj) : PE X (.JoinedStr (e :: e2 :: es) pos) (tJoin tj) := by
  intro pins s σ H Q I hq
  refine wpAny_JoinedStr (joins_mono (h pins s σ H Str.empty 0 _ I (Nat.le_refl _) hq) fun out s1 ⟨hl, H1, I1, q⟩ => ⟨hl, .str out, H1, I1.tok _, ⟨_, rfl⟩, q out⟩)
where
  joins_mono {M : Model} {A : Around} {E : Value → Shared → Prop} : ∀ {l : List (Sem Value)} {acc : Str} {Q Q' : Str → Shared → Prop} {s : Shared}, Joins M A E l acc Q s → (∀ o s, Q o s → Q' o s) → Joins M A E l acc Q' s
    | [], _, _, _, _, h, f => f _ _ h
    | _ :: _, _, _, _, _, h, f => thn h fun _ _ ⟨y, t, e, z, r⟩ => ⟨y, t, e, z, joins_mono r f⟩
end
end L2

namespace L2
open PySem PySem.Spec PyProof.Rows
/-- an exception of a callee, called where the names are σ -/
structure ExitsS (CX : CXT) (X : Cx) (E : St → XK) : Prop where
  pass : ∀ (pins : List (Addr × Obj)) (σ : St) (H : Hp) (s : Shared) (e : Value) (s' : Shared), Inv X pins σ H s → CX X.stack H s (E σ) e s' → X.xe e s'
theorem Exits.s {CX : CXT} {X : Cx} {E : XK} (h : Exits CX X E) : ExitsS CX X fun _ => E := ⟨h.pass⟩
def tCallX (sp : Sp) (E : St → XK) (t : TA) : TE := fun σ H Q => t σ H fun vs H1 => sp vs H1 Q (E σ)
def tMethX (C : Addr) (m : Str) (sp : Sp) (E : St → XK) (ta : TE) (t : TA) : TE := fun σ H Q => ta σ H fun x H1 => ∃ a dx fs, x = .ref a ∧ H1 a = some (.ins C dx fs) ∧ fs.lookup m = none ∧ t σ H1 fun vs H2 => sp (x :: vs) H2 Q (E σ)
def tMakeX (C : Addr) (sp : Sp) (E : St → XK) (t : TA) : TE := fun σ H Q => t σ H fun vs H1 => ∀ x dx, H1 x = none → H1 dx = none → dx ≠ x →
  sp (.ref x :: vs) (upd (upd H1 dx (.own x)) x (.ins C dx [])) (fun v H2 => v = .non ∧ Q (.ref x) H2) (E σ)
section
variable {X : Cx} {CX : CXT} {k j : Nat} {f C : Addr} {fd : FuncData} {ps : List Str} {sp : Sp} {E : St → XK} {x m : Str} {p pos apos : Pos} {e o : Expr} {es : List Expr} {ta : TE} {t : TA}
theorem run_fnX {pins : List (Addr × Obj)} {σ : St} {H : Hp} {s : Shared} {Q : VK} {us : List Value} {vs : List V} (F : FnOk X.prog X.w X.K X.mg X.base CX k f fd ps sp) (hr : Room k X.A) (hb : Binds X.K fd ps []) (hx : ExitsS CX X E)
    (I : Inv X pins σ H s) (r : Vals vs us) (h : sp vs H Q (E σ)) : wpAny (model X.prog X.w) X.A (call (.ref f) us) (EP X pins σ Q) X.xe s := by
  have hl : (us ++ []).length = ps.length := by rw [List.append_nil, ← r.length]; exact F.len _ _ _ _ h
  have hb' := hb s us I.kIn hl
  rw [List.append_nil] at hb'
  refine wpAny_call (codeAny_mono (F.run X.A X.stack s H ⟨us, []⟩ us vs Q (E σ) hr I.env0 hb' r h) fun res s' hq => ?_)
  cases res with
  | error e => exact hx.pass pins σ H s e s' I hq
  | ok fl =>
    cases fl with
    | ret u => exact I.after hq
    | next => cases hq
    | brk => cases hq
    | cont => cases hq
theorem pe_callX (D : Def X.prog X.w X.K X.mg X.base CX x k ps sp) (hx : ExitsS CX X E) (hr : Room j X.A) (hg : Gl X x) (ha : PA X (e :: es) t) (hj : k ≤ j := by decide) (hdb : (x == ("__debug__" : Str)) = false := by decide)
    (he : starEach (e :: es) X.env = (false, eval e X.env) :: starEach es X.env := by rfl) (hpl : (backTo pos (starEach es X.env)).any (·.1) = false := by rfl) : PE X (.Call (.Name x p) (e :: es) [] pos) (tCallX sp E t) := by
  obtain ⟨f, fd, hm, hk, hb, F⟩ := D.ex
  intro pins s σ H Q I h
  refine wpAny_Call_Name_kw (ld_glob I hg hm ?_ hdb)
  refine PySem.W.callWith_K (h₀ := X.base) I.ok.mod.kin hk (thn (ha pos pins s σ H _ I h) fun us s1 z => ?_) he hpl
  obtain ⟨vs, H1, I1, r, q⟩ := z
  exact ⟨I1.kIn, run_fnX F (hr.mono hj) hb hx I1 r q⟩
theorem pe_methX {pl : Sem Bool} (he : PE X o ta) (c : Cls X.K C) (D : MDef X.prog X.w X.K X.mg X.base CX C m k ps sp) (hx : ExitsS CX X E) (hr : Room j X.A) (ha : PA X (e :: es) t) (hj : k ≤ j := by decide)
    (hst : starEach (e :: es) X.env = (false, eval e X.env) :: starEach es X.env := by rfl) (hpl : (backTo pos (starEach es X.env)).any (·.1) = false := by rfl)
    (ht : eval (.Call (.Attribute o m apos) (e :: es) [] pos) X.env = (do
      let ov ← eval o X.env
      standAt apos.atName
      let (f, first) ← holding [ov] (getMethod ov m pl)
      callWith pos f first (backTo pos (starEach (e :: es) X.env)) (backToKw pos (keywordEach [] X.env))) := by rfl) :
    PE X (.Call (.Attribute o m apos) (e :: es) [] pos) (tMethX C m sp E ta t) := by
  obtain ⟨f, fd, hm, hb, F⟩ := D.ex
  intro pins s σ H Q I h
  refine PySem.W.methodCall_KW (pl := pl) (thn (he pins s σ H _ I h) fun u s1 z => ?_) ht
  obtain ⟨x, H1, I1, rx, a, dx, fs, rfl, ea, l, q⟩ := z
  cases (show u = Value.ref a from rx)
  refine getmeth_ok I1 ea c hm l (PySem.W.callWith_K (first := [.ref a]) (h₀ := X.base) I.ok.mod.kin hm.kp (thn (ha pos pins s1 σ H1 _ I1 q) fun us s2 z => ?_) hst hpl)
  obtain ⟨vs, H2, I2, r, q2⟩ := z
  exact ⟨I2.kIn, run_fnX (us := .ref a :: us) (vs := .ref a :: vs) F (hr.mono hj) hb hx I2 (.cons rfl r) q2⟩
theorem pe_methX0 {pl : Sem Bool} (he : PE X o ta) (c : Cls X.K C) (D : MDef X.prog X.w X.K X.mg X.base CX C m k ps sp) (hx : ExitsS CX X E) (hr : Room j X.A) (hj : k ≤ j := by decide)
    (ht : eval (.Call (.Attribute o m apos) [] [] pos) X.env = (do
      let ov ← eval o X.env
      standAt apos.atName
      let (f, first) ← holding [ov] (getMethod ov m pl)
      callWith pos f first (backTo pos (starEach [] X.env)) (backToKw pos (keywordEach [] X.env))) := by rfl) :
    PE X (.Call (.Attribute o m apos) [] [] pos) (tMethX C m sp E ta tNil) := by
  obtain ⟨f, fd, hm, hb, F⟩ := D.ex
  intro pins s σ H Q I h
  refine PySem.W.methodCall_KW (pl := pl) (thn (he pins s σ H _ I h) fun u s1 z => ?_) ht
  obtain ⟨x, H1, I1, rx, a, dx, fs, rfl, ea, l, q⟩ := z
  cases (show u = Value.ref a from rx)
  exact getmeth_ok I1 ea c hm l (PySem.W.callWith_K0 (first := [.ref a]) I1.kIn hm.kp (run_fnX (us := [.ref a]) (vs := [.ref a]) F (hr.mono hj) hb hx I1 (.cons rfl .nil) q))
theorem pe_makeX (D : CDef X.prog X.w X.K X.mg X.base CX x C k ps sp) (hx : ExitsS CX X E) (hr : Room j X.A) (hg : Gl X x) (ha : PA X (e :: es) t) (hj : k + 1 ≤ j := by decide) (hdb : (x == ("__debug__" : Str)) = false := by decide)
    (he : starEach (e :: es) X.env = (false, eval e X.env) :: starEach es X.env := by rfl) (hpl : (backTo pos (starEach es X.env)).any (·.1) = false := by rfl) :
    PE X (.Call (.Name x p) (e :: es) [] pos) (tMakeX C sp E t) := by
  obtain ⟨f, fd, hm, M, hb, F⟩ := D.ex
  intro pins s σ H Q I h
  refine wpAny_Call_Name_kw (ld_glob I hg hm ?_ hdb)
  refine PySem.W.callWith_K (h₀ := X.base) I.ok.mod.kin M.kp (thn (ha pos pins s σ H _ I h) fun us s1 z => ?_) he hpl
  obtain ⟨vs, H1, I1, r, q⟩ := z
  refine ⟨I1.kIn, ?_⟩
  have hq := q (s1.heap.objs.size + 1) s1.heap.objs.size (I1.hok.fresh (Nat.le_succ _)) (I1.hok.fresh (Nat.le_refl _)) (Nat.ne_of_lt (Nat.lt_succ_self _))
  have I2 := Inv.made (C := C) I1
  have r2 : Vals (V.ref (s1.heap.objs.size + 1) :: vs) (Value.ref (s1.heap.objs.size + 1) :: us) := .cons rfl r
  have hl : (Value.ref (s1.heap.objs.size + 1) :: us ++ []).length = ps.length := by
    have e1 := r2.length
    rw [F.len _ _ _ _ hq] at e1
    rw [List.append_nil]; exact e1.symm
  have hb' := hb _ (Value.ref (s1.heap.objs.size + 1) :: us) I2.kIn hl
  rw [List.append_nil] at hb'
  have hr' : Room (k + 1) X.A := hr.mono hj
  refine wpAny_call (make_map (f := f) I1.kIn M.makes M.init (beq_iff_eq.mp M.fn) (codeAny_mono (F.run _ X.stack _ _ ⟨Value.ref (s1.heap.objs.size + 1) :: us, []⟩ _ _ _ (E σ) (hr'.make C us []) (I2.env0.make C us []) hb' r2 hq) fun res s' hq' => ?_))
  cases res with
  | error e1 => exact hx.pass pins σ _ _ e1 s' I2 hq'
  | ok fl =>
    cases fl with
    | ret u =>
      obtain ⟨v, H', I3, rv, ev, q3⟩ := I2.after hq'
      subst ev
      exact ⟨rv, ⟨V.ref (s1.heap.objs.size + 1), H', I3, rfl, q3⟩⟩
    | next => cases hq'
    | brk => cases hq'
    | cont => cases hq'
end
/-! ### try: .. except K as n: .. -/
section
variable {X : Cx} {pins pins' : List (Addr × Obj)} {σ : St} {H H' : Hp} {s : Shared} {E : St → XK} {a : Addr}
end
end L2

namespace L2
open PySem PySem.Spec PyProof.Rows
section
variable {X : Cx} {x n : Str} {i : Nat} {KE : Addr} {np hpos pos : Pos} {b0 : Stmt} {body suite : List Stmt} {tb : List (Addr × Obj) → (St → XK) → TS} {ts : Addr → TS}
end
/-! ### isinstance(e, C) of a caught exception -/
section
open Builtin Builtin.ObjectAttr Builtin.Getset_descriptor PySem.Calls
variable {K : PySem.W.Frag}
/-- what is known of an own class of exceptions -/
structure ExcCls (K : PySem.W.Frag) (D : Addr) : Prop where
  cls : PySem.W.isClsIn K D = true
  ga : PySem.W.findIn K (.ref D) "__getattribute__" = some (some (.builtin "BaseException.__getattribute__"))
  gt : PySem.W.findIn K (.ref D) "__getattr__" = some none
  ca : PySem.W.findIn K (.ref D) "__class__" = some (some (.builtin "object.__class__"))
  gs : PySem.W.specialIn K (.builtin "object.__class__") "__get__" = some (some (.builtin "getset_descriptor.__get__"))
  tk : PySem.W.takesIn K (.builtin "object.__class__") = some true
  ob : PySem.W.mroIn K D (.type "object") = some true
  bx : PySem.W.mroIn K D (.type "BaseException") = some true
variable {D a : Addr} {prog : Program} {w : World} {A : Around} {E : Value → Shared → Prop} {s : Shared}
end
section
variable {X : Cx}
end
end L2

/-! AN EXCEPTION OUT OF A COMPREHENSION -/
namespace L2
open PySem PySem.Spec PyProof.Rows
section
variable {M : Model} {A : Around} {E : Value → Shared → Prop} {s : Shared} {base : Heap} {l : List Env} {e : Addr} {cls a0 fl : Value}
end
end L2


namespace L2
open PySem PySem.Spec PyProof.Rows
section
variable {X : Cx} {x : Str} {fv : List (Str × Nat)} {scope : Scope} {cl : List (Str × Addr)} {pins : List (Addr × Obj)} {σ : St} {px pos : Pos} {iter elt : Expr} {te : TEB}
end
end L2

/-! OWN ERROR CLASSES, DEFS THAT RAISE -/
namespace L2
open PySem PySem.Spec PyProof.Rows
abbrev bmVE : List Value := [.type "ValueError", .type "Exception", .type "BaseException", .type "object"]
theorem own_mk {K : PySem.W.Frag} {h : Heap} {mg : Str → Option Value} {x : Str} {C : Addr} {bm : List Value} {nid : String} (X : K.In h) (hm : mg x = some (.ref C)) (q : PySem.W.excIn K C bm nid = true) : OwnCls x C bm nid mg h := by
  refine ⟨hm, ?_⟩
  unfold PySem.W.excIn at q
  split at q
  · rename_i d1 c1 s1 look
    split at q
    · rename_i C1 tl j0 j1 j2 j3 nn j5 em es
      simp only [Bool.and_eq_true, beq_iff_eq, Bool.not_eq_true'] at q
      obtain ⟨⟨⟨⟨⟨rfl, rfl⟩, del⟩, tail⟩, isn⟩, noi⟩ := q
      obtain ⟨f1, f2, f3, f4, f5, f6, f7, f8, f9, f10, f11⟩ := c1
      dsimp only at em del isn noi
      subst em del
      have es' : s1 = #[j0, j1, j2, j3, some (.builtin nn), j5] := by
        obtain ⟨l⟩ := s1
        simp only at es
        rw [es]
      subst es'
      exact ⟨tl, f4, f1, f5, f2, f6, f7, f8, f9, f10, d1, j0, j1, j2, j3, j5, _, X _ _ look, .of_isNs (PySem.W.isNs_of_in X isn), PySem.W.nsMap_none_of_in X isn noi, PySem.W.tail_of_in X tail⟩
    · cases q
  · cases q
section
variable {X : Cx} {CX : CXT} {E : XK} {x : Str} {C : Addr} {j : Nat} {pos cpos np : Pos} {e : Expr} {es : List Expr} {t : TA}
theorem ps_rais (hx : Exits CX X E) (hm : X.mg x = some (.ref C)) (hq : PySem.W.excIn X.K C bmVE "ValueError.__new__" = true) (hr : Room j X.A) (hg : Gl X x) (ha : PA X (e :: es) t)
    (hdb : (x == ("__debug__" : Str)) = false := by decide) (he : starEach (e :: es) X.env = (false, eval e X.env) :: starEach es X.env := by rfl) (hpl : (backTo cpos (starEach es X.env)).any (·.1) = false := by rfl) :
    PS X (.Raise (some (.Call (.Name x np) (e :: es) [] cpos)) none pos) (tRaise C E t) :=
  fun pins s σ H D I h => ps_raise hx (own_mk I.ok.mod.kin hm hq) PySem.F.excBase_ValueError hr hg ha hdb he hpl pins s σ H D I h
end
section
variable {P : Program} {w : World} {K : PySem.W.Frag} {mg : Str → Option Value} {base : Heap}
/-- a def from whose body exceptions may come -/
theorem Fun.okX {x qual : Str} {st : Stmt} {f : Addr} {fd : FuncData} {N ps : List Str} {k : Nat} {sp : Sp} (F : Fun K x qual st f fd) (S : FnScope N ps (defScope st)) (len : ∀ vs H Q E, sp vs H Q E → vs.length = ps.length)
    (hbody : ∀ (cdv : Value) (A : Around) (outer : List Env) (s : Shared) (H : Hp) (vs : List V) (Q : VK) (E : XK), Room k (A.deeper (envOfC qual (defScope st) s.heap.objs.size f cdv)) →
      Exits (CXR P w) (cxOf (CXR P w) P w K mg base N qual (defScope st) f cdv A outer s H E) E → sp vs H Q E →
      ∃ t, PSs (cxOf (CXR P w) P w K mg base N qual (defScope st) f cdv A outer s H E) (defBody st) t ∧ t { nx := fun _ H' => Q .non H', rt := Q } (start N vs) H) : FnOk P w K mg base (CXR P w) (k + 1) f fd ps sp := by
  obtain ⟨oc, od, kV, doc, pm, an, cdv, ct, osl, rfl, lk, hcd⟩ := F.ex
  exact fn_of lk hcd S len fun A outer s H vs Q E hr hsp => hbody cdv A outer s H vs Q E hr exitsR hsp
end
end L2

/-! WEAKER PROMISES -/
namespace L2
open PySem
section
variable {P : Program} {w : World} {K : PySem.W.Frag} {mg : Str → Option Value} {base : Heap} {CX : CXT} {x m : Str} {C : Addr} {k : Nat} {ps : List Str} {sp sp' : Sp}
theorem Def.imp (D : Def P w K mg base CX x k ps sp) (h : ∀ vs H Q E, sp' vs H Q E → sp vs H Q E) : Def P w K mg base CX x k ps sp' :=
  let ⟨f, fd, a, b, c, F⟩ := D.ex; ⟨f, fd, a, b, c, F.imp h⟩
theorem MDef.imp (D : MDef P w K mg base CX C m k ps sp) (h : ∀ vs H Q E, sp' vs H Q E → sp vs H Q E) : MDef P w K mg base CX C m k ps sp' :=
  let ⟨f, fd, a, c, F⟩ := D.ex; ⟨f, fd, a, c, F.imp h⟩
theorem CDef.imp (D : CDef P w K mg base CX x C k ps sp) (h : ∀ vs H Q E, sp' vs H Q E → sp vs H Q E) : CDef P w K mg base CX x C k ps sp' :=
  let ⟨f, fd, a, b, c, F⟩ := D.ex; ⟨f, fd, a, b, c, F.imp h⟩
end
theorem pe_globC {X : Cx} {x : Str} {C : Addr} {pos : Pos} (hg : Gl X x) (hm : X.mg x = some (.ref C)) (hd : (x == ("__debug__" : Str)) = false := by decide) : PE X (.Name x pos) (tC (.ref C)) := pe_glob hg hm rfl hd
/-- the ways through a statement meet at J -/
def tJ (t : TS) : TS := fun D σ H => ∃ J : St → Hp → Prop, t { D with nx := J } σ H ∧ ∀ σ' H', J σ' H' → D.nx σ' H'
theorem ps_join {X : Cx} {st : Stmt} {t : TS} (h : PS X st t) : PS X st (tJ t) := by
  rintro pins s σ H D I ⟨J, q, k⟩
  refine thn (h pins s σ H _ I q) fun f s' z => ?_
  cases f with
  | next => obtain ⟨σ', H', I', z⟩ := z; exact ⟨σ', H', I', k _ _ z⟩
  | brk => exact z
  | cont => exact z
  | ret u => exact z
theorem one_fits {v : V} : [v].length ≤ sizeLine := by show 1 ≤ sizeLine; decide
theorem two_fits {u v : V} : [u, v].length ≤ sizeLine := by show 2 ≤ sizeLine; decide
end L2

/-! A SIGN, SEVERAL TIMES -/
namespace L2
open PySem PySem.Spec PyProof.Rows
end L2

/-! THE REPR OF A LIST OF INTS, WITHIN AN F-STRING -/
namespace L2
open PySem PySem.Spec PyProof.Rows
theorem textFrom_le {B : Nat} : ∀ (ts : List Str) (k : Nat) (acc : Str), (∀ t ∈ ts, t.length ≤ B) → (textFrom k acc ts).length ≤ acc.length + ts.length * (B + 2)
  | [], _, acc, _ => by show acc.length ≤ acc.length + 0 * (B + 2); omega
  | t :: r, k, acc, h => by
    have ih := textFrom_le r (k + 1) (acc ++ (if k > 0 then ", " else "" : String) ++ t) fun x hx => h x (List.mem_cons_of_mem _ hx)
    have ht := h t List.mem_cons_self
    have e : (acc ++ (if k > 0 then ", " else "" : String) ++ t).length = acc.length + (if k > 0 then 2 else 0) + t.length := by
      rw [strLen_append, strLen_append]
      congr 2
      split <;> rfl
    have e2 : (if k > 0 then 2 else 0) ≤ 2 := by split <;> decide
    show (textFrom (k + 1) (acc ++ (if k > 0 then ", " else "" : String) ++ t) r).length ≤ acc.length + (r.length + 1) * (B + 2)
    rw [Nat.add_mul, Nat.one_mul]
    omega
theorem shown_ints_le (ns : List Int) (hn : ns.length ≤ 64) (hb : ∀ i ∈ ns, i.natAbs.log2 < 1920) : (PyData.list (ns.map .int)).shown.length ≤ 130000 := by
  have all : ∀ ms : List Int, PyData.shownAll (ms.map .int) = ms.map fun i => (Str.ofString (toString i)) := fun ms => by
    induction ms with
    | nil => simp only [List.map_nil, PyData.shownAll]
    | cons x r ih => simp only [List.map_cons, PyData.shownAll, ih, PyData.shown]
  simp only [PyData.shown]
  unfold listText
  rw [all, strLen_append]
  have := textFrom_le (B := 1921) (ns.map fun i => (Str.ofString (toString i))) 0 "[" fun t ht => by
    obtain ⟨i, hi, rfl⟩ := List.mem_map.mp ht
    exact int_text_len_1921 (hb i hi)
  rw [List.length_map] at this
  have e1 : ("[" : Str).length = 1 := rfl
  have e2 : ("]" : Str).length = 1 := rfl
  omega
theorem showable_ints : ∀ ns : List Int, (∀ i ∈ ns, i.natAbs.log2 < 1920) → PyData.showableAll (ns.map .int) = true
  | [], _ => by simp only [List.map_nil, PyData.showableAll]
  | x :: r, h => by
    have ih := showable_ints r fun i hi => h i (List.mem_cons_of_mem _ hi)
    have hx := h x List.mem_cons_self
    simp only [List.map_cons, PyData.showableAll, PyData.showable, ih, decide_eq_true hx, Bool.and_self]
theorem noDict_ints : ∀ ns : List Int, PyData.hasDictAll (ns.map .int) = false
  | [] => by simp only [List.map_nil, PyData.hasDictAll]
  | x :: r => by simp only [List.map_cons, PyData.hasDictAll, PyData.hasDict, noDict_ints r, Bool.or_self]
theorem depth_ints : ∀ ns : List Int, PyData.depthAll (ns.map .int) ≤ 1
  | [] => by simp only [List.map_nil, PyData.depthAll]; omega
  | x :: r => by
    have := depth_ints r
    simp only [List.map_cons, PyData.depthAll, PyData.depth]
    omega
theorem reads_ints {h : Heap} : ∀ {ns : List Int} {its : List Value}, Vals (ns.map V.int) its → ReadsAll h its (ns.map .int) []
  | [], [], _ => .nil
  | [], _ :: _, r => by cases r
  | _ :: _, [], r => by cases r
  | x :: ns, u :: us, r => by
    cases r with
    | cons r1 r2 =>
      obtain ⟨t, rfl⟩ := r1
      exact .cons (as := []) (bs := []) (.int x t) (reads_ints r2)
section
variable {X : Cx} {pos : Pos} {e : Expr} {es : List Expr} {te : TE} {tj : TJ} {j : Nat}
def tjL (K : PySem.W.Frag) (te : TE) (tj : TJ) : TJ := fun σ H n R => te σ H fun x H1 => ∃ (a : Addr) (ns : List Int), x = .ref a ∧ SqL K H1 a (ns.map V.int) ∧ ns.length ≤ 64 ∧ (∀ i ∈ ns, i.natAbs.log2 < 1920) ∧ n + 130000 ≤ sizeLine ∧ tj σ H1 (n + 130000) R
theorem pj_lst (rm : Room j X.A) (h : PE X e te) (hr : PJ X es tj) (hs : evalEach (.FormattedValue e 114 none pos :: es) X.env = eval (.FormattedValue e 114 none pos) X.env :: evalEach es X.env := by rfl) : PJ X (.FormattedValue e 114 none pos :: es) (tjL X.K te tj) := by
  intro pins s σ H acc n R I hl hq
  rw [hs]
  refine wpAny_FormattedValue_repr (thn (h pins s σ H _ I hq) fun u s1 ⟨x, H1, I1, r, a, ns, ex, hL, hn, hb, hz, k⟩ => ?_)
  subst ex
  cases (show u = Value.ref a from r)
  obtain ⟨its, r', pl, _⟩ := I1.list hL
  obtain ⟨ob, ho, hc, nn, hd⟩ := id pl.isList
  have big : 2000000 ≤ sizeLine := by decide
  have len := shown_ints_le ns hn hb
  have rr : Reads s1.heap (.ref a) (.list (ns.map .int)) [a] := .list (as := []) ho hc hd (by simpa using reads_ints r')
  have dp : (PyData.list (ns.map .int)).depth ≤ 2 := by
    have := depth_ints ns
    simp only [PyData.depth]
    omega
  have hu := rm.units
  refine pyReprObj_of_reads rr (by simp only [PyData.showable]; exact showable_ints ns hb) (PyData.noDict_hsm (by simp only [PyData.hasDict]; exact noDict_ints ns)) rm.gd (by omega) (fun _ _ e => e) (fun h' u tk kk => ?_) (by omega)
  have I2 : Inv X pins σ H1 { s1 with heap := h', toks := tk } := I1.kept (t' := tk) kk
  exact formatField_str (fun t' tk' => pj_on hr (I2.tok _) hl len hz k) (by omega)
end
end L2

/-! list(reversed(xs)) -/
namespace L2
open PySem PySem.Spec PyProof.Rows
section
variable {prog : Program} {w : World} {A : Around} {E : Value → Shared → Prop} {s : Shared}
end
section
variable {X : Cx} {e : Expr} {te : TE} {p p' pos pos' : Pos}
end
end L2

/-! min of a list of ints, sorted(d) of a dict keyed by ints, == of lists of lists of ints -/
namespace L2
open PySem PySem.Spec PyProof.Rows
theorem bt_min : bootBuiltins "min" = some (.builtin "min") := by decide +kernel
section
variable {prog : Program} {w : World} {A : Around} {E : Value → Shared → Prop} {s : Shared}
theorem sorted_src {T : String} {r d : Addr} {n : Nat} {P : Nat → Value → Prop} {OK : Heap → Prop} {Q : Value → Shared → Prop} (K : PySem.W.KdlSrc prog w T r d n P OK) (hh : A.handled = none) (hok : OK s.heap) (hn : n < 64) (ns : List Int) (hns : ns.length = n)
    (hval : ∀ i v k, P i v → ns[i]? = some k → ∃ t, v = .int k t)
    (h : ∀ (h' h2 : Heap) (tk : Nat) (out : Array Value) (ns' : List Int) (c : Nat), (∀ b o, s.heap.get? b = some o → h'.get? b = some o) → (∀ b o, h'.get? b = some o → h2.get? b = some o) → h2.get? h'.objs.size = some (seqObj "list" out c) → IntsAre out.toList ns' → ns'.Perm ns → ns'.Pairwise (· ≤ ·) → Q (.ref h'.objs.size) { s with heap := h2, toks := tk }) :
    wpAny (model prog w) A (call (.builtin "sorted") [.ref r]) Q E s := by
  have big : 64 ≤ sizeLine := by decide
  refine Calls.call_function_entry kind_sorted plain_sorted entry_sorted (args_sorted1 _) ?_
  unfold Builtin.«sorted»
  refine wpAny_bind (m := checkCount "sorted" 1 1 _) (wpAny_pure ?_)
  refine wpAny_bind (PySem.W.kdu_collect (A := A.in1) K hh hok (by omega) fun h' tk acc hk hacc => ?_)
  have hlen : acc.toList.length = n := by rw [Array.length_toList]; exact hacc.1
  have hI : IntsAre acc.toList ns := intsAre_of (vals_of_get (xs := ns.map V.int) (by rw [List.length_map, hlen, hns]) fun i x u e1 e2 => by
    rw [List.getElem?_map] at e1
    obtain ⟨k, ek, rfl⟩ := Option.map_eq_some_iff.mp e1
    exact hval i u k (hacc.2 i u (by simpa using e2)) ek)
  refine wpAny_bind (wpAny_newList ?_ (by rw [hlen]; omega))
  have hoL : (h'.push (seqObj "list" acc.toList.toArray 0)).get? h'.objs.size = some (seqObj "list" acc.toList.toArray 0) := Heap.get?_push_size _ rfl
  refine wpAny_bind (wpAny_holding (wpAny_call_entry slot_list_sort ⟨_, hoL, rfl⟩ entry_list_sort (list_sort_tree hoL hI (by rw [hlen]; exact hn) fun out ns' a1 a2 a3 => ⟨_, rfl, ?_⟩) (args_list_sort _)))
  refine wpAny_pure ⟨_, rfl, ?_⟩
  obtain ⟨c, he⟩ := sortedHeap_at (out := out) hoL
  refine h h' _ tk out ns' c hk (fun b o q' => ?_) he a1 a2 a3
  have lt := Heap.lt_size q'
  rw [sortedHeap_old (Nat.ne_of_lt lt) (by rw [size_push']; exact Nat.lt_succ_of_lt lt)]
  exact Heap.get?_push_of_some _ q'
end
section
variable {X : Cx}
/-- sorted(d), the keys ints -/
theorem call_sortedD (hc : X.calm = true) : CallR X (.builtin "sorted") (fun xs H Q => ∃ (p : Addr) (kvs : List (Key × V)) (ns : List Int), xs = [.ref p] ∧ H p = some (.dK kvs) ∧ kvs.map (·.1) = ns.map Sum.inl ∧ ns.length < 64 ∧
    ∀ (l : Addr) (ns' : List Int), H l = none → ns'.Perm ns → ns'.Pairwise (· ≤ ·) → Q (.ref l) (upd H l (.lst (ns'.map V.int)))) := by
  intro pins s σ H xs us Q I r h
  obtain ⟨p, kvs, ns, rfl, hp, hk, hl, q⟩ := h
  obtain ⟨u, rfl, rx⟩ := vals1 r
  cases rx
  obtain ⟨_, lo, vs, rel, dd⟩ := dk_of I.hok hp
  obtain ⟨ep, hat⟩ := dd.dictAt
  have ek := rel.keys
  have len : ns.length = vs.length := by
    have := congrArg List.length (hk.symm.trans ek)
    simpa using this
  refine sorted_src (PySem.W.kdl_dict (knd := mixKind X.prog X.w) (kvs := vs) (ep := ep) lo) (I.ok.hd hc) hat (by omega) ns len (fun i v k hP hn => ?_) fun h' h2 tk out ns' c hkp hk2 hget a1 a2 a3 => ?_
  · obtain ⟨k', x, e1, e2⟩ := hP
    have e3 : (vs.map (·.1))[i]? = some k' := by rw [List.getElem?_map, e1]; rfl
    rw [← ek, hk, List.getElem?_map, hn] at e3
    cases Option.some.inj e3
    obtain ⟨t, e5⟩ : ∃ t, v = .int k t := by
      have e2' : keyIs (.inl k) v = true := e2
      rcases keyIs_shape e2' with ⟨j, t, e4, e5⟩ | ⟨j, t, e4, e5⟩
      · exact ⟨t, by rw [e5, Sum.inl.inj e4]⟩
      · cases e4
    exact ⟨t, e5⟩
  · have I2 := I.kept (t' := tk) hkp
    have fresh : H h'.objs.size = none := I2.hok.fresh (Nat.le_refl _)
    refine ⟨.ref h'.objs.size, _, I2.laid (t' := tk) (o := .lst (ns'.map V.int)) hk2 (Nat.le_refl _) ?_, rfl, q _ ns' fresh a2 a3⟩
    have big : 64 ≤ sizeLine := by decide
    exact ⟨by rw [List.length_map, a2.length_eq]; omega, out.toList, c, vals_ints a1, by simpa using hget⟩
end
end L2

/-! == of two lists of lists of ints, the same lists -/
namespace L2
open PySem PySem.Spec PyProof.Rows
/-- the lists at ps hold xss -/
structure LsAt (H : Hp) (ps : List Addr) (xss : List (List Int)) : Prop where
  len : ps.length = xss.length
  at_ : ∀ (i : Nat) p xs, ps[i]? = some p → xss[i]? = some xs → H p = some (.lst (xs.map V.int))
theorem LsAt.same {H H' : Hp} {ps : List Addr} {xss : List (List Int)} (h : LsAt H ps xss) (s : Same H H') : LsAt H' ps xss := ⟨h.len, fun i p xs a b => s _ _ (h.at_ i p xs a b)⟩
section
variable {X : Cx}
theorem vals_refs : ∀ {ps : List Addr} {us : List Value}, Vals (ps.map V.ref) us → us = ps.map Value.ref
  | [], [], _ => rfl
  | [], _ :: _, r => by cases r
  | _ :: _, [], r => by cases r
  | p :: ps, u :: us, r => by
    cases r with
    | cons r1 r2 => cases (show u = Value.ref p from r1); rw [vals_refs r2]; rfl
end
end L2

/-! list comprehensions with one test: [elt for x in iter if cnd] -/
namespace L2
open PySem PySem.Spec PyProof.Rows
section
variable {prog : Program} {w : World} {A : Around} {R : Result → Shared → Prop} {s : Shared}
theorem codeAny_compLoop_F {elt target iter cnd : Expr} {scope : Scope} {pos : Pos} {it acc : Value} {env : Env} (I : Nat → Shared → Prop)
    (turn : ∀ n s, I n s → wpAny (model prog w) A (pyNext it) (fun r s₁ => match r with
      | none => R (.ok .next) s₁
      | some v => wpAny (model prog w) A (letOwnedTupleGo target it v) (fun _ s₂ => wpAny (model prog w) A (assign target env v) (fun _ s₂ => wpAny (model prog w) A (isTrue cnd env (eval cnd env)) (fun b s₂ => match b with
        | false => ∃ m, m < n ∧ I m s₂
        | true => wpAny (model prog w) A (eval elt env) (fun x s₃ =>
          wpAny (model prog w) A (call (.builtin "list.append") [acc, x]) (fun _ s₄ => ∃ m, m < n ∧ I m s₄) (notedBy (model prog w) A env fun e s' => R (.error e) s') s₃)
          (notedBy (model prog w) A env fun e s' => R (.error e) s') s₂) (notedBy (model prog w) A env fun e s' => R (.error e) s') s₂) (notedBy (model prog w) A env fun e s' => R (.error e) s') s₂) (notedBy (model prog w) A env fun e s' => R (.error e) s') s₁) (notedBy (model prog w) A env fun e s' => R (.error e) s') s)
    (n : Nat) (h : I n s) :
    codeAny (model prog w) A (.compLoop (.ListComp elt [⟨target, iter, [cnd], 0⟩] scope pos) 0 it acc env) R s := by
  refine codeAny_loop rfl I (fun n s hI => ?_) n h
  show wpAny _ _ ((compTurn (.ListComp elt [⟨target, iter, [cnd], 0⟩] scope pos) 0 it acc env).onRaise (fun x => do noteFrame x env; theTreesLotGoes x)) _ _ s
  refine wpAny_noted ?_
  rw [compTurn_list]
  refine wpAny_bind (wpAny_standAt (wpAny_bind (wpAny_mono (turn n s hI) (fun r s₁ h₁ => ?_) fun _ _ h' => h')))
  cases r with
  | none => exact wpAny_pure h₁
  | some v =>
    refine wpAny_bind (wpAny_mono h₁ (fun _ s₂ h₂ => ?_) fun _ _ h' => h')
    refine wpAny_bind (wpAny_mono h₂ (fun _ s₂ h₂ => ?_) fun _ _ h' => h')
    simp only [List.forIn_cons, List.forIn_nil, if_true]
    refine wpAny_bind (wpAny_bind (wpAny_bind (wpAny_mono h₂ (fun b s₃ h₃ => ?_) fun _ _ h' => h')))
    refine wpAny_pure (wpAny_pure ?_)
    cases b with
    | false => exact wpAny_pure ⟨rfl, h₃⟩
    | true =>
      exact wpAny_bind (wpAny_bind (wpAny_mono h₃ (fun x s₃ h₃ => wpAny_bind (wpAny_mono h₃ (fun _ s₄ h₄ => wpAny_pure (wpAny_pure ⟨rfl, h₄⟩)) fun _ _ h' => h')) fun _ _ h' => h'))
end
abbrev TTB := Shared → Hp → List Addr → TT
def tCompF (fv : List (Str × Nat)) (tc : TTB) (te : TEB) (σ : St) (J : It) (H1 : Hp) (Q : VK) : Prop :=
  ∀ D, H1 D = none → ∃ W : Nat → Nat → List V → Hp → Prop, (∃ m, W 0 m [] (upd H1 D (.lst []))) ∧
    ∀ i m ys H, W i m ys H → H D = some (.lst ys) ∧ ((J.stop i H ∧ Q (.ref D) H) ∨ (J.go i H ∧ ys.length < sizeLine ∧ ∀ x H', J.yld i H x H' →
      ∀ s₀ H₀ ex, tc s₀ H₀ ex (blkS fv σ (some x)) H' fun b H2 => match b with
        | false => ∃ m', m' < m ∧ W (i + 1) m' ys H2
        | true => te s₀ H₀ ex (blkS fv σ (some x)) H2 fun v H2 => H2 D = some (.lst ys) ∧ ∃ m', m' < m ∧ W (i + 1) m' (ys ++ [v]) (upd H2 D (.lst (ys ++ [v])))))
def tCompFt (wi : TI) (fv : List (Str × Nat)) (tc : TTB) (te : TEB) : TE := fun σ H Q => wi σ H fun J H1 => tCompF fv tc te σ J H1 Q
section
variable {X : Cx} {x : Str} {fv : List (Str × Nat)} {scope : Scope} {cl : List (Str × Addr)} {pins : List (Addr × Obj)} {σ : St} {px pos : Pos} {iter elt cnd : Expr} {te : TEB} {tc : TTB}
theorem comp_blockF {s2 : Shared} {H2 : Hp} {it : Addr} {fp : List Addr} {tn : Nat → Heap → Prop} {J : It} (ok : CompOk X x fv scope cl) (hc : X.calm = true)
    (he : ∀ s₀ H₀ ex, PE (blk X (x :: fv.map (·.1)) scope cl s₀ H₀ ex NoX) elt (te s₀ H₀ ex)) (hcd : ∀ s₀ H₀ ex, PT (blk X (x :: fv.map (·.1)) scope cl s₀ H₀ ex NoX) cnd (tc s₀ H₀ ex)) (I2 : Inv X pins σ H2 s2) (T : Turn X.prog X.w X.K (.Name x px) J fp it tn) (st2 : tn 0 s2.heap) (f2 : ∀ b ∈ fp, FpOk X pins H2 b)
    {Qv : VK} (hQ : tCompF fv tc te σ J H2 Qv) {RR : Value → Addr → Result → Shared → Prop}
    (hRR : ∀ D C m' H' s', Inv X pins σ H' s' → s'.heap.Ns C m' → FpOk X pins H' C → Qv (.ref D) H' → RR (.ref D) C (.ok .next) s') :
    wpAny (model X.prog X.w) X.A (newList []) (fun acc s₃ => wpAny (model X.prog X.w) X.A (newFunctionEnv scope X.env.globals cl [] X.env.qual none .none (some X.env)) (fun cenv s₄ =>
      codeAny (model X.prog X.w) X.A (.compStart (.ListComp elt [⟨.Name x px, iter, [cnd], 0⟩] scope pos) 0 (.ref it) acc { cenv with scope := relabel scope X.env }) (RR acc cenv.locals) s₄) X.xe s₃) X.xe s2 := by
  refine wpAny_newObj_type (wpAny_newFunctionEnv ok.nocell (by intro y hy; simp at hy) (fun h₁ hns₁ hsb₁ => ?_) ok.kind)
  dsimp only at hns₁ hsb₁ ⊢
  have I3 : Inv X pins σ (upd H2 s2.heap.objs.size (.lst [])) { s2 with heap := s2.heap.push { cls := .type "list", dict := none, data := .seq ([] : List Value).toArray } } :=
    I2.laid (t' := s2.toks) (fun b o e => Heap.get?_push_of_some _ e) (Nat.le_refl _) ⟨Nat.zero_le _, [], 0, .nil, Heap.get?_push_size _ rfl⟩
  have hD : H2 s2.heap.objs.size = none := I2.hok.fresh (Nat.le_refl _)
  generalize hs3 : ({ s2 with heap := s2.heap.push { cls := .type "list", dict := none, data := .seq ([] : List Value).toArray } } : Shared) = s3 at I3
  have eh : s2.heap.push { cls := .type "list", dict := none, data := .seq ([] : List Value).toArray } = s3.heap := by rw [← hs3]
  rw [eh] at hns₁ hsb₁ ⊢
  have fl : ∀ b ∈ fp, b < s2.heap.objs.size := fun b hb => by
    obtain ⟨o, e, _⟩ := T.obj _ _ st2 b hb
    exact Heap.lt_size e
  have sz3 : s3.heap.objs.size = s2.heap.objs.size + 1 := by rw [← eh, Heap.size_push]
  have f3 : ∀ b ∈ fp, FpOk X pins (upd H2 s2.heap.objs.size (.lst [])) b := fun b hb => ⟨by rw [upd_ne (Nat.ne_of_lt (fl b hb))]; exact (f2 b hb).1, (f2 b hb).2⟩
  have fl3 : ∀ b ∈ fp, b < s3.heap.objs.size := fun b hb => by rw [sz3]; exact Nat.lt_succ_of_lt (fl b hb)
  have old3 : ∀ b o, s3.heap.get? b = some o → h₁.get? b = some o := fun b o e => hsb₁.extBut b o (Nat.ne_of_lt (Heap.lt_size e)) (Heap.get?_push_of_some _ e)
  have old2 : ∀ b o, s2.heap.get? b = some o → h₁.get? b = some o := fun b o e => old3 b o (by rw [← eh]; exact Heap.get?_push_of_some _ e)
  have st1 : tn 0 h₁ := T.keep _ _ _ st2 fun b _ o e => old2 b o e
  have IY := blk_start (E := NoX) I3 ok f3 fl3 hns₁ old3 (s3.toks + ([] : List (Str × Value)).length)
  obtain ⟨W, ⟨m0, w0⟩, turn⟩ := hQ s2.heap.objs.size hD
  have loop : ∀ s4 : Shared, s4 = { s3 with heap := h₁, toks := s3.toks + ([] : List (Str × Value)).length } →
      codeAny (model X.prog X.w) X.A (.compLoop (.ListComp elt [⟨.Name x px, iter, [cnd], 0⟩] scope pos) 0 (.ref it) (.ref s2.heap.objs.size) (compEnvC scope cl s3.heap.objs.size X.env)) (RR (.ref s2.heap.objs.size) s3.heap.objs.size) s4 := by
    rintro s4 rfl
    have stat : ∀ {H' : Hp}, (∀ b ∈ fp, H' b = none) → ∀ b ∈ fp, FpOk (blk X (x :: fv.map (·.1)) scope cl s3 (upd H2 s2.heap.objs.size (.lst [])) fp NoX) [] H' b := fun hn b hb =>
      ⟨hn b hb, Nat.ne_of_lt (fl3 b hb), fun z => by
        rcases List.mem_cons.mp (I3.stkSub b z) with e | e
        · exact (f2 b hb).2.1 e
        · exact (f2 b hb).2.2.1 e, .inl hb, fun y c h => (f2 b hb).2.2.2.2.1 y c (ok.sub h), fun p hp => absurd (show p ∈ ([] : List (Addr × Obj)) from hp) (by simp)⟩
    refine codeAny_compLoop_F (fun n s' => ∃ i o H' ys, Inv (blk X (x :: fv.map (·.1)) scope cl s3 (upd H2 s2.heap.objs.size (.lst [])) fp NoX) [] (blkS fv σ o) H' s' ∧ tn i s'.heap ∧ (∀ b ∈ fp, H' b = none) ∧ W i n ys H') ?_ m0
      ⟨0, none, _, [], IY, st1, fun b hb => (f3 b hb).1, w0⟩
    rintro n s5 ⟨i, o, H5, ys, I5, st5, fr5, w5⟩
    obtain ⟨hD5, w5⟩ := turn i n ys H5 w5
    rcases w5 with ⟨stop, qn⟩ | ⟨go, hsz, step⟩
    · refine wpAny_mono (T.done (blk X (x :: fv.map (·.1)) scope cl s3 (upd H2 s2.heap.objs.size (.lst [])) fp NoX) rfl rfl rfl hc i [] s5 _ H5 NoX I5 (stat fr5) st5 stop) (fun r s6 ⟨hr, I6⟩ => ?_) fun _ _ z => z.elim
      subst hr
      obtain ⟨m', hm', _⟩ := I6.loc
      have I7 : Inv X pins σ H5 s6 := I3.call' (ch := fp) (by rw [I6.os]) I6.base I6.hok I6.bare fun b hb => ⟨(f2 b hb).2.2.2.1, (f2 b hb).2.1, (f2 b hb).2.2.2.2.1, (f2 b hb).2.2.2.2.2⟩
      exact hRR _ _ m' H5 s6 I7 hm' (I3.fpOk (Nat.le_refl _) I6.free) qn
    · refine wpAny_mono (T.item (blk X (x :: fv.map (·.1)) scope cl s3 (upd H2 s2.heap.objs.size (.lst [])) fp NoX) rfl rfl rfl hc i [] s5 _ H5 NoX I5 (stat fr5) st5 go) (fun r s6 ⟨u, hr, h6⟩ => ?_) fun _ _ z => z.elim
      subst hr
      refine wpAny_mono h6 (fun _ s7 ⟨v, H7, I7, r7, y7, st7, fr7⟩ => ?_) fun _ _ z => z.elim
      have I7' := I7.pinned (stat fr7) (T.obj _ _ st7)
      have hx : Loc (blk X (x :: fv.map (·.1)) scope cl s3 (upd H2 s2.heap.objs.size (.lst [])) fp NoX).env.scope x := .inl (lookup_relabel_local ok.here)
      refine wpAny_assign_Name (store_ok (X := blk X (x :: fv.map (·.1)) scope cl s3 (upd H2 s2.heap.objs.size (.lst [])) fp NoX) (i := 0) I7' ok.nd rfl hx r7 (fun s8 I8 => ?_) (.inr (lookup_relabel_local ok.here)))
      refine wpAny_mono (hcd s3 _ fp _ s8 (blkS fv σ (some v)) H7 _ I8 (step v H7 y7 _ _ _)) (fun bb s8' ⟨H8, I8', q8⟩ => ?_) fun _ _ z => z.elim
      cases bb with
      | false =>
        obtain ⟨m', hm', w9⟩ := q8
        refine ⟨m', hm', i + 1, some v, _, ys, I8'.unpinned, T.keep _ _ _ st7 fun b hb o e => (I8'.pin (b, o) (List.mem_append_right _ (List.mem_append_right _ (mem_pinsAt hb e)))).1, fun b hb => ?_, w9⟩
        obtain ⟨o, e, d⟩ := T.obj _ _ st7 b hb
        exact (I8'.pin (b, o) (List.mem_append_right _ (List.mem_append_right _ (mem_pinsAt hb e)))).2.1
      | true =>
        refine wpAny_mono (he s3 _ fp _ s8' (blkS fv σ (some v)) H8 _ I8' q8) (fun u9 s9 ⟨v9, H9, I9, r9, hD9, m', hm', w9⟩ => ?_) fun _ _ z => z.elim
        refine wpAny_mono (mt_append (X := blk X (x :: fv.map (·.1)) scope cl s3 (upd H2 s2.heap.objs.size (.lst [])) fp NoX) _ s9 _ H9 (.ref s2.heap.objs.size) [v9] (.ref s2.heap.objs.size) [u9]
          (fun _ H10 => H10 = upd H9 s2.heap.objs.size (.lst (ys ++ [v9]))) I9 rfl (.cons r9 .nil) ⟨_, ys, v9, rfl, rfl, hD9, hsz, rfl⟩) (fun _ s10 ⟨_, H10, I10, _, e10⟩ => ?_) fun _ _ z => z.elim
        subst e10
        refine ⟨m', hm', i + 1, some v, _, ys ++ [v9], I10.unpinned, T.keep _ _ _ st7 fun b hb o e => (I10.pin (b, o) (List.mem_append_right _ (List.mem_append_right _ (mem_pinsAt hb e)))).1, fun b hb => ?_, w9⟩
        obtain ⟨o, e, d⟩ := T.obj _ _ st7 b hb
        exact (I10.pin (b, o) (List.mem_append_right _ (List.mem_append_right _ (mem_pinsAt hb e)))).2.1
  exact codeAny_compStart_list (loop _ (by rw [← hs3])) (T.self _ 0 _ _ _ st1 (loop _ (by rw [← hs3])))
/-- [elt for x in iter] as a value -/
theorem pe_compF {wi : TI} (ok : CompOk X x fv scope cl) (hc : X.calm = true) (hi : PI X (.Name x px) iter wi) (he : ∀ s₀ H₀ ex, PE (blk X (x :: fv.map (·.1)) scope cl s₀ H₀ ex NoX) elt (te s₀ H₀ ex)) (hcd : ∀ s₀ H₀ ex, PT (blk X (x :: fv.map (·.1)) scope cl s₀ H₀ ex NoX) cnd (tc s₀ H₀ ex))
    (hs : ∀ v, foldedSetIterable iter X.env v = pure v := by intro _; rfl) : PE X (.ListComp elt [⟨.Name x px, iter, [cnd], 0⟩] scope pos) (tCompFt wi fv tc te) := by
  intro pins s σ H Q I h
  rw [eval_ListComp]
  refine wpAny_comprehension_free (use := none) rfl hs ok.clos ok.kind ok.names (thn (hi pins s σ H _ I h) fun v s1 h1 => thn h1 fun itv s2 h2 => ?_)
  obtain ⟨it, fp, tn, J, H2, rfl, I2, T, st2, f2, hQ⟩ := h2
  refine comp_blockF (RR := fun acc C => compPost (model X.prog X.w) X.A X.xe none (EP X pins σ Q) acc C) ok hc he hcd I2 T st2 f2 hQ ?_
  intro D C m' H' s' I' hn fC q
  exact ⟨m', hn, fun h' hs' => ⟨.ref D, H', I'.turned (t' := s'.toks) (fun b o hb e => hs'.extBut b o hb e) fC.1 fC.2.1 fC.2.2.2.1 fC.2.2.2.2.1 fC.2.2.2.2.2, rfl, q⟩⟩
end
/-! == and != of two lists of the very same things -/
section
variable {X : Cx}
def seenV : V → Bool
  | .ref _ => true
  | v => flatV v
theorem eqAt_same {A : Around} {s : Shared} {x : V} {u v : Value} (r1 : RelV x u) (r2 : RelV x v) (f : seenV x = true) (e : flatV x = true → eqV x x = true) : SeqAt.EqAt A s u v true := by
  by_cases q : flatV x = true
  · have h := eqAt_V (A := A) (s := s) r1 r2 q q
    rw [e q] at h
    exact h
  · cases x with
    | ref a =>
      cases (show u = Value.ref a from r1)
      cases (show v = Value.ref a from r2)
      exact SeqAt.EqAt.same _
    | _ => exact absurd f q
def rEqS (K : PySem.W.Frag) (neg : Bool) : R2 := fun x y H Q => ∃ a b xs, x = .ref a ∧ y = .ref b ∧ SqL K H a xs ∧ SqL K H b xs ∧ xs.all seenV = true ∧ (∀ x ∈ xs, flatV x = true → eqV x x = true) ∧ Q (.bl (!neg)) H
theorem op_neS (hu : X.A.units < cLine) : OpR X (compareOp .NotEq) (rEqS X.K true) := by
  intro pins s σ H x y v u Q I rx ry h
  obtain ⟨a, b, xs, rfl, rfl, h1, h2, f, er, q⟩ := h
  cases rx
  cases ry
  obtain ⟨us, r1, p1, _⟩ := I.list h1
  obtain ⟨ws, r2, p2, _⟩ := I.list h2
  have l1 := r1.length
  have l2 := r2.length
  refine SeqAt.RcNeAt.lists (e := fun _ => true) p1.isList p2.isList (by simp only [List.size_toArray] <;> omega) hu (fun j k1 k2 => ?_) _ _ _ _ ⟨.bl false, H, I, by simp [RelV], q⟩
  have j1 : j < us.length := by simpa using k1
  have j2 : j < ws.length := by simpa using k2
  have j0 : j < xs.length := by omega
  obtain ⟨u', eu, ru⟩ := r1.get (List.getElem?_eq_getElem j0)
  obtain ⟨w', ew, rw'⟩ := r2.get (List.getElem?_eq_getElem j0)
  have q1 : us.toArray[j] = u' := by
    have : us[j] = u' := by rw [List.getElem?_eq_getElem j1] at eu; exact Option.some.inj eu
    simpa using this
  have q2 : ws.toArray[j] = w' := by
    have : ws[j] = w' := by rw [List.getElem?_eq_getElem j2] at ew; exact Option.some.inj ew
    simpa using this
  rw [q1, q2]
  exact eqAt_same ru rw' (all_get f (List.getElem?_eq_getElem j0)) (er _ (List.getElem_mem j0))
end
end L2

namespace L2
open PySem PySem.Spec PyProof.Rows
/-! ### enumerate(a list), walked by two names -/
section
variable {X : Cx} {pins : List (Addr × Obj)} {σ : St} {H : Hp} {s : Shared} {h' : Heap}
/-- two untracked records of ours have turned -/
theorem Inv.turned2 {t' : Nat} {x y : Addr} (I : Inv X pins σ H s) (k : ∀ b o, b ≠ x → b ≠ y → s.heap.get? b = some o → h'.get? b = some o) (fx : FpOk X pins H x) (fy : FpOk X pins H y) : Inv X pins σ H { s with heap := h', toks := t' } := by
  have nx : ∀ b u, H b = some u → b ≠ x := fun b u e z => by rw [z, fx.1] at e; cases e
  have ny : ∀ b u, H b = some u → b ≠ y := fun b u e z => by rw [z, fy.1] at e; cases e
  have kk : ∀ b o, b ∉ [x, y] → s.heap.get? b = some o → h'.get? b = some o := fun b o hc e => k b o (fun z => hc (by simp [z])) (fun z => hc (by simp [z])) e
  refine I.step (g' := s.gens) (d' := s.drawn) (ch := [x, y]) (fun b hb => ?_) (fun b o _ _ hc e _ => kk b o hc e) (fun b o _ _ hc e _ => ⟨o.slots, kk b o hc e⟩) (fun _ _ _ _ n => n)
    (fun b o hc e => ⟨o, kk b o hc e⟩) (fun _ _ e => e) (fun _ _ _ e => e) (fun b ps e => ⟨#[], by rw [e]; simp⟩) (fun m hm => ?_) (fun b u e => ?_) I.bare
  · have e : b = x ∨ b = y := by simpa using hb
    rcases e with rfl | rfl
    · exact ⟨fx.2.2.2.1, fx.2.1, fx.2.2.2.2.1, fx.2.2.2.2.2⟩
    · exact ⟨fy.2.2.2.1, fy.2.1, fy.2.2.2.2.1, fy.2.2.2.2.2⟩
  · obtain ⟨o, es, ep, ho, r⟩ := hm
    exact ⟨o, es, ep, k _ o (Ne.symm fx.2.1) (Ne.symm fy.2.1) ho, r⟩
  · refine (I.hok b u e).stay (fun c v hc q => ?_) (fun _ q => q) fun _ _ q => q
    rcases hc with z | z
    · subst z; exact k c v (nx c u e) (ny c u e) q
    · exact k c v (nx c _ z) (ny c _ z) q
/-- an object of ours that lies there is tracked from now on -/
theorem Inv.adopt {T : Addr} {o : HO} (I : Inv X pins σ H s) (f : FpOk X pins H T) (new : ObjOk X.prog X.w (upd H T o) s.heap T o) : Inv X pins σ (upd H T o) s := by
  have nT : ∀ b u, H b = some u → b ≠ T := fun b u e z => by rw [z, f.1] at e; cases e
  have up : ∀ b u, H b = some u → upd H T o b = some u := fun b u e => by rw [upd_ne (nT b u e)]; exact e
  refine I.step (h' := s.heap) (H' := upd H T o) (g' := s.gens) (d' := s.drawn) (t' := s.toks) (ch := [T]) (fun b hb => ?_) (fun b o _ _ _ e _ => e) (fun b o _ _ _ e _ => ⟨o.slots, e⟩) (fun b o hc _ n => by rw [upd_ne (fun z => hc (by simp [z]))]; exact n)
    (fun b o _ e => ⟨o, e⟩) (fun b xs e => up _ _ e) (fun b o u e => up _ _ e) (fun b ps e => ⟨#[], by rw [up _ _ e]; simp⟩) (fun m hm => hm) (fun b u e => ?_) I.bare
  · have e : b = T := by simpa using hb
    subst e
    exact ⟨f.2.2.2.1, f.2.1, f.2.2.2.2.1, f.2.2.2.2.2⟩
  · by_cases hb : b = T
    · subst hb; rw [upd_same] at e; cases e; exact new
    · rw [upd_ne hb] at e
      exact (I.hok b u e).stay (fun c v _ q => q) (fun c q => up _ _ q) fun c xs q => up _ _ q
end
/-- (0, x0), (1, x1), .. of the list at a -/
def Ite (K : PySem.W.Frag) (a : Addr) : It :=
  ⟨fun i H => ∃ xs x, SqL K H a xs ∧ xs[i]? = some x, fun i H v H' => ∃ T x, v = .ref T ∧ H T = none ∧ H' = upd H T (.tup [.int (i : Nat), x]) ∧ ∀ xs, SqL K H a xs → xs[i]? = some x, fun i H => ∃ xs, SqL K H a xs ∧ xs.length ≤ i⟩
theorem turn_enum {P : Program} {w : World} {K : PySem.W.Frag} {elts : List Expr} {k : Nat} {pos : Pos} (a e it : Addr) (hne : e ≠ it) :
    Turn P w K (.Tuple elts k pos) (Ite K a) [e, it] e (fun i h => (∃ old, IsEnum h e it ((i : Nat) : Int) old) ∧ h.IsListIter it a i) where
  mem := by simp
  obj := fun i h st b hb => by
    obtain ⟨⟨old, he⟩, hit⟩ := st
    have q : b = e ∨ b = it := by simpa using hb
    rcases q with rfl | rfl
    · exact ⟨_, he, fun v z => by
        have z' : Data.fields _ = Data.cell v := z
        cases z'⟩
    · obtain ⟨o, e, c, d⟩ := hit
      exact ⟨o, e, fun v z => by rw [d] at z; cases z⟩
  keep := fun i h h' st kk => ⟨let ⟨old, he⟩ := st.1; ⟨old, kk e (by simp) _ he⟩, st.2.at fun o q => kk it (by simp) o q⟩
  item := by
    intro X hP hw hK hc i pins s σ H E I hf st hg
    subst hP hw hK
    obtain ⟨⟨old, he⟩, hit⟩ := st
    obtain ⟨xs, x, hq, hx⟩ := hg
    obtain ⟨its, rv, p, hz⟩ := I.list hq
    obtain ⟨u, hu, ru⟩ := rv.get hx
    have fe := hf e (by simp)
    have fi := hf it (by simp)
    have le : e < s.heap.objs.size := Heap.lt_size he
    have li : it < s.heap.objs.size := by obtain ⟨o, q, _⟩ := id hit; exact Heap.lt_size q
    have fT : FpOk X pins H s.heap.objs.size := I.fpOk (Nat.le_refl _) (I.hok.fresh (Nat.le_refl _))
    refine wpAny_pyNext_enum_item he hit p.isList (x := u) (by simpa using hu) hne fun h1 ho hit1 hT hsz hk => ?_
    refine ⟨_, rfl, wpAny_letOwnedTupleGo_enum ho fun h2 he2 hs2 => ?_⟩
    replace hs2 : Heap.SameBut e h1 h2 := hs2
    have I1 : Inv X pins σ H { s with heap := h2, toks := s.toks + 1 } := I.turned2 (t' := s.toks + 1) (fun b o n1 n2 q => (hs2.2 b n1).trans (hk b o n1 n2 q)) fe fi
    have gT : h2.get? s.heap.objs.size = some { cls := .type "tuple", data := .seq #[.int i s.toks, u] } := (hs2.2 _ (Nat.ne_of_gt le)).trans hT
    have I2 : Inv X pins σ (upd H s.heap.objs.size (.tup [.int (i : Nat), x])) { s with heap := h2, toks := s.toks + 1 } :=
      I1.adopt fT ⟨(by show 2 ≤ sizeLine; decide), [.int i s.toks, u], .cons ⟨_, rfl⟩ (.cons ru .nil), ⟨_, gT, rfl, _, rfl⟩⟩
    refine ⟨.ref s.heap.objs.size, _, I2, rfl, ⟨_, x, rfl, fT.1, rfl, fun ys hy => by rw [I.list_inj hy hq]; exact hx⟩, ⟨⟨u, ?_⟩, ?_⟩, fun b hb => ?_⟩
    · have e1 : ((i + 1 : Nat) : Int) = (i : Int) + 1 := by push_cast; rfl
      rw [e1]; exact he2
    · exact hit1.at fun o q => (hs2.2 it (Ne.symm hne)).trans q
    · have q : b = e ∨ b = it := by simpa using hb
      rw [upd_ne (fun z => by rcases q with q | q; exact Nat.ne_of_lt le (q.symm.trans z); exact Nat.ne_of_lt li (q.symm.trans z))]
      exact (hf b hb).1
  done := by
    intro X hP hw hK hc i pins s σ H E I hf st hg
    subst hP hw hK
    obtain ⟨⟨old, he⟩, hit⟩ := st
    obtain ⟨xs, hq, hx⟩ := hg
    obtain ⟨its, rv, p, hz⟩ := I.list hq
    obtain ⟨f0, f1, f2, f3, f4, f5⟩ := hf it (by simp)
    have hl := rv.length
    exact wpAny_pyNext_enum_end (I.ok.hd hc) he hit p.isList (by simp; omega) fun h' eb => ⟨rfl, I.turned (t' := s.toks) (fun b o hb e => eb b o hb e) f0 f1 f3 f4 f5⟩
  self := fun _ _ _ _ _ st h => let ⟨_, he⟩ := st.1; wpAny_pyIter_enum he h
section
variable {X : Cx}
theorem bt_enumerate : bootBuiltins "enumerate" = some (.type "enumerate") := by decide +kernel
def iEnum (K : PySem.W.Frag) (ta : TA) : TI := fun σ H R => ta σ H fun vs H1 => ∃ a, vs = [.ref a] ∧ (∃ xs, SqL K H1 a xs) ∧ R (Ite K a) H1
theorem pi_enum {l : Expr} {ta : TA} {p pos tpos : Pos} {elts : List Expr} {k : Nat} (hg : Gl X "enumerate") (hm : X.mg "enumerate" = none) (ha : PA X [l] ta) (hs : starEach [l] X.env = [(false, eval l X.env)] := by rfl) :
    PI X (.Tuple elts k tpos) (.Call (.Name "enumerate" p) [l] [] pos) (iEnum X.K ta) := by
  intro pins s σ H R I h
  refine Call_ (ld_blt I hg hm bt_enumerate (PyProof.Rows.callWith_type1 (thn (ha pos pins s σ H _ I h) fun us s1 ⟨vs, H1, I1, r1, q1⟩ => ?_) hs rfl))
  obtain ⟨a, e, ⟨xs, hq⟩, q⟩ := q1
  subst e
  cases r1 with
  | cons r rr =>
    cases rr
    cases r
    obtain ⟨its, rv, pl, hz⟩ := I1.list hq
    refine call_enumerate_list pl.isList fun h' he hit hsz hk => ?_
    refine wpAny_pyIter_enum he ?_
    refine ⟨s1.heap.objs.size + 1, [s1.heap.objs.size + 1, s1.heap.objs.size], _, _, H1, rfl, I1.kept (t' := s1.toks) fun b o e => hk b o e, turn_enum a _ _ (Nat.ne_of_gt (Nat.lt_succ_self _)), ⟨⟨_, he⟩, hit⟩, fun b hb => ?_, q⟩
    have e : b = s1.heap.objs.size + 1 ∨ b = s1.heap.objs.size := by simpa using hb
    have e2 : s1.heap.objs.size ≤ b := by rcases e with e | e; exact e ▸ Nat.le_succ _; exact e ▸ Nat.le_refl _
    exact I1.fpOk e2 (I1.hok.fresh e2)
end
theorem for_enum {K : PySem.W.Frag} {a : Addr} {xs : List V} {g : TG} {tb : TS} {D : Ends} {σ : St} {H : Hp} (Pv : Nat → St → Hp → Prop) (h0 : Pv 0 σ H) (hl : ∀ i σ H, i ≤ xs.length → Pv i σ H → SqL K H a xs)
    (hs : ∀ i x σ H, xs[i]? = some x → Pv i σ H → ∀ T, H T = none → g (.ref T) σ (upd H T (.tup [nat i, x])) fun σ2 H2 => tb { D with nx := Pv (i + 1), ct := Pv (i + 1), bk := D.nx } σ2 H2) (hd : ∀ σ H, Pv xs.length σ H → D.nx σ H) :
    ∃ W : Nat → Nat → St → Hp → Prop, (∃ m, W 0 m σ H) ∧ ∀ i m σ H, W i m σ H →
      ((Ite K a).stop i H ∧ D.nx σ H) ∨ ((Ite K a).go i H ∧ ∃ N : St → Hp → Prop, (∀ σ' H', N σ' H' → ∃ m', m' < m ∧ W (i + 1) m' σ' H') ∧ ∀ x H', (Ite K a).yld i H x H' → g x σ H' fun σ2 H2 => tb { D with nx := N, ct := N, bk := D.nx } σ2 H2) := by
  refine ⟨fun i m σ H => m = xs.length - i ∧ i ≤ xs.length ∧ Pv i σ H, ⟨xs.length, by simp, Nat.zero_le _, h0⟩, ?_⟩
  rintro i m σ H ⟨rfl, hi, p⟩
  have q := hl i σ H hi p
  by_cases hlt : i < xs.length
  · refine .inr ⟨⟨xs, xs[i], q, by simp [hlt]⟩, Pv (i + 1), fun σ' H' p' => ⟨xs.length - (i + 1), by omega, rfl, hlt, p'⟩, fun x H' y => ?_⟩
    obtain ⟨T, v, rfl, hT, rfl, hv⟩ := y
    exact hs i v σ H (hv xs q) p T hT
  · have : i = xs.length := by omega
    subst this
    exact .inl ⟨⟨xs, q, Nat.le_refl _⟩, hd σ H p⟩
end L2

/-! a flat tuple in a list of flat tuples -/
namespace L2
open PySem PySem.Spec PyProof.Rows
section
variable {X : Cx}
end
end L2
namespace L2
open PySem PySem.Spec PyProof.Rows
section
variable {X : Cx} {x : Str} {C : Addr} {k j : Nat} {ps : List Str} {sp : Sp} {CX : CXT} {p pos : Pos}
end
end L2

/-! set(a list of ints), its len -/
namespace L2
open PySem PySem.Spec PyProof.Rows
section
variable {X : Cx}
theorem bt_set : bootBuiltins "set" = some (.type "set") := by decide +kernel
end
end L2

/-! the table of a set of small ints: what is laid where -/
namespace L2
open PySem
abbrev Rise (xs : List Nat) : Prop := xs.Pairwise (· < ·)
theorem Rise.at_ {xs : List Nat} (h : Rise xs) {i k : Nat} (hk : k < xs.length) (hi : i < k) : xs[i]'(Nat.lt_trans hi hk) < xs[k] := List.pairwise_iff_getElem.mp h i k _ hk hi
theorem below_go {xs : Array Nat} {j : Nat} (h : Rise xs.toList) : ∀ (fuel lo hi : Nat), hi - lo ≤ fuel → lo ≤ hi → hi ≤ xs.size → (∀ k, k < lo → xs.getD k j < j) → (∀ k, hi ≤ k → k < xs.size → ¬ xs.getD k j < j) →
    lo ≤ SetTable.below.go xs j fuel lo hi ∧ SetTable.below.go xs j fuel lo hi ≤ hi ∧ (∀ k, k < SetTable.below.go xs j fuel lo hi → xs.getD k j < j) ∧ ∀ k, SetTable.below.go xs j fuel lo hi ≤ k → k < xs.size → ¬ xs.getD k j < j
  | 0, lo, hi, hf, hlh, hhs, h1, h2 => by
    have e : lo = hi := by omega
    subst e
    exact ⟨Nat.le_refl _, Nat.le_refl _, h1, h2⟩
  | fuel + 1, lo, hi, hf, hlh, hhs, h1, h2 => by
    unfold SetTable.below.go
    by_cases c : lo < hi
    · rw [if_pos c]
      have m1 : lo ≤ (lo + hi) / 2 := by omega
      have m2 : (lo + hi) / 2 < hi := by omega
      have gd : ∀ k (hk : k < xs.size), xs.getD k j = xs.toList[k]'(by rw [Array.length_toList]; exact hk) := fun k hk => by
        rw [Array.getD_eq_getD_getElem?, Array.getElem?_eq_getElem hk]; simp
      by_cases q : xs.getD ((lo + hi) / 2) j < j
      · simp only [q, if_true]
        have up : ∀ k, k < (lo + hi) / 2 + 1 → xs.getD k j < j := fun k hk => by
          by_cases z : k = (lo + hi) / 2
          · rw [z]; exact q
          · have hk' : k < (lo + hi) / 2 := by omega
            rw [gd k (by omega)]
            rw [gd _ (by omega)] at q
            exact Nat.lt_trans (h.at_ (by rw [Array.length_toList]; omega) hk') q
        obtain ⟨a, b, d, e⟩ := below_go h fuel ((lo + hi) / 2 + 1) hi (by omega) (by omega) hhs up h2
        exact ⟨by omega, b, d, e⟩
      · simp only [q, if_false]
        have up : ∀ k, (lo + hi) / 2 ≤ k → k < xs.size → ¬ xs.getD k j < j := fun k hk hs => by
          by_cases z : k = (lo + hi) / 2
          · rw [z]; exact q
          · have hk' : (lo + hi) / 2 < k := by omega
            rw [gd k hs]
            rw [gd _ (by omega)] at q
            have := h.at_ (i := (lo + hi) / 2) (k := k) (by rw [Array.length_toList]; exact hs) hk'
            omega
        obtain ⟨a, b, d, e⟩ := below_go h fuel lo ((lo + hi) / 2) (by omega) (by omega) (by omega) h1 up
        exact ⟨a, by omega, d, e⟩
    · rw [if_neg c]
      have e : lo = hi := by omega
      subst e
      exact ⟨Nat.le_refl _, Nat.le_refl _, h1, h2⟩
/-- where j stands or would stand among rising places -/
theorem below_of {xs : Array Nat} {j : Nat} (h : Rise xs.toList) : SetTable.below xs j ≤ xs.size ∧ (∀ k, k < SetTable.below xs j → xs.getD k j < j) ∧ ∀ k, SetTable.below xs j ≤ k → k < xs.size → ¬ xs.getD k j < j := by
  obtain ⟨_, b, c, d⟩ := below_go (j := j) h xs.size 0 xs.size (by omega) (Nat.zero_le _) (Nat.le_refl _) (fun k hk => absurd hk (Nat.not_lt_zero _)) (fun k hk hs => by omega)
  exact ⟨b, c, d⟩
theorem getD_in {xs : Array Nat} {k d : Nat} (hk : k < xs.size) : xs.getD k d = xs[k] := by rw [Array.getD_eq_getD_getElem?, Array.getElem?_eq_getElem hk]; rfl
/-- put keeps them rising -/
theorem insert_rise {xs : Array Nat} {j : Nat} (h : Rise xs.toList) (nj : j ∉ xs.toList) : Rise (SetTable.insertAt xs (SetTable.below xs j) j).toList := by
  obtain ⟨b, c, d⟩ := below_of (j := j) h
  rw [SetTable.toList_insertAt]
  have ht : ∀ y ∈ xs.toList.take (SetTable.below xs j), y < j := fun y hy => by
    obtain ⟨k, hk⟩ := List.getElem?_of_mem hy
    have lk := (List.getElem?_eq_some_iff.mp hk).1
    rw [List.length_take, Array.length_toList] at lk
    rw [List.getElem?_take, if_pos (by omega)] at hk
    have hs : k < xs.size := by omega
    have := c k (by omega)
    rw [getD_in hs] at this
    rw [Array.getElem?_toList, Array.getElem?_eq_getElem hs] at hk
    rw [← Option.some.inj hk]; exact this
  have hd : ∀ y ∈ xs.toList.drop (SetTable.below xs j), j < y := fun y hy => by
    obtain ⟨k, hk⟩ := List.getElem?_of_mem hy
    rw [List.getElem?_drop] at hk
    have lk := (List.getElem?_eq_some_iff.mp hk).1
    rw [Array.length_toList] at lk
    have := d (SetTable.below xs j + k) (by omega) lk
    rw [getD_in lk] at this
    rw [Array.getElem?_toList, Array.getElem?_eq_getElem lk] at hk
    have e := Option.some.inj hk
    have ne : y ≠ j := fun z => nj (z ▸ (List.mem_of_mem_drop hy))
    omega
  unfold Rise
  rw [List.pairwise_append]
  refine ⟨h.sublist (List.take_sublist _ _), List.pairwise_cons.mpr ⟨hd, h.sublist (List.drop_sublist _ _)⟩, fun a ha b hb => ?_⟩
  rcases List.mem_cons.mp hb with rfl | hb
  · exact ht a ha
  · exact Nat.lt_trans (ht a ha) (hd b hb)
/-- the next place at or behind a slot -/
theorem below_next {xs : Array Nat} (h : Rise xs.toList) {i : Nat} (hi : i < xs.size) : SetTable.below xs (xs[i] + 1) = i + 1 := by
  obtain ⟨b, c, d⟩ := below_of (j := xs[i] + 1) h
  generalize SetTable.below xs (xs[i] + 1) = r at b c d
  have up : i < r := by
    rcases Nat.lt_or_ge i r with z | z
    · exact z
    · have := d i z hi
      rw [getD_in hi] at this
      omega
  have dn : r ≤ i + 1 := by
    rcases Nat.lt_or_ge (i + 1) r with z | z
    · have hs : i + 1 < xs.size := by omega
      have := c (i + 1) z
      rw [getD_in hs] at this
      have lt := h.at_ (i := i) (k := i + 1) (by rw [Array.length_toList]; exact hs) (Nat.lt_succ_self i)
      simp only [Array.getElem_toList] at lt
      omega
    · exact z
  omega
theorem below_zero {xs : Array Nat} (h : Rise xs.toList) : SetTable.below xs 0 = 0 := by
  obtain ⟨b, c, d⟩ := below_of (j := 0) h
  rcases Nat.eq_zero_or_pos (SetTable.below xs 0) with z | z
  · exact z
  · exact absurd (c 0 z) (Nat.not_lt_zero _)
end L2

namespace L2
open PySem
/-! ### a clean table -/
/-- the slots that are looked at for a hash -/
def seenC (mask : Nat) : Nat → Nat → Nat → List Nat
  | 0, _, _ => []
  | fuel + 1, i, p => (List.range (SetTable.runEnd mask i + 1 - i)).map (fun k => i + k) ++ seenC mask fuel (SetTable.leap mask i p).1 (SetTable.leap mask i p).2
theorem freeC_some {mask : Nat} {owner : Array (Option Nat)} : ∀ (fuel i p j : Nat), SetTable.layClean.free mask owner fuel i p = some j → (owner.getD j (some 0)).isNone = true
  | 0, _, _, _, e => by cases e
  | fuel + 1, i, p, j, e => by
    unfold SetTable.layClean.free at e
    cases q : (List.range (SetTable.runEnd mask i + 1 - i)).find? fun k => (owner.getD (i + k) (some 0)).isNone with
    | some k =>
      rw [q] at e
      cases Option.some.inj e
      have := List.find?_some q
      exact this
    | none =>
      rw [q] at e
      exact freeC_some fuel _ _ j e
theorem freeC_none {mask : Nat} {owner : Array (Option Nat)} : ∀ (fuel i p : Nat), SetTable.layClean.free mask owner fuel i p = none → ∀ j ∈ seenC mask fuel i p, (owner.getD j (some 0)).isNone = false
  | 0, _, _, _ => fun j hj => by cases hj
  | fuel + 1, i, p, e => fun j hj => by
    unfold SetTable.layClean.free at e
    cases q : (List.range (SetTable.runEnd mask i + 1 - i)).find? fun k => (owner.getD (i + k) (some 0)).isNone with
    | some k => rw [q] at e; cases e
    | none =>
      rw [q] at e
      unfold seenC at hj
      rcases List.mem_append.mp hj with z | z
      · obtain ⟨k, hk, rfl⟩ := List.mem_map.mp z
        have := List.find?_eq_none.mp q k hk
        exact Bool.eq_false_iff.mpr this
      · exact freeC_none fuel _ _ e j z
/-- numbers as the bits of one -/
def bitsOf (l : List Nat) : Nat := l.foldl (fun m j => m ||| (1 <<< j)) 0
theorem bits_fold : ∀ (l : List Nat) (m i : Nat), (l.foldl (fun m j => m ||| (1 <<< j)) m).testBit i = true → m.testBit i = true ∨ i ∈ l
  | [], _, _, h => .inl h
  | a :: r, m, i, h => by
    rcases bits_fold r _ i h with z | z
    · rw [Nat.testBit_or, Bool.or_eq_true, Nat.one_shiftLeft, Nat.testBit_two_pow] at z
      rcases z with z | z
      · exact .inl z
      · exact .inr (by rw [of_decide_eq_true z]; exact List.mem_cons_self ..)
    · exact .inr (List.mem_cons_of_mem _ z)
def coverC (mask h : Nat) : Bool := Nat.beq (bitsOf (seenC mask (SetTable.turns mask) (h % (mask + 1)) h)) (2 ^ (mask + 1) - 1)
theorem coverC_mem {mask h : Nat} (cv : coverC mask h = true) {j : Nat} (hj : j < mask + 1) : j ∈ seenC mask (SetTable.turns mask) (h % (mask + 1)) h := by
  have e := Nat.eq_of_beq_eq_true cv
  have t : (bitsOf (seenC mask (SetTable.turns mask) (h % (mask + 1)) h)).testBit j = true := by rw [e, Nat.testBit_two_pow_sub_one]; exact decide_eq_true hj
  rcases bits_fold _ _ _ t with z | z
  · rw [Nat.zero_testBit] at z; cases z
  · exact z
theorem cover31 : ∀ h, h < 64 → coverC 31 h = true := by
  have : (List.range 64).all (coverC 31) = true := by decide +kernel
  exact fun h hh => List.all_eq_true.mp this h (List.mem_range.mpr hh)
theorem cover127 : ∀ h, h < 64 → coverC 127 h = true := by
  have : (List.range 64).all (coverC 127) = true := by decide +kernel
  exact fun h hh => List.all_eq_true.mp this h (List.mem_range.mpr hh)
theorem bits_nat {h : Nat} (hh : h < 64) : SetTable.bits (h : Int) = h := by
  unfold SetTable.bits
  have : ((h : Int) % (2 ^ 64 : Int)) = (h : Int) := Int.emod_eq_of_lt (by omega) (by omega)
  rw [this]; rfl
theorem fmS (v : Nat) (r : List (Option Nat)) : (some v :: r).filterMap id = v :: r.filterMap id := rfl
theorem fmN (r : List (Option Nat)) : (none :: r).filterMap id = r.filterMap id := rfl
/-- the owners told so far: each number below k once -/
structure Owned (mask : Nat) (owner : Array (Option Nat)) (k : Nat) : Prop where
  size : owner.size = mask + 1
  perm : (owner.toList.filterMap id).Perm (List.range k)
theorem Owned.free {mask k : Nat} {owner : Array (Option Nat)} (o : Owned mask owner k) (hk : k < mask + 1) {h : Nat} (cv : coverC mask h = true) : ∃ j, SetTable.layClean.free mask owner (SetTable.turns mask) (h % (mask + 1)) h = some j := by
  cases q : SetTable.layClean.free mask owner (SetTable.turns mask) (h % (mask + 1)) h with
  | some j => exact ⟨j, rfl⟩
  | none =>
    exfalso
    have all := freeC_none _ _ _ q
    have full : ∀ x ∈ owner.toList, x.isSome = true := fun x hx => by
      obtain ⟨i, hi⟩ := List.getElem?_of_mem hx
      have li := (List.getElem?_eq_some_iff.mp hi).1
      rw [Array.length_toList] at li
      have := all i (coverC_mem cv (by rw [← o.size]; exact li))
      rw [Array.getElem?_toList, Array.getElem?_eq_getElem li] at hi
      rw [Array.getD_eq_getD_getElem?, Array.getElem?_eq_getElem li] at this
      have e := Option.some.inj hi
      rw [← e]
      simp only [Option.getD_some] at this
      cases hz : owner[i] with
      | none => rw [hz] at this; cases this
      | some v => rfl
    have len : (owner.toList.filterMap id).length = owner.toList.length := by
      have : ∀ l : List (Option Nat), (∀ x ∈ l, x.isSome = true) → (l.filterMap id).length = l.length := by
        intro l
        induction l with
        | nil => intro _; rfl
        | cons a r ih =>
          intro hl
          cases a with
          | none => have := hl none (List.mem_cons_self ..); cases this
          | some v => rw [fmS, List.length_cons, List.length_cons, ih fun x hx => hl x (List.mem_cons_of_mem _ hx)]
      exact this _ full
    rw [o.perm.length_eq, List.length_range, Array.length_toList, o.size] at len
    omega
theorem fm_set : ∀ (l : List (Option Nat)) (j k : Nat), l[j]? = some none → ((l.set j (some k)).filterMap id).Perm (l.filterMap id ++ [k])
  | [], _, _, h => by cases h
  | a :: r, 0, k, h => by
    have : a = none := by simpa using h
    subst this
    rw [List.set_cons_zero, fmS, fmN]
    exact (List.perm_append_singleton k _).symm
  | a :: r, j + 1, k, h => by
    have ih := fm_set r j k (by simpa using h)
    rw [List.set_cons_succ]
    cases a with
    | none => rw [fmN, fmN]; exact ih
    | some v => rw [fmS, fmS]; exact ih.cons v
theorem Owned.put {mask k j : Nat} {owner : Array (Option Nat)} (o : Owned mask owner k) (hj : (owner.getD j (some 0)).isNone = true) : Owned mask (owner.setIfInBounds j (some k)) (k + 1) := by
  have lt : j < owner.size := by
    rcases Nat.lt_or_ge j owner.size with z | z
    · exact z
    · rw [Array.getD_eq_getD_getElem?, Array.getElem?_eq_none z] at hj; cases hj
  have e : owner[j]? = some none := by
    rw [Array.getD_eq_getD_getElem?, Array.getElem?_eq_getElem lt] at hj
    rw [Array.getElem?_eq_getElem lt]
    simp only [Option.getD_some] at hj
    cases hz : owner[j] with
    | none => rfl
    | some v => rw [hz] at hj; cases hj
  refine ⟨by rw [Array.size_setIfInBounds]; exact o.size, ?_⟩
  rw [Array.toList_setIfInBounds, List.range_succ]
  exact (fm_set owner.toList j k (by rw [Array.getElem?_toList]; exact e)).trans (o.perm.append_right _)
theorem Owned.start (mask : Nat) : Owned mask (Array.replicate (mask + 1) none) 0 := by
  refine ⟨Array.size_replicate, ?_⟩
  rw [Array.toList_replicate]
  have : ∀ n : Nat, (List.replicate n (none : Option Nat)).filterMap id = [] := fun n => by
    induction n with
    | zero => rfl
    | succ n ih => rw [List.replicate_succ, fmN]; exact ih
  rw [this]
  exact List.Perm.refl _
end L2

namespace L2
open PySem
/-! ### a table laid anew -/
def layStep (mask : Nat) (acc : Option (Array (Option Nat) × Nat)) (h : Int) : Option (Array (Option Nat) × Nat) :=
  acc.bind fun x => (SetTable.layClean.free mask x.1 (SetTable.turns mask) (SetTable.bits h % (mask + 1)) (SetTable.bits h)).bind fun j => some (x.1.setIfInBounds j (some x.2), x.2 + 1)
theorem lay_eq (mask : Nat) (hashes : Array Int) : SetTable.layClean mask hashes = (hashes.toList.foldl (layStep mask) (some (Array.replicate (mask + 1) none, 0))).map (·.1) := by
  unfold SetTable.layClean
  rw [← Array.foldl_toList]
  rfl
theorem lay_fold {mask : Nat} (cv : ∀ h, h < 64 → coverC mask h = true) : ∀ (l : List Int) (owner : Array (Option Nat)) (k : Nat), (∀ h ∈ l, ∃ m : Nat, h = (m : Int) ∧ m < 64) → Owned mask owner k → k + l.length ≤ mask →
    ∃ o', l.foldl (layStep mask) (some (owner, k)) = some (o', k + l.length) ∧ Owned mask o' (k + l.length)
  | [], owner, k, _, o, _ => ⟨owner, rfl, o⟩
  | a :: r, owner, k, hl, o, hk => by
    obtain ⟨m, rfl, hm⟩ := hl a (List.mem_cons_self ..)
    rw [List.length_cons] at hk
    obtain ⟨j, hj⟩ := o.free (by omega) (cv m hm)
    have st : layStep mask (some (owner, k)) (m : Int) = some (owner.setIfInBounds j (some k), k + 1) := by
      unfold layStep
      show (SetTable.layClean.free mask owner (SetTable.turns mask) (SetTable.bits (m : Int) % (mask + 1)) (SetTable.bits (m : Int))).bind _ = _
      rw [bits_nat hm, hj]
      rfl
    rw [List.foldl_cons, st]
    obtain ⟨o', e, ow⟩ := lay_fold cv r _ (k + 1) (fun h hh => hl h (List.mem_cons_of_mem _ hh)) (o.put (freeC_some _ _ _ _ hj)) (by omega)
    have ek : k + 1 + r.length = k + (r.length + 1) := by omega
    rw [ek] at e ow
    exact ⟨o', e, ow⟩
theorem own_list {mask k : Nat} {owner : Array (Option Nat)} (o : Owned mask owner k) : (List.range (mask + 1)).map (fun j => owner.getD j none) = owner.toList := by
  refine List.ext_getElem? fun i => ?_
  rw [List.getElem?_map, Array.getElem?_toList (xs := owner)]
  by_cases hi : i < mask + 1
  · have hs : i < owner.size := by rw [o.size]; exact hi
    rw [List.getElem?_range hi, Array.getElem?_eq_getElem hs]
    show some (owner.getD i none) = _
    rw [Array.getD_eq_getD_getElem?, Array.getElem?_eq_getElem hs]
    rfl
  · rw [List.getElem?_eq_none (by rw [List.length_range]; omega), Array.getElem?_eq_none (by rw [o.size]; omega)]
    rfl
def liveOf (mask : Nat) (owner : Array (Option Nat)) : List (Nat × Nat) := (List.range (mask + 1)).filterMap fun j => (owner.getD j none).map fun v => (j, v)
theorem live_rise (mask : Nat) (owner : Array (Option Nat)) : Rise ((liveOf mask owner).map (·.1)) := by
  unfold liveOf
  refine List.pairwise_map.mpr (List.pairwise_filterMap.mpr (List.pairwise_lt_range.imp fun {a b} hab x hx y hy => ?_))
  obtain ⟨v, _, rfl⟩ := Option.map_eq_some_iff.mp hx
  obtain ⟨u, _, rfl⟩ := Option.map_eq_some_iff.mp hy
  exact hab
theorem live_snd {mask k : Nat} {owner : Array (Option Nat)} (o : Owned mask owner k) : ((liveOf mask owner).map (·.2)).Perm (List.range k) := by
  have e : (liveOf mask owner).map (·.2) = owner.toList.filterMap id := by
    rw [← own_list o]
    unfold liveOf
    rw [List.map_filterMap, List.filterMap_map]
    congr 1
    funext j
    cases hz : owner.getD j none with
    | none => show none = owner.getD j none; rw [hz]
    | some v => show some v = owner.getD j none; rw [hz]
  rw [e]; exact o.perm
theorem laid_of {mask : Nat} (cv : ∀ h, h < 64 → coverC mask h = true) {hashes : Array Int} (hh : ∀ h ∈ hashes.toList, ∃ m : Nat, h = (m : Int) ∧ m < 64) (hn : hashes.size ≤ mask) (finger moves : Nat) (led plain : Bool) :
    ∃ t order, SetTable.laid mask finger moves led plain hashes = some (t, order) ∧ t.mask = mask ∧ t.dummies = #[] ∧ t.led = led ∧ t.plain = plain ∧ Rise t.place.toList ∧ t.place.size = hashes.size ∧ order.toList.Perm (List.range hashes.size) := by
  obtain ⟨o', e, ow⟩ := lay_fold cv hashes.toList _ 0 hh (Owned.start mask) (by rw [Array.length_toList]; omega)
  rw [Nat.zero_add, Array.length_toList] at e ow
  have le := lay_eq mask hashes
  rw [e] at le
  have sn := live_snd ow
  refine ⟨⟨mask, ((liveOf mask o').map (·.1)).toArray, #[], finger, led, moves, plain⟩, ((liveOf mask o').map (·.2)).toArray, ?_, rfl, rfl, rfl, rfl, ?_, ?_, ?_⟩
  · unfold SetTable.laid
    rw [le]
    rfl
  · exact live_rise mask o'
  · rw [List.size_toArray, List.length_map]
    have := sn.length_eq
    rw [List.length_map, List.length_range] at this
    exact this
  · exact sn
end L2

namespace L2
open PySem
/-! ### a free slot of a standing table -/
def advM (mask : Nat) (p : SetTable.Probe) : SetTable.Probe :=
  if p.more > 0 then { p with j := p.j + 1, more := p.more - 1 } else ⟨(SetTable.leap mask p.i p.perturb).1, SetTable.runEnd mask (SetTable.leap mask p.i p.perturb).1 - (SetTable.leap mask p.i p.perturb).1, (SetTable.leap mask p.i p.perturb).1, (SetTable.leap mask p.i p.perturb).2, p.dummy⟩
theorem adv_eq (t : SetTable) (p : SetTable.Probe) : t.advance p = advM t.mask p := by
  unfold SetTable.advance advM
  split <;> rfl
def seenP (mask : Nat) : Nat → SetTable.Probe → List Nat
  | 0, _ => []
  | fuel + 1, p => p.j :: seenP mask fuel (advM mask p)
def startP (mask h : Nat) : SetTable.Probe := ⟨h % (mask + 1), SetTable.runEnd mask (h % (mask + 1)) - h % (mask + 1), h % (mask + 1), h, none⟩
def coverP (mask h : Nat) : Bool := Nat.beq (bitsOf (seenP mask (10 * SetTable.turns mask) (startP mask h))) (2 ^ (mask + 1) - 1)
theorem coverP_mem {mask h : Nat} (cv : coverP mask h = true) {j : Nat} (hj : j < mask + 1) : j ∈ seenP mask (10 * SetTable.turns mask) (startP mask h) := by
  have e := Nat.eq_of_beq_eq_true cv
  have t : (bitsOf (seenP mask (10 * SetTable.turns mask) (startP mask h))).testBit j = true := by rw [e, Nat.testBit_two_pow_sub_one]; exact decide_eq_true hj
  rcases bits_fold _ _ _ t with z | z
  · rw [Nat.zero_testBit] at z; cases z
  · exact z
theorem coverP7 : ∀ h, h < 64 → coverP 7 h = true := by
  have : (List.range 64).all (coverP 7) = true := by decide +kernel
  exact fun h hh => List.all_eq_true.mp this h (List.mem_range.mpr hh)
theorem coverP31 : ∀ h, h < 64 → coverP 31 h = true := by
  have : (List.range 64).all (coverP 31) = true := by decide +kernel
  exact fun h hh => List.all_eq_true.mp this h (List.mem_range.mpr hh)
theorem coverP127 : ∀ h, h < 64 → coverP 127 h = true := by
  have : (List.range 64).all (coverP 127) = true := by decide +kernel
  exact fun h hh => List.all_eq_true.mp this h (List.mem_range.mpr hh)
theorem slot_of {t : SetTable} (hr : Rise t.place.toList) (hd : t.dummies = #[]) (j : Nat) : (j ∈ t.place.toList ∧ ∃ i, t.slot j = .live i) ∨ (j ∉ t.place.toList ∧ t.slot j = .empty) := by
  obtain ⟨b, c, d⟩ := below_of (j := j) hr
  by_cases q : t.place[SetTable.below t.place j]? = some j
  · refine .inl ⟨List.mem_of_getElem? (by rw [Array.getElem?_toList]; exact q), SetTable.below t.place j, ?_⟩
    unfold SetTable.slot
    simp only [q, beq_self_eq_true, if_true]
  · refine .inr ⟨fun m => q ?_, ?_⟩
    · obtain ⟨k, hk⟩ := List.getElem?_of_mem m
      have lk := (List.getElem?_eq_some_iff.mp hk).1
      rw [Array.length_toList] at lk
      rw [Array.getElem?_toList] at hk
      have ek : t.place[k] = j := by rw [Array.getElem?_eq_getElem lk] at hk; exact Option.some.inj hk
      have : SetTable.below t.place j = k := by
        rcases Nat.lt_trichotomy (SetTable.below t.place j) k with z | z | z
        · have hs : SetTable.below t.place j < t.place.size := by omega
          have h1 := d _ (Nat.le_refl _) hs
          rw [getD_in hs] at h1
          have h2 := hr.at_ (i := SetTable.below t.place j) (k := k) (by rw [Array.length_toList]; exact lk) z
          simp only [Array.getElem_toList] at h2
          omega
        · exact z
        · have h1 := c k z
          rw [getD_in lk] at h1
          omega
      rw [this]; exact hk
    · unfold SetTable.slot
      have e1 : (t.place[SetTable.below t.place j]? == some j) = false := by
        rw [Bool.eq_false_iff]; intro z; exact q (eq_of_beq z)
      have e2 : SetTable.has t.dummies j = false := by rw [hd]; rfl
      simp only [e1, e2, Bool.false_eq_true, if_false]
theorem probe_go {t : SetTable} {h : Int} (hr : Rise t.place.toList) (hd : t.dummies = #[]) : ∀ (fuel : Nat) (p : SetTable.Probe), p.dummy = none →
    (∃ j, SetTable.probe.go t (fun _ => h + 1) h fuel p = some (.empty j none) ∧ j ∉ t.place.toList) ∨ ∀ j ∈ seenP t.mask fuel p, j ∈ t.place.toList
  | 0, _, _ => .inr fun j hj => by cases hj
  | fuel + 1, p, pd => by
    rcases slot_of hr hd p.j with ⟨m, i, e⟩ | ⟨m, e⟩
    · have ne : ((h + 1 : Int) == h) = false := by rw [Bool.eq_false_iff]; intro z; have := eq_of_beq z; omega
      have st : SetTable.probe.go t (fun _ => h + 1) h (fuel + 1) p = SetTable.probe.go t (fun _ => h + 1) h fuel (t.advance p) := by
        rw [SetTable.probe.go, e]
        simp only [ne, Bool.false_eq_true, if_false]
      have pd' : (t.advance p).dummy = none := by rw [adv_eq]; unfold advM; split <;> exact pd
      rcases probe_go hr hd fuel (t.advance p) pd' with ⟨j, e1, e2⟩ | all
      · exact .inl ⟨j, by rw [st]; exact e1, e2⟩
      · refine .inr fun j hj => ?_
        unfold seenP at hj
        rcases List.mem_cons.mp hj with rfl | hj
        · exact m
        · exact all j (by rw [adv_eq]; exact hj)
    · refine .inl ⟨p.j, ?_, m⟩
      rw [SetTable.probe.go, e, pd]
structure TOK (t : SetTable) (n : Nat) (led : Bool) : Prop where
  ms : t.mask = 7 ∨ t.mask = 31 ∨ t.mask = 127
  du : t.dummies = #[]
  pl : t.plain = true
  ld : t.led = led
  ri : Rise t.place.toList
  sz : t.place.size = n
  fu : n * 5 < t.mask * 3
theorem TOK.slot {t : SetTable} {n : Nat} {led : Bool} (T : TOK t n led) {m : Nat} (hm : m < 64) : ∃ j, t.freeSlot (m : Int) = some (j, false) ∧ j ∉ t.place.toList := by
  have cv : coverP t.mask m = true := by
    rcases T.ms with e | e | e <;> rw [e]
    · exact coverP7 m hm
    · exact coverP31 m hm
    · exact coverP127 m hm
  have st : t.probeStart (m : Int) = startP t.mask m := by
    unfold SetTable.probeStart startP
    rw [bits_nat hm]
  rcases probe_go (h := (m : Int)) T.ri T.du (10 * SetTable.turns t.mask) (startP t.mask m) rfl with ⟨j, e1, e2⟩ | all
  · refine ⟨j, ?_, e2⟩
    unfold SetTable.freeSlot SetTable.probe
    rw [st, e1]
    rfl
  · exfalso
    have sub : ∀ j ∈ List.range (t.mask + 1), j ∈ t.place.toList := fun j hj => all j (coverP_mem cv (List.mem_range.mp hj))
    have len : (List.range (t.mask + 1)).length ≤ t.place.toList.length := by
      have : ∀ (a b : List Nat), a.Nodup → (∀ x ∈ a, x ∈ b) → a.length ≤ b.length := by
        intro a
        induction a with
        | nil => intro b _ _; exact Nat.zero_le _
        | cons x r ih =>
          intro b nd hs
          have nd' := List.nodup_cons.mp nd
          have hx := hs x (List.mem_cons_self ..)
          have := ih (b.erase x) nd'.2 fun y hy => (List.mem_erase_of_ne (fun z : y = x => nd'.1 (z ▸ hy))).mpr (hs y (List.mem_cons_of_mem _ hy))
          have e := List.length_erase_of_mem hx
          have p := List.length_pos_of_mem hx
          rw [List.length_cons]; omega
      exact this _ _ List.nodup_range sub
    rw [List.length_range, Array.length_toList, T.sz] at len
    have := T.fu
    omega
end L2

namespace L2
open PySem
/-! ### one more element -/
theorem toList_size {α : Type} {a b : Array α} (h : a.toList.Perm b.toList) : a.size = b.size := by
  rw [← Array.length_toList, h.length_eq, Array.length_toList]
theorem put_of {t : SetTable} {n : Nat} {led : Bool} (T : TOK t n led) {j : Nat} (nj : j ∉ t.place.toList) :
    (t.put j).1.mask = t.mask ∧ (t.put j).1.dummies = #[] ∧ (t.put j).1.plain = true ∧ (t.put j).1.led = led ∧ Rise (t.put j).1.place.toList ∧ (t.put j).1.place.size = n + 1 := by
  have hd : SetTable.has t.dummies j = false := by rw [T.du]; rfl
  refine ⟨rfl, ?_, T.pl, T.ld, insert_rise T.ri nj, ?_⟩
  · show (if SetTable.has t.dummies j = true then _ else t.dummies) = #[]
    rw [hd, if_neg Bool.false_ne_true]; exact T.du
  · show (SetTable.insertAt t.place (SetTable.below t.place j) j).size = n + 1
    rw [toList_size (SetTable.insertAt_perm t.place (SetTable.below t.place j) j), Array.size_push, T.sz]
theorem layNew_of {t : SetTable} {n : Nat} {led : Bool} (T : TOK t n led) {es : Array (Int × Value)} (hes : es.size = n) {m : Nat} (hm : m < 64) (x : Value) :
    ∃ es' t', layNew t es (m : Int) x = (es', t', false, false) ∧ t'.mask = t.mask ∧ t'.dummies = #[] ∧ t'.plain = true ∧ t'.led = led ∧ Rise t'.place.toList ∧ t'.place.size = n + 1 := by
  obtain ⟨j, hj, nj⟩ := T.slot hm
  obtain ⟨a, b, c, d, e, f⟩ := put_of T nj
  have sz : (SetTable.insertAt es (t.put j).2 ((m : Int), x)).size = n + 1 := by
    rw [toList_size (SetTable.insertAt_perm es (t.put j).2 ((m : Int), x)), Array.size_push, hes]
  have le : n + 1 ≤ t.mask := by
    have := T.fu
    rcases T.ms with z | z | z <;> rw [z] at this ⊢ <;> omega
  have ft : (t.put j).1.fits (n + 1) = true := by
    unfold SetTable.fits SetTable.fill
    rw [f, b, a]
    show (n + 1 == n + 1 && decide (n + 1 + 0 ≤ t.mask)) = true
    rw [beq_self_eq_true, decide_eq_true (by omega : n + 1 + 0 ≤ t.mask)]; rfl
  refine ⟨SetTable.insertAt es (t.put j).2 ((m : Int), x), (t.put j).1, ?_, a, b, c, d, e, f⟩
  unfold layNew
  rw [hj]
  show (SetTable.insertAt es (t.put j).2 ((m : Int), x), (t.put j).1.orStandIn (SetTable.insertAt es (t.put j).2 ((m : Int), x)).size, false, !(t.put j).1.fits (SetTable.insertAt es (t.put j).2 ((m : Int), x)).size) = _
  rw [sz, ft]
  unfold SetTable.orStandIn
  rw [if_pos ft]
  rfl
theorem relay_of {t : SetTable} {n mask : Nat} {led : Bool} (hd : t.dummies = #[]) (hp : t.plain = true) (hl : t.led = led) {es : Array (Int × Value)} (hes : es.size = n) (hh : ∀ e ∈ es.toList, ∃ m : Nat, e.1 = (m : Int) ∧ m < 64) (wanted : Nat) (hw : SetTable.sizeAbove wanted - 1 = mask)
    (cv : ∀ h, h < 64 → coverC mask h = true) (hn : n ≤ mask) (ms : mask = 7 ∨ mask = 31 ∨ mask = 127) (fu : n * 5 < mask * 3) :
    ∃ es' t', relayAll t es wanted = (es', t', false) ∧ TOK t' n led := by
  obtain ⟨t', order, e, a, b, c, d, r, s, p⟩ := laid_of cv (hashes := es.map (·.1)) (fun h hh' => by
    rw [Array.toList_map] at hh'
    obtain ⟨x, hx, rfl⟩ := List.mem_map.mp hh'
    exact hh x hx) (by rw [Array.size_map, hes]; exact hn) t.finger (t.movedTo mask) t.led t.plain
  rw [Array.size_map, hes] at s p
  have rl : t.relaid (es.map (·.1)) wanted = some (t', order) := by
    unfold SetTable.relaid
    rw [hw]; exact e
  have cov : coversAll order es.size = true := by
    unfold coversAll
    rw [hes]
    exact List.isPerm_iff.mpr p
  have sz : (order.filterMap (es[·]?)).size = n := by
    have q : (order.filterMap (es[·]?)).toList.Perm es.toList := by
      rw [Array.toList_filterMap]
      have p' : order.toList.Perm (List.range es.size) := by rw [hes]; exact p
      exact (p'.filterMap _).trans (by rw [filterMap_getElem?_range])
    rw [toList_size q, hes]
  have ft : t'.fits n = true := by
    unfold SetTable.fits SetTable.fill
    rw [s, b, a]
    show (n == n && decide (n + 0 ≤ mask)) = true
    rw [beq_self_eq_true, decide_eq_true (by omega : n + 0 ≤ mask)]; rfl
  refine ⟨order.filterMap (es[·]?), t', ?_, ⟨by rw [a]; exact ms, b, by rw [d]; exact hp, by rw [c]; exact hl, r, s, by rw [a]; exact fu⟩⟩
  unfold relayAll
  rw [rl]
  show (if (coversAll order es.size && t'.fits (order.filterMap (es[·]?)).size) = true then _ else _) = _
  rw [cov, sz, ft]
  rfl
theorem size20 : SetTable.sizeAbove (SetTable.grown 5) - 1 = 31 := by decide +kernel
theorem size76 : SetTable.sizeAbove (SetTable.grown 19) - 1 = 127 := by decide +kernel
/-- what becomes of the table where one more small int is added -/
theorem add_table {t : SetTable} {n : Nat} {led : Bool} (T : TOK t n led) {es : Array (Int × Value)} (hes : es.size = n) (hh : ∀ e ∈ es.toList, ∃ m : Nat, e.1 = (m : Int) ∧ m < 64) {m : Nat} (hm : m < 64) (hn : n + 1 ≤ 60) (x : Value) :
    ∃ es1 t1, layNew t es (m : Int) x = (es1, t1, false, false) ∧ t1.plain = true ∧ es1.size = n + 1 ∧ (∀ e ∈ es1.toList, ∃ m : Nat, e.1 = (m : Int) ∧ m < 64) ∧
      ((t1.tooFull = false ∧ TOK t1 (n + 1) led) ∨ (t1.tooFull = true ∧ ∃ es2 t2, relayAll t1 es1 (SetTable.grown es1.size) = (es2, t2, false) ∧ TOK t2 (n + 1) led)) := by
  obtain ⟨es1, t1, e, a, b, c, d, r, s⟩ := layNew_of T hes hm x
  have pm := layNew_perm t es (m : Int) x
  rw [e] at pm
  have sz1 : es1.size = n + 1 := by rw [toList_size pm, Array.size_push, hes]
  have hh1 : ∀ e ∈ es1.toList, ∃ m : Nat, e.1 = (m : Int) ∧ m < 64 := fun e he => by
    have := pm.mem_iff.mp he
    rw [Array.toList_push] at this
    rcases List.mem_append.mp this with z | z
    · exact hh e z
    · rw [List.mem_singleton.mp z]; exact ⟨m, rfl, hm⟩
  have tf : t1.tooFull = decide ((n + 1) * 5 ≥ t.mask * 3) := by
    unfold SetTable.tooFull SetTable.fill
    rw [s, b, a]; rfl
  refine ⟨es1, t1, e, c, sz1, hh1, ?_⟩
  by_cases q : (n + 1) * 5 ≥ t.mask * 3
  · refine .inr ⟨by rw [tf]; exact decide_eq_true q, ?_⟩
    rw [sz1]
    have fu := T.fu
    rcases T.ms with z | z | z
    · rw [z] at q fu
      have n4 : n = 4 := by omega
      subst n4
      exact relay_of b c d sz1 hh1 _ size20 cover31 (by decide) (.inr (.inl rfl)) (by decide)
    · rw [z] at q fu
      have n18 : n = 18 := by omega
      subst n18
      exact relay_of b c d sz1 hh1 _ size76 cover127 (by decide) (.inr (.inr rfl)) (by decide)
    · rw [z] at q
      omega
  · exact .inl ⟨by rw [tf]; exact decide_eq_false q, ⟨by rw [a]; exact T.ms, b, c, d, r, s, by rw [a]; omega⟩⟩
end L2

namespace L2
open PySem PySem.Spec PyProof.Rows
/-! ### a set of small ints in the heap, its table known -/
theorem hash_small : ∀ m : Nat, m < 64 → hashInt (m : Int) = (m : Int) := by
  have : (List.range 64).all (fun m => decide (hashInt ((m : Nat) : Int) = ((m : Nat) : Int))) = true := by decide +kernel
  exact fun m hm => of_decide_eq_true (List.all_eq_true.mp this m (List.mem_range.mpr hm))
def Small (es : Array (Int × Value)) : Prop := ∀ e ∈ es.toList, ∃ (m : Nat) (tk : Tok), e = ((m : Int), Value.int (m : Int) tk) ∧ m < 64
def SetW (h : Heap) (a : Addr) (ks : List Nat) (led : Bool) : Prop :=
  ∃ (o : Obj) (es : Array (Int × Value)) (ep : Nat) (t : SetTable), h.get? a = some o ∧ o.ExactSet ∧ o.data = .set es ep t ∧ TOK t es.size led ∧ Small es ∧ (es.toList.map (·.1)).Perm (ks.map fun (k : Nat) => (k : Int)) ∧ ks.Nodup
theorem TOK.fit {t : SetTable} {n : Nat} {led : Bool} (T : TOK t n led) : t.fits n = true := by
  have := T.fu
  unfold SetTable.fits SetTable.fill
  rw [T.sz, T.du]
  show (n == n && decide (n + 0 ≤ t.mask)) = true
  rw [beq_self_eq_true, decide_eq_true (by omega : n + 0 ≤ t.mask)]; rfl
section
variable {prog : Program} {w : World} {A : Around} {E : Value → Shared → Prop} {s : Shared}
theorem Small.elems {es : Array (Int × Value)} (h : Small es) : ElemsOf (intKind prog w) es.toList := fun e he => by
  obtain ⟨m, tk, rfl, hm⟩ := h e he
  exact ⟨⟨(m : Int), intKind_is prog w _ _, (hash_small m hm).symm⟩, rfl⟩
theorem Small.hashes {es : Array (Int × Value)} (h : Small es) : ∀ e ∈ es.toList, ∃ m : Nat, e.1 = (m : Int) ∧ m < 64 := fun e he => by
  obtain ⟨m, tk, rfl, hm⟩ := h e he
  exact ⟨m, rfl, hm⟩
theorem Small.perm {a b : Array (Int × Value)} (h : Small a) (p : b.toList.Perm a.toList) : Small b := fun e he => h e (p.mem_iff.mp he)
theorem SetW.len {h : Heap} {a : Addr} {ks : List Nat} {led : Bool} {es : Array (Int × Value)} (p : (es.toList.map (·.1)).Perm (ks.map fun (k : Nat) => (k : Int))) : es.size = ks.length := by
  have := p.length_eq
  rw [List.length_map, List.length_map, Array.length_toList] at this
  exact this
theorem stored {h : Heap} {a : Addr} {o : Obj} {es es' : Array (Int × Value)} {ep : Nat} {t t' : SetTable} (ho : h.get? a = some o) (hd : o.data = .set es ep t) : (h.update a (Obj.putSet es' t')).get? a = some { o with data := .set es' (ep + 1) t' } := by
  have := Heap.get?_update_self (Obj.putSet es' t') ho (by rw [putSet_of es' t' hd]; rfl)
  rw [putSet_of es' t' hd] at this
  exact this
theorem addW {a : Addr} {ks : List Nat} {led : Bool} {m : Nat} {tk : Tok} {Q : Bool → Shared → Prop} (W : SetW s.heap a ks led) (hm : m < 64) (h60 : ks.length ≤ 60) (hn : m ∉ ks → ks.length + 1 ≤ 60)
    (h : ∀ b h', Heap.SameBut a s.heap h' → SetW h' a (if m ∈ ks then ks else ks ++ [m]) led → Q b { s with heap := h' }) : wpAny (model prog w) A (setAddHashed a (.int (m : Int) tk) (m : Int)) Q E s := by
  obtain ⟨o, es, ep, t, ho, hex, hd, T, sm, pm, nd⟩ := W
  have len := SetW.len (h := s.heap) (a := a) (led := led) pm
  have hf := T.fit
  have hb : es.size < scanBound := by rw [len]; unfold scanBound; omega
  have hel : ElemsOf (intKind prog w) es.toList := sm.elems
  have is : (intKind prog w).is (m : Int) (.int (m : Int) tk) = true := intKind_is prog w _ _
  have hash : (intKind prog w).hash (m : Int) = (m : Int) := hash_small m hm
  unfold setAddHashed setAddHashedIn; refine wpAny_holding (wpAny_bind (wpAny_setState_of ho hd hf ?_))
  dsimp only; rw [byScan_of (knd := intKind prog w) rfl hb hel]
  simp only [↓reduceIte]; unfold setAddByScan; refine wpAny_bind (wpAny_bind (wpAny_rule (wpAny_bind ?_)))
  have scan : ∀ (A' : Around) (E' : Value → Shared → Prop) (Q' : ScanMet → Shared → Prop), Q' (match es.toList.findIdx? (fun e => (intKind prog w).is (m : Int) e.2) with | some j => .found (0 + j) | none => .absent) s → wpAny (model prog w) A' (setScan a (.int (m : Int) tk) (m : Int) true es) Q' E' s := fun A' E' Q' hq => by
    have := wpAny_setScan_of (knd := intKind prog w) (A := A') (E := E') (adding := true) is ho hd hf hel hq
    rw [hash] at this
    exact this
  refine scan _ _ _ ?_
  have mem : (∃ e ∈ es.toList, (intKind prog w).is (m : Int) e.2 = true) ↔ m ∈ ks := by
    constructor
    · rintro ⟨e, he, hi⟩
      obtain ⟨m', tk', rfl, _⟩ := sm e he
      have e1 := (intKind prog w).inj _ _ _ hi (intKind_is prog w _ _)
      have e2 : m = m' := by omega
      subst e2
      have := pm.mem_iff.mp (List.mem_map_of_mem (f := (·.1)) he)
      obtain ⟨k, hk, ek⟩ := List.mem_map.mp this
      have : k = m := by have ek' : (k : Int) = (m : Int) := ek; omega
      rw [← this]; exact hk
    · intro hk
      have := pm.mem_iff.mpr (List.mem_map_of_mem (f := fun (k : Nat) => (k : Int)) hk)
      obtain ⟨e, he, ee⟩ := List.mem_map.mp this
      obtain ⟨m', tk', rfl, _⟩ := sm e he
      have e2 : m' = m := by have ee' : (m' : Int) = (m : Int) := ee; omega
      subst e2
      exact ⟨_, he, intKind_is prog w _ _⟩
  cases hr : List.findIdx? (fun e => (intKind prog w).is (m : Int) e.2) es.toList with
  | some j =>
    dsimp only
    obtain ⟨hj, hpj, _⟩ := List.findIdx?_eq_some_iff_getElem.mp hr
    have mk := mem.mp ⟨_, List.getElem_mem hj, hpj⟩
    rw [if_pos mk] at h
    exact wpAny_pure (wpAny_pure (h _ s.heap (Heap.SameBut.refl a s.heap) ⟨o, es, ep, t, ho, hex, hd, T, sm, pm, nd⟩))
  | none =>
    dsimp only
    have nk : m ∉ ks := fun z => by
      obtain ⟨e, he, hi⟩ := mem.mpr z
      have := List.findIdx?_eq_none_iff.mp hr e he
      rw [hi] at this; cases this
    rw [if_neg nk] at h
    have hn := hn nk; obtain ⟨es1, t1, e1, pl1, sz1, hh1, ways⟩ := add_table T rfl sm.hashes hm (by rw [len]; exact hn) (.int (m : Int) tk)
    have p1 := layNew_perm t es (m : Int) (.int (m : Int) tk)
    generalize layNew t es (m : Int) (.int (m : Int) tk) = L at e1 p1
    subst e1
    rw [Array.toList_push] at p1
    have sm1 : Small es1 := fun e he => by
      rcases List.mem_append.mp (p1.mem_iff.mp he) with z | z
      · exact sm e z
      · rw [List.mem_singleton.mp z]; exact ⟨m, tk, rfl, hm⟩
    have pm1 : (es1.toList.map (·.1)).Perm ((ks ++ [m]).map fun (k : Nat) => (k : Int)) := by
      have := p1.map (·.1)
      rw [List.map_append] at this
      rw [List.map_append]
      exact this.trans (pm.append_right _)
    have nd1 : (ks ++ [m]).Nodup := by
      rw [List.nodup_append]
      exact ⟨nd, List.nodup_cons.mpr ⟨fun y => (List.not_mem_nil y), List.nodup_nil⟩, fun a ha b hb e => nk (by rw [← List.mem_singleton.mp hb, ← e]; exact ha)⟩
    have hz1 : es1.size ≤ sizeLine := by rw [sz1, len]; exact Nat.le_trans hn (by decide)
    dsimp only
    refine wpAny_bind (show wpAny _ _ (pure ()) _ _ _ from wpAny_pure ?_)
    rw [pl1]
    simp only [↓reduceIte]
    refine wpAny_bind ?_
    rw [hashByValue_scannable 8 rfl]
    refine wpAny_pure ?_
    simp only [plainKind, ↓reduceIte]
    refine wpAny_bind (wpAny_storeSet_of ho hd ?_ hz1)
    have g1 := stored (es' := es1) (t' := t1) ho hd
    have sb1 := Heap.SameBut.update s.heap a (Obj.putSet es1 t1)
    rcases ways with ⟨tf, T1⟩ | ⟨tf, es2, t2, e2, T2⟩
    · simp only [tf, Bool.and_false, Bool.false_eq_true, ↓reduceIte]
      exact wpAny_pure (wpAny_pure (h _ _ sb1 ⟨_, es1, ep + 1, t1, g1, hex, rfl, by rw [sz1]; exact T1, sm1, pm1, nd1⟩))
    · simp only [tf, Bool.not_false, Bool.and_true, ↓reduceIte]
      have p2 := relayAll_perm t1 es1 (SetTable.grown es1.size)
      generalize relayAll t1 es1 (SetTable.grown es1.size) = R at e2 p2
      subst e2
      have sz2 : es2.size = es1.size := toList_size p2
      dsimp only
      refine wpAny_bind (show wpAny _ _ (pure ()) _ _ _ from wpAny_pure ?_)
      refine wpAny_bind (wpAny_storeSet_of g1 rfl ?_ (by rw [sz2]; exact hz1))
      have g2 := stored (es' := es2) (t' := t2) g1 rfl
      exact wpAny_pure (wpAny_pure (h _ _ (sb1.trans (Heap.SameBut.update _ a _)) ⟨_, es2, ep + 1 + 1, t2, g2, hex, rfl, by rw [sz2, sz1]; exact T2, sm1.perm p2, (p2.map _).trans pm1, nd1⟩))
end
end L2

namespace L2
open PySem PySem.Spec PyProof.Rows
/-! ### set(a list of small ints), its table known -/
def keyStep (ks : List Nat) (m : Nat) : List Nat := if m ∈ ks then ks else ks ++ [m]
def keysOf (ns : List Nat) : List Nat := ns.foldl keyStep []
theorem keyStep_mem {ks : List Nat} {m x : Nat} : x ∈ keyStep ks m ↔ x ∈ ks ∨ x = m := by
  unfold keyStep
  by_cases h : m ∈ ks
  · rw [if_pos h]; exact ⟨.inl, fun z => z.elim id fun e => e ▸ h⟩
  · rw [if_neg h, List.mem_append, List.mem_singleton]
theorem keyStep_nodup {ks : List Nat} {m : Nat} (nd : ks.Nodup) : (keyStep ks m).Nodup := by
  unfold keyStep
  by_cases h : m ∈ ks
  · rw [if_pos h]; exact nd
  · rw [if_neg h, List.nodup_append]
    exact ⟨nd, List.nodup_cons.mpr ⟨fun y => (List.not_mem_nil y), List.nodup_nil⟩, fun a ha b hb e => h (by rw [← List.mem_singleton.mp hb, ← e]; exact ha)⟩
theorem keys_fold : ∀ (ns ks : List Nat), ks.Nodup → (ns.foldl keyStep ks).Nodup ∧ ∀ x, x ∈ ns.foldl keyStep ks ↔ x ∈ ks ∨ x ∈ ns
  | [], ks, nd => ⟨nd, fun x => ⟨.inl, fun z => z.elim id fun e => absurd e List.not_mem_nil⟩⟩
  | n :: ns, ks, nd => by
    obtain ⟨a, b⟩ := keys_fold ns (keyStep ks n) (keyStep_nodup nd)
    refine ⟨a, fun x => ?_⟩
    show x ∈ ns.foldl keyStep (keyStep ks n) ↔ _
    rw [b x, keyStep_mem, List.mem_cons]
    constructor
    · rintro ((z | z) | z)
      · exact .inl z
      · exact .inr (.inl z)
      · exact .inr (.inr z)
    · rintro (z | z | z)
      · exact .inl (.inl z)
      · exact .inl (.inr z)
      · exact .inr z
theorem keysOf_nodup (ns : List Nat) : (keysOf ns).Nodup := (keys_fold ns [] List.nodup_nil).1
theorem keysOf_mem {ns : List Nat} {x : Nat} : x ∈ keysOf ns ↔ x ∈ ns := by
  unfold keysOf
  rw [(keys_fold ns [] List.nodup_nil).2 x]
  exact ⟨fun z => z.elim (fun e => absurd e List.not_mem_nil) id, .inr⟩
def keysAt (val : Nat → Nat) (i : Nat) : List Nat := keysOf ((List.range i).map val)
theorem keysAt_succ (val : Nat → Nat) (i : Nat) : keysAt val (i + 1) = keyStep (keysAt val i) (val i) := by
  unfold keysAt keysOf; rw [List.range_succ, List.map_append, List.foldl_append]; rfl
theorem keysAt_lt {val : Nat → Nat} {i n : Nat} (h : ∀ j, j < i → val j < n) : ∀ x ∈ keysAt val i, x < n := fun x hx => by
  have := keysOf_mem.mp hx
  obtain ⟨j, hj, rfl⟩ := List.mem_map.mp this
  exact h j (List.mem_range.mp hj)
theorem SetW.keep {h h' : Heap} {a : Addr} {ks : List Nat} {led : Bool} (W : SetW h a ks led) (k : ∀ o, h.get? a = some o → h'.get? a = some o) : SetW h' a ks led := by
  obtain ⟨o, es, ep, t, ho, r⟩ := W
  exact ⟨o, es, ep, t, k o ho, r⟩
section
variable {prog : Program} {w : World} {A : Around} {R : Result → Shared → Prop} {I : Addr} {fp wr : List Addr} {G : Array GenState → Array GenState → Prop} {n : Nat} {P : Nat → Value → Prop} {St : Nat → Shared → Prop}
theorem loopW (W : WalksS prog w A.in1 I fp wr G n P St) (S : Addr) (out : S ∉ fp) {led : Bool} (val : Nat → Nat) (hval : ∀ i v, P i v → ∃ t, v = .int (val i : Int) t) (sm : ∀ i, i < n → val i < 60) :
    ∀ (k i : Nat) (s : Shared), n - i = k → i ≤ n → St i s → SetW s.heap S (keysAt val i) led →
      (∀ s', Moved (S :: wr) G s s' → SetW s'.heap S (keysAt val n) led → R (.ok (.ret .none)) s') → codeAny (model prog w) A (.builtin "set.update.loop" ⟨[.ref S, .ref I], []⟩) R s := by
  have outw : S ∉ wr := fun h => out (W.sub _ h)
  have more : ∀ b ∈ wr, b ∈ S :: wr := fun b hb => List.mem_cons_of_mem _ hb
  intro k
  induction k with
  | zero =>
    intro i s hk hi st hS hR
    obtain rfl : i = n := by omega
    refine codeAny_builtin F.entry_set_update_loop ?_; rw [Around.under_plainId F.plain_set_update_loop _]
    show wpAny _ A.in1 (pyNext (.ref I) >>= _) _ _ s; refine wpAny_bind (W.done s _ _ st fun s' hm => ?_)
    show wpAny _ A.in1 (ret Value.none) _ _ s'
    exact wpAny_pure (hR s' (hm.mono more) (hS.keep fun o e => hm.heap S _ outw e))
  | succ k ih =>
    intro i s hk hi st hS hR
    have lt : i < n := by omega
    refine codeAny_builtin F.entry_set_update_loop ?_; rw [Around.under_plainId F.plain_set_update_loop _]
    show wpAny _ A.in1 (pyNext (.ref I) >>= _) _ _ s; refine wpAny_bind (W.item i s _ _ lt st fun v s' hP st' hm => ?_)
    obtain ⟨tk, rfl⟩ := hval i v hP
    have hS' := hS.keep fun o e => hm.heap S _ outw e
    have v60 := sm i lt
    show wpAny _ A.in1 (holding [Value.int (val i) tk] (setAdd S (.int (val i) tk)) >>= _) _ _ s'
    refine wpAny_bind (wpAny_holding ?_); unfold setAdd; refine wpAny_holding ?_
    refine wpAny_bind ((intKind prog w).pyHash (k := (val i : Int)) (intKind_is _ _ _ _) ?_)
    have eh : (intKind prog w).hash (val i : Int) = (val i : Int) := hash_small _ (by omega)
    rw [eh]
    have klt := keysAt_lt (val := val) (i := i) (n := 60) fun j hj => sm j (by omega)
    have nd := keysOf_nodup ((List.range i).map val)
    refine addW (s := { s' with toks := s'.toks + 1 }) hS' (by omega) (Kin.nodup_len 60 _ nd klt) (fun nk => ?_) fun b h' sb hS2 => ?_
    · have := Kin.nodup_len 60 (val i :: keysAt val i) (List.nodup_cons.mpr ⟨nk, nd⟩) fun x hx => by
        rcases List.mem_cons.mp hx with e | e
        · rw [e]; exact v60
        · exact klt x e
      simpa using this
    · have hSi : SetW h' S (keysAt val (i + 1)) led := by rw [keysAt_succ]; exact hS2
      refine wpAny_pure ⟨plainId_quiet F.plain_set_update_loop _, ih (i + 1) _ (by omega) lt (W.frame _ s' _ _ st' (Nat.le_succ _) fun b hb o e => ?_) hSi fun s'' hm2 hS3 => ?_⟩
      · rw [sb.2 b (fun h : b = S => out (by rw [← h]; exact hb))]; exact e
      · refine hR s'' (Moved.trans W.gtrans ((hm.mono more).then_heap (Nat.le_succ _) fun b o hb e => ?_) hm2) hS3
        rw [sb.2 b (fun h : b = S => hb (by rw [h]; exact List.mem_cons_self))]; exact e
end
end L2

namespace L2
open PySem PySem.Spec PyProof.Rows
section
variable {prog : Program} {w : World} {A : Around} {E : Value → Shared → Prop} {s : Shared}
abbrev setBare (w : World) : Obj := { cls := .type "set", dict := none, data := .set #[] 0 (.fresh 0 0 (!w.params.followText "set-order")) }
theorem new_set (a : Value) {Q : Value → Shared → Prop} (h : Q (.ref s.heap.objs.size) { s with heap := s.heap.push (setBare w) }) :
    codeAny (model prog w) A (.call (.builtin "set.__new__") ⟨[.type "set", a], []⟩) (wants Q E) s := by
  refine codeAny_of_tree ?_; show wpAny _ A.in1 (do checkBuiltinCall "set.__new__" ⟨[.type "set", a], []⟩; again (.builtin "set.__new__" ⟨[.type "set", a], []⟩)) _ _ s
  refine wpAny_bind (wpAny_of_eq (PySem.F.newCall_set_1 a) (wpAny_pure ⟨plainId_quiet PySem.F.plain_set_new _, codeAny_builtin PySem.F.entry_set_new ?_⟩))
  rw [Around.under_plainId PySem.F.plain_set_new _]; unfold Builtin.«set.__new__» Builtin.Frozenset.newClass
  have sub := sub_set_self
  obtain ⟨hp, g, d, tk, os⟩ := s
  dsimp only; wp_walk
  refine wpAny_askSetting (wpAny_pure ?_); dsimp only; simp only [newObj]
  exact wpAny_bind (wpAny_alloc (wpAny_pure (wpAny_pure h)))
theorem TOK.bare (led : Bool) : TOK (SetTable.fresh 0 0 led) 0 led := ⟨.inl rfl, rfl, rfl, rfl, List.Pairwise.nil, rfl, show 0 * 5 < 7 * 3 by decide⟩
theorem SetW.bare {h : Heap} {a : Addr} (e : h.get? a = some (setBare w)) : SetW h a [] (!w.params.followText "set-order") :=
  ⟨_, _, _, _, e, ⟨rfl, rfl, rfl⟩, rfl, TOK.bare _, fun _ he => absurd he List.not_mem_nil, List.Perm.nil, List.nodup_nil⟩
set_option maxRecDepth 100000 in
set_option maxHeartbeats 3200000 in
theorem call_setW {l : Addr} {items : Array Value} {ns : List Nat} {Q : Value → Shared → Prop} (hh : A.handled = none) (hl : s.heap.IsList l items) (hi : IntsAre items.toList (ns.map fun (k : Nat) => (k : Int))) (sm : ∀ x ∈ ns, x < 60)
    (h : ∀ (h' : Heap) (tk : Nat), SetW h' s.heap.objs.size (keysOf ns) (!w.params.followText "set-order") → (∀ b o, b < s.heap.objs.size → s.heap.get? b = some o → h'.get? b = some o) → Q (.ref s.heap.objs.size) { s with heap := h', toks := tk }) :
    wpAny (model prog w) A (call (.type "set") [.ref l]) Q E s := by
  have len : ns.length = items.size := by
    have := hi.length
    rw [List.length_map, Array.length_toList] at this; exact this.symm
  have vals : (List.range items.size).map (fun i => ns.getD i 0) = ns := by
    rw [← len]; refine List.ext_getElem (by simp) fun i h1 h2 => ?_
    simp [List.getD_eq_getElem?_getD, List.getElem?_eq_getElem h2]
  have keys : keysAt (fun i => ns.getD i 0) items.size = keysOf ns := by unfold keysAt; rw [vals]
  obtain ⟨c, tl, mro⟩ := PySem.F.called_set.mro
  have made := PySem.F.called_set.made; have sub := PySem.F.called_set.sub
  refine wpAny_call (codeAny_of_tree ?_); show wpAny _ _ (callAny (.type "set") _) _ _ _
  refine wpAny_pure ⟨Code.quiet_builtin _ (by decide +kernel), codeAny_builtin PySem.F.entry_type_call ?_⟩
  rw [Around.under_plain (weight_type_call_type "set" [.ref l] []) rfl]
  have f1 := PySem.F.called_set.notType; have f2 := PySem.F.called_set.canCreate; have f3 := PySem.F.typeCall_set_1 (.ref l)
  repeat (any_goals (first | assumption | wp_step))
  refine codeAny_mono (new_set (.ref l) (E := E) (Q := fun obj s₁ => obj = .ref s.heap.objs.size ∧ s₁ = { s with heap := s.heap.push (setBare w) }) ⟨rfl, rfl⟩) fun r s₁ hr => ?_
  cases r with
  | error e => exact hr
  | ok fl =>
    cases fl with
    | ret obj =>
      obtain ⟨rfl, rfl⟩ := hr
      have hS : (s.heap.push (setBare w)).get? s.heap.objs.size = some (setBare w) := Heap.get?_push_size _ rfl
      have hT : Shared.TypeIs { s with heap := s.heap.push (setBare w) } (.ref s.heap.objs.size) "set" := ⟨_, hS, rfl⟩
      have f4 := PySem.F.called_set.init.lookup; have f5 := PySem.F.called_set.init.bind (.ref s.heap.objs.size)
      repeat (any_goals (first | assumption | wp_step))
      refine codeAny_mono (codeAny_call_builtin (R := wants (fun r s₂ => r = .none ∧ ∃ h' tk, s₂ = { s with heap := h', toks := tk } ∧ SetW h' s.heap.objs.size (keysOf ns) (!w.params.followText "set-order") ∧
          (∀ b o, b < s.heap.objs.size → s.heap.get? b = some o → h'.get? b = some o)) E) PySem.F.called_set.init.plain PySem.F.entry_set_init (check_set_init_1 hT ?_)) fun r₂ s₂ hr₂ => ?_
      · obtain ⟨ol, hol, hcl, nl, hdl⟩ := hl
        obtain ⟨ocls, odict, odata, oslots⟩ := ol
        simp only at hcl hdl; subst hcl; subst hdl
        have hol' : (s.heap.push (setBare w)).get? l = some { cls := .type "list", dict := odict, data := .seq items nl, slots := oslots } := Heap.get?_push_of_some _ hol
        have g1 := PySem.F.sub_list_set; have g2 := PySem.F.sub_list_frozenset
        have g3 : (Value.type "list" == Value.type "dict") = false := by decide
        have hl1 : (s.heap.push (setBare w)).IsList l items := ⟨_, hol', rfl, nl, rfl⟩
        unfold Builtin.«set.__init__» noKeywords Builtin.Frozenset.updateFrom; generalize hPI : pyIter = PI
        wp_walk
        subst hPI; refine wpAny_pyIter_list hl1 ?_; refine wpAny_bind (wpAny_runValue ?_)
        have lS : l < s.heap.objs.size := Heap.lt_size hol
        have hh3 : A.in1.in1.in1.handled = none := by simp [hh]
        have neI : l ≠ (s.heap.push (setBare w)).objs.size := by rw [Heap.size_push]; exact Nat.ne_of_lt (Nat.lt_succ_of_lt lS)
        have out : s.heap.objs.size ∉ [(s.heap.push (setBare w)).objs.size, l] := by
          rw [Heap.size_push]; intro z
          rcases List.mem_cons.mp z with z | z
          · omega
          · exact absurd (List.mem_singleton.mp z) (Nat.ne_of_gt lS)
        have val : ∀ (i : Nat) (v : Value), items[i]? = some v → ∃ t, v = .int ((ns.getD i 0 : Nat) : Int) t := fun i v hv => by
          obtain ⟨t, e⟩ := IntsAre.int_at hi i v (by rw [Array.getElem?_toList]; exact hv)
          have lt : i < ns.length := by rw [len]; exact (Array.getElem?_eq_some_iff.mp hv).1
          refine ⟨t, ?_⟩
          rw [e, List.getD_eq_getElem?_getD, List.getD_eq_getElem?_getD, List.getElem?_map, List.getElem?_eq_getElem lt]; rfl
        have small : ∀ i, i < items.size → ns.getD i 0 < 60 := fun i hlt => by
          rw [List.getD_eq_getElem?_getD, List.getElem?_eq_getElem (by rw [len]; exact hlt)]
          exact sm _ (List.getElem_mem _)
        refine loopW ((Walks.list hh3 _ l neI items).toS) s.heap.objs.size out (led := !w.params.followText "set-order") (fun i => ns.getD i 0) val small (items.size - 0) 0 _ (by omega) (Nat.zero_le _) ⟨⟨_, Heap.get?_push_size _ rfl, rfl, rfl⟩, (hl1.push _)⟩ ?h0 ?hR
        case h0 => exact SetW.bare (Heap.get?_push_of_some _ hS)
        case hR =>
          intro s' hm hS'
          obtain ⟨h', g', d', tk', os'⟩ := s'
          have eg : g' = s.gens := hm.gens; have ed : d' = s.drawn := hm.drawn; have eo : os' = s.os := hm.os
          subst eg; subst ed; subst eo
          show wpAny _ _ _ _ _ _; refine wpAny_pure ?_; show wpAny _ _ (ret Value.none) _ _ _
          rw [keys] at hS'
          refine wpAny_pure ⟨rfl, h', tk', rfl, hS', fun b o hb e => ?_⟩
          refine hm.heap b o (fun z => ?_) (Heap.get?_push_of_some _ (Heap.get?_push_of_some _ e))
          rcases List.mem_cons.mp z with z | z
          · exact absurd z (Nat.ne_of_lt hb)
          · have z := List.mem_singleton.mp z
            rw [Heap.size_push] at z; exact absurd z (Nat.ne_of_lt (Nat.lt_succ_of_lt hb))
      · cases r₂ with
        | error e => exact hr₂
        | ok fl₂ =>
          cases fl₂ with
          | ret r =>
            obtain ⟨rfl, h', tk, rfl, hS', hk'⟩ := hr₂
            repeat (any_goals (first | assumption | wp_step))
            exact h _ _ hS' hk'
          | _ => exact hr₂.elim
    | _ => exact hr.elim
end
end L2

namespace L2
open PySem PySem.Spec PyProof.Rows
/-! ### walking such a set -/
theorem si_iter : entryFor table "set.__iter__" = some Builtin.«frozenset.__iter__» := entryFor_alias (id' := "frozenset.__iter__") (by kernel_rfl) rfl (by decide +kernel) (by kernel_rfl)
theorem si_owner : Manifest.owners.lookup (String.ofList ['r', 'o', 't', 'a', 'r', 'e', 't', 'i', '_', 't', 'e', 's'].reverse) = some Manifest.sig_set_iterator := by kernel_rfl
theorem si_next_slot : Slot "set_iterator" "__next__" "set_iterator.__next__" := .of (owner := "set_iterator") (n := "__next__") (by rw [typeLookup_type, builtinLookup_eq_fast]; kernel_rfl) (by decide +kernel) (by decide +kernel) (by decide +kernel) (by first | exact .inl (by decide +kernel) | exact .inr (by decide +kernel)) (by rw [isSubtype_type]; kernel_rfl)
theorem si_next : entryFor table "set_iterator.__next__" = some Builtin.«set_iterator.__next__» := entryFor_of_tree (by kernel_rfl)
theorem si_self_slot : Slot "set_iterator" "__iter__" "set_iterator.__iter__" := .of (owner := "set_iterator") (n := "__iter__") (by rw [typeLookup_type, builtinLookup_eq_fast]; kernel_rfl) (by decide +kernel) (by decide +kernel) (by decide +kernel) (by first | exact .inl (by decide +kernel) | exact .inr (by decide +kernel)) (by rw [isSubtype_type]; kernel_rfl)
theorem si_next_args (a : Value) : argsOk "set_iterator.__next__" ⟨[a], []⟩ := by
  unfold argsOk; rw [signature?_of (id := "set_iterator.__next__") (n := ['_', '_', 't', 'x', 'e', 'n', '_', '_']) (o := ['r', 'o', 't', 'a', 'r', 'e', 't', 'i', '_', 't', 'e', 's']) (by kernel_rfl) si_owner]; kernel_rfl
theorem si_self_args (a : Value) : argsOk "set_iterator.__iter__" ⟨[a], []⟩ := by
  unfold argsOk; rw [signature?_of (id := "set_iterator.__iter__") (n := ['_', '_', 'r', 'e', 't', 'i', '_', '_']) (o := ['r', 'o', 't', 'a', 'r', 'e', 't', 'i', '_', 't', 'e', 's']) (by kernel_rfl) si_owner]; kernel_rfl
theorem erase_perm {α : Type} : ∀ (l : List α) (i : Nat) (h : i < l.length), (l[i] :: l.eraseIdx i).Perm l
  | a :: l, 0, _ => List.Perm.refl _
  | a :: l, i + 1, h => ((List.Perm.swap a (l[i]'(Nat.lt_of_succ_lt_succ h)) (l.eraseIdx i))).trans ((erase_perm l i (Nat.lt_of_succ_lt_succ h)).cons a)
theorem pick_go {α : Type} (f : Nat → Nat) : ∀ (n k : Nat) (left : List α) (out : Array α), left.length = n → (pickOrder.go f n k left out).toList.Perm (out.toList ++ left)
  | 0, k, left, out, h => by
    obtain rfl : left = [] := List.length_eq_zero_iff.mp h
    show out.toList.Perm _
    rw [List.append_nil]
  | n + 1, k, left, out, h => by
    have lt : f k % left.length < left.length := Nat.mod_lt _ (by omega)
    unfold pickOrder.go
    rw [List.getElem?_eq_getElem lt]
    have := pick_go f n (k + 1) (left.eraseIdx (f k % left.length)) (out.push left[f k % left.length]) (by rw [List.length_eraseIdx_of_lt lt]; omega)
    refine this.trans ?_
    rw [Array.toList_push, List.append_assoc]
    refine List.Perm.append_left _ ?_
    show (left[f k % left.length] :: left.eraseIdx (f k % left.length)).Perm left
    exact erase_perm left _ lt
theorem pick_perm {α : Type} (f : Nat → Nat) (xs : Array α) : (pickOrder f xs).toList.Perm xs.toList := by
  have := pick_go f xs.size 0 xs.toList #[] (by rw [Array.length_toList])
  exact this
def orderW (w : World) (a : Addr) (ep : Nat) (es : Array (Int × Value)) : Array (Int × Value) := if w.params.followText "set-order" = true then pickOrder (w.params.setOrder a ep) es else es
theorem orderW_perm (w : World) (a : Addr) (ep : Nat) (es : Array (Int × Value)) : (orderW w a ep es).toList.Perm es.toList := by
  unfold orderW
  split
  · exact pick_perm _ _
  · exact List.Perm.refl _
section
variable {prog : Program} {w : World} {A : Around} {E : Value → Shared → Prop} {s : Shared} {a : Addr} {o : Obj} {es : Array (Int × Value)} {ep : Nat} {t : SetTable}
theorem drawn_no {Q : Bool → Shared → Prop} (ho : s.heap.get? a = some o) (hd : o.data = .set es ep t) (T : TOK t es.size (!w.params.followText "set-order")) (h : Q false s) : wpAny (model prog w) A (setDrawn a) Q E s := by
  unfold setDrawn setsByText
  refine wpAny_bind (wpAny_setState_of ho hd T.fit ?_); dsimp only
  refine wpAny_bind (wpAny_bind (wpAny_askSetting (wpAny_pure ?_)))
  refine wpAny_pure ?_
  have e : (!w.params.followText "set-order" && (!t.plain && decide (es.size > 1))) = false := by rw [T.pl]; simp
  show Q (!w.params.followText "set-order" && (!t.plain && decide (es.size > 1))) s
  rw [e]; exact h
theorem walk_text {Q : Array (Int × Value) → Shared → Prop} (ho : s.heap.get? a = some o) (hd : o.data = .set es ep t) (T : TOK t es.size (!w.params.followText "set-order")) (hb : w.params.followText "set-order" = true) (h : Q (orderW w a ep es) s) : wpAny (model prog w) A (setWalk a) Q E s := by
  unfold setWalk setsByText
  refine wpAny_bind (wpAny_setState_of ho hd T.fit ?_); dsimp only
  refine wpAny_bind (wpAny_bind (wpAny_askSetting (wpAny_pure ?_)))
  show wpAny _ _ (if w.params.followText "set-order" = true then _ else _) _ _ s
  rw [if_pos hb]
  refine wpAny_bind (wpAny_askSetting (wpAny_pure ?_))
  have e : orderW w a ep es = pickOrder (w.params.setOrder a ep) es := by unfold orderW; rw [if_pos hb]
  rw [e] at h
  exact h
theorem led_ok {Q : Unit → Shared → Prop} (hl : t.led = true) (h : Q () s) : wpAny (model prog w) A (if (!t.led && !es.isEmpty) = true then unsupported "set:maker-not-led" else pure ()) Q E s := by
  rw [hl]
  show wpAny _ _ (if false = true then _ else _) _ _ s
  rw [if_neg Bool.false_ne_true]
  exact wpAny_pure h
theorem setNext_any {slot i : Nat} {Q : Option (Value × Nat) → Shared → Prop} (ho : s.heap.get? a = some o) (hd : o.data = .set es ep t) (T : TOK t es.size (!w.params.followText "set-order"))
    (hs : w.params.followText "set-order" = false → SetTable.below t.place slot = i)
    (h : ∀ r, (∀ x, (orderW w a ep es)[i]? = some x → ∃ next, r = some (x.2, next) ∧ (w.params.followText "set-order" = false → SetTable.below t.place next = i + 1)) → ((orderW w a ep es)[i]? = none → r = none) → Q r s) : wpAny (model prog w) A (setNext a slot i ep) Q E s := by
  unfold setNext setsByText
  refine wpAny_bind (wpAny_setState_of ho hd T.fit ?_); dsimp only
  refine wpAny_bind (wpAny_bind (wpAny_askSetting (wpAny_pure ?_)))
  show wpAny _ _ (if w.params.followText "set-order" = true then _ else _) _ _ s
  cases hb : w.params.followText "set-order" with
  | true =>
    rw [if_pos rfl, if_neg (by simp)]
    refine wpAny_bind (walk_text ho hd T hb (wpAny_pure (h _ (fun x hx => ⟨slot, by rw [hx]; rfl, fun z => ?_⟩) fun hx => by rw [hx]; rfl)))
    rw [hb] at z; cases z
  | false =>
    rw [if_neg Bool.false_ne_true]
    have e0 : (!t.plain && decide (es.size > 1)) = false := by rw [T.pl]; rfl
    have ld : t.led = true := by rw [T.ld, hb]; rfl
    have eo : orderW w a ep es = es := by unfold orderW; rw [hb, if_neg Bool.false_ne_true]
    rw [eo] at h
    have e1 := hs hb
    show wpAny _ _ (if (!t.plain && decide (es.size > 1)) = true then _ else _) _ _ s
    rw [e0, if_neg Bool.false_ne_true]
    refine wpAny_bind (led_ok ld (wpAny_pure ?_))
    refine h _ (fun x hx => ?_) fun hx => ?_
    · have lt := (Array.getElem?_eq_some_iff.mp hx).1
      have lt' : i < t.place.size := by rw [T.sz]; exact lt
      refine ⟨t.place[i] + 1, ?_, fun _ => below_next T.ri lt'⟩
      rw [e1, hx, Array.getElem?_eq_getElem lt']
    · rw [e1, hx]
end
end L2

namespace L2
open PySem PySem.Spec PyProof.Rows
def SIt (w : World) (h : Heap) (I a : Addr) (i n ep : Nat) (t : SetTable) : Prop := ∃ (o : Obj) (slot : Nat), h.get? I = some o ∧ o.cls = .type "set_iterator" ∧ o.data = .fields #[.int (slot : Int) 0, .int (i : Int) 0, .ref a, .int (n : Int) 0, .int (ep : Int) 0] ∧ (w.params.followText "set-order" = false → SetTable.below t.place slot = i)
theorem SIt.typeIs {w : World} {s : Shared} {I a : Addr} {i n ep : Nat} {t : SetTable} (x : SIt w s.heap I a i n ep t) : s.TypeIs (.ref I) "set_iterator" := let ⟨o, _, ho, hc, _⟩ := x; ⟨o, ho, hc⟩
theorem SIt.keep {w : World} {h h' : Heap} {I a : Addr} {i n ep : Nat} {t : SetTable} (x : SIt w h I a i n ep t) (k : ∀ o, h.get? I = some o → h'.get? I = some o) : SIt w h' I a i n ep t := let ⟨o, sl, ho, r⟩ := x; ⟨o, sl, k o ho, r⟩
section
variable {prog : Program} {w : World} {A : Around} {E : Value → Shared → Prop} {s : Shared} {a I : Addr} {o : Obj} {es : Array (Int × Value)} {ep : Nat} {t : SetTable}
theorem si_pyIter {Q : Value → Shared → Prop} (ho : s.heap.get? a = some o) (hex : o.ExactSet) (hd : o.data = .set es ep t) (T : TOK t es.size (!w.params.followText "set-order"))
    (h : Q (.ref s.heap.objs.size) { s with heap := s.heap.push { cls := .type "set_iterator", data := .fields #[.int 0 0, .int 0 0, .ref a, .int (es.size : Int) 0, .int (ep : Int) 0] } }) : wpAny (model prog w) A (pyIter (.ref a)) Q E s := by
  have hT : s.TypeIs (.ref a) "set" := ⟨o, ho, hex.1⟩
  refine wpAny_pyIter_slot hT PySem.F.slot_set_iter (wpAny_call_entry PySem.F.slot_set_iter hT si_iter ?_ (PySem.F.args_set_iter_1 _))
  unfold Builtin.«frozenset.__iter__» Builtin.Frozenset.slot0 slotArgs Builtin.Frozenset.addrOf Builtin.Frozenset.sizeOf
  refine wpAny_bind (wpAny_pure ?_)
  refine wpAny_bind (wpAny_bind (wpAny_setEntries_of ho hd T.fit (wpAny_pure ?_)))
  refine wpAny_bind (drawn_no ho hd T ?_)
  dsimp only
  rw [if_neg Bool.false_ne_true]
  refine wpAny_bind (wpAny_pure ?_)
  refine wpAny_bind (wpAny_setEpoch_of ho hd T.fit ?_)
  unfold newFields
  refine wpAny_bind (wpAny_newObj_type (wpAny_pure ⟨_, rfl, "set_iterator", _, ⟨_, Heap.get?_push_size _ rfl, rfl⟩, si_next_slot.lookup, ?_⟩))
  exact h
theorem si_next_any {i : Nat} {Q : Option Value → Shared → Prop} (hh : A.handled = none) (hit : SIt w s.heap I a i es.size ep t) (ho : s.heap.get? a = some o) (hd : o.data = .set es ep t) (T : TOK t es.size (!w.params.followText "set-order"))
    (h : ∀ x h', (orderW w a ep es)[i]? = some x → SIt w h' I a (i + 1) es.size ep t → Heap.ExtBut I s.heap h' → Q (some x.2) { s with heap := h' })
    (h0 : ∀ h', (orderW w a ep es)[i]? = none → Heap.ExtBut I s.heap h' → Q none { s with heap := h' }) : wpAny (model prog w) A (pyNext (.ref I)) Q E s := by
  obtain ⟨oI, slot, hoI, hc, hdI, hs⟩ := id hit
  unfold pyNext
  refine wpAny_bind (wpAny_attempt (wpAny_callSpecial?_slot (name := Str.ofString "__next__") hit.typeIs si_next_slot (wpAny_call_entry si_next_slot hit.typeIs si_next ?_ (si_next_args _))))
  unfold Builtin.«set_iterator.__next__»
  refine wpAny_bind (wpAny_pure ?_)
  refine wpAny_bind (wpAny_fieldsOf hoI hdI ?_)
  dsimp only
  refine wpAny_bind (wpAny_setEntries_of ho hd T.fit ?_)
  rw [if_neg (by simp)]
  simp only [Int.toNat_natCast]
  refine wpAny_bind (setNext_any ho hd T hs fun r hr hn => ?_)
  cases hx : (orderW w a ep es)[i]? with
  | some x =>
    obtain ⟨next, rfl, hb⟩ := hr x hx
    dsimp only
    refine wpAny_bind (wpAny_setField hoI hdI (by simp) ?_)
    have g1 := Heap.get?_update_self (Obj.mapFields (·.setIfInBounds 0 (rawInt (next : Int)))) hoI (Obj.isFreed_of_fields (Obj.data_mapFields hdI _))
    have d1 := Obj.data_mapFields hdI (·.setIfInBounds 0 (rawInt (next : Int)))
    refine wpAny_bind (wpAny_setField g1 d1 (by simp) ?_)
    have g2 := Heap.get?_update_self (Obj.mapFields (·.setIfInBounds 1 (rawInt ((i : Int) + 1)))) g1 (Obj.isFreed_of_fields (Obj.data_mapFields d1 _))
    have d2 := Obj.data_mapFields d1 (·.setIfInBounds 1 (rawInt ((i : Int) + 1)))
    have sb := (Heap.SameBut.update s.heap I (Obj.mapFields (·.setIfInBounds 0 (rawInt (next : Int))))).trans (Heap.SameBut.update _ I (Obj.mapFields (·.setIfInBounds 1 (rawInt ((i : Int) + 1)))))
    refine wpAny_pure ⟨_, rfl, wpAny_pure (h x _ hx ⟨_, next, g2, ?_, ?_, hb⟩ sb.extBut)⟩
    · exact (Obj.cls_mapFields ..).trans ((Obj.cls_mapFields ..).trans hc)
    · rw [d2]; simp [rawInt]
  | none =>
    rw [hn hx]
    dsimp only
    refine wpAny_bind (wpAny_setField hoI hdI (by simp) ?_)
    refine wpAny_bind ?_
    simp only [newExc, newTuple]
    refine wpAny_bind (wpAny_newObj_type ?_ (by size_fits))
    refine wpAny_bind (m := firstArgMember _ _) (wpAny_of_eq (a := Value.none) (by first | rfl | (simp only [firstArgMember]; rfl)) ?_)
    refine wpAny_newObj_type ?_ (by size_fits)
    simp only [raiseNew]
    refine wpAny_bind (wpAny_handled ?_)
    rw [show A.in1.handled = none from hh]
    refine wpAny_bind (wpAny_pure (wpAny_throw ?_))
    refine wpAny_bind (wpAny_isInstance (T := "StopIteration") (b := true) ⟨_, Heap.get?_push_size _ rfl, rfl⟩ isSubtype_stop ?_)
    exact wpAny_pure (h0 _ hx (((Heap.SameBut.update ..).extBut.push _).push _))
theorem si_self {i n : Nat} {Q : Value → Shared → Prop} (hit : SIt w s.heap I a i n ep t) (h : Q (.ref I) s) : wpAny (model prog w) A (pyIter (.ref I)) Q E s := by
  refine wpAny_pyIter_slot hit.typeIs si_self_slot (wpAny_call_entry si_self_slot hit.typeIs (b := Builtin.«dict_keyiterator.__iter__») (entryFor_alias (id' := "dict_keyiterator.__iter__") (by kernel_rfl) rfl (by decide +kernel) (by kernel_rfl)) ?_ (si_self_args _))
  exact wpAny_pure ⟨_, rfl, "set_iterator", _, hit.typeIs, si_next_slot.lookup, h⟩
theorem si_walks (hh : A.handled = none) (ne : a ≠ I) (hd : o.data = .set es ep t) (T : TOK t es.size (!w.params.followText "set-order")) :
    Walks prog w A I [I, a] [I] es.size (fun i v => ∃ x, (orderW w a ep es)[i]? = some x ∧ v = x.2) (fun i h => SIt w h I a i es.size ep t ∧ h.get? a = some o) where
  sub := fun b hb => by simp at hb; simp [hb]
  frame := fun _ _ _ st hk => ⟨st.1.keep fun o e => hk I (by simp) o e, hk a (by simp) _ st.2⟩
  item := fun i s Q E hi st hQ => by
    have len : (orderW w a ep es).size = es.size := by
      have := (orderW_perm w a ep es).length_eq
      rwa [Array.length_toList, Array.length_toList] at this
    refine si_next_any hh st.1 st.2 hd T (fun x h' hx it' ext => hQ _ h' s.toks ⟨x, hx, rfl⟩ ⟨it', ext a o ne st.2⟩ fun b o' hb e => ext b o' (fun z => hb (by simp [z])) e) fun h' hx _ => ?_
    have := Array.getElem?_eq_none_iff.mp hx
    omega
  done := fun s Q E st hQ => by
    have len : (orderW w a ep es).size = es.size := by
      have := (orderW_perm w a ep es).length_eq
      rwa [Array.length_toList, Array.length_toList] at this
    refine si_next_any hh st.1 st.2 hd T (fun x h' hx _ _ => ?_) fun h' hx ext => hQ h' s.toks fun b o' hb e => ext b o' (fun z => hb (by simp [z])) e
    have := (Array.getElem?_eq_some_iff.mp hx).1
    omega
  self := fun _ _ _ _ st hQ => si_self st.1 hQ
theorem si_hint {Q : Bool → Shared → Prop} (hT : s.TypeIs (.ref a) "set") (h : Q false s) : wpAny (model prog w) A (Builtin.List.listLengthHint (.ref a)) Q E s := by
  unfold Builtin.List.listLengthHint
  refine wpAny_bind (wpAny_specialOf hT PySem.F.slot_set_len.lookup ?_)
  generalize hid : ("set.__len__" : String) = id0
  wp_delta; rw [show splitId id0 = some ("set", "__len__") from by subst hid; decide +kernel]
  subst hid; refine wpAny_bind (wpAny_isInstance (T := "set") (b := true) hT (by rw [isSubtype_type]; kernel_rfl) ?_)
  refine wpAny_ite_split (fun hab => absurd hab (by decide)) (fun _ => ?_); refine wpAny_ite_split (fun _ => ?_) (fun hab => absurd (by decide +kernel) hab)
  refine wpAny_bind (wpAny_typeOf hT ?_); exact wpAny_pure h
theorem si_src (hex : o.ExactSet) (hd : o.data = .set es ep t) (T : TOK t es.size (!w.params.followText "set-order")) :
    PySem.W.KdlSrc prog w "set" a a es.size (fun i v => ∃ x, (orderW w a ep es)[i]? = some x ∧ v = x.2) (fun h => h.get? a = some o) where
  type := fun _ ho => ⟨o, ho, hex.1⟩
  there := fun _ ho => ⟨Heap.lt_size ho, Heap.lt_size ho⟩
  keep := fun _ _ ho hk => hk a (.inl rfl) _ ho
  notList := by decide
  notTuple := by decide
  hint := fun _ _ _ _ ho hq => si_hint ⟨o, ho, hex.1⟩ hq
  iter := fun _ _ hh ho => ⟨_, _, (fun _ _ hq => si_pyIter ho hex hd T hq), si_walks hh (Nat.ne_of_lt (Heap.lt_size ho)) hd T, ⟨_, 0, Heap.get?_push_size _ rfl, rfl, rfl, fun _ => below_zero T.ri⟩, Heap.get?_push_of_some _ ho⟩
end
end L2

namespace L2
open PySem PySem.Spec PyProof.Rows
/-! ### sorted(set(xs)) -/
def SetO (w : World) (a : Addr) (ks : List Nat) : HO := .ext fun h => SetW h a ks (!w.params.followText "set-order")
section
variable {X : Cx}
theorem call_setX (hc : X.calm = true) : CallR X (.type "set") (fun xs H Q => ∃ (p : Addr) (ns : List Nat), xs = [.ref p] ∧ SqL X.K H p (ns.map fun (k : Nat) => V.int (k : Int)) ∧ (∀ x ∈ ns, x < 60) ∧ ∀ l, H l = none → Q (.ref l) (upd H l (SetO X.w l (keysOf ns)))) := by
  intro pins s σ H xs us Q I r h
  obtain ⟨p, ns, rfl, hq, sm, q⟩ := h
  obtain ⟨u, rfl, rx⟩ := vals1 r
  cases rx
  obtain ⟨its, r', pl, hz⟩ := I.list hq
  have hi : IntsAre its (ns.map fun (k : Nat) => (k : Int)) := intsAre_of (by rw [List.map_map]; exact r')
  refine call_setW (I.ok.hd hc) pl.isList (ns := ns) (by simpa using hi) sm fun h' tk hS hk => ?_
  refine ⟨.ref s.heap.objs.size, _, I.laid (o := SetO X.w s.heap.objs.size (keysOf ns)) (t' := tk) (fun b u e => hk b u (Heap.lt_size e) e) (Nat.le_refl _) ?_, rfl, q _ (I.hok.fresh (Nat.le_refl _))⟩
  refine ⟨hS, ?_, fun h1 h2 a b => a.keep b⟩
  obtain ⟨o, _, _, _, ho, _⟩ := hS
  exact ⟨o, ho⟩
theorem call_sortedX (hc : X.calm = true) : CallR X (.builtin "sorted") (fun xs H Q => ∃ (p : Addr) (ks : List Nat), xs = [.ref p] ∧ H p = some (SetO X.w p ks) ∧ ks.length < 64 ∧
    ∀ (l : Addr) (ns' : List Nat), H l = none → ns'.Perm ks → ns'.Pairwise (· < ·) → Q (.ref l) (upd H l (.lst (ns'.map fun (k : Nat) => V.int (k : Int))))) := by
  intro pins s σ H xs us Q I r h
  obtain ⟨p, ks, rfl, hp, hl, q⟩ := h
  obtain ⟨u, rfl, rx⟩ := vals1 r
  cases rx
  obtain ⟨⟨o, es, ep, t, ho, hex, hd, T, sm, pm, nd⟩, _, _⟩ := I.hok p _ hp
  have len : es.size = ks.length := by
    have := pm.length_eq
    rw [List.length_map, List.length_map, Array.length_toList] at this
    exact this
  have op := orderW_perm X.w p ep es
  have olen : (orderW X.w p ep es).size = es.size := by
    have := op.length_eq
    rwa [Array.length_toList, Array.length_toList] at this
  refine sorted_src (si_src (prog := X.prog) (w := X.w) (a := p) hex hd T) (I.ok.hd hc) ho (by omega) ((orderW X.w p ep es).toList.map (·.1)) (by rw [List.length_map, Array.length_toList, olen]) (fun i v k hP hn => ?_) fun h' h2 tk out ns' c hkp hk2 hget a1 a2 a3 => ?_
  · obtain ⟨x, e1, rfl⟩ := hP
    rw [List.getElem?_map, Array.getElem?_toList, e1] at hn
    have hn : x.1 = k := Option.some.inj hn
    subst hn
    obtain ⟨m, tk, rfl, _⟩ := sm x (op.mem_iff.mp (by rw [← Array.getElem?_toList] at e1; exact List.mem_of_getElem? e1))
    exact ⟨tk, rfl⟩
  · have pk : ns'.Perm (ks.map fun (k : Nat) => (k : Int)) := a2.trans ((op.map _).trans pm)
    have ex : ns' = (ns'.map Int.toNat).map fun (k : Nat) => (k : Int) := by
      rw [List.map_map]
      refine (List.map_id ns').symm.trans (List.map_congr_left fun x hx => ?_)
      obtain ⟨k, _, rfl⟩ := List.mem_map.mp (pk.mem_iff.mp hx)
      show ((k : Nat) : Int) = (((k : Int).toNat : Nat) : Int)
      rw [Int.toNat_natCast]
    have pn : (ns'.map Int.toNat).Perm ks := by
      have := pk.map Int.toNat
      rw [List.map_map] at this
      refine this.trans (List.Perm.of_eq ((List.map_congr_left fun k _ => ?_).trans (List.map_id ks)))
      exact Int.toNat_natCast k
    have ndn : (ns'.map Int.toNat).Nodup := pn.nodup_iff.mpr nd
    have srt : (ns'.map Int.toNat).Pairwise (· < ·) := by
      have le : (ns'.map Int.toNat).Pairwise (· ≤ ·) := by
        rw [List.pairwise_map]
        exact a3.imp fun {a b} h => Int.toNat_le_toNat h
      exact (le.and ndn).imp fun {a b} ⟨x, y⟩ => Nat.lt_of_le_of_ne x y
    have I2 := I.kept (t' := tk) hkp
    have fresh : H h'.objs.size = none := I2.hok.fresh (Nat.le_refl _)
    have ev : (ns'.map Int.toNat).map (fun (k : Nat) => V.int (k : Int)) = ns'.map V.int := by
      conv => rhs; rw [ex]
      rw [List.map_map, List.map_map, List.map_map]; rfl
    have q' := q h'.objs.size (ns'.map Int.toNat) fresh pn srt
    rw [ev] at q'
    refine ⟨.ref h'.objs.size, _, I2.laid (t' := tk) (o := .lst (ns'.map V.int)) hk2 (Nat.le_refl _) ?_, rfl, q'⟩
    have big : 64 ≤ sizeLine := by decide
    exact ⟨by rw [List.length_map, pk.length_eq, List.length_map]; omega, out.toList, c, vals_ints a1, by simpa using hget⟩
end
end L2

/-! a text's index of a sign -/
namespace L2
open PySem PySem.Spec PyProof.Rows
section
variable {X : Cx}
end
end L2

/-! sum(a list of lists, start=[]) -/
namespace L2
open PySem PySem.Spec PyProof.Rows
section
variable {prog : Program} {w : World} {A : Around} {R : Result → Shared → Prop} {I : Addr} {fp wr : List Addr} {G : Array GenState → Array GenState → Prop} {n : Nat} {P : Nat → Value → Prop} {St : Nat → Shared → Prop}
end
section
variable {prog : Program} {w : World} {A : Around} {E : Value → Shared → Prop} {s : Shared}
end
section
variable {X : Cx} {te ts : TE} {e st : Expr} {p pos kp : Pos}
end
end L2

local macro_rules | `(tactic| walk_at "ns") => `(tactic| try dsimp only [List.set_cons_zero, List.set_cons_succ, _root_.L2.start, _root_.L2.gName, List.map_cons, List.map_nil, List.length_cons, List.length_nil, List.replicate_succ, List.replicate_zero, List.cons_append, List.nil_append, Nat.reduceSub, Nat.reduceAdd])
namespace Prf
open PySem L2 Kin
def top (i : Nat) : PySem.Stmt := PySem.Challenge.pw_kinturns_k08_whole_the_first_table.main.body.getD i (.Pass ⟨0, 0, 0, 0⟩)
structure Ad where
  KinError : Addr
  NoTable : Addr
  NoClass : Addr
  NoWalk : Addr
  NoRule : Addr
  WORDS : Addr
structure Txt (K : PySem.W.Frag) (mg : Str → Option Value) (C : Addr) (e : Ad) : Prop where
  m_Table : mg "Table" = some (.ref C)
  cl_Table : Cls K C
  n_wife_turn : NoAttr K C "wife_turn"
  n_heir_turn : NoAttr K C "heir_turn"
  n_husband_turn : NoAttr K C "husband_turn"
  n_father_turn : NoAttr K C "father_turn"
  z_ValueError : mg "ValueError" = none
  z_bool : mg "bool" = none
  z_enumerate : mg "enumerate" = none
  z_int : mg "int" = none
  z_isinstance : mg "isinstance" = none
  z_len : mg "len" = none
  z_list : mg "list" = none
  z_max : mg "max" = none
  z_min : mg "min" = none
  z_range : mg "range" = none
  z_set : mg "set" = none
  z_sorted : mg "sorted" = none
  z_tuple : mg "tuple" = none
  g_MOST_CLASSES : ∃ u, mg "MOST_CLASSES" = some u ∧ RelV (.int 8) u
  g_LETTERS : ∃ u, mg "LETTERS" = some u ∧ RelV (.str "fmsdpbz") u
  g_LETTERS_TO_MEN : ∃ u, mg "LETTERS_TO_MEN" = some u ∧ RelV (.str "fsb") u
  g_MOST_LETTERS : ∃ u, mg "MOST_LETTERS" = some u ∧ RelV (.int 60) u
  m_WORDS : mg "WORDS" = some (.ref e.WORDS)
  q_WORDS : ∀ H : Hp, SqT K H e.WORDS [.str "may", .str "never"]
  kd : PySem.W.specialIn K (.builtin "object.__class__") "__get__" = some (some (.builtin "getset_descriptor.__get__")) ∧ PySem.W.takesIn K (.builtin "object.__class__") = some true
  m_KinError : mg "KinError" = some (.ref e.KinError)
  m_NoTable : mg "NoTable" = some (.ref e.NoTable)
  x_NoTable : PySem.W.excIn K e.NoTable bmVE "ValueError.__new__" = true
  c_NoTable : ExcCls K e.NoTable
  w_NoTable : PySem.W.exmOne K (.ref e.NoTable) (.ref e.KinError) = some true
  v_NoTable : PySem.W.kitOne K (.ref e.NoTable) (.type "ValueError") = some true
  k_NoTable_NoTable : PySem.W.kitOne K (.ref e.NoTable) (.ref e.NoTable) = some true
  k_NoTable_NoClass : PySem.W.kitOne K (.ref e.NoTable) (.ref e.NoClass) = some false
  k_NoTable_NoWalk : PySem.W.kitOne K (.ref e.NoTable) (.ref e.NoWalk) = some false
  k_NoTable_NoRule : PySem.W.kitOne K (.ref e.NoTable) (.ref e.NoRule) = some false
  m_NoClass : mg "NoClass" = some (.ref e.NoClass)
  x_NoClass : PySem.W.excIn K e.NoClass bmVE "ValueError.__new__" = true
  c_NoClass : ExcCls K e.NoClass
  w_NoClass : PySem.W.exmOne K (.ref e.NoClass) (.ref e.KinError) = some true
  v_NoClass : PySem.W.kitOne K (.ref e.NoClass) (.type "ValueError") = some true
  k_NoClass_NoTable : PySem.W.kitOne K (.ref e.NoClass) (.ref e.NoTable) = some false
  k_NoClass_NoClass : PySem.W.kitOne K (.ref e.NoClass) (.ref e.NoClass) = some true
  k_NoClass_NoWalk : PySem.W.kitOne K (.ref e.NoClass) (.ref e.NoWalk) = some false
  k_NoClass_NoRule : PySem.W.kitOne K (.ref e.NoClass) (.ref e.NoRule) = some false
  m_NoWalk : mg "NoWalk" = some (.ref e.NoWalk)
  x_NoWalk : PySem.W.excIn K e.NoWalk bmVE "ValueError.__new__" = true
  c_NoWalk : ExcCls K e.NoWalk
  w_NoWalk : PySem.W.exmOne K (.ref e.NoWalk) (.ref e.KinError) = some true
  v_NoWalk : PySem.W.kitOne K (.ref e.NoWalk) (.type "ValueError") = some true
  k_NoWalk_NoTable : PySem.W.kitOne K (.ref e.NoWalk) (.ref e.NoTable) = some false
  k_NoWalk_NoClass : PySem.W.kitOne K (.ref e.NoWalk) (.ref e.NoClass) = some false
  k_NoWalk_NoWalk : PySem.W.kitOne K (.ref e.NoWalk) (.ref e.NoWalk) = some true
  k_NoWalk_NoRule : PySem.W.kitOne K (.ref e.NoWalk) (.ref e.NoRule) = some false
  m_NoRule : mg "NoRule" = some (.ref e.NoRule)
  x_NoRule : PySem.W.excIn K e.NoRule bmVE "ValueError.__new__" = true
  c_NoRule : ExcCls K e.NoRule
  w_NoRule : PySem.W.exmOne K (.ref e.NoRule) (.ref e.KinError) = some true
  v_NoRule : PySem.W.kitOne K (.ref e.NoRule) (.type "ValueError") = some true
  k_NoRule_NoTable : PySem.W.kitOne K (.ref e.NoRule) (.ref e.NoTable) = some false
  k_NoRule_NoClass : PySem.W.kitOne K (.ref e.NoRule) (.ref e.NoClass) = some false
  k_NoRule_NoWalk : PySem.W.kitOne K (.ref e.NoRule) (.ref e.NoWalk) = some false
  k_NoRule_NoRule : PySem.W.kitOne K (.ref e.NoRule) (.ref e.NoRule) = some true
/-! what all laws share -/
def sexS (m : Bool) : Str := if m then "man" else "woman"
abbrev sexV (m : Bool) : V := .str (sexS m)
def pairV (s : Bool × Nat) : List V := [sexV s.1, nat s.2]
theorem sex_man (m : Bool) : decide (sexV m = V.str "man") = m := by cases m <;> decide +kernel
theorem sex_woman (m : Bool) : decide (sexV m = V.str "woman") = !m := by cases m <;> decide +kernel
theorem emod_nat (z : Int) {k : Nat} (hk : 0 < k) : ∃ q : Nat, z % (k : Int) = (q : Int) ∧ q < k :=
  ⟨(z % (k : Int)).toNat, by have := Int.emod_nonneg z (show (k : Int) ≠ 0 by omega); omega, by have := Int.emod_lt_of_pos z (show (0 : Int) < k by omega); have := Int.emod_nonneg z (show (k : Int) ≠ 0 by omega); omega⟩
/-- the class is one of n -/
abbrev InC (n : Nat) (c : Int) : Prop := 0 ≤ c ∧ c < (n : Int)
theorem log_small {n : Nat} (h : n < 10 ^ 9) : n.log2 < 1920 := by
  by_cases z : n = 0
  · subst z; decide
  · exact (Nat.log2_lt z).mpr (Nat.lt_trans h (Nat.lt_of_lt_of_le (by decide : 10 ^ 9 < 2 ^ 30) (Nat.pow_le_pow_right (by decide) (by decide))))
theorem bt_max : PySem.bootBuiltins "max" = some (.builtin "max") := by decide +kernel
--CUT
/-! THE PROGRAM'S DEFS: tables and walks, each by its promise. -/
/-! ### what a table looks like -/
theorem s12 : ¬ (("wife_turn" : Str) = "heir_turn") := by decide +kernel
theorem s13 : ¬ (("wife_turn" : Str) = "husband_turn") := by decide +kernel
theorem s14 : ¬ (("wife_turn" : Str) = "father_turn") := by decide +kernel
theorem s23 : ¬ (("heir_turn" : Str) = "husband_turn") := by decide +kernel
theorem s24 : ¬ (("heir_turn" : Str) = "father_turn") := by decide +kernel
theorem s34 : ¬ (("husband_turn" : Str) = "father_turn") := by decide +kernel
def flds (a b c d : Addr) : List (Str × V) := putF "father_turn" (.ref d) (putF "husband_turn" (.ref c) (putF "heir_turn" (.ref b) (putF "wife_turn" (.ref a) [])))
theorem flds_w (a b c d : Addr) : (flds a b c d).lookup ("wife_turn" : Str) = some (.ref a) := by
  unfold flds
  rw [lookup_putF, if_neg s14, lookup_putF, if_neg s13, lookup_putF, if_neg s12, lookup_putF, if_pos rfl]
theorem flds_h (a b c d : Addr) : (flds a b c d).lookup ("heir_turn" : Str) = some (.ref b) := by
  unfold flds
  rw [lookup_putF, if_neg s24, lookup_putF, if_neg s23, lookup_putF, if_pos rfl]
theorem flds_u (a b c d : Addr) : (flds a b c d).lookup ("husband_turn" : Str) = some (.ref c) := by
  unfold flds
  rw [lookup_putF, if_neg s34, lookup_putF, if_pos rfl]
theorem flds_f (a b c d : Addr) : (flds a b c d).lookup ("father_turn" : Str) = some (.ref d) := by
  unfold flds
  rw [lookup_putF, if_pos rfl]
theorem flds_no (a b c d : Addr) {m : Str} (h1 : ¬ m = "father_turn") (h2 : ¬ m = "husband_turn") (h3 : ¬ m = "heir_turn") (h4 : ¬ m = "wife_turn") : (flds a b c d).lookup m = none := by
  unfold flds
  rw [lookup_putF, if_neg h1, lookup_putF, if_neg h2, lookup_putF, if_neg h3, lookup_putF, if_neg h4]
  all_goals rfl
structure TableAt (C : Addr) (H : Hp) (p : Addr) (n : Nat) (w h : List Nat) : Prop where
  tw : IsTurn n w
  th : IsTurn n h
  n1 : 1 ≤ n
  n8 : n ≤ 8
  ob : ∃ dx a b c d, H p = some (.ins C dx (flds a b c d)) ∧ H a = some (.lst (natL w)) ∧ H b = some (.lst (natL h)) ∧ H c = some (.lst (natL (inv w))) ∧ H d = some (.lst (natL (inv h)))
theorem TableAt.same {C : Addr} {H H' : Hp} {p : Addr} {n : Nat} {w h : List Nat} (T : TableAt C H p n w h) (s : Same H H') : TableAt C H' p n w h := by
  obtain ⟨tw, th, n1, n8, dx, a, b, c, d, e1, e2, e3, e4, e5⟩ := T
  exact ⟨tw, th, n1, n8, dx, a, b, c, d, s _ _ e1, s _ _ e2, s _ _ e3, s _ _ e4, s _ _ e5⟩
/-! ### the promises -/
def spSize (C : Addr) : Sp := fun vs H Q _ => ∃ p n w h, vs = [.ref p] ∧ TableAt C H p n w h ∧ Q (nat n) H
def spAsk (C : Addr) (e : Ad) (g : List Nat → List Nat → Nat → V) : Sp := fun vs H Q E => ∃ (p : Addr) (n : Nat) (w h : List Nat) (c : Int), vs = [.ref p, .int c] ∧ TableAt C H p n w h ∧ c.natAbs.log2 < 1920 ∧ (InC n c → Q (g w h c.toNat) H) ∧ (¬ InC n c → E (.ref e.NoClass) none H)
abbrev spCheck (C : Addr) (e : Ad) : Sp := spAsk C e fun _ _ _ => .non
abbrev spWife (C : Addr) (e : Ad) : Sp := spAsk C e fun w _ c => nat (fw w c)
abbrev spHusband (C : Addr) (e : Ad) : Sp := spAsk C e fun w _ c => nat (bw w c)
abbrev spHeir (C : Addr) (e : Ad) : Sp := spAsk C e fun _ h c => nat (fw h c)
abbrev spFather (C : Addr) (e : Ad) : Sp := spAsk C e fun _ h c => nat (bw h c)
/-- .. asked for a class -/
def spAskN (C : Addr) (g : List Nat → List Nat → Nat → V) : Sp := fun vs H Q _ => ∃ p n w h c, vs = [.ref p, nat c] ∧ TableAt C H p n w h ∧ c < n ∧ Q (g w h c) H
theorem askN {C : Addr} {e : Ad} {g : List Nat → List Nat → Nat → V} : ∀ vs H Q E, spAskN C g vs H Q E → spAsk C e g vs H Q E := by
  rintro vs H Q E ⟨p, n, w, h, c, rfl, TA, hc, k⟩
  have n8 := TA.n8
  have p9 : (8 : Nat) < 10 ^ 9 := by decide
  exact ⟨p, n, w, h, (c : Int), rfl, TA, log_small (by show ((c : Nat) : Int).natAbs < 10 ^ 9; omega), fun _ => by rw [Int.toNat_natCast]; exact k, fun z => absurd ⟨by omega, by omega⟩ z⟩
def spPartnerClass (C : Addr) : Sp := fun vs H Q _ => ∃ p n w h m c, vs = [.ref p, sexV m, nat c] ∧ TableAt C H p n w h ∧ c < n ∧ Q (nat (if m then fw w c else bw w c)) H
def spChildClass (C : Addr) : Sp := fun vs H Q _ => ∃ p n w h m c, vs = [.ref p, sexV m, nat c] ∧ TableAt C H p n w h ∧ c < n ∧ Q (nat (fw h (if m then c else bw w c))) H
def spClassAfter (C : Addr) : Sp := fun vs H Q _ => ∃ p n w h m c l, vs = [.ref p, sexV m, nat c, sgn l] ∧ TableAt C H p n w h ∧ c < n ∧ IsL l ∧ Q (nat (stC w h m c l)) H
def spIsTurn : Sp := fun vs H Q _ => ∃ (a : Addr) (xs : List Int) (n : Nat), vs = [.ref a, nat n] ∧ H a = some (.lst (xs.map V.int)) ∧ xs.length < 64 ∧ n ≤ 8 ∧ ∀ H', Same H H' → Q (.bl (decide (xs.Perm (intL (List.range n))))) H'
def spTurnedBack : Sp := fun vs H Q _ => ∃ a w n, vs = [.ref a] ∧ H a = some (.lst (natL w)) ∧ IsTurn n w ∧ n ≤ 8 ∧ ∀ D H', H D = none → Same H H' → H' D = some (.lst (natL (inv w))) → Q (.ref D) H'
def spInit (C : Addr) : Sp := fun vs H Q _ => ∃ x dx a b w h n, vs = [.ref x, .ref a, .ref b] ∧ H x = some (.ins C dx []) ∧ H a = some (.lst (natL w)) ∧ H b = some (.lst (natL h)) ∧ IsTurn n w ∧ IsTurn n h ∧ 1 ≤ n ∧ n ≤ 8 ∧
  ∀ H', (∀ c o, H c = some o → c ≠ x → H' c = some o) → TableAt C H' x n w h → Q .non H'
section
variable {P : Program} {w : World} {K : PySem.W.Frag} {mg : Str → Option Value} {base : Heap} {CX : CXT} {C : Addr} {e : Ad}
/-! ### small facts -/
theorem atN {w : List Nat} {n c : Nat} (h : IsTurn n w) (hc : c < n) : atI (natL w) (c : Int) = some (nat (fw w c)) := atI_nat (natL_get (fw_get h hc))
theorem atInv {w : List Nat} {n c : Nat} (h : IsTurn n w) (hc : c < n) : atI (natL (inv w)) (c : Int) = some (nat (bw w c)) := atI_nat (natL_get (inv_get h hc))
/-! ### size -/
theorem sc_size : FnScope ["self"] ["self"] (defScope (inClass (top 10) 1)) := ⟨rfl, rfl, rfl, by decide +kernel, rfl, by decide +kernel, by decide +kernel⟩
theorem ok_size {f : Addr} {fd : FuncData} (F : Fun K "size" "Table.size" (inClass (top 10) 1) f fd) (T : Txt K mg C e) : FnOk P w K mg base CX 1 f fd ["self"] (spSize C) := by
  refine F.okN sc_size (fun vs H Q E h => ?_) (fun cdv A outer s H vs Q E hr h => ?_)
  · obtain ⟨p, n, w, h, rfl, _⟩ := h; rfl
  · obtain ⟨p, n, w', h', rfl, TA, k⟩ := h
    obtain ⟨dx, a, b, c, d, e1, e2, e3, e4, e5⟩ := TA.ob
    refine ⟨_, (pss_one (ps_ret (pe_callB call_len_seq rfl T.z_len PySem.boot_len (pa_cons (pe_fld (pv 0) rfl) pa_nil)))), ?_⟩
    refine ⟨_, rfl, p, C, dx, _, _, rfl, e1, T.cl_Table, T.n_wife_turn, flds_w .., a, _, rfl, .inl (SqL.of e2), ?_⟩
    rw [natL_len, TA.tw.len]
    exact k
/-! ### check_class -/
theorem sc_check : FnScope ["self", "c"] ["self", "c"] (defScope (inClass (top 10) 2)) := ⟨rfl, rfl, rfl, by decide +kernel, rfl, by decide +kernel, by decide +kernel⟩
theorem ok_check {f : Addr} {fd : FuncData} (F : Fun K "check_class" "Table.check_class" (inClass (top 10) 2) f fd) (T : Txt K mg C e) : FnOk P w K mg base (CXR P w) 1 f fd ["self", "c"] (spCheck C e) := by
  refine F.okX sc_check (fun vs H Q E h => ?_) (fun cdv A outer s H vs Q E hr hx h => ?_)
  · obtain ⟨p, n, w, h, c, rfl, _⟩ := h; rfl
  · obtain ⟨p, n, w', h', c, rfl, TA, sm, k, kE⟩ := h
    obtain ⟨dx, a, b, c1, d, e1, e2, e3, e4, e5⟩ := TA.ob
    refine ⟨_, (pss_one (ps_if (PW.pt (pw_or (pt_cmpR op_lt (pv 1) pe_int (nomark _)) (pw_or1 (pt_cmpR op_ge (pv 1) (pe_callB call_len_seq rfl T.z_len PySem.boot_len (pa_cons (pe_fld (pv 0) rfl) pa_nil)) (nomark _))))) (pss_one (ps_rais hx T.m_NoClass T.x_NoClass hr rfl (pa_cons (pe_join (pj_cst (pj_int (pv 1) pj_nil))) pa_nil))) pss_nil)), ?_⟩
    refine ⟨_, rfl, _, _, rfl, rfl, _, rfl, iteD2 (fun q => ?_) (fun q => ?_)⟩
    · exact iteT ⟨by decide, _, rfl, _, rfl, sm, by decide, by decide, fun _ => ⟨one_fits, kE fun z => absurd z.1 (by omega)⟩⟩
    refine ⟨_, rfl, _, rfl, p, C, dx, _, _, rfl, e1, T.cl_Table, T.n_wife_turn, flds_w .., a, _, rfl, .inl (SqL.of e2), _, _, rfl, rfl, _, rfl, ?_⟩
    rw [natL_len, TA.tw.len]
    refine iteD2 (fun q' => ?_) (fun q' => ?_)
    · exact ⟨by decide, _, rfl, _, rfl, sm, by decide, by decide, fun _ => ⟨one_fits, kE fun z => absurd z.2 (by omega)⟩⟩
    · exact k ⟨by omega, by omega⟩
/-! ### the four -/
theorem sc_wife : FnScope ["self", "c"] ["self", "c"] (defScope (inClass (top 10) 3)) := ⟨rfl, rfl, rfl, by decide +kernel, rfl, by decide +kernel, by decide +kernel⟩
theorem ok_wife {f : Addr} {fd : FuncData} (F : Fun K "wife_of" "Table.wife_of" (inClass (top 10) 3) f fd) (T : Txt K mg C e) (D_check_class : MDef P w K mg base (CXR P w) C "check_class" 1 ["self", "c"] (spCheck C e)) : FnOk P w K mg base (CXR P w) 2 f fd ["self", "c"] (spWife C e) := by
  refine F.okX sc_wife (fun vs H Q E h => ?_) (fun cdv A outer s H vs Q E hr hx h => ?_)
  · obtain ⟨p, n, w, h, c, rfl, _⟩ := h; rfl
  · obtain ⟨p, n, w', h', c, rfl, TA, sm, k, kE⟩ := h
    obtain ⟨dx, a, b, c1, d, e1, e2, e3, e4, e5⟩ := TA.ob
    refine ⟨_, (pss_cons (ps_expr (pe_methX (pv 0) T.cl_Table D_check_class hx.s hr (pa_cons (pv 1) pa_nil)))
      (pss_one (ps_ret (pe_ix ix_list (pe_fld (pv 0) rfl) (pv 1) (fun _ _ => rfl))))), ?_⟩
    refine ⟨_, rfl, p, dx, _, rfl, e1, flds_no _ _ _ _ (by decide +kernel) (by decide +kernel) (by decide +kernel) (by decide +kernel), _, rfl, p, n, w', h', c, rfl, TA, sm, fun hc => ?_, kE⟩
    have hn : c.toNat < n := by obtain ⟨h1, h2⟩ := hc; omega
    have ec : c = ((c.toNat : Nat) : Int) := by obtain ⟨h1, h2⟩ := hc; omega
    have kk := k hc
    rw [ec]
    exact ⟨_, rfl, p, C, dx, _, _, rfl, e1, T.cl_Table, T.n_wife_turn, flds_w .., _, rfl, a, _, _, _, rfl, rfl, SqL.of e2, atN TA.tw hn, kk⟩
theorem sc_husband : FnScope ["self", "c"] ["self", "c"] (defScope (inClass (top 10) 4)) := ⟨rfl, rfl, rfl, by decide +kernel, rfl, by decide +kernel, by decide +kernel⟩
theorem ok_husband {f : Addr} {fd : FuncData} (F : Fun K "husband_of" "Table.husband_of" (inClass (top 10) 4) f fd) (T : Txt K mg C e) (D_check_class : MDef P w K mg base (CXR P w) C "check_class" 1 ["self", "c"] (spCheck C e)) : FnOk P w K mg base (CXR P w) 2 f fd ["self", "c"] (spHusband C e) := by
  refine F.okX sc_husband (fun vs H Q E h => ?_) (fun cdv A outer s H vs Q E hr hx h => ?_)
  · obtain ⟨p, n, w, h, c, rfl, _⟩ := h; rfl
  · obtain ⟨p, n, w', h', c, rfl, TA, sm, k, kE⟩ := h
    obtain ⟨dx, a, b, c1, d, e1, e2, e3, e4, e5⟩ := TA.ob
    refine ⟨_, (pss_cons (ps_expr (pe_methX (pv 0) T.cl_Table D_check_class hx.s hr (pa_cons (pv 1) pa_nil)))
      (pss_one (ps_ret (pe_ix ix_list (pe_fld (pv 0) rfl) (pv 1) (fun _ _ => rfl))))), ?_⟩
    refine ⟨_, rfl, p, dx, _, rfl, e1, flds_no _ _ _ _ (by decide +kernel) (by decide +kernel) (by decide +kernel) (by decide +kernel), _, rfl, p, n, w', h', c, rfl, TA, sm, fun hc => ?_, kE⟩
    have hn : c.toNat < n := by obtain ⟨h1, h2⟩ := hc; omega
    have ec : c = ((c.toNat : Nat) : Int) := by obtain ⟨h1, h2⟩ := hc; omega
    have kk := k hc
    rw [ec]
    exact ⟨_, rfl, p, C, dx, _, _, rfl, e1, T.cl_Table, T.n_husband_turn, flds_u .., _, rfl, c1, _, _, _, rfl, rfl, SqL.of e4, atInv TA.tw hn, kk⟩
theorem sc_heir : FnScope ["self", "c"] ["self", "c"] (defScope (inClass (top 10) 5)) := ⟨rfl, rfl, rfl, by decide +kernel, rfl, by decide +kernel, by decide +kernel⟩
theorem ok_heir {f : Addr} {fd : FuncData} (F : Fun K "heir_of" "Table.heir_of" (inClass (top 10) 5) f fd) (T : Txt K mg C e) (D_check_class : MDef P w K mg base (CXR P w) C "check_class" 1 ["self", "c"] (spCheck C e)) : FnOk P w K mg base (CXR P w) 2 f fd ["self", "c"] (spHeir C e) := by
  refine F.okX sc_heir (fun vs H Q E h => ?_) (fun cdv A outer s H vs Q E hr hx h => ?_)
  · obtain ⟨p, n, w, h, c, rfl, _⟩ := h; rfl
  · obtain ⟨p, n, w', h', c, rfl, TA, sm, k, kE⟩ := h
    obtain ⟨dx, a, b, c1, d, e1, e2, e3, e4, e5⟩ := TA.ob
    refine ⟨_, (pss_cons (ps_expr (pe_methX (pv 0) T.cl_Table D_check_class hx.s hr (pa_cons (pv 1) pa_nil)))
      (pss_one (ps_ret (pe_ix ix_list (pe_fld (pv 0) rfl) (pv 1) (fun _ _ => rfl))))), ?_⟩
    refine ⟨_, rfl, p, dx, _, rfl, e1, flds_no _ _ _ _ (by decide +kernel) (by decide +kernel) (by decide +kernel) (by decide +kernel), _, rfl, p, n, w', h', c, rfl, TA, sm, fun hc => ?_, kE⟩
    have hn : c.toNat < n := by obtain ⟨h1, h2⟩ := hc; omega
    have ec : c = ((c.toNat : Nat) : Int) := by obtain ⟨h1, h2⟩ := hc; omega
    have kk := k hc
    rw [ec]
    exact ⟨_, rfl, p, C, dx, _, _, rfl, e1, T.cl_Table, T.n_heir_turn, flds_h .., _, rfl, b, _, _, _, rfl, rfl, SqL.of e3, atN TA.th hn, kk⟩
theorem sc_father : FnScope ["self", "c"] ["self", "c"] (defScope (inClass (top 10) 6)) := ⟨rfl, rfl, rfl, by decide +kernel, rfl, by decide +kernel, by decide +kernel⟩
theorem ok_father {f : Addr} {fd : FuncData} (F : Fun K "father_of" "Table.father_of" (inClass (top 10) 6) f fd) (T : Txt K mg C e) (D_check_class : MDef P w K mg base (CXR P w) C "check_class" 1 ["self", "c"] (spCheck C e)) : FnOk P w K mg base (CXR P w) 2 f fd ["self", "c"] (spFather C e) := by
  refine F.okX sc_father (fun vs H Q E h => ?_) (fun cdv A outer s H vs Q E hr hx h => ?_)
  · obtain ⟨p, n, w, h, c, rfl, _⟩ := h; rfl
  · obtain ⟨p, n, w', h', c, rfl, TA, sm, k, kE⟩ := h
    obtain ⟨dx, a, b, c1, d, e1, e2, e3, e4, e5⟩ := TA.ob
    refine ⟨_, (pss_cons (ps_expr (pe_methX (pv 0) T.cl_Table D_check_class hx.s hr (pa_cons (pv 1) pa_nil)))
      (pss_one (ps_ret (pe_ix ix_list (pe_fld (pv 0) rfl) (pv 1) (fun _ _ => rfl))))), ?_⟩
    refine ⟨_, rfl, p, dx, _, rfl, e1, flds_no _ _ _ _ (by decide +kernel) (by decide +kernel) (by decide +kernel) (by decide +kernel), _, rfl, p, n, w', h', c, rfl, TA, sm, fun hc => ?_, kE⟩
    have hn : c.toNat < n := by obtain ⟨h1, h2⟩ := hc; omega
    have ec : c = ((c.toNat : Nat) : Int) := by obtain ⟨h1, h2⟩ := hc; omega
    have kk := k hc
    rw [ec]
    exact ⟨_, rfl, p, C, dx, _, _, rfl, e1, T.cl_Table, T.n_father_turn, flds_f .., _, rfl, d, _, _, _, rfl, rfl, SqL.of e5, atInv TA.th hn, kk⟩
/-! ### is_turn, turned_back, __init__ -/
theorem rngV_intL (n : Nat) : rngV 0 (n : Int) = (intL (List.range n)).map V.int := by
  unfold rngV intL
  rw [List.map_map]
  have e : ((n : Int) - 0).toNat = n := by omega
  rw [e]
  exact List.map_congr_left fun i _ => by simp
theorem intL_flat (xs : List Int) : (xs.map V.int).all flatV = true := by
  rw [List.all_map]
  exact List.all_eq_true.mpr fun _ _ => rfl
theorem natL_intL (w : List Nat) : natL w = (intL w).map V.int := by
  unfold natL intL
  rw [List.map_map]
  rfl
theorem sc_isturn : FnScope ["row", "many"] ["row", "many"] (defScope (top 8)) := ⟨rfl, rfl, rfl, by decide +kernel, rfl, by decide +kernel, by decide +kernel⟩
theorem ok_isturn {f : Addr} {fd : FuncData} (F : Fun K "is_turn" "is_turn" (top 8) f fd) (T : Txt K mg C e) : FnOk P w K mg base CX 1 f fd ["row", "many"] spIsTurn := by
  refine F.okN sc_isturn (fun vs H Q E h => ?_) (fun cdv A outer s H vs Q E hr h => ?_)
  · obtain ⟨a, xs, n, rfl, _⟩ := h; rfl
  · obtain ⟨a, xs, n, rfl, ha, hl, hn, k⟩ := h
    have hu := hr.units0
    refine ⟨_, (pss_one (ps_ret (pe_cmpR (op_eqL hu) (pe_callB call_sorted rfl T.z_sorted bt_sorted (pa_cons (pv 0) pa_nil)) (pe_callTy (call_list_rng rfl) rfl T.z_list bt_list (pa_cons (pe_rng1 rfl T.z_range (pa_cons (pv 1) pa_nil)) pa_nil)) (nomark _)))), ?_⟩
    refine ⟨_, rfl, a, xs, rfl, SqL.of ha, hl, fun l ns' hl' hp hs => ?_⟩
    refine ⟨_, rfl, _, rfl, fun r hr' => ?_⟩
    have hlr : l ≠ r := ne_of_none upd_same hr'
    refine ⟨r, 0, _, rfl, upd_same, by decide, by decide, by omega, by omega, by omega, fun g hg => ?_⟩
    have hlg : l ≠ g := ne_of_none (show (upd (upd H l (.lst (ns'.map V.int))) r (.rng 0 (n : Int))) l = some (.lst (ns'.map V.int)) by rw [upd_ne hlr, upd_same]) hg
    refine ⟨l, g, ns'.map V.int, rngV 0 (n : Int), rfl, rfl, SqL.of (by rw [upd_ne hlg, upd_ne hlr, upd_same]), SqL.of upd_same, intL_flat _, by rw [rngV_intL]; exact intL_flat _, ?_⟩
    have e : eqVs (ns'.map V.int) (rngV 0 (n : Int)) = decide (xs.Perm (intL (List.range n))) := by
      rw [rngV_intL, eqVs_intL]
      by_cases q : xs.Perm (intL (List.range n))
      · rw [decide_eq_true q, decide_eq_true (sorted_unique (hp.trans q) hs (range_sorted n))]
      · rw [decide_eq_false q, decide_eq_false fun z => q (by rw [← z]; exact hp.symm)]
    show Q (.bl (eqVs (ns'.map V.int) (rngV 0 (n : Int)))) _
    rw [e]
    refine k _ fun b o hb => ?_
    have h1 : b ≠ l := ne_of_none hb hl'
    have h2 : (upd H l (.lst (ns'.map V.int))) b = some o := by rw [upd_ne h1]; exact hb
    have h3 : b ≠ r := ne_of_none h2 hr'
    have h4 : (upd (upd H l (.lst (ns'.map V.int))) r (.rng 0 (n : Int))) b = some o := by rw [upd_ne h3]; exact h2
    rw [upd_ne (ne_of_none h4 hg)]
    exact h4
theorem sc_tback : FnScope ["turn"] ["turn"] (defScope (top 9)) := ⟨rfl, rfl, rfl, by decide +kernel, rfl, by decide +kernel, by decide +kernel⟩
theorem idx_intL : ∀ (w : List Nat) (c : Nat), (intL w).idxOf (c : Int) = w.idxOf c
  | [], _ => rfl
  | a :: r, c => by
    show List.idxOf (c : Int) ((a : Int) :: intL r) = _
    rw [List.idxOf_cons, List.idxOf_cons, idx_intL r c]
    have e : ((a : Int) == (c : Int)) = (a == c) := by
      by_cases q : a = c
      · subst q; simp
      · rw [beq_eq_false_iff_ne.mpr q, beq_eq_false_iff_ne.mpr (by omega)]
    rw [e]
theorem mem_intL {w : List Nat} {c : Nat} (h : c ∈ w) : (c : Int) ∈ intL w := List.mem_map.mpr ⟨c, h, rfl⟩
theorem ok_tback {f : Addr} {fd : FuncData} (F : Fun K "turned_back" "turned_back" (top 9) f fd) (T : Txt K mg C e) : FnOk P w K mg base CX 1 f fd ["turn"] spTurnedBack := by
  refine F.okN sc_tback (fun vs H Q E h => ?_) (fun cdv A outer s H vs Q E hr h => ?_)
  · obtain ⟨a, w, n, rfl, _⟩ := h; rfl
  · obtain ⟨a, w', n, rfl, ha, tw, hn, k⟩ := h
    refine ⟨_, (pss_one (ps_ret (pe_comp (fv := [("turn", 0)]) ⟨rfl, by decide +kernel, rfl, by decide +kernel, rfl, by decide +kernel, ⟨⟨rfl, Or.inl rfl, Or.inl rfl, rfl⟩, trivial⟩, rfl, rfl⟩ rfl (pi_range1 rfl T.z_range (pa_cons (pe_callB call_len_seq rfl T.z_len PySem.boot_len (pa_cons (pv 0) pa_nil)) pa_nil)) (fun _ _ _ => (pe_bm PySem.F.plainAttrs_list PySem.F.slot_list_index PySem.F.type_list_index mt_index (pv 1) (pa_cons (pv 0) pa_nil)))))), ?_⟩
    refine ⟨_, rfl, a, _, rfl, .inl (SqL.of ha), _, rfl, by rw [natL_len, tw.len]; omega, by rw [natL_len, tw.len]; omega, ?_⟩
    have e : (((natL w').length : Nat) : Int).toNat = n := by rw [natL_len, tw.len]; omega
    rw [e]
    refine comp_range (fun i => nat (bw w' i)) (by have := (show 8 ≤ sizeLine by decide); omega) (fun i H' R hi sm kk _ _ _ => ?_) fun D H2 hD sm hl => ?_
    · refine ⟨_, rfl, .inl ⟨rfl, _, SqL.of (sm _ _ ha)⟩, _, rfl, a, intL w', ((0 : Int) + (i : Nat)), rfl, rfl, SqL.of (by rw [← natL_intL]; exact sm _ _ ha), ?_, ?_⟩
      · rw [Int.zero_add]; exact mem_intL (tw.mem.mpr hi)
      · rw [Int.zero_add, idx_intL]; exact kk H' (Same.refl _)
    · refine k D H2 hD sm ?_
      rw [hl]
      unfold natL inv
      rw [tw.len, List.map_map]
      rfl
end


--CUT
/-! __init__, both ways; wives, heirs -/
def Good (xs ys : List Int) : Prop := ∃ n w h, xs = intL w ∧ ys = intL h ∧ IsTurn n w ∧ IsTurn n h ∧ 1 ≤ n ∧ n ≤ 8
abbrev Sm (xs : List Int) : Prop := xs.length < 64 ∧ ∀ i ∈ xs, i.natAbs.log2 < 1920
def spInitX (C : Addr) (e : Ad) : Sp := fun vs H Q E => ∃ (x dx a b : Addr) (xs ys : List Int), vs = [.ref x, .ref a, .ref b] ∧ H x = some (.ins C dx []) ∧ H a = some (.lst (xs.map V.int)) ∧ H b = some (.lst (ys.map V.int)) ∧ Sm xs ∧ Sm ys ∧
  (∀ n w h, xs = intL w → ys = intL h → IsTurn n w → IsTurn n h → 1 ≤ n → n ≤ 8 → ∀ H', (∀ c o, H c = some o → c ≠ x → H' c = some o) → (∀ H'', (∀ c o, H' c = some o → H c = none ∨ c = x → H'' c = some o) → TableAt C H'' x n w h) → Q .non H') ∧ (¬ Good xs ys → ∀ H', Same H H' → E (.ref e.NoTable) none H')
theorem turn_sm {n : Nat} {w : List Nat} (h : IsTurn n w) (n8 : n ≤ 8) : Sm (intL w) := by
  refine ⟨by rw [intL_len, h.len]; omega, fun i hi => ?_⟩
  obtain ⟨c, hc, rfl⟩ := List.mem_map.mp hi
  have := h.mem.mp hc
  have p9 : (8 : Nat) < 10 ^ 9 := by decide
  exact log_small (by show ((c : Nat) : Int).natAbs < 10 ^ 9; omega)
theorem intL_inj : ∀ {a b : List Nat}, intL a = intL b → a = b
  | [], [], _ => rfl
  | [], _ :: _, h => by cases h
  | _ :: _, [], h => by cases h
  | x :: a, y :: b, h => by
    have h1 : (x : Int) = (y : Int) := (List.cons.inj h).1
    have h2 : intL a = intL b := (List.cons.inj h).2
    rw [intL_inj h2, Int.ofNat.inj h1]
theorem initN {C : Addr} {e : Ad} : ∀ vs H Q E, spInit C vs H Q E → spInitX C e vs H Q E := by
  rintro vs H Q E ⟨x, dx, a, b, w, h, n, rfl, hx, ha, hb, tw, th, n1, n8, k⟩
  refine ⟨x, dx, a, b, intL w, intL h, rfl, hx, by rw [← natL_intL]; exact ha, by rw [← natL_intL]; exact hb, turn_sm tw n8, turn_sm th n8, fun m w2 h2 e1 e2 t1 t2 _ _ => ?_, fun z => absurd ⟨n, w, h, rfl, rfl, tw, th, n1, n8⟩ z⟩
  cases intL_inj e1
  cases intL_inj e2
  have : m = n := by rw [← t1.len, tw.len]
  subst this
  exact fun H' kp TT => k H' kp (TT H' fun c o h _ => h)
theorem perm_turn {xs : List Int} {n : Nat} (h : xs.Perm (intL (List.range n))) : ∃ w, xs = intL w ∧ IsTurn n w := by
  have nn : ∀ i ∈ xs, 0 ≤ i := fun i hi => by
    obtain ⟨c, _, rfl⟩ := List.mem_map.mp (h.mem_iff.mp hi)
    exact Int.natCast_nonneg c
  refine ⟨xs.map Int.toNat, ?_, ?_⟩
  · unfold intL
    rw [List.map_map]
    conv => lhs; rw [← List.map_id xs]
    exact List.map_congr_left fun i hi => (Int.toNat_of_nonneg (nn i hi)).symm
  · have q := h.map Int.toNat
    unfold intL at q
    rw [List.map_map] at q
    have e : (List.range n).map (Int.toNat ∘ fun c : Nat => (c : Int)) = List.range n := by
      conv => rhs; rw [← List.map_id (List.range n)]
      exact List.map_congr_left fun i _ => Int.toNat_natCast i
    unfold IsTurn
    rw [← e]
    exact q
theorem bad_of {xs ys : List Int} (h : ¬ (1 ≤ xs.length ∧ xs.length ≤ 8 ∧ xs.Perm (intL (List.range xs.length)) ∧ ys.Perm (intL (List.range xs.length)))) : ¬ Good xs ys := by
  rintro ⟨n, w, h', rfl, rfl, tw, th, n1, n8⟩
  refine h ?_
  rw [intL_len, tw.len]
  exact ⟨n1, n8, List.Perm.map _ tw, List.Perm.map _ th⟩
section
variable {P : Program} {w : World} {K : PySem.W.Frag} {mg : Str → Option Value} {base : Heap} {CX : CXT} {C : Addr} {e : Ad}
theorem sc_init : FnScope ["self", "wives", "heirs", "many"] ["self", "wives", "heirs"] (defScope (inClass (top 10) 0)) := ⟨rfl, rfl, rfl, by decide +kernel, rfl, by decide +kernel, by decide +kernel⟩
theorem ok_init {f : Addr} {fd : FuncData} (F : Fun K "__init__" "Table.__init__" (inClass (top 10) 0) f fd) (T : Txt K mg C e) (D_is_turn : Def P w K mg base (CXR P w) "is_turn" 1 ["row", "many"] spIsTurn) (D_turned_back : Def P w K mg base (CXR P w) "turned_back" 1 ["turn"] spTurnedBack) :
    FnOk P w K mg base (CXR P w) 2 f fd ["self", "wives", "heirs"] (spInitX C e) := by
  refine F.okX sc_init (fun vs H Q E h => ?_) (fun cdv A outer s H vs Q E hr hx h => ?_)
  · obtain ⟨x, dx, a, b, xs, ys, rfl, _⟩ := h; rfl
  · obtain ⟨x, dx, a, b, xs, ys, rfl, hxx, ha, hb, sx, sy, k, kE⟩ := h
    have nd := sc_init.nd
    have p9 : (64 : Nat) < 10 ^ 9 := by decide
    have s8 : ((8 : Int)).natAbs.log2 < 1920 := by decide
    have sl : ((xs.length : Int)).natAbs.log2 < 1920 := log_small (by have := sx.1; show ((xs.length : Nat) : Int).natAbs < 10 ^ 9; omega)
    refine ⟨_, (pss_cons (ps_set (i := 3) nd rfl (Or.inl rfl) (pe_callB call_len_seq rfl T.z_len PySem.boot_len (pa_cons (pv 1) pa_nil)))
      (pss_cons (ps_if (PW.pt (pw_or (pt_cmpR op_lt (pv 3) pe_int (nomark _)) (pw_or1 (pt_cmpR op_gt (pv 3) (pe_globE rfl T.g_MOST_CLASSES) (nomark _))))) (pss_one (ps_rais hx T.m_NoTable T.x_NoTable hr rfl (pa_cons (pe_join (pj_cst (pj_int (pe_globE rfl T.g_MOST_CLASSES) (pj_cst (pj_int (pv 3) pj_nil))))) pa_nil))) pss_nil)
      (pss_cons (ps_if (PW.pt (pw_or (pt_not (pt_val (pe_callX D_is_turn hx.s hr rfl (pa_cons (pv 1) (pa_cons (pv 3) pa_nil))))) (pw_or1 (pt_not (pt_val (pe_callX D_is_turn hx.s hr rfl (pa_cons (pv 2) (pa_cons (pv 3) pa_nil)))))))) (pss_one (ps_rais hx T.m_NoTable T.x_NoTable hr rfl (pa_cons (pe_join (pj_cst (pj_int (pv 3) (pj_cst (pj_lst hr (pv 1) (pj_cst (pj_lst hr (pv 2) pj_nil))))))) pa_nil))) pss_nil)
      (pss_cons (ps_fld (pv 0) (pe_callTy call_list_of rfl T.z_list bt_list (pa_cons (pv 1) pa_nil)) rfl)
      (pss_cons (ps_fld (pv 0) (pe_callTy call_list_of rfl T.z_list bt_list (pa_cons (pv 2) pa_nil)) rfl)
      (pss_cons (ps_fld (pv 0) (pe_callX D_turned_back hx.s hr rfl (pa_cons (pv 1) pa_nil)) rfl)
      (pss_one (ps_fld (pv 0) (pe_callX D_turned_back hx.s hr rfl (pa_cons (pv 2) pa_nil)) rfl)))))))), ?_⟩
    -- many = len(wives)
    refine ⟨_, rfl, a, _, rfl, .inl (SqL.of ha), ?_⟩
    rw [List.length_map]
    -- if many < 1 or many > MOST_CLASSES
    have no1 : ∀ z : ¬ (1 ≤ xs.length ∧ xs.length ≤ 8), E (.ref e.NoTable) none H := fun z => kE (bad_of fun q => z ⟨q.1, q.2.1⟩) H (Same.refl _)
    refine ⟨_, rfl, _, _, rfl, rfl, _, rfl, iteD2 (fun q => ?_) (fun q => ?_)⟩
    · exact iteT ⟨by decide, _, rfl, s8, by decide, by decide, _, rfl, _, rfl, sl, by decide, by decide, fun _ => ⟨one_fits, no1 (by omega)⟩⟩
    refine ⟨_, rfl, _, _, rfl, rfl, _, rfl, iteD2 (fun q' => ?_) (fun q' => ?_)⟩
    · exact ⟨by decide, _, rfl, s8, by decide, by decide, _, rfl, _, rfl, sl, by decide, by decide, fun _ => ⟨one_fits, no1 (by omega)⟩⟩
    have n1 : 1 ≤ xs.length := by omega
    have n8 : xs.length ≤ 8 := by omega
    clear no1
    -- is_turn twice
    have rai : ∀ H2, Same H H2 → ¬ (xs.Perm (intL (List.range xs.length)) ∧ ys.Perm (intL (List.range xs.length))) → E (.ref e.NoTable) none H2 := fun H2 s2 z => kE (bad_of fun q => z q.2.2) H2 s2
    have ra : ∀ H2, Same H H2 → SqL K H2 a (xs.map V.int) := fun H2 s2 => SqL.of (s2 _ _ ha)
    have rb : ∀ H2, Same H H2 → SqL K H2 b (ys.map V.int) := fun H2 s2 => SqL.of (s2 _ _ hb)
    have lx : xs.length ≤ 64 := by have := sx.1; omega
    have ly : ys.length ≤ 64 := by have := sy.1; omega
    refine ⟨_, rfl, _, rfl, a, xs, xs.length, rfl, ha, sx.1, n8, fun H1 s1 => ⟨_, rfl, ?_⟩⟩
    by_cases pw : xs.Perm (intL (List.range xs.length))
    rotate_left
    · rw [decide_eq_false pw]
      refine iteT ?_
      exact ⟨by decide, _, rfl, _, rfl, sl, by decide, by decide, _, rfl, a, xs, rfl, ra _ s1, lx, sx.2, by decide, by decide, _, rfl, b, ys, rfl, rb _ s1, ly, sy.2, by decide, by decide, fun _ => ⟨one_fits, rai _ s1 fun z => pw z.1⟩⟩
    rw [decide_eq_true pw]
    refine iteF ?_
    refine ⟨_, rfl, _, rfl, b, ys, xs.length, rfl, s1 _ _ hb, sy.1, n8, fun H2 s2 => ⟨_, rfl, ?_⟩⟩
    by_cases ph : ys.Perm (intL (List.range xs.length))
    rotate_left
    · rw [decide_eq_false ph]
      refine iteT ?_
      exact ⟨by decide, _, rfl, _, rfl, sl, by decide, by decide, _, rfl, a, xs, rfl, ra _ (s1.trans s2), lx, sx.2, by decide, by decide, _, rfl, b, ys, rfl, rb _ (s1.trans s2), ly, sy.2, by decide, by decide, fun _ => ⟨one_fits, rai _ (s1.trans s2) fun z => ph z.2⟩⟩
    rw [decide_eq_true ph]
    refine iteF ?_
    obtain ⟨n, hn⟩ : ∃ n, xs.length = n := ⟨_, rfl⟩
    rw [hn] at n1 n8 pw ph
    obtain ⟨w', ew, tw⟩ := perm_turn pw
    obtain ⟨h', eh, th⟩ := perm_turn ph
    clear lx ly ra rb rai kE s8 sl p9 pw ph sx sy
    have k := k n w' h' ew eh tw th n1 n8
    have hx' := hx
    have hx := hxx
    rw [ew, ← natL_intL] at ha
    rw [eh, ← natL_intL] at hb
    have s12' : Same H H2 := s1.trans s2
    -- self.wife_turn = list(wives)
    refine ⟨_, rfl, a, _, rfl, .inl (SqL.of (s12' _ _ ha)), fun l1 hl1 => ?_⟩
    have ne1 : x ≠ l1 := ne_of_none (s12' _ _ hx) hl1
    have nxa : x ≠ a := ne_of hx ha (by intro z; cases z)
    have nxb : x ≠ b := ne_of hx hb (by intro z; cases z)
    refine ⟨_, rfl, x, C, dx, [], rfl, (by rw [upd_ne ne1]; exact s12' _ _ hx), T.cl_Table, T.n_wife_turn, (by show 0 < 1000; decide), ?_⟩
    -- self.heir_turn = list(heirs)
    have k1 : ∀ c o, H c = some o → c ≠ x → (upd (upd H2 l1 (.lst (natL w'))) x (.ins C dx (putF "wife_turn" (.ref l1) []))) c = some o := fun c o hc hcx => by
      rw [upd_ne hcx, upd_ne (ne_of_none (s12' _ _ hc) hl1)]; exact s12' _ _ hc
    refine ⟨_, rfl, b, _, rfl, .inl (SqL.of (k1 b _ hb (Ne.symm nxb))), fun l2 hl2 => ?_⟩
    have ne2 : x ≠ l2 := ne_of_none upd_same hl2
    refine ⟨_, rfl, x, C, dx, _, rfl, (by rw [upd_ne ne2]; exact upd_same), T.cl_Table, T.n_heir_turn, (by show 1 < 1000; decide), ?_⟩
    have k2 : ∀ c o, (upd (upd H2 l1 (.lst (natL w'))) x (.ins C dx (putF "wife_turn" (.ref l1) []))) c = some o → c ≠ x → ∀ u, (upd (upd (upd (upd H2 l1 (.lst (natL w'))) x (.ins C dx (putF "wife_turn" (.ref l1) []))) l2 (.lst (natL h'))) x u) c = some o := fun c o hc hcx u => by
      rw [upd_ne hcx, upd_ne (ne_of_none hc hl2)]; exact hc
    generalize hH3 : upd (upd (upd (upd H2 l1 (.lst (natL w'))) x (.ins C dx (putF "wife_turn" (.ref l1) []))) l2 (.lst (natL h'))) x (.ins C dx (putF "heir_turn" (.ref l2) (putF "wife_turn" (.ref l1) []))) = H3
    have f1 : H3 l1 = some (.lst (natL w')) := by rw [← hH3]; exact k2 l1 _ (by rw [upd_ne (Ne.symm ne1), upd_same]) (Ne.symm ne1) _
    have f2 : H3 l2 = some (.lst (natL h')) := by rw [← hH3, upd_ne (Ne.symm ne2), upd_same]
    have f3 : H3 x = some (.ins C dx (putF "heir_turn" (.ref l2) (putF "wife_turn" (.ref l1) []))) := by rw [← hH3, upd_same]
    have f4 : ∀ c o, H c = some o → c ≠ x → H3 c = some o := fun c o hc hcx => by rw [← hH3]; exact k2 c o (k1 c o hc hcx) hcx _
    -- self.husband_turn = turned_back(wives)
    refine ⟨_, rfl, a, w', n, rfl, f4 a _ ha (Ne.symm nxa), tw, n8, fun D1 H4 hD1 s4 hl4 => ?_⟩
    refine ⟨_, rfl, x, C, dx, _, rfl, s4 _ _ f3, T.cl_Table, T.n_husband_turn, (by show 2 < 1000; decide), ?_⟩
    have nxD1 : x ≠ D1 := ne_of_none f3 hD1
    have g4 : ∀ c o u, H3 c = some o → c ≠ x → (upd H4 x u) c = some o := fun c o u hc hcx => by rw [upd_ne hcx]; exact s4 _ _ hc
    -- self.father_turn = turned_back(heirs)
    refine ⟨_, rfl, b, h', n, rfl, g4 b _ _ (f4 b _ hb (Ne.symm nxb)) (Ne.symm nxb), th, n8, fun D2 H5 hD2 s5 hl5 => ?_⟩
    refine ⟨_, rfl, x, C, dx, _, rfl, s5 _ _ upd_same, T.cl_Table, T.n_father_turn, (by show 3 < 1000; decide), ?_⟩
    have nxD2 : x ≠ D2 := ne_of_none upd_same hD2
    have g5 : ∀ c o u, H3 c = some o → c ≠ x → (upd H5 x u) c = some o := fun c o u hc hcx => by rw [upd_ne hcx]; exact s5 _ _ (g4 c o _ hc hcx)
    have fr : ∀ c, c ≠ x → H3 c = none → H c = none := fun c hcx hc => by
      cases q : H c with
      | none => rfl
      | some o => rw [f4 c o q hcx] at hc; cases hc
    have r1 : H l1 = none := s12'.free hl1
    have r2 : H l2 = none := by
      cases q : H l2 with
      | none => rfl
      | some o => rw [k1 l2 o q (Ne.symm ne2)] at hl2; cases hl2
    have r3 : H D1 = none := fr D1 (Ne.symm nxD1) hD1
    have r4 : H D2 = none := by
      cases q : H D2 with
      | none => rfl
      | some o => rw [g4 D2 o _ (f4 D2 o q (Ne.symm nxD2)) (Ne.symm nxD2)] at hD2; cases hD2
    refine k _ (fun c o hc hcx => g5 c o _ (f4 c o hc hcx) hcx) fun H6 k6 => ⟨tw, th, n1, n8, dx, l1, l2, D1, D2, k6 _ _ upd_same (.inr rfl), k6 _ _ (g5 _ _ _ f1 (Ne.symm ne1)) (.inl r1), k6 _ _ (g5 _ _ _ f2 (Ne.symm ne2)) (.inl r2), k6 _ _ ?_ (.inl r3), k6 _ _ ?_ (.inl r4)⟩
    · rw [upd_ne (Ne.symm nxD1)]
      exact s5 _ _ (by rw [upd_ne (Ne.symm nxD1)]; exact hl4)
    · rw [upd_ne (Ne.symm nxD2)]; exact hl5
def spList (C : Addr) (g : List Nat → List Nat → List Nat) : Sp := fun vs H Q _ => ∃ p n w h, vs = [.ref p] ∧ TableAt C H p n w h ∧ ∀ l, H l = none → Q (.ref l) (upd H l (.lst (natL (g w h))))
theorem sc_wives : FnScope ["self"] ["self"] (defScope (inClass (top 10) 7)) := ⟨rfl, rfl, rfl, by decide +kernel, rfl, by decide +kernel, by decide +kernel⟩
theorem ok_wives {f : Addr} {fd : FuncData} (F : Fun K "wives" "Table.wives" (inClass (top 10) 7) f fd) (T : Txt K mg C e) : FnOk P w K mg base CX 1 f fd ["self"] (spList C fun w _ => w) := by
  refine F.okN sc_wives (fun vs H Q E h => ?_) (fun cdv A outer s H vs Q E hr h => ?_)
  · obtain ⟨p, n, w, h, rfl, _⟩ := h; rfl
  · obtain ⟨p, n, w', h', rfl, TA, k⟩ := h
    obtain ⟨dx, a, b, c, d, e1, e2, e3, e4, e5⟩ := TA.ob
    refine ⟨_, (pss_one (ps_ret (pe_callTy call_list_of rfl T.z_list bt_list (pa_cons (pe_fld (pv 0) rfl) pa_nil)))), ?_⟩
    exact ⟨_, rfl, p, C, dx, _, _, rfl, e1, T.cl_Table, T.n_wife_turn, flds_w .., a, _, rfl, .inl (SqL.of e2), k⟩
theorem sc_heirs : FnScope ["self"] ["self"] (defScope (inClass (top 10) 8)) := ⟨rfl, rfl, rfl, by decide +kernel, rfl, by decide +kernel, by decide +kernel⟩
theorem ok_heirs {f : Addr} {fd : FuncData} (F : Fun K "heirs" "Table.heirs" (inClass (top 10) 8) f fd) (T : Txt K mg C e) : FnOk P w K mg base CX 1 f fd ["self"] (spList C fun _ h => h) := by
  refine F.okN sc_heirs (fun vs H Q E h => ?_) (fun cdv A outer s H vs Q E hr h => ?_)
  · obtain ⟨p, n, w, h, rfl, _⟩ := h; rfl
  · obtain ⟨p, n, w', h', rfl, TA, k⟩ := h
    obtain ⟨dx, a, b, c, d, e1, e2, e3, e4, e5⟩ := TA.ob
    refine ⟨_, (pss_one (ps_ret (pe_callTy call_list_of rfl T.z_list bt_list (pa_cons (pe_fld (pv 0) rfl) pa_nil)))), ?_⟩
    exact ⟨_, rfl, p, C, dx, _, _, rfl, e1, T.cl_Table, T.n_heir_turn, flds_h .., b, _, rfl, .inl (SqL.of e3), k⟩
end


--CUT
/-- a walk -/
def IsW (l : List Nat) : Prop := l.length ≤ 60 ∧ ∀ x ∈ l, IsL x
/-- signs that can be shown -/
abbrev Sg (l : List Nat) : Prop := ∀ x ∈ l, x < 16 ^ 8
theorem IsW.sg {l : List Nat} (h : IsW l) : Sg l := fun x hx => by
  rcases h.2 x hx with rfl | rfl | rfl | rfl | rfl | rfl | rfl <;> decide
def spCheckWalk (e : Ad) : Sp := fun vs H Q E => ∃ l : List Nat, vs = [.str (txt l)] ∧ l.length ≤ 1000 ∧ Sg l ∧ (IsW l → Q .non H) ∧ (¬ IsW l → E (.ref e.NoWalk) none H)
def spPartnerSex : Sp := fun vs H Q _ => ∃ m, vs = [sexV m] ∧ Q (sexV (!m)) H
def spSexAfter : Sp := fun vs H Q _ => ∃ m l, vs = [sexV m, sgn l] ∧ IsL l ∧ Q (sexV (stS m l)) H
section
variable {P : Program} {w : World} {K : PySem.W.Frag} {mg : Str → Option Value} {base : Heap} {CX : CXT} {C : Addr} {e : Ad}
theorem c_f : ("f" : Str) = ⟨#[102]⟩ := by decide +kernel
theorem c_m : ("m" : Str) = ⟨#[109]⟩ := by decide +kernel
theorem c_s : ("s" : Str) = ⟨#[115]⟩ := by decide +kernel
theorem c_d : ("d" : Str) = ⟨#[100]⟩ := by decide +kernel
theorem c_p : ("p" : Str) = ⟨#[112]⟩ := by decide +kernel
theorem in_all {l : Nat} (h : IsL l) : (!(!(Builtin.Str.occurrences ("fmsdpbz" : Str) ⟨#[l]⟩ 0 ("fmsdpbz" : Str).length 1).isEmpty)) = false := by
  rcases h with rfl | rfl | rfl | rfl | rfl | rfl | rfl <;> decide +kernel
theorem in_men {l : Nat} (h : IsL l) : (!(Builtin.Str.occurrences ("fsb" : Str) ⟨#[l]⟩ 0 ("fsb" : Str).length 1).isEmpty) = (l == 102 || l == 115 || l == 98) := by
  rcases h with rfl | rfl | rfl | rfl | rfl | rfl | rfl <;> decide +kernel
/-! ### check_walk -/
theorem txt_cps (l : List Nat) : (txt l).cps.toList = l := by show l.toArray.toList = l; simp
theorem not_in_all {x : Nat} (h : ¬ Kin.IsL x) : (!(!(Builtin.Str.occurrences ("fmsdpbz" : Str) ⟨#[x]⟩ 0 ("fmsdpbz" : Str).length 1).isEmpty)) = true := by
  rw [StrLaws.found_one]
  have e : ("fmsdpbz" : Str).cps.toList = [102, 109, 115, 100, 112, 98, 122] := by decide +kernel
  rw [e, decide_eq_false]
  · rfl
  · intro z
    simp only [List.mem_cons, List.not_mem_nil, or_false] at z
    exact h z
theorem sc_ckw : FnScope ["walk", "sign"] ["walk"] (defScope (top 15)) := ⟨rfl, rfl, rfl, by decide +kernel, rfl, by decide +kernel, by decide +kernel⟩
theorem ok_ckw {f : Addr} {fd : FuncData} (F : Fun K "check_walk" "check_walk" (top 15) f fd) (T : Txt K mg C e) : FnOk P w K mg base (CXR P w) 1 f fd ["walk"] (spCheckWalk e) := by
  refine F.okX sc_ckw (fun vs H Q E h => ?_) (fun cdv A outer s H vs Q E hr hx h => ?_)
  · obtain ⟨l, rfl, _⟩ := h; rfl
  · obtain ⟨l, rfl, hl, hs, k, kE⟩ := h
    have nd := sc_ckw.nd
    have big : 2000000 ≤ sizeLine := by decide
    refine ⟨_, (pss_cons (ps_if (pt_cmpR op_gt (pe_callB call_len_str rfl T.z_len PySem.boot_len (pa_cons (pv 0) pa_nil)) (pe_globE rfl T.g_MOST_LETTERS) (nomark _)) (pss_one (ps_rais hx T.m_NoWalk T.x_NoWalk hr rfl (pa_cons (pe_join (pj_cst (pj_int (pe_globE rfl T.g_MOST_LETTERS) (pj_cst (pj_rep (pv 0) pj_nil))))) pa_nil))) pss_nil)
      (pss_one (ps_for PassesOwn.leaving rfl (pi_str (pv 0)) (pg_name (i := 1) nd rfl (Or.inl rfl)) (pss_one (ps_if (pt_cmpR op_notIn_str (pv 1) (pe_globE rfl T.g_LETTERS) (by with_unfolding_all rfl)) (pss_one (ps_rais hx T.m_NoWalk T.x_NoWalk hr rfl (pa_cons (pe_join (pj_cst (pj_rep (pv 1) pj_nil))) pa_nil))) pss_nil))))), ?_⟩
    refine ⟨_, rfl, txt l, rfl, by rw [txt_len]; omega, _, _, rfl, rfl, _, rfl, ?_⟩
    rw [txt_len]
    refine iteD2 (fun q => ?_) (fun q => ?_)
    · exact ⟨by decide, _, rfl, log_small (by decide), by decide, by decide, _, rfl, _, rfl, by rw [txt_len]; omega, by rw [txt_cps]; exact hs, by decide, by decide, fun _ => ⟨one_fits, kE fun z => absurd z.1 (by omega)⟩⟩
    refine ⟨_, rfl, _, rfl, for_str (l := l) (fun i σ H2 => (∃ o, σ = [some (.str (txt l)), o]) ∧ H2 = H ∧ ∀ y ∈ l.take i, IsL y) ⟨⟨none, rfl⟩, rfl, fun y hy => by simp at hy⟩ ?_ ?_⟩
    · rintro i c σ H2 hi ⟨⟨o, rfl⟩, rfl, hp⟩
      refine ⟨_, rfl, _, _, rfl, rfl, _, rfl, ?_⟩
      by_cases hc : IsL c
      · rw [in_all hc]
        refine iteF ⟨⟨_, rfl⟩, rfl, fun y hy => ?_⟩
        rw [List.take_add_one, hi] at hy
        rcases List.mem_append.mp hy with z | z
        · exact hp y z
        · have : y = c := by simpa using z
          subst this; exact hc
      · rw [not_in_all hc]
        refine iteT ⟨by decide, _, rfl, _, rfl, by show 1 ≤ 1000; decide, fun y hy => ?_, by decide, by decide, fun _ => ⟨one_fits, kE fun z => hc (z.2 c (List.mem_of_getElem? hi))⟩⟩
        have : y = c := by simpa using hy
        subst this
        exact hs y (List.mem_of_getElem? hi)
    · rintro σ H2 ⟨⟨o, rfl⟩, rfl, hp⟩
      rw [List.take_length] at hp
      exact k ⟨by omega, hp⟩
/-! ### sexes -/
theorem sc_psex : FnScope ["sex"] ["sex"] (defScope (top 16)) := ⟨rfl, rfl, rfl, by decide +kernel, rfl, by decide +kernel, by decide +kernel⟩
theorem ok_psex {f : Addr} {fd : FuncData} (F : Fun K "partner_sex" "partner_sex" (top 16) f fd) : FnOk P w K mg base CX 1 f fd ["sex"] spPartnerSex := by
  refine F.okN sc_psex (fun vs H Q E h => ?_) (fun cdv A outer s H vs Q E hr h => ?_)
  · obtain ⟨m, rfl, _⟩ := h; rfl
  · obtain ⟨m, rfl, k⟩ := h
    refine ⟨_, (pss_one (ps_ret (pe_ifExp (pt_cmpR op_eq (pv 0) pe_str (nomark _)) pe_str pe_str))), ?_⟩
    refine ⟨_, rfl, rfl, _, rfl, ?_⟩
    rw [sex_man]
    cases m
    · exact iteF k
    · exact iteT k
theorem sc_sexa : FnScope ["sex", "letter"] ["sex", "letter"] (defScope (top 17)) := ⟨rfl, rfl, rfl, by decide +kernel, rfl, by decide +kernel, by decide +kernel⟩
theorem ok_sexa {f : Addr} {fd : FuncData} (F : Fun K "sex_after" "sex_after" (top 17) f fd) (T : Txt K mg C e) (hE : NoE CX) (D_partner_sex : Def P w K mg base CX "partner_sex" 1 ["sex"] spPartnerSex) : FnOk P w K mg base CX 2 f fd ["sex", "letter"] spSexAfter := by
  refine F.okN sc_sexa (fun vs H Q E h => ?_) (fun cdv A outer s H vs Q E hr h => ?_)
  · obtain ⟨m, l, rfl, _⟩ := h; rfl
  · obtain ⟨m, l, rfl, hl, k⟩ := h
    refine ⟨_, (pss_cons (ps_if (pt_cmpR op_eq (pv 1) pe_str (nomark _)) (pss_one (ps_ret (pe_callD D_partner_sex hE hr rfl (pa_cons (pv 0) pa_nil)))) pss_nil)
      (pss_one (ps_ret (pe_ifExp (pt_cmpR op_in_str (pv 1) (pe_globE rfl T.g_LETTERS_TO_MEN) (by with_unfolding_all rfl)) pe_str pe_str)))), ?_⟩
    refine ⟨_, rfl, rfl, _, rfl, iteD2 (fun e => ?_) (fun e => ?_)⟩
    · rw [sgn_iff c_p] at e
      subst e
      exact ⟨_, rfl, m, rfl, k⟩
    · rw [sgn_iff c_p] at e
      refine ⟨_, rfl, _, _, rfl, rfl, _, rfl, ?_⟩
      rw [in_men hl]
      have q : stS m l = (l == 102 || l == 115 || l == 98) := by unfold stS; rw [if_neg e]
      rw [← q]
      generalize stS m l = z at k
      cases z
      · exact iteF k
      · exact iteT k
end


--CUT
def spEndSex (e : Ad) : Sp := fun vs H Q E => ∃ m l, vs = [sexV m, .str (txt l)] ∧ l.length ≤ 1000 ∧ Sg l ∧ (IsW l → Q (sexV (endS m l)) H) ∧ (¬ IsW l → E (.ref e.NoWalk) none H)
def spWalked (C : Addr) (e : Ad) : Sp := fun vs H Q E => ∃ (p : Addr) (n : Nat) (w h : List Nat) (m : Bool) (c : Int) (l : List Nat), vs = [.ref p, sexV m, .int c, .str (txt l)] ∧ TableAt C H p n w h ∧ c.natAbs.log2 < 1920 ∧ l.length ≤ 1000 ∧ Sg l ∧
  (IsW l → InC n c → ∀ t, H t = none → Q (.ref t) (upd H t (.tup (pairV (led w h (m, c.toNat) l))))) ∧ (¬ IsW l → E (.ref e.NoWalk) none H) ∧ (IsW l → ¬ InC n c → E (.ref e.NoClass) none H)
def spWalkedN (C : Addr) : Sp := fun vs H Q _ => ∃ p n w h m c l, vs = [.ref p, sexV m, nat c, .str (txt l)] ∧ TableAt C H p n w h ∧ c < n ∧ IsW l ∧ ∀ t, H t = none → Q (.ref t) (upd H t (.tup (pairV (led w h (m, c) l))))
theorem walkedN {C : Addr} {e : Ad} : ∀ vs H Q E, spWalkedN C vs H Q E → spWalked C e vs H Q E := by
  rintro vs H Q E ⟨p, n, w, h, m, c, l, rfl, TA, hc, hw, k⟩
  have n8 := TA.n8
  have p9 : (8 : Nat) < 10 ^ 9 := by decide
  exact ⟨p, n, w, h, m, (c : Int), l, rfl, TA, log_small (by show ((c : Nat) : Int).natAbs < 10 ^ 9; omega), Nat.le_trans hw.1 (by decide), hw.sg, fun _ _ => by rw [Int.toNat_natCast]; exact k, fun z => absurd hw z, fun _ z => absurd ⟨by omega, by omega⟩ z⟩
section
variable {P : Program} {w : World} {K : PySem.W.Frag} {mg : Str → Option Value} {base : Heap} {CX : CXT} {C : Addr} {e : Ad}
/-! ### classes -/
theorem no_size (a b c d : Addr) : (flds a b c d).lookup ("size" : Str) = none := flds_no _ _ _ _ (by decide +kernel) (by decide +kernel) (by decide +kernel) (by decide +kernel)
theorem no_check (a b c d : Addr) : (flds a b c d).lookup ("check_class" : Str) = none := flds_no _ _ _ _ (by decide +kernel) (by decide +kernel) (by decide +kernel) (by decide +kernel)
theorem no_wife (a b c d : Addr) : (flds a b c d).lookup ("wife_of" : Str) = none := flds_no _ _ _ _ (by decide +kernel) (by decide +kernel) (by decide +kernel) (by decide +kernel)
theorem no_husband (a b c d : Addr) : (flds a b c d).lookup ("husband_of" : Str) = none := flds_no _ _ _ _ (by decide +kernel) (by decide +kernel) (by decide +kernel) (by decide +kernel)
theorem no_heir (a b c d : Addr) : (flds a b c d).lookup ("heir_of" : Str) = none := flds_no _ _ _ _ (by decide +kernel) (by decide +kernel) (by decide +kernel) (by decide +kernel)
theorem no_father (a b c d : Addr) : (flds a b c d).lookup ("father_of" : Str) = none := flds_no _ _ _ _ (by decide +kernel) (by decide +kernel) (by decide +kernel) (by decide +kernel)
theorem sc_pcls : FnScope ["table", "sex", "c"] ["table", "sex", "c"] (defScope (top 18)) := ⟨rfl, rfl, rfl, by decide +kernel, rfl, by decide +kernel, by decide +kernel⟩
theorem ok_pcls {f : Addr} {fd : FuncData} (F : Fun K "partner_class" "partner_class" (top 18) f fd) (T : Txt K mg C e) (D_wife_of : MDef P w K mg base (CXR P w) C "wife_of" 2 ["self", "c"] (spWife C e)) (D_husband_of : MDef P w K mg base (CXR P w) C "husband_of" 2 ["self", "c"] (spHusband C e)) :
    FnOk P w K mg base (CXR P w) 3 f fd ["table", "sex", "c"] (spPartnerClass C) := by
  refine F.okX sc_pcls (fun vs H Q E h => ?_) (fun cdv A outer s H vs Q E hr hx h => ?_)
  · obtain ⟨p, n, w, h, m, c, rfl, _⟩ := h; rfl
  · obtain ⟨p, n, w', h', m, c, rfl, TA, hc, k⟩ := h
    obtain ⟨dx, a, b, c1, d, e1, e2, e3, e4, e5⟩ := TA.ob
    have D_husband_of := D_husband_of.imp (askN (e := e))
    have D_wife_of := D_wife_of.imp (askN (e := e))
    refine ⟨_, (pss_one (ps_ret (pe_ifExp (pt_cmpR op_eq (pv 1) pe_str (nomark _)) (pe_methX (pv 0) T.cl_Table D_wife_of hx.s hr (pa_cons (pv 2) pa_nil)) (pe_methX (pv 0) T.cl_Table D_husband_of hx.s hr (pa_cons (pv 2) pa_nil))))), ?_⟩
    refine ⟨_, rfl, rfl, _, rfl, ?_⟩
    rw [sex_man]
    cases m
    · exact iteF ⟨_, rfl, p, dx, _, rfl, e1, no_husband .., _, rfl, p, n, w', h', c, rfl, TA, hc, k⟩
    · exact iteT ⟨_, rfl, p, dx, _, rfl, e1, no_wife .., _, rfl, p, n, w', h', c, rfl, TA, hc, k⟩
theorem sc_ccls : FnScope ["table", "sex", "c"] ["table", "sex", "c"] (defScope (top 19)) := ⟨rfl, rfl, rfl, by decide +kernel, rfl, by decide +kernel, by decide +kernel⟩
theorem ok_ccls {f : Addr} {fd : FuncData} (F : Fun K "child_class" "child_class" (top 19) f fd) (T : Txt K mg C e) (D_heir_of : MDef P w K mg base (CXR P w) C "heir_of" 2 ["self", "c"] (spHeir C e)) (D_husband_of : MDef P w K mg base (CXR P w) C "husband_of" 2 ["self", "c"] (spHusband C e)) :
    FnOk P w K mg base (CXR P w) 3 f fd ["table", "sex", "c"] (spChildClass C) := by
  refine F.okX sc_ccls (fun vs H Q E h => ?_) (fun cdv A outer s H vs Q E hr hx h => ?_)
  · obtain ⟨p, n, w, h, m, c, rfl, _⟩ := h; rfl
  · obtain ⟨p, n, w', h', m, c, rfl, TA, hc, k⟩ := h
    obtain ⟨dx, a, b, c1, d, e1, e2, e3, e4, e5⟩ := TA.ob
    have D_husband_of := D_husband_of.imp (askN (e := e))
    have D_heir_of := D_heir_of.imp (askN (e := e))
    refine ⟨_, (pss_one (ps_ret (pe_methX (pv 0) T.cl_Table D_heir_of hx.s hr (pa_cons (pe_ifExp (pt_cmpR op_eq (pv 1) pe_str (nomark _)) (pv 2) (pe_methX (pv 0) T.cl_Table D_husband_of hx.s hr (pa_cons (pv 2) pa_nil))) pa_nil)))), ?_⟩
    refine ⟨_, rfl, p, dx, _, rfl, e1, no_heir .., _, rfl, rfl, _, rfl, ?_⟩
    rw [sex_man]
    cases m
    · exact iteF ⟨_, rfl, p, dx, _, rfl, e1, no_husband .., _, rfl, p, n, w', h', c, rfl, TA, hc, p, n, w', h', bw w' c, rfl, TA, bw_lt TA.tw hc, k⟩
    · exact iteT ⟨_, rfl, p, n, w', h', c, rfl, TA, hc, k⟩
theorem sc_clsa : FnScope ["table", "sex", "c", "letter"] ["table", "sex", "c", "letter"] (defScope (top 20)) := ⟨rfl, rfl, rfl, by decide +kernel, rfl, by decide +kernel, by decide +kernel⟩
theorem ok_clsa {f : Addr} {fd : FuncData} (F : Fun K "class_after" "class_after" (top 20) f fd) (T : Txt K mg C e) (D_wife_of : MDef P w K mg base (CXR P w) C "wife_of" 2 ["self", "c"] (spWife C e)) (D_father_of : MDef P w K mg base (CXR P w) C "father_of" 2 ["self", "c"] (spFather C e))
    (D_partner_class : Def P w K mg base (CXR P w) "partner_class" 3 ["table", "sex", "c"] (spPartnerClass C)) (D_child_class : Def P w K mg base (CXR P w) "child_class" 3 ["table", "sex", "c"] (spChildClass C)) : FnOk P w K mg base (CXR P w) 4 f fd ["table", "sex", "c", "letter"] (spClassAfter C) := by
  refine F.okX sc_clsa (fun vs H Q E h => ?_) (fun cdv A outer s H vs Q E hr hx h => ?_)
  · obtain ⟨p, n, w, h, m, c, l, rfl, _⟩ := h; rfl
  · obtain ⟨p, n, w', h', m, c, l, rfl, TA, hc, hl, k⟩ := h
    obtain ⟨dx, a, b, c1, d, e1, e2, e3, e4, e5⟩ := TA.ob
    have D_father_of := D_father_of.imp (askN (e := e))
    have D_wife_of := D_wife_of.imp (askN (e := e))
    refine ⟨_, (pss_cons (ps_if (pt_cmpR op_eq (pv 3) pe_str (nomark _)) (pss_one (ps_ret (pe_methX (pv 0) T.cl_Table D_father_of hx.s hr (pa_cons (pv 2) pa_nil)))) pss_nil)
      (pss_cons (ps_if (pt_cmpR op_eq (pv 3) pe_str (nomark _)) (pss_one (ps_ret (pe_methX (pv 0) T.cl_Table D_wife_of hx.s hr (pa_cons (pe_methX (pv 0) T.cl_Table D_father_of hx.s hr (pa_cons (pv 2) pa_nil)) pa_nil)))) pss_nil)
      (pss_cons (ps_if (pt_cmpR op_eq (pv 3) pe_str (nomark _)) (pss_one (ps_ret (pe_callX D_partner_class hx.s hr rfl (pa_cons (pv 0) (pa_cons (pv 1) (pa_cons (pv 2) pa_nil)))))) pss_nil)
      (pss_cons (ps_if (PW.pt (pw_or (pt_cmpR op_eq (pv 3) pe_str (nomark _)) (pw_or1 (pt_cmpR op_eq (pv 3) pe_str (nomark _))))) (pss_one (ps_ret (pe_callX D_child_class hx.s hr rfl (pa_cons (pv 0) (pa_cons (pv 1) (pa_cons (pv 2) pa_nil)))))) pss_nil)
      (pss_one (ps_ret (pv 2))))))), ?_⟩
    refine ⟨_, rfl, rfl, _, rfl, iteD2 (fun e => ?_) (fun e => ?_)⟩
    · rw [sgn_iff c_f] at e
      subst e
      exact ⟨_, rfl, p, dx, _, rfl, e1, no_father .., _, rfl, p, n, w', h', c, rfl, TA, hc, k⟩
    rw [sgn_iff c_f] at e
    refine ⟨_, rfl, rfl, _, rfl, iteD2 (fun e' => ?_) (fun e' => ?_)⟩
    · rw [sgn_iff c_m] at e'
      subst e'
      exact ⟨_, rfl, p, dx, _, rfl, e1, no_wife .., _, rfl, p, dx, _, rfl, e1, no_father .., _, rfl, p, n, w', h', c, rfl, TA, hc, p, n, w', h', bw h' c, rfl, TA, bw_lt TA.th hc, k⟩
    rw [sgn_iff c_m] at e'
    refine ⟨_, rfl, rfl, _, rfl, iteD2 (fun e2' => ?_) (fun e2' => ?_)⟩
    · rw [sgn_iff c_p] at e2'
      subst e2'
      exact ⟨_, rfl, _, rfl, _, rfl, p, n, w', h', m, c, rfl, TA, hc, k⟩
    rw [sgn_iff c_p] at e2'
    have kk : (l = 115 ∨ l = 100) → Q (nat (fw h' (if m then c else bw w' c))) H := fun q => by
      have z : stC w' h' m c l = fw h' (if m then c else bw w' c) := by unfold stC; rw [if_neg e, if_neg e', if_neg e2', if_pos q]
      rw [z] at k; exact k
    refine ⟨_, rfl, rfl, _, rfl, iteD2 (fun e3' => ?_) (fun e3' => ?_)⟩
    · rw [sgn_iff c_s] at e3'
      exact iteT ⟨_, rfl, _, rfl, _, rfl, p, n, w', h', m, c, rfl, TA, hc, kk (.inl e3')⟩
    rw [sgn_iff c_s] at e3'
    refine ⟨_, rfl, rfl, _, rfl, iteD2 (fun e4' => ?_) (fun e4' => ?_)⟩
    · rw [sgn_iff c_d] at e4'
      exact ⟨_, rfl, _, rfl, _, rfl, p, n, w', h', m, c, rfl, TA, hc, kk (.inr e4')⟩
    rw [sgn_iff c_d] at e4'
    have z : stC w' h' m c l = c := by unfold stC; rw [if_neg e, if_neg e', if_neg e2', if_neg (fun q => q.elim e3' e4')]
    rw [z] at k
    exact ⟨_, rfl, k⟩
/-! ### walked, turn_of -/
theorem led_take {w h : List Nat} {s : Bool × Nat} {l : List Nat} {i x : Nat} (hi : l[i]? = some x) : led w h s (l.take (i + 1)) = step w h (led w h s (l.take i)) x := by
  rw [List.take_add_one, hi, led_append]
  rfl
theorem sc_walked : FnScope ["table", "sex", "c", "walk", "here_sex", "here", "letter"] ["table", "sex", "c", "walk"] (defScope (top 22)) := ⟨rfl, rfl, rfl, by decide +kernel, rfl, by decide +kernel, by decide +kernel⟩
theorem ok_walked {f : Addr} {fd : FuncData} (F : Fun K "walked" "walked" (top 22) f fd) (T : Txt K mg C e) (D_check_walk : Def P w K mg base (CXR P w) "check_walk" 1 ["walk"] (spCheckWalk e)) (D_check_class : MDef P w K mg base (CXR P w) C "check_class" 1 ["self", "c"] (spCheck C e))
    (D_class_after : Def P w K mg base (CXR P w) "class_after" 4 ["table", "sex", "c", "letter"] (spClassAfter C)) (D_sex_after : Def P w K mg base (CXR P w) "sex_after" 2 ["sex", "letter"] spSexAfter) : FnOk P w K mg base (CXR P w) 5 f fd ["table", "sex", "c", "walk"] (spWalked C e) := by
  refine F.okX sc_walked (fun vs H Q E h => ?_) (fun cdv A outer s H vs Q E hr hx h => ?_)
  · obtain ⟨p, n, w, h, m, c, l, rfl, _⟩ := h; rfl
  · obtain ⟨p, n, w', h', m, c, l, rfl, TA, sm, hl, hs, k, kE, kC⟩ := h
    have nd := sc_walked.nd
    obtain ⟨dx, a, b, c1, d, e1, e2, e3, e4, e5⟩ := TA.ob
    refine ⟨_, (pss_cons (ps_expr (pe_callX D_check_walk hx.s hr rfl (pa_cons (pv 3) pa_nil)))
      (pss_cons (ps_expr (pe_methX (pv 0) T.cl_Table D_check_class hx.s hr (pa_cons (pv 2) pa_nil)))
      (pss_cons (ps_set (i := 4) nd rfl (Or.inl rfl) (pv 1))
      (pss_cons (ps_set (i := 5) nd rfl (Or.inl rfl) (pv 2))
      (pss_cons (ps_for PassesOwn.leaving rfl (pi_str (pv 3)) (pg_name (i := 6) nd rfl (Or.inl rfl)) (pss_cons (ps_set (i := 5) nd rfl (Or.inl rfl) (pe_callX D_class_after hx.s hr rfl (pa_cons (pv 0) (pa_cons (pv 4) (pa_cons (pv 5) (pa_cons (pv 6) pa_nil))))))
      (pss_one (ps_set (i := 4) nd rfl (Or.inl rfl) (pe_callX D_sex_after hx.s hr rfl (pa_cons (pv 4) (pa_cons (pv 6) pa_nil)))))))
      (pss_one (ps_ret (pe_tup (pa_cons (pv 4) (pa_cons (pv 5) pa_nil)))))))))), ?_⟩
    refine ⟨_, rfl, l, rfl, hl, hs, fun hw => ?_, kE⟩
    refine ⟨_, rfl, p, dx, _, rfl, e1, no_check .., _, rfl, p, n, w', h', c, rfl, TA, sm, fun hc => ?_, kC hw⟩
    have hn : c.toNat < n := by obtain ⟨h1, h2⟩ := hc; omega
    have ec : c = ((c.toNat : Nat) : Int) := by obtain ⟨h1, h2⟩ := hc; omega
    have kk := k hw hc
    generalize c.toNat = c' at hn ec kk
    subst ec
    refine ⟨_, rfl, _, rfl, _, rfl, _, rfl, for_str (l := l) (fun i σ H2 => (∃ o, σ = [some (.ref p), some (sexV m), some (nat c'), some (.str (txt l)), some (sexV (led w' h' (m, c') (l.take i)).1), some (nat (led w' h' (m, c') (l.take i)).2), o]) ∧ H2 = H) ⟨⟨none, rfl⟩, rfl⟩ ?_ ?_⟩
    · rintro i x σ H2 hi ⟨⟨o, rfl⟩, rfl⟩
      have hx : IsL x := hw.2 x (List.mem_of_getElem? hi)
      refine ⟨_, rfl, _, rfl, _, rfl, _, rfl, p, n, w', h', (led w' h' (m, c') (l.take i)).1, (led w' h' (m, c') (l.take i)).2, x, rfl, TA, led_lt TA.tw TA.th _ _ hn, hx, ?_⟩
      refine ⟨_, rfl, _, rfl, (led w' h' (m, c') (l.take i)).1, x, rfl, hx, ⟨some (sgn x), ?_⟩, rfl⟩
      rw [led_take hi]
      rfl
    · rintro σ H2 ⟨⟨o, rfl⟩, rfl⟩
      rw [List.take_length]
      exact ⟨_, rfl, _, rfl, two_fits, fun t ht => kk t ht⟩
theorem sc_endsex : FnScope ["sex", "walk", "here", "letter"] ["sex", "walk"] (defScope (top 21)) := ⟨rfl, rfl, rfl, by decide +kernel, rfl, by decide +kernel, by decide +kernel⟩
theorem ok_endsex {f : Addr} {fd : FuncData} (F : Fun K "end_sex" "end_sex" (top 21) f fd) (T : Txt K mg C e) (D_check_walk : Def P w K mg base (CXR P w) "check_walk" 1 ["walk"] (spCheckWalk e)) (D_sex_after : Def P w K mg base (CXR P w) "sex_after" 2 ["sex", "letter"] spSexAfter) :
    FnOk P w K mg base (CXR P w) 3 f fd ["sex", "walk"] (spEndSex e) := by
  refine F.okX sc_endsex (fun vs H Q E h => ?_) (fun cdv A outer s H vs Q E hr hx h => ?_)
  · obtain ⟨m, l, rfl, _⟩ := h; rfl
  · obtain ⟨m, l, rfl, hl, hs, k, kE⟩ := h
    have nd := sc_endsex.nd
    refine ⟨_, (pss_cons (ps_expr (pe_callX D_check_walk hx.s hr rfl (pa_cons (pv 1) pa_nil)))
      (pss_cons (ps_set (i := 2) nd rfl (Or.inl rfl) (pv 0))
      (pss_cons (ps_for PassesOwn.leaving rfl (pi_str (pv 1)) (pg_name (i := 3) nd rfl (Or.inl rfl)) (pss_one (ps_set (i := 2) nd rfl (Or.inl rfl) (pe_callX D_sex_after hx.s hr rfl (pa_cons (pv 2) (pa_cons (pv 3) pa_nil))))))
      (pss_one (ps_ret (pv 2)))))), ?_⟩
    refine ⟨_, rfl, l, rfl, hl, hs, fun hw => ?_, kE⟩
    refine ⟨_, rfl, _, rfl, _, rfl, for_str (l := l) (fun i σ H2 => (∃ o, σ = [some (sexV m), some (.str (txt l)), some (sexV (endS m (l.take i))), o]) ∧ H2 = H) ⟨⟨none, rfl⟩, rfl⟩ ?_ ?_⟩
    · rintro i x σ H2 hi ⟨⟨o, rfl⟩, rfl⟩
      have hx : IsL x := hw.2 x (List.mem_of_getElem? hi)
      refine ⟨_, rfl, _, rfl, endS m (l.take i), x, rfl, hx, ⟨some (sgn x), ?_⟩, rfl⟩
      rw [endS_take hi]
      rfl
    · rintro σ H2 ⟨⟨o, rfl⟩, rfl⟩
      rw [List.take_length]
      exact ⟨_, rfl, k hw⟩
end


--CUT
/-! the law's own helpers -/
def spCellAt (K : PySem.W.Frag) : Sp := fun vs H Q _ => ∃ (a : Addr) (ns : List Int) (k : Nat), vs = [.ref a, nat k] ∧ SqL K H a (ns.map V.int) ∧ ∀ z, Q (.int z) H
def spWhole : Sp := fun vs H Q _ => ∃ i, vs = [.int i] ∧ Q (.bl true) H
def spTurnBy : Sp := fun vs H Q _ => ∃ z n, vs = [.int z, nat n] ∧ n ≤ 8 ∧ ∀ w D H', IsTurn n w → H D = none → Same H H' → H' D = some (.lst (natL w)) → Q (.ref D) H'
def spWalkBy : Sp := fun vs H Q _ => ∃ z most, vs = [.int z, nat most] ∧ most ≤ 60 ∧ ∀ l : List Nat, l.length ≤ most → (∀ x ∈ l, IsL x) → Q (.str (txt l)) H
def spStep : Sp := fun vs H Q _ => ∃ a b n w h m c l, vs = [.ref a, .ref b, sexV m, nat c, sgn l] ∧ H a = some (.lst (natL w)) ∧ H b = some (.lst (natL h)) ∧ IsTurn n w ∧ IsTurn n h ∧ c < n ∧ IsL l ∧
  ∀ t, H t = none → Q (.ref t) (upd H t (.tup (pairV (step w h (m, c) l))))
def spLed : Sp := fun vs H Q _ => ∃ a b n w h m c l, vs = [.ref a, .ref b, sexV m, nat c, .str (txt l)] ∧ H a = some (.lst (natL w)) ∧ H b = some (.lst (natL h)) ∧ IsTurn n w ∧ IsTurn n h ∧ c < n ∧ l.length ≤ 60 ∧ (∀ x ∈ l, IsL x) ∧
  ∀ t H', H t = none → Same H H' → H' t = some (.tup (pairV (led w h (m, c) l))) → Q (.ref t) H'
def spLaw (K : PySem.W.Frag) : Sp := fun vs H Q _ => ∃ (a : Addr) (ns : List Int), vs = [.ref a] ∧ ns.length ≤ 63 ∧ SqL K H a (ns.map V.int) ∧ ∀ H', Q (.bl true) H'
def spSameN : Sp := fun vs H Q _ => ∃ (a b : Addr) (ns ms : List Int), vs = [.ref a, .ref b] ∧ H a = some (.lst (ns.map V.int)) ∧ H b = some (.lst (ms.map V.int)) ∧ ms.length ≤ 1000 ∧ Q (.bl (decide (ns = ms))) H
section
variable {P : Program} {w : World} {K : PySem.W.Frag} {mg : Str → Option Value} {base : Heap} {CX : CXT} {C : Addr} {e : Ad}
theorem sc_cell : FnScope ["script", "k"] ["script", "k"] (defScope (top 37)) := ⟨rfl, rfl, rfl, by decide +kernel, rfl, by decide +kernel, by decide +kernel⟩
theorem ok_cell {f : Addr} {fd : FuncData} (F : Fun K "_law_cell_at" "_law_cell_at" (top 37) f fd) (T : Txt K mg C e) : FnOk P w K mg base CX 1 f fd ["script", "k"] (spCellAt K) := by
  refine F.okN sc_cell (fun vs H Q E h => ?_) (fun cdv A outer s H vs Q E hr h => ?_)
  · obtain ⟨a, ns, k, rfl, _⟩ := h; rfl
  · obtain ⟨a, ns, c, rfl, hS, k⟩ := h
    refine ⟨_, (pss_cons (ps_if (pt_cmpR op_lt (pv 1) (pe_callB call_len_seq rfl T.z_len PySem.boot_len (pa_cons (pv 0) pa_nil)) (nomark _)) (pss_one (ps_ret (pe_ix ix_list (pv 0) (pv 1) (fun _ _ => rfl)))) pss_nil)
      (pss_one (ps_ret pe_int))), ?_⟩
    refine ⟨_, rfl, _, rfl, a, _, rfl, .inl hS, _, _, rfl, rfl, _, rfl, iteD2 (fun e => ?_) (fun _ => k 0)⟩
    rw [List.length_map] at e
    have hlt : c < ns.length := by omega
    exact ⟨_, rfl, _, rfl, a, _, _, V.int ns[c], rfl, rfl, hS, atI_nat (by rw [List.getElem?_map, List.getElem?_eq_getElem hlt]; rfl), k _⟩
theorem sc_whole : FnScope ["found"] ["found"] (defScope (top 38)) := ⟨rfl, rfl, rfl, by decide +kernel, rfl, by decide +kernel, by decide +kernel⟩
theorem ok_whole {f : Addr} {fd : FuncData} (F : Fun K "_law_whole" "_law_whole" (top 38) f fd) (T : Txt K mg C e) : FnOk P w K mg base CX 1 f fd ["found"] spWhole := by
  refine F.okN sc_whole (fun vs H Q E h => ?_) (fun cdv A outer s H vs Q E hr h => ?_)
  · obtain ⟨i, rfl, _⟩ := h; rfl
  · obtain ⟨i, rfl, k⟩ := h
    refine ⟨_, (pss_one (ps_ret (pe_and (pe_callB call_isinst rfl T.z_isinstance bt_isinstance (pa_cons (pv 0) (pa_cons (pe_bltn (v := .ty "int") rfl T.z_int bt_int rfl) pa_nil))) (pe_one (pe_not (pe_callB call_isinst rfl T.z_isinstance bt_isinstance (pa_cons (pv 0) (pa_cons (pe_bltn (v := .ty "bool") rfl T.z_bool bt_bool rfl) pa_nil)))))))), ?_⟩
    refine ⟨_, rfl, V.int i, "int", _, true, rfl, TyOf.int i, kit_same, _, rfl, iteT ?_⟩
    exact ⟨_, rfl, V.int i, "bool", _, false, rfl, TyOf.int i, kit_ib, _, rfl, k⟩
theorem natL_erase : ∀ (l : List Nat) (k : Nat), (natL l).eraseIdx k = natL (l.eraseIdx k)
  | [], _ => rfl
  | _ :: _, 0 => rfl
  | a :: r, k + 1 => by
    show (nat a :: natL r).eraseIdx (k + 1) = _
    rw [List.eraseIdx_cons_succ, natL_erase r k]
    rfl
theorem natL_snoc (l : List Nat) (x : Nat) : natL l ++ [nat x] = natL (l ++ [x]) := by unfold natL; rw [List.map_append]; rfl
theorem sc_turnby : FnScope ["cell", "many", "rest", "out"] ["cell", "many"] (defScope (top 39)) := ⟨rfl, rfl, rfl, by decide +kernel, rfl, by decide +kernel, by decide +kernel⟩
theorem ok_turnby {f : Addr} {fd : FuncData} (F : Fun K "_law_turn_by" "_law_turn_by" (top 39) f fd) (T : Txt K mg C e) : FnOk P w K mg base CX 1 f fd ["cell", "many"] spTurnBy := by
  refine F.okN sc_turnby (fun vs H Q E h => ?_) (fun cdv A outer s H vs Q E hr h => ?_)
  · obtain ⟨z, n, rfl, _⟩ := h; rfl
  · obtain ⟨z, n, rfl, n8, k⟩ := h
    have nd := sc_turnby.nd
    refine ⟨_, (pss_cons (ps_setComp (i := 2) nd rfl (Or.inl rfl) (fv := []) ⟨rfl, by decide +kernel, rfl, by decide +kernel, rfl, by decide +kernel, trivial, rfl, rfl⟩ rfl (pi_range1 rfl T.z_range (pa_cons (pv 1) pa_nil)) (fun _ _ _ => (pv 0)))
      (pss_cons (ps_set (i := 3) nd rfl (Or.inl rfl) (pe_lst pa_nil))
      (pss_cons (ps_while PassesOwn.never (pt_cmpR op_gt (pe_callB call_len_seq rfl T.z_len PySem.boot_len (pa_cons (pv 2) pa_nil)) pe_int (nomark _)) (pss_cons (ps_set (i := 0) nd rfl (Or.inl rfl) (pe_op op_mod (pe_op op_add (pe_op op_mul (pv 0) pe_int) pe_int) pe_int))
      (pss_one (ps_expr (pe_bm PySem.F.plainAttrs_list PySem.F.slot_list_append PySem.F.type_list_append mt_append (pv 3) (pa_cons (pe_bm PySem.F.plainAttrs_list PySem.F.slot_list_pop PySem.F.type_list_pop mt_popAt (pv 2) (pa_cons (pe_op op_mod (pe_op op_fdiv (pv 0) pe_int) (pe_callB call_len_seq rfl T.z_len PySem.boot_len (pa_cons (pv 2) pa_nil))) pa_nil)) pa_nil))))))
      (pss_one (ps_ret (pv 3)))))), ?_⟩
    -- rest = [c for c in range(many)]
    refine ⟨_, rfl, _, rfl, by omega, by omega, ?_⟩
    rw [Int.toNat_natCast]
    refine comp_range0 (fun i => nat i) (Nat.le_trans n8 (by decide)) (fun i H' R hi sm kk _ _ _ => ⟨_, rfl, kk H' (Same.refl _)⟩) fun r H1 hr1 s1 hl1 => ?_
    -- out = []
    refine ⟨by decide, fun o ho => ?_⟩
    have nro : r ≠ o := ne_of_none hl1 ho
    have hoH : H o = none := s1.free ho
    -- while len(rest) > 0
    refine ⟨fun m σ H2 => ∃ (z' : Int) (rest out : List Nat), m = rest.length ∧ σ = [some (.int z'), some (nat n), some (.ref r), some (.ref o)] ∧ Same H H2 ∧ H2 r = some (.lst (natL rest)) ∧ H2 o = some (.lst (natL out)) ∧ (rest ++ out).Perm (List.range n),
      ⟨_, z, List.range n, [], rfl, rfl, same_upd s1 hoH, by rw [upd_ne nro]; exact hl1, upd_same, by rw [List.append_nil]⟩, ?_⟩
    rintro m σ H2 ⟨z', rest, out, rfl, rfl, s2, hr2, ho2, pm⟩
    have hlen := pm.length_eq
    rw [List.length_append, List.length_range] at hlen
    refine ⟨_, rfl, r, _, rfl, .inl (SqL.of hr2), _, _, rfl, rfl, _, rfl, ?_⟩
    rw [natL_len]
    refine iteD2 (fun hpos => ?_) (fun hz => ?_)
    · refine ⟨fun σ' H' => ∃ (z' : Int) (rest' out : List Nat), rest'.length + 1 = rest.length ∧ σ' = [some (.int z'), some (nat n), some (.ref r), some (.ref o)] ∧ Same H H' ∧ H' r = some (.lst (natL rest')) ∧ H' o = some (.lst (natL out)) ∧ (rest' ++ out).Perm (List.range n),
        fun σ' H' ⟨z', rest', out, h1, h2⟩ => ⟨rest'.length, by omega, z', rest', out, rfl, h2⟩, ?_⟩
      refine ⟨_, rfl, _, _, rfl, rfl, .inr ⟨by decide, by decide⟩, _, _, rfl, rfl, _, _, rfl, rfl, (show (0 : Int) < 2147483647 by decide), ?_⟩
      refine ⟨_, rfl, .inl ⟨rfl, _, SqL.of ho2⟩, _, rfl, .inl ⟨rfl, _, SqL.of hr2⟩, _, rfl, _, _, rfl, rfl, ⟨by decide, by decide⟩, _, rfl, r, _, rfl, .inl (SqL.of hr2), _, _, rfl, rfl, by rw [natL_len]; exact hpos, ?_⟩
      rw [natL_len]
      dsimp only
      generalize hq : ((z' * 48271 + 29) % 2147483647 / 3 % (rest.length : Int)) = q
      have q0 : 0 ≤ q := by rw [← hq]; exact Int.emod_nonneg _ (by omega)
      have q1 : q < rest.length := by rw [← hq]; exact Int.emod_lt_of_pos _ hpos
      have qn : q.toNat < rest.length := by omega
      have hx : rest[q.toNat]? = some rest[q.toNat] := List.getElem?_eq_getElem qn
      refine ⟨r, _, q, q.toNat, nat rest[q.toNat], rfl, rfl, hr2, by omega, by omega, by rw [natL_len]; exact seqIndex_of q0 q1, natL_get hx, ?_⟩
      refine ⟨o, _, _, rfl, rfl, by rw [upd_ne (Ne.symm nro)]; exact ho2, by rw [natL_len]; have : 8 < sizeLine := by decide
                                                                             omega, ?_⟩
      refine ⟨_, rest.eraseIdx q.toNat, out ++ [rest[q.toNat]], ?_, rfl, ?_, ?_, ?_, perm_pick pm hx⟩
      · rw [List.length_eraseIdx, if_pos qn]; omega
      · exact same_upd (same_upd s2 hr1) hoH
      · rw [upd_ne nro, upd_same, natL_erase]
      · rw [upd_same, natL_snoc]
    · have hz' : rest = [] := List.length_eq_zero_iff.mp (by omega)
      subst hz'
      exact ⟨_, rfl, k out o H2 pm hoH s2 ho2⟩
theorem pick_letter (q : Int) (h0 : 0 ≤ q) (h7 : q < 7) : ∃ c, IsL c ∧ atI ("fmsdpbz" : Str).cps.toList q = some c := by
  have h : q = 0 ∨ q = 1 ∨ q = 2 ∨ q = 3 ∨ q = 4 ∨ q = 5 ∨ q = 6 := by omega
  rcases h with rfl | rfl | rfl | rfl | rfl | rfl | rfl
  · exact ⟨102, by decide, by decide +kernel⟩
  · exact ⟨109, by decide, by decide +kernel⟩
  · exact ⟨115, by decide, by decide +kernel⟩
  · exact ⟨100, by decide, by decide +kernel⟩
  · exact ⟨112, by decide, by decide +kernel⟩
  · exact ⟨98, by decide, by decide +kernel⟩
  · exact ⟨122, by decide, by decide +kernel⟩
theorem txt_snoc (l : List Nat) (c : Nat) : txt l ++ (⟨#[c]⟩ : Str) = txt (l ++ [c]) := by
  show (⟨l.toArray ++ #[c]⟩ : Str) = ⟨(l ++ [c]).toArray⟩
  congr 1
  simp
theorem txt_nil : ("" : Str) = txt [] := by decide +kernel
theorem sc_walkby : FnScope ["cell", "most", "walk", "k"] ["cell", "most"] (defScope (top 40)) := ⟨rfl, rfl, rfl, by decide +kernel, rfl, by decide +kernel, by decide +kernel⟩
theorem ok_walkby {f : Addr} {fd : FuncData} (F : Fun K "_law_walk_by" "_law_walk_by" (top 40) f fd) (T : Txt K mg C e) : FnOk P w K mg base CX 1 f fd ["cell", "most"] spWalkBy := by
  refine F.okN sc_walkby (fun vs H Q E h => ?_) (fun cdv A outer s H vs Q E hr h => ?_)
  · obtain ⟨z, n, rfl, _⟩ := h; rfl
  · obtain ⟨z, n, rfl, n60, k⟩ := h
    have nd := sc_walkby.nd
    refine ⟨_, (pss_cons (ps_set (i := 2) nd rfl (Or.inl rfl) pe_str)
      (pss_cons (ps_for PassesOwn.never rfl (pi_range1 rfl T.z_range (pa_cons (pe_op op_mod (pv 0) (pe_op op_add (pv 1) pe_int)) pa_nil)) (pg_name (i := 3) nd rfl (Or.inl rfl)) (pss_cons (ps_set (i := 0) nd rfl (Or.inl rfl) (pe_op op_mod (pe_op op_add (pe_op op_mul (pv 0) pe_int) pe_int) pe_int))
      (pss_one (ps_set (i := 2) nd rfl (Or.inl rfl) (pe_op op_add_str (pv 2) (pe_ix ix_str pe_str (pe_op op_mod (pe_op op_fdiv (pv 0) pe_int) pe_int) (fun _ _ => rfl)))))))
      (pss_one (ps_ret (pv 2))))), ?_⟩
    have p0 : (0 : Int) < (n : Int) + 1 := by omega
    have m0 : 0 ≤ z % ((n : Int) + 1) := Int.emod_nonneg _ (by omega)
    have m1 : z % ((n : Int) + 1) < (n : Int) + 1 := Int.emod_lt_of_pos _ p0
    refine ⟨_, rfl, _, rfl, _, _, rfl, rfl, _, _, rfl, rfl, p0, _, rfl, ?_, ?_, ?_⟩
    · exact Int.le_trans (by decide) m0
    · exact Int.lt_of_lt_of_le m1 (by omega)
    refine for_range0 (fun i σ H2 => (∃ (z' : Int) (l : List Nat) (o : Option V), σ = [some (.int z'), some (nat n), some (.str (txt l)), o] ∧ l.length = i ∧ ∀ x ∈ l, IsL x) ∧ H2 = H) ⟨⟨z, [], none, by rw [← txt_nil]; rfl, rfl, fun x hx => by cases hx⟩, rfl⟩ ?_ ?_
    · rintro i σ H2 hi ⟨⟨z', l, o, rfl, hl, hL⟩, rfl⟩
      have hi' : i ≤ 60 := by omega
      refine ⟨_, rfl, _, _, rfl, rfl, .inr ⟨by decide, by decide⟩, _, _, rfl, rfl, _, _, rfl, rfl, (show (0 : Int) < 2147483647 by decide), ?_⟩
      dsimp only
      generalize hq : (z' * 48271 + 17) % 2147483647 = z2
      obtain ⟨c, hc, hg⟩ := pick_letter (z2 / 5 % 7) (Int.emod_nonneg _ (by decide)) (Int.emod_lt_of_pos _ (by decide))
      refine ⟨_, rfl, _, rfl, _, _, rfl, rfl, ⟨by decide, by decide⟩, _, _, rfl, rfl, (show (0 : Int) < 7 by decide), _, _, c, rfl, rfl, by decide +kernel, hg, _, _, rfl, rfl, ?_, ⟨z2, l ++ [c], some (nat i), ?_, ?_, ?_⟩, rfl⟩
      · rw [txt_len]
        show l.length + 1 ≤ sizeLine
        have : 100 ≤ sizeLine := by decide
        omega
      · rw [txt_snoc]
        rfl
      · rw [List.length_append, hl]; rfl
      · intro x hx
        rcases List.mem_append.mp hx with q | q
        · exact hL x q
        · rw [List.mem_singleton.mp q]; exact hc
    · rintro σ H2 ⟨⟨z', l, o, rfl, hl, hL⟩, rfl⟩
      exact ⟨_, rfl, k l (by omega) hL⟩
theorem in_sd' {l : Nat} (h : IsL l) : (!(Builtin.Str.occurrences ("sd" : Str) ⟨#[l]⟩ 0 ("sd" : Str).length 1).isEmpty) = (l == 115 || l == 100) := by
  rcases h with rfl | rfl | rfl | rfl | rfl | rfl | rfl <;> decide +kernel
theorem c_b' : ("b" : Str) = ⟨#[98]⟩ := by decide +kernel
theorem sc_step : FnScope ["wives", "heirs", "sex", "c", "letter", "elder", "groom"] ["wives", "heirs", "sex", "c", "letter"] (defScope (top 41)) := ⟨rfl, rfl, rfl, by decide +kernel, rfl, by decide +kernel, by decide +kernel⟩
set_option maxHeartbeats 16000000 in
theorem ok_step {f : Addr} {fd : FuncData} (F : Fun K "_law_step" "_law_step" (top 41) f fd) (T : Txt K mg C e) : FnOk P w K mg base CX 1 f fd ["wives", "heirs", "sex", "c", "letter"] spStep := by
  refine F.okN sc_step (fun vs H Q E h => ?_) (fun cdv A outer s H vs Q E hr h => ?_)
  · obtain ⟨a, b, n, w, h, m, c, l, rfl, _⟩ := h; rfl
  · obtain ⟨a, b, n, w', h', m, c, l, rfl, ha, hb, tw, th, hc, hl, k⟩ := h
    have nd := sc_step.nd
    have ha' : H a = some (.lst ((intL w').map V.int)) := by rw [← natL_intL]; exact ha
    have hb' : H b = some (.lst ((intL h').map V.int)) := by rw [← natL_intL]; exact hb
    refine ⟨_, (pss_cons (ps_set (i := 5) nd rfl (Or.inl rfl) (pe_bm PySem.F.plainAttrs_list PySem.F.slot_list_index PySem.F.type_list_index mt_index (pv 1) (pa_cons (pv 3) pa_nil)))
      (pss_cons (ps_set (i := 6) nd rfl (Or.inl rfl) (pv 3))
      (pss_cons (ps_if (pt_cmpR op_eq (pv 2) pe_str (nomark _)) (pss_one (ps_set (i := 6) nd rfl (Or.inl rfl) (pe_bm PySem.F.plainAttrs_list PySem.F.slot_list_index PySem.F.type_list_index mt_index (pv 0) (pa_cons (pv 3) pa_nil)))) pss_nil)
      (pss_cons (ps_if (pt_cmpR op_eq (pv 4) pe_str (nomark _)) (pss_one (ps_ret (pe_tup (pa_cons pe_str (pa_cons (pv 5) pa_nil))))) pss_nil)
      (pss_cons (ps_if (pt_cmpR op_eq (pv 4) pe_str (nomark _)) (pss_one (ps_ret (pe_tup (pa_cons pe_str (pa_cons (pe_ix ix_list (pv 0) (pv 5) (fun _ _ => rfl)) pa_nil))))) pss_nil)
      (pss_cons (ps_if (pt_cmpR op_eq (pv 4) pe_str (nomark _)) (pss_one (ps_ret (pe_ifExp (pt_cmpR op_eq (pv 2) pe_str (nomark _)) (pe_tup (pa_cons pe_str (pa_cons (pe_ix ix_list (pv 0) (pv 3) (fun _ _ => rfl)) pa_nil))) (pe_tup (pa_cons pe_str (pa_cons (pv 6) pa_nil)))))) pss_nil)
      (pss_cons (ps_if (pt_cmpR op_in_str (pv 4) pe_str (by with_unfolding_all rfl)) (pss_one (ps_ret (pe_tup (pa_cons (pe_ifExp (pt_cmpR op_eq (pv 4) pe_str (nomark _)) pe_str pe_str) (pa_cons (pe_ix ix_list (pv 1) (pv 6) (fun _ _ => rfl)) pa_nil))))) pss_nil)
      (pss_one (ps_ret (pe_tup (pa_cons (pe_ifExp (pt_cmpR op_eq (pv 4) pe_str (nomark _)) pe_str pe_str) (pa_cons (pv 3) pa_nil)))))))))))), ?_⟩
    -- elder = heirs.index(c); groom = c
    refine ⟨_, rfl, .inl ⟨rfl, _, SqL.of hb⟩, _, rfl, b, intL h', (c : Int), rfl, rfl, SqL.of hb', mem_intL (th.mem.mpr hc), ?_⟩
    rw [idx_intL]
    refine ⟨_, rfl, _, rfl, rfl, _, rfl, ?_⟩
    rw [sex_woman]
    have b1 := bw_lt th hc
    have b2 := bw_lt tw hc
    have g1 : atI (natL w') ((h'.idxOf c : Nat) : Int) = some (nat (fw w' (bw h' c))) := atN tw b1
    have g2 : atI (natL w') (c : Int) = some (nat (fw w' c)) := atN tw hc
    have g3 : atI (natL h') (c : Int) = some (nat (fw h' c)) := atN th hc
    have g4 : atI (natL h') ((w'.idxOf c : Nat) : Int) = some (nat (fw h' (bw w' c))) := atN th b2
    have two : (2 : Nat) ≤ sizeLine := by decide
    cases m
    all_goals
      first
        | (refine iteF ?_)
        | (refine iteT ?_
           refine ⟨_, rfl, .inl ⟨rfl, _, SqL.of ha⟩, _, rfl, a, intL w', (c : Int), rfl, rfl, SqL.of ha', mem_intL (tw.mem.mpr hc), ?_⟩
           rw [idx_intL])
      rcases hl with rfl | rfl | rfl | rfl | rfl | rfl | rfl
      all_goals
        refine ⟨_, rfl, rfl, _, rfl, iteD2 (fun e => ?_) (fun e => ?_)⟩ <;> rw [sgn_iff c_f] at e
        · first
            | exact absurd e (by decide)
            | exact ⟨_, rfl, two, fun t ht => k t ht⟩
        all_goals
          first
            | exact absurd rfl e
            | (refine ⟨_, rfl, rfl, _, rfl, iteD2 (fun e2 => ?_) (fun e2 => ?_)⟩ <;> rw [sgn_iff c_m] at e2
               · first
                   | exact absurd e2 (by decide)
                   | exact ⟨_, rfl, _, rfl, a, _, _, _, rfl, rfl, SqL.of ha, g1, two, fun t ht => k t ht⟩
               all_goals
                 first
                   | exact absurd rfl e2
                   | (refine ⟨_, rfl, rfl, _, rfl, iteD2 (fun e3 => ?_) (fun e3 => ?_)⟩ <;> rw [sgn_iff c_p] at e3
                      · first
                          | exact absurd e3 (by decide)
                          | (refine ⟨_, rfl, rfl, _, rfl, ?_⟩
                             rw [sex_man]
                             first
                               | (refine iteF ?_; exact ⟨_, rfl, two, fun t ht => k t ht⟩)
                               | (refine iteT ?_; exact ⟨_, rfl, _, rfl, a, _, _, _, rfl, rfl, SqL.of ha, g2, two, fun t ht => k t ht⟩))
                      all_goals
                        first
                          | exact absurd rfl e3
                          | (refine ⟨_, rfl, _, _, rfl, rfl, _, rfl, ?_⟩
                             rw [in_sd' (by decide)]
                             first
                               | (refine iteT ?_
                                  refine ⟨_, rfl, rfl, _, rfl, iteD2 (fun e4 => ?_) (fun e4 => ?_)⟩ <;> rw [sgn_iff c_s] at e4
                                  all_goals
                                    first
                                      | exact absurd e4 (by decide)
                                      | exact absurd rfl e4
                                      | exact ⟨_, rfl, _, rfl, b, _, _, _, rfl, rfl, SqL.of hb, g3, two, fun t ht => k t ht⟩
                                      | exact ⟨_, rfl, _, rfl, b, _, _, _, rfl, rfl, SqL.of hb, g4, two, fun t ht => k t ht⟩)
                               | (refine iteF ?_
                                  refine ⟨_, rfl, rfl, _, rfl, iteD2 (fun e4 => ?_) (fun e4 => ?_)⟩ <;> rw [sgn_iff c_b'] at e4
                                  all_goals
                                    first
                                      | exact absurd e4 (by decide)
                                      | exact absurd rfl e4
                                      | exact ⟨_, rfl, two, fun t ht => k t ht⟩))))
theorem sc_led : FnScope ["wives", "heirs", "sex", "c", "walk", "letter", "there"] ["wives", "heirs", "sex", "c", "walk"] (defScope (top 42)) := ⟨rfl, rfl, rfl, by decide +kernel, rfl, by decide +kernel, by decide +kernel⟩
theorem ok_led {f : Addr} {fd : FuncData} (F : Fun K "_law_led" "_law_led" (top 42) f fd) (T : Txt K mg C e) (hE : NoE CX) (D__law_step : Def P w K mg base CX "_law_step" 1 ["wives", "heirs", "sex", "c", "letter"] spStep) : FnOk P w K mg base CX 2 f fd ["wives", "heirs", "sex", "c", "walk"] spLed := by
  refine F.okN sc_led (fun vs H Q E h => ?_) (fun cdv A outer s H vs Q E hr h => ?_)
  · obtain ⟨a, b, n, w, h, m, c, l, rfl, _⟩ := h; rfl
  · obtain ⟨a, b, n, w', h', m, c, l, rfl, ha, hb, tw, th, hc, hl, hL, k⟩ := h
    have nd := sc_led.nd
    refine ⟨_, (pss_cons (ps_for PassesOwn.never rfl (pi_str (pv 4)) (pg_name (i := 5) nd rfl (Or.inl rfl)) (pss_cons (ps_set (i := 6) nd rfl (Or.inl rfl) (pe_callD D__law_step hE hr rfl (pa_cons (pv 0) (pa_cons (pv 1) (pa_cons (pv 2) (pa_cons (pv 3) (pa_cons (pv 5) pa_nil)))))))
      (pss_cons (ps_set (i := 2) nd rfl (Or.inl rfl) (pe_ix ix_tup (pv 6) pe_int (fun _ _ => rfl)))
      (pss_one (ps_set (i := 3) nd rfl (Or.inl rfl) (pe_ix ix_tup (pv 6) pe_int (fun _ _ => rfl)))))))
      (pss_one (ps_ret (pe_tup (pa_cons (pv 2) (pa_cons (pv 3) pa_nil)))))), ?_⟩
    refine ⟨_, rfl, _, rfl, for_str (l := l) (fun i σ H2 => (∃ o1 o2, σ = [some (.ref a), some (.ref b), some (sexV (led w' h' (m, c) (l.take i)).1), some (nat (led w' h' (m, c) (l.take i)).2), some (.str (txt l)), o1, o2]) ∧ Same H H2) ⟨⟨none, none, rfl⟩, Same.refl H⟩ ?_ ?_⟩
    · rintro i x σ H2 hi ⟨⟨o1, o2, rfl⟩, s2⟩
      have hx : IsL x := hL x (List.mem_of_getElem? hi)
      refine ⟨_, rfl, _, rfl, _, rfl, _, rfl, _, rfl, a, b, n, w', h', (led w' h' (m, c) (l.take i)).1, (led w' h' (m, c) (l.take i)).2, x, rfl, s2 _ _ ha, s2 _ _ hb, tw, th, led_lt tw th _ (m, c) hc, hx, fun t ht => ?_⟩
      refine ⟨_, rfl, t, _, 0, _, rfl, rfl, SqT.of upd_same, rfl, _, rfl, t, _, 1, _, rfl, rfl, SqT.of upd_same, rfl, ⟨some (sgn x), some (.ref t), ?_⟩, s2.trans (same_new ht)⟩
      rw [led_take hi]
      rfl
    · rintro σ H2 ⟨⟨o1, o2, rfl⟩, s2⟩
      rw [List.take_length]
      exact ⟨_, rfl, _, rfl, (by show 2 ≤ sizeLine; decide), fun t ht => k t _ (s2.free ht) (s2.trans (same_new ht)) upd_same⟩
theorem eqVs_pairs (s t : Bool × Nat) : eqVs (pairV s) (pairV t) = decide (s = t) := by
  show ((sexS s.1 == sexS t.1) && (((s.2 : Int) == (t.2 : Int)) && true)) = _
  obtain ⟨a, b⟩ := s
  obtain ⟨c, d⟩ := t
  have e1 : (sexS a == sexS c) = decide (a = c) := by cases a <;> cases c <;> decide +kernel
  have e2 : ((b : Int) == (d : Int)) = decide (b = d) := by
    by_cases q : b = d
    · subst q; simp
    · rw [decide_eq_false q, beq_eq_false_iff_ne]; omega
  dsimp only
  rw [e1, e2, Bool.and_true]
  by_cases q1 : a = c <;> by_cases q2 : b = d <;> simp [q1, q2]
theorem sc_samen : FnScope ["found", "due", "k"] ["found", "due"] (defScope (top 43)) := ⟨rfl, rfl, rfl, by decide +kernel, rfl, by decide +kernel, by decide +kernel⟩
theorem ok_samen {f : Addr} {fd : FuncData} (F : Fun K "_law_same_numbers" "_law_same_numbers" (top 43) f fd) (T : Txt K mg C e) (hE : NoE CX) (D__law_whole : Def P w K mg base CX "_law_whole" 1 ["found"] spWhole) : FnOk P w K mg base CX 2 f fd ["found", "due"] spSameN := by
  refine F.okN sc_samen (fun vs H Q E h => ?_) (fun cdv A outer s H vs Q E hr h => ?_)
  · obtain ⟨a, b, ns, ms, rfl, _⟩ := h; rfl
  · obtain ⟨a, b, ns, ms, rfl, ha, hb, hl, k⟩ := h
    have nd := sc_samen.nd
    refine ⟨_, (pss_cons (ps_if (PW.pt (pw_or (pt_not (pt_val (pe_callB call_isinst rfl T.z_isinstance bt_isinstance (pa_cons (pv 0) (pa_cons (pe_bltn (v := .ty "list") rfl T.z_list bt_list rfl) pa_nil))))) (pw_or1 (pt_cmpR op_ne (pe_callB call_len_seq rfl T.z_len PySem.boot_len (pa_cons (pv 0) pa_nil)) (pe_callB call_len_seq rfl T.z_len PySem.boot_len (pa_cons (pv 1) pa_nil)) (nomark _))))) (pss_one (ps_ret pe_bl)) pss_nil)
      (pss_cons (ps_for PassesOwn.never rfl (pi_range1 rfl T.z_range (pa_cons (pe_callB call_len_seq rfl T.z_len PySem.boot_len (pa_cons (pv 1) pa_nil)) pa_nil)) (pg_name (i := 2) nd rfl (Or.inl rfl)) (pss_one (ps_if (PW.pt (pw_or (pt_not (pt_val (pe_callD D__law_whole hE hr rfl (pa_cons (pe_ix ix_list (pv 0) (pv 2) (fun _ _ => rfl)) pa_nil)))) (pw_or1 (pt_cmpR op_ne (pe_ix ix_list (pv 0) (pv 2) (fun _ _ => rfl)) (pe_ix ix_list (pv 1) (pv 2) (fun _ _ => rfl)) (nomark _))))) (pss_one (ps_ret pe_bl)) pss_nil)))
      (pss_one (ps_ret pe_bl)))), ?_⟩
    refine ⟨_, rfl, .ref a, "list", _, true, rfl, TyOf.lst ha, kit_same, _, rfl, iteF ?_⟩
    refine ⟨_, rfl, a, _, rfl, .inl (SqL.of ha), _, rfl, b, _, rfl, .inl (SqL.of hb), rfl, _, rfl, ?_⟩
    rw [List.length_map, List.length_map]
    have el : (!decide (V.int (ns.length : Int) = V.int (ms.length : Int))) = !decide (ns.length = ms.length) := by
      rw [dec_int]
      by_cases q : ns.length = ms.length
      · rw [q]; simp
      · rw [decide_eq_false q, beq_eq_false_iff_ne.mpr (by omega)]
    rw [el]
    by_cases q : ns.length = ms.length
    · rw [decide_eq_true q]
      refine iteF ⟨_, rfl, b, _, rfl, .inl (SqL.of hb), _, rfl, by rw [List.length_map]; omega, by rw [List.length_map]; omega, ?_⟩
      rw [List.length_map, Int.toNat_natCast]
      refine for_range0 (fun i σ H2 => (∃ o, σ = [some (.ref a), some (.ref b), o]) ∧ H2 = H ∧ ns.take i = ms.take i) ⟨⟨none, rfl⟩, rfl, rfl⟩ ?_ ?_
      · rintro i σ H2 hi ⟨⟨o, rfl⟩, rfl, ht⟩
        have hi' : i < ns.length := by omega
        have ga : atI (ns.map V.int) (i : Int) = some (V.int ns[i]) := atI_nat (by rw [List.getElem?_map, List.getElem?_eq_getElem hi']; rfl)
        have gb : atI (ms.map V.int) (i : Int) = some (V.int ms[i]) := atI_nat (by rw [List.getElem?_map, List.getElem?_eq_getElem hi]; rfl)
        refine ⟨_, rfl, _, rfl, a, _, _, _, rfl, rfl, SqL.of ha, ga, _, rfl, _, rfl, iteF ?_⟩
        refine ⟨_, rfl, _, rfl, a, _, _, _, rfl, rfl, SqL.of ha, ga, _, rfl, _, rfl, b, _, _, _, rfl, rfl, SqL.of hb, gb, rfl, _, rfl, ?_⟩
        rw [dec_int]
        by_cases z : ns[i] = ms[i]
        · rw [z, beq_self_eq_true]
          refine iteF ⟨⟨_, rfl⟩, rfl, ?_⟩
          rw [List.take_add_one, List.take_add_one, ht, List.getElem?_eq_getElem hi', List.getElem?_eq_getElem hi, z]
        · rw [beq_eq_false_iff_ne.mpr z]
          refine iteT ?_
          have ne : ns ≠ ms := fun zz => z (by subst zz; rfl)
          rw [decide_eq_false ne] at k
          exact k
      · rintro σ H2 ⟨⟨o, rfl⟩, rfl, ht⟩
        rw [List.take_length, ← q, List.take_length] at ht
        rw [decide_eq_true ht] at k
        exact k
    · rw [decide_eq_false q]
      refine iteT ?_
      have ne : ns ≠ ms := fun zz => q (by rw [zz])
      rw [decide_eq_false ne] at k
      exact k
end


--CUT
/-! rules: a list of tuples of a word and a walk -/
abbrev Rl := Bool × List Nat
def wordS (m : Bool) : Str := if m then "may" else "never"
def rlT (r : Rl) : List V := [.str (wordS r.1), .str (txt r.2)]
structure RfAt (H : Hp) (ps : List Addr) (rs : List Rl) : Prop where
  len : ps.length = rs.length
  at_ : ∀ (i : Nat) p r, ps[i]? = some p → rs[i]? = some r → H p = some (.tup (rlT r))
theorem RfAt.keep {H H' : Hp} {ps : List Addr} {rs : List Rl} (h : RfAt H ps rs) (s : ∀ p xs, H p = some (.tup xs) → H' p = some (.tup xs)) : RfAt H' ps rs := ⟨h.len, fun i p r a b => s _ _ (h.at_ i p r a b)⟩
theorem RfAt.same {H H' : Hp} {ps : List Addr} {rs : List Rl} (h : RfAt H ps rs) (s : Same H H') : RfAt H' ps rs := h.keep fun _ _ e => s _ _ e
theorem RfAt.snoc {H : Hp} {ps : List Addr} {rs : List Rl} (h : RfAt H ps rs) {t : Addr} {r : Rl} (ht : H t = some (.tup (rlT r))) : RfAt H (ps ++ [t]) (rs ++ [r]) := by
  refine ⟨by rw [List.length_append, List.length_append, h.len]; rfl, fun i p q a b => ?_⟩
  by_cases c : i < ps.length
  · rw [List.getElem?_append_left c] at a
    rw [List.getElem?_append_left (by rw [← h.len]; exact c)] at b
    exact h.at_ i p q a b
  · have hi : i = ps.length := by
      have := (List.getElem?_eq_some_iff.mp a).1
      rw [List.length_append] at this
      have e1 : [t].length = 1 := rfl
      omega
    subst hi
    rw [List.getElem?_append_right (Nat.le_refl _), Nat.sub_self] at a
    rw [h.len, List.getElem?_append_right (Nat.le_refl _), Nat.sub_self] at b
    cases Option.some.inj a
    cases Option.some.inj b
    exact ht
/-- a walk from a man to a woman -/
def GoodW (l : List Nat) : Prop := IsW l ∧ endS true l = false
abbrev AllGood (rs : List Rl) : Prop := ∀ r ∈ rs, GoodW r.2
def badAt (w h : List Nat) (r : Rl) (c : Nat) : Bool := !decide (decide (led w h (true, c) r.2 = (false, fw w c)) = r.1)
def NoBad (w h : List Nat) (n : Nat) (rs : List Rl) : Prop := ∀ (k : Nat) r c, rs[k]? = some r → c < n → badAt w h r c = false
structure FirstBad (w h : List Nat) (n : Nat) (rs : List Rl) (k c : Nat) : Prop where
  lt : c < n
  it : ∃ r, rs[k]? = some r ∧ badAt w h r c = true
  ahead : ∀ (j : Nat) r d, rs[j]? = some r → d < n → j < k ∨ (j = k ∧ d < c) → badAt w h r d = false
theorem FirstBad.not {w h : List Nat} {n : Nat} {rs : List Rl} {k c : Nat} (f : FirstBad w h n rs k c) : ¬ NoBad w h n rs := fun z => by
  obtain ⟨r, hr, hb⟩ := f.it
  rw [z k r c hr f.lt] at hb
  cases hb
/-- the first rule that is refused: true where it is no walk -/
def Refuse (rs : List Rl) (b : Bool) : Prop := ∃ (i : Nat) (r : Rl), rs[i]? = some r ∧ (∀ (j : Nat) (r' : Rl), j < i → rs[j]? = some r' → GoodW r'.2) ∧ ((b = true ∧ ¬ IsW r.2) ∨ (b = false ∧ IsW r.2 ∧ endS true r.2 = true))
abbrev Okay (rs : List Rl) : Prop := rs.length ≤ 100 ∧ ∀ r ∈ rs, r.2.length ≤ 1000 ∧ Sg r.2
def spWomanWalk : Sp := fun vs H Q _ => ∃ (z : Int) (most : Nat), vs = [.int z, nat most] ∧ most ≤ 59 ∧ ∀ l, GoodW l → Q (.str (txt l)) H
def spRulesBy (K : PySem.W.Frag) : Sp := fun vs H Q _ => ∃ (a : Addr) (ns : List Int) (start count : Nat), vs = [.ref a, nat start, nat count] ∧ SqL K H a (ns.map V.int) ∧ count ≤ 50 ∧
  ∀ D ps rs H', H D = none → Same H H' → H' D = some (.lst (ps.map V.ref)) → RfAt H' ps rs → rs.length = count → AllGood rs → Q (.ref D) H'
def spLBreach : Sp := fun vs H Q _ => ∃ (a b r : Addr) (n : Nat) (w h : List Nat) (ps : List Addr) (rs : List Rl), vs = [.ref a, .ref b, .ref r] ∧ H a = some (.lst (natL w)) ∧ H b = some (.lst (natL h)) ∧ H r = some (.lst (ps.map V.ref)) ∧ RfAt H ps rs ∧ AllGood rs ∧ rs.length ≤ 100 ∧ IsTurn n w ∧ IsTurn n h ∧ n ≤ 8 ∧
  (NoBad w h n rs → ∀ H', Same H H' → Q .non H') ∧ (∀ k c, FirstBad w h n rs k c → ∀ t H', H t = none → Same H H' → H' t = some (.tup [nat k, nat c]) → Q (.ref t) H')
theorem pick_kin (q : Int) (h0 : 0 ≤ q) (h9 : q < 9) : ∃ l, atI [V.str "mbd", V.str "fzd", V.str "z", V.str "fzd", V.str "mbd", V.str "fbd", V.str "ffzsd", V.str "mmbdd", V.str "mzd"] q = some (V.str (txt l)) ∧ GoodW l := by
  have h : q = 0 ∨ q = 1 ∨ q = 2 ∨ q = 3 ∨ q = 4 ∨ q = 5 ∨ q = 6 ∨ q = 7 ∨ q = 8 := by omega
  have g : ∀ l : List Nat, l.length ≤ 60 → (∀ x ∈ l, IsL x) → endS true l = false → GoodW l := fun l a b c => ⟨⟨a, b⟩, c⟩
  rcases h with rfl | rfl | rfl | rfl | rfl | rfl | rfl | rfl | rfl
  · exact ⟨[109, 98, 100], by decide +kernel, g _ (by decide) (by decide) (by decide)⟩
  · exact ⟨[102, 122, 100], by decide +kernel, g _ (by decide) (by decide) (by decide)⟩
  · exact ⟨[122], by decide +kernel, g _ (by decide) (by decide) (by decide)⟩
  · exact ⟨[102, 122, 100], by decide +kernel, g _ (by decide) (by decide) (by decide)⟩
  · exact ⟨[109, 98, 100], by decide +kernel, g _ (by decide) (by decide) (by decide)⟩
  · exact ⟨[102, 98, 100], by decide +kernel, g _ (by decide) (by decide) (by decide)⟩
  · exact ⟨[102, 102, 122, 115, 100], by decide +kernel, g _ (by decide) (by decide) (by decide)⟩
  · exact ⟨[109, 109, 98, 100, 100], by decide +kernel, g _ (by decide) (by decide) (by decide)⟩
  · exact ⟨[109, 122, 100], by decide +kernel, g _ (by decide) (by decide) (by decide)⟩
theorem pick_word (q : Int) (h0 : 0 ≤ q) (h3 : q < 3) : ∃ m, atI [V.str "may", V.str "never", V.str "never"] q = some (V.str (wordS m)) := by
  have h : q = 0 ∨ q = 1 ∨ q = 2 := by omega
  rcases h with rfl | rfl | rfl
  · exact ⟨true, rfl⟩
  · exact ⟨false, rfl⟩
  · exact ⟨false, rfl⟩
theorem pick_mdz (q : Int) (h0 : 0 ≤ q) (h3 : q < 3) : ∃ c, IsL c ∧ (∀ m, stS m c = false) ∧ atI ("mdz" : Str).cps.toList q = some c := by
  have h : q = 0 ∨ q = 1 ∨ q = 2 := by omega
  rcases h with rfl | rfl | rfl
  · exact ⟨109, by decide, by decide, by decide +kernel⟩
  · exact ⟨100, by decide, by decide, by decide +kernel⟩
  · exact ⟨122, by decide, by decide, by decide +kernel⟩
theorem endS_snoc (m : Bool) (l : List Nat) (c : Nat) : endS m (l ++ [c]) = stS (endS m l) c := by unfold endS; rw [List.foldl_append]; rfl
section
variable {P : Program} {w : World} {K : PySem.W.Frag} {mg : Str → Option Value} {base : Heap} {CX : CXT} {C : Addr} {e : Ad}
theorem sc_wwalk : FnScope ["cell", "most", "walk", "sex", "letter"] ["cell", "most"] (defScope (top 44)) := ⟨rfl, rfl, rfl, by decide +kernel, rfl, by decide +kernel, by decide +kernel⟩
theorem ok_wwalk {f : Addr} {fd : FuncData} (F : Fun K "_law_woman_walk" "_law_woman_walk" (top 44) f fd) (T : Txt K mg C e) (hE : NoE CX) (D__law_walk_by : Def P w K mg base CX "_law_walk_by" 1 ["cell", "most"] spWalkBy) : FnOk P w K mg base CX 2 f fd ["cell", "most"] spWomanWalk := by
  refine F.okN sc_wwalk (fun vs H Q E h => ?_) (fun cdv A outer s H vs Q E hr h => ?_)
  · obtain ⟨z, most, rfl, _⟩ := h; rfl
  · obtain ⟨z, most, rfl, hm, k⟩ := h
    have nd := sc_wwalk.nd
    refine ⟨_, (pss_cons (ps_set (i := 2) nd rfl (Or.inl rfl) (pe_callD D__law_walk_by hE hr rfl (pa_cons (pv 0) (pa_cons (pv 1) pa_nil))))
      (pss_cons (ps_set (i := 3) nd rfl (Or.inl rfl) pe_str)
      (pss_cons (ps_for PassesOwn.never rfl (pi_str (pv 2)) (pg_name (i := 4) nd rfl (Or.inl rfl)) (pss_one (ps_if (PW.pt (pw_or (pt_cmpR op_in_str (pv 4) pe_str (by with_unfolding_all rfl)) (pw_or1 (PW.pt (pw_and (pt_cmpR op_eq (pv 4) pe_str (nomark _)) (pw_and1 (pt_cmpR op_eq (pv 3) pe_str (nomark _)))))))) (pss_one (ps_set (i := 3) nd rfl (Or.inl rfl) pe_str)) (pss_one (ps_set (i := 3) nd rfl (Or.inl rfl) pe_str)))))
      (pss_cons (ps_if (PW.pt (pw_and (pt_cmpR op_eq (pv 3) pe_str (nomark _)) (pw_and1 (pt_cmpR op_eq (pe_op op_mod (pe_op op_fdiv (pv 0) pe_int) pe_int) pe_int (nomark _))))) (pss_one (ps_ret (pe_op op_add_str (pv 2) pe_str))) pss_nil)
      (pss_cons (ps_if (PW.pt (pw_and (pt_cmpR op_eq (pv 3) pe_str (nomark _)) (pw_and1 (pt_cmpR op_eq (pe_op op_mod (pe_op op_fdiv (pv 0) pe_int) pe_int) pe_int (nomark _))))) (pss_one (ps_ret (pv 2))) pss_nil)
      (pss_one (ps_ret (pe_op op_add_str (pv 2) (pe_ix ix_str pe_str (pe_op op_mod (pe_op op_fdiv (pv 0) pe_int) pe_int) (fun _ _ => rfl)))))))))), ?_⟩
    refine ⟨_, rfl, _, rfl, z, most, rfl, by omega, fun l ll hL => ?_⟩
    have big : 100 ≤ sizeLine := by decide
    have sn : ∀ c, IsL c → stS (endS true l) c = false → Q (.str (txt (l ++ [c]))) H := fun c hc hs => k _ ⟨⟨by rw [List.length_append]; show l.length + 1 ≤ 60; omega, fun x hx => by
      rcases List.mem_append.mp hx with q | q
      · exact hL x q
      · rw [List.mem_singleton.mp q]; exact hc⟩, by rw [endS_snoc]; exact hs⟩
    have szl : (txt l).length + 1 ≤ sizeLine := by rw [txt_len]; omega
    walk_at "ns"
    refine ⟨_, rfl, _, rfl, for_str (l := l) (fun i σ H2 => (∃ o, σ = [some (.int z), some (nat most), some (.str (txt l)), some (sexV (endS true (l.take i))), o]) ∧ H2 = H) ⟨⟨none, rfl⟩, rfl⟩ ?_ ?_⟩
    · rintro i x σ H2 hi ⟨⟨o, rfl⟩, rfl⟩
      have hx : IsL x := hL x (List.mem_of_getElem? hi)
      have nxt : ∀ q, q = stS (endS true (l.take i)) x → ∃ o, [some (V.int z), some (nat most), some (V.str (txt l)), some (sexV q), some (sgn x)] = [some (V.int z), some (nat most), some (V.str (txt l)), some (sexV (endS true (l.take (i + 1)))), o] := fun q hq => ⟨some (sgn x), by rw [endS_take hi, hq]⟩
      refine ⟨_, rfl, _, _, rfl, rfl, _, rfl, ?_⟩
      rw [in_men hx]
      refine iteB (fun q => iteT ⟨nxt true ?_, rfl⟩) (fun q => ?_)
      · unfold stS
        rw [q]
        split
        · rename_i e; subst e; simp at q
        · rfl
      · refine ⟨_, rfl, rfl, _, rfl, iteD2 (fun ep => ?_) (fun ep => iteF ⟨nxt false ?_, rfl⟩)⟩ <;> rw [sgn_iff c_p] at ep
        · subst ep
          refine ⟨_, rfl, rfl, _, rfl, ?_⟩
          rw [sex_woman]
          have hs : stS (endS true (l.take i)) 112 = !(endS true (l.take i)) := rfl
          generalize endS true (l.take i) = e at hs nxt
          cases e
          · exact iteT ⟨nxt true (by rw [hs]; rfl), rfl⟩
          · exact iteF ⟨nxt false (by rw [hs]; rfl), rfl⟩
        · unfold stS
          rw [q, if_neg ep]
    · rintro σ H2 ⟨⟨o, rfl⟩, rfl⟩
      rw [List.take_length]
      have last : ∀ (R : V → Prop), (∀ c, IsL c → (∀ m, stS m c = false) → R (.str (txt (l ++ [c])))) → ∃ c, IsL c ∧ (∀ m, stS m c = false) ∧ atI ("mdz" : Str).cps.toList (z / 7 % 3) = some c ∧ R (.str (txt (l ++ [c]))) := fun R hR => by
        obtain ⟨c, c1, c2, c3⟩ := pick_mdz (z / 7 % 3) (Int.emod_nonneg _ (by decide)) (Int.emod_lt_of_pos _ (by decide))
        exact ⟨c, c1, c2, c3, hR c c1 c2⟩
      obtain ⟨c, c1, c2, c3, c4⟩ := last (fun v => Q v H2) fun c c1 c2 => sn c c1 (c2 _)
      refine ⟨_, rfl, rfl, _, rfl, ?_⟩
      rw [sex_man]
      cases hs : endS true l
      · refine iteF (iteF ?_)
        refine ⟨_, rfl, rfl, _, rfl, ?_⟩
        rw [sex_woman]
        refine iteT ⟨_, rfl, _, _, rfl, rfl, ⟨by decide, by decide⟩, _, _, rfl, rfl, (show (0 : Int) < 2 by decide), rfl, _, rfl, iteD2 (fun _ => ⟨_, rfl, k l ⟨⟨by omega, hL⟩, hs⟩⟩) (fun _ => ?_)⟩
        refine ⟨_, rfl, _, rfl, _, _, rfl, rfl, ⟨by decide, by decide⟩, _, _, rfl, rfl, (show (0 : Int) < 3 by decide), _, _, c, rfl, rfl, by decide +kernel, c3, _, _, rfl, rfl, szl, ?_⟩
        rw [txt_snoc]
        exact c4
      · refine iteT ⟨_, rfl, _, _, rfl, rfl, ⟨by decide, by decide⟩, _, _, rfl, rfl, (show (0 : Int) < 2 by decide), rfl, _, rfl, iteD2 (fun _ => ?_) (fun _ => ?_)⟩
        · refine ⟨_, rfl, _, _, rfl, rfl, szl, ?_⟩
          rw [c_p, txt_snoc]
          exact sn 112 (by decide) (by rw [hs]; rfl)
        · refine ⟨_, rfl, rfl, _, rfl, ?_⟩
          rw [sex_woman]
          refine iteF (iteF ?_)
          refine ⟨_, rfl, _, rfl, _, _, rfl, rfl, ⟨by decide, by decide⟩, _, _, rfl, rfl, (show (0 : Int) < 3 by decide), _, _, c, rfl, rfl, by decide +kernel, c3, _, _, rfl, rfl, szl, ?_⟩
          rw [txt_snoc]
          exact c4
/-! ### rules_by -/
theorem sc_rulesby : FnScope ["script", "start", "count", "rules", "k", "cell", "some", "walk"] ["script", "start", "count"] (defScope (top 45)) := ⟨rfl, rfl, rfl, by decide +kernel, rfl, by decide +kernel, by decide +kernel⟩
theorem ok_rulesby {f : Addr} {fd : FuncData} (F : Fun K "_law_rules_by" "_law_rules_by" (top 45) f fd) (T : Txt K mg C e) (hE : NoE CX) (D__law_cell_at : Def P w K mg base CX "_law_cell_at" 1 ["script", "k"] (spCellAt K)) (D__law_woman_walk : Def P w K mg base CX "_law_woman_walk" 2 ["cell", "most"] spWomanWalk) : FnOk P w K mg base CX 3 f fd ["script", "start", "count"] (spRulesBy K) := by
  refine F.okN sc_rulesby (fun vs H Q E h => ?_) (fun cdv A outer s H vs Q E hr h => ?_)
  · obtain ⟨a, ns, start, count, rfl, _⟩ := h; rfl
  · obtain ⟨a, ns, start, count, rfl, hS, c50, k⟩ := h
    have nd := sc_rulesby.nd
    have big : 100 ≤ sizeLine := by decide
    refine ⟨_, (pss_cons (ps_set (i := 3) nd rfl (Or.inl rfl) (pe_lst pa_nil))
      (pss_cons (ps_for PassesOwn.never rfl (pi_range1 rfl T.z_range (pa_cons (pv 2) pa_nil)) (pg_name (i := 4) nd rfl (Or.inl rfl)) (pss_cons (ps_set (i := 5) nd rfl (Or.inl rfl) (pe_callD D__law_cell_at hE hr rfl (pa_cons (pv 0) (pa_cons (pe_op op_add (pv 1) (pv 4)) pa_nil))))
      (pss_cons (ps_set (i := 6) nd rfl (Or.inl rfl) (pe_lst (pa_cons pe_str (pa_cons pe_str (pa_cons pe_str (pa_cons pe_str (pa_cons pe_str (pa_cons pe_str (pa_cons pe_str (pa_cons pe_str (pa_cons pe_str pa_nil)))))))))))
      (pss_cons (ps_set (i := 7) nd rfl (Or.inl rfl) (pe_ix ix_list (pv 6) (pe_op op_mod (pe_op op_fdiv (pv 5) pe_int) pe_int) (fun _ _ => rfl)))
      (pss_cons (ps_join (ps_if (pt_cmpR op_eq (pe_op op_mod (pe_op op_fdiv (pv 5) pe_int) pe_int) pe_int (nomark _)) (pss_one (ps_set (i := 7) nd rfl (Or.inl rfl) (pe_callD D__law_woman_walk hE hr rfl (pa_cons (pv 5) (pa_cons pe_int pa_nil))))) pss_nil))
      (pss_one (ps_expr (pe_bm PySem.F.plainAttrs_list PySem.F.slot_list_append PySem.F.type_list_append mt_append (pv 3) (pa_cons (pe_tup (pa_cons (pe_ix ix_list (pe_lst (pa_cons pe_str (pa_cons pe_str (pa_cons pe_str pa_nil)))) (pe_op op_mod (pv 5) pe_int) (fun _ _ => rfl)) (pa_cons (pv 7) pa_nil))) pa_nil)))))))))
      (pss_one (ps_ret (pv 3))))), ?_⟩
    refine ⟨by decide, fun D hD => ?_⟩
    walk_at "ns"
    refine ⟨_, rfl, _, rfl, by omega, by omega, ?_⟩
    rw [Int.toNat_natCast]
    refine for_range0 (fun i σ H2 => (∃ o1 o2 o3 o4, σ = [some (.ref a), some (nat start), some (nat count), some (.ref D), o1, o2, o3, o4]) ∧ Same H H2 ∧ ∃ ps rs, H2 D = some (.lst (ps.map V.ref)) ∧ RfAt H2 ps rs ∧ rs.length = i ∧ AllGood rs)
      ⟨⟨none, none, none, none, rfl⟩, same_new hD, [], [], upd_same, ⟨rfl, fun i p r h1 h2 => by cases h1⟩, rfl, fun r hr => by cases hr⟩ ?_ ?_
    · rintro i σ H2 hi ⟨⟨o1, o2, o3, o4, rfl⟩, s2, ps, rs, hl, rf, len, good⟩
      have ei : V.int ((start : Int) + (i : Int)) = nat (start + i) := by show V.int _ = V.int _; rw [Int.natCast_add]
      refine ⟨_, rfl, _, rfl, _, rfl, _, _, rfl, rfl, a, ns, start + i, by show [V.ref a, V.int ((start : Int) + (i : Int))] = _; rw [ei], s2.seq hS, fun z => ?_⟩
      walk_at "ns"
      refine ⟨(show 9 ≤ sizeLine by decide), fun L hL => ?_⟩
      have s3 := same_new (o := .lst [V.str "mbd", V.str "fzd", V.str "z", V.str "fzd", V.str "mbd", V.str "fbd", V.str "ffzsd", V.str "mmbdd", V.str "mzd"]) hL
      have gL : (upd H2 L (.lst [V.str "mbd", V.str "fzd", V.str "z", V.str "fzd", V.str "mbd", V.str "fbd", V.str "ffzsd", V.str "mmbdd", V.str "mzd"])) L = some (.lst [V.str "mbd", V.str "fzd", V.str "z", V.str "fzd", V.str "mbd", V.str "fbd", V.str "ffzsd", V.str "mmbdd", V.str "mzd"]) := upd_same
      generalize upd H2 L (.lst [V.str "mbd", V.str "fzd", V.str "z", V.str "fzd", V.str "mbd", V.str "fbd", V.str "ffzsd", V.str "mmbdd", V.str "mzd"]) = H3 at s3 gL
      obtain ⟨l0, hl0, g0⟩ := pick_kin (z / 5 % 9) (Int.emod_nonneg _ (by decide)) (Int.emod_lt_of_pos _ (by decide))
      walk_at "ns"
      refine ⟨_, rfl, _, rfl, _, _, rfl, rfl, ⟨by decide, by decide⟩, _, _, rfl, rfl, (show (0 : Int) < 9 by decide), L, _, _, _, rfl, rfl, SqL.of gL, hl0, ?_⟩
      walk_at "ns"
      refine ⟨fun σ' H' => (∃ l, GoodW l ∧ σ' = [some (.ref a), some (nat start), some (nat count), some (.ref D), some (nat i), some (.int z), some (.ref L), some (.str (txt l))]) ∧ H' = H3, ?_, ?_⟩
      · refine ⟨_, rfl, _, _, rfl, rfl, ⟨by decide, by decide⟩, _, _, rfl, rfl, (show (0 : Int) < 3 by decide), rfl, _, rfl, iteD2 (fun _ => ?_) (fun _ => ⟨⟨l0, g0, rfl⟩, rfl⟩)⟩
        exact ⟨_, rfl, z, 6, rfl, by decide, fun l g => ⟨⟨l, g, rfl⟩, rfl⟩⟩
      rintro σ' H' ⟨⟨l, gl, rfl⟩, rfl⟩
      have hl3 := s3 _ _ hl
      refine ⟨_, rfl, .inl ⟨rfl, _, SqL.of hl3⟩, (show 3 ≤ sizeLine by decide), fun M hM => ?_⟩
      obtain ⟨m, hm⟩ := pick_word (z % 3) (Int.emod_nonneg _ (by decide)) (Int.emod_lt_of_pos _ (by decide))
      refine ⟨_, rfl, _, _, rfl, rfl, (show (0 : Int) < 3 by decide), M, _, _, _, rfl, rfl, SqL.of upd_same, hm, _, rfl, two_fits, fun t ht => ?_⟩
      have s4 : Same H' (upd (upd H' M (.lst [V.str "may", V.str "never", V.str "never"])) t (.tup [V.str (wordS m), V.str (txt l)])) := (same_new hM).trans (same_new ht)
      have gt : (upd (upd H' M (.lst [V.str "may", V.str "never", V.str "never"])) t (.tup [V.str (wordS m), V.str (txt l)])) t = some (.tup (rlT (m, l))) := upd_same
      generalize upd (upd H' M (.lst [V.str "may", V.str "never", V.str "never"])) t (.tup [V.str (wordS m), V.str (txt l)]) = H4 at s4 gt
      refine ⟨D, _, _, rfl, rfl, s4 _ _ hl3, ?_, ⟨_, _, _, _, rfl⟩, same_upd (s2.trans (s3.trans s4)) hD, ps ++ [t], rs ++ [(m, l)], ?_, ?_, by rw [List.length_append, len]; rfl, ?_⟩
      · rw [List.length_map, rf.len, len]; omega
      · rw [upd_same, List.map_append]; rfl
      · refine ((rf.same (s3.trans s4)).snoc gt).keep fun p xs e => ?_
        rw [upd_ne (fun z => by rw [z, s4 _ _ hl3] at e; cases e)]
        exact e
      · intro r hr
        rcases List.mem_append.mp hr with q | q
        · exact good r q
        · rw [List.mem_singleton.mp q]; exact gl
    · rintro σ H2 ⟨⟨o1, o2, o3, o4, rfl⟩, s2, ps, rs, hl, rf, len, good⟩
      exact ⟨_, rfl, k D ps rs H2 hD s2 hl rf len good⟩
/-! ### the law's own breach -/
theorem sc_lbreach : FnScope ["wives", "heirs", "rules", "k", "c", "met"] ["wives", "heirs", "rules"] (defScope (top 46)) := ⟨rfl, rfl, rfl, by decide +kernel, rfl, by decide +kernel, by decide +kernel⟩
theorem dec_bl (a b : Bool) : decide (V.bl a = V.bl b) = decide (a = b) := by cases a <;> cases b <;> rfl
theorem word_may (m : Bool) : decide (V.str (wordS m) = V.str "may") = m := by cases m <;> decide +kernel
theorem ok_lbreach {f : Addr} {fd : FuncData} (F : Fun K "_law_breach" "_law_breach" (top 46) f fd) (T : Txt K mg C e) (hE : NoE CX) (D__law_led : Def P w K mg base CX "_law_led" 2 ["wives", "heirs", "sex", "c", "walk"] spLed) : FnOk P w K mg base CX 3 f fd ["wives", "heirs", "rules"] spLBreach := by
  refine F.okN sc_lbreach (fun vs H Q E h => ?_) (fun cdv A outer s H vs Q E hr h => ?_)
  · obtain ⟨a, b, r, n, w, h, ps, rs, rfl, _⟩ := h; rfl
  · obtain ⟨a, b, r, n, w', h', ps, rs, rfl, ha, hb, hl, rf, good, l100, tw, th, n8, kN, kF⟩ := h
    have nd := sc_lbreach.nd
    have hu := hr.units0
    refine ⟨_, (pss_cons (ps_for PassesOwn.never rfl (pi_range1 rfl T.z_range (pa_cons (pe_callB call_len_seq rfl T.z_len PySem.boot_len (pa_cons (pv 2) pa_nil)) pa_nil)) (pg_name (i := 3) nd rfl (Or.inl rfl)) (pss_one (ps_for PassesOwn.never rfl (pi_range1 rfl T.z_range (pa_cons (pe_callB call_len_seq rfl T.z_len PySem.boot_len (pa_cons (pv 0) pa_nil)) pa_nil)) (pg_name (i := 4) nd rfl (Or.inl rfl)) (pss_cons (ps_set (i := 5) nd rfl (Or.inl rfl) (pe_cmpR (op_eqT hu) (pe_callD D__law_led hE hr rfl (pa_cons (pv 0) (pa_cons (pv 1) (pa_cons pe_str (pa_cons (pv 4) (pa_cons (pe_ix ix_tup (pe_ix ix_list (pv 2) (pv 3) (fun _ _ => rfl)) pe_int (fun _ _ => rfl)) pa_nil)))))) (pe_tup (pa_cons pe_str (pa_cons (pe_ix ix_list (pv 0) (pv 4) (fun _ _ => rfl)) pa_nil))) (nomark _)))
      (pss_one (ps_if (pt_cmpR op_ne (pv 5) (pe_cmpR op_eq (pe_ix ix_tup (pe_ix ix_list (pv 2) (pv 3) (fun _ _ => rfl)) pe_int (fun _ _ => rfl)) pe_str (nomark _)) (nomark _)) (pss_one (ps_ret (pe_tup (pa_cons (pv 3) (pa_cons (pv 4) pa_nil))))) pss_nil))))))
      (pss_one (ps_ret pe_non))), ?_⟩
    refine ⟨_, rfl, r, _, rfl, .inl (SqL.of hl), _, rfl, by rw [List.length_map, rf.len]; omega, by rw [List.length_map, rf.len]; omega, ?_⟩
    rw [List.length_map, rf.len, Int.toNat_natCast]
    refine for_range0 (fun i σ H2 => (∃ o1 o2 o3, σ = [some (.ref a), some (.ref b), some (.ref r), o1, o2, o3]) ∧ Same H H2 ∧ ∀ (j : Nat) q d, rs[j]? = some q → d < n → j < i → badAt w' h' q d = false) ⟨⟨none, none, none, rfl⟩, Same.refl _, fun j q d _ _ h => absurd h (Nat.not_lt_zero _)⟩ ?_ ?_
    · rintro i σ H2 hi ⟨⟨o1, o2, o3, rfl⟩, s2, done⟩
      refine ⟨_, rfl, a, _, rfl, .inl (SqL.of (s2 _ _ ha)), _, rfl, by rw [natL_len, tw.len]; omega, by rw [natL_len, tw.len]; omega, ?_⟩
      rw [natL_len, tw.len, Int.toNat_natCast]
      have hri : rs[i]? = some rs[i] := List.getElem?_eq_getElem hi
      have hpi : i < ps.length := by rw [rf.len]; exact hi
      have hp := rf.at_ i _ _ (List.getElem?_eq_getElem hpi) hri
      have gw := good _ (List.getElem_mem hi)
      refine for_range0 (fun c σ H3 => (∃ o2 o3, σ = [some (.ref a), some (.ref b), some (.ref r), some (nat i), o2, o3]) ∧ Same H H3 ∧ ∀ (j : Nat) q d, rs[j]? = some q → d < n → (j < i ∨ (j = i ∧ d < c)) → badAt w' h' q d = false) ⟨⟨_, _, rfl⟩, s2, fun j q d h1 h2 h3 => done j q d h1 h2 (by omega)⟩ ?_ ?_
      · rintro c σ H3 hc ⟨⟨o2', o3', rfl⟩, s3, done2⟩
        have at1 : atI (ps.map V.ref) (i : Int) = some (V.ref ps[i]) := atI_nat (by rw [List.getElem?_map, List.getElem?_eq_getElem hpi]; rfl)
        refine ⟨_, rfl, _, rfl, _, rfl, _, rfl, _, rfl, r, _, _, _, rfl, rfl, SqL.of (s3 _ _ hl), at1, ps[i], _, 1, _, rfl, rfl, SqT.of (s3 _ _ hp), rfl, ?_⟩
        refine ⟨a, b, n, w', h', true, c, rs[i].2, rfl, s3 _ _ ha, s3 _ _ hb, tw, th, hc, gw.1.1, gw.1.2, fun t H4 ht s4 hl4 => ?_⟩
        refine ⟨_, rfl, _, rfl, a, _, _, _, rfl, rfl, SqL.of (s4 _ _ (s3 _ _ ha)), atN tw hc, two_fits, fun t2 ht2 => ?_⟩
        have s5 := same_new (o := .tup [V.str "woman", nat (fw w' c)]) ht2
        refine ⟨t, t2, _, _, rfl, rfl, SqT.of (s5 _ _ hl4), SqT.of upd_same, rfl, rfl, ?_⟩
        have eq1 : eqVs (pairV (led w' h' (true, c) rs[i].2)) [V.str "woman", nat (fw w' c)] = decide (led w' h' (true, c) rs[i].2 = (false, fw w' c)) := eqVs_pairs _ (false, fw w' c)
        show ∃ _, _
        refine ⟨_, rfl, _, rfl, _, rfl, r, _, _, _, rfl, rfl, SqL.of ((s4.trans s5) _ _ (s3 _ _ hl)), at1, ps[i], _, 0, _, rfl, rfl, SqT.of ((s4.trans s5) _ _ (s3 _ _ hp)), rfl, rfl, rfl, _, rfl, ?_⟩
        show if (!decide (V.bl (eqVs (pairV (led w' h' (true, c) rs[i].2)) [V.str "woman", nat (fw w' c)]) = V.bl (decide (V.str (wordS rs[i].1) = V.str "may")))) = true then _ else _
        rw [eq1, word_may, dec_bl]
        have s45 : Same H (upd H4 t2 (.tup [V.str "woman", nat (fw w' c)])) := s3.trans (s4.trans s5)
        generalize (upd H4 t2 (.tup [V.str "woman", nat (fw w' c)])) = H5 at s45
        refine iteB (fun q => ?_) (fun q => ?_)
        · refine ⟨_, rfl, _, rfl, two_fits, fun t3 ht3 => ?_⟩
          exact kF i c ⟨hc, ⟨rs[i], hri, q⟩, fun j r d h1 h2 h3 => done2 j r d h1 h2 h3⟩ t3 _ (s45.free ht3) (s45.trans (same_new ht3)) upd_same
        · refine ⟨⟨_, _, rfl⟩, s45, fun j r d h1 h2 h3 => ?_⟩
          by_cases z : j = i ∧ d = c
          · obtain ⟨rfl, rfl⟩ := z
            rw [hri] at h1
            cases Option.some.inj h1
            exact q
          · exact done2 j r d h1 h2 (by omega)
      · rintro σ H3 ⟨⟨o2', o3', rfl⟩, s3, done2⟩
        exact ⟨⟨_, _, _, rfl⟩, s3, fun j q d h1 h2 h3 => done2 j q d h1 h2 (by omega)⟩
    · rintro σ H2 ⟨⟨o1, o2, o3, rfl⟩, s2, done⟩
      exact kN (fun k q c h1 h2 => done k q c h1 h2 (List.getElem?_eq_some_iff.mp h1).1) H2 s2
end


--CUT
/-! the program's own rules -/
def spCheckRule (e : Ad) : Sp := fun vs H Q E => ∃ (m : Bool) (l : List Nat), vs = [.str (wordS m), .str (txt l)] ∧ l.length ≤ 1000 ∧ Sg l ∧ (GoodW l → Q .non H) ∧ (¬ IsW l → E (.ref e.NoWalk) none H) ∧ (IsW l → endS true l = true → E (.ref e.NoRule) none H)
def spCheckRules (e : Ad) : Sp := fun vs H Q E => ∃ (r : Addr) (ps : List Addr) (rs : List Rl), vs = [.ref r] ∧ H r = some (.lst (ps.map V.ref)) ∧ RfAt H ps rs ∧ Okay rs ∧ (AllGood rs → Q .non H) ∧ (Refuse rs true → E (.ref e.NoWalk) none H) ∧ (Refuse rs false → E (.ref e.NoRule) none H)
def spBreaking (C : Addr) : Sp := fun vs H Q _ => ∃ (p : Addr) (n : Nat) (w h : List Nat) (r : Rl), vs = [.ref p, .str (wordS r.1), .str (txt r.2)] ∧ TableAt C H p n w h ∧ GoodW r.2 ∧
  ((∀ c, c < n → badAt w h r c = false) → ∀ H', Same H H' → Q .non H') ∧ (∀ c, c < n → badAt w h r c = true → (∀ d, d < c → badAt w h r d = false) → ∀ H', Same H H' → Q (nat c) H')
def spFirstBreach (C : Addr) : Sp := fun vs H Q _ => ∃ (p r : Addr) (n : Nat) (w h : List Nat) (ps : List Addr) (rs : List Rl), vs = [.ref p, .ref r] ∧ TableAt C H p n w h ∧ H r = some (.lst (ps.map V.ref)) ∧ RfAt H ps rs ∧ Okay rs ∧ AllGood rs ∧
  (NoBad w h n rs → ∀ H', Same H H' → Q .non H') ∧ (∀ k c, FirstBad w h n rs k c → ∀ t H', H t = none → Same H H' → H' t = some (.tup [nat k, nat c]) → Q (.ref t) H')
section
variable {P : Program} {w : World} {K : PySem.W.Frag} {mg : Str → Option Value} {base : Heap} {CX : CXT} {C : Addr} {e : Ad}
theorem word_in (m : Bool) : inV (V.str (wordS m)) [V.str "may", V.str "never"] = true := by cases m <;> decide +kernel
theorem sc_checkrule : FnScope ["word", "walk"] ["word", "walk"] (defScope (top 27)) := ⟨rfl, rfl, rfl, by decide +kernel, rfl, by decide +kernel, by decide +kernel⟩
theorem ok_checkrule {f : Addr} {fd : FuncData} (F : Fun K "check_rule" "check_rule" (top 27) f fd) (T : Txt K mg C e) (D_end_sex : Def P w K mg base (CXR P w) "end_sex" 3 ["sex", "walk"] (spEndSex e)) : FnOk P w K mg base (CXR P w) 4 f fd ["word", "walk"] (spCheckRule e) := by
  refine F.okX sc_checkrule (fun vs H Q E h => ?_) (fun cdv A outer s H vs Q E hr hx h => ?_)
  · obtain ⟨m, l, rfl, _⟩ := h; rfl
  · obtain ⟨m, l, rfl, hl, hs, k, kW, kR⟩ := h
    refine ⟨_, (pss_cons (ps_if (pt_cmpR op_ne (pe_callX D_end_sex hx.s hr rfl (pa_cons pe_str (pa_cons (pv 1) pa_nil))) pe_str (nomark _)) (pss_one (ps_rais hx T.m_NoRule T.x_NoRule hr rfl (pa_cons (pe_join (pj_cst (pj_rep (pv 1) pj_nil))) pa_nil))) pss_nil)
      (pss_one (ps_if (pt_cmpR op_notIn_seq (pv 0) (pe_globC rfl T.m_WORDS) (by with_unfolding_all rfl)) (pss_one (ps_rais hx T.m_NoRule T.x_NoRule hr rfl (pa_cons (pe_join (pj_cst (pj_rep (pv 0) pj_nil))) pa_nil))) pss_nil))), ?_⟩
    refine ⟨_, rfl, true, l, rfl, hl, hs, fun hw => ?_, kW⟩
    refine ⟨rfl, _, rfl, ?_⟩
    rw [sex_woman]
    cases he : endS true l
    · refine iteF ?_
      refine ⟨_, rfl, e.WORDS, _, rfl, .inr (T.q_WORDS _), rfl, rfl, _, rfl, ?_⟩
      show if (!inV (V.str (wordS m)) [V.str "may", V.str "never"]) = true then _ else _
      rw [word_in]
      exact iteF (k ⟨hw, he⟩)
    · refine iteT ⟨by decide, _, rfl, _, rfl, hl, hs, by decide, by decide, fun _ => ⟨one_fits, kR hw he⟩⟩
theorem sc_checkrules : FnScope ["rules", "word", "walk"] ["rules"] (defScope (top 28)) := ⟨rfl, rfl, rfl, by decide +kernel, rfl, by decide +kernel, by decide +kernel⟩
theorem ok_checkrules {f : Addr} {fd : FuncData} (F : Fun K "check_rules" "check_rules" (top 28) f fd) (T : Txt K mg C e) (D_check_rule : Def P w K mg base (CXR P w) "check_rule" 4 ["word", "walk"] (spCheckRule e)) : FnOk P w K mg base (CXR P w) 5 f fd ["rules"] (spCheckRules e) := by
  refine F.okX sc_checkrules (fun vs H Q E h => ?_) (fun cdv A outer s H vs Q E hr hx h => ?_)
  · obtain ⟨r, ps, rs, rfl, _⟩ := h; rfl
  · obtain ⟨r, ps, rs, rfl, hl, rf, ok, k, kW, kR⟩ := h
    have nd := sc_checkrules.nd
    refine ⟨_, (pss_one (ps_for PassesOwn.leaving rfl (pi_list (pv 0)) (pg_tup rfl (pgs_cons (pg_name (i := 1) nd rfl (Or.inl rfl)) (pgs_cons (pg_name (i := 2) nd rfl (Or.inl rfl)) pgs_nil))) (pss_one (ps_expr (pe_callX D_check_rule hx.s hr rfl (pa_cons (pv 1) (pa_cons (pv 2) pa_nil))))))), ?_⟩
    refine ⟨_, rfl, r, rfl, ⟨_, SqL.of hl⟩, for_list (xs := ps.map V.ref) (fun i σ H2 => (∃ o1 o2, σ = [some (.ref r), o1, o2]) ∧ H2 = H ∧ ∀ (j : Nat) r', j < i → rs[j]? = some r' → GoodW r'.2) ⟨⟨none, none, rfl⟩, rfl, fun j r' h => absurd h (Nat.not_lt_zero _)⟩ (fun i σ H2 _ ⟨_, e2, _⟩ => by rw [e2]; exact SqL.of hl) ?_ ?_⟩
    · rintro i x σ H2 hi ⟨⟨o1, o2, rfl⟩, rfl, done⟩
      rw [List.getElem?_map] at hi
      obtain ⟨p, hp, rfl⟩ := Option.map_eq_some_iff.mp hi
      have hlt : i < rs.length := by rw [← rf.len]; exact (List.getElem?_eq_some_iff.mp hp).1
      obtain ⟨q, hq⟩ : ∃ q, rs[i]? = some q := ⟨_, List.getElem?_eq_getElem hlt⟩
      have hm := ok.2 q (List.mem_of_getElem? hq)
      refine ⟨p, rlT q, rfl, SqT.of (rf.at_ i p q hp hq), rfl, _, _, rfl, _, _, rfl, rfl, ?_⟩
      walk_at "ns"
      refine ⟨_, rfl, _, rfl, q.1, q.2, rfl, hm.1, hm.2, fun g => ⟨⟨_, _, rfl⟩, rfl, fun j r' hj hr' => ?_⟩, fun z => kW ⟨i, q, hq, done, .inl ⟨rfl, z⟩⟩, fun z z' => kR ⟨i, q, hq, done, .inr ⟨rfl, z, z'⟩⟩⟩
      by_cases c : j = i
      · subst c; rw [hq] at hr'; cases Option.some.inj hr'; exact g
      · exact done j r' (by omega) hr'
    · rintro σ H2 ⟨_, rfl, done⟩
      rw [List.length_map, rf.len] at done
      exact k fun r' hr' => by
        obtain ⟨j, hj⟩ := List.getElem?_of_mem hr'
        exact done j r' (List.getElem?_eq_some_iff.mp hj).1 hj
theorem sc_breaking : FnScope ["table", "word", "walk", "c", "to_wife"] ["table", "word", "walk"] (defScope (top 29)) := ⟨rfl, rfl, rfl, by decide +kernel, rfl, by decide +kernel, by decide +kernel⟩
theorem ok_breaking {f : Addr} {fd : FuncData} (F : Fun K "breaking_class" "breaking_class" (top 29) f fd) (T : Txt K mg C e) (D_size : MDef P w K mg base (CXR P w) C "size" 1 ["self"] (spSize C)) (D_walked : Def P w K mg base (CXR P w) "walked" 5 ["table", "sex", "c", "walk"] (spWalked C e)) (D_wife_of : MDef P w K mg base (CXR P w) C "wife_of" 2 ["self", "c"] (spWife C e)) : FnOk P w K mg base (CXR P w) 6 f fd ["table", "word", "walk"] (spBreaking C) := by
  refine F.okX sc_breaking (fun vs H Q E h => ?_) (fun cdv A outer s H vs Q E hr hx h => ?_)
  · obtain ⟨p, n, w, h, r, rfl, _⟩ := h; rfl
  · obtain ⟨p, n, w', h', r, rfl, TA, gw, kN, kB⟩ := h
    have nd := sc_breaking.nd
    obtain ⟨dx, a, b, c1, d, e1, e2, e3, e4, e5⟩ := TA.ob
    have n8 := TA.n8
    have D_wife_of := D_wife_of.imp (askN (e := e))
    have D_walked := D_walked.imp (walkedN (e := e))
    refine ⟨_, (pss_cons (ps_for PassesOwn.leaving rfl (pi_range1 rfl T.z_range (pa_cons (pe_methX0 (pv 0) T.cl_Table D_size hx.s hr) pa_nil)) (pg_name (i := 3) nd rfl (Or.inl rfl)) (pss_cons (ps_set (i := 4) nd rfl (Or.inl rfl) (pe_cmpR op_eq (pe_ix ix_tup (pe_callX D_walked hx.s hr rfl (pa_cons (pv 0) (pa_cons pe_str (pa_cons (pv 3) (pa_cons (pv 2) pa_nil))))) pe_int (fun _ _ => rfl)) (pe_methX (pv 0) T.cl_Table D_wife_of hx.s hr (pa_cons (pv 3) pa_nil)) (nomark _)))
      (pss_one (ps_if (pt_cmpR op_ne (pv 4) (pe_cmpR op_eq (pv 1) pe_str (nomark _)) (nomark _)) (pss_one (ps_ret (pv 3))) pss_nil))))
      (pss_one (ps_ret pe_non))), ?_⟩
    refine ⟨_, rfl, p, dx, _, rfl, e1, no_size .., p, n, w', h', rfl, TA, _, rfl, by omega, by omega, ?_⟩
    rw [Int.toNat_natCast]
    refine for_range0 (fun c σ H2 => (∃ o1 o2, σ = [some (.ref p), some (.str (wordS r.1)), some (.str (txt r.2)), o1, o2]) ∧ Same H H2 ∧ ∀ d, d < c → badAt w' h' r d = false) ⟨⟨none, none, rfl⟩, Same.refl _, fun d h => absurd h (Nat.not_lt_zero _)⟩ ?_ ?_
    · rintro c σ H2 hc ⟨⟨o1, o2, rfl⟩, s2, done⟩
      walk_at "ns"
      refine ⟨_, rfl, _, rfl, _, rfl, p, n, w', h', true, c, r.2, rfl, TA.same s2, hc, gw.1, fun t ht => ?_⟩
      have s3 : Same H2 (upd H2 t (.tup (pairV (led w' h' (true, c) r.2)))) := same_new ht
      have g3 : (upd H2 t (.tup (pairV (led w' h' (true, c) r.2)))) t = some (.tup (pairV (led w' h' (true, c) r.2))) := upd_same
      generalize upd H2 t (.tup (pairV (led w' h' (true, c) r.2))) = H3 at s3 g3
      refine ⟨t, _, 1, _, rfl, rfl, SqT.of g3, rfl, ?_⟩
      refine ⟨_, rfl, p, dx, _, rfl, (s2.trans s3) _ _ e1, no_wife .., _, rfl, p, n, w', h', c, rfl, TA.same (s2.trans s3), hc, rfl, ?_⟩
      walk_at "ns"
      refine ⟨_, rfl, _, rfl, rfl, rfl, _, rfl, ?_⟩
      have eq0 : decide (nat (led w' h' (true, c) r.2).2 = nat (fw w' c)) = decide (led w' h' (true, c) r.2 = (false, fw w' c)) := by
        have f1 : (led w' h' (true, c) r.2).1 = false := by rw [led_fst]; exact gw.2
        generalize led w' h' (true, c) r.2 = z at f1
        obtain ⟨z1, z2⟩ := z
        cases f1
        by_cases q : z2 = fw w' c
        · rw [decide_eq_true (show nat z2 = nat (fw w' c) by rw [q]), decide_eq_true (show (false, z2) = (false, fw w' c) by rw [q])]
        · rw [decide_eq_false (fun y => q (by have := V.int.inj y; omega)), decide_eq_false (fun y => q (Prod.mk.inj y).2)]
      show if (!decide (V.bl (decide (nat (led w' h' (true, c) r.2).2 = nat (fw w' c))) = V.bl (decide (V.str (wordS r.1) = V.str "may")))) = true then _ else _
      rw [eq0, word_may, dec_bl]
      refine iteB (fun q => ?_) (fun q => ?_)
      · exact ⟨_, rfl, kB c hc q done H3 (s2.trans s3)⟩
      · refine ⟨⟨_, _, rfl⟩, s2.trans s3, fun d hd => ?_⟩
        by_cases z : d = c
        · subst z; exact q
        · exact done d (by omega)
    · rintro σ H2 ⟨⟨o1, o2, rfl⟩, s2, done⟩
      exact kN done H2 s2
theorem sc_firstbreach : FnScope ["table", "rules", "place", "rule", "c"] ["table", "rules"] (defScope (top 30)) := ⟨rfl, rfl, rfl, by decide +kernel, rfl, by decide +kernel, by decide +kernel⟩
theorem ok_firstbreach {f : Addr} {fd : FuncData} (F : Fun K "first_breach" "first_breach" (top 30) f fd) (T : Txt K mg C e) (D_breaking_class : Def P w K mg base (CXR P w) "breaking_class" 6 ["table", "word", "walk"] (spBreaking C)) : FnOk P w K mg base (CXR P w) 7 f fd ["table", "rules"] (spFirstBreach C) := by
  refine F.okX sc_firstbreach (fun vs H Q E h => ?_) (fun cdv A outer s H vs Q E hr hx h => ?_)
  · obtain ⟨p, r, n, w, h, ps, rs, rfl, _⟩ := h; rfl
  · obtain ⟨p, r, n, w', h', ps, rs, rfl, TA, hl, rf, ok, good, kN, kB⟩ := h
    have nd := sc_firstbreach.nd
    refine ⟨_, (pss_cons (ps_for PassesOwn.leaving rfl (pi_enum rfl T.z_enumerate (pa_cons (pv 1) pa_nil)) (pg_tup rfl (pgs_cons (pg_name (i := 2) nd rfl (Or.inl rfl)) (pgs_cons (pg_name (i := 3) nd rfl (Or.inl rfl)) pgs_nil))) (pss_cons (ps_set (i := 4) nd rfl (Or.inl rfl) (pe_callX D_breaking_class hx.s hr rfl (pa_cons (pv 0) (pa_cons (pe_ix ix_tup (pv 3) pe_int (fun _ _ => rfl)) (pa_cons (pe_ix ix_tup (pv 3) pe_int (fun _ _ => rfl)) pa_nil)))))
      (pss_one (ps_if (pt_cmpR op_notN (pv 4) pe_non (nomark _)) (pss_one (ps_ret (pe_tup (pa_cons (pv 2) (pa_cons (pv 4) pa_nil))))) pss_nil))))
      (pss_one (ps_ret pe_non))), ?_⟩
    refine ⟨_, rfl, r, rfl, ⟨_, SqL.of hl⟩, for_enum (xs := ps.map V.ref) (fun i σ H2 => (∃ o1 o2 o3, σ = [some (.ref p), some (.ref r), o1, o2, o3]) ∧ Same H H2 ∧ ∀ (j : Nat) q d, rs[j]? = some q → d < n → j < i → badAt w' h' q d = false) ⟨⟨none, none, none, rfl⟩, Same.refl _, fun j q d _ _ h => absurd h (Nat.not_lt_zero _)⟩ (fun i σ H2 _ ⟨_, s2, _⟩ => SqL.of (s2 _ _ hl)) ?_ ?_⟩
    · rintro i x σ H2 hi ⟨⟨o1, o2, o3, rfl⟩, s2, done⟩ T hT
      rw [List.getElem?_map] at hi
      obtain ⟨t, hp, rfl⟩ := Option.map_eq_some_iff.mp hi
      have hlt : i < rs.length := by rw [← rf.len]; exact (List.getElem?_eq_some_iff.mp hp).1
      obtain ⟨q, hq⟩ : ∃ q, rs[i]? = some q := ⟨_, List.getElem?_eq_getElem hlt⟩
      have s3 := same_new (o := .tup [nat i, .ref t]) hT
      have gT : (upd H2 T (.tup [nat i, .ref t])) T = some (.tup [nat i, .ref t]) := upd_same
      generalize upd H2 T (.tup [nat i, .ref t]) = H3 at s3 gT
      have s23 := s2.trans s3
      refine ⟨T, _, rfl, SqT.of gT, rfl, _, _, rfl, _, _, rfl, rfl, ?_⟩
      walk_at "ns"
      have ht := s23 _ _ (rf.at_ i t q hp hq)
      refine ⟨_, rfl, _, rfl, t, _, 0, _, rfl, rfl, SqT.of ht, rfl, _, rfl, t, _, 1, _, rfl, rfl, SqT.of ht, rfl, p, n, w', h', q, rfl, TA.same s23, good q (List.mem_of_getElem? hq), fun nb H4 s4 => ?_, fun c hc bd ah H4 s4 => ?_⟩
      · walk_at "ns"
        refine ⟨_, rfl, rfl, _, rfl, iteF ?_⟩
        refine ⟨⟨_, _, _, rfl⟩, s23.trans s4, fun j q' d h1 h2 h3 => ?_⟩
        by_cases z : j = i
        · subst z; rw [hq] at h1; cases Option.some.inj h1; exact nb d h2
        · exact done j q' d h1 h2 (by omega)
      · walk_at "ns"
        refine ⟨_, rfl, rfl, _, rfl, iteT ?_⟩
        refine ⟨_, rfl, _, rfl, two_fits, fun t5 ht5 => ?_⟩
        have s24 := s23.trans s4
        refine kB i c ⟨hc, ⟨q, hq, bd⟩, fun j q' d h1 h2 h3 => ?_⟩ t5 _ (s24.free ht5) (s24.trans (same_new ht5)) upd_same
        rcases h3 with h3 | ⟨rfl, h3⟩
        · exact done j q' d h1 h2 h3
        · rw [hq] at h1; cases Option.some.inj h1; exact ah d h3
    · rintro σ H2 ⟨⟨o1, o2, o3, rfl⟩, s2, done⟩
      rw [List.length_map, rf.len] at done
      exact kN (fun k q c h1 h2 => done k q c h1 h2 (List.getElem?_eq_some_iff.mp h1).1) H2 s2
end


--CUT
/-! dicts keyed by numbers, each with True -/
def kvOf (ks : List Nat) : List (Key × V) := ks.map fun (k : Nat) => ((Sum.inl (k : Int) : Key), V.bl true)
theorem valV_kv (d : Nat) : ∀ ks : List Nat, (valV (kvOf ks) (Sum.inl (d : Int))).isSome = decide (d ∈ ks)
  | [] => rfl
  | k :: r => by
    have ih := valV_kv d r
    unfold valV kvOf at ih ⊢
    rw [List.map_cons, List.find?_cons]
    by_cases q : k = d
    · subst q; simp
    · have h : ¬ (Sum.inl (k : Int) : Key) = Sum.inl (d : Int) := fun z => q (by have := Sum.inl.inj z; omega)
      simp only [decide_eq_false h]
      rw [ih]
      simp [Ne.symm q]
theorem kvOf_keys (ks : List Nat) : (kvOf ks).map (·.1) = (intL ks).map Sum.inl := by unfold kvOf intL; rw [List.map_map, List.map_map]; rfl
theorem kvOf_snoc (ks : List Nat) (d : Nat) : kvOf ks ++ [(Sum.inl (d : Int), V.bl true)] = kvOf (ks ++ [d]) := by unfold kvOf; rw [List.map_append]; rfl
theorem putK_kv (y : Nat) (ks : List Nat) : putK (kvOf ks) (Sum.inl (y : Int) : Key) (V.bl true) = kvOf (if y ∈ ks then ks else ks ++ [y]) := by
  by_cases q : y ∈ ks
  · rw [if_pos q]
    unfold putK
    have h1 : ((kvOf ks).any fun kv => decide (kv.1 = (Sum.inl (y : Int) : Key))) = true := by
      unfold kvOf
      rw [List.any_map]
      exact List.any_eq_true.mpr ⟨y, q, decide_eq_true rfl⟩
    rw [if_pos h1]
    conv => rhs; rw [← List.map_id (kvOf ks)]
    refine List.map_congr_left fun kv hkv => ?_
    unfold kvOf at hkv
    obtain ⟨k, _, rfl⟩ := List.mem_map.mp hkv
    by_cases c : (Sum.inl (k : Int) : Key) = Sum.inl (y : Int)
    · rw [if_pos c]; rfl
    · rw [if_neg c]; rfl
  · rw [if_neg q, putK_new, kvOf_snoc]
    have := valV_kv y ks
    rw [decide_eq_false q] at this
    exact Option.isNone_iff_eq_none.mp (by simpa using this)
--CUT
/-! what hangs together: part_with, parts -/
/-- what is reached from c by marriages and children -/
inductive Reach (w h : List Nat) (c : Nat) : Nat → Prop
  | here : Reach w h c c
  | wife {d} : Reach w h c d → Reach w h c (fw w d)
  | heir {d} : Reach w h c d → Reach w h c (fw h d)
theorem Reach.lt {w h : List Nat} {n c : Nat} (tw : IsTurn n w) (th : IsTurn n h) (hc : c < n) {d : Nat} (r : Reach w h c d) : d < n := by
  induction r with
  | here => exact hc
  | wife _ ih => exact fw_lt tw ih
  | heir _ ih => exact fw_lt th ih
/-- a list of classes that is what is reached, each once, rising -/
structure PartOf (w h : List Nat) (c : Nat) (xs : List Nat) : Prop where
  mem : ∀ d, d ∈ xs ↔ Reach w h c d
  srt : (intL xs).Pairwise (· ≤ ·)
  nd : xs.Nodup
theorem PartOf.uniq {w h : List Nat} {c : Nat} {xs ys : List Nat} (a : PartOf w h c xs) (b : PartOf w h c ys) : xs = ys := by
  have p : xs.Perm ys := (List.perm_ext_iff_of_nodup a.nd b.nd).mpr fun d => (a.mem d).trans (b.mem d).symm
  exact intL_inj (sorted_unique (p.map _) a.srt b.srt)
/-- a set that is closed, starts at c and holds nothing else, is what is reached -/
theorem reach_of {w h : List Nat} {c : Nat} {xs : List Nat} (hc : c ∈ xs) (cw : ∀ d ∈ xs, fw w d ∈ xs) (ch : ∀ d ∈ xs, fw h d ∈ xs) (only : ∀ d ∈ xs, Reach w h c d) : ∀ d, d ∈ xs ↔ Reach w h c d :=
  fun d => ⟨only d, fun r => by
    induction r with
    | here => exact hc
    | wife _ ih => exact cw _ ih
    | heir _ ih => exact ch _ ih⟩
def spPartWith (C : Addr) (e : Ad) : Sp := fun vs H Q E => ∃ (p : Addr) (n : Nat) (w h : List Nat) (c : Nat), vs = [.ref p, nat c] ∧ TableAt C H p n w h ∧ c < n ∧ ∀ D xs H', PartOf w h c xs → H D = none → Same H H' → H' D = some (.lst (natL xs)) → Q (.ref D) H'
theorem len_sub : ∀ (ks l : List Nat), ks.Nodup → (∀ d ∈ ks, d ∈ l) → ks.length ≤ l.length
  | [], _, _, _ => Nat.zero_le _
  | k :: r, l, nd, h => by
    have nd' := List.nodup_cons.mp nd
    have hk := h k List.mem_cons_self
    have ih := len_sub r (l.erase k) nd'.2 fun d hd => (List.mem_erase_of_ne (fun z : d = k => nd'.1 (by rw [← z]; exact hd))).mpr (h d (List.mem_cons_of_mem _ hd))
    have e := List.length_erase_of_mem hk
    have p := List.length_pos_of_mem hk
    show r.length + 1 ≤ l.length
    omega
theorem nodup_le {n : Nat} {ks : List Nat} (nd : ks.Nodup) (h : ∀ d ∈ ks, d < n) : ks.length ≤ n := by
  have := len_sub ks (List.range n) nd fun d hd => List.mem_range.mpr (h d hd)
  rw [List.length_range] at this
  exact this
theorem perm_nat {xs : List Int} {ks : List Nat} (h : xs.Perm (intL ks)) : ∃ w, xs = intL w ∧ w.Perm ks := by
  have nn : ∀ i ∈ xs, 0 ≤ i := fun i hi => by
    obtain ⟨c, _, rfl⟩ := List.mem_map.mp (h.mem_iff.mp hi)
    exact Int.natCast_nonneg c
  refine ⟨xs.map Int.toNat, ?_, ?_⟩
  · unfold intL
    rw [List.map_map]
    conv => lhs; rw [← List.map_id xs]
    exact List.map_congr_left fun i hi => (Int.toNat_of_nonneg (nn i hi)).symm
  · have q := h.map Int.toNat
    unfold intL at q
    rw [List.map_map] at q
    have e : ks.map (Int.toNat ∘ fun c : Nat => (c : Int)) = ks := by
      conv => rhs; rw [← List.map_id ks]
      exact List.map_congr_left fun i _ => Int.toNat_natCast i
    rw [e] at q
    exact q
/-- where the walk through the classes stands -/
structure PwAt (w h : List Nat) (n c : Nat) (ks ws : List Nat) (ex : Nat → Prop) : Prop where
  c_in : c ∈ ks
  nd : ks.Nodup
  only : ∀ d ∈ ks, Reach w h c d
  sub : ∀ d ∈ ws, d ∈ ks
  closed : ∀ d ∈ ks, d ∉ ws → ¬ ex d → fw w d ∈ ks ∧ fw h d ∈ ks
  wnd : ws.Nodup
section
variable {P : Program} {w : World} {K : PySem.W.Frag} {mg : Str → Option Value} {base : Heap} {CX : CXT} {C : Addr} {e : Ad}
theorem sc_partwith : FnScope ["table", "c", "reached", "waiting", "here", "there"] ["table", "c"] (defScope (top 23)) := ⟨rfl, rfl, rfl, by decide +kernel, rfl, by decide +kernel, by decide +kernel⟩
theorem ok_partwith {f : Addr} {fd : FuncData} (F : Fun K "part_with" "part_with" (top 23) f fd) (T : Txt K mg C e) (D_wife_of : MDef P w K mg base (CXR P w) C "wife_of" 2 ["self", "c"] (spWife C e)) (D_heir_of : MDef P w K mg base (CXR P w) C "heir_of" 2 ["self", "c"] (spHeir C e)) : FnOk P w K mg base (CXR P w) 3 f fd ["table", "c"] (spPartWith C e) := by
  refine F.okX sc_partwith (fun vs H Q E h => ?_) (fun cdv A outer s H vs Q E hr hx h => ?_)
  · obtain ⟨p, n, w, h, c, rfl, _⟩ := h; rfl
  · obtain ⟨p, n, w', h', c, rfl, TA, hc, k⟩ := h
    have nd := sc_partwith.nd
    have D_wife_of := D_wife_of.imp (askN (e := e))
    have D_heir_of := D_heir_of.imp (askN (e := e))
    have tw := TA.tw
    have th := TA.th
    have n8 := TA.n8
    have big : 100 ≤ sizeLine := by decide
    obtain ⟨dx, a1, b1, c1, d1, e1, -, -, -, -⟩ := TA.ob
    have f1 : (flds a1 b1 c1 d1).lookup ("wife_of" : Str) = none := flds_no _ _ _ _ (by decide +kernel) (by decide +kernel) (by decide +kernel) (by decide +kernel)
    have f3 : (flds a1 b1 c1 d1).lookup ("heir_of" : Str) = none := flds_no _ _ _ _ (by decide +kernel) (by decide +kernel) (by decide +kernel) (by decide +kernel)
    refine ⟨_, (pss_cons (ps_set (i := 2) nd rfl (Or.inl rfl) (pe_disp (pps_cons (pv 1) pe_bl pps_nil) rfl rfl (by simp) (by decide)))
      (pss_cons (ps_set (i := 3) nd rfl (Or.inl rfl) (pe_lst (pa_cons (pv 1) pa_nil)))
      (pss_cons (ps_while PassesOwn.leaving (pt_cmpR op_gt (pe_callB call_len_seq rfl T.z_len PySem.boot_len (pa_cons (pv 3) pa_nil)) pe_int (nomark _)) (pss_cons (ps_set (i := 4) nd rfl (Or.inl rfl) (pe_bm0 PySem.F.plainAttrs_list PySem.F.slot_list_pop PySem.F.type_list_pop mt_pop (pv 3)))
      (pss_one (ps_for PassesOwn.leaving rfl (pi_tup (pe_tup (pa_cons (pe_methX (pv 0) T.cl_Table D_wife_of hx.s hr (pa_cons (pv 4) pa_nil)) (pa_cons (pe_methX (pv 0) T.cl_Table D_heir_of hx.s hr (pa_cons (pv 4) pa_nil)) pa_nil)))) (pg_name (i := 5) nd rfl (Or.inl rfl)) (pss_one (ps_if (pt_cmp (pc_dnotin (hu_of hr) (pv 5) (pv 2))) (pss_cons (ps_dput (hu_of hr) (pv 2) (pv 5) pe_bl rfl)
      (pss_one (ps_expr (pe_bm PySem.F.plainAttrs_list PySem.F.slot_list_append PySem.F.type_list_append mt_append (pv 3) (pa_cons (pv 5) pa_nil))))) pss_nil))))))
      (pss_one (ps_ret (pe_callB (call_sortedD rfl) rfl T.z_sorted bt_sorted (pa_cons (pv 2) pa_nil))))))), ?_⟩
    -- reached = {c: True}
    intro Dd hDd
    refine ⟨_, rfl, upd_same, [(Sum.inl (c : Int), V.bl true)], rfl, (show 1 ≤ 15 by decide), ?_⟩
    have g1 : (upd (upd H Dd (.dK [])) Dd (.dK (mergeK [] [(Sum.inl (c : Int), V.bl true)]))) Dd = some (.dK (kvOf [c])) := upd_same
    have s1 : Same H (upd (upd H Dd (.dK [])) Dd (.dK (mergeK [] [(Sum.inl (c : Int), V.bl true)]))) := same_upd (same_new hDd) hDd
    generalize upd (upd H Dd (.dK [])) Dd (.dK (mergeK [] [(Sum.inl (c : Int), V.bl true)])) = H1 at g1 s1
    walk_at "ns"
    -- waiting = [c]
    refine ⟨_, rfl, one_fits, fun Dw hDw => ?_⟩
    have ndw : Dd ≠ Dw := ne_of_none g1 hDw
    have hDwH : H Dw = none := s1.free hDw
    walk_at "ns"
    have dk_lt : ∀ ks : List Nat, ks.Nodup → (∀ d ∈ ks, Reach w' h' c d) → ks.length ≤ n := fun ks a b => nodup_le a fun d hd => (b d hd).lt tw th hc
    refine ⟨fun m σ H2 => ∃ ks ws o1 o2, m = 2 * (n - ks.length) + ws.length ∧ σ = [some (.ref p), some (nat c), some (.ref Dd), some (.ref Dw), o1, o2] ∧ Same H H2 ∧ H2 Dd = some (.dK (kvOf ks)) ∧ H2 Dw = some (.lst (natL ws)) ∧ PwAt w' h' n c ks ws fun _ => False,
      ⟨_, [c], [c], none, none, rfl, rfl, same_upd s1 hDwH, by rw [upd_ne ndw]; exact g1, upd_same, ⟨List.mem_singleton.mpr rfl, by simp, fun d hd => by rw [List.mem_singleton.mp hd]; exact .here, fun d hd => hd, fun d hd hn => absurd hd hn, by simp⟩⟩, ?_⟩
    rintro m σ H2 ⟨ks, ws, o1, o2, rfl, rfl, s2, gd, gw, pw⟩
    refine ⟨_, rfl, Dw, _, rfl, .inl (SqL.of gw), _, _, rfl, rfl, _, rfl, ?_⟩
    rw [natL_len]
    refine iteD2 (fun hpos => ?_) (fun hz => ?_)
    · obtain ⟨ws0, here, rfl⟩ : ∃ ws0 x, ws = ws0 ++ [x] := by
        rcases List.eq_nil_or_concat ws with z | ⟨l, x, z⟩
        · subst z; exact absurd hpos (by decide)
        · exact ⟨l, x, by rw [z, List.concat_eq_append]⟩
      have hin : here ∈ ks := pw.sub here (List.mem_append_right _ (List.mem_singleton.mpr rfl))
      have hlt : here < n := (pw.only here hin).lt tw th hc
      have yw : Reach w' h' c (fw w' here) := .wife (pw.only here hin)
      have yh : Reach w' h' c (fw h' here) := .heir (pw.only here hin)
      refine ⟨fun σ' H' => ∃ m', m' < 2 * (n - ks.length) + (ws0 ++ [here]).length ∧ ∃ ks ws o1 o2, m' = 2 * (n - ks.length) + ws.length ∧ σ' = [some (.ref p), some (nat c), some (.ref Dd), some (.ref Dw), o1, o2] ∧ Same H H' ∧ H' Dd = some (.dK (kvOf ks)) ∧ H' Dw = some (.lst (natL ws)) ∧ PwAt w' h' n c ks ws fun _ => False, fun σ' H' h => h, ?_⟩
      refine ⟨_, rfl, .inl ⟨rfl, _, SqL.of gw⟩, Dw, _, nat here, rfl, rfl, gw, ?_, ?_⟩
      · rw [← natL_snoc, List.length_append]
        show (natL ws0 ++ [nat here])[(natL ws0).length + 1 - 1]? = _
        rw [Nat.add_sub_cancel, List.getElem?_append_right (Nat.le_refl _), Nat.sub_self]
        rfl
      rw [show (natL (ws0 ++ [here])).dropLast = natL ws0 by rw [← natL_snoc]; simp]
      have s3 : Same H (upd H2 Dw (.lst (natL ws0))) := same_upd s2 hDwH
      have gd3 : (upd H2 Dw (.lst (natL ws0))) Dd = some (.dK (kvOf ks)) := by rw [upd_ne ndw]; exact gd
      have gw3 : (upd H2 Dw (.lst (natL ws0))) Dw = some (.lst (natL ws0)) := upd_same
      generalize upd H2 Dw (.lst (natL ws0)) = H3 at s3 gd3 gw3
      walk_at "ns"
      refine ⟨_, rfl, p, dx, _, rfl, s3 _ _ e1, f1, _, rfl, p, n, w', h', here, rfl, TA.same s3, hlt, ?_⟩
      refine ⟨_, rfl, p, dx, _, rfl, s3 _ _ e1, f3, _, rfl, p, n, w', h', here, rfl, TA.same s3, hlt, ?_⟩
      refine ⟨two_fits, fun t ht => ⟨t, rfl, ⟨_, SqT.of upd_same⟩, ?_⟩⟩
      have ntd : Dd ≠ t := ne_of_none gd3 ht
      have ntw : Dw ≠ t := ne_of_none gw3 ht
      refine for_tup (xs := [nat (fw w' here), nat (fw h' here)]) (fun i σ H4 => ∃ ks' ws' o, σ = [some (.ref p), some (nat c), some (.ref Dd), some (.ref Dw), some (nat here), o] ∧ Same H H4 ∧ H4 t = some (.tup [nat (fw w' here), nat (fw h' here)]) ∧ H4 Dd = some (.dK (kvOf ks')) ∧ H4 Dw = some (.lst (natL ws')) ∧ PwAt w' h' n c ks' ws' (fun d => d = here) ∧
          2 * (n - ks'.length) + ws'.length < 2 * (n - ks.length) + (ws0 ++ [here]).length ∧ (1 ≤ i → fw w' here ∈ ks') ∧ (2 ≤ i → fw h' here ∈ ks')) ?_ (fun i σ H4 _ ⟨_, _, _, _, _, g, _⟩ => SqT.of g) ?_ ?_
      · refine ⟨ks, ws0, _, rfl, s3.trans (same_new ht), upd_same, by rw [upd_ne ntd]; exact gd3, by rw [upd_ne ntw]; exact gw3, ⟨pw.c_in, pw.nd, pw.only, fun d hd => pw.sub d (List.mem_append_left _ hd), fun d hd hn he => pw.closed d hd (fun z => ?_) id, (List.nodup_append.mp pw.wnd).1⟩, by rw [List.length_append]; show _ < _ + (ws0.length + 1); omega, fun z => absurd z (by decide), fun z => absurd z (by decide)⟩
        rcases List.mem_append.mp z with q | q
        · exact hn q
        · exact he (List.mem_singleton.mp q)
      · rintro i x σ H4 hi ⟨ks', ws', o, rfl, s4, g4, gd4, gw4, pw', ms, i1, i2⟩
        obtain ⟨y, rfl, ry, y0, y1⟩ : ∃ y, x = nat y ∧ Reach w' h' c y ∧ (i = 0 → y = fw w' here) ∧ (i = 1 → y = fw h' here) := by
          rcases i with _ | _ | i
          · exact ⟨_, (Option.some.inj hi).symm, yw, fun _ => rfl, fun z => absurd z (by decide)⟩
          · exact ⟨_, (Option.some.inj hi).symm, yh, fun z => absurd z (by decide), fun _ => rfl⟩
          · cases hi
        have i2' : i < 2 := (List.getElem?_eq_some_iff.mp hi).1
        have kl := dk_lt ks' pw'.nd pw'.only
        refine ⟨_, rfl, _, rfl, Dd, _, rfl, DGet.k (k := Sum.inl (y : Int)) gd4, _, rfl, ?_⟩
        rw [valV_kv]
        by_cases q : y ∈ ks'
        · rw [decide_eq_true q]
          refine iteF ⟨ks', ws', _, rfl, s4, g4, gd4, gw4, pw', ms, fun z => ?_, fun z => ?_⟩
          · by_cases c0 : i = 0
            · rw [← y0 c0]; exact q
            · exact i1 (by omega)
          · have c1 : i = 1 := by omega
            rw [← y1 c1]; exact q
        · rw [decide_eq_false q]
          refine iteT ?_
          have vn : valV (kvOf ks') (Sum.inl (y : Int)) = none := by
            have := valV_kv y ks'
            rw [decide_eq_false q] at this
            exact Option.isNone_iff_eq_none.mp (by simpa using this)
          have wl : ws'.length ≤ ks'.length := len_sub ws' ks' pw'.wnd pw'.sub
          refine ⟨_, rfl, _, rfl, Dd, _, rfl, DPut.k (k := Sum.inl (y : Int)) gd4 (by unfold kvOf; rw [List.length_map]; omega), ?_⟩
          rw [putK_new _ vn, kvOf_snoc]
          have hDdH : H Dd = none := hDd
          refine ⟨_, rfl, .inl ⟨rfl, _, SqL.of (by rw [upd_ne (Ne.symm ndw)]; exact gw4)⟩, _, rfl, Dw, _, _, rfl, rfl, by rw [upd_ne (Ne.symm ndw)]; exact gw4, by rw [natL_len]; omega, ?_⟩
          rw [natL_snoc]
          refine ⟨ks' ++ [y], ws' ++ [y], _, rfl, same_upd (same_upd s4 hDdH) hDwH, ?_, ?_, upd_same, ⟨List.mem_append_left _ pw'.c_in, nd_snoc pw'.nd q, ?_, ?_, ?_, nd_snoc pw'.wnd fun z => q (pw'.sub y z)⟩, ?_, ?_, ?_⟩
          · rw [upd_ne (Ne.symm ntw), upd_ne (Ne.symm ntd)]; exact g4
          · rw [upd_ne ndw, upd_same]
          · intro d hd
            rcases List.mem_append.mp hd with z | z
            · exact pw'.only d z
            · rw [List.mem_singleton.mp z]; exact ry
          · intro d hd
            rcases List.mem_append.mp hd with z | z
            · exact List.mem_append_left _ (pw'.sub d z)
            · exact List.mem_append_right _ z
          · intro d hd hn he
            rcases List.mem_append.mp hd with z | z
            · have cl := pw'.closed d z (fun u => hn (List.mem_append_left _ u)) he
              exact ⟨List.mem_append_left _ cl.1, List.mem_append_left _ cl.2⟩
            · exact absurd (List.mem_append_right _ z) hn
          · have kl2 : ks'.length < n := by
              have := nodup_le (n := n) (nd_snoc pw'.nd q) fun d hd => by
                rcases List.mem_append.mp hd with z | z
                · exact (pw'.only d z).lt tw th hc
                · rw [List.mem_singleton.mp z]; exact ry.lt tw th hc
              rw [List.length_append] at this
              have e1 : [y].length = 1 := rfl
              omega
            have a1 : (ks' ++ [y]).length = ks'.length + 1 := by rw [List.length_append]; rfl
            have a2 : (ws' ++ [y]).length = ws'.length + 1 := by rw [List.length_append]; rfl
            rw [a1, a2]
            omega
          · intro z
            by_cases c0 : i = 0
            · rw [← y0 c0]; exact List.mem_append_right _ (List.mem_singleton.mpr rfl)
            · exact List.mem_append_left _ (i1 (by omega))
          · intro z
            have c1 : i = 1 := by omega
            rw [← y1 c1]; exact List.mem_append_right _ (List.mem_singleton.mpr rfl)
      · rintro σ H4 ⟨ks', ws', o, rfl, s4, g4, gd4, gw4, pw', ms, i1, i2⟩
        refine ⟨_, ms, ks', ws', _, _, rfl, rfl, s4, gd4, gw4, ⟨pw'.c_in, pw'.nd, pw'.only, pw'.sub, fun d hd hn _ => ?_, pw'.wnd⟩⟩
        by_cases z : d = here
        · rw [z]; exact ⟨i1 (show 1 ≤ 2 by decide), i2 (show 2 ≤ 2 by decide)⟩
        · exact pw'.closed d hd hn z
    · have hz' : ws = [] := List.length_eq_zero_iff.mp (by omega)
      subst hz'
      have kl := dk_lt ks pw.nd pw.only
      refine ⟨_, rfl, Dd, kvOf ks, intL ks, rfl, gd, kvOf_keys ks, by rw [intL_len]; omega, fun l ns' hl pm so => ?_⟩
      obtain ⟨xs, rfl, px⟩ := perm_nat pm
      have rc := reach_of (w := w') (h := h') pw.c_in (fun d hd => (pw.closed d hd (by simp) id).1) (fun d hd => (pw.closed d hd (by simp) id).2) pw.only
      exact k l xs _ ⟨fun d => by rw [px.mem_iff]; exact rc d, so, px.nodup_iff.mpr pw.nd⟩ (s2.free hl) (s2.trans (same_new hl)) (by rw [upd_same, natL_intL])
end


--CUT
/-! parts -/
theorem fw_inj {n : Nat} {w : List Nat} (h : IsTurn n w) {a b : Nat} (ha : a < n) (hb : b < n) (e : fw w a = fw w b) : a = b := by rw [← bw_fw h ha, e, bw_fw h hb]
def itr (f : Nat → Nat) : Nat → Nat → Nat
  | 0, x => x
  | k + 1, x => itr f k (f x)
theorem itr_succ (f : Nat → Nat) : ∀ k x, itr f (k + 1) x = f (itr f k x)
  | 0, _ => rfl
  | k + 1, x => itr_succ f k (f x)
theorem itr_lt {n : Nat} {f : Nat → Nat} (hf : ∀ a, a < n → f a < n) : ∀ k x, x < n → itr f k x < n
  | 0, _, h => h
  | k + 1, x, h => itr_lt hf k (f x) (hf x h)
theorem itr_cancel {n : Nat} {f : Nat → Nat} (hf : ∀ a, a < n → f a < n) (inj : ∀ a b, a < n → b < n → f a = f b → a = b) {x : Nat} (hx : x < n) : ∀ i d, itr f (i + d) x = itr f i x → itr f d x = x
  | 0, d, e => by rw [Nat.zero_add] at e; exact e
  | i + 1, d, e => by
    rw [show i + 1 + d = (i + d) + 1 by omega, itr_succ, itr_succ] at e
    exact itr_cancel hf inj hx i d (inj _ _ (itr_lt hf _ x hx) (itr_lt hf _ x hx) e)
theorem orbit {n : Nat} {w : List Nat} (h : IsTurn n w) {x : Nat} (hx : x < n) : ∃ k, itr (fw w) (k + 1) x = x := by
  refine Classical.byContradiction fun no => ?_
  have hf : ∀ a, a < n → fw w a < n := fun a ha => fw_lt h ha
  have nd : ((List.range (n + 1)).map fun i => itr (fw w) i x).Nodup := by
    refine List.pairwise_map.mpr (List.Pairwise.imp (R := (· < ·)) (S := fun a b => itr (fw w) a x ≠ itr (fw w) b x) (fun {i j} hij e => no ?_) List.pairwise_lt_range)
    obtain ⟨d, rfl⟩ : ∃ d, j = i + (d + 1) := ⟨j - i - 1, by omega⟩
    exact ⟨d, itr_cancel hf (fun a b ha hb => fw_inj h ha hb) hx i (d + 1) e.symm⟩
  have := Kin.nodup_len n _ nd fun y hy => by
    obtain ⟨i, _, rfl⟩ := List.mem_map.mp hy
    exact itr_lt hf i x hx
  rw [List.length_map, List.length_range] at this
  omega
theorem Reach.trans {w h : List Nat} {a b c : Nat} (x : Reach w h a b) (y : Reach w h b c) : Reach w h a c := by
  induction y with
  | here => exact x
  | wife _ ih => exact .wife ih
  | heir _ ih => exact .heir ih
theorem reach_w (w h : List Nat) (x : Nat) : ∀ k, Reach w h x (itr (fw w) k x)
  | 0 => .here
  | k + 1 => by rw [itr_succ]; exact .wife (reach_w w h x k)
theorem reach_h (w h : List Nat) (x : Nat) : ∀ k, Reach w h x (itr (fw h) k x)
  | 0 => .here
  | k + 1 => by rw [itr_succ]; exact .heir (reach_h w h x k)
theorem Reach.symm {n : Nat} {w h : List Nat} (tw : IsTurn n w) (th : IsTurn n h) {c d : Nat} (hc : c < n) (r : Reach w h c d) : Reach w h d c := by
  induction r with
  | here => exact .here
  | @wife d r ih =>
    obtain ⟨k, e⟩ := orbit tw (r.lt tw th hc)
    have e' : itr (fw w) k (fw w d) = d := e
    have := reach_w w h (fw w d) k
    rw [e'] at this
    exact this.trans ih
  | @heir d r ih =>
    obtain ⟨k, e⟩ := orbit th (r.lt tw th hc)
    have e' : itr (fw h) k (fw h d) = d := e
    have := reach_h w h (fw h d) k
    rw [e'] at this
    exact this.trans ih
noncomputable def dcd (p : Prop) : Bool := @decide p (Classical.propDecidable p)
theorem dcd_iff {p : Prop} : dcd p = true ↔ p := by unfold dcd; exact @decide_eq_true_iff p (Classical.propDecidable p)
theorem dcd_true {p : Prop} (h : p) : dcd p = true := dcd_iff.mpr h
theorem dcd_false {p : Prop} (h : ¬ p) : dcd p = false := by
  cases e : dcd p with
  | false => rfl
  | true => exact absurd (dcd_iff.mp e) h
noncomputable def partL (w h : List Nat) (n c : Nat) : List Nat := (List.range n).filter fun d => dcd (Reach w h c d)
theorem mem_partL {w h : List Nat} {n c d : Nat} (tw : IsTurn n w) (th : IsTurn n h) (hc : c < n) : d ∈ partL w h n c ↔ Reach w h c d := by
  unfold partL
  rw [List.mem_filter, List.mem_range, dcd_iff]
  exact ⟨fun z => z.2, fun r => ⟨r.lt tw th hc, r⟩⟩
theorem partL_lt {w h : List Nat} {n c : Nat} : (partL w h n c).Pairwise (· < ·) := List.pairwise_lt_range.filter _
theorem partL_is {w h : List Nat} {n c : Nat} (tw : IsTurn n w) (th : IsTurn n h) (hc : c < n) : PartOf w h c (partL w h n c) := by
  refine ⟨fun d => mem_partL tw th hc, ?_, partL_lt.imp fun {a b} z => Nat.ne_of_lt z⟩
  unfold intL
  rw [List.pairwise_map]
  exact partL_lt.imp fun {a b} z => by omega
def First (w h : List Nat) (c : Nat) : Prop := ∀ d, d < c → ¬ Reach w h d c
theorem first_of (w h : List Nat) : ∀ d, ∃ c, c ≤ d ∧ First w h c ∧ Reach w h c d := by
  intro d
  induction d using Nat.strongRecOn with
  | ind d ih =>
    by_cases f : First w h d
    · exact ⟨d, Nat.le_refl _, f, .here⟩
    · obtain ⟨d', lt, r⟩ : ∃ d', d' < d ∧ Reach w h d' d := Classical.byContradiction fun no => f fun d' lt r => no ⟨d', lt, r⟩
      obtain ⟨c, le, fc, rc⟩ := ih d' lt
      exact ⟨c, by omega, fc, rc.trans r⟩
noncomputable def firstsL (w h : List Nat) (n : Nat) : List Nat := (List.range n).filter fun c => dcd (First w h c)
theorem mem_firstsL {w h : List Nat} {n c : Nat} : c ∈ firstsL w h n ↔ c < n ∧ First w h c := by
  unfold firstsL
  rw [List.mem_filter, List.mem_range, dcd_iff]
theorem firstsL_succ (w h : List Nat) (n : Nat) : firstsL w h (n + 1) = firstsL w h n ++ (if dcd (First w h n) = true then [n] else []) := by
  unfold firstsL
  rw [List.range_succ, List.filter_append]
  congr 1
  cases e : dcd (First w h n) <;> simp [e]
theorem firstsL_lt (w h : List Nat) (n : Nat) : (firstsL w h n).Pairwise (· < ·) := List.pairwise_lt_range.filter _
noncomputable def partsL (w h : List Nat) (n : Nat) : List (List Nat) := (firstsL w h n).map (partL w h n)
theorem ls_keep {H H' : Hp} {ps : List Addr} {xss : List (List Int)} (h : LsAt H ps xss) (s : ∀ p ∈ ps, ∀ o, H p = some o → H' p = some o) : LsAt H' ps xss := ⟨h.len, fun i p xs a b => s p (List.mem_of_getElem? a) _ (h.at_ i p xs a b)⟩
theorem ls_nil {H : Hp} : LsAt H [] [] := ⟨rfl, fun i p xs a => by cases a⟩
theorem ls_snoc {H : Hp} {ps : List Addr} {xss : List (List Int)} {p : Addr} {xs : List Int} (h : LsAt H ps xss) (hp : H p = some (.lst (xs.map V.int))) : LsAt H (ps ++ [p]) (xss ++ [xs]) := by
  refine ⟨by rw [List.length_append, List.length_append, h.len]; rfl, fun i q ys a b => ?_⟩
  by_cases c : i < ps.length
  · rw [List.getElem?_append_left c] at a
    rw [List.getElem?_append_left (by rw [← h.len]; exact c)] at b
    exact h.at_ i q ys a b
  · have e : i = ps.length := by
      have := (List.getElem?_eq_some_iff.mp a).1
      rw [List.length_append] at this
      have e1 : [p].length = 1 := rfl
      omega
    subst e
    rw [List.getElem?_append_right (Nat.le_refl _), Nat.sub_self] at a
    rw [List.getElem?_append_right (by rw [h.len]; exact Nat.le_refl _), h.len, Nat.sub_self] at b
    cases Option.some.inj a
    cases Option.some.inj b
    exact hp
def spParts (C : Addr) (e : Ad) : Sp := fun vs H Q E => ∃ (p : Addr) (n : Nat) (w h : List Nat), vs = [.ref p] ∧ TableAt C H p n w h ∧ ∀ D ps H', H D = none → (∀ q ∈ ps, H q = none ∧ q ≠ D) → Same H H' → H' D = some (.lst (ps.map V.ref)) → LsAt H' ps ((partsL w h n).map intL) → Q (.ref D) H'
section
variable {P : Program} {w : World} {K : PySem.W.Frag} {mg : Str → Option Value} {base : Heap} {CX : CXT} {C : Addr} {e : Ad}
theorem sc_parts : FnScope ["table", "told", "answer", "c", "part", "member"] ["table"] (defScope (top 24)) := ⟨rfl, rfl, rfl, by decide +kernel, rfl, by decide +kernel, by decide +kernel⟩
theorem ok_parts {f : Addr} {fd : FuncData} (F : Fun K "parts" "parts" (top 24) f fd) (T : Txt K mg C e) (D_size : MDef P w K mg base (CXR P w) C "size" 1 ["self"] (spSize C)) (D_part_with : Def P w K mg base (CXR P w) "part_with" 3 ["table", "c"] (spPartWith C e)) : FnOk P w K mg base (CXR P w) 4 f fd ["table"] (spParts C e) := by
  refine F.okX sc_parts (fun vs H Q E h => ?_) (fun cdv A outer s H vs Q E hr hx h => ?_)
  · obtain ⟨p, n, w, h, rfl, _⟩ := h; rfl
  · obtain ⟨p, n, w', h', rfl, TA, k⟩ := h
    have nd := sc_parts.nd
    have tw := TA.tw
    have th := TA.th
    have n8 := TA.n8
    have big : 100 ≤ sizeLine := by decide
    obtain ⟨dx, a1, b1, c1, d1, e1, -, -, -, -⟩ := TA.ob
    have f1 : (flds a1 b1 c1 d1).lookup ("size" : Str) = none := flds_no _ _ _ _ (by decide +kernel) (by decide +kernel) (by decide +kernel) (by decide +kernel)
    refine ⟨_, (pss_cons (ps_set (i := 1) nd rfl (Or.inl rfl) pe_dnewK)
      (pss_cons (ps_set (i := 2) nd rfl (Or.inl rfl) (pe_lst pa_nil))
      (pss_cons (ps_for PassesOwn.leaving rfl (pi_range1 rfl T.z_range (pa_cons (pe_methX0 (pv 0) T.cl_Table D_size hx.s hr) pa_nil)) (pg_name (i := 3) nd rfl (Or.inl rfl)) (pss_one (ps_if (pt_cmp (pc_dnotin (hu_of hr) (pv 3) (pv 1))) (pss_cons (ps_set (i := 4) nd rfl (Or.inl rfl) (pe_callX D_part_with hx.s hr rfl (pa_cons (pv 0) (pa_cons (pv 3) pa_nil))))
      (pss_cons (ps_for PassesOwn.leaving rfl (pi_list (pv 4)) (pg_name (i := 5) nd rfl (Or.inl rfl)) (pss_one (ps_dput (hu_of hr) (pv 1) (pv 5) pe_bl rfl)))
      (pss_one (ps_expr (pe_bm PySem.F.plainAttrs_list PySem.F.slot_list_append PySem.F.type_list_append mt_append (pv 2) (pa_cons (pv 4) pa_nil)))))) pss_nil)))
      (pss_one (ps_ret (pv 2)))))), ?_⟩
    intro Dd hDd
    have s1 := same_new (o := .dK []) hDd
    have gd0 : (upd H Dd (.dK [])) Dd = some (.dK (kvOf [])) := upd_same
    generalize upd H Dd (.dK []) = H1 at s1 gd0
    walk_at "ns"
    refine ⟨by decide, fun Da hDa => ?_⟩
    have s2 := same_new (o := .lst []) hDa
    have ga0 : (upd H1 Da (.lst [])) Da = some (.lst (([] : List Addr).map V.ref)) := upd_same
    generalize upd H1 Da (.lst []) = H2 at s2 ga0
    have s12 := s1.trans s2
    have hDaH : H Da = none := s1.free hDa
    walk_at "ns"
    refine ⟨_, rfl, p, dx, _, rfl, s12 _ _ e1, f1, p, n, w', h', rfl, TA.same s12, _, rfl, by omega, by omega, ?_⟩
    rw [Int.toNat_natCast]
    refine for_range0 (fun i σ G => ∃ ks ps o3 o4 o5, σ = [some (.ref p), some (.ref Dd), some (.ref Da), o3, o4, o5] ∧ Same H G ∧ G Dd = some (.dK (kvOf ks)) ∧ ks.Nodup ∧ (∀ d, d ∈ ks ↔ ∃ c, c < i ∧ First w' h' c ∧ Reach w' h' c d) ∧ G Da = some (.lst (ps.map V.ref)) ∧ LsAt G ps (((firstsL w' h' i).map (partL w' h' n)).map intL) ∧ ∀ q ∈ ps, H q = none ∧ q ≠ Da)
      ⟨[], [], none, none, none, rfl, s12, s2 _ _ gd0, List.nodup_nil, fun d => ⟨fun z => (by cases z), fun ⟨c, z, _⟩ => absurd z (Nat.not_lt_zero _)⟩, ga0, ls_nil, fun q z => (by cases z)⟩ ?_ ?_
    · rintro i σ G hi ⟨ks, ps, o3, o4, o5, rfl, sG, gd, nk, mk, ga, ls, fq⟩
      walk_at "ns"
      have hit : i ∈ ks ↔ ¬ First w' h' i := by
        rw [mk i]
        constructor
        · rintro ⟨c, lt, _, r⟩ f; exact f c lt r
        · intro nf
          obtain ⟨c, le, f, r⟩ := first_of w' h' i
          refine ⟨c, ?_, f, r⟩
          rcases Nat.lt_or_ge c i with z | z
          · exact z
          · exact absurd ((by omega : c = i) ▸ f) nf
      refine ⟨_, rfl, _, rfl, Dd, _, rfl, DGet.k (k := Sum.inl (i : Int)) gd, _, rfl, ?_⟩
      rw [valV_kv]
      by_cases q : i ∈ ks
      · rw [decide_eq_true q]
        have nf := hit.mp q
        refine iteF ⟨ks, ps, _, _, _, rfl, sG, gd, nk, fun d => ?_, ga, ?_, fq⟩
        · rw [mk d]
          constructor
          · rintro ⟨c, lt, r⟩; exact ⟨c, by omega, r⟩
          · rintro ⟨c, lt, f, r⟩
            refine ⟨c, ?_, f, r⟩
            rcases Nat.lt_or_ge c i with z | z
            · exact z
            · exact absurd ((by omega : c = i) ▸ f) nf
        · rw [firstsL_succ, if_neg (by rw [dcd_false nf]; exact Bool.false_ne_true), List.append_nil]; exact ls
      · rw [decide_eq_false q]
        have ff : First w' h' i := Classical.byContradiction fun z => q (hit.mpr z)
        refine iteT ?_
        refine ⟨_, rfl, _, rfl, p, n, w', h', i, rfl, TA.same sG, hi, fun D xs G1 pt hD s3 g3 => ?_⟩
        obtain rfl : xs = partL w' h' n i := pt.uniq (partL_is tw th hi)
        have nDa : D ≠ Da := fun z => by rw [z, ga] at hD; cases hD
        have nDd : D ≠ Dd := fun z => by rw [z, gd] at hD; cases hD
        have naD : Da ≠ Dd := fun z => by rw [z, gd] at ga; cases ga
        walk_at "ns"
        refine ⟨_, rfl, D, rfl, ⟨_, SqL.of g3⟩, for_list (xs := natL (partL w' h' n i)) (fun m σ G' => ∃ ks' o, σ = [some (.ref p), some (.ref Dd), some (.ref Da), some (nat i), some (.ref D), o] ∧ (∀ c o, G1 c = some o → c ≠ Dd → G' c = some o) ∧ G' Dd = some (.dK (kvOf ks')) ∧ ks'.Nodup ∧ ∀ d, d ∈ ks' ↔ d ∈ ks ∨ d ∈ (partL w' h' n i).take m) ⟨ks, _, rfl, fun c o h _ => h, s3 _ _ gd, nk, fun d => ⟨.inl, fun z => z.elim id fun y => (by simp at y)⟩⟩ (fun m σ G' _ ⟨_, _, _, kp, _⟩ => SqL.of (kp _ _ g3 nDd)) ?_ ?_⟩
        · rintro m v σ G' hm ⟨ks', o, rfl, kp, gd', nk', mk'⟩
          obtain ⟨t, ht, rfl⟩ : ∃ t, (partL w' h' n i)[m]? = some t ∧ v = nat t := by
            unfold natL at hm
            rw [List.getElem?_map] at hm
            obtain ⟨t, ht, rfl⟩ := Option.map_eq_some_iff.mp hm
            exact ⟨t, ht, rfl⟩
          have kl : ks'.length ≤ n := nodup_le nk' fun d hd => by
            rcases (mk' d).mp hd with z | z
            · obtain ⟨c, lt, _, r⟩ := (mk d).mp z
              exact r.lt tw th (by omega)
            · exact ((mem_partL tw th hi).mp (List.mem_of_mem_take z)).lt tw th hi
          walk_at "ns"
          refine ⟨_, rfl, _, rfl, Dd, _, rfl, DPut.k (k := Sum.inl (t : Int)) gd' (by unfold kvOf; rw [List.length_map]; omega), ?_⟩
          rw [putK_kv]
          refine ⟨_, _, rfl, fun c o hc nc => by rw [upd_ne nc]; exact kp c o hc nc, upd_same, ?_, fun d => ?_⟩
          · by_cases z : t ∈ ks'
            · rw [if_pos z]; exact nk'
            · rw [if_neg z, List.nodup_append]
              exact ⟨nk', List.nodup_cons.mpr ⟨fun y => (List.not_mem_nil y), List.nodup_nil⟩, fun a ha b hb e => z (by rw [← List.mem_singleton.mp hb, ← e]; exact ha)⟩
          · have tk : d ∈ (partL w' h' n i).take (m + 1) ↔ d ∈ (partL w' h' n i).take m ∨ d = t := by
              rw [List.take_add_one, ht, List.mem_append]
              simp
            rw [tk]
            by_cases z : t ∈ ks'
            · rw [if_pos z, mk' d]
              constructor
              · rintro (u | u)
                · exact .inl u
                · exact .inr (.inl u)
              · rintro (u | u | u)
                · exact .inl u
                · exact .inr u
                · subst u; exact (mk' d).mp z
            · rw [if_neg z, List.mem_append, mk' d, List.mem_singleton]
              constructor
              · rintro ((u | u) | u)
                · exact .inl u
                · exact .inr (.inl u)
                · exact .inr (.inr u)
              · rintro (u | u | u)
                · exact .inl (.inl u)
                · exact .inl (.inr u)
                · exact .inr u
        · rintro σ G' ⟨ks', o, rfl, kp, gd', nk', mk'⟩
          rw [natL_len, List.take_length] at mk'
          have ga' := kp _ _ (s3 _ _ ga) naD
          have pl : ps.length ≤ 8 := by
            rw [ls.len, List.length_map, List.length_map]
            unfold firstsL
            exact Nat.le_trans (List.length_filter_le _ _) (by rw [List.length_range]; omega)
          walk_at "ns"
          refine ⟨_, rfl, .inl ⟨rfl, _, SqL.of ga'⟩, _, rfl, Da, _, _, rfl, rfl, ga', by rw [List.length_map]; omega, ?_⟩
          have upA : ∀ c o, G1 c = some o → c ≠ Dd → c ≠ Da → (upd G' Da (.lst (ps.map V.ref ++ [V.ref D]))) c = some o := fun c o hc n1 n2 => by rw [upd_ne n2]; exact kp c o hc n1
          refine ⟨ks', ps ++ [D], _, _, _, rfl, fun c o hc => upA c o (s3 _ _ (sG _ _ hc)) (fun z => by rw [z, hDd] at hc; cases hc) (fun z => by rw [z, hDaH] at hc; cases hc), by rw [upd_ne (Ne.symm naD)]; exact gd', nk', fun d => ?_, by rw [upd_same, List.map_append]; rfl, ?_, fun r hr => ?_⟩
          · rw [mk' d, mk d, mem_partL tw th hi]
            constructor
            · rintro (⟨c, lt, f, r⟩ | r)
              · exact ⟨c, by omega, f, r⟩
              · exact ⟨i, by omega, ff, r⟩
            · rintro ⟨c, lt, f, r⟩
              rcases Nat.lt_or_ge c i with z | z
              · exact .inl ⟨c, z, f, r⟩
              · exact .inr ((by omega : c = i) ▸ r)
          · rw [firstsL_succ, if_pos (dcd_true ff), List.map_append, List.map_append]
            refine ls_snoc (ls_keep ls fun r hr o ho => upA r o (s3 _ _ ho) (fun z => ?_) (fq r hr).2) ?_
            · have := (fq r hr).1
              obtain ⟨j, hj⟩ := List.getElem?_of_mem hr
              have lj : j < (((firstsL w' h' i).map (partL w' h' n)).map intL).length := by rw [← ls.len]; exact (List.getElem?_eq_some_iff.mp hj).1
              have g := ls.at_ j r _ hj (List.getElem?_eq_getElem lj)
              rw [z, gd] at g; cases g
            · exact upA D _ (by rw [← natL_intL]; exact g3) nDd nDa
          · rcases List.mem_append.mp hr with z | z
            · exact fq r z
            · rw [List.mem_singleton.mp z]; exact ⟨sG.free hD, nDa⟩
    · rintro σ G ⟨ks, ps, o3, o4, o5, rfl, sG, gd, nk, mk, ga, ls, fq⟩
      exact ⟨_, rfl, k Da ps G hDaH fq sG ga ls⟩
end


--CUT
/-! all turns, in their order -/
def turnsK (n : Nat) : Nat → List (List Nat)
  | 0 => [[]]
  | k + 1 => (turnsK n k).flatMap fun t => ((List.range n).filter fun c => decide (c ∉ t)).map fun c => t ++ [c]
def turnsL (n : Nat) : List (List Nat) := turnsK n n
theorem mem_turnsK {n : Nat} : ∀ (k : Nat) (t : List Nat), t ∈ turnsK n k ↔ t.length = k ∧ t.Nodup ∧ ∀ c ∈ t, c < n
  | 0, t => by
    unfold turnsK
    rw [List.mem_singleton]
    constructor
    · rintro rfl; exact ⟨rfl, List.nodup_nil, fun c z => (by cases z)⟩
    · rintro ⟨z, _⟩; exact List.length_eq_zero_iff.mp z
  | k + 1, t => by
    unfold turnsK
    rw [List.mem_flatMap]
    constructor
    · rintro ⟨t', ht', z⟩
      obtain ⟨c, hc, rfl⟩ := List.mem_map.mp z
      obtain ⟨e, nd, lt⟩ := (mem_turnsK k t').mp ht'
      obtain ⟨h1, h2⟩ := List.mem_filter.mp hc
      have h2 : c ∉ t' := of_decide_eq_true h2
      refine ⟨by rw [List.length_append, e]; rfl, ?_, fun x hx => ?_⟩
      · rw [List.nodup_append]
        exact ⟨nd, List.nodup_cons.mpr ⟨fun y => (List.not_mem_nil y), List.nodup_nil⟩, fun a ha b hb e => h2 (by rw [← List.mem_singleton.mp hb, ← e]; exact ha)⟩
      · rcases List.mem_append.mp hx with y | y
        · exact lt x y
        · rw [List.mem_singleton.mp y]; exact List.mem_range.mp h1
    · rintro ⟨e, nd, lt⟩
      rcases List.eq_nil_or_concat t with z | ⟨t', c, z⟩
      · subst z; cases e
      · rw [List.concat_eq_append] at z
        subst z
        rw [List.length_append] at e
        have e1 : [c].length = 1 := rfl
        obtain ⟨nd1, _, dj⟩ := List.nodup_append.mp nd
        exact ⟨t', (mem_turnsK k t').mpr ⟨by omega, nd1, fun x hx => lt x (List.mem_append_left _ hx)⟩, List.mem_map.mpr ⟨c, List.mem_filter.mpr ⟨List.mem_range.mpr (lt c (List.mem_append_right _ (List.mem_singleton.mpr rfl))), decide_eq_true fun y => dj c y c (List.mem_singleton.mpr rfl) rfl⟩, rfl⟩⟩
theorem mem_turnsL {n : Nat} {t : List Nat} : t ∈ turnsL n ↔ IsTurn n t := by
  unfold turnsL
  rw [mem_turnsK]
  constructor
  · rintro ⟨e, nd, lt⟩
    refine (List.perm_ext_iff_of_nodup nd List.nodup_range).mpr fun c => ⟨fun hc => List.mem_range.mpr (lt c hc), fun hc => ?_⟩
    refine Classical.byContradiction fun no => ?_
    have := Kin.nodup_len n (c :: t) (List.nodup_cons.mpr ⟨no, nd⟩) fun x hx => by
      rcases List.mem_cons.mp hx with rfl | y
      · exact List.mem_range.mp hc
      · exact lt x y
    rw [List.length_cons] at this
    omega
  · intro h
    exact ⟨h.len, h.nodup, fun c hc => h.mem.mp hc⟩
/-- earlier, sign by sign -/
def lexB : List Nat → List Nat → Bool
  | [], [] => false
  | [], _ :: _ => true
  | _ :: _, [] => false
  | a :: x, b :: y => decide (a < b) || (decide (a = b) && lexB x y)
theorem lex_app {z x y : List Nat} : lexB (z ++ x) (z ++ y) = lexB x y := by
  induction z with
  | nil => rfl
  | cons a z ih =>
    show (decide (a < a) || (decide (a = a) && lexB (z ++ x) (z ++ y))) = _
    rw [decide_eq_false (Nat.lt_irrefl a), decide_eq_true rfl, ih]
    rfl
theorem lex_pre : ∀ {x y : List Nat}, x.length = y.length → lexB x y = true → ∀ u v, lexB (x ++ u) (y ++ v) = true
  | [], [], _, h => by cases h
  | [], _ :: _, e, _ => by cases e
  | _ :: _, [], e, _ => by cases e
  | a :: x, b :: y, e, h => fun u v => by
    have h : (decide (a < b) || (decide (a = b) && lexB x y)) = true := h
    show (decide (a < b) || (decide (a = b) && lexB (x ++ u) (y ++ v))) = true
    by_cases q : a < b
    · rw [decide_eq_true q]; rfl
    · rw [decide_eq_false q] at h ⊢
      rw [Bool.false_or, Bool.and_eq_true] at h ⊢
      exact ⟨h.1, lex_pre (Nat.succ.inj e) h.2 u v⟩
theorem turnsK_lex {n : Nat} : ∀ k, (turnsK n k).Pairwise fun x y => lexB x y = true
  | 0 => List.pairwise_singleton _ _
  | k + 1 => by
    unfold turnsK
    rw [List.pairwise_flatMap]
    refine ⟨fun t _ => ?_, ?_⟩
    · rw [List.pairwise_map]
      refine (List.pairwise_lt_range.filter _).imp fun {a b} lt => ?_
      rw [lex_app]
      show (decide (a < b) || _) = true
      rw [decide_eq_true lt]; rfl
    · refine (turnsK_lex k).imp_of_mem fun {t t'} ht ht' lx x hx y hy => ?_
      obtain ⟨c, _, rfl⟩ := List.mem_map.mp hx
      obtain ⟨c', _, rfl⟩ := List.mem_map.mp hy
      have e1 := ((mem_turnsK k t).mp ht).1
      have e2 := ((mem_turnsK k t').mp ht').1
      exact lex_pre (by rw [e1, e2]) lx _ _
/-- a table numbered anew by p -/
def cnj (n : Nat) (p w : List Nat) : List Nat := (List.range n).map fun c => fw p (fw w (bw p c))
section
variable {n : Nat} {p w h : List Nat}
theorem cnj_fw (tp : IsTurn n p) {c : Nat} (hc : c < n) : fw (cnj n p w) (fw p c) = fw p (fw w c) := by
  unfold cnj
  have hp := fw_lt tp hc
  show ((List.range n).map fun c => fw p (fw w (bw p c))).getD (fw p c) 0 = _
  rw [List.getD_eq_getElem?_getD, List.getElem?_map, List.getElem?_range hp]
  show fw p (fw w (bw p (fw p c))) = _
  rw [bw_fw tp hc]
theorem cnj_turn (tp : IsTurn n p) (tw : IsTurn n w) : IsTurn n (cnj n p w) := by
  refine mem_turnsL.mp ?_
  unfold turnsL
  rw [mem_turnsK]
  refine ⟨by unfold cnj; rw [List.length_map, List.length_range], ?_, fun c hc => ?_⟩
  · unfold cnj
    refine List.pairwise_map.mpr (List.nodup_range.imp_of_mem fun {a b} ha hb ne e => ne ?_)
    have la := bw_lt tp (List.mem_range.mp ha)
    have lb := bw_lt tp (List.mem_range.mp hb)
    have e1 : fw w (bw p a) = fw w (bw p b) := by rw [← bw_fw tp (fw_lt tw la), e, bw_fw tp (fw_lt tw lb)]
    have e2 : bw p a = bw p b := by rw [← bw_fw tw la, e1, bw_fw tw lb]
    rw [← fw_bw tp (List.mem_range.mp ha), e2, fw_bw tp (List.mem_range.mp hb)]
  · unfold cnj at hc
    obtain ⟨d, hd, rfl⟩ := List.mem_map.mp hc
    exact fw_lt tp (fw_lt tw (bw_lt tp (List.mem_range.mp hd)))
theorem cnj_bw (tp : IsTurn n p) (tw : IsTurn n w) {c : Nat} (hc : c < n) : bw (cnj n p w) (fw p c) = fw p (bw w c) := by
  have h1 := cnj_fw (w := w) tp (bw_lt tw hc)
  rw [fw_bw tw hc] at h1
  rw [← h1, bw_fw (cnj_turn tp tw) (fw_lt tp (bw_lt tw hc))]
theorem cnj_stC (tp : IsTurn n p) (tw : IsTurn n w) (th : IsTurn n h) {m : Bool} {c l : Nat} (hc : c < n) : stC (cnj n p w) (cnj n p h) m (fw p c) l = fw p (stC w h m c l) := by
  unfold stC
  split
  · exact cnj_bw tp th hc
  · split
    · rw [cnj_bw tp th hc, cnj_fw tp (bw_lt th hc)]
    · split
      · cases m
        · exact cnj_bw tp tw hc
        · exact cnj_fw tp hc
      · split
        · cases m
          · show fw (cnj n p h) (bw (cnj n p w) (fw p c)) = _
            rw [cnj_bw tp tw hc, cnj_fw tp (bw_lt tw hc)]
            rfl
          · exact cnj_fw tp hc
        · rfl
theorem cnj_led (tp : IsTurn n p) (tw : IsTurn n w) (th : IsTurn n h) : ∀ (l : List Nat) (m : Bool) (c : Nat), c < n → led (cnj n p w) (cnj n p h) (m, fw p c) l = ((led w h (m, c) l).1, fw p (led w h (m, c) l).2)
  | [], _, _, _ => rfl
  | x :: l, m, c, hc => by
    have ih := cnj_led tp tw th l (stS m x) (stC w h m c x) (stC_lt tw th hc)
    show led (cnj n p w) (cnj n p h) (stS m x, stC (cnj n p w) (cnj n p h) m (fw p c) x) l = _
    rw [cnj_stC tp tw th hc]
    exact ih
end


--CUT
/-! rings: their lengths tell turns apart up to the numbering -/
def itC (w : List Nat) (k c : Nat) : Nat := itr (fw w) k c
def orbC (n : Nat) (w : List Nat) (c : Nat) : List Nat := (List.range n).filter fun d => (List.range n).any fun k => itC w k c == d
def fstC (n : Nat) (w : List Nat) (c : Nat) : Bool := !(List.range c).any fun d => (orbC n w d).contains c
def insN (x : Nat) : List Nat → List Nat
  | [] => [x]
  | y :: r => if x ≤ y then x :: y :: r else y :: insN x r
def sortN : List Nat → List Nat
  | [] => []
  | x :: r => insN x (sortN r)
theorem insN_perm (x : Nat) : ∀ l, (insN x l).Perm (x :: l)
  | [] => .refl _
  | y :: r => by
    unfold insN
    split
    · exact .refl _
    · exact ((insN_perm x r).cons y).trans (.swap x y r)
theorem sortN_perm : ∀ l, (sortN l).Perm l
  | [] => .refl _
  | x :: r => (insN_perm x _).trans ((sortN_perm r).cons x)
theorem insN_rise (x : Nat) : ∀ {l : List Nat}, l.Pairwise (· ≤ ·) → (insN x l).Pairwise (· ≤ ·)
  | [], _ => List.pairwise_singleton _ _
  | y :: r, h => by
    obtain ⟨h1, h2⟩ := List.pairwise_cons.mp h
    unfold insN
    by_cases q : x ≤ y
    · rw [if_pos q]
      refine List.pairwise_cons.mpr ⟨fun z hz => ?_, h⟩
      rcases List.mem_cons.mp hz with rfl | hz
      · exact q
      · exact Nat.le_trans q (h1 z hz)
    · rw [if_neg q]
      refine List.pairwise_cons.mpr ⟨fun z hz => ?_, insN_rise x h2⟩
      rcases List.mem_cons.mp ((insN_perm x r).mem_iff.mp hz) with rfl | hz
      · omega
      · exact h1 z hz
theorem sortN_rise : ∀ l, (sortN l).Pairwise (· ≤ ·)
  | [] => List.Pairwise.nil
  | x :: r => insN_rise x (sortN_rise r)
def keyC (n : Nat) (w : List Nat) : List Nat := sortN (((List.range n).filter (fstC n w)).map fun c => (orbC n w c).length)
section
variable {n : Nat} {w : List Nat}
theorem orbit_lt (h : IsTurn n w) {x : Nat} (hx : x < n) : ∃ k, k < n ∧ itr (fw w) (k + 1) x = x := by
  refine Classical.byContradiction fun no => ?_
  have hf : ∀ a, a < n → fw w a < n := fun a ha => fw_lt h ha
  have nd : ((List.range (n + 1)).map fun i => itr (fw w) i x).Nodup := by
    refine List.pairwise_map.mpr (List.Pairwise.imp_of_mem (R := (· < ·)) (S := fun a b => itr (fw w) a x ≠ itr (fw w) b x) (fun {i j} hi hj hij e => no ?_) List.pairwise_lt_range)
    obtain ⟨d, rfl⟩ : ∃ d, j = i + (d + 1) := ⟨j - i - 1, by omega⟩
    have := List.mem_range.mp hj
    exact ⟨d, by omega, itr_cancel hf (fun a b ha hb => fw_inj h ha hb) hx i (d + 1) e.symm⟩
  have := Kin.nodup_len n _ nd fun y hy => by
    obtain ⟨i, _, rfl⟩ := List.mem_map.mp hy
    exact itr_lt hf i x hx
  rw [List.length_map, List.length_range] at this
  omega
theorem itr_add (f : Nat → Nat) : ∀ a b x, itr f (a + b) x = itr f b (itr f a x)
  | 0, b, x => by rw [Nat.zero_add]; rfl
  | a + 1, b, x => by
    rw [show a + 1 + b = (a + b) + 1 by omega]
    show itr f (a + b) (f x) = itr f b (itr f a (f x))
    exact itr_add f a b (f x)
theorem reach_it (h : IsTurn n w) {c d : Nat} (hc : c < n) : Reach w w c d ↔ ∃ k, k < n ∧ itC w k c = d := by
  constructor
  · intro r
    have step : ∀ d, (∃ k, k < n ∧ itC w k c = d) → ∃ k, k < n ∧ itC w k c = fw w d := by
      rintro d ⟨k, lk, rfl⟩
      by_cases q : k + 1 < n
      · exact ⟨k + 1, q, itr_succ (fw w) k c⟩
      · obtain ⟨j, lj, e⟩ := orbit_lt h hc
        refine ⟨k - j, by omega, ?_⟩
        show itr (fw w) (k - j) c = fw w (itr (fw w) k c)
        rw [← itr_succ (fw w) k c, show k + 1 = (j + 1) + (k - j) by omega, itr_add, e]
    induction r with
    | here => exact ⟨0, by omega, rfl⟩
    | wife _ ih => exact step _ ih
    | heir _ ih => exact step _ ih
  · rintro ⟨k, _, rfl⟩
    exact reach_w w w c k
theorem orb_eq (h : IsTurn n w) {c : Nat} (hc : c < n) : partL w w n c = orbC n w c := by
  unfold partL orbC
  refine List.filter_congr fun d _ => ?_
  rw [Bool.eq_iff_iff, dcd_iff, reach_it h hc, List.any_eq_true]
  constructor
  · rintro ⟨k, lk, e⟩
    exact ⟨k, List.mem_range.mpr lk, by rw [e]; exact beq_self_eq_true d⟩
  · rintro ⟨k, hk, e⟩
    exact ⟨k, List.mem_range.mp hk, eq_of_beq e⟩
theorem fst_eq (h : IsTurn n w) {c : Nat} (hc : c < n) : dcd (First w w c) = fstC n w c := by
  unfold fstC
  rw [Bool.eq_iff_iff, dcd_iff, Bool.not_eq_true', List.any_eq_false]
  constructor
  · intro f d hd z
    have ld := List.mem_range.mp hd
    rw [List.contains_iff_mem, ← orb_eq h (by omega)] at z
    exact f d ld ((mem_partL h h (by omega)).mp z)
  · intro f d ld r
    refine f d (List.mem_range.mpr ld) ?_
    rw [List.contains_iff_mem, ← orb_eq h (by omega)]
    exact (mem_partL h h (by omega)).mpr r
theorem key_eq (h : IsTurn n w) : sortN ((partsL w w n).map List.length) = keyC n w := by
  unfold keyC partsL firstsL
  congr 1
  rw [List.map_map]
  have e1 : (List.range n).filter (fun c => dcd (First w w c)) = (List.range n).filter (fstC n w) := List.filter_congr fun c hc => fst_eq h (List.mem_range.mp hc)
  rw [e1]
  refine List.map_congr_left fun c hc => ?_
  show (partL w w n c).length = _
  rw [orb_eq h (List.mem_range.mp (List.mem_filter.mp hc).1)]
end
def okey (n : Nat) : Bool := (turnsL n).all fun w => (turnsL n).all fun w' => !(keyC n w == keyC n w') || (turnsL n).any fun p => cnj n p w == w'
theorem okey1 : okey 1 = true := by decide +kernel
theorem okey2 : okey 2 = true := by decide +kernel
theorem okey3 : okey 3 = true := by decide +kernel
theorem okey4 : okey 4 = true := by decide +kernel
theorem same_key {n : Nat} (n1 : 1 ≤ n) (n4 : n ≤ 4) {w w' : List Nat} (h : IsTurn n w) (h' : IsTurn n w') (e : keyC n w = keyC n w') : ∃ p, IsTurn n p ∧ cnj n p w = w' := by
  have ok : okey n = true := by
    rcases n with _ | _ | _ | _ | _ | n
    · omega
    · exact okey1
    · exact okey2
    · exact okey3
    · exact okey4
    · omega
  unfold okey at ok
  have h1 := List.all_eq_true.mp ok w (mem_turnsL.mpr h)
  have h2 := List.all_eq_true.mp h1 w' (mem_turnsL.mpr h')
  rw [e, beq_self_eq_true, Bool.not_true, Bool.false_or] at h2
  obtain ⟨p, hp, z⟩ := List.any_eq_true.mp h2
  exact ⟨p, mem_turnsL.mp hp, eq_of_beq z⟩
section
variable {n : Nat} {p w h : List Nat}
theorem cnj_reach (tp : IsTurn n p) (tw : IsTurn n w) (th : IsTurn n h) {c d : Nat} (hc : c < n) (r : Reach w h c d) : Reach (cnj n p w) (cnj n p h) (fw p c) (fw p d) := by
  induction r with
  | here => exact .here
  | wife r ih => rw [← cnj_fw tp (r.lt tw th hc)]; exact .wife ih
  | heir r ih => rw [← cnj_fw tp (r.lt tw th hc)]; exact .heir ih
def OneP (n : Nat) (w h : List Nat) : Prop := ∀ d, d < n → Reach w h 0 d
theorem cnj_one (n1 : 1 ≤ n) (tp : IsTurn n p) (tw : IsTurn n w) (th : IsTurn n h) (o : OneP n w h) : OneP n (cnj n p w) (cnj n p h) := by
  have l0 : 0 < n := n1
  have all : ∀ d, d < n → Reach (cnj n p w) (cnj n p h) (fw p 0) d := fun d hd => by
    have := cnj_reach tp tw th l0 (o (bw p d) (bw_lt tp hd))
    rw [fw_bw tp hd] at this
    exact this
  intro d hd
  exact (Reach.symm (cnj_turn tp tw) (cnj_turn tp th) (fw_lt tp l0) (all 0 l0)).trans (all d hd)
theorem one_firsts (n1 : 1 ≤ n) (tw : IsTurn n w) (th : IsTurn n h) : (partsL w h n).length = 1 ↔ OneP n w h := by
  unfold partsL
  rw [List.length_map]
  have z0 : 0 ∈ firstsL w h n := mem_firstsL.mpr ⟨by omega, fun d z => absurd z (Nat.not_lt_zero d)⟩
  constructor
  · intro e d hd
    obtain ⟨c, le, f, r⟩ := first_of w h d
    have hc : c ∈ firstsL w h n := mem_firstsL.mpr ⟨by omega, f⟩
    obtain ⟨x, ex⟩ := List.length_eq_one_iff.mp e
    rw [ex] at z0 hc
    rw [← List.mem_singleton.mp z0] at hc
    rw [List.mem_singleton.mp hc] at r
    exact r
  · intro o
    have all : ∀ c ∈ firstsL w h n, c = 0 := fun c hc => by
      obtain ⟨lc, f⟩ := mem_firstsL.mp hc
      rcases Nat.eq_zero_or_pos c with z | z
      · exact z
      · exact absurd (o c lc) (f 0 z)
    have pw := firstsL_lt w h n
    cases e : firstsL w h n with
    | nil => rw [e] at z0; cases z0
    | cons a r =>
      cases r with
      | nil => rfl
      | cons b r =>
        rw [e] at all pw
        have h1 := all a List.mem_cons_self
        have h2 := all b (List.mem_cons_of_mem _ List.mem_cons_self)
        have := (List.pairwise_cons.mp pw).1 b List.mem_cons_self
        omega
end


--CUT
/-! the first table: which turns of wives are to be tried -/
theorem cnj_bad {n : Nat} {p w h : List Nat} (tp : IsTurn n p) (tw : IsTurn n w) (th : IsTurn n h) {r : Rl} {c : Nat} (hc : c < n) : badAt (cnj n p w) (cnj n p h) r (fw p c) = badAt w h r c := by
  unfold badAt
  rw [cnj_led tp tw th r.2 true c hc, cnj_fw tp hc]
  have e : decide (((led w h (true, c) r.2).1, fw p (led w h (true, c) r.2).2) = (false, fw p (fw w c))) = decide (led w h (true, c) r.2 = (false, fw w c)) := by
    rw [decide_eq_decide]
    have l2 : (led w h (true, c) r.2).2 < n := led_lt tw th r.2 (true, c) hc
    constructor
    · intro z
      have z1 := (Prod.mk.inj z).1
      have z2 := fw_inj tp l2 (fw_lt tw hc) (Prod.mk.inj z).2
      exact Prod.ext z1 z2
    · intro z; rw [z]
  rw [e]
def GoodT (rs : List Rl) (n : Nat) (w h : List Nat) : Prop := OneP n w h ∧ NoBad w h n rs
theorem cnj_good {rs : List Rl} {n : Nat} {p w h : List Nat} (n1 : 1 ≤ n) (tp : IsTurn n p) (tw : IsTurn n w) (th : IsTurn n h) (g : GoodT rs n w h) : GoodT rs n (cnj n p w) (cnj n p h) := by
  refine ⟨cnj_one n1 tp tw th g.1, fun k r c hr hc => ?_⟩
  have := cnj_bad (r := r) tp tw th (bw_lt tp hc)
  rw [fw_bw tp hc] at this
  rw [this]
  exact g.2 k r _ hr (bw_lt tp hc)
def prsOf (ws hs : List (List Nat)) : List (List Nat × List Nat) := ws.flatMap fun w => hs.map fun h => (w, h)
noncomputable def fndT (rs : List Rl) (n : Nat) (l : List (List Nat × List Nat)) : Option (List Nat × List Nat) := l.find? fun q => dcd (GoodT rs n q.1 q.2)
def repsF (n : Nat) : List (List Nat) → List (List Nat) → List (List Nat)
  | [], _ => []
  | t :: r, seen => if keyC n t ∈ seen then repsF n r seen else t :: repsF n r (seen ++ [keyC n t])
def repsL (n : Nat) : List (List Nat) := repsF n (turnsL n) []
noncomputable def fstT (rs : List Rl) (n : Nat) : Option (List Nat × List Nat) := fndT rs n (prsOf (turnsL n) (turnsL n))
theorem fnd_cons (rs : List Rl) (n : Nat) (w : List Nat) (ws hs : List (List Nat)) : fndT rs n (prsOf (w :: ws) hs) = (fndT rs n (hs.map fun h => (w, h))).or (fndT rs n (prsOf ws hs)) := by
  unfold fndT prsOf
  rw [List.flatMap_cons, List.find?_append]
theorem fnd_none {rs : List Rl} {n : Nat} {l : List (List Nat × List Nat)} : fndT rs n l = none ↔ ∀ q ∈ l, ¬ GoodT rs n q.1 q.2 := by
  unfold fndT
  rw [List.find?_eq_none]
  constructor
  · intro z q hq g; exact z q hq (dcd_true g)
  · intro z q hq g; exact z q hq (dcd_iff.mp g)
theorem fnd_reps {rs : List Rl} {n : Nat} (n1 : 1 ≤ n) (n4 : n ≤ 4) : ∀ (ws seen : List (List Nat)), (∀ w ∈ ws, IsTurn n w) → (∀ w h, IsTurn n w → IsTurn n h → keyC n w ∈ seen → ¬ GoodT rs n w h) → fndT rs n (prsOf (repsF n ws seen) (turnsL n)) = fndT rs n (prsOf ws (turnsL n))
  | [], _, _, _ => rfl
  | t :: r, seen, hw, hs => by
    have tt := hw t List.mem_cons_self
    have hw' : ∀ w ∈ r, IsTurn n w := fun w z => hw w (List.mem_cons_of_mem _ z)
    unfold repsF
    rw [fnd_cons rs n t r]
    by_cases q : keyC n t ∈ seen
    · rw [if_pos q, fnd_reps n1 n4 r seen hw' hs]
      have : fndT rs n ((turnsL n).map fun h => (t, h)) = none := fnd_none.mpr fun x hx => by
        obtain ⟨h, hh, rfl⟩ := List.mem_map.mp hx
        exact hs t h tt (mem_turnsL.mp hh) q
      rw [this]; rfl
    · rw [if_neg q, fnd_cons]
      cases e : fndT rs n ((turnsL n).map fun h => (t, h)) with
      | some x => rfl
      | none =>
        show fndT rs n (prsOf (repsF n r (seen ++ [keyC n t])) (turnsL n)) = fndT rs n (prsOf r (turnsL n))
        refine fnd_reps n1 n4 r _ hw' fun w h tw th hk g => ?_
        rcases List.mem_append.mp hk with z | z
        · exact hs w h tw th z g
        · obtain ⟨p, tp, ep⟩ := same_key n1 n4 tw tt (List.mem_singleton.mp z)
          have g2 := cnj_good n1 tp tw th g
          rw [ep] at g2
          exact fnd_none.mp e (t, cnj n p h) (List.mem_map.mpr ⟨_, mem_turnsL.mpr (cnj_turn tp th), rfl⟩) g2
theorem fst_reps {rs : List Rl} {n : Nat} (n1 : 1 ≤ n) (n4 : n ≤ 4) : fndT rs n (prsOf (repsL n) (turnsL n)) = fstT rs n :=
  fnd_reps n1 n4 _ _ (fun w hw => mem_turnsL.mp hw) fun w h _ _ z => by cases z
theorem repsF_sub {n : Nat} : ∀ (ws seen : List (List Nat)) (t : List Nat), t ∈ repsF n ws seen → t ∈ ws
  | [], _, _, h => by cases h
  | x :: r, seen, t, h => by
    unfold repsF at h
    split at h
    · exact List.mem_cons_of_mem _ (repsF_sub r seen t h)
    · rcases List.mem_cons.mp h with rfl | h
      · exact List.mem_cons_self
      · exact List.mem_cons_of_mem _ (repsF_sub r _ t h)
theorem fnd_some {rs : List Rl} {n : Nat} {l : List (List Nat × List Nat)} {q : List Nat × List Nat} (e : fndT rs n l = some q) : q ∈ l ∧ GoodT rs n q.1 q.2 := by
  unfold fndT at e
  exact ⟨List.mem_of_find?_eq_some e, dcd_iff.mp (List.find?_some (p := fun (q : List Nat × List Nat) => dcd (GoodT rs n q.1 q.2)) e)⟩
theorem fst_some {rs : List Rl} {n : Nat} {q : List Nat × List Nat} (e : fstT rs n = some q) : IsTurn n q.1 ∧ IsTurn n q.2 ∧ GoodT rs n q.1 q.2 := by
  obtain ⟨m, g⟩ := fnd_some e
  unfold prsOf at m
  obtain ⟨w, hw, z⟩ := List.mem_flatMap.mp m
  obtain ⟨h, hh, rfl⟩ := List.mem_map.mp z
  exact ⟨mem_turnsL.mp hw, mem_turnsL.mp hh, g⟩
/-- the first of up to so many classes -/
noncomputable def upT (rs : List Rl) : Nat → Option (Nat × List Nat × List Nat)
  | 0 => none
  | k + 1 => (upT rs k).or ((fstT rs (k + 1)).map fun q => (k + 1, q))


--CUT
/-! all_turns, ring_lengths -/
def spAllTurns : Sp := fun vs H Q E => ∃ n : Nat, vs = [nat n] ∧ 1 ≤ n ∧ n ≤ 4 ∧ ∀ D ps H', H D = none → Same H H' → H' D = some (.lst (ps.map V.ref)) → LsAt H' ps ((turnsL n).map intL) → Q (.ref D) H'
def spRings (C : Addr) (e : Ad) : Sp := fun vs H Q E => ∃ (t : Addr) (n : Nat) (w : List Nat), vs = [.ref t] ∧ H t = some (.lst (natL w)) ∧ IsTurn n w ∧ 1 ≤ n ∧ n ≤ 8 ∧ ∀ T H', H T = none → Same H H' → H' T = some (.tup (natL (sortN ((partsL w w n).map List.length)))) → Q (.ref T) H'
theorem turnsK_ne {n : Nat} : ∀ k, k ≤ n → turnsK n k ≠ []
  | k, hk => fun e => by
    have : List.range k ∈ turnsK n k := (mem_turnsK k _).mpr ⟨List.length_range, List.nodup_range, fun c hc => Nat.lt_of_lt_of_le (List.mem_range.mp hc) hk⟩
    rw [e] at this; cases this
theorem tk_small : ∀ n k, n ≤ 4 → k ≤ 4 → (turnsK n k).length ≤ 24 := by
  intro n k hn hk
  rcases n with _ | _ | _ | _ | _ | n
  all_goals first
    | omega
    | (rcases k with _ | _ | _ | _ | _ | k
       all_goals first
         | omega
         | decide +kernel)
theorem inV_nat (f : Nat) (l : List Nat) : inV (nat f) (natL l) = decide (f ∈ l) := by
  rw [Bool.eq_iff_iff, decide_eq_true_iff]
  unfold inV natL
  rw [List.any_map, List.any_eq_true]
  constructor
  · rintro ⟨x, hx, e⟩
    have e : ((x : Int) == (f : Int)) = true := e
    have : x = f := by have := eq_of_beq e; omega
    rw [← this]; exact hx
  · intro h
    exact ⟨f, h, by show ((f : Int) == (f : Int)) = true; exact beq_self_eq_true _⟩
theorem ls_more {H : Hp} {ps qs : List Addr} {xss yss : List (List Int)} (h : LsAt H ps xss) (g : LsAt H qs yss) : LsAt H (ps ++ qs) (xss ++ yss) := by
  refine ⟨by rw [List.length_append, List.length_append, h.len, g.len], fun i p xs a b => ?_⟩
  by_cases c : i < ps.length
  · rw [List.getElem?_append_left c] at a
    rw [List.getElem?_append_left (by rw [← h.len]; exact c)] at b
    exact h.at_ i p xs a b
  · rw [List.getElem?_append_right (by omega)] at a
    rw [List.getElem?_append_right (by rw [← h.len]; omega), ← h.len] at b
    exact g.at_ _ p xs a b
section
variable {fv : List (Str × Nat)} {σ : St} {tc : TTB} {te : TEB}
/-- new lists, one for each number that passes -/
theorem comp_news {n : Nat} {H1 : Hp} {Q : VK} (p : Nat → Bool) (g : Nat → List Int) (hn : n ≤ sizeLine)
    (ct : ∀ (i : Nat) (H' : Hp) (R : Bool → Hp → Prop), i < n → Same H1 H' → R (p i) H' → ∀ s₀ H₀ ex, tc s₀ H₀ ex (blkS fv σ (some (nat i))) H' R)
    (el : ∀ (i : Nat) (H' : Hp) (R : VK), i < n → Same H1 H' → (∀ D H2, H' D = none → Same H' H2 → H2 D = some (.lst ((g i).map V.int)) → R (.ref D) H2) → ∀ s₀ H₀ ex, te s₀ H₀ ex (blkS fv σ (some (nat i))) H' R)
    (fin : ∀ D qs H2, H1 D = none → Same H1 H2 → H2 D = some (.lst (qs.map V.ref)) → LsAt H2 qs (((List.range n).filter p).map g) → (∀ q ∈ qs, q ≠ D ∧ H1 q = none) → Q (.ref D) H2) : tCompF fv tc te σ (Itr 0 n) H1 Q := by
  intro D hD
  have sd : ∀ {H2 : Hp} {o : HO}, Same H1 H2 → Same H1 (upd H2 D o) := fun {H2 o} s b u e => by
    rw [upd_ne (ne_of_none e hD)]; exact s b u e
  refine ⟨fun i m ys G => ∃ qs : List Addr, m = n - i ∧ i ≤ n ∧ ys = qs.map V.ref ∧ Same H1 G ∧ G D = some (.lst ys) ∧ LsAt G qs (((List.range i).filter p).map g) ∧ ∀ q ∈ qs, q ≠ D ∧ H1 q = none, ⟨n, [], by simp, Nat.zero_le _, rfl, sd (Same.refl H1), upd_same, ⟨rfl, fun i p xs z => (by cases z)⟩, fun q z => (by cases z)⟩, ?_⟩
  rintro i m ys G ⟨qs, rfl, hi, rfl, sm, hDi, ls, nq⟩
  refine ⟨hDi, ?_⟩
  by_cases hlt : i < n
  · have ql : qs.length ≤ i := by
      rw [ls.len, List.length_map]
      exact Nat.le_trans (List.length_filter_le _ _) (by rw [List.length_range]; exact Nat.le_refl _)
    refine .inr ⟨hlt, by rw [List.length_map]; omega, fun x H' y => ?_⟩
    obtain ⟨e, y⟩ := y
    subst H' y
    rw [Int.zero_add]
    intro s₀ H₀ ex
    refine ct i _ _ hlt sm ?_ s₀ H₀ ex
    cases q : p i with
    | false =>
      refine ⟨n - (i + 1), by omega, qs, rfl, hlt, rfl, sm, hDi, ?_, nq⟩
      rw [List.range_succ, List.filter_append, List.filter_cons_of_neg (by rw [q]; decide), List.filter_nil, List.append_nil]
      exact ls
    | true =>
      refine el i G _ hlt sm (fun D' H2 hD' s2 g2 => ?_) s₀ H₀ ex
      have nD : D' ≠ D := fun z => by rw [z, hDi] at hD'; cases hD'
      refine ⟨s2 D _ hDi, n - (i + 1), by omega, qs ++ [D'], rfl, hlt, by rw [List.map_append]; rfl, sd (sm.trans s2), upd_same, ?_, fun r hr => ?_⟩
      · rw [List.range_succ, List.filter_append, List.filter_cons_of_pos q, List.filter_nil, List.map_append]
        refine ls_snoc (ls_keep ls fun r hr o ho => ?_) ?_
        · rw [upd_ne (nq r hr).1]; exact s2 _ _ ho
        · rw [upd_ne nD]; exact g2
      · rcases List.mem_append.mp hr with z | z
        · exact nq r z
        · rw [List.mem_singleton.mp z]; exact ⟨nD, sm.free hD'⟩
  · have e : i = n := by omega
    subst e
    exact .inl ⟨Nat.le_refl _, fin D qs G hD sm hDi ls nq⟩
end
section
variable {P : Program} {w : World} {K : PySem.W.Frag} {mg : Str → Option Value} {base : Heap} {CX : CXT} {C : Addr} {e : Ad}
theorem sc_allturns : FnScope ["many", "turns", "longer", "turn"] ["many"] (defScope (top 31)) := ⟨rfl, rfl, rfl, by decide +kernel, rfl, by decide +kernel, by decide +kernel⟩
theorem ok_allturns {f : Addr} {fd : FuncData} (F : Fun K "all_turns" "all_turns" (top 31) f fd) (T : Txt K mg C e) : FnOk P w K mg base CX 1 f fd ["many"] spAllTurns := by
  refine F.okN sc_allturns (fun vs H Q E h => ?_) (fun cdv A outer s H vs Q E hr h => ?_)
  · obtain ⟨n, rfl, _⟩ := h; rfl
  · obtain ⟨n, rfl, n1, n4, k⟩ := h
    have nd := sc_allturns.nd
    have big : 4000 ≤ sizeLine := by decide
    refine ⟨_, (pss_cons (ps_set (i := 1) nd rfl (Or.inl rfl) (pe_lst (pa_cons (pe_lst pa_nil) pa_nil)))
      (pss_cons (ps_while PassesOwn.never (pt_cmpR op_lt (pe_callB call_len_seq rfl T.z_len PySem.boot_len (pa_cons (pe_ix ix_list (pv 1) pe_int (fun _ _ => rfl)) pa_nil)) (pv 0) (nomark _)) (pss_cons (ps_set (i := 2) nd rfl (Or.inl rfl) (pe_lst pa_nil))
      (pss_cons (ps_for PassesOwn.never rfl (pi_list (pv 1)) (pg_name (i := 3) nd rfl (Or.inr rfl)) (pss_one (ps_expr (pe_bm PySem.F.plainAttrs_list PySem.F.slot_list_extend PySem.F.type_list_extend mt_extend (pv 2) (pa_cons (pe_compF (fv := [("turn", 3)]) ⟨rfl, by decide +kernel, rfl, by decide +kernel, rfl, by decide +kernel, ⟨⟨rfl, Or.inl rfl, Or.inl rfl, rfl⟩, trivial⟩, rfl, rfl⟩ rfl (pi_range1 rfl T.z_range (pa_cons (pv 0) pa_nil)) (fun _ _ _ => (pe_op op_cat (pv 1) (pe_lst (pa_cons (pv 0) pa_nil)))) (fun _ _ _ => (pt_cmpR op_notIn_seq (pv 0) (pv 1) (by with_unfolding_all rfl)))) pa_nil)))))
      (pss_one (ps_set (i := 1) nd rfl (Or.inl rfl) (pv 2))))))
      (pss_one (ps_ret (pv 1))))), ?_⟩
    refine ⟨by decide, fun l0 hl0 => ?_⟩
    have s0 := same_new (o := .lst []) hl0
    have g0 : (upd H l0 (.lst [])) l0 = some (.lst (([] : List Int).map V.int)) := upd_same
    generalize upd H l0 (.lst []) = H0 at s0 g0
    refine ⟨one_fits, fun Dr0 hDr0 => ?_⟩
    have s1 := s0.trans (same_new (o := .lst [.ref l0]) hDr0)
    have gr0 : (upd H0 Dr0 (.lst [.ref l0])) Dr0 = some (.lst ([l0].map V.ref)) := upd_same
    have g1 : (upd H0 Dr0 (.lst [.ref l0])) l0 = some (.lst (([] : List Int).map V.int)) := by rw [upd_ne (ne_of_none g0 hDr0)]; exact g0
    have fr0 : H Dr0 = none := s0.free hDr0
    generalize upd H0 Dr0 (.lst [.ref l0]) = H1 at s1 gr0 g1
    walk_at "ns"
    refine ⟨fun m σ G => ∃ (j : Nat) (ps : List Addr) (Dr : Addr) (o2 o3 : Option V), m = n - j ∧ j ≤ n ∧ σ = [some (nat n), some (.ref Dr), o2, o3] ∧ Same H G ∧ H Dr = none ∧ G Dr = some (.lst (ps.map V.ref)) ∧ LsAt G ps ((turnsK n j).map intL), ⟨_, 0, [l0], Dr0, none, none, rfl, Nat.zero_le _, rfl, s1, fr0, gr0, rfl, fun i p xs a b => ?_⟩, ?_⟩
    · rcases i with _ | i
      · cases Option.some.inj a
        cases Option.some.inj b
        exact g1
      · cases a
    rintro m σ G ⟨j, ps, Dr, o2, o3, rfl, hj, rfl, sG, fr, gr, ls⟩
    have pl : ps.length = (turnsK n j).length := by rw [ls.len, List.length_map]
    obtain ⟨t0, r0, et⟩ := List.exists_cons_of_ne_nil (turnsK_ne j hj)
    have t0l : t0.length = j := ((mem_turnsK j t0).mp (by rw [et]; exact List.mem_cons_self)).1
    obtain ⟨p0, pr0, ep⟩ : ∃ p r, ps = p :: r := List.exists_cons_of_ne_nil (fun z => by rw [z, et] at pl; cases pl)
    have gp0 : G p0 = some (.lst ((intL t0).map V.int)) := ls.at_ 0 p0 _ (by rw [ep]; rfl) (by rw [et]; rfl)
    have at0 : atI (ps.map V.ref) 0 = some (.ref p0) := atI_nat (j := 0) (by rw [ep]; rfl)
    refine ⟨_, rfl, Dr, _, 0, _, rfl, rfl, SqL.of gr, at0, p0, _, rfl, .inl (SqL.of gp0), _, rfl, _, _, rfl, rfl, _, rfl, ?_⟩
    rw [List.length_map, intL_len, t0l]
    refine iteD2 (fun hlt => ?_) (fun hge => ?_)
    · have hlt : j < n := by omega
      refine ⟨fun σ' G' => ∃ m', m' < n - j ∧ ∃ (j : Nat) (ps : List Addr) (Dr : Addr) (o2 o3 : Option V), m' = n - j ∧ j ≤ n ∧ σ' = [some (nat n), some (.ref Dr), o2, o3] ∧ Same H G' ∧ H Dr = none ∧ G' Dr = some (.lst (ps.map V.ref)) ∧ LsAt G' ps ((turnsK n j).map intL), fun σ' G' h => h, ?_⟩
      refine ⟨by decide, fun Dl hDl => ?_⟩
      have s2 := same_new (o := .lst []) hDl
      have gl0 : (upd G Dl (.lst [])) Dl = some (.lst (([] : List Addr).map V.ref)) := upd_same
      generalize upd G Dl (.lst []) = G1 at s2 gl0
      have hDlH : H Dl = none := sG.free hDl
      have small := tk_small n (j + 1) n4 (by omega)
      walk_at "ns"
      refine ⟨_, rfl, Dr, rfl, ⟨_, SqL.of (s2 _ _ gr)⟩, for_list (xs := ps.map V.ref) (fun i σ G' => ∃ (qs : List Addr) (o3 : Option V), σ = [some (nat n), some (.ref Dr), some (.ref Dl), o3] ∧ (∀ c o, G c = some o → G' c = some o) ∧ G' Dl = some (.lst (qs.map V.ref)) ∧ LsAt G' qs ((((turnsK n j).take i).flatMap fun t => ((List.range n).filter fun c => decide (c ∉ t)).map fun c => t ++ [c]).map intL) ∧ ∀ q ∈ qs, q ≠ Dl) ⟨[], _, rfl, fun c o h => s2 _ _ h, gl0, ⟨rfl, fun i p xs z => (by cases z)⟩, fun q z => (by cases z)⟩ (fun m σ G' _ ⟨_, _, _, kp, _⟩ => SqL.of (kp _ _ gr)) ?_ ?_⟩
      · rintro i v σ G' hi ⟨qs, o3', rfl, kp, gl, lq, nq⟩
        rw [List.getElem?_map] at hi
        obtain ⟨p, hp, rfl⟩ := Option.map_eq_some_iff.mp hi
        have li : i < (turnsK n j).length := by rw [← pl]; exact (List.getElem?_eq_some_iff.mp hp).1
        have hrow : (turnsK n j)[i]? = some (turnsK n j)[i] := List.getElem?_eq_getElem li
        generalize (turnsK n j)[i] = row at hrow
        have gp : G p = some (.lst (natL row)) := by rw [natL_intL]; exact ls.at_ i p _ hp (by rw [List.getElem?_map, hrow]; rfl)
        have rl : row.length = j := ((mem_turnsK j row).mp (List.mem_of_getElem? hrow)).1
        have gp' := kp _ _ gp
        walk_at "ns"
        refine ⟨_, rfl, .inl ⟨rfl, _, SqL.of gl⟩, _, rfl, _, rfl, by omega, by omega, ?_⟩
        rw [Int.toNat_natCast]
        refine comp_news (fun c => decide (c ∉ row)) (fun c => intL (row ++ [c])) (by omega) (fun c H' R hc sm kk _ _ _ => ?_) (fun c H' R hc sm kk _ _ _ => ?_) fun D3 q3 G3 hD3 s3 g3 l3 n3 => ?_
        · refine ⟨_, rfl, _, rfl, p, _, rfl, .inl (SqL.of (sm _ _ gp')), rfl, natL_flat _, _, rfl, ?_⟩
          show R (!inV (nat c) (natL row)) H'
          rw [inV_nat, ← decide_not]
          exact kk
        · refine ⟨_, rfl, _, rfl, one_fits, fun l1 h1 => ?_⟩
          have q1 := same_new (o := .lst [nat c]) h1
          have gl1 : (upd H' l1 (.lst [nat c])) l1 = some (.lst [nat c]) := upd_same
          generalize upd H' l1 (.lst [nat c]) = H2 at q1 gl1
          refine ⟨p, l1, _, _, rfl, rfl, (sm.trans q1) _ _ gp', gl1, by rw [natL_len]; show row.length + 1 ≤ sizeLine; omega, fun l2 h2 => ?_⟩
          refine kk l2 _ (q1.free h2) (q1.trans (same_new h2)) ?_
          rw [upd_same, natL_intL]
          unfold intL
          rw [List.map_append, List.map_append]
          rfl
        have gl3 := s3 _ _ gl
        have nD3 : D3 ≠ Dl := fun z => by rw [z, gl] at hD3; cases hD3
        have tl : ((((turnsK n j).take (i + 1)).flatMap fun t => ((List.range n).filter fun c => decide (c ∉ t)).map fun c => t ++ [c])) = (((turnsK n j).take i).flatMap fun t => ((List.range n).filter fun c => decide (c ∉ t)).map fun c => t ++ [c]) ++ ((List.range n).filter fun c => decide (c ∉ row)).map fun c => row ++ [c] := by
          rw [List.take_add_one, hrow, List.flatMap_append]
          simp
        refine ⟨Dl, D3, _, _, rfl, rfl, gl3, g3, ?_, ?_⟩
        · have e1 := lq.len
          have e2 := l3.len
          rw [List.length_map] at e1 e2
          have e3 : (((List.range n).filter fun c => decide (c ∉ row)).length) ≤ n := Nat.le_trans (List.length_filter_le _ _) (by rw [List.length_range]; exact Nat.le_refl _)
          have e4 : ∀ l : List (List Nat), (l.flatMap fun t => ((List.range n).filter fun c => decide (c ∉ t)).map fun c => t ++ [c]).length ≤ l.length * n := fun l => by
            induction l with
            | nil => simp
            | cons t l ih =>
              rw [List.flatMap_cons, List.length_append, List.length_map, List.length_cons, Nat.succ_mul]
              have : (((List.range n).filter fun c => decide (c ∉ t)).length) ≤ n := Nat.le_trans (List.length_filter_le _ _) (by rw [List.length_range]; exact Nat.le_refl _)
              omega
          have e5 := e4 ((turnsK n j).take i)
          have e6 := tk_small n j n4 (by omega)
          have e7 : ((turnsK n j).take i).length ≤ 24 := by rw [List.length_take]; omega
          have e8 : ((turnsK n j).take i).length * n ≤ 24 * 4 := Nat.mul_le_mul e7 n4
          rw [List.length_map, List.length_map]
          omega
        rw [← List.map_append]
        refine ⟨qs ++ q3, _, rfl, fun a o ha => ?_, upd_same, ?_, fun q hq => ?_⟩
        · rw [upd_ne (fun z => by rw [z, hDl] at ha; cases ha)]; exact s3 _ _ (kp _ _ ha)
        · rw [tl, show ∀ a b : List (List Nat), (a ++ b).map intL = a.map intL ++ b.map intL from fun a b => List.map_append, List.map_map]
          refine ls_keep (ls_more (lq.same s3) l3) fun q hq o ho => ?_
          rw [upd_ne ?_]
          · exact ho
          · rcases List.mem_append.mp hq with z | z
            · exact nq q z
            · intro e
              have := (n3 q z).2
              rw [e, gl] at this; cases this
        · rcases List.mem_append.mp hq with z | z
          · exact nq q z
          · intro e
            have := (n3 q z).2
            rw [e, gl] at this; cases this
      · rintro σ G' ⟨qs, o3', rfl, kp, gl, lq, nq⟩
        rw [List.length_map, pl, List.take_length] at lq
        walk_at "ns"
        refine ⟨_, rfl, _, ?_, j + 1, qs, Dl, _, _, rfl, hlt, rfl, fun c o hc => kp _ _ (sG _ _ hc), hDlH, gl, lq⟩
        omega
    · have ej : j = n := by omega
      subst ej
      exact ⟨_, rfl, k Dr ps G fr sG gr ls⟩
end


--CUT
section
variable {P : Program} {w : World} {K : PySem.W.Frag} {mg : Str → Option Value} {base : Heap} {CX : CXT} {C : Addr} {e : Ad}
theorem sc_rings : FnScope ["turn", "rings"] ["turn"] (defScope (top 32)) := ⟨rfl, rfl, rfl, by decide +kernel, rfl, by decide +kernel, by decide +kernel⟩
theorem ok_rings {f : Addr} {fd : FuncData} (F : Fun K "ring_lengths" "ring_lengths" (top 32) f fd) (T : Txt K mg C e) (D_Table : CDef P w K mg base (CXR P w) "Table" C 2 ["self", "wives", "heirs"] (spInitX C e)) (D_parts : Def P w K mg base (CXR P w) "parts" 4 ["table"] (spParts C e)) : FnOk P w K mg base (CXR P w) 5 f fd ["turn"] (spRings C e) := by
  refine F.okX sc_rings (fun vs H Q E h => ?_) (fun cdv A outer s H vs Q E hr hx h => ?_)
  · obtain ⟨t, n, w, rfl, _⟩ := h; rfl
  · obtain ⟨t, n, w', rfl, gt, tw, n1, n8, k⟩ := h
    have nd := sc_rings.nd
    have big : 4000 ≤ sizeLine := by decide
    have D_Table := D_Table.imp (initN (e := e))
    refine ⟨_, (pss_cons (ps_set (i := 1) nd rfl (Or.inl rfl) (pe_callX D_parts hx.s hr rfl (pa_cons (pe_makeX D_Table hx.s hr rfl (pa_cons (pv 0) (pa_cons (pv 0) pa_nil))) pa_nil)))
      (pss_one (ps_ret (pe_callTy call_tuple_of rfl T.z_tuple bt_tuple (pa_cons (pe_callB call_sorted rfl T.z_sorted bt_sorted (pa_cons (pe_comp (fv := []) ⟨rfl, by decide +kernel, rfl, by decide +kernel, rfl, by decide +kernel, trivial, rfl, rfl⟩ rfl (pi_list (pv 1)) (fun _ _ _ => (pe_callB call_len_seq rfl T.z_len PySem.boot_len (pa_cons (pv 0) pa_nil)))) pa_nil)) pa_nil))))), ?_⟩
    refine ⟨_, rfl, _, rfl, ?_⟩
    intro x dx nx ndx nex
    have sx : Same H (upd (upd H dx (.own x)) x (.ins C dx [])) := same_upd (same_new ndx) nx
    refine ⟨x, dx, t, t, w', w', n, rfl, upd_same, sx _ _ gt, sx _ _ gt, tw, tw, n1, n8, fun H3 kp TA => ⟨rfl, ?_⟩⟩
    have s3 : Same H H3 := fun b o e => kp b o (sx b o e) (ne_of_none e nx)
    refine ⟨x, n, w', w', rfl, TA, fun D ps H4 hD fps s4 gD ls => ?_⟩
    have pl : ps.length = (partsL w' w' n).length := by rw [ls.len, List.length_map]
    have pn : (partsL w' w' n).length ≤ n := by
      unfold partsL firstsL
      rw [List.length_map]
      exact Nat.le_trans (List.length_filter_le _ _) (by rw [List.length_range]; exact Nat.le_refl _)
    walk_at "ns"
    refine ⟨_, rfl, D, rfl, ⟨_, SqL.of gD⟩, ?_⟩
    refine comp_list (fun j => match (partsL w' w' n)[j]? with
      | some q => nat q.length
      | none => .non) (SqL.of gD) (by rw [List.length_map]; omega) (fun j v H' R hj sm kk _ _ _ => ?_) fun D5 H5 hD5 s5 g5 => ?_
    · rw [List.getElem?_map] at hj
      obtain ⟨p, hp, rfl⟩ := Option.map_eq_some_iff.mp hj
      have lj : j < (partsL w' w' n).length := by rw [← pl]; exact (List.getElem?_eq_some_iff.mp hp).1
      have hq : (partsL w' w' n)[j]? = some (partsL w' w' n)[j] := List.getElem?_eq_getElem lj
      generalize (partsL w' w' n)[j] = q at hq
      have gp : H' p = some (.lst ((intL q).map V.int)) := (ls.same sm).at_ j p _ hp (by rw [List.getElem?_map, hq]; rfl)
      rw [hq] at kk
      refine ⟨_, rfl, p, _, rfl, .inl (SqL.of gp), ?_⟩
      rw [List.length_map, intL_len]
      exact kk _ (Same.refl _)
    have eg : (List.range (ps.map V.ref).length).map (fun j => match (partsL w' w' n)[j]? with
      | some q => nat q.length
      | none => V.non) = (intL ((partsL w' w' n).map List.length)).map V.int := by
      rw [List.length_map, pl]
      unfold intL
      rw [List.map_map, List.map_map]
      refine List.ext_getElem (by simp) fun i h1 h2 => ?_
      simp at h2
      simp [List.getElem?_eq_getElem h2]
    rw [eg] at g5
    refine ⟨D5, _, rfl, SqL.of g5, by rw [intL_len, List.length_map]; omega, fun D6 ns hD6 hp hs => ?_⟩
    obtain rfl : ns = intL (sortN ((partsL w' w' n).map List.length)) := sorted_unique (hp.trans ((sortN_perm _).symm.map _)) hs (by
      unfold intL
      rw [List.pairwise_map]
      exact (sortN_rise _).imp fun {a b} z => by omega)
    have s6 := same_new (o := .lst ((intL (sortN ((partsL w' w' n).map List.length))).map V.int)) hD6
    have g6 : (upd H5 D6 (.lst ((intL (sortN ((partsL w' w' n).map List.length))).map V.int))) D6 = some (.lst ((intL (sortN ((partsL w' w' n).map List.length))).map V.int)) := upd_same
    generalize upd H5 D6 (.lst ((intL (sortN ((partsL w' w' n).map List.length))).map V.int)) = H6 at s6 g6
    have s06 := s3.trans (s4.trans (s5.trans s6))
    refine ⟨D6, _, rfl, .inl ⟨SqL.of g6, fun TT hT => ?_⟩⟩
    exact k TT _ (s06.free hT) (s06.trans (same_new hT)) (by rw [upd_same, natL_intL])
end
def kkey (k : List Nat) : List Key := k.map fun (x : Nat) => Sum.inl (x : Int)
theorem repsF_cons (n : Nat) (t : List Nat) (r seen : List (List Nat)) : repsF n (t :: r) seen = if keyC n t ∈ seen then repsF n r seen else t :: repsF n r (seen ++ [keyC n t]) := rfl
theorem kkey_kV (k : List Nat) : (kkey k).map kV = natL k := by unfold kkey natL; rw [List.map_map]; rfl
theorem kkey_inj {a b : List Nat} (h : kkey a = kkey b) : a = b := by
  have := congrArg (List.map fun (x : Key) => match x with | .inl i => i.toNat | .inr _ => 0) h
  unfold kkey at this
  rw [List.map_map, List.map_map] at this
  have e : ((fun (x : Key) => match x with | .inl i => i.toNat | .inr _ => 0) ∘ fun (x : Nat) => (Sum.inl (x : Int) : Key)) = id := rfl
  rw [e, List.map_id, List.map_id] at this
  exact this
def spTry (C : Addr) (e : Ad) : Sp := fun vs H Q E => ∃ (D : Addr) (ps : List Addr) (n : Nat) (ts : List (List Nat)), vs = [.ref D] ∧ H D = some (.lst (ps.map V.ref)) ∧ LsAt H ps (ts.map intL) ∧ (∀ t ∈ ts, IsTurn n t) ∧ 1 ≤ n ∧ n ≤ 8 ∧ ts.length ≤ 1000 ∧
  ∀ D' qs H', H D' = none → Same H H' → H' D' = some (.lst (qs.map V.ref)) → LsAt H' qs ((repsF n ts []).map intL) → Q (.ref D') H'
section
variable {P : Program} {w : World} {K : PySem.W.Frag} {mg : Str → Option Value} {base : Heap} {CX : CXT} {C : Addr} {e : Ad}
theorem sc_try : FnScope ["turns", "tried", "answer", "turn", "lengths"] ["turns"] (defScope (top 33)) := ⟨rfl, rfl, rfl, by decide +kernel, rfl, by decide +kernel, by decide +kernel⟩
theorem ok_try {f : Addr} {fd : FuncData} (F : Fun K "wives_to_try" "wives_to_try" (top 33) f fd) (T : Txt K mg C e) (D_ring_lengths : Def P w K mg base (CXR P w) "ring_lengths" 5 ["turn"] (spRings C e)) : FnOk P w K mg base (CXR P w) 6 f fd ["turns"] (spTry C e) := by
  refine F.okX sc_try (fun vs H Q E h => ?_) (fun cdv A outer s H vs Q E hr hx h => ?_)
  · obtain ⟨D, ps, n, ts, rfl, _⟩ := h; rfl
  · obtain ⟨D, ps, n, ts, rfl, gD, ls, tt, n1, n8, l1000, k⟩ := h
    have nd := sc_try.nd
    have big : 4000 ≤ sizeLine := by decide
    have pl : ps.length = ts.length := by rw [ls.len, List.length_map]
    refine ⟨_, (pss_cons (ps_set (i := 1) nd rfl (Or.inl rfl) pe_dnewT)
      (pss_cons (ps_set (i := 2) nd rfl (Or.inl rfl) (pe_lst pa_nil))
      (pss_cons (ps_for PassesOwn.leaving rfl (pi_list (pv 0)) (pg_name (i := 3) nd rfl (Or.inl rfl)) (pss_cons (ps_set (i := 4) nd rfl (Or.inl rfl) (pe_callX D_ring_lengths hx.s hr rfl (pa_cons (pv 3) pa_nil)))
      (pss_one (ps_if (pt_cmp (pc_dnotin (hu_of hr) (pv 4) (pv 1))) (pss_cons (ps_dput (hu_of hr) (pv 1) (pv 4) pe_bl rfl)
      (pss_one (ps_expr (pe_bm PySem.F.plainAttrs_list PySem.F.slot_list_append PySem.F.type_list_append mt_append (pv 2) (pa_cons (pv 3) pa_nil))))) pss_nil))))
      (pss_one (ps_ret (pv 2)))))), ?_⟩
    intro Dd hDd
    have s1 := same_new (o := .dT []) hDd
    have gd0 : (upd H Dd (.dT [])) Dd = some (.dT []) := upd_same
    generalize upd H Dd (.dT []) = H1 at s1 gd0
    walk_at "ns"
    refine ⟨by decide, fun Da hDa => ?_⟩
    have s2 := same_new (o := .lst []) hDa
    have ga0 : (upd H1 Da (.lst [])) Da = some (.lst (([] : List Addr).map V.ref)) := upd_same
    generalize upd H1 Da (.lst []) = H2 at s2 ga0
    have s12 := s1.trans s2
    have hDaH : H Da = none := s1.free hDa
    have nad : Da ≠ Dd := fun z => by rw [z, gd0] at hDa; cases hDa
    walk_at "ns"
    refine ⟨_, rfl, D, rfl, ⟨_, SqL.of (s12 _ _ gD)⟩, for_list (xs := ps.map V.ref) (fun i σ G => ∃ (seen don : List (List Nat)) (kvs : List (List Key × V)) (qs : List Addr) (o3 o4 : Option V), σ = [some (.ref D), some (.ref Dd), some (.ref Da), o3, o4] ∧ Same H G ∧ G Dd = some (.dT kvs) ∧ kvs.length ≤ i ∧ (∀ key, (valV kvs (kkey key)).isSome = true ↔ key ∈ seen) ∧ G Da = some (.lst (qs.map V.ref)) ∧ qs.length ≤ i ∧ LsAt G qs (don.map intL) ∧ (∀ q ∈ qs, q ∈ ps) ∧ repsF n ts [] = don ++ repsF n (ts.drop i) seen) ⟨[], [], [], [], none, none, rfl, s12, s2 _ _ gd0, Nat.le_refl _, fun key => ⟨fun z => (by cases z), fun z => (by cases z)⟩, ga0, Nat.le_refl _, ⟨rfl, fun i p xs z => (by cases z)⟩, fun q z => (by cases z), rfl⟩ (fun m σ G _ ⟨_, _, _, _, _, _, _, sG, _⟩ => SqL.of (sG _ _ gD)) ?_ ?_⟩
    · rintro i v σ G hi ⟨seen, don, kvs, qs, o3, o4, rfl, sG, gd, kl, mk, ga, ql, lq, sub, eq⟩
      rw [List.getElem?_map] at hi
      obtain ⟨p, hp, rfl⟩ := Option.map_eq_some_iff.mp hi
      have li : i < ts.length := by rw [← pl]; exact (List.getElem?_eq_some_iff.mp hp).1
      have ht : ts[i]? = some ts[i] := List.getElem?_eq_getElem li
      have hdr : ts.drop i = ts[i] :: ts.drop (i + 1) := List.drop_eq_getElem_cons li
      generalize ts[i] = t at ht hdr
      have it := tt t (List.mem_of_getElem? ht)
      have gp : H p = some (.lst (natL t)) := by rw [natL_intL]; exact ls.at_ i p _ hp (by rw [List.getElem?_map, ht]; rfl)
      rw [hdr, repsF_cons] at eq
      walk_at "ns"
      refine ⟨_, rfl, p, n, t, rfl, sG _ _ gp, it, n1, n8, fun TT G1 hTT s3 gT => ?_⟩
      rw [key_eq it] at gT
      have gd1 := s3 _ _ gd
      have ga1 := s3 _ _ ga
      walk_at "ns"
      refine ⟨_, rfl, _, rfl, Dd, _, rfl, DGet.t (k := kkey (keyC n t)) gd1 (by rw [kkey_kV]; exact gT), _, rfl, ?_⟩
      by_cases q : keyC n t ∈ seen
      · rw [if_pos q] at eq
        rw [(mk _).mpr q]
        refine iteF ⟨seen, don, kvs, qs, _, _, rfl, sG.trans s3, gd1, Nat.le_succ_of_le kl, mk, ga1, Nat.le_succ_of_le ql, lq.same s3, sub, eq⟩
      · rw [if_neg q] at eq
        have nn : (valV kvs (kkey (keyC n t))).isSome = false := by
          cases z : (valV kvs (kkey (keyC n t))).isSome with
          | false => rfl
          | true => exact absurd ((mk _).mp z) q
        rw [nn]
        refine iteT ?_
        refine ⟨_, rfl, _, rfl, Dd, _, rfl, DPut.t (k := kkey (keyC n t)) gd1 (by rw [kkey_kV]; exact gT) (by omega), ?_⟩
        have ga2 : (upd G1 Dd (.dT (putK kvs (kkey (keyC n t)) (V.bl true)))) Da = some (.lst (qs.map V.ref)) := by rw [upd_ne nad]; exact ga1
        refine ⟨_, rfl, .inl ⟨rfl, _, SqL.of ga2⟩, _, rfl, Da, _, _, rfl, rfl, ga2, by rw [List.length_map]; omega, ?_⟩
        have s4 : Same H (upd (upd G1 Dd (.dT (putK kvs (kkey (keyC n t)) (V.bl true)))) Da (.lst (qs.map V.ref ++ [V.ref p]))) := same_upd (same_upd (sG.trans s3) hDd) hDaH
        refine ⟨seen ++ [keyC n t], don ++ [t], _, qs ++ [p], _, _, rfl, s4, by rw [upd_ne (Ne.symm nad)]; exact upd_same, ?_, fun key => ?_, by rw [upd_same, List.map_append]; rfl, by rw [List.length_append]; exact Nat.succ_le_succ ql, ?_, fun r hr => ?_, by rw [eq, List.append_assoc]; rfl⟩
        · have := length_putK kvs (kkey (keyC n t)) (V.bl true)
          omega
        · rw [valV_put]
          by_cases z : key = keyC n t
          · subst z
            rw [if_pos rfl]
            exact ⟨fun _ => List.mem_append_right _ (List.mem_singleton.mpr rfl), fun _ => rfl⟩
          · rw [if_neg (fun y => z (kkey_inj y)), mk key, List.mem_append]
            exact ⟨.inl, fun y => y.elim id fun y => absurd (List.mem_singleton.mp y) z⟩
        · rw [List.map_append]
          have inH : ∀ r ∈ ps, ∃ o, H r = some o := fun r hr => by
            obtain ⟨j, hj⟩ := List.getElem?_of_mem hr
            have lj : j < (ts.map intL).length := by rw [← ls.len]; exact (List.getElem?_eq_some_iff.mp hj).1
            exact ⟨_, ls.at_ j r _ hj (List.getElem?_eq_getElem lj)⟩
          have ne : ∀ r ∈ ps, r ≠ Da ∧ r ≠ Dd := fun r hr => by
            obtain ⟨o, ho⟩ := inH r hr
            exact ⟨fun z => (by rw [z, hDaH] at ho; cases ho), fun z => (by rw [z, hDd] at ho; cases ho)⟩
          refine ls_snoc (ls_keep lq fun r hr o ho => ?_) ?_
          · rw [upd_ne (ne r (sub r hr)).1, upd_ne (ne r (sub r hr)).2]; exact s3 _ _ ho
          · have := s4 _ _ gp
            rw [natL_intL] at this
            exact this
        · rcases List.mem_append.mp hr with z | z
          · exact sub r z
          · rw [List.mem_singleton.mp z]; exact List.mem_of_getElem? hp
    · rintro σ G ⟨seen, don, kvs, qs, o3, o4, rfl, sG, gd, kl, mk, ga, ql, lq, sub, eq⟩
      rw [List.length_map, pl, List.drop_length] at eq
      have e2 : repsF n [] seen = [] := rfl
      rw [e2, List.append_nil] at eq
      exact ⟨_, rfl, k Da qs G hDaH sG ga (by rw [eq]; exact lq)⟩
end


--CUT
/-! first_of_size, first_table -/
def spOfSize (C : Addr) (e : Ad) : Sp := fun vs H Q E => ∃ (r : Addr) (ps : List Addr) (rs : List Rl) (n : Nat), vs = [.ref r, nat n] ∧ H r = some (.lst (ps.map V.ref)) ∧ RfAt H ps rs ∧ Okay rs ∧ AllGood rs ∧ 1 ≤ n ∧ n ≤ 4 ∧
  (fstT rs n = none → ∀ H', Same H H' → Q .non H') ∧ (∀ w h, fstT rs n = some (w, h) → ∀ x H', H x = none → Same H H' → TableAt C H' x n w h → Q (.ref x) H')
def spFirstTable (C : Addr) (e : Ad) : Sp := fun vs H Q E => ∃ (r : Addr) (ps : List Addr) (rs : List Rl) (m : Nat), vs = [.ref r, nat m] ∧ H r = some (.lst (ps.map V.ref)) ∧ RfAt H ps rs ∧ Okay rs ∧ AllGood rs ∧ m ≤ 4 ∧
  (upT rs m = none → ∀ H', Same H H' → Q .non H') ∧ (∀ n w h, upT rs m = some (n, w, h) → ∀ x H', H x = none → Same H H' → TableAt C H' x n w h → Q (.ref x) H')
theorem refuse_not {rs : List Rl} {b : Bool} (h : Refuse rs b) : ¬ AllGood rs := fun g => by
  obtain ⟨i, r, hr, _, o⟩ := h
  have gr := g r (List.mem_of_getElem? hr)
  rcases o with ⟨_, z⟩ | ⟨_, _, z⟩
  · exact z gr.1
  · rw [gr.2] at z; cases z
open PySem.Spec PyProof.Rows in
theorem call_min2 {X : Cx} (hc : X.calm = true) : CallR X (.builtin "min") (fun xs H Q => ∃ i j : Int, xs = [.int i, .int j] ∧ Q (.int (if j < i then j else i)) H) := by
  intro pins s σ H xs us Q I r h
  obtain ⟨i, j, rfl, q⟩ := h
  obtain ⟨u, v, rfl, ⟨t1, rfl⟩, ⟨t2, rfl⟩⟩ := vals2 r
  refine min_two_ints (I.ok.hd hc) fun h' tk hk => ?_
  by_cases z : j < i
  · rw [if_pos z] at q ⊢
    exact ⟨.int j, H, I.kept (t' := tk) hk, ⟨_, rfl⟩, q⟩
  · rw [if_neg z] at q ⊢
    exact ⟨.int i, H, I.kept (t' := tk) hk, ⟨_, rfl⟩, q⟩
theorem fnd_app {rs : List Rl} {n : Nat} {l l' : List (List Nat × List Nat)} : fndT rs n (l ++ l') = (fndT rs n l).or (fndT rs n l') := by
  unfold fndT
  rw [List.find?_append]
theorem prs_app {ws ws' hs : List (List Nat)} : prsOf (ws ++ ws') hs = prsOf ws hs ++ prsOf ws' hs := by
  unfold prsOf
  rw [List.flatMap_append]
theorem prs_one {t : List Nat} {hs : List (List Nat)} : prsOf [t] hs = hs.map fun h => (t, h) := by
  unfold prsOf
  simp
theorem fnd_hit {rs : List Rl} {n : Nat} {q : List Nat × List Nat} {l : List (List Nat × List Nat)} (g : GoodT rs n q.1 q.2) : fndT rs n (q :: l) = some q := by
  unfold fndT
  rw [List.find?_cons, dcd_true g]
theorem fnd_miss {rs : List Rl} {n : Nat} {q : List Nat × List Nat} (g : ¬ GoodT rs n q.1 q.2) : fndT rs n [q] = none := by
  unfold fndT
  rw [List.find?_cons, dcd_false g]
  rfl
section
variable {P : Program} {w : World} {K : PySem.W.Frag} {mg : Str → Option Value} {base : Heap} {CX : CXT} {C : Addr} {e : Ad}
theorem sc_ofsize : FnScope ["rules", "many", "turns", "wives", "heirs", "table"] ["rules", "many"] (defScope (top 34)) := ⟨rfl, rfl, rfl, by decide +kernel, rfl, by decide +kernel, by decide +kernel⟩
theorem ok_ofsize {f : Addr} {fd : FuncData} (F : Fun K "first_of_size" "first_of_size" (top 34) f fd) (T : Txt K mg C e) (D_all_turns : Def P w K mg base (CXR P w) "all_turns" 1 ["many"] spAllTurns) (D_wives_to_try : Def P w K mg base (CXR P w) "wives_to_try" 6 ["turns"] (spTry C e)) (D_Table : CDef P w K mg base (CXR P w) "Table" C 2 ["self", "wives", "heirs"] (spInitX C e)) (D_parts : Def P w K mg base (CXR P w) "parts" 4 ["table"] (spParts C e)) (D_first_breach : Def P w K mg base (CXR P w) "first_breach" 7 ["table", "rules"] (spFirstBreach C)) : FnOk P w K mg base (CXR P w) 8 f fd ["rules", "many"] (spOfSize C e) := by
  refine F.okX sc_ofsize (fun vs H Q E h => ?_) (fun cdv A outer s H vs Q E hr hx h => ?_)
  · obtain ⟨r, ps, rs, n, rfl, _⟩ := h; rfl
  · obtain ⟨r, rp, rs, n, rfl, gr, rf, ok, ag, n1, n4, kN, kT⟩ := h
    have nd := sc_ofsize.nd
    have n8 : n ≤ 8 := by omega
    have D_Table := D_Table.imp (initN (e := e))
    refine ⟨_, (pss_cons (ps_set (i := 2) nd rfl (Or.inl rfl) (pe_callX D_all_turns hx.s hr rfl (pa_cons (pv 1) pa_nil)))
      (pss_cons (ps_for PassesOwn.leaving rfl (pi_list (pe_callX D_wives_to_try hx.s hr rfl (pa_cons (pv 2) pa_nil))) (pg_name (i := 3) nd rfl (Or.inl rfl)) (pss_one (ps_for PassesOwn.leaving rfl (pi_list (pv 2)) (pg_name (i := 4) nd rfl (Or.inl rfl)) (pss_cons (ps_set (i := 5) nd rfl (Or.inl rfl) (pe_makeX D_Table hx.s hr rfl (pa_cons (pv 3) (pa_cons (pv 4) pa_nil))))
      (pss_one (ps_if (PW.pt (pw_and (pt_cmpR op_eq (pe_callB call_len_seq rfl T.z_len PySem.boot_len (pa_cons (pe_callX D_parts hx.s hr rfl (pa_cons (pv 5) pa_nil)) pa_nil)) pe_int (nomark _)) (pw_and1 (pt_cmpR op_isN (pe_callX D_first_breach hx.s hr rfl (pa_cons (pv 5) (pa_cons (pv 0) pa_nil))) pe_non (nomark _))))) (pss_one (ps_ret (pv 5))) pss_nil))))))
      (pss_one (ps_ret pe_non)))), ?_⟩
    refine ⟨_, rfl, n, rfl, n1, n4, fun D ps H1 hD s1 gD ls => ?_⟩
    have tt : ∀ t ∈ turnsL n, IsTurn n t := fun t ht => mem_turnsL.mp ht
    have small := tk_small n n n4 n4
    have pl : ps.length = (turnsL n).length := by rw [ls.len, List.length_map]
    walk_at "ns"
    refine ⟨_, rfl, D, ps, n, turnsL n, rfl, gD, ls, tt, n1, n8, by unfold turnsL; omega, fun D' qs H2 hD' s2 gD' lq => ?_⟩
    have s12 := s1.trans s2
    have ql : qs.length = (repsL n).length := by rw [lq.len, List.length_map]; rfl
    have fin : fndT rs n (prsOf (repsL n) (turnsL n)) = fstT rs n := fst_reps n1 n4
    refine ⟨D', rfl, ⟨_, SqL.of gD'⟩, for_list (xs := qs.map V.ref) (fun i σ G => ∃ (o3 o4 o5 : Option V), σ = [some (.ref r), some (nat n), some (.ref D), o3, o4, o5] ∧ Same H2 G ∧ fndT rs n (prsOf ((repsL n).take i) (turnsL n)) = none) ⟨none, none, none, rfl, Same.refl _, rfl⟩ (fun m σ G _ ⟨_, _, _, _, sG, _⟩ => SqL.of (sG _ _ gD')) ?_ ?_⟩
    · rintro i v σ G hi ⟨o3, o4, o5, rfl, sG, none_i⟩
      rw [List.getElem?_map] at hi
      obtain ⟨q, hq, rfl⟩ := Option.map_eq_some_iff.mp hi
      have li : i < (repsL n).length := by rw [← ql]; exact (List.getElem?_eq_some_iff.mp hq).1
      have ht : (repsL n)[i]? = some (repsL n)[i] := List.getElem?_eq_getElem li
      have hsp : repsL n = (repsL n).take i ++ (repsL n)[i] :: (repsL n).drop (i + 1) := by rw [← List.drop_eq_getElem_cons li, List.take_append_drop]
      generalize (repsL n)[i] = wv at ht hsp
      have tw : IsTurn n wv := tt _ (repsF_sub _ _ _ (List.mem_of_getElem? ht))
      have gq : H2 q = some (.lst (natL wv)) := by rw [natL_intL]; exact lq.at_ i q _ hq (by rw [List.getElem?_map]; unfold repsL at ht; rw [ht]; rfl)
      walk_at "ns"
      refine ⟨_, rfl, D, rfl, ⟨_, SqL.of (sG _ _ (s2 _ _ gD))⟩, for_list (xs := ps.map V.ref) (fun j σ G' => ∃ (o4 o5 : Option V), σ = [some (.ref r), some (nat n), some (.ref D), some (.ref q), o4, o5] ∧ Same H2 G' ∧ fndT rs n (((turnsL n).take j).map fun h => (wv, h)) = none) ⟨_, _, rfl, sG, rfl⟩ (fun m σ G' _ ⟨_, _, _, sG', _⟩ => SqL.of (sG' _ _ (s2 _ _ gD))) ?_ ?_⟩
      · rintro j v σ G' hj ⟨o4', o5', rfl, sG', none_j⟩
        rw [List.getElem?_map] at hj
        obtain ⟨p, hp, rfl⟩ := Option.map_eq_some_iff.mp hj
        have lj : j < (turnsL n).length := by rw [← pl]; exact (List.getElem?_eq_some_iff.mp hp).1
        have hh : (turnsL n)[j]? = some (turnsL n)[j] := List.getElem?_eq_getElem lj
        have hsj : turnsL n = (turnsL n).take j ++ (turnsL n)[j] :: (turnsL n).drop (j + 1) := by rw [← List.drop_eq_getElem_cons lj, List.take_append_drop]
        generalize (turnsL n)[j] = hv at hh hsj
        have th : IsTurn n hv := tt _ (List.mem_of_getElem? hh)
        have gp : H2 p = some (.lst (natL hv)) := by rw [natL_intL]; exact s2 _ _ (ls.at_ j p _ hp (by rw [List.getElem?_map, hh]; rfl))
        have hit : GoodT rs n wv hv → fstT rs n = some (wv, hv) := fun g => by
          rw [← fin, hsp, prs_app, fnd_app, none_i]
          show fndT rs n (prsOf (wv :: _) (turnsL n)) = _
          rw [show wv :: (repsL n).drop (i + 1) = [wv] ++ (repsL n).drop (i + 1) from rfl, prs_app, fnd_app, prs_one]
          have : fndT rs n ((turnsL n).map fun h => (wv, h)) = some (wv, hv) := by
            rw [hsj, List.map_append, fnd_app]
            rw [none_j]
            exact fnd_hit g
          rw [this]
          rfl
        have nxt : ¬ GoodT rs n wv hv → fndT rs n (((turnsL n).take (j + 1)).map fun h => (wv, h)) = none := fun g => by
          rw [List.take_add_one, hh, List.map_append, fnd_app, none_j]
          exact fnd_miss (q := (wv, hv)) g
        walk_at "ns"
        refine ⟨_, rfl, _, rfl, ?_⟩
        intro x dx nx ndx nex
        have sx : Same G' (upd (upd G' dx (.own x)) x (.ins C dx [])) := same_upd (same_new ndx) nx
        refine ⟨x, dx, q, p, wv, hv, n, rfl, upd_same, sx _ _ (sG' _ _ gq), sx _ _ (sG' _ _ gp), tw, th, n1, n8, fun G3 kp TA => ⟨rfl, ?_⟩⟩
        have s3 : Same G' G3 := fun b o e => kp b o (sx b o e) (ne_of_none e nx)
        clear kp sx
        walk_at "ns"
        refine ⟨_, rfl, x, n, wv, hv, rfl, TA, fun D4 as G4 hD4 fa s4 g4 l4 => ?_⟩
        have al : as.length = (partsL wv hv n).length := by rw [l4.len, List.length_map]
        refine ⟨D4, _, rfl, .inl (SqL.of g4), rfl, _, rfl, ?_⟩
        rw [List.length_map, al]
        have s24 := sG'.trans (s3.trans s4)
        refine iteD2 (fun o1 => ?_) (fun no => ?_)
        · have one : OneP n wv hv := (one_firsts n1 tw th).mp (by have := V.int.inj o1; omega)
          refine ⟨_, rfl, _, rfl, x, r, n, wv, hv, rp, rs, rfl, TA.same s4, (s12.trans s24) _ _ gr, rf.same (s12.trans s24), ok, ag, fun nb G5 s5 => ?_, fun k c fb t G5 ht5 s5 gt5 => ?_⟩
          · refine ⟨rfl, _, rfl, iteT ?_⟩
            exact ⟨_, rfl, kT wv hv (hit ⟨one, nb⟩) x G5 ((s12.trans sG').free nx) (s12.trans (s24.trans s5)) (TA.same (s4.trans s5))⟩
          · refine ⟨rfl, _, rfl, iteF ?_⟩
            exact ⟨_, _, rfl, s24.trans s5, nxt fun g => fb.not g.2⟩
        · exact iteF ⟨_, _, rfl, s24, nxt fun g => no (congrArg V.int (by rw [(one_firsts n1 tw th).mpr g.1]; rfl))⟩
      · rintro σ G' ⟨o4', o5', rfl, sG', none_j⟩
        rw [List.length_map, pl, List.take_length] at none_j
        refine ⟨_, _, _, rfl, sG', ?_⟩
        rw [List.take_add_one, ht, prs_app, fnd_app, none_i]
        show fndT rs n (prsOf [wv] (turnsL n)) = none
        rw [prs_one]
        exact none_j
    · rintro σ G ⟨o3, o4, o5, rfl, sG, none_i⟩
      rw [List.length_map, ql, List.take_length, fin] at none_i
      exact kN none_i G (s12.trans sG)
theorem sc_firsttable : FnScope ["rules", "most", "many", "table"] ["rules", "most"] (defScope (top 35)) := ⟨rfl, rfl, rfl, by decide +kernel, rfl, by decide +kernel, by decide +kernel⟩
theorem ok_firsttable {f : Addr} {fd : FuncData} (F : Fun K "first_table" "first_table" (top 35) f fd) (T : Txt K mg C e) (D_check_rules : Def P w K mg base (CXR P w) "check_rules" 5 ["rules"] (spCheckRules e)) (D_first_of_size : Def P w K mg base (CXR P w) "first_of_size" 8 ["rules", "many"] (spOfSize C e)) : FnOk P w K mg base (CXR P w) 9 f fd ["rules", "most"] (spFirstTable C e) := by
  refine F.okX sc_firsttable (fun vs H Q E h => ?_) (fun cdv A outer s H vs Q E hr hx h => ?_)
  · obtain ⟨r, ps, rs, n, rfl, _⟩ := h; rfl
  · obtain ⟨r, rp, rs, m, rfl, gr, rf, ok, ag, m4, kN, kT⟩ := h
    have nd := sc_firsttable.nd
    refine ⟨_, (pss_cons (ps_expr (pe_callX D_check_rules hx.s hr rfl (pa_cons (pv 0) pa_nil)))
      (pss_cons (ps_for PassesOwn.leaving rfl (pi_range2 rfl T.z_range (pa_cons pe_int (pa_cons (pe_op op_add (pe_callB (call_min2 rfl) rfl T.z_min bt_min (pa_cons (pv 1) (pa_cons (pe_globE rfl T.g_MOST_CLASSES) pa_nil))) pe_int) pa_nil))) (pg_name (i := 2) nd rfl (Or.inl rfl)) (pss_cons (ps_set (i := 3) nd rfl (Or.inl rfl) (pe_callX D_first_of_size hx.s hr rfl (pa_cons (pv 0) (pa_cons (pv 2) pa_nil))))
      (pss_one (ps_if (pt_cmpR op_notN (pv 3) pe_non (nomark _)) (pss_one (ps_ret (pv 3))) pss_nil))))
      (pss_one (ps_ret pe_non)))), ?_⟩
    refine ⟨_, rfl, r, rp, rs, rfl, gr, rf, ok, fun _ => ?_, fun z => absurd ag (refuse_not z), fun z => absurd ag (refuse_not z)⟩
    refine ⟨_, rfl, _, _, rfl, _, _, rfl, rfl, _, _, rfl, ⟨by decide, by decide, ?_, ?_⟩, ?_⟩
    · split <;> omega
    · split <;> omega
    rw [if_neg (show ¬ (8 : Int) < (m : Int) by omega), show ((m : Int) + 1 - 1).toNat = m by omega]
    refine for_range (fun i σ G => ∃ (o2 o3 : Option V), σ = [some (.ref r), some (nat m), o2, o3] ∧ Same H G ∧ upT rs i = none) ⟨none, none, rfl, Same.refl _, rfl⟩ ?_ ?_
    · rintro i σ G hi ⟨o2, o3, rfl, sG, none_i⟩
      have eu : upT rs (i + 1) = (fstT rs (1 + i)).map fun q => (1 + i, q) := by
        show (upT rs i).or _ = _
        rw [none_i, Nat.add_comm i 1]
        rfl
      walk_at "ns"
      refine ⟨_, rfl, _, rfl, r, rp, rs, 1 + i, rfl, sG _ _ gr, rf.same sG, ok, ag, by omega, by omega, fun fn G1 s1 => ?_, fun w1 h1 fs x G1 hx1 s1 TA => ?_⟩
      · walk_at "ns"
        exact ⟨_, rfl, rfl, _, rfl, iteF ⟨_, _, rfl, sG.trans s1, by rw [eu, fn]; rfl⟩⟩
      · walk_at "ns"
        refine ⟨_, rfl, rfl, _, rfl, iteT ⟨_, rfl, ?_⟩⟩
        have up : ∀ j, i + 1 ≤ j → upT rs j = some (1 + i, w1, h1) := fun j hj => by
          induction j with
          | zero => omega
          | succ j ih =>
            rcases Nat.lt_or_ge i j with z | z
            · show (upT rs j).or _ = _
              rw [ih (by omega)]
              rfl
            · have : j = i := by omega
              subst this
              rw [eu, fs]
              rfl
        exact kT (1 + i) w1 h1 (up m hi) x G1 (sG.free hx1) (sG.trans s1) TA
    · rintro σ G ⟨o2, o3, rfl, sG, none_i⟩
      exact kN none_i G sG
end


--CUT
/-! `<=` of lists, min and max of bools -/
def leGo (e r : Nat → Bool) : List Nat → Bool
  | [] => true
  | j :: t => if e j = true then leGo e r t else r j
theorem leGo_map (e r : Nat → Bool) (f : Nat → Nat) : ∀ l, leGo e r (l.map f) = leGo (fun j => e (f j)) (fun j => r (f j)) l
  | [] => rfl
  | j :: t => by
    show (if e (f j) = true then leGo e r (t.map f) else r (f j)) = _
    rw [leGo_map e r f t]
    rfl
namespace Le
open PySem.Spec PyProof.Rows PySem.SeqAt PySem.MeetsSeq PySem.MeetsSeq2 PySem.MeetsSeq3
open PySem.AutoSeq1 (wpAny_loadPart')
def RcLeAt (A : Around) (s : Shared) (y x : Value) (b : Bool) : Prop :=
  ∀ (prog : Program) (w : World) (E : Value → Shared → Prop) (Q : Value → Shared → Prop), Q (.bool b) s → wpAny (model prog w) A (richCompare .LtE y x) Q E s
theorem le_loopAt (l b : Addr) (items items2 : Array Value) (n n2 : Nat) (dd dd2 : Option Addr) (sl sl2 : Array (Option Value)) (hsz : items.size = items2.size) (e r : Nat → Bool) (k : Nat) :
    ∀ i : Nat, items.size - i = k → Meets (Builtin.«list.__eq__.loop» ⟨[.ref l, .ref b, rawInt i, rawInt 1], []⟩)
      (fun A R s => s.heap.get? l = some { cls := .type "list", dict := dd, data := .seq items n, slots := sl } ∧ s.heap.get? b = some { cls := .type "list", dict := dd2, data := .seq items2 n2, slots := sl2 } ∧
        (∀ j (h1 : j < items.size) (h2 : j < items2.size), EqAt A.in1 s items[j] items2[j] (e j)) ∧ (∀ j (h1 : j < items.size) (h2 : j < items2.size), e j = false → RcLeAt A.in1 s items[j] items2[j] (r j)) ∧
        R (.ok (.ret (.bool (leGo e r ((List.range items.size).drop i))))) s) := by
  induction k with
  | zero =>
    intro i hk prog w A R s h
    obtain ⟨hp, g, d, tk, os⟩ := s; obtain ⟨hl, hb, he, hr, h⟩ := h
    wp_walk using wpAny_loadPart' hl, wpAny_loadPart' hb
    have hi1 : items[((i : Nat) : Int).toNat]? = none := by simp; omega
    have hi2 : items2[((i : Nat) : Int).toNat]? = none := by simp; omega
    have hd : (List.range items.size).drop i = [] := by simp; omega
    rw [hd] at h
    rw [hi1, hi2]
    wp_walk using wpAny_loadPart' hl, wpAny_loadPart' hb
    show R (.ok (.ret (.bool (decide (items.size ≤ items2.size))))) _
    rw [hsz]
    simpa [leGo] using h
  | succ k ih =>
    intro i hk prog w A R s h
    obtain ⟨hp, g, d, tk, os⟩ := s; obtain ⟨hl, hb, he, hr, h⟩ := h
    wp_walk using wpAny_loadPart' hl, wpAny_loadPart' hb
    have hlt : i < items.size := by omega
    have hlt2 : i < items2.size := by omega
    have hi1 : items[((i : Nat) : Int).toNat]? = some items[i] := by simp [hlt]
    have hi2 : items2[((i : Nat) : Int).toNat]? = some items2[i] := by simp [hlt2]
    have hd : (List.range items.size).drop i = i :: (List.range items.size).drop (i + 1) := by simp [List.drop_eq_getElem_cons, hlt]
    have hc : ((i : Int) + 1) = ((i + 1 : Nat) : Int) := by push_cast; rfl
    rw [hd] at h
    unfold leGo at h
    rw [hi1, hi2]
    refine wpAny_bind (he i hlt hlt2 prog w _ _ ?_)
    cases hb' : e i with
    | true =>
      rw [hb'] at h
      wp_walk
      rw [hc]
      exact ⟨plainId_quiet plain_eq_loop _, codeAny_builtin entry_eq_loop (by
        rw [Around.under_plainId plain_eq_loop _]
        exact ih (i + 1) (by omega) prog w A R _ ⟨hl, hb, he, hr, by simpa using h⟩)⟩
    | false =>
      have hri := hr i hlt hlt2 hb' prog w
      rw [hb'] at h
      wp_walk using wpAny_loadPart' hl, wpAny_loadPart' hb
      rw [hi1, hi2]
      wp_walk using hri
      simpa using h
theorem list_leAt (l b : Addr) (items items2 : Array Value) (n n2 : Nat) (dd dd2 : Option Addr) (sl sl2 : Array (Option Value)) (hsz : items.size = items2.size) (e r : Nat → Bool) :
    Meets (Builtin.«list.__le__» ⟨[.ref l, .ref b], []⟩)
      (fun A R s => s.heap.get? l = some { cls := .type "list", dict := dd, data := .seq items n, slots := sl } ∧ s.heap.get? b = some { cls := .type "list", dict := dd2, data := .seq items2 n2, slots := sl2 } ∧
        (∀ j (h1 : j < items.size) (h2 : j < items2.size), EqAt A.in1 s items[j] items2[j] (e j)) ∧ (∀ j (h1 : j < items.size) (h2 : j < items2.size), e j = false → RcLeAt A.in1 s items[j] items2[j] (r j)) ∧
        R (.ok (.ret (.bool (leGo e r (List.range items.size))))) s) := by
  intro prog w A R s h
  obtain ⟨hp, g, d, tk, os⟩ := s; obtain ⟨hl, hb, he, hr, h⟩ := h
  have f3 := AutoSeq1.sub_list_list
  wp_walk using wpAny_loadPart' hl, wpAny_loadPart' hb
  exact ⟨plainId_quiet plain_eq_loop _, codeAny_builtin entry_eq_loop (by
    rw [Around.under_plainId plain_eq_loop _]
    exact le_loopAt l b items items2 n n2 dd dd2 sl sl2 hsz e r _ 0 rfl prog w A R _ ⟨hl, hb, he, hr, by simpa using h⟩)⟩
theorem RcLeAt.lists {A : Around} {s : Shared} {l b : Addr} {items items2 : Array Value} {e r : Nat → Bool} (hl : s.heap.IsList l items) (hb : s.heap.IsList b items2) (hsz : items.size = items2.size) (hu : A.units < cLine)
    (he : ∀ j (h1 : j < items.size) (h2 : j < items2.size), EqAt A.in1 s items[j] items2[j] (e j)) (hr : ∀ j (h1 : j < items.size) (h2 : j < items2.size), e j = false → RcLeAt A.in1 s items[j] items2[j] (r j)) : RcLeAt A s (.ref l) (.ref b) (leGo e r (List.range items.size)) := fun prog w E Q h => by
  obtain ⟨⟨cls, dd, data, sl⟩, ho, hc, n, hd⟩ := id hl
  obtain ⟨⟨cls2, dd2, data2, sl2⟩, ho2, hc2, n2, hd2⟩ := id hb
  simp only at hc hd hc2 hd2
  subst hc hd hc2 hd2
  exact richCompare_meets_room (op := .LtE) ⟨_, ho, rfl⟩ ⟨_, ho2, rfl⟩ PySem.F.slot_list_le PySem.F.entry_list_le (PySem.F.args_list_le_2 _ _) (list_leAt l b items items2 n n2 dd dd2 sl sl2 hsz e r)
    ⟨ho, ho2, he, hr, show Value.bool (leGo e r (List.range items.size)) ≠ Value.notImplemented ∧ Q (.bool (leGo e r (List.range items.size))) s from ⟨(fun x => nomatch x), h⟩⟩ hu
theorem RcLeAt.ints {A : Around} {s : Shared} {i j : Int} {u v : Value} (r1 : RelV (.int i) u) (r2 : RelV (.int j) v) : RcLeAt A s u v (decide (i ≤ j)) := fun prog w E Q h => by
  obtain ⟨t1, rfl⟩ := r1
  obtain ⟨t2, rfl⟩ := r2
  exact (PyProof.Rows.le_int h : wpAny (model prog w) A (compareOp .LtE (.int i t1) (.int j t2)) Q E s)
end Le
def leI (x y : List Int) : Bool := leGo (fun j => decide (x[j]? = y[j]?)) (fun j => decide (x.getD j 0 ≤ y.getD j 0)) (List.range x.length)
def leII (xs ys : List (List Int)) : Bool := leGo (fun j => decide (xs[j]? = ys[j]?)) (fun j => leI (xs.getD j []) (ys.getD j [])) (List.range xs.length)
def rLeLL (K : PySem.W.Frag) : R2 := fun x y H Q => ∃ a b ps qs xss yss, x = .ref a ∧ y = .ref b ∧ SqL K H a (ps.map V.ref) ∧ SqL K H b (qs.map V.ref) ∧ LsAt H ps xss ∧ LsAt H qs yss ∧ xss.length = yss.length ∧ (∀ (i : Nat) x y, xss[i]? = some x → yss[i]? = some y → x.length = y.length) ∧ Q (.bl (leII xss yss)) H
section
variable {X : Cx}
open PySem.Spec PyProof.Rows
theorem ints_at {ns : List Int} {us : List Value} (r : Vals (ns.map V.int) us) {j : Nat} (h : j < us.toArray.size) : ∃ i, ns[j]? = some i ∧ RelV (.int i) us.toArray[j] := by
  have j1 : j < us.length := by simpa using h
  have l := r.length
  rw [List.length_map] at l
  have j0 : j < ns.length := by omega
  have e : (ns.map V.int)[j]? = some (.int ns[j]) := by rw [List.getElem?_map, List.getElem?_eq_getElem j0]; rfl
  obtain ⟨u, eu, ru⟩ := r.get e
  refine ⟨ns[j], List.getElem?_eq_getElem j0, ?_⟩
  have : us.toArray[j] = u := by
    have : us[j] = u := by rw [List.getElem?_eq_getElem j1] at eu; exact Option.some.inj eu
    simpa using this
  rw [this]
  exact ru
theorem eqAt_ints {A : Around} {s : Shared} {i j : Int} {u v : Value} (r1 : RelV (.int i) u) (r2 : RelV (.int j) v) : SeqAt.EqAt A s u v (decide (i = j)) := by
  obtain ⟨t1, rfl⟩ := r1
  obtain ⟨t2, rfl⟩ := r2
  have := SeqAt.EqAt.int_int (A := A) (s := s) i t1 j t2
  rwa [show (i == j) = decide (i = j) from rfl] at this
theorem op_leLL (hu1 : X.A.units + 1 < cLine) : OpR X (compareOp .LtE) (rLeLL X.K) := by
  intro pins s σ H x y v u Q I rx ry h
  obtain ⟨a, b, ps, qs, xss, yss, rfl, rfl, h1, h2, f1, f2, le, lel, q⟩ := h
  cases rx
  cases ry
  obtain ⟨us, r1, p1, _⟩ := I.list h1
  obtain ⟨ws, r2, p2, _⟩ := I.list h2
  have e1 := vals_refs r1
  have e2 := vals_refs r2
  subst e1 e2
  have hu : X.A.units < cLine := Nat.lt_of_succ_lt hu1
  have ll : ps.length = qs.length := by rw [f1.len, f2.len, le]
  have fin : ∀ j, j < ps.length → ∃ x y, xss[j]? = some x ∧ yss[j]? = some y ∧ H (ps.getD j 0) = some (.lst (x.map V.int)) ∧ H (qs.getD j 0) = some (.lst (y.map V.int)) ∧ x.length = y.length := fun j hj => by
    have j2 : j < qs.length := by omega
    have j3 : j < xss.length := by rw [← f1.len]; exact hj
    have j4 : j < yss.length := by rw [← f2.len]; exact j2
    refine ⟨xss[j], yss[j], List.getElem?_eq_getElem j3, List.getElem?_eq_getElem j4, f1.at_ j _ _ (by simp [hj]) (List.getElem?_eq_getElem j3), f2.at_ j _ _ (by simp [j2]) (List.getElem?_eq_getElem j4), lel j _ _ (List.getElem?_eq_getElem j3) (List.getElem?_eq_getElem j4)⟩
  have t1 : ∀ j (h : j < (ps.map Value.ref).toArray.size), (ps.map Value.ref).toArray[j] = Value.ref (ps.getD j 0) := fun j h => by
    have : j < ps.length := by simpa using h
    simp [this]
  have t2 : ∀ j (h : j < (qs.map Value.ref).toArray.size), (qs.map Value.ref).toArray[j] = Value.ref (qs.getD j 0) := fun j h => by
    have : j < qs.length := by simpa using h
    simp [this]
  have key := Le.RcLeAt.lists (A := X.A) (s := s) (e := fun j => decide (xss[j]? = yss[j]?)) (r := fun j => leI (xss.getD j []) (yss.getD j [])) p1.isList p2.isList (by simp [ll]) hu (fun j k1 k2 => ?_) (fun j k1 k2 ne => ?_)
  · rw [List.size_toArray, List.length_map, f1.len] at key
    exact key X.prog X.w _ _ ⟨.bl (leII xss yss), H, I, rfl, q⟩
  · have j1 : j < ps.length := by simpa using k1
    rw [t1 j k1, t2 j k2]
    obtain ⟨x, y, ex, ey, g1, g2, xl⟩ := fin j j1
    rw [ex, ey]
    obtain ⟨u1, v1, m1, _⟩ := I.list (SqL.of (K := X.K) g1)
    obtain ⟨u2, v2, m2, _⟩ := I.list (SqL.of (K := X.K) g2)
    have l1 := v1.length
    have l2 := v2.length
    rw [List.length_map] at l1 l2
    by_cases e : ps.getD j 0 = qs.getD j 0
    · rw [e] at g1 ⊢
      have : x.map V.int = y.map V.int := by
        have := g1.symm.trans g2
        injection this with this
        injection this
      have xy : x = y := by
        have := congrArg (List.map fun v : V => match v with | .int i => i | _ => 0) this
        rw [List.map_map, List.map_map] at this
        have ei : ((fun v : V => match v with | .int i => i | _ => 0) ∘ V.int) = id := rfl
        rw [ei, List.map_id, List.map_id] at this
        exact this
      rw [xy, decide_eq_true rfl]
      exact SeqAt.EqAt.same _
    · have rc := SeqAt.RcAt.lists (A := X.A.in1) (e := eAt (x.map V.int) (y.map V.int)) m1.isList m2.isList (by simp only [List.size_toArray] <;> omega) (by rw [Around.in1_units]; exact hu1) (fun i k1 k2 => eAt_at v1 v2 (by rw [List.all_map]; exact List.all_eq_true.mpr fun _ _ => rfl) (by rw [List.all_map]; exact List.all_eq_true.mpr fun _ _ => rfl) i k1 k2)
      rw [List.size_toArray, ← v1.length, eAt_all (by rw [List.length_map, List.length_map, xl]), eqVs_intL] at rc
      rw [show decide (some x = some y) = decide (x = y) from decide_eq_decide.mpr ⟨fun z => Option.some.inj z, fun z => by rw [z]⟩]
      exact SeqAt.EqAt.of_refs e rc
  · have j1 : j < ps.length := by simpa using k1
    rw [t1 j k1, t2 j k2]
    obtain ⟨x, y, ex, ey, g1, g2, xl⟩ := fin j j1
    have ex' : xss.getD j [] = x := by rw [List.getD_eq_getElem?_getD, ex]; rfl
    have ey' : yss.getD j [] = y := by rw [List.getD_eq_getElem?_getD, ey]; rfl
    show Le.RcLeAt X.A.in1 s _ _ (leI (xss.getD j []) (yss.getD j []))
    rw [ex', ey']
    obtain ⟨u1, v1, m1, _⟩ := I.list (SqL.of (K := X.K) g1)
    obtain ⟨u2, v2, m2, _⟩ := I.list (SqL.of (K := X.K) g2)
    have l1 := v1.length
    have l2 := v2.length
    rw [List.length_map] at l1 l2
    have rc := Le.RcLeAt.lists (A := X.A.in1) (s := s) (e := fun j => decide (x[j]? = y[j]?)) (r := fun j => decide (x.getD j 0 ≤ y.getD j 0)) m1.isList m2.isList (by simp only [List.size_toArray] <;> omega) (by rw [Around.in1_units]; exact hu1) (fun i k1 k2 => ?_) (fun i k1 k2 _ => ?_)
    · rw [List.size_toArray, ← l1] at rc
      exact rc
    · obtain ⟨a1, b1, c1⟩ := ints_at v1 k1
      obtain ⟨a2, b2, c2⟩ := ints_at v2 k2
      have := eqAt_ints (A := X.A.in1.in1) (s := s) c1 c2
      show SeqAt.EqAt _ _ _ _ (decide (x[i]? = y[i]?))
      rw [b1, b2, show decide (some a1 = some a2) = decide (a1 = a2) from decide_eq_decide.mpr ⟨fun z => Option.some.inj z, fun z => by rw [z]⟩]
      exact this
    · obtain ⟨a1, b1, c1⟩ := ints_at v1 k1
      obtain ⟨a2, b2, c2⟩ := ints_at v2 k2
      show Le.RcLeAt _ _ _ _ (decide (x.getD i 0 ≤ y.getD i 0))
      rw [List.getD_eq_getElem?_getD, List.getD_eq_getElem?_getD, b1, b2]
      exact Le.RcLeAt.ints c1 c2
/-! min and max of a list of bools -/
theorem cmp_lt_bools {prog : Program} {w : World} {A : Around} {P : Nat → Value → Prop} (val : Nat → Bool) (hval : ∀ i v, P i v → v = .bool (val i)) : CmpOf prog w A .Lt P (fun i j => decide (b2i (val i) < b2i (val j))) := fun i j vi vj s Q E hi hj h => by
  rw [hval i vi hi, hval j vj hj]
  exact (lt_bool h : wpAny (model prog w) A (compareOp .Lt (.bool (val i)) (.bool (val j))) Q E s)
theorem cmp_gt_bools {prog : Program} {w : World} {A : Around} {P : Nat → Value → Prop} (val : Nat → Bool) (hval : ∀ i v, P i v → v = .bool (val i)) : CmpOf prog w A .Gt P (fun i j => decide (b2i (val i) > b2i (val j))) := fun i j vi vj s Q E hi hj h => by
  rw [hval i vi hi, hval j vj hj]
  exact (gt_bool h : wpAny (model prog w) A (compareOp .Gt (.bool (val i)) (.bool (val j))) Q E s)
theorem argBest_min (v : Nat → Bool) : ∀ k, v (argBest (fun i j => decide (b2i (v i) < b2i (v j))) k) = (List.range (k + 1)).all v
  | 0 => by simp [argBest]
  | k + 1 => by
    have ih := argBest_min v k
    rw [List.range_succ, List.all_append]
    unfold argBest
    rw [← ih]
    generalize argBest (fun i j => decide (b2i (v i) < b2i (v j))) k = m
    cases h1 : v (k + 1) <;> cases h2 : v m <;> simp [b2i, h1, h2]
theorem argBest_max (v : Nat → Bool) : ∀ k, v (argBest (fun i j => decide (b2i (v i) > b2i (v j))) k) = (List.range (k + 1)).any v
  | 0 => by simp [argBest]
  | k + 1 => by
    have ih := argBest_max v k
    rw [List.range_succ, List.any_append]
    unfold argBest
    rw [← ih]
    generalize argBest (fun i j => decide (b2i (v i) > b2i (v j))) k = m
    cases h1 : v (k + 1) <;> cases h2 : v m <;> simp [b2i, h1, h2]
theorem vals_bools : ∀ {bs : List Bool} {us : List Value}, Vals (bs.map V.bl) us → us = bs.map Value.bool
  | [], [], _ => rfl
  | [], _ :: _, r => by cases r
  | _ :: _, [], r => by cases r
  | p :: ps, u :: us, r => by
    cases r with
    | cons r1 r2 => cases (show u = Value.bool p from r1); rw [vals_bools r2]; rfl
theorem iter_list' {prog : Program} {w : World} {A : Around} {E : Value → Shared → Prop} {s : Shared} {l : Addr} {items : Array Value} {Q : Value → Shared → Prop} (hl : s.heap.IsList l items)
    (h : ∀ s₂ : Shared, s₂ = { s with heap := s.heap.push { cls := .type "list_iterator", data := .fields #[.ref l, .int 0 0] } } →
      (s₂.heap.IsListIter s.heap.objs.size l 0 ∧ s₂.heap.IsList l items) → (∀ b ∈ [s.heap.objs.size, l], b < s₂.heap.objs.size) → l ≠ s.heap.objs.size → Q (.ref s.heap.objs.size) s₂) :
    wpAny (model prog w) A (pyIter (.ref l)) Q E s := by
  have hlt : l < s.heap.objs.size := by obtain ⟨_, e, _⟩ := hl; exact Heap.lt_size e
  refine wpAny_pyIter_list hl (h _ rfl ⟨⟨_, Heap.get?_push_size _ rfl, rfl, rfl⟩, hl.push _⟩ (fun b hb => ?_) (Nat.ne_of_lt hlt))
  show b < (s.heap.push _).objs.size
  rw [Heap.size_push]
  rcases List.mem_cons.mp hb with rfl | hb
  · exact Nat.lt_succ_self _
  · rcases List.mem_cons.mp hb with rfl | hb
    · exact Nat.lt_succ_of_lt hlt
    · cases hb
theorem bools_at {bs : List Bool} {i : Nat} {v : Value} (h : ((bs.map Value.bool).toArray)[i]? = some v) : v = .bool (bs.getD i false) := by
  have : (bs.map Value.bool)[i]? = some v := by simpa using h
  rw [List.getElem?_map] at this
  obtain ⟨b, hb, rfl⟩ := Option.map_eq_some_iff.mp this
  rw [List.getD_eq_getElem?_getD, hb]
  rfl
theorem all_getD (bs : List Bool) : (List.range bs.length).all (fun i => bs.getD i false) = bs.all id := by
  rw [Bool.eq_iff_iff, List.all_eq_true, List.all_eq_true]
  constructor
  · intro h b hb
    obtain ⟨i, hi, rfl⟩ := List.mem_iff_getElem.mp hb
    have := h i (List.mem_range.mpr hi)
    rwa [List.getD_eq_getElem?_getD, List.getElem?_eq_getElem hi] at this
  · intro h i hi
    have hi := List.mem_range.mp hi
    rw [List.getD_eq_getElem?_getD, List.getElem?_eq_getElem hi]
    exact h _ (List.getElem_mem hi)
theorem any_getD (bs : List Bool) : (List.range bs.length).any (fun i => bs.getD i false) = bs.any id := by
  rw [Bool.eq_iff_iff, List.any_eq_true, List.any_eq_true]
  constructor
  · rintro ⟨i, hi, h⟩
    have hi := List.mem_range.mp hi
    rw [List.getD_eq_getElem?_getD, List.getElem?_eq_getElem hi] at h
    exact ⟨_, List.getElem_mem hi, h⟩
  · rintro ⟨b, hb, h⟩
    obtain ⟨i, hi, rfl⟩ := List.mem_iff_getElem.mp hb
    refine ⟨i, List.mem_range.mpr hi, ?_⟩
    rw [List.getD_eq_getElem?_getD, List.getElem?_eq_getElem hi]
    exact h
theorem call_minB (hc : X.calm = true) : CallR X (.builtin "min") (fun xs H Q => ∃ (p : Addr) (bs : List Bool), xs = [.ref p] ∧ SqL X.K H p (bs.map V.bl) ∧ 0 < bs.length ∧ Q (.bl (bs.all id)) H) := by
  intro pins s σ H xs us Q I r h
  obtain ⟨p, bs, rfl, hq, hne, q⟩ := h
  obtain ⟨u, rfl, rx⟩ := vals1 r
  cases rx
  obtain ⟨its, r', pl, hz⟩ := I.list hq
  have e := vals_bools r'
  subst e
  refine call_min_walk (iter_list' pl.isList fun s₂ e st hfp hlI => ?_)
  subst e
  refine ⟨_, _, _, _, _, _, _, rfl, Walks.list (A := X.A.in1) (I.ok.hd hc) _ p hlI (bs.map Value.bool).toArray, st, hfp, by simpa using hne, cmp_lt_bools (fun i => bs.getD i false) (fun _ _ => bools_at), fun v h' tk hP hk => ?_⟩
  have hv := bools_at hP
  rw [argBest_min (fun i => bs.getD i false), show ((bs.map Value.bool).toArray.size - 1 + 1) = bs.length by simp; omega, all_getD bs] at hv
  exact ⟨.bl (bs.all id), H, I.kept (t' := tk) (old_kept hk), hv, q⟩
theorem call_maxB (hc : X.calm = true) : CallR X (.builtin "max") (fun xs H Q => ∃ (p : Addr) (bs : List Bool), xs = [.ref p] ∧ SqL X.K H p (bs.map V.bl) ∧ 0 < bs.length ∧ Q (.bl (bs.any id)) H) := by
  intro pins s σ H xs us Q I r h
  obtain ⟨p, bs, rfl, hq, hne, q⟩ := h
  obtain ⟨u, rfl, rx⟩ := vals1 r
  cases rx
  obtain ⟨its, r', pl, hz⟩ := I.list hq
  have e := vals_bools r'
  subst e
  refine call_max_walk (iter_list' pl.isList fun s₂ e st hfp hlI => ?_)
  subst e
  refine ⟨_, _, _, _, _, _, _, rfl, Walks.list (A := X.A.in1) (I.ok.hd hc) _ p hlI (bs.map Value.bool).toArray, st, hfp, by simpa using hne, cmp_gt_bools (fun i => bs.getD i false) (fun _ _ => bools_at), fun v h' tk hP hk => ?_⟩
  have hv := bools_at hP
  rw [argBest_max (fun i => bs.getD i false), show ((bs.map Value.bool).toArray.size - 1 + 1) = bs.length by simp; omega, any_getD bs] at hv
  exact ⟨.bl (bs.any id), H, I.kept (t' := tk) (old_kept hk), hv, q⟩
end


--CUT
/-! the law of the first table: its own helpers -/
def spTurns : Sp := fun vs H Q _ => ∃ n : Nat, vs = [nat n] ∧ n ≤ 4 ∧ ∀ D ps H', H D = none → Same H H' → H' D = some (.lst (ps.map V.ref)) → LsAt H' ps ((turnsL n).map intL) → Q (.ref D) H'
def spOneP : Sp := fun vs H Q _ => ∃ (a b : Addr) (n : Nat) (w h : List Nat), vs = [.ref a, .ref b] ∧ H a = some (.lst (natL w)) ∧ H b = some (.lst (natL h)) ∧ IsTurn n w ∧ IsTurn n h ∧ 1 ≤ n ∧ n ≤ 8 ∧ ∀ (x : Bool) H', Same H H' → (x = true ↔ OneP n w h) → Q (.bl x) H'
theorem natA_app (a b : List Nat) : natL a ++ natL b = natL (a ++ b) := by unfold natL; rw [List.map_append]
theorem natA_map {f : Nat → Nat} {r : List Nat} {g : Nat → V} (h : ∀ (j : Nat) y, r[j]? = some y → g j = nat (f y)) : (List.range r.length).map g = natL (r.map f) := by
  unfold natL
  rw [List.map_map]
  refine List.ext_getElem (by simp) fun i h1 h2 => ?_
  simp at h2
  simp [h i _ (List.getElem?_eq_getElem h2)]
theorem natA_flat (l : List Nat) : (natL l).all flatV = true := by rw [natL_intL]; exact intL_flat _
section
variable {P : Program} {w : World} {K : PySem.W.Frag} {mg : Str → Option Value} {base : Heap} {CX : CXT} {C : Addr} {e : Ad}
theorem sc_lturns : FnScope ["many", "rows", "k", "longer", "row", "c"] ["many"] (defScope (top 47)) := ⟨rfl, rfl, rfl, by decide +kernel, rfl, by decide +kernel, by decide +kernel⟩
theorem ok_lturns {f : Addr} {fd : FuncData} (F : Fun K "_law_turns" "_law_turns" (top 47) f fd) (T : Txt K mg C e) : FnOk P w K mg base CX 1 f fd ["many"] spTurns := by
  refine F.okN sc_lturns (fun vs H Q E h => ?_) (fun cdv A outer s H vs Q E hr h => ?_)
  · obtain ⟨n, rfl, _⟩ := h; rfl
  · obtain ⟨n, rfl, n4, k⟩ := h
    have nd := sc_lturns.nd
    have big : 4000 ≤ sizeLine := by decide
    refine ⟨_, (pss_cons (ps_set (i := 1) nd rfl (Or.inl rfl) (pe_lst (pa_cons (pe_lst pa_nil) pa_nil)))
      (pss_cons (ps_for PassesOwn.never rfl (pi_range1 rfl T.z_range (pa_cons (pv 0) pa_nil)) (pg_name (i := 2) nd rfl (Or.inl rfl)) (pss_cons (ps_set (i := 3) nd rfl (Or.inl rfl) (pe_lst pa_nil))
      (pss_cons (ps_for PassesOwn.never rfl (pi_list (pv 1)) (pg_name (i := 4) nd rfl (Or.inl rfl)) (pss_one (ps_for PassesOwn.never rfl (pi_range1 rfl T.z_range (pa_cons (pv 0) pa_nil)) (pg_name (i := 5) nd rfl (Or.inl rfl)) (pss_one (ps_if (pt_cmpR op_notIn_seq (pv 5) (pv 4) (by with_unfolding_all rfl)) (pss_one (ps_expr (pe_bm PySem.F.plainAttrs_list PySem.F.slot_list_append PySem.F.type_list_append mt_append (pv 3) (pa_cons (pe_op op_cat (pv 4) (pe_lst (pa_cons (pv 5) pa_nil))) pa_nil)))) pss_nil)))))
      (pss_one (ps_set (i := 1) nd rfl (Or.inl rfl) (pv 3))))))
      (pss_one (ps_ret (pv 1))))), ?_⟩
    refine ⟨by decide, fun l0 hl0 => ?_⟩
    have s0 := same_new (o := .lst []) hl0
    have g0 : (upd H l0 (.lst [])) l0 = some (.lst (([] : List Int).map V.int)) := upd_same
    generalize upd H l0 (.lst []) = H0 at s0 g0
    refine ⟨one_fits, fun Dr0 hDr0 => ?_⟩
    have s1 := s0.trans (same_new (o := .lst [.ref l0]) hDr0)
    have gr0 : (upd H0 Dr0 (.lst [.ref l0])) Dr0 = some (.lst ([l0].map V.ref)) := upd_same
    have g1 : (upd H0 Dr0 (.lst [.ref l0])) l0 = some (.lst (([] : List Int).map V.int)) := by rw [upd_ne (ne_of_none g0 hDr0)]; exact g0
    have fr0 : H Dr0 = none := s0.free hDr0
    generalize upd H0 Dr0 (.lst [.ref l0]) = H1 at s1 gr0 g1
    walk_at "ns"
    refine ⟨_, rfl, _, rfl, by omega, by omega, ?_⟩
    rw [Int.toNat_natCast]
    refine for_range0 (fun i σ G => ∃ (ps : List Addr) (Dr : Addr) (o3 o4 o5 o6 : Option V), σ = [some (nat n), some (.ref Dr), o3, o4, o5, o6] ∧ Same H G ∧ H Dr = none ∧ G Dr = some (.lst (ps.map V.ref)) ∧ LsAt G ps ((turnsK n i).map intL)) ⟨[l0], Dr0, none, none, none, none, rfl, s1, fr0, gr0, rfl, fun i p xs a b => ?_⟩ ?_ ?_
    · rcases i with _ | i
      · cases Option.some.inj a
        cases Option.some.inj b
        exact g1
      · cases a
    · rintro i σ G hi ⟨ps, Dr, o3, o4, o5, o6, rfl, sG, fr, gr, ls⟩
      have small := tk_small n i n4 (by omega)
      have pl : ps.length = (turnsK n i).length := by rw [ls.len, List.length_map]
      walk_at "ns"
      refine ⟨by decide, fun Dl hDl => ?_⟩
      have s2 := same_new (o := .lst []) hDl
      have gl0 : (upd G Dl (.lst [])) Dl = some (.lst (([] : List Addr).map V.ref)) := upd_same
      generalize upd G Dl (.lst []) = G1 at s2 gl0
      have hDlH : H Dl = none := sG.free hDl
      walk_at "ns"
      refine ⟨_, rfl, Dr, rfl, ⟨_, SqL.of (s2 _ _ gr)⟩, for_list (xs := ps.map V.ref) (fun j σ G' => ∃ (qs : List Addr) (o5 o6 : Option V), σ = [some (nat n), some (.ref Dr), some (nat i), some (.ref Dl), o5, o6] ∧ (∀ c o, G c = some o → G' c = some o) ∧ G' Dl = some (.lst (qs.map V.ref)) ∧ qs.length ≤ 4 * j ∧ LsAt G' qs ((((turnsK n i).take j).flatMap fun t => ((List.range n).filter fun c => decide (c ∉ t)).map fun c => t ++ [c]).map intL) ∧ ∀ q ∈ qs, q ≠ Dl) ⟨[], _, _, rfl, fun c o h => s2 _ _ h, gl0, Nat.zero_le _, ⟨rfl, fun i p xs z => (by cases z)⟩, fun q z => (by cases z)⟩ (fun m σ G' _ ⟨_, _, _, _, kp, _⟩ => SqL.of (kp _ _ gr)) ?_ ?_⟩
      · rintro j v σ G' hj ⟨qs, o5', o6', rfl, kp, gl, qlen, lq, nq⟩
        rw [List.getElem?_map] at hj
        obtain ⟨p, hp, rfl⟩ := Option.map_eq_some_iff.mp hj
        have lj : j < (turnsK n i).length := by rw [← pl]; exact (List.getElem?_eq_some_iff.mp hp).1
        have hrow : (turnsK n i)[j]? = some (turnsK n i)[j] := List.getElem?_eq_getElem lj
        generalize (turnsK n i)[j] = row at hrow
        have gp : G p = some (.lst (natL row)) := by rw [natL_intL]; exact ls.at_ j p _ hp (by rw [List.getElem?_map, hrow]; rfl)
        have rl : row.length = i := ((mem_turnsK i row).mp (List.mem_of_getElem? hrow)).1
        have tl : ((((turnsK n i).take (j + 1)).flatMap fun t => ((List.range n).filter fun c => decide (c ∉ t)).map fun c => t ++ [c])) = (((turnsK n i).take j).flatMap fun t => ((List.range n).filter fun c => decide (c ∉ t)).map fun c => t ++ [c]) ++ ((List.range n).filter fun c => decide (c ∉ row)).map fun c => row ++ [c] := by
          rw [List.take_add_one, hrow, List.flatMap_append]
          simp
        generalize ((((turnsK n i).take j).flatMap fun t => ((List.range n).filter fun c => decide (c ∉ t)).map fun c => t ++ [c])) = X at lq tl
        walk_at "ns"
        refine ⟨_, rfl, _, rfl, by omega, by omega, ?_⟩
        rw [Int.toNat_natCast]
        refine for_range0 (fun c σ G2 => ∃ (rs : List Addr) (o6 : Option V), σ = [some (nat n), some (.ref Dr), some (nat i), some (.ref Dl), some (.ref p), o6] ∧ (∀ c o, G c = some o → G2 c = some o) ∧ G2 Dl = some (.lst (rs.map V.ref)) ∧ rs.length ≤ 4 * j + c ∧ LsAt G2 rs ((X ++ ((List.range c).filter fun c => decide (c ∉ row)).map fun c => row ++ [c]).map intL) ∧ ∀ q ∈ rs, q ≠ Dl) ⟨qs, _, rfl, kp, gl, qlen, by rw [List.range_zero, List.filter_nil, List.map_nil, List.append_nil]; exact lq, nq⟩ ?_ ?_
        · rintro c σ G2 hc ⟨rs, o6'', rfl, kp2, gl2, rsl, lr, nr⟩
          walk_at "ns"
          refine ⟨_, rfl, _, rfl, p, _, rfl, .inl (SqL.of (kp2 _ _ gp)), rfl, natL_flat _, _, rfl, ?_⟩
          show if (!inV (nat c) (natL row)) = true then _ else _
          rw [inV_nat]
          have er : ∀ b : Bool, decide (c ∉ row) = b → (X ++ ((List.range (c + 1)).filter fun c => decide (c ∉ row)).map fun c => row ++ [c]).map intL = (X ++ ((List.range c).filter fun c => decide (c ∉ row)).map fun c => row ++ [c]).map intL ++ (if b = true then [intL (row ++ [c])] else []) := fun b hb => by
            have e5 : [c].filter (fun c => decide (c ∉ row)) = if b = true then [c] else [] := by
              show (match decide (c ∉ row) with | true => [c] | false => []) = _
              rw [hb]
              cases b <;> rfl
            rw [List.range_succ, List.filter_append, e5]
            cases b <;> simp
          by_cases q : c ∈ row
          · rw [decide_eq_true q]
            have e0 := er false (decide_eq_false (fun z => z q))
            rw [if_neg Bool.false_ne_true, List.append_nil] at e0
            exact iteF ⟨rs, _, rfl, kp2, gl2, by omega, by rw [e0]; exact lr, nr⟩
          · rw [decide_eq_false q]
            have e0 := er true (decide_eq_true q)
            rw [if_pos rfl] at e0
            refine iteT ⟨_, rfl, .inl ⟨rfl, _, SqL.of gl2⟩, _, rfl, _, rfl, one_fits, fun l1 hl1 => ?_⟩
            have q1 := same_new (o := .lst [nat c]) hl1
            have gl1 : (upd G2 l1 (.lst [nat c])) l1 = some (.lst [nat c]) := upd_same
            generalize upd G2 l1 (.lst [nat c]) = G3 at q1 gl1
            refine ⟨p, l1, _, _, rfl, rfl, q1 _ _ (kp2 _ _ gp), gl1, by rw [natL_len, rl]; show i + 1 ≤ sizeLine; omega, fun l2 hl2 => ?_⟩
            have q2 := same_new (o := .lst (natL row ++ [nat c])) hl2
            have gl2' : (upd G3 l2 (.lst (natL row ++ [nat c]))) l2 = some (.lst ((intL (row ++ [c])).map V.int)) := by
              rw [upd_same, natL_intL]
              unfold intL
              rw [List.map_append, List.map_append]
              rfl
            generalize upd G3 l2 (.lst (natL row ++ [nat c])) = G4 at q2 gl2'
            have q12 := q1.trans q2
            have nl2 : l2 ≠ Dl := fun z => by rw [z, q1 _ _ gl2] at hl2; cases hl2
            refine ⟨Dl, _, _, rfl, rfl, q12 _ _ gl2, by rw [List.length_map]; omega, ?_⟩
            refine ⟨rs ++ [l2], _, rfl, fun a o ha => ?_, by rw [upd_same, List.map_append]; rfl, by rw [List.length_append]; show rs.length + 1 ≤ _; omega, ?_, fun q hq => ?_⟩
            · rw [upd_ne (fun z => by rw [z, hDl] at ha; cases ha)]; exact q12 _ _ (kp2 _ _ ha)
            · rw [e0]
              refine ls_snoc (ls_keep lr fun q hq o ho => ?_) ?_
              · rw [upd_ne (nr q hq)]; exact q12 _ _ ho
              · rw [upd_ne nl2]; exact gl2'
            · rcases List.mem_append.mp hq with z | z
              · exact nr q z
              · rw [List.mem_singleton.mp z]; exact nl2
        · rintro σ G2 ⟨rs, o6'', rfl, kp2, gl2, rsl, lr, nr⟩
          exact ⟨rs, _, _, rfl, kp2, gl2, by omega, by rw [tl]; exact lr, nr⟩
      · rintro σ G' ⟨qs, o5', o6', rfl, kp, gl, qlen, lq, nq⟩
        rw [List.length_map, pl, List.take_length] at lq
        walk_at "ns"
        exact ⟨_, rfl, qs, Dl, _, _, _, _, rfl, fun c o hc => kp _ _ (sG _ _ hc), hDlH, gl, lq⟩
    · rintro σ G ⟨ps, Dr, o3, o4, o5, o6, rfl, sG, fr, gr, ls⟩
      exact ⟨_, rfl, k Dr ps G fr sG gr ls⟩
theorem sc_onep : FnScope ["wives", "heirs", "found", "wider"] ["wives", "heirs"] (defScope (top 48)) := ⟨rfl, rfl, rfl, by decide +kernel, rfl, by decide +kernel, by decide +kernel⟩
theorem ok_onep {f : Addr} {fd : FuncData} (F : Fun K "_law_one_part" "_law_one_part" (top 48) f fd) (T : Txt K mg C e) : FnOk P w K mg base CX 1 f fd ["wives", "heirs"] spOneP := by
  refine F.okN sc_onep (fun vs H Q E h => ?_) (fun cdv A outer s H vs Q E hr h => ?_)
  · obtain ⟨a, b, n, w, h, rfl, _⟩ := h; rfl
  · obtain ⟨a, b, n, w', h', rfl, ga, gb, tw, th, n1, n8, k⟩ := h
    have nd := sc_onep.nd
    have hu := hr.units0
    have big : 100 ≤ sizeLine := by decide
    have hc : 0 < n := n1
    refine ⟨_, (pss_cons (ps_set (i := 2) nd rfl (Or.inl rfl) (pe_lst (pa_cons pe_int pa_nil)))
      (pss_one (ps_while PassesOwn.never (pt_val pe_bl) (pss_cons (ps_set (i := 3) nd rfl (Or.inl rfl) (pe_callB (call_sortedX rfl) rfl T.z_sorted bt_sorted (pa_cons (pe_callTy (call_setX rfl) rfl T.z_set bt_set (pa_cons (pe_op op_cat (pe_op op_cat (pv 2) (pe_comp (fv := [("wives", 0)]) ⟨rfl, by decide +kernel, rfl, by decide +kernel, rfl, by decide +kernel, ⟨⟨rfl, Or.inl rfl, Or.inl rfl, rfl⟩, trivial⟩, rfl, rfl⟩ rfl (pi_list (pv 2)) (fun _ _ _ => (pe_ix ix_list (pv 1) (pv 0) (fun _ _ => rfl))))) (pe_comp (fv := [("heirs", 1)]) ⟨rfl, by decide +kernel, rfl, by decide +kernel, rfl, by decide +kernel, ⟨⟨rfl, Or.inl rfl, Or.inl rfl, rfl⟩, trivial⟩, rfl, rfl⟩ rfl (pi_list (pv 2)) (fun _ _ _ => (pe_ix ix_list (pv 1) (pv 0) (fun _ _ => rfl))))) pa_nil)) pa_nil)))
      (pss_cons (ps_if (pt_cmpR (op_eqL hu) (pv 3) (pv 2) (nomark _)) (pss_one (ps_ret (pe_cmpR op_eq (pe_callB call_len_seq rfl T.z_len PySem.boot_len (pa_cons (pv 2) pa_nil)) (pe_callB call_len_seq rfl T.z_len PySem.boot_len (pa_cons (pv 0) pa_nil)) (nomark _)))) pss_nil)
      (pss_one (ps_set (i := 2) nd rfl (Or.inl rfl) (pv 3)))))))), ?_⟩
    refine ⟨one_fits, fun R0 hR0 => ?_⟩
    walk_at "ns"
    refine ⟨fun m σ G => ∃ R xs o5, m = 8 - xs.length ∧ σ = [some (.ref a), some (.ref b), some (.ref R), o5] ∧ Same H G ∧ H R = none ∧ G R = some (.lst (natL xs)) ∧ xs.Pairwise (· < ·) ∧ 0 ∈ xs ∧ ∀ d ∈ xs, Reach w' h' 0 d,
      ⟨_, R0, [0], none, rfl, rfl, same_new hR0, hR0, upd_same, List.pairwise_singleton _ _, List.mem_singleton.mpr rfl, fun d hd => by rw [List.mem_singleton.mp hd]; exact .here⟩, ?_⟩
    rintro m σ G ⟨R, xs, o5, rfl, rfl, sG, hR, gR, pw, cin, only⟩
    have lt : ∀ d ∈ xs, d < n := fun d hd => (only d hd).lt tw th hc
    have xl : xs.length ≤ n := Kin.nodup_len n _ (pw.imp fun {u v} z => Nat.ne_of_lt z) lt
    refine ⟨_, rfl, iteT ⟨fun σ' G' => ∃ m', m' < 8 - xs.length ∧ ∃ R xs o5, m' = 8 - xs.length ∧ σ' = [some (.ref a), some (.ref b), some (.ref R), o5] ∧ Same H G' ∧ H R = none ∧ G' R = some (.lst (natL xs)) ∧ xs.Pairwise (· < ·) ∧ 0 ∈ xs ∧ ∀ d ∈ xs, Reach w' h' 0 d, fun σ' G' h => h, ?_⟩⟩
    have pick : ∀ (u : List Nat) (A : Addr), IsTurn n u → ∀ G1, G1 A = some (.lst (natL u)) → ∀ d ∈ xs, SqL K G1 A (natL u) ∧ atI (natL u) (d : Int) = some (nat (fw u d)) := fun u A tu G1 g d hd =>
      ⟨SqL.of g, atI_nat (natL_get (fw_get tu (lt d hd)))⟩
    refine ⟨_, rfl, _, rfl, R, rfl, ⟨_, SqL.of gR⟩, ?_⟩
    refine comp_list (fun j => match xs[j]? with
      | some y => nat (fw w' y)
      | none => .non) (SqL.of gR) (by rw [natL_len]; omega) (fun j v H' Rk hj sm kk _ _ _ => ?_) fun D1 G1 hD1 s1 g1 => ?_
    · obtain ⟨y, hy, rfl⟩ : ∃ y, xs[j]? = some y ∧ v = nat y := by
        unfold natL at hj
        rw [List.getElem?_map] at hj
        obtain ⟨y, hy, rfl⟩ := Option.map_eq_some_iff.mp hj
        exact ⟨y, hy, rfl⟩
      rw [hy] at kk
      obtain ⟨q1, q2⟩ := pick w' a tw H' ((sG.trans sm) _ _ ga) y (List.mem_of_getElem? hy)
      exact ⟨_, rfl, _, rfl, a, _, _, _, rfl, rfl, q1, q2, kk _ (Same.refl _)⟩
    rw [natL_len, natA_map (f := fw w') (fun j y hy => by rw [hy])] at g1
    refine ⟨R, D1, _, _, rfl, rfl, s1 _ _ gR, g1, by rw [natL_len, natL_len, List.length_map]; omega, fun D0 hD0 => ?_⟩
    rw [natA_app]
    have s0 := s1.trans (same_new (o := .lst (natL (xs ++ xs.map (fw w')))) hD0)
    have g0 : (upd G1 D0 (.lst (natL (xs ++ xs.map (fw w'))))) D0 = some (.lst (natL (xs ++ xs.map (fw w')))) := upd_same
    generalize upd G1 D0 (.lst (natL (xs ++ xs.map (fw w')))) = G0 at s0 g0
    have gR1 := s0 _ _ gR
    refine ⟨_, rfl, R, rfl, ⟨_, SqL.of gR1⟩, ?_⟩
    refine comp_list (fun j => match xs[j]? with
      | some y => nat (fw h' y)
      | none => .non) (SqL.of gR1) (by rw [natL_len]; omega) (fun j v H' Rk hj sm kk _ _ _ => ?_) fun D2 G2 hD2 s2 g2 => ?_
    · obtain ⟨y, hy, rfl⟩ : ∃ y, xs[j]? = some y ∧ v = nat y := by
        unfold natL at hj
        rw [List.getElem?_map] at hj
        obtain ⟨y, hy, rfl⟩ := Option.map_eq_some_iff.mp hj
        exact ⟨y, hy, rfl⟩
      rw [hy] at kk
      obtain ⟨q1, q2⟩ := pick h' b th H' ((sG.trans (s0.trans sm)) _ _ gb) y (List.mem_of_getElem? hy)
      exact ⟨_, rfl, _, rfl, b, _, _, _, rfl, rfl, q1, q2, kk _ (Same.refl _)⟩
    rw [natL_len, natA_map (f := fw h') (fun j y hy => by rw [hy])] at g2
    refine ⟨D0, D2, _, _, rfl, rfl, s2 _ _ g0, g2, by rw [natL_len, natL_len, List.length_append, List.length_map, List.length_map]; omega, fun D4 hD4 => ?_⟩
    rw [natA_app]
    have s4 := (s0.trans s2).trans (same_new (o := .lst (natL (xs ++ xs.map (fw w') ++ xs.map (fw h')))) hD4)
    have g4 : (upd G2 D4 (.lst (natL (xs ++ xs.map (fw w') ++ xs.map (fw h'))))) D4 = some (.lst (natL (xs ++ xs.map (fw w') ++ xs.map (fw h')))) := upd_same
    generalize upd G2 D4 (.lst (natL (xs ++ xs.map (fw w') ++ xs.map (fw h')))) = G4 at s4 g4
    generalize hys : xs ++ xs.map (fw w') ++ xs.map (fw h') = ys at g4
    have my : ∀ d, d ∈ ys ↔ d ∈ xs ∨ (∃ y ∈ xs, fw w' y = d) ∨ ∃ y ∈ xs, fw h' y = d := fun d => by rw [← hys, List.mem_append, List.mem_append, List.mem_map, List.mem_map, or_assoc]
    have ry : ∀ d ∈ ys, Reach w' h' 0 d := fun d hd => by
      rcases (my d).mp hd with z | ⟨y, z, rfl⟩ | ⟨y, z, rfl⟩
      · exact only d z
      · exact .wife (only y z)
      · exact .heir (only y z)
    have ylt : ∀ d ∈ ys, d < n := fun d hd => (ry d hd).lt tw th hc
    refine ⟨D4, ys, rfl, SqL.of g4, fun d hd => by have := ylt d hd; omega, fun S hS => ?_⟩
    have kl : (keysOf ys).length ≤ n := Kin.nodup_len n _ (keysOf_nodup ys) fun d hd => ylt d (keysOf_mem.mp hd)
    refine ⟨S, keysOf ys, rfl, upd_same, by omega, fun R1 zs hR1 hp hs => ?_⟩
    have s5 := s4.trans ((same_new (o := SetO w S (keysOf ys)) hS).trans (same_new (o := .lst (zs.map fun (k : Nat) => V.int (k : Int))) hR1))
    have g5 : (upd (upd G4 S (SetO w S (keysOf ys))) R1 (.lst (zs.map fun (k : Nat) => V.int (k : Int)))) R1 = some (.lst (natL zs)) := upd_same
    have f5 : H R1 = none := (sG.trans (s4.trans (same_new (o := SetO w S (keysOf ys)) hS))).free hR1
    have mz : ∀ d, d ∈ zs ↔ d ∈ ys := fun d => by rw [hp.mem_iff, keysOf_mem]
    walk_at "ns"
    refine ⟨_, rfl, _, rfl, R1, R, _, _, rfl, rfl, SqL.of g5, SqL.of (s5 _ _ gR), natA_flat _, natA_flat _, _, rfl, ?_⟩
    rw [natL_intL zs, natL_intL xs, eqVs_intL]
    refine iteD2 (fun eq => ?_) (fun ne => ?_)
    · have eq' : zs = xs := intL_inj eq
      have cl : ∀ d ∈ xs, fw w' d ∈ xs ∧ fw h' d ∈ xs := fun d hd => by
        have h1 := (mz (fw w' d)).mpr ((my _).mpr (.inr (.inl ⟨d, hd, rfl⟩)))
        have h2 := (mz (fw h' d)).mpr ((my _).mpr (.inr (.inr ⟨d, hd, rfl⟩)))
        rw [eq'] at h1 h2
        exact ⟨h1, h2⟩
      have all := reach_of cin (fun d hd => (cl d hd).1) (fun d hd => (cl d hd).2) only
      have sG5 := sG.trans s5
      refine ⟨_, rfl, R, _, rfl, .inl (SqL.of (s5 _ _ gR)), _, rfl, a, _, rfl, .inl (SqL.of (sG5 _ _ ga)), rfl, ?_⟩
      rw [natL_len, natL_len, tw.len]
      have lit : xs.length = n ↔ OneP n w' h' := by
        constructor
        · intro e d hd
          refine (all d).mp (Classical.byContradiction fun no => ?_)
          have := Kin.nodup_len n (d :: xs) (List.nodup_cons.mpr ⟨no, pw.imp fun {u v} z => Nat.ne_of_lt z⟩) fun x hx => by
            rcases List.mem_cons.mp hx with rfl | y
            · exact hd
            · exact lt x y
          rw [List.length_cons] at this
          omega
        · intro o
          have := len_sub (List.range n) xs List.nodup_range fun d hd => (all d).mpr (o d (List.mem_range.mp hd))
          rw [List.length_range] at this
          omega
      refine k _ _ sG5 ?_
      rw [decide_eq_true_iff]
      constructor
      · intro z; exact lit.mp (by have := V.int.inj z; omega)
      · intro z; rw [lit.mpr z]
    · have ne' : zs ≠ xs := fun z => ne (by rw [z])
      have nz : zs.Nodup := hs.imp fun {u v} z => Nat.ne_of_lt z
      have nx : xs.Nodup := pw.imp fun {u v} z => Nat.ne_of_lt z
      have zlen : xs.length < zs.length := by
        have sub : ∀ d ∈ xs, d ∈ zs := fun d hd => (mz d).mpr ((my d).mpr (.inl hd))
        have le := len_sub xs zs nx sub
        rcases Nat.lt_or_ge xs.length zs.length with q | q
        · exact q
        · refine absurd ?_ ne'
          have back : ∀ d ∈ zs, d ∈ xs := fun d hd => Classical.byContradiction fun no => by
            have := len_sub (d :: xs) zs (List.nodup_cons.mpr ⟨no, nx⟩) fun x hx => by
              rcases List.mem_cons.mp hx with e | e
              · rw [e]; exact hd
              · exact sub x e
            simp at this
            omega
          exact intL_inj (sorted_unique (((List.perm_ext_iff_of_nodup nz nx).mpr fun d => ⟨back d, sub d⟩).map _) (by unfold intL; rw [List.pairwise_map]; exact hs.imp fun {u v} z => by omega) (by unfold intL; rw [List.pairwise_map]; exact pw.imp fun {u v} z => by omega))
      have zl : zs.length ≤ n := Kin.nodup_len n _ nz fun d hd => ylt d ((mz d).mp hd)
      refine ⟨_, rfl, _, ?_, R1, zs, _, rfl, rfl, sG.trans s5, f5, g5, hs, (mz 0).mpr ((my 0).mpr (.inl cin)), fun d hd => ry d ((mz d).mp hd)⟩
      omega
end


--CUT
def spLGood : Sp := fun vs H Q _ => ∃ (a b r : Addr) (n : Nat) (w h : List Nat) (ps : List Addr) (rs : List Rl), vs = [.ref a, .ref b, .ref r] ∧ H a = some (.lst (natL w)) ∧ H b = some (.lst (natL h)) ∧ H r = some (.lst (ps.map V.ref)) ∧ RfAt H ps rs ∧ AllGood rs ∧ rs.length ≤ 100 ∧ IsTurn n w ∧ IsTurn n h ∧ 1 ≤ n ∧ n ≤ 8 ∧
  ∀ (x : Bool) H', Same H H' → (x = true ↔ GoodT rs n w h) → Q (.bl x) H'
def spLFirst : Sp := fun vs H Q _ => ∃ (r : Addr) (ps : List Addr) (rs : List Rl) (m : Nat), vs = [.ref r, nat m] ∧ H r = some (.lst (ps.map V.ref)) ∧ RfAt H ps rs ∧ AllGood rs ∧ rs.length ≤ 100 ∧ m ≤ 4 ∧
  (upT rs m = none → ∀ H', Same H H' → Q .non H') ∧ (∀ n w h, upT rs m = some (n, w, h) → ∀ D p q H', Same H H' → H' D = some (.lst [.ref p, .ref q]) → H' p = some (.lst (natL w)) → H' q = some (.lst (natL h)) → Q (.ref D) H')
section
variable {P : Program} {w : World} {K : PySem.W.Frag} {mg : Str → Option Value} {base : Heap} {CX : CXT} {C : Addr} {e : Ad}
theorem sc_lgood : FnScope ["wives", "heirs", "rules"] ["wives", "heirs", "rules"] (defScope (top 49)) := ⟨rfl, rfl, rfl, by decide +kernel, rfl, by decide +kernel, by decide +kernel⟩
theorem ok_lgood {f : Addr} {fd : FuncData} (F : Fun K "_law_good" "_law_good" (top 49) f fd) (T : Txt K mg C e) (hE : NoE (CXR P w)) (D__law_one_part : Def P w K mg base (CXR P w) "_law_one_part" 1 ["wives", "heirs"] spOneP) (D__law_breach : Def P w K mg base (CXR P w) "_law_breach" 3 ["wives", "heirs", "rules"] spLBreach) : FnOk P w K mg base (CXR P w) 4 f fd ["wives", "heirs", "rules"] spLGood := by
  refine F.okN sc_lgood (fun vs H Q E h => ?_) (fun cdv A outer s H vs Q E hr h => ?_)
  · obtain ⟨a, b, r, n, w, h, ps, rs, rfl, _⟩ := h; rfl
  · obtain ⟨a, b, r, n, w', h', ps, rs, rfl, ga, gb, gr, rf, ag, l100, tw, th, n1, n8, k⟩ := h
    refine ⟨_, (pss_one (ps_ret (pe_and (pe_callD D__law_one_part hE hr rfl (pa_cons (pv 0) (pa_cons (pv 1) pa_nil))) (pe_one (pe_cmpR op_isN (pe_callD D__law_breach hE hr rfl (pa_cons (pv 0) (pa_cons (pv 1) (pa_cons (pv 2) pa_nil)))) pe_non (nomark _)))))), ?_⟩
    refine ⟨_, rfl, _, rfl, a, b, n, w', h', rfl, ga, gb, tw, th, n1, n8, fun x H1 s1 hx => ?_⟩
    cases x with
    | false =>
      refine ⟨_, rfl, iteF ?_⟩
      exact k false H1 s1 ⟨fun z => (by cases z), fun g => by have := hx.mpr g.1; cases this⟩
    | true =>
      refine ⟨_, rfl, iteT ?_⟩
      have one := hx.mp rfl
      refine ⟨_, rfl, _, rfl, _, rfl, a, b, r, n, w', h', ps, rs, rfl, s1 _ _ ga, s1 _ _ gb, s1 _ _ gr, rf.same s1, ag, l100, tw, th, n8, fun nb H2 s2 => ?_, fun kk c fb t H2 ht s2 g2 => ?_⟩
      · exact ⟨rfl, k true H2 (s1.trans s2) ⟨fun _ => ⟨one, nb⟩, fun _ => rfl⟩⟩
      · exact ⟨rfl, k false H2 (s1.trans s2) ⟨fun z => (by cases z), fun g => absurd g.2 fb.not⟩⟩
theorem sc_lfirst : FnScope ["rules", "most", "many", "wives", "heirs"] ["rules", "most"] (defScope (top 50)) := ⟨rfl, rfl, rfl, by decide +kernel, rfl, by decide +kernel, by decide +kernel⟩
theorem ok_lfirst {f : Addr} {fd : FuncData} (F : Fun K "_law_first" "_law_first" (top 50) f fd) (T : Txt K mg C e) (hE : NoE (CXR P w)) (D__law_turns : Def P w K mg base (CXR P w) "_law_turns" 1 ["many"] spTurns) (D__law_good : Def P w K mg base (CXR P w) "_law_good" 4 ["wives", "heirs", "rules"] spLGood) : FnOk P w K mg base (CXR P w) 5 f fd ["rules", "most"] spLFirst := by
  refine F.okN sc_lfirst (fun vs H Q E h => ?_) (fun cdv A outer s H vs Q E hr h => ?_)
  · obtain ⟨r, ps, rs, n, rfl, _⟩ := h; rfl
  · obtain ⟨r, rp, rs, m, rfl, gr, rf, ag, l100, m4, kN, kT⟩ := h
    have nd := sc_lfirst.nd
    refine ⟨_, (pss_cons (ps_for PassesOwn.never rfl (pi_range2 rfl T.z_range (pa_cons pe_int (pa_cons (pe_op op_add (pv 1) pe_int) pa_nil))) (pg_name (i := 2) nd rfl (Or.inl rfl)) (pss_one (ps_for PassesOwn.never rfl (pi_list (pe_callD D__law_turns hE hr rfl (pa_cons (pv 2) pa_nil))) (pg_name (i := 3) nd rfl (Or.inl rfl)) (pss_one (ps_for PassesOwn.never rfl (pi_list (pe_callD D__law_turns hE hr rfl (pa_cons (pv 2) pa_nil))) (pg_name (i := 4) nd rfl (Or.inl rfl)) (pss_one (ps_if (pt_val (pe_callD D__law_good hE hr rfl (pa_cons (pv 3) (pa_cons (pv 4) (pa_cons (pv 0) pa_nil))))) (pss_one (ps_ret (pe_lst (pa_cons (pv 3) (pa_cons (pv 4) pa_nil))))) pss_nil)))))))
      (pss_one (ps_ret pe_non))), ?_⟩
    refine ⟨_, rfl, _, _, rfl, rfl, _, _, rfl, ⟨by decide, by decide, by omega, by omega⟩, ?_⟩
    rw [show ((m : Int) + 1 - 1).toNat = m by omega]
    refine for_range (fun i σ G => ∃ (o2 o3 o4 : Option V), σ = [some (.ref r), some (nat m), o2, o3, o4] ∧ Same H G ∧ upT rs i = none) ⟨none, none, none, rfl, Same.refl _, rfl⟩ ?_ ?_
    · rintro i σ G hi ⟨o2, o3, o4, rfl, sG, none_i⟩
      have eu : upT rs (i + 1) = (fstT rs (1 + i)).map fun q => (1 + i, q) := by
        show (upT rs i).or _ = _
        rw [none_i, Nat.add_comm i 1]
        rfl
      generalize hn : 1 + i = n at eu
      have n1 : 1 ≤ n := by omega
      have n4 : n ≤ 4 := by omega
      have n8 : n ≤ 8 := by omega
      have tt : ∀ t ∈ turnsL n, IsTurn n t := fun t ht => mem_turnsL.mp ht
      rw [show (1 : Int) + (i : Int) = ((n : Nat) : Int) by omega]
      walk_at "ns"
      refine ⟨_, rfl, n, rfl, n4, fun D ps H1 hD s1 gD ls => ?_⟩
      have pl : ps.length = (turnsL n).length := by rw [ls.len, List.length_map]
      have sG1 := sG.trans s1
      refine ⟨D, rfl, ⟨_, SqL.of gD⟩, for_list (xs := ps.map V.ref) (fun j σ G' => ∃ (o3 o4 : Option V), σ = [some (.ref r), some (nat m), some (nat n), o3, o4] ∧ Same H1 G' ∧ fndT rs n (prsOf ((turnsL n).take j) (turnsL n)) = none) ⟨_, _, rfl, Same.refl _, rfl⟩ (fun m σ G' _ ⟨_, _, _, sG', _⟩ => SqL.of (sG' _ _ gD)) ?_ ?_⟩
      · rintro j v σ G' hj ⟨o3', o4', rfl, sG', none_j⟩
        rw [List.getElem?_map] at hj
        obtain ⟨q, hq, rfl⟩ := Option.map_eq_some_iff.mp hj
        have lj : j < (turnsL n).length := by rw [← pl]; exact (List.getElem?_eq_some_iff.mp hq).1
        have ht : (turnsL n)[j]? = some (turnsL n)[j] := List.getElem?_eq_getElem lj
        have hsp : turnsL n = (turnsL n).take j ++ (turnsL n)[j] :: (turnsL n).drop (j + 1) := by rw [← List.drop_eq_getElem_cons lj, List.take_append_drop]
        generalize (turnsL n)[j] = wv at ht hsp
        have tw : IsTurn n wv := tt _ (List.mem_of_getElem? ht)
        have gq : H1 q = some (.lst (natL wv)) := by rw [natL_intL]; exact ls.at_ j q _ hq (by rw [List.getElem?_map, ht]; rfl)
        walk_at "ns"
        refine ⟨_, rfl, n, rfl, n4, fun D2 ps2 G2 hD2 s2 gD2 ls2 => ?_⟩
        have pl2 : ps2.length = (turnsL n).length := by rw [ls2.len, List.length_map]
        have sG2 := sG'.trans s2
        refine ⟨D2, rfl, ⟨_, SqL.of gD2⟩, for_list (xs := ps2.map V.ref) (fun l σ G3 => ∃ (o4 : Option V), σ = [some (.ref r), some (nat m), some (nat n), some (.ref q), o4] ∧ Same G2 G3 ∧ fndT rs n (((turnsL n).take l).map fun h => (wv, h)) = none) ⟨_, rfl, Same.refl _, rfl⟩ (fun m σ G3 _ ⟨_, _, sG3, _⟩ => SqL.of (sG3 _ _ gD2)) ?_ ?_⟩
        · rintro l v σ G3 hl ⟨o4'', rfl, sG3, none_l⟩
          rw [List.getElem?_map] at hl
          obtain ⟨p, hp, rfl⟩ := Option.map_eq_some_iff.mp hl
          have ll : l < (turnsL n).length := by rw [← pl2]; exact (List.getElem?_eq_some_iff.mp hp).1
          have hh : (turnsL n)[l]? = some (turnsL n)[l] := List.getElem?_eq_getElem ll
          have hsj : turnsL n = (turnsL n).take l ++ (turnsL n)[l] :: (turnsL n).drop (l + 1) := by rw [← List.drop_eq_getElem_cons ll, List.take_append_drop]
          generalize (turnsL n)[l] = hv at hh hsj
          have th : IsTurn n hv := tt _ (List.mem_of_getElem? hh)
          have gp : G3 p = some (.lst (natL hv)) := by rw [natL_intL]; exact sG3 _ _ (ls2.at_ l p _ hp (by rw [List.getElem?_map, hh]; rfl))
          have gq3 := (sG2.trans sG3) _ _ gq
          have s03 := sG1.trans (sG2.trans sG3)
          walk_at "ns"
          refine ⟨_, rfl, _, rfl, _, rfl, q, p, r, n, wv, hv, rp, rs, rfl, gq3, gp, s03 _ _ gr, rf.same s03, ag, l100, tw, th, n1, n8, fun x G4 s4 hx => ⟨_, rfl, ?_⟩⟩
          refine iteB (fun hx1 => ?_) (fun hx0 => ?_)
          · have g := hx.mp hx1
            have hit : fstT rs n = some (wv, hv) := by
              unfold fstT
              conv => lhs; rw [hsp]
              rw [show ∀ a b : List (List Nat), prsOf (a ++ b) ((turnsL n).take j ++ wv :: (turnsL n).drop (j + 1)) = prsOf (a ++ b) (turnsL n) from fun a b => by rw [← hsp]]
              rw [prs_app, fnd_app, none_j]
              show fndT rs n (prsOf (wv :: _) (turnsL n)) = _
              rw [show wv :: (turnsL n).drop (j + 1) = [wv] ++ (turnsL n).drop (j + 1) from rfl, prs_app, fnd_app, prs_one]
              have : fndT rs n ((turnsL n).map fun h => (wv, h)) = some (wv, hv) := by
                rw [hsj, List.map_append, fnd_app, none_l]
                exact fnd_hit g
              rw [this]
              rfl
            have up : ∀ t, i + 1 ≤ t → upT rs t = some (n, wv, hv) := fun t ht => by
              induction t with
              | zero => omega
              | succ t ih =>
                rcases Nat.lt_or_ge i t with z | z
                · show (upT rs t).or _ = _
                  rw [ih (by omega)]
                  rfl
                · have : t = i := by omega
                  subst this
                  rw [eu, hit]
                  rfl
            refine ⟨_, rfl, _, rfl, two_fits, fun D5 hD5 => ?_⟩
            have s5 := s4.trans (same_new (o := .lst [.ref q, .ref p]) hD5)
            exact kT n wv hv (up m hi) D5 q p _ (s03.trans s5) upd_same (s5 _ _ gq3) (s5 _ _ gp)
          · refine ⟨_, rfl, sG3.trans s4, ?_⟩
            rw [List.take_add_one, hh, List.map_append, fnd_app, none_l]
            exact fnd_miss (q := (wv, hv)) fun g => by rw [hx.mpr g] at hx0; cases hx0
        · rintro σ G3 ⟨o4'', rfl, sG3, none_l⟩
          rw [List.length_map, pl2, List.take_length] at none_l
          refine ⟨_, _, rfl, sG2.trans sG3, ?_⟩
          rw [List.take_add_one, ht, prs_app, fnd_app, none_j]
          show fndT rs n (prsOf [wv] (turnsL n)) = none
          rw [prs_one]
          exact none_l
      · rintro σ G' ⟨o3', o4', rfl, sG', none_j⟩
        rw [List.length_map, pl, List.take_length] at none_j
        refine ⟨_, _, _, rfl, sG1.trans sG', ?_⟩
        rw [eu, show fstT rs n = none from none_j]
        rfl
    · rintro σ G ⟨o2, o3, o4, rfl, sG, none_i⟩
      exact kN none_i G sG
end


--CUT
/-! rules that a table keeps -/
theorem pick_kin9 (q : Int) (h0 : 0 ≤ q) (h9 : q < 9) : ∃ l, atI [V.str "mbd", V.str "fzd", V.str "z", V.str "ffzsd", V.str "fbd", V.str "mmbdd", V.str "mzd", V.str "fzdd", V.str "mbsd"] q = some (V.str (txt l)) ∧ GoodW l := by
  have h : q = 0 ∨ q = 1 ∨ q = 2 ∨ q = 3 ∨ q = 4 ∨ q = 5 ∨ q = 6 ∨ q = 7 ∨ q = 8 := by omega
  have g : ∀ l : List Nat, l.length ≤ 60 → (∀ x ∈ l, IsL x) → endS true l = false → GoodW l := fun l a b c => ⟨⟨a, b⟩, c⟩
  rcases h with rfl | rfl | rfl | rfl | rfl | rfl | rfl | rfl | rfl
  · exact ⟨[109, 98, 100], by decide +kernel, g _ (by decide) (by decide) (by decide)⟩
  · exact ⟨[102, 122, 100], by decide +kernel, g _ (by decide) (by decide) (by decide)⟩
  · exact ⟨[122], by decide +kernel, g _ (by decide) (by decide) (by decide)⟩
  · exact ⟨[102, 102, 122, 115, 100], by decide +kernel, g _ (by decide) (by decide) (by decide)⟩
  · exact ⟨[102, 98, 100], by decide +kernel, g _ (by decide) (by decide) (by decide)⟩
  · exact ⟨[109, 109, 98, 100, 100], by decide +kernel, g _ (by decide) (by decide) (by decide)⟩
  · exact ⟨[109, 122, 100], by decide +kernel, g _ (by decide) (by decide) (by decide)⟩
  · exact ⟨[102, 122, 100, 100], by decide +kernel, g _ (by decide) (by decide) (by decide)⟩
  · exact ⟨[109, 98, 115, 100], by decide +kernel, g _ (by decide) (by decide) (by decide)⟩
def metL (w h l : List Nat) (n : Nat) : List Bool := (List.range n).map fun c => decide (led w h (true, c) l = (false, fw w c))
theorem noBad_snoc {w h l : List Nat} {n : Nat} {rs : List Rl} {m : Bool} (g : NoBad w h n rs) (e : ∀ c, c < n → decide (led w h (true, c) l = (false, fw w c)) = m) : NoBad w h n (rs ++ [(m, l)]) := fun k r c hk hc => by
  by_cases q : k < rs.length
  · rw [List.getElem?_append_left q] at hk
    exact g k r c hk hc
  · rw [List.getElem?_append_right (by omega)] at hk
    have : k - rs.length = 0 := by
      have := (List.getElem?_eq_some_iff.mp hk).1
      simp at this
      omega
    rw [this] at hk
    cases Option.some.inj hk
    unfold badAt
    rw [show decide (led w h (true, c) (m, l).2 = (false, fw w c)) = m from e c hc]
    simp
def spKept : Sp := fun vs H Q _ => ∃ (a b c : Addr) (n : Nat) (w h : List Nat) (zs : List Int), vs = [.ref a, .ref b, .ref c] ∧ H a = some (.lst (natL w)) ∧ H b = some (.lst (natL h)) ∧ H c = some (.lst (zs.map V.int)) ∧ zs.length ≤ 20 ∧ IsTurn n w ∧ IsTurn n h ∧ 1 ≤ n ∧ n ≤ 8 ∧
  ∀ D ps rs H', H D = none → Same H H' → H' D = some (.lst (ps.map V.ref)) → RfAt H' ps rs → rs.length ≤ 20 → AllGood rs → NoBad w h n rs → Q (.ref D) H'
section
variable {P : Program} {w : World} {K : PySem.W.Frag} {mg : Str → Option Value} {base : Heap} {CX : CXT} {C : Addr} {e : Ad}
theorem sc_kept : FnScope ["wives", "heirs", "cells", "some", "rules", "cell", "walk", "met"] ["wives", "heirs", "cells"] (defScope (top 51)) := ⟨rfl, rfl, rfl, by decide +kernel, rfl, by decide +kernel, by decide +kernel⟩
theorem ok_kept {f : Addr} {fd : FuncData} (F : Fun K "_law_kept_rules" "_law_kept_rules" (top 51) f fd) (T : Txt K mg C e) (hE : NoE CX) (D__law_led : Def P w K mg base CX "_law_led" 2 ["wives", "heirs", "sex", "c", "walk"] spLed) : FnOk P w K mg base CX 3 f fd ["wives", "heirs", "cells"] spKept := by
  refine F.okN sc_kept (fun vs H Q E h => ?_) (fun cdv A outer s H vs Q E hr h => ?_)
  · obtain ⟨a, b, c, n, w, h, zs, rfl, _⟩ := h; rfl
  · obtain ⟨a, b, c, n, w', h', zs, rfl, ga, gb, gc, z20, tw, th, n1, n8, k⟩ := h
    have nd := sc_kept.nd
    have hu := hr.units0
    have big : 100 ≤ sizeLine := by decide
    refine ⟨_, (pss_cons (ps_set (i := 3) nd rfl (Or.inl rfl) (pe_lst (pa_cons pe_str (pa_cons pe_str (pa_cons pe_str (pa_cons pe_str (pa_cons pe_str (pa_cons pe_str (pa_cons pe_str (pa_cons pe_str (pa_cons pe_str pa_nil)))))))))))
      (pss_cons (ps_set (i := 4) nd rfl (Or.inl rfl) (pe_lst pa_nil))
      (pss_cons (ps_for PassesOwn.never rfl (pi_list (pv 2)) (pg_name (i := 5) nd rfl (Or.inl rfl)) (pss_cons (ps_set (i := 6) nd rfl (Or.inr rfl) (pe_ix ix_list (pv 3) (pe_op op_mod (pv 5) pe_int) (fun _ _ => rfl)))
      (pss_cons (ps_setComp (i := 7) nd rfl (Or.inl rfl) (fv := [("heirs", 1), ("walk", 6), ("wives", 0)]) ⟨rfl, by decide +kernel, rfl, by decide +kernel, rfl, by decide +kernel, ⟨⟨rfl, Or.inl rfl, Or.inl rfl, rfl⟩, ⟨⟨rfl, Or.inl rfl, Or.inl rfl, rfl⟩, ⟨⟨rfl, Or.inl rfl, Or.inl rfl, rfl⟩, trivial⟩⟩⟩, rfl, rfl⟩ rfl (pi_range1 rfl T.z_range (pa_cons (pe_callB call_len_seq rfl T.z_len PySem.boot_len (pa_cons (pv 0) pa_nil)) pa_nil)) (fun _ _ _ => (pe_cmpR (op_eqT hu) (pe_callD D__law_led hE hr rfl (pa_cons (pv 3) (pa_cons (pv 1) (pa_cons pe_str (pa_cons (pv 0) (pa_cons (pv 2) pa_nil)))))) (pe_tup (pa_cons pe_str (pa_cons (pe_ix ix_list (pv 3) (pv 0) (fun _ _ => rfl)) pa_nil))) (nomark _))))
      (pss_one (ps_if (pt_val (pe_callB (call_minB rfl) rfl T.z_min bt_min (pa_cons (pv 7) pa_nil))) (pss_one (ps_expr (pe_bm PySem.F.plainAttrs_list PySem.F.slot_list_append PySem.F.type_list_append mt_append (pv 4) (pa_cons (pe_tup (pa_cons pe_str (pa_cons (pv 6) pa_nil))) pa_nil)))) (pss_one (ps_if (pt_not (pt_val (pe_callB (call_maxB rfl) rfl T.z_max bt_max (pa_cons (pv 7) pa_nil)))) (pss_one (ps_expr (pe_bm PySem.F.plainAttrs_list PySem.F.slot_list_append PySem.F.type_list_append mt_append (pv 4) (pa_cons (pe_tup (pa_cons pe_str (pa_cons (pv 6) pa_nil))) pa_nil)))) pss_nil)))))))
      (pss_one (ps_ret (pv 4)))))), ?_⟩
    refine ⟨(show 9 ≤ sizeLine by decide), fun L hL => ?_⟩
    have s1 := same_new (o := .lst [V.str "mbd", V.str "fzd", V.str "z", V.str "ffzsd", V.str "fbd", V.str "mmbdd", V.str "mzd", V.str "fzdd", V.str "mbsd"]) hL
    have gL : (upd H L (.lst [V.str "mbd", V.str "fzd", V.str "z", V.str "ffzsd", V.str "fbd", V.str "mmbdd", V.str "mzd", V.str "fzdd", V.str "mbsd"])) L = some (.lst [V.str "mbd", V.str "fzd", V.str "z", V.str "ffzsd", V.str "fbd", V.str "mmbdd", V.str "mzd", V.str "fzdd", V.str "mbsd"]) := upd_same
    generalize upd H L (.lst [V.str "mbd", V.str "fzd", V.str "z", V.str "ffzsd", V.str "fbd", V.str "mmbdd", V.str "mzd", V.str "fzdd", V.str "mbsd"]) = H1 at s1 gL
    walk_at "ns"
    refine ⟨by decide, fun D hD => ?_⟩
    have hDH : H D = none := s1.free hD
    have s2 := same_new (o := .lst []) hD
    have gD : (upd H1 D (.lst [])) D = some (.lst (([] : List Addr).map V.ref)) := upd_same
    generalize upd H1 D (.lst []) = H2 at s2 gD
    have s12 := s1.trans s2
    have rf0 : RfAt H2 [] [] := ⟨rfl, fun i p r z _ => by cases z⟩
    have ag0 : AllGood [] := fun r z => by cases z
    have nb0 : NoBad w' h' n [] := fun k r c z _ => by cases z
    walk_at "ns"
    refine ⟨_, rfl, c, rfl, ⟨_, SqL.of (s12 _ _ gc)⟩, for_list (xs := zs.map V.int) (fun i σ G => ∃ (o1 o2 o3 : Option V) (ps : List Addr) (rs : List Rl), σ = [some (.ref a), some (.ref b), some (.ref c), some (.ref L), some (.ref D), o1, o2, o3] ∧ Same H1 G ∧ G D = some (.lst (ps.map V.ref)) ∧ RfAt G ps rs ∧ rs.length ≤ i ∧ AllGood rs ∧ NoBad w' h' n rs) ⟨none, none, none, [], [], rfl, s2, gD, rf0, Nat.le_refl _, ag0, nb0⟩ (fun m σ G _ ⟨_, _, _, _, _, _, sG, _⟩ => SqL.of (sG _ _ (s1 _ _ gc))) ?_ ?_⟩
    · rintro i v σ G hi ⟨o1, o2, o3, ps, rs, rfl, sG, gD, rf, rl, good, nb⟩
      have iz : i < zs.length := by have := (List.getElem?_eq_some_iff.mp hi).1; rwa [List.length_map] at this
      rw [List.getElem?_map] at hi
      obtain ⟨z, hz, rfl⟩ := Option.map_eq_some_iff.mp hi
      obtain ⟨l, hl, gl⟩ := pick_kin9 (z % 9) (Int.emod_nonneg _ (by decide)) (Int.emod_lt_of_pos _ (by decide))
      walk_at "ns"
      refine ⟨_, rfl, _, rfl, _, _, rfl, rfl, (show (0 : Int) < 9 by decide), L, _, _, _, rfl, rfl, SqL.of (sG _ _ gL), hl, ?_⟩
      have s01 := s1.trans sG
      walk_at "ns"
      refine ⟨_, rfl, a, _, rfl, .inl (SqL.of (s01 _ _ ga)), _, rfl, by rw [natL_len, tw.len]; omega, by rw [natL_len, tw.len]; omega, ?_⟩
      rw [natL_len, tw.len, Int.toNat_natCast]
      refine comp_range0 (fun c => V.bl (decide (led w' h' (true, c) l = (false, fw w' c)))) (by omega) (fun j H' R hj sm kk _ _ _ => ?_) fun D1 G1 hD1 t1 g1 => ?_
      · have sa := (s01.trans sm) _ _ ga
        refine ⟨_, rfl, _, rfl, _, rfl, _, rfl, a, b, n, w', h', true, j, l, rfl, sa, (s01.trans sm) _ _ gb, tw, th, hj, gl.1.1, gl.1.2, fun t H4 ht s4 hl4 => ?_⟩
        refine ⟨_, rfl, _, rfl, a, _, _, _, rfl, rfl, SqL.of (s4 _ _ sa), atN tw hj, two_fits, fun t2 ht2 => ?_⟩
        have s5 := same_new (o := .tup [V.str "woman", nat (fw w' j)]) ht2
        refine ⟨t, t2, _, _, rfl, rfl, SqT.of (s5 _ _ hl4), SqT.of upd_same, rfl, rfl, ?_⟩
        have eq1 : eqVs (pairV (led w' h' (true, j) l)) [V.str "woman", nat (fw w' j)] = decide (led w' h' (true, j) l = (false, fw w' j)) := eqVs_pairs _ (false, fw w' j)
        show R (V.bl (eqVs (pairV (led w' h' (true, j) l)) [V.str "woman", nat (fw w' j)])) _
        rw [eq1]
        exact kk _ (s4.trans s5)
      have g1' : G1 D1 = some (.lst ((metL w' h' l n).map V.bl)) := by
        rw [g1]; unfold metL; rw [List.map_map]; rfl
      have ml : (metL w' h' l n).length = n := by unfold metL; rw [List.length_map, List.length_range]
      have sG1 := sG.trans t1
      have gD1 := t1 _ _ gD
      have add : ∀ (m : Bool), (∀ c, c < n → decide (led w' h' (true, c) l = (false, fw w' c)) = m) → ∀ (t : Addr) (G2 : Hp), G1 t = none → Same G1 G2 → G2 t = some (.tup (rlT (m, l))) → ∃ (ps2 : List Addr) (rs2 : List Rl), upd G2 D (.lst (ps.map V.ref ++ [V.ref t])) D = some (.lst (ps2.map V.ref)) ∧ RfAt (upd G2 D (.lst (ps.map V.ref ++ [V.ref t]))) ps2 rs2 ∧ rs2.length ≤ i + 1 ∧ AllGood rs2 ∧ NoBad w' h' n rs2 := fun m hm t G2 ht s2 gt => by
        refine ⟨ps ++ [t], rs ++ [(m, l)], by rw [upd_same, List.map_append]; rfl, ?_, by rw [List.length_append]; show rs.length + 1 ≤ _; omega, fun r hr => ?_, noBad_snoc nb hm⟩
        · refine ((rf.same (t1.trans s2)).snoc gt).keep fun p xs e => ?_
          rw [upd_ne (fun z => by rw [z, s2 _ _ gD1] at e; cases e)]
          exact e
        · rcases List.mem_append.mp hr with q | q
          · exact good r q
          · rw [List.mem_singleton.mp q]; exact gl
      walk_at "ns"
      refine ⟨_, rfl, D1, _, rfl, SqL.of g1', by omega, _, rfl, ?_⟩
      refine iteB (fun all => ?_) (fun nall => ?_)
      · have hm : ∀ c, c < n → decide (led w' h' (true, c) l = (false, fw w' c)) = true := fun c hc => List.all_eq_true.mp all _ (List.mem_map.mpr ⟨c, List.mem_range.mpr hc, rfl⟩)
        refine ⟨_, rfl, .inl ⟨rfl, _, SqL.of gD1⟩, _, rfl, two_fits, fun t ht => ?_⟩
        have t2 := same_new (o := .tup [V.str "may", V.str (txt l)]) ht
        have gt : (upd G1 t (.tup [V.str "may", V.str (txt l)])) t = some (.tup (rlT (true, l))) := upd_same
        generalize upd G1 t (.tup [V.str "may", V.str (txt l)]) = G2 at t2 gt
        obtain ⟨ps2, rs2, q1, q2, q3, q4, q5⟩ := add true hm t G2 ht t2 gt
        refine ⟨D, _, _, rfl, rfl, t2 _ _ gD1, by rw [List.length_map, rf.len]; omega, ?_⟩
        exact ⟨_, _, _, ps2, rs2, rfl, same_upd (sG1.trans t2) hD, q1, q2, q3, q4, q5⟩
      · refine ⟨_, rfl, D1, _, rfl, SqL.of g1', by omega, _, rfl, ?_⟩
        cases any : (metL w' h' l n).any id with
        | false =>
          have hm : ∀ c, c < n → decide (led w' h' (true, c) l = (false, fw w' c)) = false := fun c hc => by
            have := List.any_eq_false.mp any _ (List.mem_map.mpr ⟨c, List.mem_range.mpr hc, rfl⟩)
            exact Bool.eq_false_iff.mpr this
          refine iteT ?_
          refine ⟨_, rfl, .inl ⟨rfl, _, SqL.of gD1⟩, _, rfl, two_fits, fun t ht => ?_⟩
          have t2 := same_new (o := .tup [V.str "never", V.str (txt l)]) ht
          have gt : (upd G1 t (.tup [V.str "never", V.str (txt l)])) t = some (.tup (rlT (false, l))) := upd_same
          generalize upd G1 t (.tup [V.str "never", V.str (txt l)]) = G2 at t2 gt
          obtain ⟨ps2, rs2, q1, q2, q3, q4, q5⟩ := add false hm t G2 ht t2 gt
          refine ⟨D, _, _, rfl, rfl, t2 _ _ gD1, by rw [List.length_map, rf.len]; omega, ?_⟩
          exact ⟨_, _, _, ps2, rs2, rfl, same_upd (sG1.trans t2) hD, q1, q2, q3, q4, q5⟩
        | true =>
          exact iteF ⟨_, _, _, ps, rs, rfl, sG1, gD1, rf.same t1, by omega, good, nb⟩
    · rintro σ G ⟨o1, o2, o3, ps, rs, rfl, sG, gD, rf, rl, good, nb⟩
      rw [List.length_map] at rl
      exact ⟨_, rfl, k D ps rs G hDH (s1.trans sG) gD rf (by omega) good nb⟩
end


--CUT
/-! the order of tables -/
theorem up_mono {rs : List Rl} {m : Nat} {q : Nat × List Nat × List Nat} (e : upT rs m = some q) : ∀ d, upT rs (m + d) = some q
  | 0 => e
  | d + 1 => by
    show (upT rs (m + d)).or _ = _
    rw [up_mono e d]
    rfl
theorem up_some {rs : List Rl} : ∀ {m : Nat} {n : Nat} {w h : List Nat}, upT rs m = some (n, w, h) → 1 ≤ n ∧ n ≤ m ∧ IsTurn n w ∧ IsTurn n h ∧ GoodT rs n w h
  | 0, _, _, _, e => by cases e
  | m + 1, n, w, h, e => by
    have e : (upT rs m).or ((fstT rs (m + 1)).map fun q => (m + 1, q)) = some (n, w, h) := e
    cases u : upT rs m with
    | some q =>
      rw [u] at e
      have e : some q = some (n, w, h) := e
      rw [Option.some.inj e] at u
      obtain ⟨a, b, c⟩ := up_some u
      exact ⟨a, Nat.le_succ_of_le b, c⟩
    | none =>
      rw [u] at e
      have e : ((fstT rs (m + 1)).map fun q => (m + 1, q)) = some (n, w, h) := e
      obtain ⟨q, hq, eq⟩ := Option.map_eq_some_iff.mp e
      cases eq
      obtain ⟨a, b, c⟩ := fst_some hq
      exact ⟨by omega, Nat.le_refl _, a, b, c⟩
theorem up_four {rs : List Rl} (e : upT rs 3 = none) : upT rs 4 = (fstT rs 4).map fun q => (4, q) := by
  show (upT rs 3).or _ = _
  rw [e]
  rfl
def Bef (p q : List Nat × List Nat) : Prop := lexB p.1 q.1 = true ∨ p.1 = q.1 ∧ lexB p.2 q.2 = true
theorem prs_bef (n : Nat) : (prsOf (turnsL n) (turnsL n)).Pairwise Bef := by
  unfold prsOf
  rw [List.pairwise_flatMap]
  refine ⟨fun w _ => ?_, ?_⟩
  · rw [List.pairwise_map]
    exact (turnsK_lex n).imp fun {x y} z => .inr ⟨rfl, z⟩
  · refine (turnsK_lex n).imp fun {x y} z p hp q hq => ?_
    obtain ⟨_, _, rfl⟩ := List.mem_map.mp hp
    obtain ⟨_, _, rfl⟩ := List.mem_map.mp hq
    exact .inl z
theorem find_least {α : Type} {R : α → α → Prop} {p : α → Bool} : ∀ {l : List α} {q x : α}, l.Pairwise R → l.find? p = some q → x ∈ l → p x = true → q = x ∨ R q x
  | [], _, _, _, e, _, _ => by cases e
  | a :: l, q, x, pw, e, hx, px => by
    obtain ⟨h1, h2⟩ := List.pairwise_cons.mp pw
    rw [List.find?_cons] at e
    cases pa : p a with
    | true =>
      rw [pa] at e
      cases Option.some.inj e
      rcases List.mem_cons.mp hx with rfl | hx
      · exact .inl rfl
      · exact .inr (h1 x hx)
    | false =>
      rw [pa] at e
      rcases List.mem_cons.mp hx with rfl | hx
      · rw [pa] at px; cases px
      · exact find_least h2 e hx px
theorem fst_least {rs : List Rl} {n : Nat} {q : List Nat × List Nat} {w h : List Nat} (e : fstT rs n = some q) (tw : IsTurn n w) (th : IsTurn n h) (g : GoodT rs n w h) : q = (w, h) ∨ Bef q (w, h) :=
  find_least (prs_bef n) e (List.mem_flatMap.mpr ⟨w, mem_turnsL.mpr tw, List.mem_map.mpr ⟨h, mem_turnsL.mpr th, rfl⟩⟩) (dcd_true g)
theorem fst_of_good {rs : List Rl} {n : Nat} {w h : List Nat} (tw : IsTurn n w) (th : IsTurn n h) (g : GoodT rs n w h) : ∃ q, fstT rs n = some q := by
  cases e : fstT rs n with
  | some q => exact ⟨q, rfl⟩
  | none => exact absurd g (fnd_none.mp e (w, h) (List.mem_flatMap.mpr ⟨w, mem_turnsL.mpr tw, List.mem_map.mpr ⟨h, mem_turnsL.mpr th, rfl⟩⟩))
theorem leI_cons (a b : Int) (x y : List Int) : leI (a :: x) (b :: y) = if a = b then leI x y else decide (a ≤ b) := by
  unfold leI
  rw [List.length_cons, List.range_succ_eq_map]
  show (if decide (some a = some b) = true then leGo _ _ _ else _) = _
  by_cases q : a = b
  · rw [if_pos q, q, if_pos (decide_eq_true rfl), leGo_map]
    rfl
  · rw [if_neg q, if_neg (by rw [decide_eq_false (fun z => q (Option.some.inj z))]; decide)]
    rfl
theorem leI_lex : ∀ (x y : List Nat), x.length = y.length → (x = y ∨ lexB x y = true) → leI (intL x) (intL y) = true
  | [], [], _, _ => rfl
  | [], _ :: _, e, _ => by cases e
  | _ :: _, [], e, _ => by cases e
  | a :: x, b :: y, e, h => by
    show leI ((a : Int) :: intL x) ((b : Int) :: intL y) = true
    rw [leI_cons]
    by_cases q : a = b
    · subst q
      rw [if_pos rfl]
      refine leI_lex x y (Nat.succ.inj e) ?_
      rcases h with h | h
      · exact .inl (List.cons.inj h).2
      · right
        have h : (decide (a < a) || (decide (a = a) && lexB x y)) = true := h
        rw [decide_eq_false (Nat.lt_irrefl a), decide_eq_true rfl] at h
        exact h
    · rw [if_neg (by omega)]
      refine decide_eq_true ?_
      rcases h with h | h
      · exact absurd (List.cons.inj h).1 q
      · have h : (decide (a < b) || (decide (a = b) && lexB x y)) = true := h
        rw [decide_eq_false q, Bool.false_and, Bool.or_false] at h
        have := of_decide_eq_true h
        omega
theorem leII_two (a b c d : List Int) : leII [a, b] [c, d] = if a = c then (if b = d then true else leI b d) else leI a c := by
  unfold leII
  show (if decide (some a = some c) = true then (if decide (some b = some d) = true then true else leI b d) else leI a c) = _
  by_cases p : a = c
  · rw [if_pos p, p, if_pos (decide_eq_true rfl)]
    by_cases q : b = d
    · rw [if_pos q, q, if_pos (decide_eq_true rfl)]
    · rw [if_neg q, if_neg (by rw [decide_eq_false (fun z => q (Option.some.inj z))]; decide)]
  · rw [if_neg p, if_neg (by rw [decide_eq_false (fun z => p (Option.some.inj z))]; decide)]
theorem le_two {n : Nat} {w1 h1 w h : List Nat} (t1 : IsTurn n w1) (t2 : IsTurn n h1) (tw : IsTurn n w) (th : IsTurn n h) (b : (w1, h1) = (w, h) ∨ Bef (w1, h1) (w, h)) : leII [intL w1, intL h1] [intL w, intL h] = true := by
  have e1 : w1.length = w.length := by rw [t1.len, tw.len]
  have e2 : h1.length = h.length := by rw [t2.len, th.len]
  rw [leII_two]
  rcases b with b | b | ⟨b, c⟩
  · cases b
    rw [if_pos rfl, if_pos rfl]
  · split
    · rename_i q
      have : w1 = w := intL_inj q
      subst this
      exfalso
      have : ∀ x : List Nat, lexB x x = false := fun x => by
        have := lex_app (z := x) (x := []) (y := [])
        rw [List.append_nil] at this
        exact this
      rw [show lexB (w1, h1).1 (w1, h).1 = lexB w1 w1 from rfl, this] at b
      cases b
    · exact leI_lex _ _ e1 (.inr b)
  · have b : w1 = w := b
    rw [if_pos (by rw [b])]
    split
    · rfl
    · exact leI_lex _ _ e2 (.inr c)
theorem one_ring {w : List Nat} : OneP 4 w [1, 2, 3, 0] := fun d hd => by
  have r1 : Reach w [1, 2, 3, 0] 0 1 := .heir .here
  have r2 : Reach w [1, 2, 3, 0] 0 2 := .heir r1
  have r3 : Reach w [1, 2, 3, 0] 0 3 := .heir r2
  rcases d with _ | _ | _ | _ | d
  · exact .here
  · exact r1
  · exact r2
  · exact r3
  · omega
theorem turn_ring : IsTurn 4 [1, 2, 3, 0] := by unfold IsTurn; decide
theorem sort_turn {w : List Nat} {ns : List Int} (tw : IsTurn 4 w) (p : ns.Perm (intL w)) (s : ns.Pairwise (· ≤ ·)) : ns = [0, 1, 2, 3] :=
  sorted_unique (p.trans (tw.map fun (k : Nat) => (k : Int))) s (by decide)
theorem comp_ints {te : TEB} {fv : List (Str × Nat)} {σ : St} {n : Nat} {H1 : Hp} {Q : VK} (hn : n ≤ sizeLine)
    (el : ∀ (i : Nat) (H' : Hp) (R : VK), i < n → Same H1 H' → (∀ z H2, Same H' H2 → R (.int z) H2) → ∀ s₀ H₀ ex, te s₀ H₀ ex (blkS fv σ (some (nat i))) H' R)
    (fin : ∀ D (zs : List Int) H2, H1 D = none → Same H1 H2 → zs.length = n → H2 D = some (.lst (zs.map V.int)) → Q (.ref D) H2) : tCompJ fv te σ (Itr 0 n) H1 Q := by
  intro D hD
  have sd : ∀ {H2 : Hp} {o : HO}, Same H1 H2 → Same H1 (upd H2 D o) := fun {H2 o} s b u e => by
    rw [upd_ne (ne_of_none e hD)]; exact s b u e
  refine ⟨fun i m ys H => m = n - i ∧ i ≤ n ∧ (∃ zs : List Int, zs.length = i ∧ ys = zs.map V.int) ∧ Same H1 H ∧ H D = some (.lst ys), ⟨n, by simp, Nat.zero_le _, ⟨[], rfl, rfl⟩, sd (Same.refl H1), upd_same⟩, ?_⟩
  rintro i m ys H ⟨rfl, hi, ⟨zs, zl, rfl⟩, sm, hDi⟩
  refine ⟨hDi, ?_⟩
  by_cases hlt : i < n
  · refine .inr ⟨hlt, by rw [List.length_map, zl]; exact Nat.lt_of_lt_of_le hlt hn, fun x H' y => ?_⟩
    obtain ⟨e, y⟩ := y
    subst e y
    intro s₀ H₀ ex
    rw [Int.zero_add]
    refine el i _ _ hlt sm (fun z H2 s2 => ⟨s2 D _ hDi, n - (i + 1), by omega, rfl, hlt, ⟨zs ++ [z], by rw [List.length_append, zl]; rfl, by rw [List.map_append]; rfl⟩, sd (sm.trans s2), upd_same⟩) s₀ H₀ ex
  · have e : i = n := by omega
    exact .inl ⟨by rw [e]; exact Nat.le_refl _, fin D zs H hD sm (by omega) hDi⟩
section
variable {P : Program} {w : World} {K : PySem.W.Frag} {mg : Str → Option Value} {base : Heap} {CX : CXT} {C : Addr} {e : Ad}
theorem sc_four : FnScope ["script", "wives", "heirs", "rules", "found", "due"] ["script"] (defScope (top 52)) := ⟨rfl, rfl, rfl, by decide +kernel, rfl, by decide +kernel, by decide +kernel⟩
theorem ok_four {f : Addr} {fd : FuncData} (F : Fun K "_law_four" "_law_four" (top 52) f fd) (T : Txt K mg C e) (hE : NoE (CXR P w))
    (D__law_cell_at : Def P w K mg base (CXR P w) "_law_cell_at" 1 ["script", "k"] (spCellAt K)) (D__law_turn_by : Def P w K mg base (CXR P w) "_law_turn_by" 1 ["cell", "many"] spTurnBy) (D__law_one_part : Def P w K mg base (CXR P w) "_law_one_part" 1 ["wives", "heirs"] spOneP)
    (D__law_kept_rules : Def P w K mg base (CXR P w) "_law_kept_rules" 3 ["wives", "heirs", "cells"] spKept) (D_first_table : Def P w K mg base (CXR P w) "first_table" 9 ["rules", "most"] (spFirstTable C e)) (D__law_first : Def P w K mg base (CXR P w) "_law_first" 5 ["rules", "most"] spLFirst)
    (D__law_same_numbers : Def P w K mg base (CXR P w) "_law_same_numbers" 2 ["found", "due"] spSameN) (D__law_good : Def P w K mg base (CXR P w) "_law_good" 4 ["wives", "heirs", "rules"] spLGood)
    (D_wives : MDef P w K mg base (CXR P w) C "wives" 1 ["self"] (spList C fun w _ => w)) (D_heirs : MDef P w K mg base (CXR P w) C "heirs" 1 ["self"] (spList C fun _ h => h)) :
    FnOk P w K mg base (CXR P w) 10 f fd ["script"] (spLaw K) := by
  refine F.okN sc_four (fun vs H Q E h => ?_) (fun cdv A outer s H vs Q E hr h => ?_)
  · obtain ⟨a, ns, rfl, _⟩ := h; rfl
  · obtain ⟨a, ns, rfl, _, hS, k⟩ := h
    have nd := sc_four.nd
    have hu := hr.units0
    have big : 1000 ≤ sizeLine := by decide
    refine ⟨_, (pss_cons (ps_set (i := 1) nd rfl (Or.inl rfl) (pe_callD D__law_turn_by hE hr rfl (pa_cons (pe_callD D__law_cell_at hE hr rfl (pa_cons (pv 0) (pa_cons pe_int pa_nil))) (pa_cons pe_int pa_nil))))
      (pss_cons (ps_set (i := 2) nd rfl (Or.inl rfl) (pe_callD D__law_turn_by hE hr rfl (pa_cons (pe_callD D__law_cell_at hE hr rfl (pa_cons (pv 0) (pa_cons pe_int pa_nil))) (pa_cons pe_int pa_nil))))
      (pss_cons (ps_join (ps_if (pt_not (pt_val (pe_callD D__law_one_part hE hr rfl (pa_cons (pv 1) (pa_cons (pv 2) pa_nil))))) (pss_one (ps_set (i := 2) nd rfl (Or.inl rfl) (pe_lst (pa_cons pe_int (pa_cons pe_int (pa_cons pe_int (pa_cons pe_int pa_nil))))))) pss_nil))
      (pss_cons (ps_set (i := 3) nd rfl (Or.inl rfl) (pe_callD D__law_kept_rules hE hr rfl (pa_cons (pv 1) (pa_cons (pv 2) (pa_cons (pe_comp (fv := [("script", 0)]) ⟨rfl, by decide +kernel, rfl, by decide +kernel, rfl, by decide +kernel, ⟨⟨rfl, Or.inl rfl, Or.inl rfl, rfl⟩, trivial⟩, rfl, rfl⟩ rfl (pi_range1 rfl T.z_range (pa_cons pe_int pa_nil)) (fun _ _ _ => (pe_callD D__law_cell_at hE hr rfl (pa_cons (pv 1) (pa_cons (pe_op op_add pe_int (pv 0)) pa_nil))))) pa_nil)))))
      (pss_cons (ps_set (i := 4) nd rfl (Or.inl rfl) (pe_callD D_first_table hE hr rfl (pa_cons (pe_callTy call_list_of rfl T.z_list bt_list (pa_cons (pv 3) pa_nil)) (pa_cons pe_int pa_nil))))
      (pss_cons (ps_set (i := 5) nd rfl (Or.inl rfl) (pe_callD D__law_first hE hr rfl (pa_cons (pv 3) (pa_cons pe_int pa_nil))))
      (pss_cons (ps_if (pt_cmpR op_notN (pv 5) pe_non (nomark _)) (pss_one (ps_ret (pe_and (pe_callD D__law_same_numbers hE hr rfl (pa_cons (pe_methD0 (pv 4) T.cl_Table D_wives hE hr) (pa_cons (pe_ix ix_list (pv 5) pe_int (fun _ _ => rfl)) pa_nil))) (pe_one (pe_callD D__law_same_numbers hE hr rfl (pa_cons (pe_methD0 (pv 4) T.cl_Table D_heirs hE hr) (pa_cons (pe_ix ix_list (pv 5) pe_int (fun _ _ => rfl)) pa_nil))))))) pss_nil)
      (pss_cons (ps_if (PW.pt (pw_or (pt_cmpR op_isN (pv 4) pe_non (nomark _)) (pw_or (pt_cmpR (op_neL hu) (pe_callB call_sorted rfl T.z_sorted bt_sorted (pa_cons (pe_methD0 (pv 4) T.cl_Table D_wives hE hr) pa_nil)) (pe_lst (pa_cons pe_int (pa_cons pe_int (pa_cons pe_int (pa_cons pe_int pa_nil))))) (nomark _)) (pw_or1 (pt_cmpR (op_neL hu) (pe_callB call_sorted rfl T.z_sorted bt_sorted (pa_cons (pe_methD0 (pv 4) T.cl_Table D_heirs hE hr) pa_nil)) (pe_lst (pa_cons pe_int (pa_cons pe_int (pa_cons pe_int (pa_cons pe_int pa_nil))))) (nomark _)))))) (pss_one (ps_ret pe_bl)) pss_nil)
      (pss_cons (ps_if (pt_not (pt_val (pe_callD D__law_good hE hr rfl (pa_cons (pe_methD0 (pv 4) T.cl_Table D_wives hE hr) (pa_cons (pe_methD0 (pv 4) T.cl_Table D_heirs hE hr) (pa_cons (pv 3) pa_nil)))))) (pss_one (ps_ret pe_bl)) pss_nil)
      (pss_one (ps_ret (pe_cmpR (op_leLL (hu_of hr)) (pe_lst (pa_cons (pe_methD0 (pv 4) T.cl_Table D_wives hE hr) (pa_cons (pe_methD0 (pv 4) T.cl_Table D_heirs hE hr) pa_nil))) (pe_lst (pa_cons (pv 1) (pa_cons (pv 2) pa_nil))) (nomark _))))))))))))), ?_⟩
    refine ⟨_, rfl, a, ns, 1, rfl, hS, fun z1 => ⟨z1, 4, rfl, by decide, fun wv D1 H1 tw hD1 s1 hl1 => ?_⟩⟩
    walk_at "ns"
    refine ⟨_, rfl, a, ns, 2, rfl, s1.seq hS, fun z2 => ⟨z2, 4, rfl, by decide, fun hv D2 H2 th hD2 s2 hl2 => ?_⟩⟩
    have s02 := s1.trans s2
    have hl12 := s2 _ _ hl1
    walk_at "ns"
    refine ⟨fun σ' H' => ∃ D2 hv, σ' = [some (.ref a), some (.ref D1), some (.ref D2), none, none, none] ∧ Same H2 H' ∧ H' D2 = some (.lst (natL hv)) ∧ IsTurn 4 hv ∧ OneP 4 wv hv, ?_, ?_⟩
    · refine ⟨_, rfl, _, rfl, D1, D2, 4, wv, hv, rfl, hl12, hl2, tw, th, by decide, by decide, fun x H3 s3 hx => ?_⟩
      cases x with
      | true => exact ⟨_, rfl, iteF ⟨D2, hv, rfl, s3, s3 _ _ hl2, th, hx.mp rfl⟩⟩
      | false =>
        refine ⟨_, rfl, iteT ⟨(show 4 ≤ sizeLine by decide), fun D3 hD3 => ?_⟩⟩
        exact ⟨D3, [1, 2, 3, 0], rfl, s3.trans (same_new hD3), upd_same, turn_ring, one_ring⟩
    clear hl2 th hD2 hv
    rintro σ' H3 ⟨D3, hv, rfl, s3, hl3, th, one⟩
    have s03 := s02.trans s3
    have hl13 := s3 _ _ hl12
    refine ⟨_, rfl, _, rfl, _, rfl, by decide, by decide, ?_⟩
    refine comp_ints (n := 4) (by omega) (fun i H' R hi sm kk _ _ _ => ?_) fun D4 zs H4 hD4 s4 zl g4 => ?_
    · refine ⟨_, rfl, _, rfl, _, _, rfl, rfl, a, ns, 3 + i, by show [V.ref a, V.int ((3 : Int) + (i : Int))] = [V.ref a, V.int ((3 + i : Nat) : Int)]; rw [Int.natCast_add]; rfl, (s03.trans sm).seq hS, fun z => kk z _ (Same.refl _)⟩
    have s04 := s03.trans s4
    refine ⟨D1, D3, D4, 4, wv, hv, zs, rfl, s4 _ _ hl13, s4 _ _ hl3, g4, by omega, tw, th, by decide, by decide, fun R ps rs H5 hR s5 gR rf rl good nb => ?_⟩
    have ok : Okay rs := ⟨by omega, fun r hr => ⟨Nat.le_trans (good r hr).1.1 (by decide), (good r hr).1.sg⟩⟩
    have gt : GoodT rs 4 wv hv := ⟨one, nb⟩
    have w5 := s5 _ _ (s4 _ _ hl13)
    have h5 := s5 _ _ (s4 _ _ hl3)
    walk_at "ns"
    refine ⟨_, rfl, R, _, rfl, .inl (SqL.of gR), fun L hL => ?_⟩
    have s6 := same_new (o := .lst (ps.map V.ref)) hL
    have f6 : (upd H5 L (.lst (ps.map V.ref))) L = some (.lst (ps.map V.ref)) := upd_same
    generalize upd H5 L (.lst (ps.map V.ref)) = H6 at s6 f6
    have four : ∃ n w1 h1, upT rs 4 = some (n, w1, h1) := by
      cases e3 : upT rs 3 with
      | some q => exact ⟨q.1, q.2.1, q.2.2, up_mono e3 1⟩
      | none =>
        obtain ⟨q, hq⟩ := fst_of_good tw th gt
        exact ⟨4, q.1, q.2, by rw [up_four e3, hq]; rfl⟩
    refine ⟨L, ps, rs, 4, rfl, f6, rf.same s6, ok, good, by decide, fun no => ?_, fun n w1 h1 e4 x H7 hx s7 TA => ?_⟩
    · obtain ⟨n, w1, h1, e4⟩ := four
      rw [no] at e4; cases e4
    clear four
    have s57 := s6.trans s7
    have w7 := s57 _ _ w5
    have h7 := s57 _ _ h5
    have gR7 := s57 _ _ gR
    have rf7 := rf.same s57
    clear s6 f6 s7
    walk_at "ns"
    refine ⟨_, rfl, R, ps, rs, 3, rfl, gR7, rf7, good, by omega, by decide, fun no H8 s8 => ?_, fun n3 w3 h3 e3 D8 p8 q8 H8 s8 g8 gp8 gq8 => ?_⟩
    · have n4 : upT rs 4 = (fstT rs 4).map fun q => (4, q) := up_four no
      rw [e4] at n4
      obtain ⟨q, hq, eq⟩ := Option.map_eq_some_iff.mp n4.symm
      cases eq
      have TA8 := TA.same s8
      obtain ⟨t1, t2, gd⟩ := fst_some hq
      have bf := fst_least hq tw th gt
      obtain ⟨dx, a1, b1, c1, d1, e1, -, -, -, -⟩ := TA8.ob
      have f5 : (flds a1 b1 c1 d1).lookup ("wives" : Str) = none := flds_no _ _ _ _ (by decide +kernel) (by decide +kernel) (by decide +kernel) (by decide +kernel)
      have f6 : (flds a1 b1 c1 d1).lookup ("heirs" : Str) = none := flds_no _ _ _ _ (by decide +kernel) (by decide +kernel) (by decide +kernel) (by decide +kernel)
      walk_at "ns"
      refine ⟨_, rfl, rfl, _, rfl, iteF ?_⟩
      refine ⟨_, rfl, rfl, _, rfl, iteF ?_⟩
      have wl : w1.length = 4 := t1.len
      have hl : h1.length = 4 := t2.len
      have int4 : [V.int 0, V.int 1, V.int 2, V.int 3] = ([0, 1, 2, 3] : List Int).map V.int := rfl
      -- sorted(found.wives())
      refine ⟨_, rfl, x, dx, _, rfl, e1, f5, x, 4, w1, h1, rfl, TA8, fun l1 hl1 => ?_⟩
      have u1 := same_new (o := .lst (natL w1)) hl1
      have r1 : (upd H8 l1 (.lst (natL w1))) l1 = some (.lst ((intL w1).map V.int)) := by rw [upd_same, natL_intL]
      generalize upd H8 l1 (.lst (natL w1)) = G1 at u1 r1
      refine ⟨l1, _, rfl, SqL.of r1, by rw [intL_len]; omega, fun l2 ns2 hl2 hp hs => ?_⟩
      obtain rfl := sort_turn t1 hp hs
      have u2 := u1.trans (same_new (o := .lst (([0, 1, 2, 3] : List Int).map V.int)) hl2)
      have r2 : (upd G1 l2 (.lst (([0, 1, 2, 3] : List Int).map V.int))) l2 = some (.lst (([0, 1, 2, 3] : List Int).map V.int)) := upd_same
      generalize upd G1 l2 (.lst (([0, 1, 2, 3] : List Int).map V.int)) = G2 at u2 r2
      refine ⟨(show 4 ≤ sizeLine by decide), fun l3 hl3 => ?_⟩
      have u3 := same_new (o := .lst [V.int 0, V.int 1, V.int 2, V.int 3]) hl3
      have r3 : (upd G2 l3 (.lst [V.int 0, V.int 1, V.int 2, V.int 3])) l3 = some (.lst [V.int 0, V.int 1, V.int 2, V.int 3]) := upd_same
      generalize upd G2 l3 (.lst [V.int 0, V.int 1, V.int 2, V.int 3]) = G3 at u3 r3
      refine ⟨l2, l3, _, _, rfl, rfl, SqL.of (u3 _ _ r2), SqL.of r3, rfl, rfl, _, rfl, iteF ?_⟩
      have u3 := u2.trans u3
      -- sorted(found.heirs())
      refine ⟨_, rfl, x, dx, _, rfl, u3 _ _ e1, f6, x, 4, w1, h1, rfl, TA8.same u3, fun l4 hl4 => ?_⟩
      have u4 := u3.trans (same_new (o := .lst (natL h1)) hl4)
      have r4 : (upd G3 l4 (.lst (natL h1))) l4 = some (.lst ((intL h1).map V.int)) := by rw [upd_same, natL_intL]
      generalize upd G3 l4 (.lst (natL h1)) = G4 at u4 r4
      refine ⟨l4, _, rfl, SqL.of r4, by rw [intL_len]; omega, fun l5 ns5 hl5 hp5 hs5 => ?_⟩
      obtain rfl := sort_turn t2 hp5 hs5
      have u5 := u4.trans (same_new (o := .lst (([0, 1, 2, 3] : List Int).map V.int)) hl5)
      have r5 : (upd G4 l5 (.lst (([0, 1, 2, 3] : List Int).map V.int))) l5 = some (.lst (([0, 1, 2, 3] : List Int).map V.int)) := upd_same
      generalize upd G4 l5 (.lst (([0, 1, 2, 3] : List Int).map V.int)) = G5 at u5 r5
      refine ⟨(show 4 ≤ sizeLine by decide), fun l6 hl6 => ?_⟩
      have u6 := same_new (o := .lst [V.int 0, V.int 1, V.int 2, V.int 3]) hl6
      have r6 : (upd G5 l6 (.lst [V.int 0, V.int 1, V.int 2, V.int 3])) l6 = some (.lst [V.int 0, V.int 1, V.int 2, V.int 3]) := upd_same
      generalize upd G5 l6 (.lst [V.int 0, V.int 1, V.int 2, V.int 3]) = G6 at u6 r6
      refine ⟨l5, l6, _, _, rfl, rfl, SqL.of (u6 _ _ r5), SqL.of r6, rfl, rfl, _, rfl, iteF ?_⟩
      have u6 := u5.trans u6
      clear u1 u2 u3 u4 u5 r1 r2 r3 r4 r5 r6 hp hs hp5 hs5 hl1 hl2 hl3 hl4 hl5 hl6
      -- _law_good
      refine ⟨_, rfl, x, dx, _, rfl, u6 _ _ e1, f5, x, 4, w1, h1, rfl, TA8.same u6, fun l1 hl1 => ?_⟩
      have v1 := u6.trans (same_new (o := .lst (natL w1)) hl1)
      have r1 : (upd G6 l1 (.lst (natL w1))) l1 = some (.lst (natL w1)) := upd_same
      generalize upd G6 l1 (.lst (natL w1)) = G7 at v1 r1
      refine ⟨_, rfl, x, dx, _, rfl, v1 _ _ e1, f6, x, 4, w1, h1, rfl, TA8.same v1, fun l2 hl2 => ?_⟩
      have v2' := same_new (o := .lst (natL h1)) hl2
      have r2 : (upd G7 l2 (.lst (natL h1))) l2 = some (.lst (natL h1)) := upd_same
      generalize upd G7 l2 (.lst (natL h1)) = G8 at v2' r2
      have v2 := v1.trans v2'
      have v02 := s8.trans v2
      refine ⟨_, rfl, l1, l2, R, 4, w1, h1, ps, rs, rfl, v2' _ _ r1, r2, v02 _ _ gR7, rf7.same v02, good, by omega, t1, t2, by decide, by decide, fun xb G9 v9' hxb => ?_⟩
      obtain rfl : xb = true := hxb.mpr gd
      have v9 := v2.trans v9'
      refine ⟨_, rfl, iteF ?_⟩
      -- [found.wives(), found.heirs()] <= [wives, heirs]
      refine ⟨_, rfl, x, dx, _, rfl, v9 _ _ e1, f5, x, 4, w1, h1, rfl, TA8.same v9, fun m1 hm1 => ?_⟩
      have y1' := same_new (o := .lst (natL w1)) hm1
      have q1 : (upd G9 m1 (.lst (natL w1))) m1 = some (.lst ((intL w1).map V.int)) := by rw [upd_same, natL_intL]
      generalize upd G9 m1 (.lst (natL w1)) = G10 at y1' q1
      have y1 := v9.trans y1'
      refine ⟨_, rfl, x, dx, _, rfl, y1 _ _ e1, f6, x, 4, w1, h1, rfl, TA8.same y1, fun m2 hm2 => ?_⟩
      have y2' := same_new (o := .lst (natL h1)) hm2
      have q2 : (upd G10 m2 (.lst (natL h1))) m2 = some (.lst ((intL h1).map V.int)) := by rw [upd_same, natL_intL]
      generalize upd G10 m2 (.lst (natL h1)) = G11 at y2' q2
      refine ⟨two_fits, fun m3 hm3 => ?_⟩
      have y3' := same_new (o := .lst [V.ref m1, V.ref m2]) hm3
      have q3 : (upd G11 m3 (.lst [V.ref m1, V.ref m2])) m3 = some (.lst ([m1, m2].map V.ref)) := upd_same
      generalize upd G11 m3 (.lst [V.ref m1, V.ref m2]) = G12 at y3' q3
      refine ⟨_, rfl, _, rfl, two_fits, fun m4 hm4 => ?_⟩
      have y4' := same_new (o := .lst [V.ref D1, V.ref D3]) hm4
      have q4 : (upd G12 m4 (.lst [V.ref D1, V.ref D3])) m4 = some (.lst ([D1, D3].map V.ref)) := upd_same
      generalize upd G12 m4 (.lst [V.ref D1, V.ref D3]) = G13 at y4' q4
      have y4 := (s8.trans y1).trans (y2'.trans (y3'.trans y4'))
      have lsA : LsAt G13 [m1, m2] [intL w1, intL h1] := ⟨rfl, fun i p xs hp hx => by
        rcases i with _ | _ | i
        · cases Option.some.inj hp; cases Option.some.inj hx; exact (y2'.trans (y3'.trans y4')) _ _ q1
        · cases Option.some.inj hp; cases Option.some.inj hx; exact (y3'.trans y4') _ _ q2
        · cases hp⟩
      have lsB : LsAt G13 [D1, D3] [intL wv, intL hv] := ⟨rfl, fun i p xs hp hx => by
        rcases i with _ | _ | i
        · cases Option.some.inj hp; cases Option.some.inj hx; rw [← natL_intL]; exact y4 _ _ w7
        · cases Option.some.inj hp; cases Option.some.inj hx; rw [← natL_intL]; exact y4 _ _ h7
        · cases hp⟩
      refine ⟨m3, m4, [m1, m2], [D1, D3], _, _, rfl, rfl, SqL.of (y4' _ _ q3), SqL.of q4, lsA, lsB, rfl, fun i x y hx hy => ?_, ?_⟩
      · rcases i with _ | _ | i
        · cases Option.some.inj hx; cases Option.some.inj hy; rw [intL_len, intL_len, wl, tw.len]
        · cases Option.some.inj hx; cases Option.some.inj hy; rw [intL_len, intL_len, hl, th.len]
        · cases hx
      · rw [le_two t1 t2 tw th bf]
        exact k _
    · have e43 := up_mono e3 1
      rw [e4] at e43
      cases Option.some.inj e43
      have TA8 := TA.same s8
      obtain ⟨dx, a1, b1, c1, d1, e1, -, -, -, -⟩ := TA8.ob
      have f5 : (flds a1 b1 c1 d1).lookup ("wives" : Str) = none := flds_no _ _ _ _ (by decide +kernel) (by decide +kernel) (by decide +kernel) (by decide +kernel)
      have f6 : (flds a1 b1 c1 d1).lookup ("heirs" : Str) = none := flds_no _ _ _ _ (by decide +kernel) (by decide +kernel) (by decide +kernel) (by decide +kernel)
      walk_at "ns"
      refine ⟨_, rfl, rfl, _, rfl, iteT ?_⟩
      refine ⟨_, rfl, x, dx, _, rfl, e1, f5, x, n, w1, h1, rfl, TA8, fun l1 hl1 => ?_⟩
      have t1 := same_new (o := .lst (natL w1)) hl1
      have r1 : (upd H8 l1 (.lst (natL w1))) l1 = some (.lst ((intL w1).map V.int)) := by rw [upd_same, natL_intL]
      generalize upd H8 l1 (.lst (natL w1)) = H9 at t1 r1
      have wl : w1.length ≤ 8 := by rw [TA.tw.len]; exact TA.n8
      have hl : h1.length ≤ 8 := by rw [TA.th.len]; exact TA.n8
      refine ⟨_, rfl, D8, _, _, _, rfl, rfl, SqL.of (t1 _ _ g8), rfl, l1, p8, _, _, rfl, r1, by rw [← natL_intL]; exact t1 _ _ gp8, by rw [intL_len]; omega, ?_⟩
      rw [decide_eq_true rfl]
      refine ⟨_, rfl, iteT ?_⟩
      refine ⟨_, rfl, x, dx, _, rfl, t1 _ _ e1, f6, x, n, w1, h1, rfl, TA8.same t1, fun l2 hl2 => ?_⟩
      have t2 := same_new (o := .lst (natL h1)) hl2
      have r2 : (upd H9 l2 (.lst (natL h1))) l2 = some (.lst ((intL h1).map V.int)) := by rw [upd_same, natL_intL]
      generalize upd H9 l2 (.lst (natL h1)) = H10 at t2 r2
      refine ⟨_, rfl, D8, _, _, _, rfl, rfl, SqL.of (t2 _ _ (t1 _ _ g8)), rfl, l2, q8, _, _, rfl, r2, by rw [← natL_intL]; exact t2 _ _ (t1 _ _ gq8), by rw [intL_len]; omega, ?_⟩
      rw [decide_eq_true rfl]
      exact k _
end


--CUT
/-! the law of the first table -/
section
variable {P : Program} {w : World} {K : PySem.W.Frag} {mg : Str → Option Value} {base : Heap} {CX : CXT} {C : Addr} {e : Ad}
theorem sc_law : FnScope ["script", "most", "rules", "handed", "found", "due", "wives", "heirs"] ["script"] (defScope (top 53)) := ⟨rfl, rfl, rfl, by decide +kernel, rfl, by decide +kernel, by decide +kernel⟩
theorem ok_law {f : Addr} {fd : FuncData} (F : Fun K "law" "law" (top 53) f fd) (T : Txt K mg C e) (hE : NoE (CXR P w))
    (D__law_cell_at : Def P w K mg base (CXR P w) "_law_cell_at" 1 ["script", "k"] (spCellAt K)) (D__law_four : Def P w K mg base (CXR P w) "_law_four" 10 ["script"] (spLaw K)) (D__law_rules_by : Def P w K mg base (CXR P w) "_law_rules_by" 3 ["script", "start", "count"] (spRulesBy K))
    (D_first_table : Def P w K mg base (CXR P w) "first_table" 9 ["rules", "most"] (spFirstTable C e)) (D__law_first : Def P w K mg base (CXR P w) "_law_first" 5 ["rules", "most"] spLFirst)
    (D__law_same_numbers : Def P w K mg base (CXR P w) "_law_same_numbers" 2 ["found", "due"] spSameN) (D__law_good : Def P w K mg base (CXR P w) "_law_good" 4 ["wives", "heirs", "rules"] spLGood)
    (D_wives : MDef P w K mg base (CXR P w) C "wives" 1 ["self"] (spList C fun w _ => w)) (D_heirs : MDef P w K mg base (CXR P w) C "heirs" 1 ["self"] (spList C fun _ h => h)) :
    FnOk P w K mg base (CXR P w) 11 f fd ["script"] (spLaw K) := by
  refine F.okN sc_law (fun vs H Q E h => ?_) (fun cdv A outer s H vs Q E hr h => ?_)
  · obtain ⟨a, ns, rfl, _⟩ := h; rfl
  · obtain ⟨a, ns, rfl, n63, hS, k⟩ := h
    have nd := sc_law.nd
    have hu := hr.units0
    have big : 1000 ≤ sizeLine := by decide
    refine ⟨_, (pss_cons (ps_if (pt_cmpR op_eq (pe_op op_mod (pe_op op_fdiv (pe_callD D__law_cell_at hE hr rfl (pa_cons (pv 0) (pa_cons pe_int pa_nil))) pe_int) pe_int) pe_int (nomark _)) (pss_one (ps_ret (pe_callD D__law_four hE hr rfl (pa_cons (pv 0) pa_nil)))) pss_nil)
      (pss_cons (ps_set (i := 1) nd rfl (Or.inl rfl) (pe_op op_add pe_int (pe_op op_mod (pe_callD D__law_cell_at hE hr rfl (pa_cons (pv 0) (pa_cons pe_int pa_nil))) pe_int)))
      (pss_cons (ps_join (ps_if (pt_cmpR op_eq (pe_op op_mod (pe_op op_fdiv (pe_callD D__law_cell_at hE hr rfl (pa_cons (pv 0) (pa_cons pe_int pa_nil))) pe_int) pe_int) pe_int (nomark _)) (pss_one (ps_set (i := 1) nd rfl (Or.inl rfl) pe_int)) pss_nil))
      (pss_cons (ps_set (i := 2) nd rfl (Or.inl rfl) (pe_callD D__law_rules_by hE hr rfl (pa_cons (pv 0) (pa_cons pe_int (pa_cons (pe_op op_mod (pe_callD D__law_cell_at hE hr rfl (pa_cons (pv 0) (pa_cons pe_int pa_nil))) pe_int) pa_nil)))))
      (pss_cons (ps_set (i := 3) nd rfl (Or.inl rfl) (pe_callTy call_list_of rfl T.z_list bt_list (pa_cons (pv 2) pa_nil)))
      (pss_cons (ps_set (i := 4) nd rfl (Or.inl rfl) (pe_callD D_first_table hE hr rfl (pa_cons (pv 3) (pa_cons (pv 1) pa_nil))))
      (pss_cons (ps_set (i := 5) nd rfl (Or.inl rfl) (pe_callD D__law_first hE hr rfl (pa_cons (pv 2) (pa_cons (pe_callB (call_min2 rfl) rfl T.z_min bt_min (pa_cons (pv 1) (pa_cons pe_int pa_nil))) pa_nil))))
      (pss_cons (ps_if (pt_cmpR (op_neS hu) (pv 3) (pv 2) (nomark _)) (pss_one (ps_ret pe_bl)) pss_nil)
      (pss_cons (ps_if (pt_cmpR op_notN (pv 5) pe_non (nomark _)) (pss_one (ps_ret (pe_and (pe_callD D__law_same_numbers hE hr rfl (pa_cons (pe_methD0 (pv 4) T.cl_Table D_wives hE hr) (pa_cons (pe_ix ix_list (pv 5) pe_int (fun _ _ => rfl)) pa_nil))) (pe_one (pe_callD D__law_same_numbers hE hr rfl (pa_cons (pe_methD0 (pv 4) T.cl_Table D_heirs hE hr) (pa_cons (pe_ix ix_list (pv 5) pe_int (fun _ _ => rfl)) pa_nil))))))) pss_nil)
      (pss_cons (ps_if (PW.pt (pw_or (pt_cmpR op_lt (pv 1) pe_int (nomark _)) (pw_or1 (pt_cmpR op_isN (pv 4) pe_non (nomark _))))) (pss_one (ps_ret (pe_cmpR op_isN (pv 4) pe_non (nomark _)))) pss_nil)
      (pss_cons (ps_set (i := 6) nd rfl (Or.inl rfl) (pe_methD0 (pv 4) T.cl_Table D_wives hE hr))
      (pss_cons (ps_set (i := 7) nd rfl (Or.inl rfl) (pe_methD0 (pv 4) T.cl_Table D_heirs hE hr))
      (pss_cons (ps_if (PW.pt (pw_or (pt_cmpR (op_neL hu) (pe_callB call_sorted rfl T.z_sorted bt_sorted (pa_cons (pv 6) pa_nil)) (pe_lst (pa_cons pe_int (pa_cons pe_int (pa_cons pe_int (pa_cons pe_int pa_nil))))) (nomark _)) (pw_or1 (pt_cmpR (op_neL hu) (pe_callB call_sorted rfl T.z_sorted bt_sorted (pa_cons (pv 7) pa_nil)) (pe_lst (pa_cons pe_int (pa_cons pe_int (pa_cons pe_int (pa_cons pe_int pa_nil))))) (nomark _))))) (pss_one (ps_ret pe_bl)) pss_nil)
      (pss_one (ps_ret (pe_callD D__law_good hE hr rfl (pa_cons (pv 6) (pa_cons (pv 7) (pa_cons (pv 2) pa_nil))))))))))))))))))), ?_⟩
    refine ⟨_, rfl, a, ns, 0, rfl, hS, fun z0 => ⟨_, _, rfl, rfl, ⟨by decide, by decide⟩, _, _, rfl, rfl, (show (0 : Int) < 4 by decide), rfl, _, rfl, iteD2 (fun _ => ?_) (fun _ => ?_)⟩⟩
    · exact ⟨_, rfl, a, ns, rfl, n63, hS, fun H' => k H'⟩
    refine ⟨_, rfl, a, ns, 0, rfl, hS, fun z1 => ⟨_, _, rfl, rfl, (show (0 : Int) < 3 by decide), _, _, rfl, rfl, ?_⟩⟩
    walk_at "ns"
    refine ⟨fun σ' H' => ∃ m : Nat, 1 ≤ m ∧ m ≤ 4 ∧ σ' = [some (.ref a), some (nat m), none, none, none, none, none, none] ∧ H' = H, ?_, ?_⟩
    · refine ⟨_, rfl, a, ns, 0, rfl, hS, fun z2 => ⟨_, _, rfl, rfl, ⟨by decide, by decide⟩, _, _, rfl, rfl, (show (0 : Int) < 8 by decide), rfl, _, rfl, iteD2 (fun _ => ?_) (fun _ => ?_)⟩⟩
      · exact ⟨4, by decide, by decide, rfl, rfl⟩
      · obtain ⟨q, hq, q3⟩ := emod_nat z1 (show 0 < 3 by decide)
        refine ⟨1 + q, by omega, by omega, ?_, rfl⟩
        have : (1 : Int) + z1 % 3 = ((1 + q : Nat) : Int) := by rw [show z1 % 3 = (q : Int) from hq, Int.natCast_add]; rfl
        show [some (V.ref a), some (V.int (1 + z1 % 3)), none, none, none, none, none, none] = [some (V.ref a), some (V.int ((1 + q : Nat) : Int)), none, none, none, none, none, none]
        rw [this]
    rintro σ' H' ⟨m, m1, m4, rfl, rfl⟩
    refine ⟨_, rfl, _, rfl, a, ns, 1, rfl, hS, fun z3 => ⟨_, _, rfl, rfl, (show (0 : Int) < 4 by decide), ?_⟩⟩
    dsimp only
    obtain ⟨q4, hq4, q4lt⟩ := emod_nat z3 (show 0 < 4 by decide)
    rw [show z3 % 4 = (q4 : Int) from hq4]
    refine ⟨a, ns, 2, q4, rfl, hS, by omega, fun R ps rs H5 hR s5 gR rf rl good => ?_⟩
    have ok : Okay rs := ⟨by omega, fun r hr => ⟨Nat.le_trans (good r hr).1.1 (by decide), (good r hr).1.sg⟩⟩
    walk_at "ns"
    refine ⟨_, rfl, R, _, rfl, .inl (SqL.of gR), fun L hL => ?_⟩
    have s6 := same_new (o := .lst (ps.map V.ref)) hL
    have f6 : (upd H5 L (.lst (ps.map V.ref))) L = some (.lst (ps.map V.ref)) := upd_same
    generalize upd H5 L (.lst (ps.map V.ref)) = H6 at s6 f6
    have gR6 := s6 _ _ gR
    have rf6 := rf.same s6
    have em : (if (3 : Int) < (m : Int) then (3 : Int) else (m : Int)) = ((min m 3 : Nat) : Int) := by split <;> omega
    have sees : (ps.map V.ref).all seenV = true := by rw [List.all_map]; exact List.all_eq_true.mpr fun _ _ => rfl
    have flats : ∀ y ∈ ps.map V.ref, flatV y = true → eqV y y = true := fun y hy hf => by
      obtain ⟨p, _, rfl⟩ := List.mem_map.mp hy
      cases hf
    walk_at "ns"
    refine ⟨_, rfl, _, rfl, L, ps, rs, m, rfl, f6, rf6, ok, good, m4, fun no H7 s7 => ?_, fun n w1 h1 e4 x H7 hx s7 TA => ?_⟩
    · have gL7 := s7 _ _ f6
      have gR7 := s7 _ _ gR6
      have nu : ∀ q, upT rs (min m 3) ≠ some q := fun q z => by
        have := up_mono z (m - min m 3)
        rw [show min m 3 + (m - min m 3) = m by omega, no] at this
        cases this
      walk_at "ns"
      refine ⟨_, rfl, _, rfl, _, _, rfl, R, ps, rs, min m 3, by show [V.ref R, V.int (if (3 : Int) < (m : Int) then 3 else (m : Int))] = [V.ref R, nat (min m 3)]; rw [em], gR7, rf6.same s7, good, by omega, by omega, fun _ H8 s8 => ?_, fun n3 w3 h3 e3 => absurd e3 (nu _)⟩
      walk_at "ns"
      refine ⟨_, rfl, _, rfl, L, R, _, rfl, rfl, SqL.of (s8 _ _ gL7), SqL.of (s8 _ _ gR7), sees, flats, _, rfl, iteF ?_⟩
      refine ⟨_, rfl, rfl, _, rfl, iteF ?_⟩
      refine ⟨_, rfl, _, _, rfl, rfl, _, rfl, ?_⟩
      refine iteB (fun _ => ?_) (fun _ => ?_)
      · exact iteT ⟨_, rfl, rfl, k _⟩
      · exact ⟨_, rfl, rfl, _, rfl, iteT ⟨_, rfl, rfl, k _⟩⟩
    · have s67 := s6.trans s7
      have gL7 := s7 _ _ f6
      have gR7 := s7 _ _ gR6
      have rf7 := rf6.same s7
      obtain ⟨a1', a2', t1, t2, gd⟩ := up_some e4
      walk_at "ns"
      refine ⟨_, rfl, _, rfl, _, _, rfl, R, ps, rs, min m 3, by show [V.ref R, V.int (if (3 : Int) < (m : Int) then 3 else (m : Int))] = [V.ref R, nat (min m 3)]; rw [em], gR7, rf7, good, by omega, by omega, fun no H8 s8 => ?_, fun n3 w3 h3 e3 D8 p8 q8 H8 s8 g8 gp8 gq8 => ?_⟩
      · have m3 : ¬ m ≤ 3 := fun z => by
          rw [show min m 3 = m by omega, e4] at no
          cases no
        obtain rfl : m = 4 := by omega
        have no : upT rs 3 = none := no
        have n4 := up_four no
        rw [e4] at n4
        obtain ⟨q, hq, eq⟩ := Option.map_eq_some_iff.mp n4.symm
        cases eq
        have TA8 := TA.same s8
        obtain ⟨dx, a1, b1, c1, d1, e1, -, -, -, -⟩ := TA8.ob
        have f5 : (flds a1 b1 c1 d1).lookup ("wives" : Str) = none := flds_no _ _ _ _ (by decide +kernel) (by decide +kernel) (by decide +kernel) (by decide +kernel)
        have f6' : (flds a1 b1 c1 d1).lookup ("heirs" : Str) = none := flds_no _ _ _ _ (by decide +kernel) (by decide +kernel) (by decide +kernel) (by decide +kernel)
        walk_at "ns"
        refine ⟨_, rfl, _, rfl, L, R, _, rfl, rfl, SqL.of (s8 _ _ gL7), SqL.of (s8 _ _ gR7), sees, flats, _, rfl, iteF ?_⟩
        refine ⟨_, rfl, rfl, _, rfl, iteF ?_⟩
        refine ⟨_, rfl, _, _, rfl, rfl, _, rfl, iteF ?_⟩
        refine ⟨_, rfl, rfl, _, rfl, iteF ?_⟩
        -- wives, heirs
        refine ⟨_, rfl, x, dx, _, rfl, e1, f5, x, 4, w1, h1, rfl, TA8, fun l1 hl1 => ?_⟩
        have u1 := same_new (o := .lst (natL w1)) hl1
        have r1 : (upd H8 l1 (.lst (natL w1))) l1 = some (.lst (natL w1)) := upd_same
        generalize upd H8 l1 (.lst (natL w1)) = G1 at u1 r1
        walk_at "ns"
        refine ⟨_, rfl, x, dx, _, rfl, u1 _ _ e1, f6', x, 4, w1, h1, rfl, TA8.same u1, fun l4 hl4 => ?_⟩
        have u2' := same_new (o := .lst (natL h1)) hl4
        have r4 : (upd G1 l4 (.lst (natL h1))) l4 = some (.lst (natL h1)) := upd_same
        generalize upd G1 l4 (.lst (natL h1)) = G2 at u2' r4
        have r1 := u2' _ _ r1
        have u2 := u1.trans u2'
        walk_at "ns"
        have wl : w1.length = 4 := t1.len
        have hl : h1.length = 4 := t2.len
        -- sorted(wives)
        refine ⟨_, rfl, l1, intL w1, rfl, SqL.of (by rw [← natL_intL]; exact r1), by rw [intL_len]; omega, fun l2 ns2 hl2 hp hs => ?_⟩
        obtain rfl := sort_turn t1 hp hs
        have u3' := same_new (o := .lst (([0, 1, 2, 3] : List Int).map V.int)) hl2
        have r2 : (upd G2 l2 (.lst (([0, 1, 2, 3] : List Int).map V.int))) l2 = some (.lst (([0, 1, 2, 3] : List Int).map V.int)) := upd_same
        generalize upd G2 l2 (.lst (([0, 1, 2, 3] : List Int).map V.int)) = G3 at u3' r2
        refine ⟨(show 4 ≤ sizeLine by decide), fun l3 hl3 => ?_⟩
        have u4' := same_new (o := .lst [V.int 0, V.int 1, V.int 2, V.int 3]) hl3
        have r3 : (upd G3 l3 (.lst [V.int 0, V.int 1, V.int 2, V.int 3])) l3 = some (.lst [V.int 0, V.int 1, V.int 2, V.int 3]) := upd_same
        generalize upd G3 l3 (.lst [V.int 0, V.int 1, V.int 2, V.int 3]) = G4 at u4' r3
        refine ⟨l2, l3, _, _, rfl, rfl, SqL.of (u4' _ _ r2), SqL.of r3, rfl, rfl, _, rfl, iteF ?_⟩
        have u4 := u3'.trans u4'
        -- sorted(heirs)
        refine ⟨_, rfl, l4, intL h1, rfl, SqL.of (by rw [← natL_intL]; exact u4 _ _ r4), by rw [intL_len]; omega, fun l5 ns5 hl5 hp5 hs5 => ?_⟩
        obtain rfl := sort_turn t2 hp5 hs5
        have u5' := same_new (o := .lst (([0, 1, 2, 3] : List Int).map V.int)) hl5
        have r5 : (upd G4 l5 (.lst (([0, 1, 2, 3] : List Int).map V.int))) l5 = some (.lst (([0, 1, 2, 3] : List Int).map V.int)) := upd_same
        generalize upd G4 l5 (.lst (([0, 1, 2, 3] : List Int).map V.int)) = G5 at u5' r5
        refine ⟨(show 4 ≤ sizeLine by decide), fun l6 hl6 => ?_⟩
        have u6' := same_new (o := .lst [V.int 0, V.int 1, V.int 2, V.int 3]) hl6
        have r6 : (upd G5 l6 (.lst [V.int 0, V.int 1, V.int 2, V.int 3])) l6 = some (.lst [V.int 0, V.int 1, V.int 2, V.int 3]) := upd_same
        generalize upd G5 l6 (.lst [V.int 0, V.int 1, V.int 2, V.int 3]) = G6 at u6' r6
        refine ⟨l5, l6, _, _, rfl, rfl, SqL.of (u6' _ _ r5), SqL.of r6, rfl, rfl, _, rfl, iteF ?_⟩
        have u6 := u4.trans (u5'.trans u6')
        have v02 := s8.trans (u2.trans u6)
        refine ⟨_, rfl, _, rfl, _, rfl, l1, l4, R, 4, w1, h1, ps, rs, rfl, u6 _ _ r1, u6 _ _ r4, v02 _ _ gR7, rf7.same v02, good, by omega, t1, t2, by decide, by decide, fun xb G9 v9' hxb => ?_⟩
        obtain rfl : xb = true := hxb.mpr gd
        exact k _
      · have e43 := up_mono e3 (m - min m 3)
        rw [show min m 3 + (m - min m 3) = m by omega, e4] at e43
        cases Option.some.inj e43
        have TA8 := TA.same s8
        obtain ⟨dx, a1, b1, c1, d1, e1, -, -, -, -⟩ := TA8.ob
        have f5 : (flds a1 b1 c1 d1).lookup ("wives" : Str) = none := flds_no _ _ _ _ (by decide +kernel) (by decide +kernel) (by decide +kernel) (by decide +kernel)
        have f6' : (flds a1 b1 c1 d1).lookup ("heirs" : Str) = none := flds_no _ _ _ _ (by decide +kernel) (by decide +kernel) (by decide +kernel) (by decide +kernel)
        walk_at "ns"
        refine ⟨_, rfl, _, rfl, L, R, _, rfl, rfl, SqL.of (s8 _ _ gL7), SqL.of (s8 _ _ gR7), sees, flats, _, rfl, iteF ?_⟩
        refine ⟨_, rfl, rfl, _, rfl, iteT ?_⟩
        refine ⟨_, rfl, x, dx, _, rfl, e1, f5, x, n, w1, h1, rfl, TA8, fun l1 hl1 => ?_⟩
        have t1 := same_new (o := .lst (natL w1)) hl1
        have r1 : (upd H8 l1 (.lst (natL w1))) l1 = some (.lst ((intL w1).map V.int)) := by rw [upd_same, natL_intL]
        generalize upd H8 l1 (.lst (natL w1)) = H9 at t1 r1
        have wl : w1.length ≤ 8 := by rw [TA.tw.len]; exact TA.n8
        have hl : h1.length ≤ 8 := by rw [TA.th.len]; exact TA.n8
        refine ⟨_, rfl, D8, _, _, _, rfl, rfl, SqL.of (t1 _ _ g8), rfl, l1, p8, _, _, rfl, r1, by rw [← natL_intL]; exact t1 _ _ gp8, by rw [intL_len]; omega, ?_⟩
        rw [decide_eq_true rfl]
        refine ⟨_, rfl, iteT ?_⟩
        refine ⟨_, rfl, x, dx, _, rfl, t1 _ _ e1, f6', x, n, w1, h1, rfl, TA8.same t1, fun l2 hl2 => ?_⟩
        have t2 := same_new (o := .lst (natL h1)) hl2
        have r2 : (upd H9 l2 (.lst (natL h1))) l2 = some (.lst ((intL h1).map V.int)) := by rw [upd_same, natL_intL]
        generalize upd H9 l2 (.lst (natL h1)) = H10 at t2 r2
        refine ⟨_, rfl, D8, _, _, _, rfl, rfl, SqL.of (t2 _ _ (t1 _ _ g8)), rfl, l2, q8, _, _, rfl, r2, by rw [← natL_intL]; exact t2 _ _ (t1 _ _ gq8), by rw [intL_len]; omega, ?_⟩
        rw [decide_eq_true rfl]
        exact k _
end


set_option maxHeartbeats 0 in
theorem all_mk {l : PySem.W.OpenLaw} {w : World} {K : PySem.W.Frag} {h : Heap} {mg : Str → Option Value} {fa : Addr} (X : K.In h) (G : h.Ns mainGlobals mg) (hfa : mg "law" = some (.ref fa))
    {a_KinError : Addr}
    {a_NoTable : Addr}
    {a_NoClass : Addr}
    {a_NoWalk : Addr}
    {a_NoRule : Addr}
    {a_Table : Addr}
    {a_WORDS : Addr} {od_WORDS : Option Addr} {nn_WORDS : Nat} {sl_WORDS : Array (Option Value)} {tk0_WORDS : Tok} {tk1_WORDS : Tok}
    {oc_d__law_cell_at kV_d__law_cell_at dc_d__law_cell_at pm_d__law_cell_at cd_d__law_cell_at ct_d__law_cell_at : Value} {od_d__law_cell_at an_d__law_cell_at : Option Addr} {sl_d__law_cell_at : Array (Option Value)} {f_d__law_cell_at : Addr}
    {oc_d__law_turn_by kV_d__law_turn_by dc_d__law_turn_by pm_d__law_turn_by cd_d__law_turn_by ct_d__law_turn_by : Value} {od_d__law_turn_by an_d__law_turn_by : Option Addr} {sl_d__law_turn_by : Array (Option Value)} {f_d__law_turn_by : Addr}
    {oc_d__law_one_part kV_d__law_one_part dc_d__law_one_part pm_d__law_one_part cd_d__law_one_part ct_d__law_one_part : Value} {od_d__law_one_part an_d__law_one_part : Option Addr} {sl_d__law_one_part : Array (Option Value)} {f_d__law_one_part : Addr}
    {oc_d__law_step kV_d__law_step dc_d__law_step pm_d__law_step cd_d__law_step ct_d__law_step : Value} {od_d__law_step an_d__law_step : Option Addr} {sl_d__law_step : Array (Option Value)} {f_d__law_step : Addr}
    {oc_d__law_led kV_d__law_led dc_d__law_led pm_d__law_led cd_d__law_led ct_d__law_led : Value} {od_d__law_led an_d__law_led : Option Addr} {sl_d__law_led : Array (Option Value)} {f_d__law_led : Addr}
    {oc_d__law_kept_rules kV_d__law_kept_rules dc_d__law_kept_rules pm_d__law_kept_rules cd_d__law_kept_rules ct_d__law_kept_rules : Value} {od_d__law_kept_rules an_d__law_kept_rules : Option Addr} {sl_d__law_kept_rules : Array (Option Value)} {f_d__law_kept_rules : Addr}
    {oc_d_check_walk kV_d_check_walk dc_d_check_walk pm_d_check_walk cd_d_check_walk ct_d_check_walk : Value} {od_d_check_walk an_d_check_walk : Option Addr} {sl_d_check_walk : Array (Option Value)} {f_d_check_walk : Addr}
    {oc_d_partner_sex kV_d_partner_sex dc_d_partner_sex pm_d_partner_sex cd_d_partner_sex ct_d_partner_sex : Value} {od_d_partner_sex an_d_partner_sex : Option Addr} {sl_d_partner_sex : Array (Option Value)} {f_d_partner_sex : Addr}
    {oc_d_sex_after kV_d_sex_after dc_d_sex_after pm_d_sex_after cd_d_sex_after ct_d_sex_after : Value} {od_d_sex_after an_d_sex_after : Option Addr} {sl_d_sex_after : Array (Option Value)} {f_d_sex_after : Addr}
    {oc_d_end_sex kV_d_end_sex dc_d_end_sex pm_d_end_sex cd_d_end_sex ct_d_end_sex : Value} {od_d_end_sex an_d_end_sex : Option Addr} {sl_d_end_sex : Array (Option Value)} {f_d_end_sex : Addr}
    {oc_d_check_rule kV_d_check_rule dc_d_check_rule pm_d_check_rule cd_d_check_rule ct_d_check_rule : Value} {od_d_check_rule an_d_check_rule : Option Addr} {sl_d_check_rule : Array (Option Value)} {f_d_check_rule : Addr}
    {oc_d_check_rules kV_d_check_rules dc_d_check_rules pm_d_check_rules cd_d_check_rules ct_d_check_rules : Value} {od_d_check_rules an_d_check_rules : Option Addr} {sl_d_check_rules : Array (Option Value)} {f_d_check_rules : Addr}
    {oc_d_all_turns kV_d_all_turns dc_d_all_turns pm_d_all_turns cd_d_all_turns ct_d_all_turns : Value} {od_d_all_turns an_d_all_turns : Option Addr} {sl_d_all_turns : Array (Option Value)} {f_d_all_turns : Addr}
    {oc_d_is_turn kV_d_is_turn dc_d_is_turn pm_d_is_turn cd_d_is_turn ct_d_is_turn : Value} {od_d_is_turn an_d_is_turn : Option Addr} {sl_d_is_turn : Array (Option Value)} {f_d_is_turn : Addr}
    {oc_d_turned_back kV_d_turned_back dc_d_turned_back pm_d_turned_back cd_d_turned_back ct_d_turned_back : Value} {od_d_turned_back an_d_turned_back : Option Addr} {sl_d_turned_back : Array (Option Value)} {f_d_turned_back : Addr}
    {oc_m_Table___init__ kV_m_Table___init__ dc_m_Table___init__ pm_m_Table___init__ cd_m_Table___init__ ct_m_Table___init__ : Value} {od_m_Table___init__ an_m_Table___init__ : Option Addr} {sl_m_Table___init__ : Array (Option Value)} {f_m_Table___init__ : Addr}
    {oc_m_size kV_m_size dc_m_size pm_m_size cd_m_size ct_m_size : Value} {od_m_size an_m_size : Option Addr} {sl_m_size : Array (Option Value)} {f_m_size : Addr}
    {oc_m_check_class kV_m_check_class dc_m_check_class pm_m_check_class cd_m_check_class ct_m_check_class : Value} {od_m_check_class an_m_check_class : Option Addr} {sl_m_check_class : Array (Option Value)} {f_m_check_class : Addr}
    {oc_m_wife_of kV_m_wife_of dc_m_wife_of pm_m_wife_of cd_m_wife_of ct_m_wife_of : Value} {od_m_wife_of an_m_wife_of : Option Addr} {sl_m_wife_of : Array (Option Value)} {f_m_wife_of : Addr}
    {oc_m_heir_of kV_m_heir_of dc_m_heir_of pm_m_heir_of cd_m_heir_of ct_m_heir_of : Value} {od_m_heir_of an_m_heir_of : Option Addr} {sl_m_heir_of : Array (Option Value)} {f_m_heir_of : Addr}
    {oc_d_part_with kV_d_part_with dc_d_part_with pm_d_part_with cd_d_part_with ct_d_part_with : Value} {od_d_part_with an_d_part_with : Option Addr} {sl_d_part_with : Array (Option Value)} {f_d_part_with : Addr}
    {oc_d_parts kV_d_parts dc_d_parts pm_d_parts cd_d_parts ct_d_parts : Value} {od_d_parts an_d_parts : Option Addr} {sl_d_parts : Array (Option Value)} {f_d_parts : Addr}
    {oc_d_ring_lengths kV_d_ring_lengths dc_d_ring_lengths pm_d_ring_lengths cd_d_ring_lengths ct_d_ring_lengths : Value} {od_d_ring_lengths an_d_ring_lengths : Option Addr} {sl_d_ring_lengths : Array (Option Value)} {f_d_ring_lengths : Addr}
    {oc_d_wives_to_try kV_d_wives_to_try dc_d_wives_to_try pm_d_wives_to_try cd_d_wives_to_try ct_d_wives_to_try : Value} {od_d_wives_to_try an_d_wives_to_try : Option Addr} {sl_d_wives_to_try : Array (Option Value)} {f_d_wives_to_try : Addr}
    {oc_m_father_of kV_m_father_of dc_m_father_of pm_m_father_of cd_m_father_of ct_m_father_of : Value} {od_m_father_of an_m_father_of : Option Addr} {sl_m_father_of : Array (Option Value)} {f_m_father_of : Addr}
    {oc_m_husband_of kV_m_husband_of dc_m_husband_of pm_m_husband_of cd_m_husband_of ct_m_husband_of : Value} {od_m_husband_of an_m_husband_of : Option Addr} {sl_m_husband_of : Array (Option Value)} {f_m_husband_of : Addr}
    {oc_d_partner_class kV_d_partner_class dc_d_partner_class pm_d_partner_class cd_d_partner_class ct_d_partner_class : Value} {od_d_partner_class an_d_partner_class : Option Addr} {sl_d_partner_class : Array (Option Value)} {f_d_partner_class : Addr}
    {oc_d_child_class kV_d_child_class dc_d_child_class pm_d_child_class cd_d_child_class ct_d_child_class : Value} {od_d_child_class an_d_child_class : Option Addr} {sl_d_child_class : Array (Option Value)} {f_d_child_class : Addr}
    {oc_d_class_after kV_d_class_after dc_d_class_after pm_d_class_after cd_d_class_after ct_d_class_after : Value} {od_d_class_after an_d_class_after : Option Addr} {sl_d_class_after : Array (Option Value)} {f_d_class_after : Addr}
    {oc_d_walked kV_d_walked dc_d_walked pm_d_walked cd_d_walked ct_d_walked : Value} {od_d_walked an_d_walked : Option Addr} {sl_d_walked : Array (Option Value)} {f_d_walked : Addr}
    {oc_d_breaking_class kV_d_breaking_class dc_d_breaking_class pm_d_breaking_class cd_d_breaking_class ct_d_breaking_class : Value} {od_d_breaking_class an_d_breaking_class : Option Addr} {sl_d_breaking_class : Array (Option Value)} {f_d_breaking_class : Addr}
    {oc_d_first_breach kV_d_first_breach dc_d_first_breach pm_d_first_breach cd_d_first_breach ct_d_first_breach : Value} {od_d_first_breach an_d_first_breach : Option Addr} {sl_d_first_breach : Array (Option Value)} {f_d_first_breach : Addr}
    {oc_d_first_of_size kV_d_first_of_size dc_d_first_of_size pm_d_first_of_size cd_d_first_of_size ct_d_first_of_size : Value} {od_d_first_of_size an_d_first_of_size : Option Addr} {sl_d_first_of_size : Array (Option Value)} {f_d_first_of_size : Addr}
    {oc_d_first_table kV_d_first_table dc_d_first_table pm_d_first_table cd_d_first_table ct_d_first_table : Value} {od_d_first_table an_d_first_table : Option Addr} {sl_d_first_table : Array (Option Value)} {f_d_first_table : Addr}
    {oc_d__law_turns kV_d__law_turns dc_d__law_turns pm_d__law_turns cd_d__law_turns ct_d__law_turns : Value} {od_d__law_turns an_d__law_turns : Option Addr} {sl_d__law_turns : Array (Option Value)} {f_d__law_turns : Addr}
    {oc_d__law_breach kV_d__law_breach dc_d__law_breach pm_d__law_breach cd_d__law_breach ct_d__law_breach : Value} {od_d__law_breach an_d__law_breach : Option Addr} {sl_d__law_breach : Array (Option Value)} {f_d__law_breach : Addr}
    {oc_d__law_good kV_d__law_good dc_d__law_good pm_d__law_good cd_d__law_good ct_d__law_good : Value} {od_d__law_good an_d__law_good : Option Addr} {sl_d__law_good : Array (Option Value)} {f_d__law_good : Addr}
    {oc_d__law_first kV_d__law_first dc_d__law_first pm_d__law_first cd_d__law_first ct_d__law_first : Value} {od_d__law_first an_d__law_first : Option Addr} {sl_d__law_first : Array (Option Value)} {f_d__law_first : Addr}
    {oc_d__law_whole kV_d__law_whole dc_d__law_whole pm_d__law_whole cd_d__law_whole ct_d__law_whole : Value} {od_d__law_whole an_d__law_whole : Option Addr} {sl_d__law_whole : Array (Option Value)} {f_d__law_whole : Addr}
    {oc_d__law_same_numbers kV_d__law_same_numbers dc_d__law_same_numbers pm_d__law_same_numbers cd_d__law_same_numbers ct_d__law_same_numbers : Value} {od_d__law_same_numbers an_d__law_same_numbers : Option Addr} {sl_d__law_same_numbers : Array (Option Value)} {f_d__law_same_numbers : Addr}
    {oc_m_wives kV_m_wives dc_m_wives pm_m_wives cd_m_wives ct_m_wives : Value} {od_m_wives an_m_wives : Option Addr} {sl_m_wives : Array (Option Value)} {f_m_wives : Addr}
    {oc_m_heirs kV_m_heirs dc_m_heirs pm_m_heirs cd_m_heirs ct_m_heirs : Value} {od_m_heirs an_m_heirs : Option Addr} {sl_m_heirs : Array (Option Value)} {f_m_heirs : Addr}
    {oc_d__law_four kV_d__law_four dc_d__law_four pm_d__law_four cd_d__law_four ct_d__law_four : Value} {od_d__law_four an_d__law_four : Option Addr} {sl_d__law_four : Array (Option Value)} {f_d__law_four : Addr}
    {oc_d__law_walk_by kV_d__law_walk_by dc_d__law_walk_by pm_d__law_walk_by cd_d__law_walk_by ct_d__law_walk_by : Value} {od_d__law_walk_by an_d__law_walk_by : Option Addr} {sl_d__law_walk_by : Array (Option Value)} {f_d__law_walk_by : Addr}
    {oc_d__law_woman_walk kV_d__law_woman_walk dc_d__law_woman_walk pm_d__law_woman_walk cd_d__law_woman_walk ct_d__law_woman_walk : Value} {od_d__law_woman_walk an_d__law_woman_walk : Option Addr} {sl_d__law_woman_walk : Array (Option Value)} {f_d__law_woman_walk : Addr}
    {oc_d__law_rules_by kV_d__law_rules_by dc_d__law_rules_by pm_d__law_rules_by cd_d__law_rules_by ct_d__law_rules_by : Value} {od_d__law_rules_by an_d__law_rules_by : Option Addr} {sl_d__law_rules_by : Array (Option Value)} {f_d__law_rules_by : Addr}
    {oc_d_law kV_d_law dc_d_law pm_d_law cd_d_law ct_d_law : Value} {od_d_law an_d_law : Option Addr} {sl_d_law : Array (Option Value)} {f_d_law : Addr}
    {t_MOST_CLASSES : Tok}
    {t_LETTERS : Tok}
    {t_LETTERS_TO_MEN : Tok}
    {t_MOST_LETTERS : Tok}
    (b_KinError : PySem.W.nsIn K mainGlobals "KinError" = some (some (.ref a_KinError)))
    (b_NoTable : PySem.W.nsIn K mainGlobals "NoTable" = some (some (.ref a_NoTable)))
    (b_NoClass : PySem.W.nsIn K mainGlobals "NoClass" = some (some (.ref a_NoClass)))
    (b_NoWalk : PySem.W.nsIn K mainGlobals "NoWalk" = some (some (.ref a_NoWalk)))
    (b_NoRule : PySem.W.nsIn K mainGlobals "NoRule" = some (some (.ref a_NoRule)))
    (b_Table : PySem.W.nsIn K mainGlobals "Table" = some (some (.ref a_Table)))
    (b_WORDS : PySem.W.nsIn K mainGlobals "WORDS" = some (some (.ref a_WORDS)))
    (lk_WORDS : K.lookup a_WORDS = some ⟨.type "tuple", od_WORDS, .seq #[.str "may" tk0_WORDS, .str "never" tk1_WORDS] nn_WORDS, sl_WORDS⟩)
    (pg_Table : PySem.W.plainGet K a_Table Str.empty = true)
    (hd_Table : PySem.W.hasDictIn K a_Table = true)
    (po_Table : PySem.W.plainOver K a_Table = true)
    (sa_Table : PySem.W.findIn K (.ref a_Table) "__setattr__" = some (some (.builtin "object.__setattr__")))
    (mk_Table : PySem.W.makesIn K a_Table = true)
    (kc_Table : PySem.W.keepIn K (.ref a_Table) = true)
    (n_wife_turn : PySem.W.findIn K (.ref a_Table) "wife_turn" = some none)
    (n_heir_turn : PySem.W.findIn K (.ref a_Table) "heir_turn" = some none)
    (n_husband_turn : PySem.W.findIn K (.ref a_Table) "husband_turn" = some none)
    (n_father_turn : PySem.W.findIn K (.ref a_Table) "father_turn" = some none)
    (kd1 : PySem.W.specialIn K (.builtin "object.__class__") "__get__" = some (some (.builtin "getset_descriptor.__get__")))
    (kd2 : PySem.W.takesIn K (.builtin "object.__class__") = some true)
    (x_NoTable : PySem.W.excIn K a_NoTable bmVE "ValueError.__new__" = true)
    (c1_NoTable : PySem.W.isClsIn K a_NoTable = true)
    (c2_NoTable : PySem.W.findIn K (.ref a_NoTable) "__getattribute__" = some (some (.builtin "BaseException.__getattribute__")))
    (c3_NoTable : PySem.W.findIn K (.ref a_NoTable) "__getattr__" = some none)
    (c4_NoTable : PySem.W.findIn K (.ref a_NoTable) "__class__" = some (some (.builtin "object.__class__")))
    (c5_NoTable : PySem.W.mroIn K a_NoTable (.type "object") = some true)
    (c6_NoTable : PySem.W.mroIn K a_NoTable (.type "BaseException") = some true)
    (w_NoTable : PySem.W.exmOne K (.ref a_NoTable) (.ref a_KinError) = some true)
    (v_NoTable : PySem.W.kitOne K (.ref a_NoTable) (.type "ValueError") = some true)
    (k_NoTable_NoTable : PySem.W.kitOne K (.ref a_NoTable) (.ref a_NoTable) = some true)
    (k_NoTable_NoClass : PySem.W.kitOne K (.ref a_NoTable) (.ref a_NoClass) = some false)
    (k_NoTable_NoWalk : PySem.W.kitOne K (.ref a_NoTable) (.ref a_NoWalk) = some false)
    (k_NoTable_NoRule : PySem.W.kitOne K (.ref a_NoTable) (.ref a_NoRule) = some false)
    (x_NoClass : PySem.W.excIn K a_NoClass bmVE "ValueError.__new__" = true)
    (c1_NoClass : PySem.W.isClsIn K a_NoClass = true)
    (c2_NoClass : PySem.W.findIn K (.ref a_NoClass) "__getattribute__" = some (some (.builtin "BaseException.__getattribute__")))
    (c3_NoClass : PySem.W.findIn K (.ref a_NoClass) "__getattr__" = some none)
    (c4_NoClass : PySem.W.findIn K (.ref a_NoClass) "__class__" = some (some (.builtin "object.__class__")))
    (c5_NoClass : PySem.W.mroIn K a_NoClass (.type "object") = some true)
    (c6_NoClass : PySem.W.mroIn K a_NoClass (.type "BaseException") = some true)
    (w_NoClass : PySem.W.exmOne K (.ref a_NoClass) (.ref a_KinError) = some true)
    (v_NoClass : PySem.W.kitOne K (.ref a_NoClass) (.type "ValueError") = some true)
    (k_NoClass_NoTable : PySem.W.kitOne K (.ref a_NoClass) (.ref a_NoTable) = some false)
    (k_NoClass_NoClass : PySem.W.kitOne K (.ref a_NoClass) (.ref a_NoClass) = some true)
    (k_NoClass_NoWalk : PySem.W.kitOne K (.ref a_NoClass) (.ref a_NoWalk) = some false)
    (k_NoClass_NoRule : PySem.W.kitOne K (.ref a_NoClass) (.ref a_NoRule) = some false)
    (x_NoWalk : PySem.W.excIn K a_NoWalk bmVE "ValueError.__new__" = true)
    (c1_NoWalk : PySem.W.isClsIn K a_NoWalk = true)
    (c2_NoWalk : PySem.W.findIn K (.ref a_NoWalk) "__getattribute__" = some (some (.builtin "BaseException.__getattribute__")))
    (c3_NoWalk : PySem.W.findIn K (.ref a_NoWalk) "__getattr__" = some none)
    (c4_NoWalk : PySem.W.findIn K (.ref a_NoWalk) "__class__" = some (some (.builtin "object.__class__")))
    (c5_NoWalk : PySem.W.mroIn K a_NoWalk (.type "object") = some true)
    (c6_NoWalk : PySem.W.mroIn K a_NoWalk (.type "BaseException") = some true)
    (w_NoWalk : PySem.W.exmOne K (.ref a_NoWalk) (.ref a_KinError) = some true)
    (v_NoWalk : PySem.W.kitOne K (.ref a_NoWalk) (.type "ValueError") = some true)
    (k_NoWalk_NoTable : PySem.W.kitOne K (.ref a_NoWalk) (.ref a_NoTable) = some false)
    (k_NoWalk_NoClass : PySem.W.kitOne K (.ref a_NoWalk) (.ref a_NoClass) = some false)
    (k_NoWalk_NoWalk : PySem.W.kitOne K (.ref a_NoWalk) (.ref a_NoWalk) = some true)
    (k_NoWalk_NoRule : PySem.W.kitOne K (.ref a_NoWalk) (.ref a_NoRule) = some false)
    (x_NoRule : PySem.W.excIn K a_NoRule bmVE "ValueError.__new__" = true)
    (c1_NoRule : PySem.W.isClsIn K a_NoRule = true)
    (c2_NoRule : PySem.W.findIn K (.ref a_NoRule) "__getattribute__" = some (some (.builtin "BaseException.__getattribute__")))
    (c3_NoRule : PySem.W.findIn K (.ref a_NoRule) "__getattr__" = some none)
    (c4_NoRule : PySem.W.findIn K (.ref a_NoRule) "__class__" = some (some (.builtin "object.__class__")))
    (c5_NoRule : PySem.W.mroIn K a_NoRule (.type "object") = some true)
    (c6_NoRule : PySem.W.mroIn K a_NoRule (.type "BaseException") = some true)
    (w_NoRule : PySem.W.exmOne K (.ref a_NoRule) (.ref a_KinError) = some true)
    (v_NoRule : PySem.W.kitOne K (.ref a_NoRule) (.type "ValueError") = some true)
    (k_NoRule_NoTable : PySem.W.kitOne K (.ref a_NoRule) (.ref a_NoTable) = some false)
    (k_NoRule_NoClass : PySem.W.kitOne K (.ref a_NoRule) (.ref a_NoClass) = some false)
    (k_NoRule_NoWalk : PySem.W.kitOne K (.ref a_NoRule) (.ref a_NoWalk) = some false)
    (k_NoRule_NoRule : PySem.W.kitOne K (.ref a_NoRule) (.ref a_NoRule) = some true)
    (a_d__law_cell_at : PySem.W.nsIn K mainGlobals "_law_cell_at" = some (some (.ref f_d__law_cell_at)))
    (l_d__law_cell_at : K.lookup f_d__law_cell_at = some ⟨oc_d__law_cell_at, od_d__law_cell_at, .func (PySem.W.fnOf "_law_cell_at" "_law_cell_at" (defArgs (top 37)) (defBody (top 37)) (defScope (top 37)) .none kV_d__law_cell_at dc_d__law_cell_at pm_d__law_cell_at an_d__law_cell_at cd_d__law_cell_at ct_d__law_cell_at), sl_d__law_cell_at⟩)
    (cc_d__law_cell_at : PySem.W.codeIn K cd_d__law_cell_at "_law_cell_at" = true)
    (kk_d__law_cell_at : PySem.W.keepIn K (.ref f_d__law_cell_at) = true)
    (a_d__law_turn_by : PySem.W.nsIn K mainGlobals "_law_turn_by" = some (some (.ref f_d__law_turn_by)))
    (l_d__law_turn_by : K.lookup f_d__law_turn_by = some ⟨oc_d__law_turn_by, od_d__law_turn_by, .func (PySem.W.fnOf "_law_turn_by" "_law_turn_by" (defArgs (top 39)) (defBody (top 39)) (defScope (top 39)) .none kV_d__law_turn_by dc_d__law_turn_by pm_d__law_turn_by an_d__law_turn_by cd_d__law_turn_by ct_d__law_turn_by), sl_d__law_turn_by⟩)
    (cc_d__law_turn_by : PySem.W.codeIn K cd_d__law_turn_by "_law_turn_by" = true)
    (kk_d__law_turn_by : PySem.W.keepIn K (.ref f_d__law_turn_by) = true)
    (a_d__law_one_part : PySem.W.nsIn K mainGlobals "_law_one_part" = some (some (.ref f_d__law_one_part)))
    (l_d__law_one_part : K.lookup f_d__law_one_part = some ⟨oc_d__law_one_part, od_d__law_one_part, .func (PySem.W.fnOf "_law_one_part" "_law_one_part" (defArgs (top 48)) (defBody (top 48)) (defScope (top 48)) .none kV_d__law_one_part dc_d__law_one_part pm_d__law_one_part an_d__law_one_part cd_d__law_one_part ct_d__law_one_part), sl_d__law_one_part⟩)
    (cc_d__law_one_part : PySem.W.codeIn K cd_d__law_one_part "_law_one_part" = true)
    (kk_d__law_one_part : PySem.W.keepIn K (.ref f_d__law_one_part) = true)
    (a_d__law_step : PySem.W.nsIn K mainGlobals "_law_step" = some (some (.ref f_d__law_step)))
    (l_d__law_step : K.lookup f_d__law_step = some ⟨oc_d__law_step, od_d__law_step, .func (PySem.W.fnOf "_law_step" "_law_step" (defArgs (top 41)) (defBody (top 41)) (defScope (top 41)) .none kV_d__law_step dc_d__law_step pm_d__law_step an_d__law_step cd_d__law_step ct_d__law_step), sl_d__law_step⟩)
    (cc_d__law_step : PySem.W.codeIn K cd_d__law_step "_law_step" = true)
    (kk_d__law_step : PySem.W.keepIn K (.ref f_d__law_step) = true)
    (a_d__law_led : PySem.W.nsIn K mainGlobals "_law_led" = some (some (.ref f_d__law_led)))
    (l_d__law_led : K.lookup f_d__law_led = some ⟨oc_d__law_led, od_d__law_led, .func (PySem.W.fnOf "_law_led" "_law_led" (defArgs (top 42)) (defBody (top 42)) (defScope (top 42)) .none kV_d__law_led dc_d__law_led pm_d__law_led an_d__law_led cd_d__law_led ct_d__law_led), sl_d__law_led⟩)
    (cc_d__law_led : PySem.W.codeIn K cd_d__law_led "_law_led" = true)
    (kk_d__law_led : PySem.W.keepIn K (.ref f_d__law_led) = true)
    (a_d__law_kept_rules : PySem.W.nsIn K mainGlobals "_law_kept_rules" = some (some (.ref f_d__law_kept_rules)))
    (l_d__law_kept_rules : K.lookup f_d__law_kept_rules = some ⟨oc_d__law_kept_rules, od_d__law_kept_rules, .func (PySem.W.fnOf "_law_kept_rules" "_law_kept_rules" (defArgs (top 51)) (defBody (top 51)) (defScope (top 51)) .none kV_d__law_kept_rules dc_d__law_kept_rules pm_d__law_kept_rules an_d__law_kept_rules cd_d__law_kept_rules ct_d__law_kept_rules), sl_d__law_kept_rules⟩)
    (cc_d__law_kept_rules : PySem.W.codeIn K cd_d__law_kept_rules "_law_kept_rules" = true)
    (kk_d__law_kept_rules : PySem.W.keepIn K (.ref f_d__law_kept_rules) = true)
    (a_d_check_walk : PySem.W.nsIn K mainGlobals "check_walk" = some (some (.ref f_d_check_walk)))
    (l_d_check_walk : K.lookup f_d_check_walk = some ⟨oc_d_check_walk, od_d_check_walk, .func (PySem.W.fnOf "check_walk" "check_walk" (defArgs (top 15)) (defBody (top 15)) (defScope (top 15)) .none kV_d_check_walk dc_d_check_walk pm_d_check_walk an_d_check_walk cd_d_check_walk ct_d_check_walk), sl_d_check_walk⟩)
    (cc_d_check_walk : PySem.W.codeIn K cd_d_check_walk "check_walk" = true)
    (kk_d_check_walk : PySem.W.keepIn K (.ref f_d_check_walk) = true)
    (a_d_partner_sex : PySem.W.nsIn K mainGlobals "partner_sex" = some (some (.ref f_d_partner_sex)))
    (l_d_partner_sex : K.lookup f_d_partner_sex = some ⟨oc_d_partner_sex, od_d_partner_sex, .func (PySem.W.fnOf "partner_sex" "partner_sex" (defArgs (top 16)) (defBody (top 16)) (defScope (top 16)) .none kV_d_partner_sex dc_d_partner_sex pm_d_partner_sex an_d_partner_sex cd_d_partner_sex ct_d_partner_sex), sl_d_partner_sex⟩)
    (cc_d_partner_sex : PySem.W.codeIn K cd_d_partner_sex "partner_sex" = true)
    (kk_d_partner_sex : PySem.W.keepIn K (.ref f_d_partner_sex) = true)
    (a_d_sex_after : PySem.W.nsIn K mainGlobals "sex_after" = some (some (.ref f_d_sex_after)))
    (l_d_sex_after : K.lookup f_d_sex_after = some ⟨oc_d_sex_after, od_d_sex_after, .func (PySem.W.fnOf "sex_after" "sex_after" (defArgs (top 17)) (defBody (top 17)) (defScope (top 17)) .none kV_d_sex_after dc_d_sex_after pm_d_sex_after an_d_sex_after cd_d_sex_after ct_d_sex_after), sl_d_sex_after⟩)
    (cc_d_sex_after : PySem.W.codeIn K cd_d_sex_after "sex_after" = true)
    (kk_d_sex_after : PySem.W.keepIn K (.ref f_d_sex_after) = true)
    (a_d_end_sex : PySem.W.nsIn K mainGlobals "end_sex" = some (some (.ref f_d_end_sex)))
    (l_d_end_sex : K.lookup f_d_end_sex = some ⟨oc_d_end_sex, od_d_end_sex, .func (PySem.W.fnOf "end_sex" "end_sex" (defArgs (top 21)) (defBody (top 21)) (defScope (top 21)) .none kV_d_end_sex dc_d_end_sex pm_d_end_sex an_d_end_sex cd_d_end_sex ct_d_end_sex), sl_d_end_sex⟩)
    (cc_d_end_sex : PySem.W.codeIn K cd_d_end_sex "end_sex" = true)
    (kk_d_end_sex : PySem.W.keepIn K (.ref f_d_end_sex) = true)
    (a_d_check_rule : PySem.W.nsIn K mainGlobals "check_rule" = some (some (.ref f_d_check_rule)))
    (l_d_check_rule : K.lookup f_d_check_rule = some ⟨oc_d_check_rule, od_d_check_rule, .func (PySem.W.fnOf "check_rule" "check_rule" (defArgs (top 27)) (defBody (top 27)) (defScope (top 27)) .none kV_d_check_rule dc_d_check_rule pm_d_check_rule an_d_check_rule cd_d_check_rule ct_d_check_rule), sl_d_check_rule⟩)
    (cc_d_check_rule : PySem.W.codeIn K cd_d_check_rule "check_rule" = true)
    (kk_d_check_rule : PySem.W.keepIn K (.ref f_d_check_rule) = true)
    (a_d_check_rules : PySem.W.nsIn K mainGlobals "check_rules" = some (some (.ref f_d_check_rules)))
    (l_d_check_rules : K.lookup f_d_check_rules = some ⟨oc_d_check_rules, od_d_check_rules, .func (PySem.W.fnOf "check_rules" "check_rules" (defArgs (top 28)) (defBody (top 28)) (defScope (top 28)) .none kV_d_check_rules dc_d_check_rules pm_d_check_rules an_d_check_rules cd_d_check_rules ct_d_check_rules), sl_d_check_rules⟩)
    (cc_d_check_rules : PySem.W.codeIn K cd_d_check_rules "check_rules" = true)
    (kk_d_check_rules : PySem.W.keepIn K (.ref f_d_check_rules) = true)
    (a_d_all_turns : PySem.W.nsIn K mainGlobals "all_turns" = some (some (.ref f_d_all_turns)))
    (l_d_all_turns : K.lookup f_d_all_turns = some ⟨oc_d_all_turns, od_d_all_turns, .func (PySem.W.fnOf "all_turns" "all_turns" (defArgs (top 31)) (defBody (top 31)) (defScope (top 31)) .none kV_d_all_turns dc_d_all_turns pm_d_all_turns an_d_all_turns cd_d_all_turns ct_d_all_turns), sl_d_all_turns⟩)
    (cc_d_all_turns : PySem.W.codeIn K cd_d_all_turns "all_turns" = true)
    (kk_d_all_turns : PySem.W.keepIn K (.ref f_d_all_turns) = true)
    (a_d_is_turn : PySem.W.nsIn K mainGlobals "is_turn" = some (some (.ref f_d_is_turn)))
    (l_d_is_turn : K.lookup f_d_is_turn = some ⟨oc_d_is_turn, od_d_is_turn, .func (PySem.W.fnOf "is_turn" "is_turn" (defArgs (top 8)) (defBody (top 8)) (defScope (top 8)) .none kV_d_is_turn dc_d_is_turn pm_d_is_turn an_d_is_turn cd_d_is_turn ct_d_is_turn), sl_d_is_turn⟩)
    (cc_d_is_turn : PySem.W.codeIn K cd_d_is_turn "is_turn" = true)
    (kk_d_is_turn : PySem.W.keepIn K (.ref f_d_is_turn) = true)
    (a_d_turned_back : PySem.W.nsIn K mainGlobals "turned_back" = some (some (.ref f_d_turned_back)))
    (l_d_turned_back : K.lookup f_d_turned_back = some ⟨oc_d_turned_back, od_d_turned_back, .func (PySem.W.fnOf "turned_back" "turned_back" (defArgs (top 9)) (defBody (top 9)) (defScope (top 9)) .none kV_d_turned_back dc_d_turned_back pm_d_turned_back an_d_turned_back cd_d_turned_back ct_d_turned_back), sl_d_turned_back⟩)
    (cc_d_turned_back : PySem.W.codeIn K cd_d_turned_back "turned_back" = true)
    (kk_d_turned_back : PySem.W.keepIn K (.ref f_d_turned_back) = true)
    (a_m_Table___init__ : PySem.W.findIn K (.ref a_Table) "__init__" = some (some (.ref f_m_Table___init__)))
    (i_m_Table___init__ : PySem.W.isFn K (.ref f_m_Table___init__) = true)
    (l_m_Table___init__ : K.lookup f_m_Table___init__ = some ⟨oc_m_Table___init__, od_m_Table___init__, .func (PySem.W.fnOf "__init__" "Table.__init__" (defArgs (inClass (top 10) 0)) (defBody (inClass (top 10) 0)) (defScope (inClass (top 10) 0)) .none kV_m_Table___init__ dc_m_Table___init__ pm_m_Table___init__ an_m_Table___init__ cd_m_Table___init__ ct_m_Table___init__), sl_m_Table___init__⟩)
    (cc_m_Table___init__ : PySem.W.codeIn K cd_m_Table___init__ "Table.__init__" = true)
    (kk_m_Table___init__ : PySem.W.keepIn K (.ref f_m_Table___init__) = true)
    (a_m_size : PySem.W.findIn K (.ref a_Table) "size" = some (some (.ref f_m_size)))
    (i_m_size : PySem.W.isFn K (.ref f_m_size) = true)
    (l_m_size : K.lookup f_m_size = some ⟨oc_m_size, od_m_size, .func (PySem.W.fnOf "size" "Table.size" (defArgs (inClass (top 10) 1)) (defBody (inClass (top 10) 1)) (defScope (inClass (top 10) 1)) .none kV_m_size dc_m_size pm_m_size an_m_size cd_m_size ct_m_size), sl_m_size⟩)
    (cc_m_size : PySem.W.codeIn K cd_m_size "Table.size" = true)
    (kk_m_size : PySem.W.keepIn K (.ref f_m_size) = true)
    (a_m_check_class : PySem.W.findIn K (.ref a_Table) "check_class" = some (some (.ref f_m_check_class)))
    (i_m_check_class : PySem.W.isFn K (.ref f_m_check_class) = true)
    (l_m_check_class : K.lookup f_m_check_class = some ⟨oc_m_check_class, od_m_check_class, .func (PySem.W.fnOf "check_class" "Table.check_class" (defArgs (inClass (top 10) 2)) (defBody (inClass (top 10) 2)) (defScope (inClass (top 10) 2)) .none kV_m_check_class dc_m_check_class pm_m_check_class an_m_check_class cd_m_check_class ct_m_check_class), sl_m_check_class⟩)
    (cc_m_check_class : PySem.W.codeIn K cd_m_check_class "Table.check_class" = true)
    (kk_m_check_class : PySem.W.keepIn K (.ref f_m_check_class) = true)
    (a_m_wife_of : PySem.W.findIn K (.ref a_Table) "wife_of" = some (some (.ref f_m_wife_of)))
    (i_m_wife_of : PySem.W.isFn K (.ref f_m_wife_of) = true)
    (l_m_wife_of : K.lookup f_m_wife_of = some ⟨oc_m_wife_of, od_m_wife_of, .func (PySem.W.fnOf "wife_of" "Table.wife_of" (defArgs (inClass (top 10) 3)) (defBody (inClass (top 10) 3)) (defScope (inClass (top 10) 3)) .none kV_m_wife_of dc_m_wife_of pm_m_wife_of an_m_wife_of cd_m_wife_of ct_m_wife_of), sl_m_wife_of⟩)
    (cc_m_wife_of : PySem.W.codeIn K cd_m_wife_of "Table.wife_of" = true)
    (kk_m_wife_of : PySem.W.keepIn K (.ref f_m_wife_of) = true)
    (a_m_heir_of : PySem.W.findIn K (.ref a_Table) "heir_of" = some (some (.ref f_m_heir_of)))
    (i_m_heir_of : PySem.W.isFn K (.ref f_m_heir_of) = true)
    (l_m_heir_of : K.lookup f_m_heir_of = some ⟨oc_m_heir_of, od_m_heir_of, .func (PySem.W.fnOf "heir_of" "Table.heir_of" (defArgs (inClass (top 10) 5)) (defBody (inClass (top 10) 5)) (defScope (inClass (top 10) 5)) .none kV_m_heir_of dc_m_heir_of pm_m_heir_of an_m_heir_of cd_m_heir_of ct_m_heir_of), sl_m_heir_of⟩)
    (cc_m_heir_of : PySem.W.codeIn K cd_m_heir_of "Table.heir_of" = true)
    (kk_m_heir_of : PySem.W.keepIn K (.ref f_m_heir_of) = true)
    (a_d_part_with : PySem.W.nsIn K mainGlobals "part_with" = some (some (.ref f_d_part_with)))
    (l_d_part_with : K.lookup f_d_part_with = some ⟨oc_d_part_with, od_d_part_with, .func (PySem.W.fnOf "part_with" "part_with" (defArgs (top 23)) (defBody (top 23)) (defScope (top 23)) .none kV_d_part_with dc_d_part_with pm_d_part_with an_d_part_with cd_d_part_with ct_d_part_with), sl_d_part_with⟩)
    (cc_d_part_with : PySem.W.codeIn K cd_d_part_with "part_with" = true)
    (kk_d_part_with : PySem.W.keepIn K (.ref f_d_part_with) = true)
    (a_d_parts : PySem.W.nsIn K mainGlobals "parts" = some (some (.ref f_d_parts)))
    (l_d_parts : K.lookup f_d_parts = some ⟨oc_d_parts, od_d_parts, .func (PySem.W.fnOf "parts" "parts" (defArgs (top 24)) (defBody (top 24)) (defScope (top 24)) .none kV_d_parts dc_d_parts pm_d_parts an_d_parts cd_d_parts ct_d_parts), sl_d_parts⟩)
    (cc_d_parts : PySem.W.codeIn K cd_d_parts "parts" = true)
    (kk_d_parts : PySem.W.keepIn K (.ref f_d_parts) = true)
    (a_d_ring_lengths : PySem.W.nsIn K mainGlobals "ring_lengths" = some (some (.ref f_d_ring_lengths)))
    (l_d_ring_lengths : K.lookup f_d_ring_lengths = some ⟨oc_d_ring_lengths, od_d_ring_lengths, .func (PySem.W.fnOf "ring_lengths" "ring_lengths" (defArgs (top 32)) (defBody (top 32)) (defScope (top 32)) .none kV_d_ring_lengths dc_d_ring_lengths pm_d_ring_lengths an_d_ring_lengths cd_d_ring_lengths ct_d_ring_lengths), sl_d_ring_lengths⟩)
    (cc_d_ring_lengths : PySem.W.codeIn K cd_d_ring_lengths "ring_lengths" = true)
    (kk_d_ring_lengths : PySem.W.keepIn K (.ref f_d_ring_lengths) = true)
    (a_d_wives_to_try : PySem.W.nsIn K mainGlobals "wives_to_try" = some (some (.ref f_d_wives_to_try)))
    (l_d_wives_to_try : K.lookup f_d_wives_to_try = some ⟨oc_d_wives_to_try, od_d_wives_to_try, .func (PySem.W.fnOf "wives_to_try" "wives_to_try" (defArgs (top 33)) (defBody (top 33)) (defScope (top 33)) .none kV_d_wives_to_try dc_d_wives_to_try pm_d_wives_to_try an_d_wives_to_try cd_d_wives_to_try ct_d_wives_to_try), sl_d_wives_to_try⟩)
    (cc_d_wives_to_try : PySem.W.codeIn K cd_d_wives_to_try "wives_to_try" = true)
    (kk_d_wives_to_try : PySem.W.keepIn K (.ref f_d_wives_to_try) = true)
    (a_m_father_of : PySem.W.findIn K (.ref a_Table) "father_of" = some (some (.ref f_m_father_of)))
    (i_m_father_of : PySem.W.isFn K (.ref f_m_father_of) = true)
    (l_m_father_of : K.lookup f_m_father_of = some ⟨oc_m_father_of, od_m_father_of, .func (PySem.W.fnOf "father_of" "Table.father_of" (defArgs (inClass (top 10) 6)) (defBody (inClass (top 10) 6)) (defScope (inClass (top 10) 6)) .none kV_m_father_of dc_m_father_of pm_m_father_of an_m_father_of cd_m_father_of ct_m_father_of), sl_m_father_of⟩)
    (cc_m_father_of : PySem.W.codeIn K cd_m_father_of "Table.father_of" = true)
    (kk_m_father_of : PySem.W.keepIn K (.ref f_m_father_of) = true)
    (a_m_husband_of : PySem.W.findIn K (.ref a_Table) "husband_of" = some (some (.ref f_m_husband_of)))
    (i_m_husband_of : PySem.W.isFn K (.ref f_m_husband_of) = true)
    (l_m_husband_of : K.lookup f_m_husband_of = some ⟨oc_m_husband_of, od_m_husband_of, .func (PySem.W.fnOf "husband_of" "Table.husband_of" (defArgs (inClass (top 10) 4)) (defBody (inClass (top 10) 4)) (defScope (inClass (top 10) 4)) .none kV_m_husband_of dc_m_husband_of pm_m_husband_of an_m_husband_of cd_m_husband_of ct_m_husband_of), sl_m_husband_of⟩)
    (cc_m_husband_of : PySem.W.codeIn K cd_m_husband_of "Table.husband_of" = true)
    (kk_m_husband_of : PySem.W.keepIn K (.ref f_m_husband_of) = true)
    (a_d_partner_class : PySem.W.nsIn K mainGlobals "partner_class" = some (some (.ref f_d_partner_class)))
    (l_d_partner_class : K.lookup f_d_partner_class = some ⟨oc_d_partner_class, od_d_partner_class, .func (PySem.W.fnOf "partner_class" "partner_class" (defArgs (top 18)) (defBody (top 18)) (defScope (top 18)) .none kV_d_partner_class dc_d_partner_class pm_d_partner_class an_d_partner_class cd_d_partner_class ct_d_partner_class), sl_d_partner_class⟩)
    (cc_d_partner_class : PySem.W.codeIn K cd_d_partner_class "partner_class" = true)
    (kk_d_partner_class : PySem.W.keepIn K (.ref f_d_partner_class) = true)
    (a_d_child_class : PySem.W.nsIn K mainGlobals "child_class" = some (some (.ref f_d_child_class)))
    (l_d_child_class : K.lookup f_d_child_class = some ⟨oc_d_child_class, od_d_child_class, .func (PySem.W.fnOf "child_class" "child_class" (defArgs (top 19)) (defBody (top 19)) (defScope (top 19)) .none kV_d_child_class dc_d_child_class pm_d_child_class an_d_child_class cd_d_child_class ct_d_child_class), sl_d_child_class⟩)
    (cc_d_child_class : PySem.W.codeIn K cd_d_child_class "child_class" = true)
    (kk_d_child_class : PySem.W.keepIn K (.ref f_d_child_class) = true)
    (a_d_class_after : PySem.W.nsIn K mainGlobals "class_after" = some (some (.ref f_d_class_after)))
    (l_d_class_after : K.lookup f_d_class_after = some ⟨oc_d_class_after, od_d_class_after, .func (PySem.W.fnOf "class_after" "class_after" (defArgs (top 20)) (defBody (top 20)) (defScope (top 20)) .none kV_d_class_after dc_d_class_after pm_d_class_after an_d_class_after cd_d_class_after ct_d_class_after), sl_d_class_after⟩)
    (cc_d_class_after : PySem.W.codeIn K cd_d_class_after "class_after" = true)
    (kk_d_class_after : PySem.W.keepIn K (.ref f_d_class_after) = true)
    (a_d_walked : PySem.W.nsIn K mainGlobals "walked" = some (some (.ref f_d_walked)))
    (l_d_walked : K.lookup f_d_walked = some ⟨oc_d_walked, od_d_walked, .func (PySem.W.fnOf "walked" "walked" (defArgs (top 22)) (defBody (top 22)) (defScope (top 22)) .none kV_d_walked dc_d_walked pm_d_walked an_d_walked cd_d_walked ct_d_walked), sl_d_walked⟩)
    (cc_d_walked : PySem.W.codeIn K cd_d_walked "walked" = true)
    (kk_d_walked : PySem.W.keepIn K (.ref f_d_walked) = true)
    (a_d_breaking_class : PySem.W.nsIn K mainGlobals "breaking_class" = some (some (.ref f_d_breaking_class)))
    (l_d_breaking_class : K.lookup f_d_breaking_class = some ⟨oc_d_breaking_class, od_d_breaking_class, .func (PySem.W.fnOf "breaking_class" "breaking_class" (defArgs (top 29)) (defBody (top 29)) (defScope (top 29)) .none kV_d_breaking_class dc_d_breaking_class pm_d_breaking_class an_d_breaking_class cd_d_breaking_class ct_d_breaking_class), sl_d_breaking_class⟩)
    (cc_d_breaking_class : PySem.W.codeIn K cd_d_breaking_class "breaking_class" = true)
    (kk_d_breaking_class : PySem.W.keepIn K (.ref f_d_breaking_class) = true)
    (a_d_first_breach : PySem.W.nsIn K mainGlobals "first_breach" = some (some (.ref f_d_first_breach)))
    (l_d_first_breach : K.lookup f_d_first_breach = some ⟨oc_d_first_breach, od_d_first_breach, .func (PySem.W.fnOf "first_breach" "first_breach" (defArgs (top 30)) (defBody (top 30)) (defScope (top 30)) .none kV_d_first_breach dc_d_first_breach pm_d_first_breach an_d_first_breach cd_d_first_breach ct_d_first_breach), sl_d_first_breach⟩)
    (cc_d_first_breach : PySem.W.codeIn K cd_d_first_breach "first_breach" = true)
    (kk_d_first_breach : PySem.W.keepIn K (.ref f_d_first_breach) = true)
    (a_d_first_of_size : PySem.W.nsIn K mainGlobals "first_of_size" = some (some (.ref f_d_first_of_size)))
    (l_d_first_of_size : K.lookup f_d_first_of_size = some ⟨oc_d_first_of_size, od_d_first_of_size, .func (PySem.W.fnOf "first_of_size" "first_of_size" (defArgs (top 34)) (defBody (top 34)) (defScope (top 34)) .none kV_d_first_of_size dc_d_first_of_size pm_d_first_of_size an_d_first_of_size cd_d_first_of_size ct_d_first_of_size), sl_d_first_of_size⟩)
    (cc_d_first_of_size : PySem.W.codeIn K cd_d_first_of_size "first_of_size" = true)
    (kk_d_first_of_size : PySem.W.keepIn K (.ref f_d_first_of_size) = true)
    (a_d_first_table : PySem.W.nsIn K mainGlobals "first_table" = some (some (.ref f_d_first_table)))
    (l_d_first_table : K.lookup f_d_first_table = some ⟨oc_d_first_table, od_d_first_table, .func (PySem.W.fnOf "first_table" "first_table" (defArgs (top 35)) (defBody (top 35)) (defScope (top 35)) .none kV_d_first_table dc_d_first_table pm_d_first_table an_d_first_table cd_d_first_table ct_d_first_table), sl_d_first_table⟩)
    (cc_d_first_table : PySem.W.codeIn K cd_d_first_table "first_table" = true)
    (kk_d_first_table : PySem.W.keepIn K (.ref f_d_first_table) = true)
    (a_d__law_turns : PySem.W.nsIn K mainGlobals "_law_turns" = some (some (.ref f_d__law_turns)))
    (l_d__law_turns : K.lookup f_d__law_turns = some ⟨oc_d__law_turns, od_d__law_turns, .func (PySem.W.fnOf "_law_turns" "_law_turns" (defArgs (top 47)) (defBody (top 47)) (defScope (top 47)) .none kV_d__law_turns dc_d__law_turns pm_d__law_turns an_d__law_turns cd_d__law_turns ct_d__law_turns), sl_d__law_turns⟩)
    (cc_d__law_turns : PySem.W.codeIn K cd_d__law_turns "_law_turns" = true)
    (kk_d__law_turns : PySem.W.keepIn K (.ref f_d__law_turns) = true)
    (a_d__law_breach : PySem.W.nsIn K mainGlobals "_law_breach" = some (some (.ref f_d__law_breach)))
    (l_d__law_breach : K.lookup f_d__law_breach = some ⟨oc_d__law_breach, od_d__law_breach, .func (PySem.W.fnOf "_law_breach" "_law_breach" (defArgs (top 46)) (defBody (top 46)) (defScope (top 46)) .none kV_d__law_breach dc_d__law_breach pm_d__law_breach an_d__law_breach cd_d__law_breach ct_d__law_breach), sl_d__law_breach⟩)
    (cc_d__law_breach : PySem.W.codeIn K cd_d__law_breach "_law_breach" = true)
    (kk_d__law_breach : PySem.W.keepIn K (.ref f_d__law_breach) = true)
    (a_d__law_good : PySem.W.nsIn K mainGlobals "_law_good" = some (some (.ref f_d__law_good)))
    (l_d__law_good : K.lookup f_d__law_good = some ⟨oc_d__law_good, od_d__law_good, .func (PySem.W.fnOf "_law_good" "_law_good" (defArgs (top 49)) (defBody (top 49)) (defScope (top 49)) .none kV_d__law_good dc_d__law_good pm_d__law_good an_d__law_good cd_d__law_good ct_d__law_good), sl_d__law_good⟩)
    (cc_d__law_good : PySem.W.codeIn K cd_d__law_good "_law_good" = true)
    (kk_d__law_good : PySem.W.keepIn K (.ref f_d__law_good) = true)
    (a_d__law_first : PySem.W.nsIn K mainGlobals "_law_first" = some (some (.ref f_d__law_first)))
    (l_d__law_first : K.lookup f_d__law_first = some ⟨oc_d__law_first, od_d__law_first, .func (PySem.W.fnOf "_law_first" "_law_first" (defArgs (top 50)) (defBody (top 50)) (defScope (top 50)) .none kV_d__law_first dc_d__law_first pm_d__law_first an_d__law_first cd_d__law_first ct_d__law_first), sl_d__law_first⟩)
    (cc_d__law_first : PySem.W.codeIn K cd_d__law_first "_law_first" = true)
    (kk_d__law_first : PySem.W.keepIn K (.ref f_d__law_first) = true)
    (a_d__law_whole : PySem.W.nsIn K mainGlobals "_law_whole" = some (some (.ref f_d__law_whole)))
    (l_d__law_whole : K.lookup f_d__law_whole = some ⟨oc_d__law_whole, od_d__law_whole, .func (PySem.W.fnOf "_law_whole" "_law_whole" (defArgs (top 38)) (defBody (top 38)) (defScope (top 38)) .none kV_d__law_whole dc_d__law_whole pm_d__law_whole an_d__law_whole cd_d__law_whole ct_d__law_whole), sl_d__law_whole⟩)
    (cc_d__law_whole : PySem.W.codeIn K cd_d__law_whole "_law_whole" = true)
    (kk_d__law_whole : PySem.W.keepIn K (.ref f_d__law_whole) = true)
    (a_d__law_same_numbers : PySem.W.nsIn K mainGlobals "_law_same_numbers" = some (some (.ref f_d__law_same_numbers)))
    (l_d__law_same_numbers : K.lookup f_d__law_same_numbers = some ⟨oc_d__law_same_numbers, od_d__law_same_numbers, .func (PySem.W.fnOf "_law_same_numbers" "_law_same_numbers" (defArgs (top 43)) (defBody (top 43)) (defScope (top 43)) .none kV_d__law_same_numbers dc_d__law_same_numbers pm_d__law_same_numbers an_d__law_same_numbers cd_d__law_same_numbers ct_d__law_same_numbers), sl_d__law_same_numbers⟩)
    (cc_d__law_same_numbers : PySem.W.codeIn K cd_d__law_same_numbers "_law_same_numbers" = true)
    (kk_d__law_same_numbers : PySem.W.keepIn K (.ref f_d__law_same_numbers) = true)
    (a_m_wives : PySem.W.findIn K (.ref a_Table) "wives" = some (some (.ref f_m_wives)))
    (i_m_wives : PySem.W.isFn K (.ref f_m_wives) = true)
    (l_m_wives : K.lookup f_m_wives = some ⟨oc_m_wives, od_m_wives, .func (PySem.W.fnOf "wives" "Table.wives" (defArgs (inClass (top 10) 7)) (defBody (inClass (top 10) 7)) (defScope (inClass (top 10) 7)) .none kV_m_wives dc_m_wives pm_m_wives an_m_wives cd_m_wives ct_m_wives), sl_m_wives⟩)
    (cc_m_wives : PySem.W.codeIn K cd_m_wives "Table.wives" = true)
    (kk_m_wives : PySem.W.keepIn K (.ref f_m_wives) = true)
    (a_m_heirs : PySem.W.findIn K (.ref a_Table) "heirs" = some (some (.ref f_m_heirs)))
    (i_m_heirs : PySem.W.isFn K (.ref f_m_heirs) = true)
    (l_m_heirs : K.lookup f_m_heirs = some ⟨oc_m_heirs, od_m_heirs, .func (PySem.W.fnOf "heirs" "Table.heirs" (defArgs (inClass (top 10) 8)) (defBody (inClass (top 10) 8)) (defScope (inClass (top 10) 8)) .none kV_m_heirs dc_m_heirs pm_m_heirs an_m_heirs cd_m_heirs ct_m_heirs), sl_m_heirs⟩)
    (cc_m_heirs : PySem.W.codeIn K cd_m_heirs "Table.heirs" = true)
    (kk_m_heirs : PySem.W.keepIn K (.ref f_m_heirs) = true)
    (a_d__law_four : PySem.W.nsIn K mainGlobals "_law_four" = some (some (.ref f_d__law_four)))
    (l_d__law_four : K.lookup f_d__law_four = some ⟨oc_d__law_four, od_d__law_four, .func (PySem.W.fnOf "_law_four" "_law_four" (defArgs (top 52)) (defBody (top 52)) (defScope (top 52)) .none kV_d__law_four dc_d__law_four pm_d__law_four an_d__law_four cd_d__law_four ct_d__law_four), sl_d__law_four⟩)
    (cc_d__law_four : PySem.W.codeIn K cd_d__law_four "_law_four" = true)
    (kk_d__law_four : PySem.W.keepIn K (.ref f_d__law_four) = true)
    (a_d__law_walk_by : PySem.W.nsIn K mainGlobals "_law_walk_by" = some (some (.ref f_d__law_walk_by)))
    (l_d__law_walk_by : K.lookup f_d__law_walk_by = some ⟨oc_d__law_walk_by, od_d__law_walk_by, .func (PySem.W.fnOf "_law_walk_by" "_law_walk_by" (defArgs (top 40)) (defBody (top 40)) (defScope (top 40)) .none kV_d__law_walk_by dc_d__law_walk_by pm_d__law_walk_by an_d__law_walk_by cd_d__law_walk_by ct_d__law_walk_by), sl_d__law_walk_by⟩)
    (cc_d__law_walk_by : PySem.W.codeIn K cd_d__law_walk_by "_law_walk_by" = true)
    (kk_d__law_walk_by : PySem.W.keepIn K (.ref f_d__law_walk_by) = true)
    (a_d__law_woman_walk : PySem.W.nsIn K mainGlobals "_law_woman_walk" = some (some (.ref f_d__law_woman_walk)))
    (l_d__law_woman_walk : K.lookup f_d__law_woman_walk = some ⟨oc_d__law_woman_walk, od_d__law_woman_walk, .func (PySem.W.fnOf "_law_woman_walk" "_law_woman_walk" (defArgs (top 44)) (defBody (top 44)) (defScope (top 44)) .none kV_d__law_woman_walk dc_d__law_woman_walk pm_d__law_woman_walk an_d__law_woman_walk cd_d__law_woman_walk ct_d__law_woman_walk), sl_d__law_woman_walk⟩)
    (cc_d__law_woman_walk : PySem.W.codeIn K cd_d__law_woman_walk "_law_woman_walk" = true)
    (kk_d__law_woman_walk : PySem.W.keepIn K (.ref f_d__law_woman_walk) = true)
    (a_d__law_rules_by : PySem.W.nsIn K mainGlobals "_law_rules_by" = some (some (.ref f_d__law_rules_by)))
    (l_d__law_rules_by : K.lookup f_d__law_rules_by = some ⟨oc_d__law_rules_by, od_d__law_rules_by, .func (PySem.W.fnOf "_law_rules_by" "_law_rules_by" (defArgs (top 45)) (defBody (top 45)) (defScope (top 45)) .none kV_d__law_rules_by dc_d__law_rules_by pm_d__law_rules_by an_d__law_rules_by cd_d__law_rules_by ct_d__law_rules_by), sl_d__law_rules_by⟩)
    (cc_d__law_rules_by : PySem.W.codeIn K cd_d__law_rules_by "_law_rules_by" = true)
    (kk_d__law_rules_by : PySem.W.keepIn K (.ref f_d__law_rules_by) = true)
    (a_d_law : PySem.W.nsIn K mainGlobals "law" = some (some (.ref f_d_law)))
    (l_d_law : K.lookup f_d_law = some ⟨oc_d_law, od_d_law, .func (PySem.W.fnOf "law" "law" (defArgs (top 53)) (defBody (top 53)) (defScope (top 53)) .none kV_d_law dc_d_law pm_d_law an_d_law cd_d_law ct_d_law), sl_d_law⟩)
    (cc_d_law : PySem.W.codeIn K cd_d_law "law" = true)
    (kk_d_law : PySem.W.keepIn K (.ref f_d_law) = true)
    (g_MOST_CLASSES : PySem.W.nsIn K mainGlobals "MOST_CLASSES" = some (some (.int 8 t_MOST_CLASSES)))
    (g_LETTERS : PySem.W.nsIn K mainGlobals "LETTERS" = some (some (.str "fmsdpbz" t_LETTERS)))
    (g_LETTERS_TO_MEN : PySem.W.nsIn K mainGlobals "LETTERS_TO_MEN" = some (some (.str "fsb" t_LETTERS_TO_MEN)))
    (g_MOST_LETTERS : PySem.W.nsIn K mainGlobals "MOST_LETTERS" = some (some (.int 60 t_MOST_LETTERS)))
    (z_ValueError : PySem.W.nsIn K mainGlobals "ValueError" = some none)
    (z_bool : PySem.W.nsIn K mainGlobals "bool" = some none)
    (z_enumerate : PySem.W.nsIn K mainGlobals "enumerate" = some none)
    (z_int : PySem.W.nsIn K mainGlobals "int" = some none)
    (z_isinstance : PySem.W.nsIn K mainGlobals "isinstance" = some none)
    (z_len : PySem.W.nsIn K mainGlobals "len" = some none)
    (z_list : PySem.W.nsIn K mainGlobals "list" = some none)
    (z_max : PySem.W.nsIn K mainGlobals "max" = some none)
    (z_min : PySem.W.nsIn K mainGlobals "min" = some none)
    (z_range : PySem.W.nsIn K mainGlobals "range" = some none)
    (z_set : PySem.W.nsIn K mainGlobals "set" = some none)
    (z_sorted : PySem.W.nsIn K mainGlobals "sorted" = some none)
    (z_tuple : PySem.W.nsIn K mainGlobals "tuple" = some none) :
    ∃ fd : FuncData, (∀ (s : Shared) (v : Value), BindsTo s fd ⟨[v], []⟩ [("script", v)]) ∧ ∀ base : Heap, K.In base → base.Ns mainGlobals mg → FnOk l.prog w K mg base (CXR l.prog w) 11 fa fd ["script"] (spLaw K) := by
  have ee := hfa.symm.trans (PySem.W.mg_of X G a_d_law)
  cases ee
  have T : Txt K mg a_Table ⟨a_KinError, a_NoTable, a_NoClass, a_NoWalk, a_NoRule, a_WORDS⟩ := ⟨PySem.W.mg_of X G b_Table, ⟨pg_Table, hd_Table, po_Table, sa_Table⟩, n_wife_turn, n_heir_turn, n_husband_turn, n_father_turn, PySem.W.mg_none_of X G z_ValueError, PySem.W.mg_none_of X G z_bool, PySem.W.mg_none_of X G z_enumerate, PySem.W.mg_none_of X G z_int, PySem.W.mg_none_of X G z_isinstance, PySem.W.mg_none_of X G z_len, PySem.W.mg_none_of X G z_list, PySem.W.mg_none_of X G z_max, PySem.W.mg_none_of X G z_min, PySem.W.mg_none_of X G z_range, PySem.W.mg_none_of X G z_set, PySem.W.mg_none_of X G z_sorted, PySem.W.mg_none_of X G z_tuple, ⟨_, PySem.W.mg_of X G g_MOST_CLASSES, ⟨_, rfl⟩⟩, ⟨_, PySem.W.mg_of X G g_LETTERS, ⟨_, rfl⟩⟩, ⟨_, PySem.W.mg_of X G g_LETTERS_TO_MEN, ⟨_, rfl⟩⟩, ⟨_, PySem.W.mg_of X G g_MOST_LETTERS, ⟨_, rfl⟩⟩, PySem.W.mg_of X G b_WORDS, fun _ => .inr ⟨_, _, _, lk_WORDS, rfl, rfl, (show 2 ≤ sizeLine by decide), .cons ⟨_, rfl⟩ (.cons ⟨_, rfl⟩ (.nil))⟩, ⟨kd1, kd2⟩, PySem.W.mg_of X G b_KinError, PySem.W.mg_of X G b_NoTable, x_NoTable, ⟨c1_NoTable, c2_NoTable, c3_NoTable, c4_NoTable, kd1, kd2, c5_NoTable, c6_NoTable⟩, w_NoTable, v_NoTable, k_NoTable_NoTable, k_NoTable_NoClass, k_NoTable_NoWalk, k_NoTable_NoRule, PySem.W.mg_of X G b_NoClass, x_NoClass, ⟨c1_NoClass, c2_NoClass, c3_NoClass, c4_NoClass, kd1, kd2, c5_NoClass, c6_NoClass⟩, w_NoClass, v_NoClass, k_NoClass_NoTable, k_NoClass_NoClass, k_NoClass_NoWalk, k_NoClass_NoRule, PySem.W.mg_of X G b_NoWalk, x_NoWalk, ⟨c1_NoWalk, c2_NoWalk, c3_NoWalk, c4_NoWalk, kd1, kd2, c5_NoWalk, c6_NoWalk⟩, w_NoWalk, v_NoWalk, k_NoWalk_NoTable, k_NoWalk_NoClass, k_NoWalk_NoWalk, k_NoWalk_NoRule, PySem.W.mg_of X G b_NoRule, x_NoRule, ⟨c1_NoRule, c2_NoRule, c3_NoRule, c4_NoRule, kd1, kd2, c5_NoRule, c6_NoRule⟩, w_NoRule, v_NoRule, k_NoRule_NoTable, k_NoRule_NoClass, k_NoRule_NoWalk, k_NoRule_NoRule⟩
  have hE : NoE (CXR l.prog w) := noER
  have F_d__law_cell_at := fun_mk (st := (top 37)) l_d__law_cell_at cc_d__law_cell_at kk_d__law_cell_at
  have b_d__law_cell_at := F_d__law_cell_at.binds (ps := ["script", "k"]) fun _ _ _ _ _ _ us hl => match us, hl with | [_, _], _ => rfl
  have F_d__law_turn_by := fun_mk (st := (top 39)) l_d__law_turn_by cc_d__law_turn_by kk_d__law_turn_by
  have b_d__law_turn_by := F_d__law_turn_by.binds (ps := ["cell", "many"]) fun _ _ _ _ _ _ us hl => match us, hl with | [_, _], _ => rfl
  have F_d__law_one_part := fun_mk (st := (top 48)) l_d__law_one_part cc_d__law_one_part kk_d__law_one_part
  have b_d__law_one_part := F_d__law_one_part.binds (ps := ["wives", "heirs"]) fun _ _ _ _ _ _ us hl => match us, hl with | [_, _], _ => rfl
  have F_d__law_step := fun_mk (st := (top 41)) l_d__law_step cc_d__law_step kk_d__law_step
  have b_d__law_step := F_d__law_step.binds (ps := ["wives", "heirs", "sex", "c", "letter"]) fun _ _ _ _ _ _ us hl => match us, hl with | [_, _, _, _, _], _ => rfl
  have F_d__law_led := fun_mk (st := (top 42)) l_d__law_led cc_d__law_led kk_d__law_led
  have b_d__law_led := F_d__law_led.binds (ps := ["wives", "heirs", "sex", "c", "walk"]) fun _ _ _ _ _ _ us hl => match us, hl with | [_, _, _, _, _], _ => rfl
  have F_d__law_kept_rules := fun_mk (st := (top 51)) l_d__law_kept_rules cc_d__law_kept_rules kk_d__law_kept_rules
  have b_d__law_kept_rules := F_d__law_kept_rules.binds (ps := ["wives", "heirs", "cells"]) fun _ _ _ _ _ _ us hl => match us, hl with | [_, _, _], _ => rfl
  have F_d_check_walk := fun_mk (st := (top 15)) l_d_check_walk cc_d_check_walk kk_d_check_walk
  have b_d_check_walk := F_d_check_walk.binds (ps := ["walk"]) fun _ _ _ _ _ _ us hl => match us, hl with | [_], _ => rfl
  have F_d_partner_sex := fun_mk (st := (top 16)) l_d_partner_sex cc_d_partner_sex kk_d_partner_sex
  have b_d_partner_sex := F_d_partner_sex.binds (ps := ["sex"]) fun _ _ _ _ _ _ us hl => match us, hl with | [_], _ => rfl
  have F_d_sex_after := fun_mk (st := (top 17)) l_d_sex_after cc_d_sex_after kk_d_sex_after
  have b_d_sex_after := F_d_sex_after.binds (ps := ["sex", "letter"]) fun _ _ _ _ _ _ us hl => match us, hl with | [_, _], _ => rfl
  have F_d_end_sex := fun_mk (st := (top 21)) l_d_end_sex cc_d_end_sex kk_d_end_sex
  have b_d_end_sex := F_d_end_sex.binds (ps := ["sex", "walk"]) fun _ _ _ _ _ _ us hl => match us, hl with | [_, _], _ => rfl
  have F_d_check_rule := fun_mk (st := (top 27)) l_d_check_rule cc_d_check_rule kk_d_check_rule
  have b_d_check_rule := F_d_check_rule.binds (ps := ["word", "walk"]) fun _ _ _ _ _ _ us hl => match us, hl with | [_, _], _ => rfl
  have F_d_check_rules := fun_mk (st := (top 28)) l_d_check_rules cc_d_check_rules kk_d_check_rules
  have b_d_check_rules := F_d_check_rules.binds (ps := ["rules"]) fun _ _ _ _ _ _ us hl => match us, hl with | [_], _ => rfl
  have F_d_all_turns := fun_mk (st := (top 31)) l_d_all_turns cc_d_all_turns kk_d_all_turns
  have b_d_all_turns := F_d_all_turns.binds (ps := ["many"]) fun _ _ _ _ _ _ us hl => match us, hl with | [_], _ => rfl
  have F_d_is_turn := fun_mk (st := (top 8)) l_d_is_turn cc_d_is_turn kk_d_is_turn
  have b_d_is_turn := F_d_is_turn.binds (ps := ["row", "many"]) fun _ _ _ _ _ _ us hl => match us, hl with | [_, _], _ => rfl
  have F_d_turned_back := fun_mk (st := (top 9)) l_d_turned_back cc_d_turned_back kk_d_turned_back
  have b_d_turned_back := F_d_turned_back.binds (ps := ["turn"]) fun _ _ _ _ _ _ us hl => match us, hl with | [_], _ => rfl
  have F_m_Table___init__ := fun_mk (st := (inClass (top 10) 0)) l_m_Table___init__ cc_m_Table___init__ kk_m_Table___init__
  have b_m_Table___init__ := F_m_Table___init__.binds (ps := ["self", "wives", "heirs"]) fun _ _ _ _ _ _ us hl => match us, hl with | [_, _, _], _ => rfl
  have F_m_size := fun_mk (st := (inClass (top 10) 1)) l_m_size cc_m_size kk_m_size
  have b_m_size := F_m_size.binds (ps := ["self"]) fun _ _ _ _ _ _ us hl => match us, hl with | [_], _ => rfl
  have F_m_check_class := fun_mk (st := (inClass (top 10) 2)) l_m_check_class cc_m_check_class kk_m_check_class
  have b_m_check_class := F_m_check_class.binds (ps := ["self", "c"]) fun _ _ _ _ _ _ us hl => match us, hl with | [_, _], _ => rfl
  have F_m_wife_of := fun_mk (st := (inClass (top 10) 3)) l_m_wife_of cc_m_wife_of kk_m_wife_of
  have b_m_wife_of := F_m_wife_of.binds (ps := ["self", "c"]) fun _ _ _ _ _ _ us hl => match us, hl with | [_, _], _ => rfl
  have F_m_heir_of := fun_mk (st := (inClass (top 10) 5)) l_m_heir_of cc_m_heir_of kk_m_heir_of
  have b_m_heir_of := F_m_heir_of.binds (ps := ["self", "c"]) fun _ _ _ _ _ _ us hl => match us, hl with | [_, _], _ => rfl
  have F_d_part_with := fun_mk (st := (top 23)) l_d_part_with cc_d_part_with kk_d_part_with
  have b_d_part_with := F_d_part_with.binds (ps := ["table", "c"]) fun _ _ _ _ _ _ us hl => match us, hl with | [_, _], _ => rfl
  have F_d_parts := fun_mk (st := (top 24)) l_d_parts cc_d_parts kk_d_parts
  have b_d_parts := F_d_parts.binds (ps := ["table"]) fun _ _ _ _ _ _ us hl => match us, hl with | [_], _ => rfl
  have F_d_ring_lengths := fun_mk (st := (top 32)) l_d_ring_lengths cc_d_ring_lengths kk_d_ring_lengths
  have b_d_ring_lengths := F_d_ring_lengths.binds (ps := ["turn"]) fun _ _ _ _ _ _ us hl => match us, hl with | [_], _ => rfl
  have F_d_wives_to_try := fun_mk (st := (top 33)) l_d_wives_to_try cc_d_wives_to_try kk_d_wives_to_try
  have b_d_wives_to_try := F_d_wives_to_try.binds (ps := ["turns"]) fun _ _ _ _ _ _ us hl => match us, hl with | [_], _ => rfl
  have F_m_father_of := fun_mk (st := (inClass (top 10) 6)) l_m_father_of cc_m_father_of kk_m_father_of
  have b_m_father_of := F_m_father_of.binds (ps := ["self", "c"]) fun _ _ _ _ _ _ us hl => match us, hl with | [_, _], _ => rfl
  have F_m_husband_of := fun_mk (st := (inClass (top 10) 4)) l_m_husband_of cc_m_husband_of kk_m_husband_of
  have b_m_husband_of := F_m_husband_of.binds (ps := ["self", "c"]) fun _ _ _ _ _ _ us hl => match us, hl with | [_, _], _ => rfl
  have F_d_partner_class := fun_mk (st := (top 18)) l_d_partner_class cc_d_partner_class kk_d_partner_class
  have b_d_partner_class := F_d_partner_class.binds (ps := ["table", "sex", "c"]) fun _ _ _ _ _ _ us hl => match us, hl with | [_, _, _], _ => rfl
  have F_d_child_class := fun_mk (st := (top 19)) l_d_child_class cc_d_child_class kk_d_child_class
  have b_d_child_class := F_d_child_class.binds (ps := ["table", "sex", "c"]) fun _ _ _ _ _ _ us hl => match us, hl with | [_, _, _], _ => rfl
  have F_d_class_after := fun_mk (st := (top 20)) l_d_class_after cc_d_class_after kk_d_class_after
  have b_d_class_after := F_d_class_after.binds (ps := ["table", "sex", "c", "letter"]) fun _ _ _ _ _ _ us hl => match us, hl with | [_, _, _, _], _ => rfl
  have F_d_walked := fun_mk (st := (top 22)) l_d_walked cc_d_walked kk_d_walked
  have b_d_walked := F_d_walked.binds (ps := ["table", "sex", "c", "walk"]) fun _ _ _ _ _ _ us hl => match us, hl with | [_, _, _, _], _ => rfl
  have F_d_breaking_class := fun_mk (st := (top 29)) l_d_breaking_class cc_d_breaking_class kk_d_breaking_class
  have b_d_breaking_class := F_d_breaking_class.binds (ps := ["table", "word", "walk"]) fun _ _ _ _ _ _ us hl => match us, hl with | [_, _, _], _ => rfl
  have F_d_first_breach := fun_mk (st := (top 30)) l_d_first_breach cc_d_first_breach kk_d_first_breach
  have b_d_first_breach := F_d_first_breach.binds (ps := ["table", "rules"]) fun _ _ _ _ _ _ us hl => match us, hl with | [_, _], _ => rfl
  have F_d_first_of_size := fun_mk (st := (top 34)) l_d_first_of_size cc_d_first_of_size kk_d_first_of_size
  have b_d_first_of_size := F_d_first_of_size.binds (ps := ["rules", "many"]) fun _ _ _ _ _ _ us hl => match us, hl with | [_, _], _ => rfl
  have F_d_first_table := fun_mk (st := (top 35)) l_d_first_table cc_d_first_table kk_d_first_table
  have b_d_first_table := F_d_first_table.binds (ps := ["rules", "most"]) fun _ _ _ _ _ _ us hl => match us, hl with | [_, _], _ => rfl
  have F_d__law_turns := fun_mk (st := (top 47)) l_d__law_turns cc_d__law_turns kk_d__law_turns
  have b_d__law_turns := F_d__law_turns.binds (ps := ["many"]) fun _ _ _ _ _ _ us hl => match us, hl with | [_], _ => rfl
  have F_d__law_breach := fun_mk (st := (top 46)) l_d__law_breach cc_d__law_breach kk_d__law_breach
  have b_d__law_breach := F_d__law_breach.binds (ps := ["wives", "heirs", "rules"]) fun _ _ _ _ _ _ us hl => match us, hl with | [_, _, _], _ => rfl
  have F_d__law_good := fun_mk (st := (top 49)) l_d__law_good cc_d__law_good kk_d__law_good
  have b_d__law_good := F_d__law_good.binds (ps := ["wives", "heirs", "rules"]) fun _ _ _ _ _ _ us hl => match us, hl with | [_, _, _], _ => rfl
  have F_d__law_first := fun_mk (st := (top 50)) l_d__law_first cc_d__law_first kk_d__law_first
  have b_d__law_first := F_d__law_first.binds (ps := ["rules", "most"]) fun _ _ _ _ _ _ us hl => match us, hl with | [_, _], _ => rfl
  have F_d__law_whole := fun_mk (st := (top 38)) l_d__law_whole cc_d__law_whole kk_d__law_whole
  have b_d__law_whole := F_d__law_whole.binds (ps := ["found"]) fun _ _ _ _ _ _ us hl => match us, hl with | [_], _ => rfl
  have F_d__law_same_numbers := fun_mk (st := (top 43)) l_d__law_same_numbers cc_d__law_same_numbers kk_d__law_same_numbers
  have b_d__law_same_numbers := F_d__law_same_numbers.binds (ps := ["found", "due"]) fun _ _ _ _ _ _ us hl => match us, hl with | [_, _], _ => rfl
  have F_m_wives := fun_mk (st := (inClass (top 10) 7)) l_m_wives cc_m_wives kk_m_wives
  have b_m_wives := F_m_wives.binds (ps := ["self"]) fun _ _ _ _ _ _ us hl => match us, hl with | [_], _ => rfl
  have F_m_heirs := fun_mk (st := (inClass (top 10) 8)) l_m_heirs cc_m_heirs kk_m_heirs
  have b_m_heirs := F_m_heirs.binds (ps := ["self"]) fun _ _ _ _ _ _ us hl => match us, hl with | [_], _ => rfl
  have F_d__law_four := fun_mk (st := (top 52)) l_d__law_four cc_d__law_four kk_d__law_four
  have b_d__law_four := F_d__law_four.binds (ps := ["script"]) fun _ _ _ _ _ _ us hl => match us, hl with | [_], _ => rfl
  have F_d__law_walk_by := fun_mk (st := (top 40)) l_d__law_walk_by cc_d__law_walk_by kk_d__law_walk_by
  have b_d__law_walk_by := F_d__law_walk_by.binds (ps := ["cell", "most"]) fun _ _ _ _ _ _ us hl => match us, hl with | [_, _], _ => rfl
  have F_d__law_woman_walk := fun_mk (st := (top 44)) l_d__law_woman_walk cc_d__law_woman_walk kk_d__law_woman_walk
  have b_d__law_woman_walk := F_d__law_woman_walk.binds (ps := ["cell", "most"]) fun _ _ _ _ _ _ us hl => match us, hl with | [_, _], _ => rfl
  have F_d__law_rules_by := fun_mk (st := (top 45)) l_d__law_rules_by cc_d__law_rules_by kk_d__law_rules_by
  have b_d__law_rules_by := F_d__law_rules_by.binds (ps := ["script", "start", "count"]) fun _ _ _ _ _ _ us hl => match us, hl with | [_, _, _], _ => rfl
  have F_d_law := fun_mk (st := (top 53)) l_d_law cc_d_law kk_d_law
  have b_d_law := F_d_law.binds (ps := ["script"]) fun _ _ _ _ _ _ us hl => match us, hl with | [_], _ => rfl
  refine ⟨PySem.W.fnOf "law" "law" (defArgs (top 53)) (defBody (top 53)) (defScope (top 53)) .none kV_d_law dc_d_law pm_d_law an_d_law cd_d_law ct_d_law, fun s v => .of_eq rfl, fun base _ _ => ?_⟩
  have D__law_cell_at : Def l.prog w K mg base (CXR l.prog w) "_law_cell_at" 1 ["script", "k"] (spCellAt K) := ⟨_, _, PySem.W.mg_of X G a_d__law_cell_at, kk_d__law_cell_at, b_d__law_cell_at, ok_cell F_d__law_cell_at T⟩
  have D__law_turn_by : Def l.prog w K mg base (CXR l.prog w) "_law_turn_by" 1 ["cell", "many"] spTurnBy := ⟨_, _, PySem.W.mg_of X G a_d__law_turn_by, kk_d__law_turn_by, b_d__law_turn_by, ok_turnby F_d__law_turn_by T⟩
  have D__law_one_part : Def l.prog w K mg base (CXR l.prog w) "_law_one_part" 1 ["wives", "heirs"] spOneP := ⟨_, _, PySem.W.mg_of X G a_d__law_one_part, kk_d__law_one_part, b_d__law_one_part, ok_onep F_d__law_one_part T⟩
  have D__law_step : Def l.prog w K mg base (CXR l.prog w) "_law_step" 1 ["wives", "heirs", "sex", "c", "letter"] spStep := ⟨_, _, PySem.W.mg_of X G a_d__law_step, kk_d__law_step, b_d__law_step, ok_step F_d__law_step T⟩
  have D__law_led : Def l.prog w K mg base (CXR l.prog w) "_law_led" 2 ["wives", "heirs", "sex", "c", "walk"] spLed := ⟨_, _, PySem.W.mg_of X G a_d__law_led, kk_d__law_led, b_d__law_led, ok_led F_d__law_led T hE D__law_step⟩
  have D__law_kept_rules : Def l.prog w K mg base (CXR l.prog w) "_law_kept_rules" 3 ["wives", "heirs", "cells"] spKept := ⟨_, _, PySem.W.mg_of X G a_d__law_kept_rules, kk_d__law_kept_rules, b_d__law_kept_rules, ok_kept F_d__law_kept_rules T hE D__law_led⟩
  have D_check_walk : Def l.prog w K mg base (CXR l.prog w) "check_walk" 1 ["walk"] (spCheckWalk (⟨a_KinError, a_NoTable, a_NoClass, a_NoWalk, a_NoRule, a_WORDS⟩ : Ad)) := ⟨_, _, PySem.W.mg_of X G a_d_check_walk, kk_d_check_walk, b_d_check_walk, ok_ckw F_d_check_walk T⟩
  have D_partner_sex : Def l.prog w K mg base (CXR l.prog w) "partner_sex" 1 ["sex"] spPartnerSex := ⟨_, _, PySem.W.mg_of X G a_d_partner_sex, kk_d_partner_sex, b_d_partner_sex, ok_psex F_d_partner_sex ⟩
  have D_sex_after : Def l.prog w K mg base (CXR l.prog w) "sex_after" 2 ["sex", "letter"] spSexAfter := ⟨_, _, PySem.W.mg_of X G a_d_sex_after, kk_d_sex_after, b_d_sex_after, ok_sexa F_d_sex_after T hE D_partner_sex⟩
  have D_end_sex : Def l.prog w K mg base (CXR l.prog w) "end_sex" 3 ["sex", "walk"] (spEndSex (⟨a_KinError, a_NoTable, a_NoClass, a_NoWalk, a_NoRule, a_WORDS⟩ : Ad)) := ⟨_, _, PySem.W.mg_of X G a_d_end_sex, kk_d_end_sex, b_d_end_sex, ok_endsex F_d_end_sex T D_check_walk D_sex_after⟩
  have D_check_rule : Def l.prog w K mg base (CXR l.prog w) "check_rule" 4 ["word", "walk"] (spCheckRule (⟨a_KinError, a_NoTable, a_NoClass, a_NoWalk, a_NoRule, a_WORDS⟩ : Ad)) := ⟨_, _, PySem.W.mg_of X G a_d_check_rule, kk_d_check_rule, b_d_check_rule, ok_checkrule F_d_check_rule T D_end_sex⟩
  have D_check_rules : Def l.prog w K mg base (CXR l.prog w) "check_rules" 5 ["rules"] (spCheckRules (⟨a_KinError, a_NoTable, a_NoClass, a_NoWalk, a_NoRule, a_WORDS⟩ : Ad)) := ⟨_, _, PySem.W.mg_of X G a_d_check_rules, kk_d_check_rules, b_d_check_rules, ok_checkrules F_d_check_rules T D_check_rule⟩
  have D_all_turns : Def l.prog w K mg base (CXR l.prog w) "all_turns" 1 ["many"] spAllTurns := ⟨_, _, PySem.W.mg_of X G a_d_all_turns, kk_d_all_turns, b_d_all_turns, ok_allturns F_d_all_turns T⟩
  have D_is_turn : Def l.prog w K mg base (CXR l.prog w) "is_turn" 1 ["row", "many"] spIsTurn := ⟨_, _, PySem.W.mg_of X G a_d_is_turn, kk_d_is_turn, b_d_is_turn, ok_isturn F_d_is_turn T⟩
  have D_turned_back : Def l.prog w K mg base (CXR l.prog w) "turned_back" 1 ["turn"] spTurnedBack := ⟨_, _, PySem.W.mg_of X G a_d_turned_back, kk_d_turned_back, b_d_turned_back, ok_tback F_d_turned_back T⟩
  have D_Table : CDef l.prog w K mg base (CXR l.prog w) "Table" a_Table 2 ["self", "wives", "heirs"] (spInitX a_Table (⟨a_KinError, a_NoTable, a_NoClass, a_NoWalk, a_NoRule, a_WORDS⟩ : Ad)) := ⟨_, _, PySem.W.mg_of X G b_Table, ⟨mk_Table, a_m_Table___init__, i_m_Table___init__, kc_Table⟩, b_m_Table___init__, ok_init F_m_Table___init__ T D_is_turn D_turned_back⟩
  have D_size : MDef l.prog w K mg base (CXR l.prog w) a_Table "size" 1 ["self"] (spSize a_Table) := ⟨_, _, ⟨a_m_size, i_m_size, kk_m_size⟩, b_m_size, ok_size F_m_size T⟩
  have D_check_class : MDef l.prog w K mg base (CXR l.prog w) a_Table "check_class" 1 ["self", "c"] (spCheck a_Table (⟨a_KinError, a_NoTable, a_NoClass, a_NoWalk, a_NoRule, a_WORDS⟩ : Ad)) := ⟨_, _, ⟨a_m_check_class, i_m_check_class, kk_m_check_class⟩, b_m_check_class, ok_check F_m_check_class T⟩
  have D_wife_of : MDef l.prog w K mg base (CXR l.prog w) a_Table "wife_of" 2 ["self", "c"] (spWife a_Table (⟨a_KinError, a_NoTable, a_NoClass, a_NoWalk, a_NoRule, a_WORDS⟩ : Ad)) := ⟨_, _, ⟨a_m_wife_of, i_m_wife_of, kk_m_wife_of⟩, b_m_wife_of, ok_wife F_m_wife_of T D_check_class⟩
  have D_heir_of : MDef l.prog w K mg base (CXR l.prog w) a_Table "heir_of" 2 ["self", "c"] (spHeir a_Table (⟨a_KinError, a_NoTable, a_NoClass, a_NoWalk, a_NoRule, a_WORDS⟩ : Ad)) := ⟨_, _, ⟨a_m_heir_of, i_m_heir_of, kk_m_heir_of⟩, b_m_heir_of, ok_heir F_m_heir_of T D_check_class⟩
  have D_part_with : Def l.prog w K mg base (CXR l.prog w) "part_with" 3 ["table", "c"] (spPartWith a_Table (⟨a_KinError, a_NoTable, a_NoClass, a_NoWalk, a_NoRule, a_WORDS⟩ : Ad)) := ⟨_, _, PySem.W.mg_of X G a_d_part_with, kk_d_part_with, b_d_part_with, ok_partwith F_d_part_with T D_wife_of D_heir_of⟩
  have D_parts : Def l.prog w K mg base (CXR l.prog w) "parts" 4 ["table"] (spParts a_Table (⟨a_KinError, a_NoTable, a_NoClass, a_NoWalk, a_NoRule, a_WORDS⟩ : Ad)) := ⟨_, _, PySem.W.mg_of X G a_d_parts, kk_d_parts, b_d_parts, ok_parts F_d_parts T D_size D_part_with⟩
  have D_ring_lengths : Def l.prog w K mg base (CXR l.prog w) "ring_lengths" 5 ["turn"] (spRings a_Table (⟨a_KinError, a_NoTable, a_NoClass, a_NoWalk, a_NoRule, a_WORDS⟩ : Ad)) := ⟨_, _, PySem.W.mg_of X G a_d_ring_lengths, kk_d_ring_lengths, b_d_ring_lengths, ok_rings F_d_ring_lengths T D_Table D_parts⟩
  have D_wives_to_try : Def l.prog w K mg base (CXR l.prog w) "wives_to_try" 6 ["turns"] (spTry a_Table (⟨a_KinError, a_NoTable, a_NoClass, a_NoWalk, a_NoRule, a_WORDS⟩ : Ad)) := ⟨_, _, PySem.W.mg_of X G a_d_wives_to_try, kk_d_wives_to_try, b_d_wives_to_try, ok_try F_d_wives_to_try T D_ring_lengths⟩
  have D_father_of : MDef l.prog w K mg base (CXR l.prog w) a_Table "father_of" 2 ["self", "c"] (spFather a_Table (⟨a_KinError, a_NoTable, a_NoClass, a_NoWalk, a_NoRule, a_WORDS⟩ : Ad)) := ⟨_, _, ⟨a_m_father_of, i_m_father_of, kk_m_father_of⟩, b_m_father_of, ok_father F_m_father_of T D_check_class⟩
  have D_husband_of : MDef l.prog w K mg base (CXR l.prog w) a_Table "husband_of" 2 ["self", "c"] (spHusband a_Table (⟨a_KinError, a_NoTable, a_NoClass, a_NoWalk, a_NoRule, a_WORDS⟩ : Ad)) := ⟨_, _, ⟨a_m_husband_of, i_m_husband_of, kk_m_husband_of⟩, b_m_husband_of, ok_husband F_m_husband_of T D_check_class⟩
  have D_partner_class : Def l.prog w K mg base (CXR l.prog w) "partner_class" 3 ["table", "sex", "c"] (spPartnerClass a_Table) := ⟨_, _, PySem.W.mg_of X G a_d_partner_class, kk_d_partner_class, b_d_partner_class, ok_pcls F_d_partner_class T D_wife_of D_husband_of⟩
  have D_child_class : Def l.prog w K mg base (CXR l.prog w) "child_class" 3 ["table", "sex", "c"] (spChildClass a_Table) := ⟨_, _, PySem.W.mg_of X G a_d_child_class, kk_d_child_class, b_d_child_class, ok_ccls F_d_child_class T D_heir_of D_husband_of⟩
  have D_class_after : Def l.prog w K mg base (CXR l.prog w) "class_after" 4 ["table", "sex", "c", "letter"] (spClassAfter a_Table) := ⟨_, _, PySem.W.mg_of X G a_d_class_after, kk_d_class_after, b_d_class_after, ok_clsa F_d_class_after T D_wife_of D_father_of D_partner_class D_child_class⟩
  have D_walked : Def l.prog w K mg base (CXR l.prog w) "walked" 5 ["table", "sex", "c", "walk"] (spWalked a_Table (⟨a_KinError, a_NoTable, a_NoClass, a_NoWalk, a_NoRule, a_WORDS⟩ : Ad)) := ⟨_, _, PySem.W.mg_of X G a_d_walked, kk_d_walked, b_d_walked, ok_walked F_d_walked T D_check_walk D_check_class D_class_after D_sex_after⟩
  have D_breaking_class : Def l.prog w K mg base (CXR l.prog w) "breaking_class" 6 ["table", "word", "walk"] (spBreaking a_Table) := ⟨_, _, PySem.W.mg_of X G a_d_breaking_class, kk_d_breaking_class, b_d_breaking_class, ok_breaking F_d_breaking_class T D_size D_walked D_wife_of⟩
  have D_first_breach : Def l.prog w K mg base (CXR l.prog w) "first_breach" 7 ["table", "rules"] (spFirstBreach a_Table) := ⟨_, _, PySem.W.mg_of X G a_d_first_breach, kk_d_first_breach, b_d_first_breach, ok_firstbreach F_d_first_breach T D_breaking_class⟩
  have D_first_of_size : Def l.prog w K mg base (CXR l.prog w) "first_of_size" 8 ["rules", "many"] (spOfSize a_Table (⟨a_KinError, a_NoTable, a_NoClass, a_NoWalk, a_NoRule, a_WORDS⟩ : Ad)) := ⟨_, _, PySem.W.mg_of X G a_d_first_of_size, kk_d_first_of_size, b_d_first_of_size, ok_ofsize F_d_first_of_size T D_all_turns D_wives_to_try D_Table D_parts D_first_breach⟩
  have D_first_table : Def l.prog w K mg base (CXR l.prog w) "first_table" 9 ["rules", "most"] (spFirstTable a_Table (⟨a_KinError, a_NoTable, a_NoClass, a_NoWalk, a_NoRule, a_WORDS⟩ : Ad)) := ⟨_, _, PySem.W.mg_of X G a_d_first_table, kk_d_first_table, b_d_first_table, ok_firsttable F_d_first_table T D_check_rules D_first_of_size⟩
  have D__law_turns : Def l.prog w K mg base (CXR l.prog w) "_law_turns" 1 ["many"] spTurns := ⟨_, _, PySem.W.mg_of X G a_d__law_turns, kk_d__law_turns, b_d__law_turns, ok_lturns F_d__law_turns T⟩
  have D__law_breach : Def l.prog w K mg base (CXR l.prog w) "_law_breach" 3 ["wives", "heirs", "rules"] spLBreach := ⟨_, _, PySem.W.mg_of X G a_d__law_breach, kk_d__law_breach, b_d__law_breach, ok_lbreach F_d__law_breach T hE D__law_led⟩
  have D__law_good : Def l.prog w K mg base (CXR l.prog w) "_law_good" 4 ["wives", "heirs", "rules"] spLGood := ⟨_, _, PySem.W.mg_of X G a_d__law_good, kk_d__law_good, b_d__law_good, ok_lgood F_d__law_good T hE D__law_one_part D__law_breach⟩
  have D__law_first : Def l.prog w K mg base (CXR l.prog w) "_law_first" 5 ["rules", "most"] spLFirst := ⟨_, _, PySem.W.mg_of X G a_d__law_first, kk_d__law_first, b_d__law_first, ok_lfirst F_d__law_first T hE D__law_turns D__law_good⟩
  have D__law_whole : Def l.prog w K mg base (CXR l.prog w) "_law_whole" 1 ["found"] spWhole := ⟨_, _, PySem.W.mg_of X G a_d__law_whole, kk_d__law_whole, b_d__law_whole, ok_whole F_d__law_whole T⟩
  have D__law_same_numbers : Def l.prog w K mg base (CXR l.prog w) "_law_same_numbers" 2 ["found", "due"] spSameN := ⟨_, _, PySem.W.mg_of X G a_d__law_same_numbers, kk_d__law_same_numbers, b_d__law_same_numbers, ok_samen F_d__law_same_numbers T hE D__law_whole⟩
  have D_wives : MDef l.prog w K mg base (CXR l.prog w) a_Table "wives" 1 ["self"] (spList a_Table fun w _ => w) := ⟨_, _, ⟨a_m_wives, i_m_wives, kk_m_wives⟩, b_m_wives, ok_wives F_m_wives T⟩
  have D_heirs : MDef l.prog w K mg base (CXR l.prog w) a_Table "heirs" 1 ["self"] (spList a_Table fun _ h => h) := ⟨_, _, ⟨a_m_heirs, i_m_heirs, kk_m_heirs⟩, b_m_heirs, ok_heirs F_m_heirs T⟩
  have D__law_four : Def l.prog w K mg base (CXR l.prog w) "_law_four" 10 ["script"] (spLaw K) := ⟨_, _, PySem.W.mg_of X G a_d__law_four, kk_d__law_four, b_d__law_four, ok_four F_d__law_four T hE D__law_cell_at D__law_turn_by D__law_one_part D__law_kept_rules D_first_table D__law_first D__law_same_numbers D__law_good D_wives D_heirs⟩
  have D__law_walk_by : Def l.prog w K mg base (CXR l.prog w) "_law_walk_by" 1 ["cell", "most"] spWalkBy := ⟨_, _, PySem.W.mg_of X G a_d__law_walk_by, kk_d__law_walk_by, b_d__law_walk_by, ok_walkby F_d__law_walk_by T⟩
  have D__law_woman_walk : Def l.prog w K mg base (CXR l.prog w) "_law_woman_walk" 2 ["cell", "most"] spWomanWalk := ⟨_, _, PySem.W.mg_of X G a_d__law_woman_walk, kk_d__law_woman_walk, b_d__law_woman_walk, ok_wwalk F_d__law_woman_walk T hE D__law_walk_by⟩
  have D__law_rules_by : Def l.prog w K mg base (CXR l.prog w) "_law_rules_by" 3 ["script", "start", "count"] (spRulesBy K) := ⟨_, _, PySem.W.mg_of X G a_d__law_rules_by, kk_d__law_rules_by, b_d__law_rules_by, ok_rulesby F_d__law_rules_by T hE D__law_cell_at D__law_woman_walk⟩
  exact ok_law F_d_law T hE D__law_cell_at D__law_four D__law_rules_by D_first_table D__law_first D__law_same_numbers D__law_good D_wives D_heirs
theorem walk {l : PySem.W.OpenLaw} {q : Program} {loose : List Str} {XP : (Str → Option Value) → Heap → Prop} {YP : World → Heap → Prop} {d : DefRec} {K : Params → PySem.W.Frag} (hn : l.most = some 63) (hdf : d.params.defaults = [])
    (hY : ∀ (w : World) (h : Heap), YP w h → (K w.params).In h)
    (F : ∀ (w : World) (mg : Str → Option Value) (fa : Addr) (h : Heap), (K w.params).In h → h.Ns mainGlobals mg → mg d.name = some (.ref fa) →
      ∃ fd : FuncData, (∀ (s : Shared) (u : Value), BindsTo s fd ⟨[u], []⟩ [("script", u)]) ∧ ∀ base : Heap, (K w.params).In base → base.Ns mainGlobals mg → FnOk l.prog w (K w.params) mg base (CXR l.prog w) 11 fa fd ["script"] (spLaw (K w.params))) :
    PySem.W.WalkO q loose XP YP l.row.toRowW d [] (fun f vs => PySem.call f vs) :=
  L2.walk_of (n := 63) (k := 11) (x := "script") (CX := fun w => CXR l.prog w) (sp := fun w => spLaw (K w.params)) hn (by decide) hdf ⟨rfl, by decide, by decide, rfl⟩ hY F (fun _ _ a ns hl _ hS => ⟨a, ns, rfl, hl, hS, fun _ => rfl⟩) fun _ _ _ _ _ ⟨_, _, _, _, _, z⟩ => z
end Prf
def PySem.W.Fast.tw5101544435033751710 : Unit := ()
def PySem.W.Fast.tw3744983510797590147 : Unit := ()
def PySem.W.Fast.tw8782531709451885458 : Unit := ()
def PySem.W.Fast.tw7176935028620573597 : Unit := ()
def PySem.W.Fast.tw11645295923433531177 : Unit := ()
def PySem.W.Fast.tw3073936705261780147 : Unit := ()
def PySem.W.Fast.tw799353721494342120 : Unit := ()
def PySem.W.Fast.tw2032642501373953952 : Unit := ()
def PySem.W.Fast.tw15051449432636629204 : Unit := ()
def PySem.W.Fast.tw8805800679014221623 : Unit := ()
def PySem.W.Fast.tw8533102916692639137 : Unit := ()
def PySem.W.Fast.tw13546841326097666898 : Unit := ()
def PySem.W.Fast.tw16569294344233319903 : Unit := ()
def PySem.W.Fast.tw9301031286783900633 : Unit := ()
def PySem.W.Fast.tw14332733787171784373 : Unit := ()
def PySem.W.Fast.tw10799458970588553308 : Unit := ()
def PySem.W.Fast.tw14717808915343693840 : Unit := ()
def PySem.W.Fast.tw8974116897530583986 : Unit := ()
open PySem PySem.W PyProof.Rows
set_option maxRecDepth 100000 in
set_option maxHeartbeats 0 in
theorem PySem.Challenge.cw_kinturns_k08_whole_the_first_table_holds : PySem.Challenge.rw_kinturns_k08_whole_the_first_table.Holds := by
  w_on; o_law; k_head; (case hw => w_witness2)
  k_fill
  refine Prf.walk (l := PySem.Challenge.rw_kinturns_k08_whole_the_first_table) rfl rfl (fun w h Y => PySem.W.kIn_of Y) ?F
  case F =>
    intro w mg fa h KX G hmg
    refine' Prf.all_mk KX G hmg ?b_KinError ?b_NoTable ?b_NoClass ?b_NoWalk ?b_NoRule ?b_Table ?b_WORDS ?lk_WORDS ?pg_Table ?hd_Table ?po_Table ?sa_Table ?mk_Table ?kc_Table ?n_wife_turn ?n_heir_turn ?n_husband_turn ?n_father_turn ?kd1 ?kd2 ?x_NoTable ?c1_NoTable ?c2_NoTable ?c3_NoTable ?c4_NoTable ?c5_NoTable ?c6_NoTable ?w_NoTable ?v_NoTable ?k_NoTable_NoTable ?k_NoTable_NoClass ?k_NoTable_NoWalk ?k_NoTable_NoRule ?x_NoClass ?c1_NoClass ?c2_NoClass ?c3_NoClass ?c4_NoClass ?c5_NoClass ?c6_NoClass ?w_NoClass ?v_NoClass ?k_NoClass_NoTable ?k_NoClass_NoClass ?k_NoClass_NoWalk ?k_NoClass_NoRule ?x_NoWalk ?c1_NoWalk ?c2_NoWalk ?c3_NoWalk ?c4_NoWalk ?c5_NoWalk ?c6_NoWalk ?w_NoWalk ?v_NoWalk ?k_NoWalk_NoTable ?k_NoWalk_NoClass ?k_NoWalk_NoWalk ?k_NoWalk_NoRule ?x_NoRule ?c1_NoRule ?c2_NoRule ?c3_NoRule ?c4_NoRule ?c5_NoRule ?c6_NoRule ?w_NoRule ?v_NoRule ?k_NoRule_NoTable ?k_NoRule_NoClass ?k_NoRule_NoWalk ?k_NoRule_NoRule ?a_d__law_cell_at ?l_d__law_cell_at ?cc_d__law_cell_at ?kk_d__law_cell_at ?a_d__law_turn_by ?l_d__law_turn_by ?cc_d__law_turn_by ?kk_d__law_turn_by ?a_d__law_one_part ?l_d__law_one_part ?cc_d__law_one_part ?kk_d__law_one_part ?a_d__law_step ?l_d__law_step ?cc_d__law_step ?kk_d__law_step ?a_d__law_led ?l_d__law_led ?cc_d__law_led ?kk_d__law_led ?a_d__law_kept_rules ?l_d__law_kept_rules ?cc_d__law_kept_rules ?kk_d__law_kept_rules ?a_d_check_walk ?l_d_check_walk ?cc_d_check_walk ?kk_d_check_walk ?a_d_partner_sex ?l_d_partner_sex ?cc_d_partner_sex ?kk_d_partner_sex ?a_d_sex_after ?l_d_sex_after ?cc_d_sex_after ?kk_d_sex_after ?a_d_end_sex ?l_d_end_sex ?cc_d_end_sex ?kk_d_end_sex ?a_d_check_rule ?l_d_check_rule ?cc_d_check_rule ?kk_d_check_rule ?a_d_check_rules ?l_d_check_rules ?cc_d_check_rules ?kk_d_check_rules ?a_d_all_turns ?l_d_all_turns ?cc_d_all_turns ?kk_d_all_turns ?a_d_is_turn ?l_d_is_turn ?cc_d_is_turn ?kk_d_is_turn ?a_d_turned_back ?l_d_turned_back ?cc_d_turned_back ?kk_d_turned_back ?a_m_Table___init__ ?i_m_Table___init__ ?l_m_Table___init__ ?cc_m_Table___init__ ?kk_m_Table___init__ ?a_m_size ?i_m_size ?l_m_size ?cc_m_size ?kk_m_size ?a_m_check_class ?i_m_check_class ?l_m_check_class ?cc_m_check_class ?kk_m_check_class ?a_m_wife_of ?i_m_wife_of ?l_m_wife_of ?cc_m_wife_of ?kk_m_wife_of ?a_m_heir_of ?i_m_heir_of ?l_m_heir_of ?cc_m_heir_of ?kk_m_heir_of ?a_d_part_with ?l_d_part_with ?cc_d_part_with ?kk_d_part_with ?a_d_parts ?l_d_parts ?cc_d_parts ?kk_d_parts ?a_d_ring_lengths ?l_d_ring_lengths ?cc_d_ring_lengths ?kk_d_ring_lengths ?a_d_wives_to_try ?l_d_wives_to_try ?cc_d_wives_to_try ?kk_d_wives_to_try ?a_m_father_of ?i_m_father_of ?l_m_father_of ?cc_m_father_of ?kk_m_father_of ?a_m_husband_of ?i_m_husband_of ?l_m_husband_of ?cc_m_husband_of ?kk_m_husband_of ?a_d_partner_class ?l_d_partner_class ?cc_d_partner_class ?kk_d_partner_class ?a_d_child_class ?l_d_child_class ?cc_d_child_class ?kk_d_child_class ?a_d_class_after ?l_d_class_after ?cc_d_class_after ?kk_d_class_after ?a_d_walked ?l_d_walked ?cc_d_walked ?kk_d_walked ?a_d_breaking_class ?l_d_breaking_class ?cc_d_breaking_class ?kk_d_breaking_class ?a_d_first_breach ?l_d_first_breach ?cc_d_first_breach ?kk_d_first_breach ?a_d_first_of_size ?l_d_first_of_size ?cc_d_first_of_size ?kk_d_first_of_size ?a_d_first_table ?l_d_first_table ?cc_d_first_table ?kk_d_first_table ?a_d__law_turns ?l_d__law_turns ?cc_d__law_turns ?kk_d__law_turns ?a_d__law_breach ?l_d__law_breach ?cc_d__law_breach ?kk_d__law_breach ?a_d__law_good ?l_d__law_good ?cc_d__law_good ?kk_d__law_good ?a_d__law_first ?l_d__law_first ?cc_d__law_first ?kk_d__law_first ?a_d__law_whole ?l_d__law_whole ?cc_d__law_whole ?kk_d__law_whole ?a_d__law_same_numbers ?l_d__law_same_numbers ?cc_d__law_same_numbers ?kk_d__law_same_numbers ?a_m_wives ?i_m_wives ?l_m_wives ?cc_m_wives ?kk_m_wives ?a_m_heirs ?i_m_heirs ?l_m_heirs ?cc_m_heirs ?kk_m_heirs ?a_d__law_four ?l_d__law_four ?cc_d__law_four ?kk_d__law_four ?a_d__law_walk_by ?l_d__law_walk_by ?cc_d__law_walk_by ?kk_d__law_walk_by ?a_d__law_woman_walk ?l_d__law_woman_walk ?cc_d__law_woman_walk ?kk_d__law_woman_walk ?a_d__law_rules_by ?l_d__law_rules_by ?cc_d__law_rules_by ?kk_d__law_rules_by ?a_d_law ?l_d_law ?cc_d_law ?kk_d_law ?g_MOST_CLASSES ?g_LETTERS ?g_LETTERS_TO_MEN ?g_MOST_LETTERS ?z_ValueError ?z_bool ?z_enumerate ?z_int ?z_isinstance ?z_len ?z_list ?z_max ?z_min ?z_range ?z_set ?z_sorted ?z_tuple
    (case b_KinError => k_is)
    (case b_NoTable => k_is)
    (case b_NoClass => k_is)
    (case b_NoWalk => k_is)
    (case b_NoRule => k_is)
    (case b_Table => k_is)
    (case b_WORDS => k_is)
    (case lk_WORDS => k_is)
    (case pg_Table => k_is)
    (case hd_Table => k_is)
    (case po_Table => k_is)
    (case sa_Table => k_is)
    (case mk_Table => k_is)
    (case kc_Table => k_is)
    (case n_wife_turn => k_is)
    (case n_heir_turn => k_is)
    (case n_husband_turn => k_is)
    (case n_father_turn => k_is)
    (case kd1 => k_is)
    (case kd2 => k_is)
    (case x_NoTable => k_exc)
    (case c1_NoTable => k_is)
    (case c2_NoTable => k_is)
    (case c3_NoTable => k_is)
    (case c4_NoTable => k_is)
    (case c5_NoTable => k_is)
    (case c6_NoTable => k_is)
    (case w_NoTable => kts_exm)
    (case v_NoTable => kit_is)
    (case k_NoTable_NoTable => kit_is)
    (case k_NoTable_NoClass => kit_is)
    (case k_NoTable_NoWalk => kit_is)
    (case k_NoTable_NoRule => kit_is)
    (case x_NoClass => k_exc)
    (case c1_NoClass => k_is)
    (case c2_NoClass => k_is)
    (case c3_NoClass => k_is)
    (case c4_NoClass => k_is)
    (case c5_NoClass => k_is)
    (case c6_NoClass => k_is)
    (case w_NoClass => kts_exm)
    (case v_NoClass => kit_is)
    (case k_NoClass_NoTable => kit_is)
    (case k_NoClass_NoClass => kit_is)
    (case k_NoClass_NoWalk => kit_is)
    (case k_NoClass_NoRule => kit_is)
    (case x_NoWalk => k_exc)
    (case c1_NoWalk => k_is)
    (case c2_NoWalk => k_is)
    (case c3_NoWalk => k_is)
    (case c4_NoWalk => k_is)
    (case c5_NoWalk => k_is)
    (case c6_NoWalk => k_is)
    (case w_NoWalk => kts_exm)
    (case v_NoWalk => kit_is)
    (case k_NoWalk_NoTable => kit_is)
    (case k_NoWalk_NoClass => kit_is)
    (case k_NoWalk_NoWalk => kit_is)
    (case k_NoWalk_NoRule => kit_is)
    (case x_NoRule => k_exc)
    (case c1_NoRule => k_is)
    (case c2_NoRule => k_is)
    (case c3_NoRule => k_is)
    (case c4_NoRule => k_is)
    (case c5_NoRule => k_is)
    (case c6_NoRule => k_is)
    (case w_NoRule => kts_exm)
    (case v_NoRule => kit_is)
    (case k_NoRule_NoTable => kit_is)
    (case k_NoRule_NoClass => kit_is)
    (case k_NoRule_NoWalk => kit_is)
    (case k_NoRule_NoRule => kit_is)
    (case a_d__law_cell_at => k_is)
    (case l_d__law_cell_at => k_is)
    (case cc_d__law_cell_at => k_is)
    (case kk_d__law_cell_at => k_is)
    (case a_d__law_turn_by => k_is)
    (case l_d__law_turn_by => k_is)
    (case cc_d__law_turn_by => k_is)
    (case kk_d__law_turn_by => k_is)
    (case a_d__law_one_part => k_is)
    (case l_d__law_one_part => k_is)
    (case cc_d__law_one_part => k_is)
    (case kk_d__law_one_part => k_is)
    (case a_d__law_step => k_is)
    (case l_d__law_step => k_is)
    (case cc_d__law_step => k_is)
    (case kk_d__law_step => k_is)
    (case a_d__law_led => k_is)
    (case l_d__law_led => k_is)
    (case cc_d__law_led => k_is)
    (case kk_d__law_led => k_is)
    (case a_d__law_kept_rules => k_is)
    (case l_d__law_kept_rules => k_is)
    (case cc_d__law_kept_rules => k_is)
    (case kk_d__law_kept_rules => k_is)
    (case a_d_check_walk => k_is)
    (case l_d_check_walk => k_is)
    (case cc_d_check_walk => k_is)
    (case kk_d_check_walk => k_is)
    (case a_d_partner_sex => k_is)
    (case l_d_partner_sex => k_is)
    (case cc_d_partner_sex => k_is)
    (case kk_d_partner_sex => k_is)
    (case a_d_sex_after => k_is)
    (case l_d_sex_after => k_is)
    (case cc_d_sex_after => k_is)
    (case kk_d_sex_after => k_is)
    (case a_d_end_sex => k_is)
    (case l_d_end_sex => k_is)
    (case cc_d_end_sex => k_is)
    (case kk_d_end_sex => k_is)
    (case a_d_check_rule => k_is)
    (case l_d_check_rule => k_is)
    (case cc_d_check_rule => k_is)
    (case kk_d_check_rule => k_is)
    (case a_d_check_rules => k_is)
    (case l_d_check_rules => k_is)
    (case cc_d_check_rules => k_is)
    (case kk_d_check_rules => k_is)
    (case a_d_all_turns => k_is)
    (case l_d_all_turns => k_is)
    (case cc_d_all_turns => k_is)
    (case kk_d_all_turns => k_is)
    (case a_d_is_turn => k_is)
    (case l_d_is_turn => k_is)
    (case cc_d_is_turn => k_is)
    (case kk_d_is_turn => k_is)
    (case a_d_turned_back => k_is)
    (case l_d_turned_back => k_is)
    (case cc_d_turned_back => k_is)
    (case kk_d_turned_back => k_is)
    (case a_m_Table___init__ => k_is)
    (case i_m_Table___init__ => k_is)
    (case l_m_Table___init__ => k_is)
    (case cc_m_Table___init__ => k_is)
    (case kk_m_Table___init__ => k_is)
    (case a_m_size => k_is)
    (case i_m_size => k_is)
    (case l_m_size => k_is)
    (case cc_m_size => k_is)
    (case kk_m_size => k_is)
    (case a_m_check_class => k_is)
    (case i_m_check_class => k_is)
    (case l_m_check_class => k_is)
    (case cc_m_check_class => k_is)
    (case kk_m_check_class => k_is)
    (case a_m_wife_of => k_is)
    (case i_m_wife_of => k_is)
    (case l_m_wife_of => k_is)
    (case cc_m_wife_of => k_is)
    (case kk_m_wife_of => k_is)
    (case a_m_heir_of => k_is)
    (case i_m_heir_of => k_is)
    (case l_m_heir_of => k_is)
    (case cc_m_heir_of => k_is)
    (case kk_m_heir_of => k_is)
    (case a_d_part_with => k_is)
    (case l_d_part_with => k_is)
    (case cc_d_part_with => k_is)
    (case kk_d_part_with => k_is)
    (case a_d_parts => k_is)
    (case l_d_parts => k_is)
    (case cc_d_parts => k_is)
    (case kk_d_parts => k_is)
    (case a_d_ring_lengths => k_is)
    (case l_d_ring_lengths => k_is)
    (case cc_d_ring_lengths => k_is)
    (case kk_d_ring_lengths => k_is)
    (case a_d_wives_to_try => k_is)
    (case l_d_wives_to_try => k_is)
    (case cc_d_wives_to_try => k_is)
    (case kk_d_wives_to_try => k_is)
    (case a_m_father_of => k_is)
    (case i_m_father_of => k_is)
    (case l_m_father_of => k_is)
    (case cc_m_father_of => k_is)
    (case kk_m_father_of => k_is)
    (case a_m_husband_of => k_is)
    (case i_m_husband_of => k_is)
    (case l_m_husband_of => k_is)
    (case cc_m_husband_of => k_is)
    (case kk_m_husband_of => k_is)
    (case a_d_partner_class => k_is)
    (case l_d_partner_class => k_is)
    (case cc_d_partner_class => k_is)
    (case kk_d_partner_class => k_is)
    (case a_d_child_class => k_is)
    (case l_d_child_class => k_is)
    (case cc_d_child_class => k_is)
    (case kk_d_child_class => k_is)
    (case a_d_class_after => k_is)
    (case l_d_class_after => k_is)
    (case cc_d_class_after => k_is)
    (case kk_d_class_after => k_is)
    (case a_d_walked => k_is)
    (case l_d_walked => k_is)
    (case cc_d_walked => k_is)
    (case kk_d_walked => k_is)
    (case a_d_breaking_class => k_is)
    (case l_d_breaking_class => k_is)
    (case cc_d_breaking_class => k_is)
    (case kk_d_breaking_class => k_is)
    (case a_d_first_breach => k_is)
    (case l_d_first_breach => k_is)
    (case cc_d_first_breach => k_is)
    (case kk_d_first_breach => k_is)
    (case a_d_first_of_size => k_is)
    (case l_d_first_of_size => k_is)
    (case cc_d_first_of_size => k_is)
    (case kk_d_first_of_size => k_is)
    (case a_d_first_table => k_is)
    (case l_d_first_table => k_is)
    (case cc_d_first_table => k_is)
    (case kk_d_first_table => k_is)
    (case a_d__law_turns => k_is)
    (case l_d__law_turns => k_is)
    (case cc_d__law_turns => k_is)
    (case kk_d__law_turns => k_is)
    (case a_d__law_breach => k_is)
    (case l_d__law_breach => k_is)
    (case cc_d__law_breach => k_is)
    (case kk_d__law_breach => k_is)
    (case a_d__law_good => k_is)
    (case l_d__law_good => k_is)
    (case cc_d__law_good => k_is)
    (case kk_d__law_good => k_is)
    (case a_d__law_first => k_is)
    (case l_d__law_first => k_is)
    (case cc_d__law_first => k_is)
    (case kk_d__law_first => k_is)
    (case a_d__law_whole => k_is)
    (case l_d__law_whole => k_is)
    (case cc_d__law_whole => k_is)
    (case kk_d__law_whole => k_is)
    (case a_d__law_same_numbers => k_is)
    (case l_d__law_same_numbers => k_is)
    (case cc_d__law_same_numbers => k_is)
    (case kk_d__law_same_numbers => k_is)
    (case a_m_wives => k_is)
    (case i_m_wives => k_is)
    (case l_m_wives => k_is)
    (case cc_m_wives => k_is)
    (case kk_m_wives => k_is)
    (case a_m_heirs => k_is)
    (case i_m_heirs => k_is)
    (case l_m_heirs => k_is)
    (case cc_m_heirs => k_is)
    (case kk_m_heirs => k_is)
    (case a_d__law_four => k_is)
    (case l_d__law_four => k_is)
    (case cc_d__law_four => k_is)
    (case kk_d__law_four => k_is)
    (case a_d__law_walk_by => k_is)
    (case l_d__law_walk_by => k_is)
    (case cc_d__law_walk_by => k_is)
    (case kk_d__law_walk_by => k_is)
    (case a_d__law_woman_walk => k_is)
    (case l_d__law_woman_walk => k_is)
    (case cc_d__law_woman_walk => k_is)
    (case kk_d__law_woman_walk => k_is)
    (case a_d__law_rules_by => k_is)
    (case l_d__law_rules_by => k_is)
    (case cc_d__law_rules_by => k_is)
    (case kk_d__law_rules_by => k_is)
    (case a_d_law => k_is)
    (case l_d_law => k_is)
    (case cc_d_law => k_is)
    (case kk_d_law => k_is)
    (case g_MOST_CLASSES => k_is)
    (case g_LETTERS => k_is)
    (case g_LETTERS_TO_MEN => k_is)
    (case g_MOST_LETTERS => k_is)
    (case z_ValueError => k_is)
    (case z_bool => k_is)
    (case z_enumerate => k_is)
    (case z_int => k_is)
    (case z_isinstance => k_is)
    (case z_len => k_is)
    (case z_list => k_is)
    (case z_max => k_is)
    (case z_min => k_is)
    (case z_range => k_is)
    (case z_set => k_is)
    (case z_sorted => k_is)
    (case z_tuple => k_is)
#print axioms PySem.Challenge.cw_kinturns_k08_whole_the_first_table_holds
