import PyProof.Rows.All
import Wide.All
import OpenK.AllK
import Wide.FinOn
import Lean
import PyProof.EqAt
import PyProof.EqKinds
import PyProof.NeKinds
import PyProof.TupleCall
import PySem.Challenge.RW_kinturns_k09_a_book_of_kin
set_option Elab.async false
set_option linter.all false
set_option maxRecDepth 100000
/-! THE HAND LAYER, for ints, bools, texts, own classes, LISTS and tuples (index, slices, in, append, pop ..), calls, loops. Paste it whole ahead of your own text; what your proof does not reach may be deleted. -/
namespace L2
open PySem PySem.Spec PyProof.Rows

/-- a key: an int or a str -/
abbrev Key := Sum Int Str
def keyIs : Key → Value → Bool
  | .inl k, v => Value.isInt k v
  | .inr x, v => Value.isStrOf x v
def keyH (w : World) : Key → Int
  | .inl k => hashInt k
  | .inr x => hashStr w x
theorem keyIs_shape : ∀ {k : Key} {v : Value}, keyIs k v = true → (∃ i t, k = Sum.inl i ∧ v = Value.int i t) ∨ (∃ x t, k = Sum.inr x ∧ v = Value.str x t)
  | .inl i, v, h => by
    obtain ⟨t, e⟩ := Value.isInt_shape (k := i) (v := v) h
    exact .inl ⟨i, t, rfl, e⟩
  | .inr x, v, h => by
    obtain ⟨t, e⟩ := Value.isStrOf_shape (x := x) (v := v) h
    exact .inr ⟨x, t, rfl, e⟩
theorem keyIs_int (i : Int) (t : Tok) : keyIs (.inl i) (.int i t) = true := by simp [keyIs, Value.isInt]
theorem keyIs_str (x : Str) (t : Tok) : keyIs (.inr x) (.str x t) = true := by simp [keyIs, Value.isStrOf]
theorem key_ll (a b : Int) : decide ((Sum.inl a : Key) = Sum.inl b) = (a == b) := by
  by_cases e : a = b
  · subst e; simp
  · have h : ¬ (Sum.inl a : Key) = Sum.inl b := fun q => e (Sum.inl.inj q)
    rw [decide_eq_false h]
    exact (beq_eq_false_iff_ne.mpr e).symm
theorem key_rr (a b : Str) : decide ((Sum.inr a : Key) = Sum.inr b) = decide (a = b) := by
  by_cases e : a = b
  · subst e; simp
  · have h : ¬ (Sum.inr a : Key) = Sum.inr b := fun q => e (Sum.inr.inj q)
    rw [decide_eq_false h, decide_eq_false e]
theorem key_lr (a : Int) (b : Str) : decide ((Sum.inl a : Key) = Sum.inr b) = false := decide_eq_false (fun q => nomatch q)
theorem key_rl (a : Str) (b : Int) : decide ((Sum.inr a : Key) = Sum.inl b) = false := decide_eq_false (fun q => nomatch q)

def mixKind (prog : Program) (w : World) : PySem.KeyKind prog w Key where
  is := keyIs
  hash := keyH w
  inj := fun v a b ha hb => by
    rcases keyIs_shape ha with ⟨i, t, rfl, rfl⟩ | ⟨x, t, rfl, rfl⟩
    · rcases keyIs_shape hb with ⟨j, u, rfl, e⟩ | ⟨y, u, rfl, e⟩
      · injection e with e1 _; rw [e1]
      · exact nomatch e
    · rcases keyIs_shape hb with ⟨j, u, rfl, e⟩ | ⟨y, u, rfl, e⟩
      · exact nomatch e
      · injection e with e1 _; rw [e1]
  byValue := fun k v h => by
    rcases keyIs_shape h with ⟨i, t, rfl, rfl⟩ | ⟨x, t, rfl, rfl⟩ <;> rfl
  pyHash := fun hv h => by
    rcases keyIs_shape hv with ⟨i, t, rfl, rfl⟩ | ⟨x, t, rfl, rfl⟩
    · exact wpAny_pyHash_int h
    · exact wpAny_pyHash_str h
  eqBool := fun hu hv h => by
    rcases keyIs_shape hu with ⟨i, t, rfl, rfl⟩ | ⟨x, t, rfl, rfl⟩
    · rcases keyIs_shape hv with ⟨j, u, rfl, rfl⟩ | ⟨y, u, rfl, rfl⟩
      · rw [key_ll] at h; exact wpAny_eqBool_int h
      · rw [key_lr] at h; exact SeqAt.EqAt.int_str i t y u _ _ _ _ h
    · rcases keyIs_shape hv with ⟨j, u, rfl, rfl⟩ | ⟨y, u, rfl, rfl⟩
      · rw [key_rl] at h; exact SeqAt.EqAt.str_int x t j u _ _ _ _ h
      · rw [key_rr] at h; exact wpAny_eqBool_str h
  «strs» := fun k x t v h => by
    rcases keyIs_shape h with ⟨i, u, rfl, e⟩ | ⟨y, u, rfl, e⟩
    · exact nomatch e
    · injection e with e1 _
      subst e1
      cases v <;> rfl

theorem mixKind_is (prog : Program) (w : World) (k : Key) (v : Value) : (mixKind prog w).is k v = keyIs k v := rfl
theorem mixKind_int (prog : Program) (w : World) (i : Int) (t : Tok) : (mixKind prog w).is (.inl i) (.int i t) = true := keyIs_int i t
theorem mixKind_str (prog : Program) (w : World) (x : Str) (t : Tok) : (mixKind prog w).is (.inr x) (.str x t) = true := keyIs_str x t
end L2

namespace L2
open PySem PySem.Spec PyProof.Rows

/-- a value, without the heap -/
inductive V where
  | non | bl (b : Bool) | int (i : Int) | str (x : Str) | byt (b : Array UInt8) | flt (b : UInt64) | ref (a : Addr) | ty (n : String)
  deriving DecidableEq

def RelV : V → Value → Prop
  | .non, u => u = Value.none
  | .bl b, u => u = Value.bool b
  | .int i, u => ∃ t, u = Value.int i t
  | .str x, u => ∃ t, u = Value.str x t
  | .byt b, u => ∃ t, u = Value.bytes b t
  | .flt b, u => ∃ t, u = Value.float b t
  | .ref a, u => u = Value.ref a
  | .ty n, u => u = Value.type n

abbrev Vals : List V → List Value → Prop := Paired RelV
theorem Vals.length {xs : List V} {us : List Value} (r : Vals xs us) : xs.length = us.length := Paired.length r
theorem Vals.get : ∀ {xs : List V} {us : List Value} {i : Nat} {x : V}, Vals xs us → xs[i]? = some x → ∃ u, us[i]? = some u ∧ RelV x u
  | _, _, _, _, .nil, e => by simp at e
  | _, _, 0, _, .cons r _, e => by simp at e; subst e; exact ⟨_, rfl, r⟩
  | _, _, i + 1, x, .cons _ t, e => by
    obtain ⟨u, h1, h2⟩ := Vals.get (i := i) (x := x) t (by simpa using e)
    exact ⟨u, by simpa using h1, h2⟩
theorem Vals.set {x : V} {u : Value} (r : RelV x u) : ∀ {xs : List V} {us : List Value} (i : Nat), Vals xs us → Vals (xs.set i x) (us.set i u)
  | _, _, _, .nil => .nil
  | _, _, 0, .cons _ t => .cons r t
  | _, _, i + 1, .cons q t => .cons q (Vals.set r i t)
theorem Vals.append : ∀ {xs ys : List V} {us ws : List Value}, Vals xs us → Vals ys ws → Vals (xs ++ ys) (us ++ ws)
  | _, _, _, _, .nil, s => s
  | _, _, _, _, .cons r t, s => .cons r (Vals.append t s)
theorem Vals.take : ∀ {xs : List V} {us : List Value} (n : Nat), Vals xs us → Vals (xs.take n) (us.take n)
  | _, _, 0, _ => .nil
  | _, _, _ + 1, .nil => .nil
  | _, _, n + 1, .cons r t => .cons r (Vals.take n t)
theorem Vals.drop : ∀ {xs : List V} {us : List Value} (n : Nat), Vals xs us → Vals (xs.drop n) (us.drop n)
  | _, _, 0, r => r
  | _, _, _ + 1, .nil => .nil
  | _, _, n + 1, .cons _ t => Vals.drop n t
theorem Vals.none_of : ∀ {xs : List V} {us : List Value} {i : Nat}, Vals xs us → xs[i]? = none → us[i]? = none := fun {xs us i} r e => by
  have h1 := r.length
  have h2 : xs.length ≤ i := List.getElem?_eq_none_iff.mp e
  exact List.getElem?_eq_none_iff.mpr (by omega)

def RelO : Option V → Option Value → Prop
  | some v, some u => RelV v u
  | none, none => True
  | _, _ => False
def KV {κ : Type} : List (κ × V) → List (κ × Value) → Prop := Paired fun (p : κ × V) (q : κ × Value) => p.1 = q.1 ∧ RelV p.2 q.2

/-- a key of a dict (00_mix): an int or a text -/
def kV : Key → V
  | .inl i => .int i
  | .inr x => .str x

/-- what stands at a tracked address -/
inductive HO where
  /-- a list -/
  | lst (xs : List V)
  /-- a tuple (never changes) -/
  | tup (xs : List V)
  /-- a dict whose keys are ints and texts; one whose keys are tuples of ints and texts (the empty one is both) -/
  | dK (kvs : List (Key × V)) | dT (kvs : List (List Key × V))
  /-- a set of ints: its members, its size -/
  | set (S : Int → Bool) (n : Nat)
  /-- an instance of the class at C, its dict at dx, its attributes -/
  | ins (C dx : Addr) (fs : List (Str × V))
  /-- the dict of the instance at x -/
  | own (x : Addr)
  /-- the dict of an exception -/
  | xd (fs : List (Str × V))
  /-- a bound method, f of x -/
  | met (f x : Addr)
  /-- a range object lo, lo + 1, .. below hi -/
  | rng (lo hi : Int)
  /-- a thing that is known to the object (the script; a dict while a loop walks it): read, never written while it is so -/
  | frz (o : Obj) (u : HO)
  /-- a code object's table -/
  | tbl (ps : Array Value)
  /-- any other thing, by what is true of its one object (a def of one's own: SetO a S n := HO.ext fun h => ..) -/
  | ext (φ : Heap → Prop)

abbrev Hp := Addr → Option HO
def upd (H : Hp) (a : Addr) (o : HO) : Hp := fun b => if b = a then some o else H b
theorem upd_same {H : Hp} {a : Addr} {o : HO} : upd H a o a = some o := by unfold upd; rw [if_pos rfl]
theorem upd_ne {H : Hp} {a b : Addr} {o : HO} (h : b ≠ a) : upd H a o b = H b := by unfold upd; rw [if_neg h]
theorem upd_upd {H : Hp} {a : Addr} {o u : HO} : upd (upd H a o) a u = upd H a u := by
  funext b; unfold upd; split <;> rfl
/-- two objects of different content stand apart -/
theorem ne_of {H : Hp} {a b : Addr} {o u : HO} (h : H a = some o) (h' : H b = some u) (d : o ≠ u) : a ≠ b := by
  intro e; subst e; rw [h] at h'; exact d (Option.some.inj h')
theorem ne_of_none {H : Hp} {a b : Addr} {o : HO} (h : H a = some o) (h' : H b = none) : a ≠ b := by
  intro e; subst e; rw [h] at h'; cases h'

section
variable (P : Program) (w : World)
def ObjOk (H : Hp) (h : Heap) (a : Addr) : HO → Prop
  | .lst xs => xs.length ≤ sizeLine ∧ ∃ (its : List Value) (n : Nat), Vals xs its ∧ h.get? a = some { cls := .type "list", data := .seq its.toArray n }
  | .tup xs => xs.length ≤ sizeLine ∧ ∃ its : List Value, Vals xs its ∧ IsTup h a its.toArray
  | .dK kvs => kvs.length ≤ sizeLine ∧ (a == sysModules) = false ∧ ∃ vs, KV kvs vs ∧ h.DictOf (mixKind P w) a vs
  | .dT kvs => kvs.length ≤ sizeLine ∧ (a == sysModules) = false ∧ ∃ xs : List (List Key × Addr × Value),
      Paired (fun (p : List Key × V) (q : List Key × Addr × Value) => p.1 = q.1 ∧ H q.2.1 = some (.tup (p.1.map kV)) ∧ RelV p.2 q.2.2) kvs xs ∧
      ∃ o es ep, h.get? a = some o ∧ o.ExactDict ∧ o.data = .dict es ep ∧ es.toList = xs.map (entryOfKey (tupleKind (mixKind P w))) ∧ (xs.map (·.1)).Nodup
  | .set S n => h.SetOf (intKind P w) a S n
  | .ins C dx fs => H dx = some (.own a) ∧ fs.length ≤ 1000 ∧ dx ≠ a ∧ h.get? a = some (PySem.W.instObj C dx) ∧
      ∃ mA, h.Ns1 dx mA ∧ (∀ f, RelO (fs.lookup f) (mA f)) ∧ PySem.Within mA (fs.map (·.1))
  | .own _ => ∃ o, h.get? a = some o
  | .xd fs => ∃ mA, h.Ns1 a mA ∧ ∀ f, RelO (fs.lookup f) (mA f)
  | .rng lo hi => ∃ t u v, h.get? a = some { cls := .type "range", data := .fields #[.int lo t, .int hi u, .int 1 v] }
  | .frz o u => h.get? a = some o ∧ ObjOk H h a u
  | .tbl ps => h.get? a = some { cls := .none, data := .fields ps }
  | .met f x => h.get? a = some (PySem.W.methodObj (.ref f) (.ref x))
  | .ext φ => φ h ∧ (∃ o, h.get? a = some o) ∧ ∀ h1 h2 : Heap, φ h1 → (∀ o, h1.get? a = some o → h2.get? a = some o) → φ h2
/-- the abstract heap is held -/
def HOk (H : Hp) (h : Heap) : Prop := ∀ a o, H a = some o → ObjOk P w H h a o
end

section
variable {P : Program} {w : World} {H H' : Hp} {h h' : Heap} {a : Addr} {o : HO}
theorem ObjOk.lt (x : ObjOk P w H h a o) : a < h.objs.size := by
  cases o with
  | lst xs => obtain ⟨_, _, _, _, e⟩ := x; exact Heap.lt_size e
  | tup xs => obtain ⟨_, _, _, p⟩ := x; exact p.lt
  | dK kvs => obtain ⟨_, _, _, _, o, _, _, e, _⟩ := x; exact Heap.lt_size e
  | dT kvs => obtain ⟨_, _, _, _, o, _, _, e, _⟩ := x; exact Heap.lt_size e
  | set S n => obtain ⟨o, _, _, _, e, _⟩ := x; exact Heap.lt_size e
  | ins C dx fs => obtain ⟨_, _, _, e, _⟩ := x; exact Heap.lt_size e
  | own y => obtain ⟨_, e⟩ := x; exact Heap.lt_size e
  | xd fs => obtain ⟨_, ⟨_, _, _, e, _⟩, _⟩ := x; exact Heap.lt_size e
  | rng lo hi => obtain ⟨_, _, _, e⟩ := x; exact Heap.lt_size e
  | frz ob u => obtain ⟨e, _⟩ := x; exact Heap.lt_size e
  | tbl ps => exact Heap.lt_size (show h.get? a = some _ from x)
  | met f y => exact Heap.lt_size (show h.get? a = some _ from x)
  | ext φ => obtain ⟨_, ⟨_, e⟩, _⟩ := x; exact Heap.lt_size e
theorem Paired.mapP {α β : Type} {F G : α → β → Prop} : ∀ {l₁ : List α} {l₂ : List β}, Paired F l₁ l₂ → (∀ a b, F a b → G a b) → Paired G l₁ l₂
  | _, _, .nil, _ => .nil
  | _, _, .cons r t, f => .cons (f _ _ r) (Paired.mapP t f)
theorem Paired.imp' {α β : Type} {F G : α → β → Prop} (f : ∀ a b, F a b → G a b) {l₁ : List α} {l₂ : List β} (r : Paired F l₁ l₂) : Paired G l₁ l₂ := Paired.mapP r f
/-- what an object's description leans on: its own object, its own dict, the tuples -/
theorem ObjOk.stay (x : ObjOk P w H h a o) (k : ∀ b u, (b = a ∨ H b = some (.own a)) → h.get? b = some u → h'.get? b = some u)
    (ho : ∀ b, H b = some (.own a) → H' b = some (.own a)) (ht : ∀ b xs, H b = some (.tup xs) → H' b = some (.tup xs)) : ObjOk P w H' h' a o := by
  induction o with
  | lst xs => obtain ⟨z, its, n, r, e⟩ := x; exact ⟨z, its, n, r, k _ _ (.inl rfl) e⟩
  | tup xs => obtain ⟨z, its, r, ob, e, c⟩ := x; exact ⟨z, its, r, ob, k _ _ (.inl rfl) e, c⟩
  | dK kvs => obtain ⟨z, y, vs, r, ob, es, ep, e, c⟩ := x; exact ⟨z, y, vs, r, ob, es, ep, k _ _ (.inl rfl) e, c⟩
  | dT kvs =>
    obtain ⟨z, y, xs, r, ob, es, ep, e, c⟩ := x
    exact ⟨z, y, xs, Paired.mapP r fun p q z => ⟨z.1, ht _ _ z.2.1, z.2.2⟩, ob, es, ep, k _ _ (.inl rfl) e, c⟩
  | set S n => obtain ⟨ob, es, ep, t, e, c⟩ := x; exact ⟨ob, es, ep, t, k _ _ (.inl rfl) e, c⟩
  | ins C dx fs =>
    obtain ⟨d, z, ne, e, mA, ⟨od, es, ep, e2, c⟩, r⟩ := x
    exact ⟨ho _ d, z, ne, k _ _ (.inl rfl) e, mA, ⟨od, es, ep, k _ _ (.inr d) e2, c⟩, r⟩
  | own y => obtain ⟨ob, e⟩ := x; exact ⟨ob, k _ _ (.inl rfl) e⟩
  | xd fs => obtain ⟨mA, ⟨od, es, ep, e, c⟩, r⟩ := x; exact ⟨mA, ⟨od, es, ep, k _ _ (.inl rfl) e, c⟩, r⟩
  | rng lo hi => obtain ⟨t, u, v, e⟩ := x; exact ⟨t, u, v, k _ _ (.inl rfl) e⟩
  | frz ob u ih => obtain ⟨e, q⟩ := x; exact ⟨k _ _ (.inl rfl) e, ih q⟩
  | tbl ps =>
    have e : h.get? a = some { cls := .none, data := .fields ps } := x
    show h'.get? a = some { cls := .none, data := .fields ps }
    exact k a _ (.inl rfl) e
  | met f y =>
    have e : h.get? a = some (PySem.W.methodObj (.ref f) (.ref y)) := x
    show h'.get? a = some (PySem.W.methodObj (.ref f) (.ref y))
    exact k a _ (.inl rfl) e
  | ext φ => obtain ⟨p, ⟨o, e⟩, st⟩ := x; exact ⟨st _ _ p fun o q => k _ _ (.inl rfl) q, ⟨o, k _ _ (.inl rfl) e⟩, st⟩
theorem HOk.lt (x : HOk P w H h) (e : H a = some o) : a < h.objs.size := (x a o e).lt
theorem HOk.fresh (x : HOk P w H h) (e : h.objs.size ≤ a) : H a = none := by
  cases q : H a with
  | none => rfl
  | some u => exact absurd (Nat.lt_of_lt_of_le (x.lt q) e) (Nat.lt_irrefl _)
/-- every object of the heap is kept -/
theorem HOk.kept (x : HOk P w H h) (k : ∀ b u, h.get? b = some u → h'.get? b = some u) : HOk P w H h' := fun a o e =>
  (x a o e).stay (fun b u _ q => k b u q) (fun _ q => q) fun _ _ q => q
/-- a new object is laid and tracked -/
theorem HOk.laid (x : HOk P w H h) (k : ∀ b u, h.get? b = some u → h'.get? b = some u) (hp : h.objs.size ≤ a) (new : ObjOk P w (upd H a o) h' a o) : HOk P w (upd H a o) h' := fun b u e => by
  have hn := x.fresh hp
  by_cases hb : b = a
  · subst hb; rw [upd_same] at e; cases e; exact new
  · rw [upd_ne hb] at e
    exact (x b u e).stay (fun c v _ q => k c v q) (fun c q => by rw [upd_ne (ne_of_none q hn)]; exact q) fun c xs q => by rw [upd_ne (ne_of_none q hn)]; exact q
end

/-- what may be read as u: it is u, or a known u -/
def Rd (H : Hp) (a : Addr) (u : HO) : Prop := H a = some u ∨ ∃ o, H a = some (.frz o u)
theorem Rd.of {H : Hp} {a : Addr} {u : HO} (h : H a = some u) : Rd H a u := .inl h
theorem Rd.ok {P : Program} {w : World} {H : Hp} {h : Heap} {a : Addr} {u : HO} (r : Rd H a u) (x : HOk P w H h) : ObjOk P w H h a u := by
  rcases r with r | ⟨o, r⟩
  · exact x a u r
  · obtain ⟨_, q⟩ := x a _ r
    exact q
/-- what may be written -/
def Mut : Option HO → Prop
  | some (.lst _) => True
  | some (.dK _) => True
  | some (.dT _) => True
  | some (.set _ _) => True
  | some (.ins _ _ _) => True
  | some (.ext _) => True
  | _ => False
section
variable {P : Program} {w : World} {H : Hp} {h h' : Heap} {x e : Addr} {o' : HO}
/-- the object at e is changed: x itself, or the dict of the instance x -/
theorem HOk.write (ok : HOk P w H h) (mu : Mut (H x)) (he : e = x ∨ H e = some (.own x)) (k : ∀ b u, b ≠ e → h.get? b = some u → h'.get? b = some u) (heo : ∃ u, h'.get? e = some u)
    (new : ObjOk P w (upd H x o') h' x o') : HOk P w (upd H x o') h' := fun b u q => by
  have nown : ∀ c y, H c = some (.own y) → c ≠ x := fun c y r z => by subst z; rw [r] at mu; exact mu
  have ntup : ∀ c xs, H c = some (.tup xs) → c ≠ x := fun c xs r z => by subst z; rw [r] at mu; exact mu
  by_cases hb : b = x
  · subst hb; rw [upd_same] at q; cases q; exact new
  · rw [upd_ne hb] at q
    by_cases hbe : b = e
    · have q' : H b = some (.own x) := by
        rcases he with z | z
        · exact absurd (hbe.trans z) hb
        · rw [hbe]; exact z
      rw [q] at q'; cases q'
      obtain ⟨v, hv⟩ := heo
      exact ⟨v, by rw [hbe]; exact hv⟩
    · refine (ok b u q).stay (fun c v hc r => k c v ?_ r) (fun c r => by rw [upd_ne (nown c b r)]; exact r) fun c xs r => by rw [upd_ne (ntup c xs r)]; exact r
      rcases hc with rfl | hc
      · exact hbe
      · rintro rfl
        rcases he with z | z
        · exact nown c b hc z
        · rw [hc] at z; cases z; exact hb rfl
end

/-! ### kept unless tracked; of the frames at fs (the callers') the slots may change (an exception that passes writes there); of the records at ex (iterators) nothing is said -/
structure Un (fs ex : List Addr) (H H' : Hp) (h h' : Heap) : Prop where
  keep : ∀ b o, h.get? b = some o → H b = none → b ∉ fs → b ∉ ex → h'.get? b = some o
  slot : ∀ b o, h.get? b = some o → H b = none → b ∈ fs → b ∉ ex → ∃ sl, h'.get? b = some { o with slots := sl }
  free : ∀ b o, h.get? b = some o → H b = none → b ∉ ex → H' b = none
  there : ∀ b o, h.get? b = some o → b ∉ ex → ∃ o', h'.get? b = some o'
  tups : ∀ b xs, H b = some (.tup xs) → H' b = some (.tup xs)
  frzs : ∀ b o u, H b = some (.frz o u) → H' b = some (.frz o u)
  tbls : ∀ b ps, H b = some (.tbl ps) → ∃ more, H' b = some (.tbl (ps ++ more))
section
variable {fs fs' ex ex' : List Addr} {H H1 H2 : Hp} {h h1 h2 h' : Heap} {a x e : Addr} {o : HO}
theorem Un.any (u : Un fs ex H H1 h h1) {b : Addr} {ob : Obj} (q : h.get? b = some ob) (n : H b = none) (hx : b ∉ ex) : ∃ sl, h1.get? b = some { ob with slots := sl } := by
  by_cases hb : b ∈ fs
  · exact u.slot b ob q n hb hx
  · exact ⟨ob.slots, u.keep b ob q n hb hx⟩
theorem Un.trans (a : Un fs ex H H1 h h1) (b : Un fs ex H1 H2 h1 h2) : Un fs ex H H2 h h2 where
  keep := fun c ob q n hc hx => b.keep c ob (a.keep c ob q n hc hx) (a.free c ob q n hx) hc hx
  slot := fun c ob q n hc hx => by
    obtain ⟨sl, e1⟩ := a.slot c ob q n hc hx
    obtain ⟨sl', e2⟩ := b.slot c _ e1 (a.free c ob q n hx) hc hx
    exact ⟨sl', e2⟩
  free := fun c ob q n hx => by
    obtain ⟨o', e1⟩ := a.there c ob q hx
    exact b.free c o' e1 (a.free c ob q n hx) hx
  there := fun c ob q hx => by
    obtain ⟨o', e1⟩ := a.there c ob q hx
    exact b.there c o' e1 hx
  tups := fun c xs q => b.tups c xs (a.tups c xs q)
  frzs := fun c ob xs q => b.frzs c ob xs (a.frzs c ob xs q)
  tbls := fun c ps q => by
    obtain ⟨m1, e1⟩ := a.tbls c ps q
    obtain ⟨m2, e2⟩ := b.tbls c _ e1
    exact ⟨m1 ++ m2, by rw [e2, Array.append_assoc]⟩
theorem Un.kept (k : ∀ b u, h.get? b = some u → h'.get? b = some u) : Un fs ex H H h h' :=
  ⟨fun b ob q _ _ _ => k b ob q, fun b ob q _ _ _ => ⟨ob.slots, k b ob q⟩, fun _ _ _ n _ => n, fun b ob q _ => ⟨ob, k b ob q⟩, fun _ _ q => q, fun _ _ _ q => q, fun _ ps q => ⟨#[], by rw [q]; simp⟩⟩
theorem Un.refl : Un fs ex H H h h := Un.kept fun _ _ q => q
theorem Un.laid (k : ∀ b u, h.get? b = some u → h'.get? b = some u) (hp : h.objs.size ≤ a) (hn : H a = none) : Un fs ex H (upd H a o) h h' where
  keep := fun b u q _ _ _ => k b u q
  slot := fun b u q _ _ _ => ⟨u.slots, k b u q⟩
  free := fun b u q n _ => by rw [upd_ne (Nat.ne_of_lt (Nat.lt_of_lt_of_le (Heap.lt_size q) hp))]; exact n
  there := fun b u q _ => ⟨u, k b u q⟩
  tups := fun b xs q => by rw [upd_ne (ne_of_none q hn)]; exact q
  frzs := fun b u xs q => by rw [upd_ne (ne_of_none q hn)]; exact q
  tbls := fun b ps q => ⟨#[], by rw [upd_ne (ne_of_none q hn), q]; simp⟩
theorem Un.write (mu : Mut (H x)) (he : e = x ∨ H e = some (.own x)) (k : ∀ b u, b ≠ e → h.get? b = some u → h'.get? b = some u) (heo : ∃ u, h'.get? e = some u) : Un fs ex H (upd H x o) h h' := by
  have hx : ∀ b, H b = none → b ≠ x := fun b n z => by subst z; rw [n] at mu; exact mu
  have hb : ∀ b, H b = none → b ≠ e := fun b n z => by
    subst z
    rcases he with r | r
    · exact hx b n r
    · rw [n] at r; cases r
  have hm : ∀ b u, H b = some u → ¬ Mut (some u) → b ≠ x := fun b u q nm z => by subst z; rw [q] at mu; exact nm mu
  refine ⟨fun b u q n _ _ => k b u (hb b n) q, fun b u q n _ _ => ⟨u.slots, k b u (hb b n) q⟩, fun b u q n _ => by rw [upd_ne (hx b n)]; exact n, fun b u q _ => ?_,
    fun b xs q => by rw [upd_ne (hm b _ q fun z => z)]; exact q, fun b u xs q => by rw [upd_ne (hm b _ q fun z => z)]; exact q, fun b ps q => ⟨#[], by rw [upd_ne (hm b _ q fun z => z), q]; simp⟩⟩
  by_cases hbe : b = e
  · subst hbe; exact heo
  · exact ⟨u, k b u hbe q⟩
theorem Un.mono (u : Un fs ex H H1 h h1) (hs : ∀ b ∈ fs, b ∈ fs') (hx : ∀ b ∈ ex, b ∈ ex') : Un fs' ex' H H1 h h1 :=
  ⟨fun b ob q n hb he => u.keep b ob q n (fun z => hb (hs b z)) fun z => he (hx b z), fun _ _ q n _ he => u.any q n fun z => he (hx _ z), fun b ob q n he => u.free b ob q n fun z => he (hx b z), fun b ob q he => u.there b ob q fun z => he (hx b z), u.tups, u.frzs, u.tbls⟩
end

/-! ### the heap without what is tracked -/
def trk (h : Heap) (H : Hp) : List Addr := (List.range h.objs.size).filter fun a => (H a).isSome
def hidT (h : Heap) (H : Hp) : Heap := PySem.W.hideAll h (trk h H)
theorem hidT_size (h : Heap) (H : Hp) : (hidT h H).objs.size = h.objs.size := PySem.W.hideAll_size _ _
theorem hidT_get {h : Heap} {H : Hp} {b : Addr} {o : Obj} (e : h.get? b = some o) (n : H b = none) : (hidT h H).get? b = some o :=
  PySem.W.hideAll_get _ e fun hm => by
    have q : (H b).isSome = true := (List.mem_filter.mp hm).2
    rw [n] at q; simp at q
theorem of_hidT {h : Heap} {H : Hp} {b : Addr} {o : Obj} (e : (hidT h H).get? b = some o) : h.get? b = some o ∧ H b = none := by
  have e' : h.get? b = some o := PySem.W.of_hideAll (trk h H) e
  refine ⟨e', ?_⟩
  cases q : H b with
  | none => rfl
  | some x =>
    have hm : b ∈ trk h H := List.mem_filter.mpr ⟨List.mem_range.mpr (Heap.lt_size e'), by simp [q]⟩
    have z : (hidT h H).get? b = none := PySem.W.hideAll_none (trk h H) hm
    rw [z] at e; cases e

/-! ### OpenK's ledger, filled with every new object but one -/
def allNews (g h : Heap) (L : Addr) : List (Addr × Obj) := (List.range h.objs.size).filterMap fun a => if a = L ∨ (g.get? a).isSome = true then none else (h.get? a).map fun o => (a, o)
theorem mem_allNews {g h : Heap} {L a : Addr} {o : Obj} (h1 : a ≠ L) (h2 : g.get? a = none) (h3 : h.get? a = some o) : (a, o) ∈ allNews g h L :=
  List.mem_filterMap.mpr ⟨a, List.mem_range.mpr (Heap.lt_size h3), by simp [h1, h2, h3]⟩
theorem of_mem_allNews {g h : Heap} {L : Addr} {p : Addr × Obj} (hp : p ∈ allNews g h L) : p.1 ≠ L ∧ g.get? p.1 = none ∧ h.get? p.1 = some p.2 := by
  obtain ⟨b, _, e⟩ := List.mem_filterMap.mp hp
  split at e
  · cases e
  · rename_i hn
    cases q : h.get? b with
    | none => rw [q] at e; simp at e
    | some u =>
      rw [q] at e
      simp only [Option.map_some, Option.some.injEq] at e
      subst e
      refine ⟨fun z => hn (.inl z), ?_, q⟩
      show g.get? b = none
      cases r : g.get? b with
      | none => rfl
      | some v => exact (hn (.inr (by simp [r]))).elim
def rest (g h : Heap) (L d : Addr) : List (Addr × Obj) := (allNews g h L).filter fun p => decide (p.1 ≠ d)
theorem rest_ne {g h : Heap} {L d : Addr} : ∀ p ∈ rest g h L d, p.1 ≠ d := fun p hp => of_decide_eq_true (List.mem_filter.mp hp).2
theorem mem_rest {g h : Heap} {L d a : Addr} {o : Obj} (h1 : a ≠ L) (h2 : g.get? a = none) (h3 : h.get? a = some o) (h4 : a ≠ d) : (a, o) ∈ rest g h L d :=
  List.mem_filter.mpr ⟨mem_allNews h1 h2 h3, decide_eq_true h4⟩
theorem news_all {g h : Heap} {L : Addr} : News g L h (allNews g h L) := fun p hp => let ⟨a, b, c⟩ := of_mem_allNews hp; ⟨c, a, b⟩
theorem news_at {g h : Heap} {L d : Addr} {o : Obj} (h1 : d ≠ L) (h2 : g.get? d = none) (h3 : h.get? d = some o) : News g L h ((d, o) :: rest g h L d) := fun p hp => by
  rcases List.mem_cons.mp hp with rfl | hp
  · exact ⟨h3, h1, h2⟩
  · exact news_all p (List.mem_filter.mp hp).1
/-- behind a rule that changed d alone: all else but the frame is kept -/
theorem kept_of_news {g h h' : Heap} {L d : Addr} {m : Str → Option Value} (k : ∀ b o, g.get? b = some o → h.get? b = some o) (F : Fr g L h' m) (N : News g L h' (rest g h L d)) :
    ∀ b o, b ≠ L → b ≠ d → h.get? b = some o → h'.get? b = some o := fun b o h1 h2 e => by
  cases q : g.get? b with
  | some u =>
    have := k b u q
    rw [e] at this; cases this
    exact F.keep b _ q
  | none => exact (N (b, o) (mem_rest h1 q e h2)).1
end L2

namespace L2
open PySem PySem.Spec PyProof.Rows

/-- the module's facts, over the base: the heap at the law's entry without what is tracked there -/
structure Mod (K : PySem.W.Frag) (mg : Str → Option Value) (base : Heap) : Prop where
  kin : K.In base
  glob : base.Ns mainGlobals mg
  blt : ∃ mb, base.Ns builtinsNs mb ∧ ∀ x : Str, x ≠ "__name__" → mb x = bootBuiltins x
  nolimit : base.NoLimit

/-- the context: a def's body (or a comprehension's block) running. base: fixed through the whole law; s₀, H₀: the entry; outer: the frames whose slots others may change (a def's callers); stack: all frames that run;
   ex: iterators that were made ahead of the entry and are walked here (a comprehension's); fn: the names whose cells were made at the entry (a def: all; a comprehension's block: its own); calm: not within an except suite; pn: pins that every state bears; xe: what is wanted of an exception that leaves the code -/
structure Cx where
  prog : Program
  w : World
  K : PySem.W.Frag
  mg : Str → Option Value
  base : Heap
  A : Around
  N : List Str
  s₀ : Shared
  H₀ : Hp
  env : Env
  outer : List Env
  stack : List Env
  ex : List Addr
  fn : Str → Bool
  calm : Bool
  pn : List (Addr × Obj)
  xe : Value → Shared → Prop
/-- the callers' frames -/
def frs (l : List Env) : List Addr := l.filterMap (·.frame)
abbrev Cx.fs (X : Cx) : List Addr := frs X.outer

def Vis (sc : Scope) (x : Str) : Prop := sc.names.lookup x = some .local ∨ sc.names.lookup x = some .cell ∨ sc.names.lookup x = some .free
def Loc (sc : Scope) (x : Str) : Prop := sc.names.lookup x = some .local ∨ sc.names.lookup x = some .cell
def Look (env : Env) (h : Heap) (m : Str → Option Value) (x : Str) (u : Value) : Prop :=
  (env.kindOf x = some .local ∧ m x = some u) ∨ ((env.kindOf x = some .cell ∨ env.kindOf x = some .free) ∧ ∃ c, env.cells.lookup x = some c ∧ h.IsCell c (some u))

structure Cx.Ok (X : Cx) : Prop where
  mod : Mod X.K X.mg X.base
  kind : X.env.scope.kind = .function
  glob : X.env.globals = mainGlobals
  blt : X.env.builtins = builtinsNs
  above : X.s₀.heap.objs.size ≤ X.env.locals
  inj : ∀ x y c, X.env.cells.lookup x = some c → X.env.cells.lookup y = some c → x = y
  has : ∀ x, (X.env.kindOf x = some .cell ∨ X.env.kindOf x = some .free) → ∃ c, X.env.cells.lookup x = some c
  cab : ∀ x c, X.fn x = true → X.env.cells.lookup x = some c → X.s₀.heap.objs.size ≤ c
  hd : X.calm = true → X.A.handled = none
  frames : X.A.frames = some X.stack
  stk : X.stack = X.outer ∨ (X.stack = X.env :: X.outer ∧ X.env.frame = some X.env.locals)
  exf : ∀ b ∈ X.ex, b ≠ X.env.locals ∧ ∀ x c, X.env.cells.lookup x = some c → c ≠ b
  bs : ∀ b o, X.base.get? b = some o → X.s₀.heap.get? b = some o ∧ X.H₀ b = none
  bsz : X.base.objs.size ≤ X.s₀.heap.objs.size
  noex : ∀ b o, X.base.get? b = some o → b ∉ X.ex
  exfs : ∀ b ∈ X.ex, b ∉ X.fs
  funs : X.s₀.heap.FunFrames X.base X.outer
  frf : ∀ b ∈ X.fs, X.H₀ b = none

structure Inv (X : Cx) (pins : List (Addr × Obj)) (σ : List (Option V)) (H : Hp) (s : Shared) : Prop where
  ok : X.Ok
  os : s.os = X.s₀.os
  bare : AllBare s.gens
  base : Un X.fs X.ex X.H₀ H X.s₀.heap s.heap
  loc : ∃ m, s.heap.Ns X.env.locals m ∧ ∀ (i : Nat) (x : Str) (v : V), X.N[i]? = some x → σ[i]? = some (some v) → Vis X.env.scope x → ∃ u, RelV v u ∧ Look X.env s.heap m x u
  cell : ∀ x c, X.env.cells.lookup x = some c → ∃ v, s.heap.IsCell c v
  free : H X.env.locals = none
  freeC : ∀ x c, X.env.cells.lookup x = some c → H c = none
  pin : ∀ p ∈ X.pn ++ pins, s.heap.get? p.1 = some p.2 ∧ H p.1 = none ∧ p.1 ≠ X.env.locals ∧ p.1 ∉ X.fs ∧ ∀ v, p.2.data ≠ .cell v
  hok : HOk X.prog X.w H s.heap
  len : σ.length = X.N.length

section
variable {X : Cx} {pins : List (Addr × Obj)} {σ : List (Option V)} {H H' : Hp} {s : Shared} {h' : Heap}

theorem Cx.Ok.nofr (ok : X.Ok) {b : Addr} {o : Obj} (e : X.base.get? b = some o) : b ∉ X.fs := fun hb => by
  have := (ok.funs.mem hb).1
  rw [e] at this; cases this
theorem Inv.bs (I : Inv X pins σ H s) : ∀ b o, X.base.get? b = some o → s.heap.get? b = some o ∧ H b = none := fun b o e =>
  ⟨I.base.keep b o (I.ok.bs b o e).1 (I.ok.bs b o e).2 (I.ok.nofr e) (I.ok.noex b o e), I.base.free b o (I.ok.bs b o e).1 (I.ok.bs b o e).2 (I.ok.noex b o e)⟩
theorem Inv.bk (I : Inv X pins σ H s) : ∀ b o, X.base.get? b = some o → s.heap.get? b = some o := fun b o e => (I.bs b o e).1
theorem Inv.mod (I : Inv X pins σ H s) : Mod X.K X.mg X.base := I.ok.mod
theorem Inv.kIn (I : Inv X pins σ H s) : X.K.In s.heap := I.ok.mod.kin.keeps I.bk
theorem Inv.nolimit (I : Inv X pins σ H s) : s.heap.NoLimit := I.ok.mod.nolimit.keeps I.bk
/-- the frame over the base: for OpenK's rules (K.In X.base is I.mod.kin) -/
theorem Inv.fr (I : Inv X pins σ H s) : ∃ m, Fr X.base X.env.locals s.heap m :=
  let ⟨m, hn, _⟩ := I.loc
  ⟨m, hn, I.bk, Nat.le_trans I.ok.bsz I.ok.above⟩
theorem Inv.lt (I : Inv X pins σ H s) : X.env.locals < s.heap.objs.size := let ⟨_, hn, _⟩ := I.loc; hn.lt
theorem Inv.sz (I : Inv X pins σ H s) : X.s₀.heap.objs.size ≤ s.heap.objs.size := Nat.le_trans I.ok.above (Nat.le_of_lt I.lt)
theorem Inv.nofs (I : Inv X pins σ H s) {a : Addr} (h : s.heap.objs.size ≤ a) : a ∉ X.fs := fun hb => by
  obtain ⟨_, o, ho, _⟩ := I.ok.funs.mem hb
  exact absurd (Nat.lt_of_lt_of_le (Heap.lt_size ho) (Nat.le_trans I.sz h)) (Nat.lt_irrefl _)
theorem Inv.cne (I : Inv X pins σ H s) : ∀ x c, X.env.cells.lookup x = some c → c ≠ X.env.locals := fun x c e z => by
  obtain ⟨v, o, ho, hd⟩ := I.cell x c e
  obtain ⟨m, ⟨o', es, ep, ho', hd', _⟩, _⟩ := I.loc
  rw [z, ho'] at ho; cases ho; rw [hd'] at hd; cases hd
theorem Inv.funs (I : Inv X pins σ H s) : s.heap.FunFrames X.base X.outer := by
  have all : ∀ (l : List Env), (∀ b ∈ frs l, b ∈ X.fs) → X.s₀.heap.FunFrames X.base l → s.heap.FunFrames X.base l := by
    intro l
    induction l with
    | nil => intro _ _; trivial
    | cons env r ih =>
      intro hs hl
      obtain ⟨hk, ⟨L, o, hf, hn, ho, hd⟩, hr⟩ := hl
      have hL : L ∈ X.fs := hs L (by unfold frs; rw [List.filterMap_cons, hf]; exact List.mem_cons_self)
      obtain ⟨sl, e⟩ := I.base.slot L o ho (I.ok.frf L hL) hL fun z => I.ok.exfs L z hL
      exact ⟨hk, ⟨L, _, hf, hn, e, hd⟩, ih (fun b hb => hs b (by unfold frs; rw [List.filterMap_cons, hf]; exact List.mem_cons_of_mem _ hb)) hr⟩
  exact all X.outer (fun _ hb => hb) I.ok.funs

/-- the frames that run, for a call -/
theorem Inv.stack (I : Inv X pins σ H s) : s.heap.FunFrames X.base X.stack := by
  rcases I.ok.stk with e | ⟨e, hf⟩
  · rw [e]; exact I.funs
  · rw [e]
    obtain ⟨m, hn, _⟩ := I.loc
    refine .cons (by rw [I.ok.kind]; decide) hf hn ?_ I.funs
    exact Heap.get?_none_of_le (Nat.le_trans I.ok.bsz I.ok.above)
theorem Inv.stkSub (I : Inv X pins σ H s) : ∀ b ∈ frs X.stack, b ∈ X.env.locals :: X.fs := fun b hb => by
  rcases I.ok.stk with e | ⟨e, hf⟩
  · rw [e] at hb; exact List.mem_cons_of_mem _ hb
  · rw [e] at hb
    unfold frs at hb
    rw [List.filterMap_cons, hf] at hb
    exact hb
theorem Inv.stkFree (I : Inv X pins σ H s) : ∀ b ∈ frs X.stack, H b = none := fun b hb => by
  rcases List.mem_cons.mp (I.stkSub b hb) with e | hb
  · rw [e]; exact I.free
  · obtain ⟨_, o, ho, _⟩ := I.ok.funs.mem hb
    exact I.base.free b o ho (I.ok.frf b hb) fun z => I.ok.exfs b z hb

/-- THE STEP: the untracked objects but the frame and the records at ch are kept (the callers' frames up to slots), the frame's map is kept, the new abstract heap is held -/
theorem Inv.step {g' : Array GenState} {t' : Nat} {d' : Drawn} {ch : List Addr} (I : Inv X pins σ H s)
    (hch : ∀ b ∈ ch, (b ∈ X.ex ∨ X.s₀.heap.objs.size ≤ b) ∧ b ≠ X.env.locals ∧ (∀ x c, X.env.cells.lookup x = some c → c ≠ b) ∧ ∀ p ∈ X.pn ++ pins, p.1 ≠ b)
    (keep : ∀ b o, b ≠ X.env.locals → b ∉ X.fs → b ∉ ch → s.heap.get? b = some o → H b = none → h'.get? b = some o)
    (slot : ∀ b o, b ≠ X.env.locals → b ∈ X.fs → b ∉ ch → s.heap.get? b = some o → H b = none → ∃ sl, h'.get? b = some { o with slots := sl }) (free : ∀ b o, b ∉ ch → s.heap.get? b = some o → H b = none → H' b = none)
    (there : ∀ b o, b ∉ ch → s.heap.get? b = some o → ∃ o', h'.get? b = some o')
    (tups : ∀ b xs, H b = some (.tup xs) → H' b = some (.tup xs)) (frzs : ∀ b o u, H b = some (.frz o u) → H' b = some (.frz o u)) (tbls : ∀ b ps, H b = some (.tbl ps) → ∃ more, H' b = some (.tbl (ps ++ more)))
    (ns : ∀ m, s.heap.Ns X.env.locals m → h'.Ns X.env.locals m) (hok : HOk X.prog X.w H' h') (hg : AllBare g') :
    Inv X pins σ H' { s with heap := h', gens := g', drawn := d', toks := t' } := by
  have neL : ∀ b o, X.s₀.heap.get? b = some o → b ≠ X.env.locals := fun b o e => Nat.ne_of_lt (Nat.lt_of_lt_of_le (Heap.lt_size e) I.ok.above)
  have neC : ∀ b o, X.s₀.heap.get? b = some o → b ∉ X.ex → b ∉ ch := fun b o e hx hb => by
    rcases (hch b hb).1 with z | z
    · exact hx z
    · exact absurd (Nat.lt_of_lt_of_le (Heap.lt_size e) z) (Nat.lt_irrefl _)
  have cellK : ∀ x c, X.env.cells.lookup x = some c → ∀ v, s.heap.IsCell c v → h'.IsCell c v := fun x c e v ⟨o, ho, hd⟩ => by
    have nch : c ∉ ch := fun z => (hch c z).2.2.1 x c e rfl
    by_cases hc : c ∈ X.fs
    · obtain ⟨sl, q⟩ := slot c o (I.cne x c e) hc nch ho (I.freeC x c e)
      exact ⟨_, q, hd⟩
    · exact ⟨o, keep c o (I.cne x c e) hc nch ho (I.freeC x c e), hd⟩
  refine ⟨I.ok, I.os, hg, ⟨fun b o e n hb hx => ?_, fun b o e n hb hx => ?_, fun b o e n hx => ?_, fun b o e hx => ?_, fun b xs e => tups b xs (I.base.tups b xs e), fun b o xs e => frzs b o xs (I.base.frzs b o xs e), fun b ps e => ?_⟩, ?_, fun x c e => ?_, ?_, fun x c e => ?_, fun p hp => ?_, hok, I.len⟩
  · exact keep b o (neL b o e) hb (neC b o e hx) (I.base.keep b o e n hb hx) (I.base.free b o e n hx)
  · obtain ⟨sl, e1⟩ := I.base.slot b o e n hb hx
    obtain ⟨sl', e2⟩ := slot b _ (neL b o e) hb (neC b o e hx) e1 (I.base.free b o e n hx)
    exact ⟨sl', e2⟩
  · obtain ⟨o', e1⟩ := I.base.there b o e hx
    exact free b o' (neC b o e hx) e1 (I.base.free b o e n hx)
  · obtain ⟨o', e1⟩ := I.base.there b o e hx
    exact there b o' (neC b o e hx) e1
  · obtain ⟨m1, e1⟩ := I.base.tbls b ps e
    obtain ⟨m2, e2⟩ := tbls b _ e1
    exact ⟨m1 ++ m2, by rw [e2, Array.append_assoc]⟩
  · obtain ⟨m, hn, hl⟩ := I.loc
    refine ⟨m, ns m hn, fun i x v e1 e2 e3 => ?_⟩
    obtain ⟨u, r, l⟩ := hl i x v e1 e2 e3
    refine ⟨u, r, ?_⟩
    rcases l with l | ⟨k, c, e, z⟩
    · exact .inl l
    · exact .inr ⟨k, c, e, cellK x c e _ z⟩
  · obtain ⟨v, z⟩ := I.cell x c e
    exact ⟨v, cellK x c e v z⟩
  · obtain ⟨m, ⟨o, _, _, ho, _⟩, _⟩ := I.loc
    exact free _ o (fun z => (hch _ z).2.1 rfl) ho I.free
  · obtain ⟨v, o, ho, hd⟩ := I.cell x c e
    exact free c o (fun z => (hch c z).2.2.1 x c e rfl) ho (I.freeC x c e)
  · obtain ⟨e, n, ne, nf, d⟩ := I.pin p hp
    have nch : p.1 ∉ ch := fun z => (hch p.1 z).2.2.2 p hp rfl
    exact ⟨keep p.1 p.2 ne nf nch e n, free p.1 p.2 nch e n, ne, nf, d⟩
/-- .. where the frame's own object is kept too -/
theorem Inv.un {t' : Nat} (I : Inv X pins σ H s) (u : Un X.fs [] H H' s.heap h') (hok : HOk X.prog X.w H' h') : Inv X pins σ H' { s with heap := h', toks := t' } := by
  obtain ⟨m, ⟨o, es, ep, ho, r⟩, _⟩ := id I.loc
  obtain ⟨sl, hL⟩ := u.any ho I.free (by simp)
  exact I.step (g' := s.gens) (d' := s.drawn) (ch := []) (fun _ z => nomatch z) (fun b o _ hb _ e n => u.keep b o e n hb (by simp)) (fun b o _ hb _ e n => u.slot b o e n hb (by simp)) (fun b o _ e n => u.free b o e n (by simp)) (fun b o _ e => u.there b o e (by simp)) u.tups u.frzs u.tbls (fun m' hm => by
    obtain ⟨o', es', ep', ho', r'⟩ := hm
    rw [ho] at ho'; cases ho'
    exact ⟨_, es', ep', hL, r'⟩) hok I.bare
/-- behind a call (or a comprehension's block): the slots of this frame may have changed too, the records at ch may have turned -/
theorem Inv.call {g' : Array GenState} {t' : Nat} {d' : Drawn} {ch : List Addr} (I : Inv X pins σ H s) (u : Un (frs X.stack) ch H H' s.heap h') (hok : HOk X.prog X.w H' h') (hg : AllBare g')
    (hch : ∀ b ∈ ch, (b ∈ X.ex ∨ X.s₀.heap.objs.size ≤ b) ∧ b ≠ X.env.locals ∧ (∀ x c, X.env.cells.lookup x = some c → c ≠ b) ∧ ∀ p ∈ X.pn ++ pins, p.1 ≠ b) :
    Inv X pins σ H' { s with heap := h', gens := g', drawn := d', toks := t' } := by
  obtain ⟨m, ⟨o, es, ep, ho, r⟩, _⟩ := id I.loc
  obtain ⟨sl, hL⟩ := u.any ho I.free fun z => (hch _ z).2.1 rfl
  exact I.step (ch := ch) hch (fun b o hL hb hc e n => u.keep b o e n (fun z => (List.mem_cons.mp (I.stkSub b z)).elim hL hb) hc) (fun b o _ _ hc e n => u.any e n hc) (fun b o hc e n => u.free b o e n hc) (fun b o hc e => u.there b o e hc) u.tups u.frzs u.tbls (fun m' hm => by
    obtain ⟨o', es', ep', ho', r'⟩ := hm
    rw [ho] at ho'; cases ho'
    exact ⟨_, es', ep', hL, r'⟩) hok hg
/-- an untracked record of ours (an iterator) has turned -/
theorem Inv.turned {t' : Nat} {it : Addr} (I : Inv X pins σ H s) (k : ∀ b o, b ≠ it → s.heap.get? b = some o → h'.get? b = some o) (hn : H it = none) (hL : it ≠ X.env.locals)
    (h1 : it ∈ X.ex ∨ X.s₀.heap.objs.size ≤ it) (h2 : ∀ x c, X.env.cells.lookup x = some c → c ≠ it) (h3 : ∀ p ∈ X.pn ++ pins, p.1 ≠ it) : Inv X pins σ H { s with heap := h', toks := t' } := by
  have nit : ∀ b u, H b = some u → b ≠ it := fun b u e z => by rw [z, hn] at e; cases e
  refine I.step (g' := s.gens) (d' := s.drawn) (ch := [it]) (fun b hb => ?_) (fun b o _ _ hc e _ => k b o (fun z => hc (by simp [z])) e) (fun b o _ _ hc e _ => ⟨o.slots, k b o (fun z => hc (by simp [z])) e⟩) (fun _ _ _ _ n => n)
    (fun b o hc e => ⟨o, k b o (fun z => hc (by simp [z])) e⟩) (fun _ _ e => e) (fun _ _ _ e => e) (fun b ps e => ⟨#[], by rw [e]; simp⟩) (fun m hm => ?_) (fun b u e => ?_) I.bare
  · have e : b = it := by simpa using hb
    subst e
    exact ⟨h1, hL, h2, h3⟩
  · obtain ⟨o, es, ep, ho, r⟩ := hm
    exact ⟨o, es, ep, k _ o (Ne.symm hL) ho, r⟩
  · refine (I.hok b u e).stay (fun c v hc q => k c v ?_ q) (fun _ q => q) fun _ _ q => q
    rcases hc with z | z
    · rw [z]; exact nit b u e
    · exact nit c _ z
theorem Inv.tok (I : Inv X pins σ H s) (t : Nat) : Inv X pins σ H { s with toks := t } := I.un (h' := s.heap) (t' := t) Un.refl I.hok
/-- all objects kept -/
theorem Inv.kept {t' : Nat} (I : Inv X pins σ H s) (k : ∀ b u, s.heap.get? b = some u → h'.get? b = some u) : Inv X pins σ H { s with heap := h', toks := t' } := I.un (Un.kept k) (I.hok.kept k)
/-- a new object laid and tracked -/
theorem Inv.laid {a : Addr} {o : HO} {t' : Nat} (I : Inv X pins σ H s) (k : ∀ b u, s.heap.get? b = some u → h'.get? b = some u) (hp : s.heap.objs.size ≤ a) (new : ObjOk X.prog X.w (upd H a o) h' a o) :
    Inv X pins σ (upd H a o) { s with heap := h', toks := t' } := I.un (Un.laid k hp (I.hok.fresh hp)) (I.hok.laid k hp new)
/-- an object written -/
theorem Inv.write {x e : Addr} {o : HO} {t' : Nat} (I : Inv X pins σ H s) (mu : Mut (H x)) (he : e = x ∨ H e = some (.own x)) (k : ∀ b u, b ≠ e → s.heap.get? b = some u → h'.get? b = some u) (heo : ∃ u, h'.get? e = some u)
    (new : ObjOk X.prog X.w (upd H x o) h' x o) : Inv X pins σ (upd H x o) { s with heap := h', toks := t' } := I.un (Un.write mu he k heo) (I.hok.write mu he k heo new)
/-- forgetting slots, pins -/
theorem Inv.weak {σ' : List (Option V)} (I : Inv X pins σ H s) (hl : σ'.length = σ.length) (w : ∀ (i : Nat) v, σ'[i]? = some (some v) → σ[i]? = some (some v)) : Inv X pins σ' H s :=
  ⟨I.ok, I.os, I.bare, I.base, let ⟨m, hn, hl'⟩ := I.loc; ⟨m, hn, fun i x v e1 e2 e3 => hl' i x v e1 (w i v e2) e3⟩, I.cell, I.free, I.freeC, I.pin, I.hok, hl.trans I.len⟩
theorem Inv.pins_of {pins' : List (Addr × Obj)} (I : Inv X pins σ H s) (h : ∀ p ∈ pins', s.heap.get? p.1 = some p.2 ∧ H p.1 = none ∧ p.1 ≠ X.env.locals ∧ p.1 ∉ X.fs ∧ ∀ v, p.2.data ≠ .cell v) : Inv X pins' σ H s :=
  ⟨I.ok, I.os, I.bare, I.base, I.loc, I.cell, I.free, I.freeC, fun p hp => (List.mem_append.mp hp).elim (fun z => I.pin p (List.mem_append_left _ z)) (h p), I.hok, I.len⟩

theorem nodup_ix {N : List Str} (hN : N.Nodup) {i j : Nat} {x : Str} (a : N[i]? = some x) (b : N[j]? = some x) : i = j := by
  obtain ⟨h1, e1⟩ := List.getElem?_eq_some_iff.mp a
  obtain ⟨h2, e2⟩ := List.getElem?_eq_some_iff.mp b
  exact (List.getElem_inj hN).mp (e1.trans e2.symm)

/-- a name is stored; what changed -/
theorem store_ok2 {M : Model} {A : Around} {E : Value → Shared → Prop} {i : Nat} {x : Str} {v : V} {u : Value} {Q : Unit → Shared → Prop} (I : Inv X pins σ H s) (hN : X.N.Nodup) (hi : X.N[i]? = some x) (hx : Loc X.env.scope x) (r : RelV v u)
    (h : ∀ s', Inv X pins (σ.set i (some v)) H s' → (∃ a, Heap.SameBut a s.heap s'.heap ∧ (a = X.env.locals ∨ X.env.cells.lookup x = some a)) → Q () s') (hf : X.fn x = true ∨ X.env.scope.names.lookup x = some .local := by first | exact .inl rfl | exact .inr rfl | assumption) : wpAny M A (storeName X.env x u) Q E s := by
  obtain ⟨m, hn, hl⟩ := id I.loc
  have hcls : (X.env.scope.kind == .class || (X.env.scope.kind == .module && X.env.locals != X.env.globals)) = false := by rw [I.ok.kind]; rfl
  have hiσ : i < σ.length := by rw [I.len]; exact (List.getElem?_eq_some_iff.mp hi).1
  have cne := I.cne
  have tracked : ∀ {a : Addr} {h' : Heap}, (∃ o, s.heap.get? a = some o ∧ H a = none) → Heap.SameBut a s.heap h' → HOk X.prog X.w H h' := fun {a h'} ha hs b ob e => by
    obtain ⟨_, _, hfree⟩ := ha
    refine (I.hok b ob e).stay (fun c w' hc q => (hs.2 c ?_).trans q) (fun _ q => q) fun _ _ q => q
    rintro rfl
    rcases hc with rfl | hc
    · rw [hfree] at e; cases e
    · rw [hfree] at hc; cases hc
  rcases hx with hk | hk
  · refine wpAny_storeName_local hk hn (fun h' hn' hs => ?_) hcls
    obtain ⟨oL, _, _, hoL, _⟩ := id hn
    refine h _ ⟨I.ok, I.os, I.bare, ⟨fun b o e n hb hx => ?_, fun b o e n hb hx => ?_, I.base.free, fun b o e hx => ?_, I.base.tups, I.base.frzs, I.base.tbls⟩, ⟨_, hn', fun j y v' e1 e2 e3 => ?_⟩, fun y c e => ?_, I.free, I.freeC, fun p hp => ?_, tracked ⟨oL, hoL, I.free⟩ hs, by simpa using I.len⟩ ⟨_, hs, .inl rfl⟩
    · exact (hs.2 b (Nat.ne_of_lt (Nat.lt_of_lt_of_le (Heap.lt_size e) I.ok.above))).trans (I.base.keep b o e n hb hx)
    · obtain ⟨sl, e1⟩ := I.base.slot b o e n hb hx
      exact ⟨sl, (hs.2 b (Nat.ne_of_lt (Nat.lt_of_lt_of_le (Heap.lt_size e) I.ok.above))).trans e1⟩
    · obtain ⟨o', e1⟩ := I.base.there b o e hx
      exact ⟨o', (hs.2 b (Nat.ne_of_lt (Nat.lt_of_lt_of_le (Heap.lt_size e) I.ok.above))).trans e1⟩
    · by_cases hj : j = i
      · subst hj
        rw [hi] at e1; cases e1
        rw [List.getElem?_set_self hiσ] at e2
        cases e2
        exact ⟨u, r, .inl ⟨hk, by simp⟩⟩
      · rw [List.getElem?_set_ne (Ne.symm hj)] at e2
        obtain ⟨u', r', q⟩ := hl j y v' e1 e2 e3
        refine ⟨u', r', ?_⟩
        rcases q with ⟨k, e⟩ | ⟨k, c, e, z⟩
        · refine .inl ⟨k, ?_⟩
          have : y ≠ x := fun e => hj (nodup_ix hN e1 (e ▸ hi))
          simp [this, e]
        · exact .inr ⟨k, c, e, z.sameBut hs (cne y c e)⟩
    · obtain ⟨w', z⟩ := I.cell y c e
      exact ⟨w', z.sameBut hs (cne y c e)⟩
    · obtain ⟨e, n, ne, nf, d⟩ := I.pin p hp
      exact ⟨(hs.2 p.1 ne).trans e, n, ne, nf, d⟩
  · have hfn : X.fn x = true := by
      rcases hf with z | z
      · exact z
      · rw [z] at hk; cases hk
    obtain ⟨c, hc⟩ := I.ok.has x (.inl hk)
    obtain ⟨w', z⟩ := I.cell x c hc
    refine wpAny_storeName_cell I.ok.kind hk hc z (fun h' hc' hs => ?_)
    obtain ⟨oc, hoc, hocd⟩ := id z
    refine h { s with heap := h' } ⟨I.ok, I.os, I.bare, ⟨fun b o e n hb hx => ?_, fun b o e n hb hx => ?_, I.base.free, fun b o e hx => ?_, I.base.tups, I.base.frzs, I.base.tbls⟩, ⟨m, hn.sameBut hs (Ne.symm (cne x c hc)), fun j y v' e1 e2 e3 => ?_⟩, fun y c' e => ?_, I.free, I.freeC, fun p hp => ?_, tracked ⟨oc, hoc, I.freeC x c hc⟩ hs, by simpa using I.len⟩ ⟨c, hs, .inr hc⟩
    · exact (hs.2 b (Nat.ne_of_lt (Nat.lt_of_lt_of_le (Heap.lt_size e) (I.ok.cab x c hfn hc)))).trans (I.base.keep b o e n hb hx)
    · obtain ⟨sl, e1⟩ := I.base.slot b o e n hb hx
      exact ⟨sl, (hs.2 b (Nat.ne_of_lt (Nat.lt_of_lt_of_le (Heap.lt_size e) (I.ok.cab x c hfn hc)))).trans e1⟩
    · obtain ⟨o', e1⟩ := I.base.there b o e hx
      exact ⟨o', (hs.2 b (Nat.ne_of_lt (Nat.lt_of_lt_of_le (Heap.lt_size e) (I.ok.cab x c hfn hc)))).trans e1⟩
    · by_cases hj : j = i
      · subst hj
        rw [hi] at e1; cases e1
        rw [List.getElem?_set_self hiσ] at e2
        cases e2
        exact ⟨u, r, .inr ⟨.inl hk, c, hc, hc'⟩⟩
      · rw [List.getElem?_set_ne (Ne.symm hj)] at e2
        obtain ⟨u', r', q⟩ := hl j y v' e1 e2 e3
        refine ⟨u', r', ?_⟩
        rcases q with q | ⟨k, c', e, z'⟩
        · exact .inl q
        · refine .inr ⟨k, c', e, z'.sameBut hs ?_⟩
          rintro rfl
          exact hj (nodup_ix hN e1 (I.ok.inj _ _ _ e hc ▸ hi))
    · by_cases hcc : c' = c
      · subst hcc; exact ⟨_, hc'⟩
      · obtain ⟨w2, z2⟩ := I.cell y c' e
        exact ⟨w2, z2.sameBut hs hcc⟩
    · obtain ⟨e, n, ne, nf, d⟩ := I.pin p hp
      refine ⟨(hs.2 p.1 ?_).trans e, n, ne, nf, d⟩
      intro q
      rw [q, hoc] at e
      have q' : oc = p.2 := Option.some.inj e
      exact d w' (by rw [← q']; exact hocd)
theorem store_ok {M : Model} {A : Around} {E : Value → Shared → Prop} {i : Nat} {x : Str} {v : V} {u : Value} {Q : Unit → Shared → Prop} (I : Inv X pins σ H s) (hN : X.N.Nodup) (hi : X.N[i]? = some x) (hx : Loc X.env.scope x) (r : RelV v u)
    (h : ∀ s', Inv X pins (σ.set i (some v)) H s' → Q () s') (hf : X.fn x = true ∨ X.env.scope.names.lookup x = some .local := by first | exact .inl rfl | exact .inr rfl | assumption) : wpAny M A (storeName X.env x u) Q E s :=
  store_ok2 I hN hi hx r (fun s' I' _ => h s' I') hf
/-- behind a call or a block, the state as it is -/
theorem Inv.call' {s' : Shared} {ch : List Addr} (I : Inv X pins σ H s) (ho : s'.os = s.os) (u : Un (frs X.stack) ch H H' s.heap s'.heap) (hok : HOk X.prog X.w H' s'.heap) (hg : AllBare s'.gens)
    (hch : ∀ b ∈ ch, (b ∈ X.ex ∨ X.s₀.heap.objs.size ≤ b) ∧ b ≠ X.env.locals ∧ (∀ x c, X.env.cells.lookup x = some c → c ≠ b) ∧ ∀ p ∈ X.pn ++ pins, p.1 ≠ b) : Inv X pins σ H' s' := by
  obtain ⟨h', g', d', t', o'⟩ := s'
  have e : o' = s.os := ho
  subst e
  exact I.call (g' := g') (t' := t') (d' := d') u hok hg hch
end

/-! ### the judgements -/
/-- an exception: its class, its own dict's address (where it has one), the abstract heap behind it -/
abbrev XK := Value → Option Addr → Hp → Prop
abbrev St := List (Option V)
abbrev VK := V → Hp → Prop
/-- an expression's reading; a test's; an argument list's -/
abbrev TE := St → Hp → VK → Prop
abbrev TT := St → Hp → (Bool → Hp → Prop) → Prop
abbrev TA := St → Hp → (List V → Hp → Prop) → Prop
/-- what is wanted behind a statement -/
structure Ends where
  nx : St → Hp → Prop
  rt : VK
  bk : St → Hp → Prop := fun _ _ => False
  ct : St → Hp → Prop := fun _ _ => False
abbrev TS := Ends → St → Hp → Prop

def EP (X : Cx) (pins : List (Addr × Obj)) (σ : St) (Q : VK) (u : Value) (s' : Shared) : Prop := ∃ v H', Inv X pins σ H' s' ∧ RelV v u ∧ Q v H'
def TP (X : Cx) (pins : List (Addr × Obj)) (σ : St) (Q : Bool → Hp → Prop) (b : Bool) (s' : Shared) : Prop := ∃ H', Inv X pins σ H' s' ∧ Q b H'
def AP (X : Cx) (pins : List (Addr × Obj)) (σ : St) (Q : List V → Hp → Prop) (us : List Value) (s' : Shared) : Prop := ∃ vs H', Inv X pins σ H' s' ∧ Vals vs us ∧ Q vs H'
def SP (X : Cx) (pins : List (Addr × Obj)) (D : Ends) (f : Flow) (s' : Shared) : Prop :=
  match f with
  | .next => ∃ σ' H', Inv X pins σ' H' s' ∧ D.nx σ' H'
  | .brk => ∃ σ' H', Inv X pins σ' H' s' ∧ D.bk σ' H'
  | .cont => ∃ σ' H', Inv X pins σ' H' s' ∧ D.ct σ' H'
  | .ret u => ∃ v σ' H', Inv X pins σ' H' s' ∧ RelV v u ∧ D.rt v H'

def PE (X : Cx) (e : Expr) (t : TE) : Prop :=
  ∀ (pins : List (Addr × Obj)) (s : Shared) (σ : St) (H : Hp) (Q : VK), Inv X pins σ H s → t σ H Q → wpAny (model X.prog X.w) X.A (eval e X.env) (EP X pins σ Q) X.xe s
def PT (X : Cx) (e : Expr) (t : TT) : Prop :=
  ∀ (pins : List (Addr × Obj)) (s : Shared) (σ : St) (H : Hp) (Q : Bool → Hp → Prop), Inv X pins σ H s → t σ H Q → wpAny (model X.prog X.w) X.A (isTrue e X.env (eval e X.env)) (TP X pins σ Q) X.xe s
/-- a test whatever its 'whole' is (and, or) -/
def PW (X : Cx) (e : Expr) (t : TT) : Prop :=
  ∀ (whole : Sem Value) (pins : List (Addr × Obj)) (s : Shared) (σ : St) (H : Hp) (Q : Bool → Hp → Prop), Inv X pins σ H s → t σ H Q → wpAny (model X.prog X.w) X.A (isTrue e X.env whole) (TP X pins σ Q) X.xe s
theorem PW.pt {X : Cx} {e : Expr} {t : TT} (h : PW X e t) : PT X e t := h _
/-- an argument list (no star), from the left -/
def PA (X : Cx) (es : List Expr) (t : TA) : Prop :=
  ∀ (pos : Pos) (pins : List (Addr × Obj)) (s : Shared) (σ : St) (H : Hp) (Q : List V → Hp → Prop), Inv X pins σ H s → t σ H Q → wpAny (model X.prog X.w) X.A (spliced (backTo pos (starEach es X.env))) (AP X pins σ Q) X.xe s
def PS (X : Cx) (st : Stmt) (t : TS) : Prop :=
  ∀ (pins : List (Addr × Obj)) (s : Shared) (σ : St) (H : Hp) (D : Ends), Inv X pins σ H s → t D σ H → wpAny (model X.prog X.w) X.A (exec st X.env) (SP X pins D) X.xe s
def PSs (X : Cx) (st : List Stmt) (t : TS) : Prop :=
  ∀ (pins : List (Addr × Obj)) (s : Shared) (σ : St) (H : Hp) (D : Ends), Inv X pins σ H s → t D σ H → wpAny (model X.prog X.w) X.A (execs st X.env) (SP X pins D) X.xe s
/-- weaken the end -/
theorem thn {α : Type} {t : Sem α} {Q Q' : α → Shared → Prop} {M : Model} {A : Around} {E : Value → Shared → Prop} {s : Shared} (h : wpAny M A t Q E s) (hQ : ∀ a s, Q a s → Q' a s) : wpAny M A t Q' E s := wpAny_mono h hQ fun _ _ x => x
end L2

namespace L2
open PySem PySem.Spec PyProof.Rows
section
variable {X : Cx}

/-- two expressions in a row -/
theorem bin {a b : Expr} {ta tb : TE} (ha : PE X a ta) (hb : PE X b tb) {pins : List (Addr × Obj)} {s : Shared} {σ : St} {H : Hp} {R : V → V → Hp → Prop} (I : Inv X pins σ H s) (h : ta σ H fun x H1 => tb σ H1 fun y H2 => R x y H2)
    {α : Type} {Q : α → Shared → Prop} {f : Value → Value → Sem α}
    (hf : ∀ v u s2 x y H2, Inv X pins σ H2 s2 → RelV x v → RelV y u → R x y H2 → wpAny (model X.prog X.w) X.A (f v u) Q X.xe s2) :
    wpAny (model X.prog X.w) X.A (eval a X.env) (fun v s₁ => wpAny (model X.prog X.w) X.A (eval b X.env) (fun u s₂ => wpAny (model X.prog X.w) X.A (f v u) Q X.xe s₂) X.xe s₁) X.xe s := by
  refine thn (ha pins s σ H _ I h) fun v s1 ⟨x, H1, I1, r1, q1⟩ => ?_
  refine thn (hb pins s1 σ H1 _ I1 q1) fun u s2 ⟨y, H2, I2, r2, q2⟩ => ?_
  exact hf v u s2 x y H2 I2 r1 r2 q2

/-! ### names and constants -/
def tVar (i : Nat) : TE := fun σ H Q => ∃ v, σ[i]? = some (some v) ∧ Q v H
def tC (v : V) : TE := fun _ H Q => Q v H
theorem pe_var {i : Nat} {x : Str} {pos : Pos} (hN : X.N[i]? = some x) (hv : Vis X.env.scope x) (hd : (x == ("__debug__" : Str)) = false := by decide) (hcd : (x == ("__classdict__" : Str)) = false := by decide) : PE X (.Name x pos) (tVar i) := by
  intro pins s σ H Q I h
  obtain ⟨v, e, h⟩ := h
  obtain ⟨m, hn, hl⟩ := I.loc
  obtain ⟨u, r, l⟩ := hl i x v hN e hv
  have fin : EP X pins σ Q u s := ⟨v, H, I, r, h⟩
  rcases l with ⟨hk, hm⟩ | ⟨hk, c, hc, hcell⟩
  · exact wpAny_Name (wpAny_loadName_local I.ok.kind hk hn hm fin) hd
  · rcases hk with hk | hk
    · exact wpAny_Name (wpAny_loadName_cell I.ok.kind hk hc hcell fin) hd
    · exact wpAny_Name (wpAny_loadName_free I.ok.kind hk hc hcell fin hcd) hd
theorem pe_int {i j pos} : PE X (.Constant (.int i) j pos) (tC (.int i)) := fun _ _ _ H _ I h => wpAny_Constant_int ⟨.int i, H, I.tok _, ⟨_, rfl⟩, h⟩
theorem pe_bl {b j pos} : PE X (.Constant (.bool b) j pos) (tC (.bl b)) := fun _ _ _ H _ I h => Constant_bool ⟨.bl b, H, I, rfl, h⟩
theorem pe_non {j pos} : PE X (.Constant .none j pos) (tC .non) := fun _ _ _ H _ I h => Constant_none ⟨.non, H, I, rfl, h⟩
theorem pe_str {x j pos} : PE X (.Constant (.str x) j pos) (tC (.str x)) := fun _ _ _ H _ I h => Calls.Constant_str ⟨.str x, H, I.tok _, ⟨_, rfl⟩, h⟩

/-- a global name of the def -/
def Gl (X : Cx) (x : Str) : Prop := X.env.kindOf x = some .globalImplicit
theorem ld_glob {E : Value → Shared → Prop} {pins : List (Addr × Obj)} {s : Shared} {σ : St} {H : Hp} {x : Str} {u : Value} {pos : Pos} {Q : Value → Shared → Prop} (I : Inv X pins σ H s) (hg : Gl X x) (hm : X.mg x = some u) (h : Q u s)
    (hd : (x == ("__debug__" : Str)) = false := by decide) : wpAny (model X.prog X.w) X.A (eval (.Name x pos) X.env) Q E s :=
  Calls.Name_function_global I.ok.kind hg (Calls.loadGlobal_global (by rw [I.ok.glob]; exact I.mod.glob.keeps I.bk) hm h) hd
theorem ld_blt {E : Value → Shared → Prop} {pins : List (Addr × Obj)} {s : Shared} {σ : St} {H : Hp} {x : Str} {u : Value} {pos : Pos} {Q : Value → Shared → Prop} (I : Inv X pins σ H s) (hg : Gl X x) (hm : X.mg x = none) (hv : bootBuiltins x = some u) (h : Q u s)
    (hn : x ≠ "__name__" := by decide) (hd : (x == ("__debug__" : Str)) = false := by decide) : wpAny (model X.prog X.w) X.A (eval (.Name x pos) X.env) Q E s := by
  obtain ⟨mb, h1, h2⟩ := I.mod.blt
  exact Calls.Name_function_global I.ok.kind hg (Calls.loadGlobal_builtin (by rw [I.ok.glob]; exact I.mod.glob.keeps I.bk) hm (by rw [I.ok.blt]; exact h1.keeps I.bk) ((h2 x hn).trans hv) h) hd
/-- a module's constant, a class, a function, as a value -/
theorem pe_glob {x : Str} {v : V} {u : Value} {pos : Pos} (hg : Gl X x) (hm : X.mg x = some u) (r : RelV v u) (hd : (x == ("__debug__" : Str)) = false := by decide) : PE X (.Name x pos) (tC v) :=
  fun _ _ _ H _ I h => ld_glob I hg hm ⟨v, H, I, r, h⟩ hd
theorem pe_bltn {x : Str} {v : V} {u : Value} {pos : Pos} (hg : Gl X x) (hm : X.mg x = none) (hv : bootBuiltins x = some u) (r : RelV v u) (hn : x ≠ "__name__" := by decide) (hd : (x == ("__debug__" : Str)) = false := by decide) : PE X (.Name x pos) (tC v) :=
  fun _ _ _ H _ I h => ld_blt I hg hm hv ⟨v, H, I, r, h⟩ hn hd

/-! ### arithmetic -/
/-- two ints -/
def t2I (ta tb : TE) (k : Int → Int → Hp → Prop) : St → Hp → Prop := fun σ H => ta σ H fun x H1 => tb σ H1 fun y H2 => ∃ i j, x = .int i ∧ y = .int j ∧ k i j H2
def tAdd (ta tb : TE) : TE := fun σ H Q => t2I ta tb (fun i j H2 => Q (.int (i + j)) H2) σ H
def tSub (ta tb : TE) : TE := fun σ H Q => t2I ta tb (fun i j H2 => Q (.int (i - j)) H2) σ H
/-- the left factor below 2^64 -/
def tMul (ta tb : TE) : TE := fun σ H Q => t2I ta tb (fun i j H2 => (-(2 ^ 64) < i ∧ i < 2 ^ 64) ∧ Q (.int (i * j)) H2) σ H
variable {a b : Expr} {ta tb : TE} {pos : Pos}
theorem pe_add (ha : PE X a ta) (hb : PE X b tb) : PE X (.BinOp a .Add b pos) (tAdd ta tb) := by
  intro pins s σ H Q I h
  refine wpAny_BinOp (bin ha hb I h fun v u s2 x y H2 I2 rx ry q => ?_)
  obtain ⟨i, j, rfl, rfl, q⟩ := q
  obtain ⟨t, rfl⟩ := rx
  obtain ⟨t', rfl⟩ := ry
  exact add_int ⟨.int _, H2, I2.tok _, ⟨_, rfl⟩, q⟩
theorem pe_sub (ha : PE X a ta) (hb : PE X b tb) : PE X (.BinOp a .Sub b pos) (tSub ta tb) := by
  intro pins s σ H Q I h
  refine wpAny_BinOp (bin ha hb I h fun v u s2 x y H2 I2 rx ry q => ?_)
  obtain ⟨i, j, rfl, rfl, q⟩ := q
  obtain ⟨t, rfl⟩ := rx
  obtain ⟨t', rfl⟩ := ry
  exact sub_int ⟨.int _, H2, I2.tok _, ⟨_, rfl⟩, q⟩
theorem pe_mul (ha : PE X a ta) (hb : PE X b tb) : PE X (.BinOp a .Mult b pos) (tMul ta tb) := by
  intro pins s σ H Q I h
  refine wpAny_BinOp (bin ha hb I h fun v u s2 x y H2 I2 rx ry q => ?_)
  obtain ⟨i, j, rfl, rfl, ⟨q1, q2⟩, q⟩ := q
  obtain ⟨t, rfl⟩ := rx
  obtain ⟨t', rfl⟩ := ry
  exact mul_int ⟨.int _, H2, I2.tok _, ⟨_, rfl⟩, q⟩ (.of_left (intBits_le_64 q1 q2))

/-! ### comparisons -/
def PC (X : Cx) (op : CmpOp) (a b : Expr) (t : TE) : Prop :=
  ∀ (pins : List (Addr × Obj)) (s : Shared) (σ : St) (H : Hp) (Q : VK), Inv X pins σ H s → t σ H Q →
    wpAny (model X.prog X.w) X.A (eval a X.env) (fun v s₁ => wpAny (model X.prog X.w) X.A (eval b X.env) (fun u s₂ => wpAny (model X.prog X.w) X.A (compareOp op v u) (EP X pins σ Q) X.xe s₂) X.xe s₁) X.xe s
theorem nobehind (b : Expr) {op : CmpOp} (h : op ≠ .In) (h2 : op ≠ .NotIn) : behindInMarks op b = false := by
  have e1 : (op == CmpOp.In) = false := by cases op <;> first | rfl | exact absurd rfl h
  have e2 : (op == CmpOp.NotIn) = false := by cases op <;> first | rfl | exact absurd rfl h2
  cases b <;> simp [behindInMarks, e1, e2]
def tCmp (p : Int → Int → Bool) (ta tb : TE) : TE := fun σ H Q => t2I ta tb (fun i j H2 => Q (.bl (p i j)) H2) σ H
abbrev tLt : TE → TE → TE := tCmp fun i j => decide (i < j)
abbrev tLe : TE → TE → TE := tCmp fun i j => decide (i ≤ j)
abbrev tGt : TE → TE → TE := tCmp fun i j => decide (j < i)
abbrev tGe : TE → TE → TE := tCmp fun i j => decide (j ≤ i)
abbrev tEqI : TE → TE → TE := tCmp fun i j => decide (i = j)
abbrev tNeI : TE → TE → TE := tCmp fun i j => !decide (i = j)
/-- a comparison of two ints, by its rule -/
theorem pc_int {op : CmpOp} {p : Int → Int → Bool} (ha : PE X a ta) (hb : PE X b tb)
    (rule : ∀ (i j : Int) (t u : Tok) (Q : Value → Shared → Prop) (s : Shared), Q (.bool (p i j)) s → wpAny (model X.prog X.w) X.A (compareOp op (.int i t) (.int j u)) Q X.xe s) : PC X op a b (tCmp p ta tb) := by
  intro pins s σ H Q I h
  refine bin ha hb I h fun v u s2 x y H2 I2 rx ry q => ?_
  obtain ⟨i, j, rfl, rfl, q⟩ := q
  obtain ⟨t, rfl⟩ := rx
  obtain ⟨t', rfl⟩ := ry
  exact rule i j t t' _ s2 ⟨.bl _, H2, I2, rfl, q⟩
theorem pc_lt (ha : PE X a ta) (hb : PE X b tb) : PC X .Lt a b (tLt ta tb) := pc_int ha hb fun _ _ _ _ _ _ h => lt_int h
theorem pc_le (ha : PE X a ta) (hb : PE X b tb) : PC X .LtE a b (tLe ta tb) := pc_int ha hb fun _ _ _ _ _ _ h => le_int h
theorem pc_gt (ha : PE X a ta) (hb : PE X b tb) : PC X .Gt a b (tGt ta tb) := pc_int ha hb fun _ _ _ _ _ _ h => gt_int h
theorem pc_ge (ha : PE X a ta) (hb : PE X b tb) : PC X .GtE a b (tGe ta tb) := pc_int ha hb fun _ _ _ _ _ _ h => ge_int h
theorem pc_eqI (ha : PE X a ta) (hb : PE X b tb) : PC X .Eq a b (tEqI ta tb) := pc_int ha hb fun _ _ _ _ _ _ h => eq_int (by rw [Bool.beq_eq_decide_eq]; exact h)
theorem pc_neI (ha : PE X a ta) (hb : PE X b tb) : PC X .NotEq a b (tNeI ta tb) := pc_int ha hb fun _ _ _ _ _ _ h => ne_int (by rw [bne, Bool.beq_eq_decide_eq]; exact h)
/-- is None -/
def tIsN (ta : TE) : TE := fun σ H Q => ta σ H fun x H1 => Q (.bl (decide (x = .non))) H1
def tNotN (ta : TE) : TE := fun σ H Q => ta σ H fun x H1 => Q (.bl (!decide (x = .non))) H1
theorem RelV.none_iff {x : V} {v : Value} (r : RelV x v) : (v == Value.none) = decide (x = .non) := by
  cases x with
  | non => cases r; rfl
  | bl _ => cases r; rfl
  | int _ => obtain ⟨t, rfl⟩ := r; rfl
  | str _ => obtain ⟨t, rfl⟩ := r; rfl
  | byt _ => obtain ⟨t, rfl⟩ := r; rfl
  | flt _ => obtain ⟨t, rfl⟩ := r; rfl
  | ref _ => cases r; rfl
  | ty _ => cases r; rfl
theorem pc_isN {j pos'} (ha : PE X a ta) : PC X .Is a (.Constant .none j pos') (tIsN ta) := by
  intro pins s σ H Q I h
  refine thn (ha pins s σ H _ I h) fun v s1 ⟨x, H1, I1, r1, q1⟩ => ?_
  exact Constant_none (is_none_gen ⟨.bl _, H1, I1, by rw [r1.none_iff]; rfl, q1⟩)
theorem pc_notN {j pos'} (ha : PE X a ta) : PC X .IsNot a (.Constant .none j pos') (tNotN ta) := by
  intro pins s σ H Q I h
  refine thn (ha pins s σ H _ I h) fun v s1 ⟨x, H1, I1, r1, q1⟩ => ?_
  exact Constant_none (isnot_none_gen ⟨.bl _, H1, I1, by rw [r1.none_iff]; rfl, q1⟩)
/-- a comparison as a value, as a test -/
def tB (t : TE) : TT := fun σ H Q => t σ H fun x H1 => ∃ c, x = .bl c ∧ Q c H1
theorem pe_cmp {op : CmpOp} {t : TE} (h : PC X op a b t) (h1 : behindInMarks op b = false := by first | exact nobehind _ (by decide) (by decide) | rfl) : PE X (.Compare a [op] [b] pos) t := fun pins s σ H Q I hw => wpAny_Compare1 (h pins s σ H Q I hw) h1
theorem pt_cmp {op : CmpOp} {t : TE} (h : PC X op a b t) (h1 : behindInMarks op b = false := by first | exact nobehind _ (by decide) (by decide) | rfl) : PT X (.Compare a [op] [b] pos) (tB t) := by
  intro pins s σ H Q I hw
  refine wpAny_isTrue_Compare1 (thn (h pins s σ H _ I hw) fun v s1 h1 => thn h1 fun u s2 h2 => thn h2 fun c s3 ⟨x, H1, I1, r1, q1⟩ => ?_) h1
  obtain ⟨d, rfl, q⟩ := q1
  cases r1
  exact wpAny_truthy_bool ⟨H1, I1, q⟩
/-- an expression whose value is a bool, as a test -/
theorem pt_val {e : Expr} {t : TE} (h : PE X e t) (he : ∀ whole, isTrue e X.env whole = (do let v ← whole; standAt e.pos; holding [v] (truthy v)) := by intro _; rfl) : PT X e (tB t) := by
  intro pins s σ H Q I hw
  refine isTrue_plain (thn (h pins s σ H _ I hw) fun v s1 ⟨x, H1, I1, r1, q1⟩ => ?_) (he _)
  obtain ⟨d, rfl, q⟩ := q1
  cases r1
  exact wpAny_truthy_bool ⟨H1, I1, q⟩

/-! ### and, or, not -/
variable {tA tB' : TT} {rest : List Expr}
def tAnd (t u : TT) : TT := fun σ H Q => t σ H fun c H1 => if c = true then u σ H1 Q else Q false H1
def tOr (t u : TT) : TT := fun σ H Q => t σ H fun c H1 => if c = true then Q true H1 else u σ H1 Q
def tNot (t : TT) : TT := fun σ H Q => t σ H fun c H1 => Q (!c) H1
theorem pw_and1 (ha : PT X a tA) : PW X (.BoolOp .And [a] pos) tA := by
  intro wh pins s σ H Q I h
  refine isTrue_and (thn (ha pins s σ H Q I h) fun c s1 e => ?_)
  cases c with
  | true => exact isTrue_and_nil e
  | false => exact e
theorem pw_or1 (ha : PT X a tA) : PW X (.BoolOp .Or [a] pos) tA := by
  intro wh pins s σ H Q I h
  refine isTrue_or (thn (ha pins s σ H Q I h) fun c s1 e => ?_)
  cases c with
  | false => exact isTrue_or_nil e
  | true => exact e
theorem pw_and (ha : PT X a tA) (hb : PW X (.BoolOp .And (b :: rest) pos) tB') : PW X (.BoolOp .And (a :: b :: rest) pos) (tAnd tA tB') := by
  intro wh pins s σ H Q I h
  refine isTrue_and (thn (ha pins s σ H _ I h) fun c s1 ⟨H1, I1, q1⟩ => ?_)
  cases c with
  | true => exact hb wh pins s1 σ H1 Q I1 q1
  | false => exact ⟨H1, I1, q1⟩
theorem pw_or (ha : PT X a tA) (hb : PW X (.BoolOp .Or (b :: rest) pos) tB') : PW X (.BoolOp .Or (a :: b :: rest) pos) (tOr tA tB') := by
  intro wh pins s σ H Q I h
  refine isTrue_or (thn (ha pins s σ H _ I h) fun c s1 ⟨H1, I1, q1⟩ => ?_)
  cases c with
  | true => exact ⟨H1, I1, q1⟩
  | false => exact hb wh pins s1 σ H1 Q I1 q1
theorem pt_not (ha : PT X a tA) : PT X (.UnaryOp .Not a pos) (tNot tA) := by
  intro pins s σ H Q I h
  exact isTrue_not (ha pins s σ H (fun c H1 => Q (!c) H1) I h)
/-- .. as values (bools) -/
def tAndV (ta tb : TE) : TE := fun σ H Q => ta σ H fun x H1 => ∃ c, x = .bl c ∧ if c = true then tb σ H1 Q else Q (.bl false) H1
def tOrV (ta tb : TE) : TE := fun σ H Q => ta σ H fun x H1 => ∃ c, x = .bl c ∧ if c = true then Q (.bl true) H1 else tb σ H1 Q
def tNotV (ta : TE) : TE := fun σ H Q => ta σ H fun x H1 => ∃ c, x = .bl c ∧ Q (.bl (!c)) H1
theorem pe_one {op} {t : TE} (h : PE X a t) : PE X (.BoolOp op [a] pos) t := fun pins s σ H Q I hw => BoolOp_one (h pins s σ H Q I hw)
theorem pe_and (ha : PE X a ta) (hb : PE X (.BoolOp .And (b :: rest) pos) tb) : PE X (.BoolOp .And (a :: b :: rest) pos) (tAndV ta tb) := by
  intro pins s σ H Q I h
  refine BoolOp_and (thn (ha pins s σ H _ I h) fun v s1 ⟨x, H1, I1, r1, q1⟩ => ?_)
  obtain ⟨c, rfl, q1⟩ := q1
  cases r1
  refine wpAny_truthy_bool ?_
  cases c with
  | true => exact hb pins s1 σ H1 Q I1 q1
  | false => exact ⟨.bl false, H1, I1, rfl, q1⟩
theorem pe_or (ha : PE X a ta) (hb : PE X (.BoolOp .Or (b :: rest) pos) tb) : PE X (.BoolOp .Or (a :: b :: rest) pos) (tOrV ta tb) := by
  intro pins s σ H Q I h
  refine BoolOp_or (thn (ha pins s σ H _ I h) fun v s1 ⟨x, H1, I1, r1, q1⟩ => ?_)
  obtain ⟨c, rfl, q1⟩ := q1
  cases r1
  refine wpAny_truthy_bool ?_
  cases c with
  | false => exact hb pins s1 σ H1 Q I1 q1
  | true => exact ⟨.bl true, H1, I1, rfl, q1⟩
theorem pe_not (ha : PE X a ta) : PE X (.UnaryOp .Not a pos) (tNotV ta) := by
  intro pins s σ H Q I h
  refine UnaryOp_ (thn (ha pins s σ H _ I h) fun v s1 ⟨x, H1, I1, r1, q1⟩ => ?_)
  obtain ⟨c, rfl, q1⟩ := q1
  cases r1
  exact not_of (wpAny_truthy_bool ⟨.bl (!c), H1, I1, rfl, q1⟩)
/-- a if t else b -/
def tIf (t : TT) (ta tb : TE) : TE := fun σ H Q => t σ H fun c H1 => if c = true then ta σ H1 Q else tb σ H1 Q
theorem pe_ifExp {c : Expr} (hc : PT X c tA) (ha : PE X a ta) (hb : PE X b tb) : PE X (.IfExp c a b pos) (tIf tA ta tb) := by
  intro pins s σ H Q I h
  refine wpAny_IfExp (thn (hc pins s σ H _ I h) fun d s1 ⟨H1, I1, q1⟩ => ?_)
  cases d with
  | true => exact ha pins s1 σ H1 Q I1 q1
  | false => exact hb pins s1 σ H1 Q I1 q1
end
end L2

namespace L2
open PySem PySem.Spec PyProof.Rows

/-! ### a list, a tuple that is read: tracked, frozen, or an object of the module -/
def SqL (K : PySem.W.Frag) (H : Hp) (a : Addr) (xs : List V) : Prop :=
  Rd H a (.lst xs) ∨
    ∃ (o : Obj) (its : Array Value) (n : Nat), K.lookup a = some o ∧ o.cls = .type "list" ∧ o.dict = none ∧ o.data = .seq its n ∧ its.size ≤ sizeLine ∧ Vals xs its.toList
def SqT (K : PySem.W.Frag) (H : Hp) (a : Addr) (xs : List V) : Prop :=
  Rd H a (.tup xs) ∨
    ∃ (o : Obj) (its : Array Value) (n : Nat), K.lookup a = some o ∧ o.cls = .type "tuple" ∧ o.data = .seq its n ∧ its.size ≤ sizeLine ∧ Vals xs its.toList
def absV : Value → Option V
  | .none => some .non
  | .bool b => some (.bl b)
  | .int i _ => some (.int i)
  | .str x _ => some (.str x)
  | .bytes b _ => some (.byt b)
  | .float b _ => some (.flt b)
  | .ref a => some (.ref a)
  | .type n => some (.ty n)
  | _ => none
theorem RelV.abs {x : V} {u : Value} (r : RelV x u) : absV u = some x := by
  cases x with
  | non => cases r; rfl
  | bl _ => cases r; rfl
  | int _ => obtain ⟨t, rfl⟩ := r; rfl
  | str _ => obtain ⟨t, rfl⟩ := r; rfl
  | byt _ => obtain ⟨t, rfl⟩ := r; rfl
  | flt _ => obtain ⟨t, rfl⟩ := r; rfl
  | ref _ => cases r; rfl
  | ty _ => cases r; rfl
theorem RelV.inj {x y : V} {u : Value} (r : RelV x u) (q : RelV y u) : x = y := Option.some.inj (r.abs.symm.trans q.abs)
theorem Vals.inj : ∀ {xs ys : List V} {us : List Value}, Vals xs us → Vals ys us → xs = ys
  | _, _, _, .nil, .nil => rfl
  | _, _, _, .cons r t, .cons r' t' => by rw [r.inj r', Vals.inj t t']
section
variable {X : Cx} {pins : List (Addr × Obj)} {σ : St} {H : Hp} {s : Shared} {a : Addr} {xs ys : List V}
theorem SqL.of {K : PySem.W.Frag} (h : H a = some (.lst xs)) : SqL K H a xs := .inl (.inl h)
theorem SqT.of {K : PySem.W.Frag} (h : H a = some (.tup xs)) : SqT K H a xs := .inl (.inl h)
theorem Inv.list (I : Inv X pins σ H s) (h : SqL X.K H a xs) : ∃ its : List Value, Vals xs its ∧ PlainL s.heap a its.toArray ∧ xs.length ≤ sizeLine := by
  rcases h with h | ⟨o, its, n, hk, hc, hd, hs, hz, r⟩
  · obtain ⟨z, its, n, r, e⟩ := h.ok I.hok
    exact ⟨its, r, ⟨_, n, e, rfl, rfl, rfl⟩, z⟩
  · refine ⟨its.toList, r, ⟨o, n, I.kIn a o hk, hc, hd, by simpa using hs⟩, ?_⟩
    have e := r.length
    simp only [Array.length_toList] at e
    omega
theorem Inv.tuple (I : Inv X pins σ H s) (h : SqT X.K H a xs) : ∃ its : List Value, Vals xs its ∧ IsTup s.heap a its.toArray ∧ xs.length ≤ sizeLine := by
  rcases h with h | ⟨o, its, n, hk, hc, hs, hz, r⟩
  · obtain ⟨z, its, r, p⟩ := h.ok I.hok
    exact ⟨its, r, p, z⟩
  · refine ⟨its.toList, r, ⟨o, I.kIn a o hk, hc, n, by simpa using hs⟩, ?_⟩
    have e := r.length
    simp only [Array.length_toList] at e
    omega
theorem Inv.list_inj (I : Inv X pins σ H s) (h : SqL X.K H a xs) (h' : SqL X.K H a ys) : xs = ys := by
  obtain ⟨its, r, ⟨o, n, e, _, _, d⟩, _⟩ := I.list h
  obtain ⟨its', r', ⟨o', n', e', _, _, d'⟩, _⟩ := I.list h'
  rw [e] at e'; cases e'
  rw [d] at d'
  injection d' with d1 _
  have : its = its' := by simpa using congrArg Array.toList d1
  subst this
  exact r.inj r'
theorem Inv.tuple_inj (I : Inv X pins σ H s) (h : SqT X.K H a xs) (h' : SqT X.K H a ys) : xs = ys := by
  obtain ⟨its, r, ⟨o, e, _, n, d⟩, _⟩ := I.tuple h
  obtain ⟨its', r', ⟨o', e', _, n', d'⟩, _⟩ := I.tuple h'
  rw [e] at e'; cases e'
  rw [d] at d'
  injection d' with d1 _
  have : its = its' := by simpa using congrArg Array.toList d1
  subst this
  exact r.inj r'
end

/-! ### another wish about exceptions -/
abbrev Cx.wish (X : Cx) (E : Value → Shared → Prop) : Cx := { X with xe := E }
/-- no exception leaves -/
abbrev Cx.nox (X : Cx) : Cx := X.wish fun _ _ => False
theorem Cx.Ok.wish {X : Cx} (ok : X.Ok) (E : Value → Shared → Prop) : (X.wish E).Ok :=
  ⟨ok.mod, ok.kind, ok.glob, ok.blt, ok.above, ok.inj, ok.has, ok.cab, ok.hd, ok.frames, ok.stk, ok.exf, ok.bs, ok.bsz, ok.noex, ok.exfs, ok.funs, ok.frf⟩
theorem Cx.Ok.unwish {X : Cx} {E : Value → Shared → Prop} (ok : (X.wish E).Ok) : X.Ok :=
  ⟨ok.mod, ok.kind, ok.glob, ok.blt, ok.above, ok.inj, ok.has, ok.cab, ok.hd, ok.frames, ok.stk, ok.exf, ok.bs, ok.bsz, ok.noex, ok.exfs, ok.funs, ok.frf⟩
section
variable {X : Cx} {pins : List (Addr × Obj)} {σ : St} {H : Hp} {s : Shared} {E : Value → Shared → Prop}
theorem Inv.wish (I : Inv X pins σ H s) (E : Value → Shared → Prop) : Inv (X.wish E) pins σ H s := ⟨I.ok.wish E, I.os, I.bare, I.base, I.loc, I.cell, I.free, I.freeC, I.pin, I.hok, I.len⟩
theorem Inv.unwish (I : Inv (X.wish E) pins σ H s) : Inv X pins σ H s := ⟨I.ok.unwish, I.os, I.bare, I.base, I.loc, I.cell, I.free, I.freeC, I.pin, I.hok, I.len⟩
theorem SP.unwish {D : Ends} {f : Flow} {s' : Shared} (h : SP (X.wish E) pins D f s') : SP X pins D f s' := by
  cases f with
  | next => obtain ⟨σ', H', I, q⟩ := h; exact ⟨σ', H', I.unwish, q⟩
  | brk => obtain ⟨σ', H', I, q⟩ := h; exact ⟨σ', H', I.unwish, q⟩
  | cont => obtain ⟨σ', H', I, q⟩ := h; exact ⟨σ', H', I.unwish, q⟩
  | ret u => obtain ⟨v, σ', H', I, r, q⟩ := h; exact ⟨v, σ', H', I.unwish, r, q⟩
theorem PE.nox {e : Expr} {t : TE} (h : PE X.nox e t) : PE X e t := fun pins s σ H Q I hw =>
  wpAny_mono (h pins s σ H Q (I.wish _) hw) (fun _ _ ⟨v, H', I', r, q⟩ => ⟨v, H', I'.unwish, r, q⟩) fun _ _ z => False.elim z
theorem PT.nox {e : Expr} {t : TT} (h : PT X.nox e t) : PT X e t := fun pins s σ H Q I hw =>
  wpAny_mono (h pins s σ H Q (I.wish _) hw) (fun _ _ ⟨H', I', q⟩ => ⟨H', I'.unwish, q⟩) fun _ _ z => False.elim z
theorem PSs.nox {st : List Stmt} {t : TS} (h : PSs X.nox st t) : PSs X st t := fun pins s σ H D I hw =>
  wpAny_mono (h pins s σ H D (I.wish _) hw) (fun _ _ q => q.unwish) fun _ _ z => False.elim z
end

/-! ### blocks and small statements -/
section
variable {X : Cx} {st : Stmt} {rest : List Stmt} {t u : TS} {e : Expr} {te : TE} {pos : Pos}
def tNext : TS := fun D σ H => D.nx σ H
def tSeq (t u : TS) : TS := fun D σ H => t { D with nx := u D } σ H
theorem pss_nil : PSs X [] tNext := fun _ _ σ H _ I h => wpAny_execs_nil ⟨σ, H, I, h⟩
theorem pss_cons (h1 : PS X st t) (h2 : PSs X rest u) : PSs X (st :: rest) (tSeq t u) := by
  intro pins s σ H D I h
  refine wpAny_execs_cons (thn (h1 pins s σ H { D with nx := u D } I h) fun f s1 q => ?_)
  cases f with
  | next =>
    obtain ⟨σ', H', I', q⟩ := q
    exact h2 pins s1 σ' H' D I' q
  | ret v => exact q
  | brk => exact q
  | cont => exact q
theorem pss_one (h1 : PS X st t) : PSs X [st] t := by
  intro pins s σ H D I h
  refine wpAny_execs_cons (thn (h1 pins s σ H D I h) fun f s1 q => ?_)
  cases f with
  | next => exact wpAny_execs_nil q
  | ret v => exact q
  | brk => exact q
  | cont => exact q
def tBreak : TS := fun D σ H => D.bk σ H
def tCont : TS := fun D σ H => D.ct σ H
theorem ps_pass : PS X (.Pass pos) tNext := fun _ _ σ H _ I h => wpAny_Pass ⟨σ, H, I, h⟩
theorem ps_break : PS X (.Break pos) tBreak := fun _ _ σ H _ I h => wpAny_Break ⟨σ, H, I, h⟩
theorem ps_continue : PS X (.Continue pos) tCont := fun _ _ σ H _ I h => wpAny_Continue ⟨σ, H, I, h⟩
/-- in a def's body nothing is shown -/
theorem Inv.quiet {pins : List (Addr × Obj)} {σ : St} {H : Hp} {s : Shared} (I : Inv X pins σ H s) : interactive X.env = false := by simp [interactive, I.ok.kind]
/-- a docstring -/
theorem ps_doc {x j pos pos'} : PS X (.Expr (.Constant (.str x) j pos) pos') tNext := fun _ s σ H _ I h => wpAny_Expr (Calls.Constant_str (show SP X _ _ .next { s with toks := s.toks + 1 } from ⟨σ, H, I.tok _, h⟩)) I.quiet
/-- an expression whose value is dropped -/
def tDrop (te : TE) : TS := fun D σ H => te σ H fun _ H1 => D.nx σ H1
theorem ps_expr (he : PE X e te) (hs : swapsWith e none pos.line X.env = pure false := by rfl) : PS X (.Expr e pos) (tDrop te) := by
  intro pins s σ H D I h
  exact wpAny_Expr_any (thn (he pins s σ H _ I h) fun v s1 ⟨x, H1, I1, r1, q1⟩ => ⟨σ, H1, I1, q1⟩) I.quiet hs
def tRet (te : TE) : TS := fun D σ H => te σ H D.rt
theorem ps_ret (he : PE X e te) : PS X (.Return (some e) pos) (tRet te) := by
  intro pins s σ H D I h
  exact wpAny_Return_some (thn (he pins s σ H _ I h) fun v s1 ⟨x, H1, I1, r1, q1⟩ => ⟨x, σ, H1, I1, r1, q1⟩)
def tRetN : TS := fun D _ H => D.rt .non H
theorem ps_retN : PS X (.Return none pos) tRetN := fun _ _ σ H _ I h => wpAny_Return_none ⟨.non, σ, H, I, rfl, h⟩
def tIfS (c : TT) (t u : TS) : TS := fun D σ H => c σ H fun b H1 => if b = true then t D σ H1 else u D σ H1
theorem ps_if {c : Expr} {a b : List Stmt} {tc : TT} (hc : PT X c tc) (ha : PSs X a t) (hb : PSs X b u) : PS X (.If c a b pos) (tIfS tc t u) := by
  intro pins s σ H D I h
  refine wpAny_If (thn (hc pins s σ H _ I h) fun d s1 ⟨H1, I1, q1⟩ => ?_)
  cases d with
  | true => exact ha pins s1 σ H1 D I1 q1
  | false => exact hb pins s1 σ H1 D I1 q1
/-- code that the proof never comes to -/
def tNever : TS := fun _ _ _ => False
theorem ps_never : PS X st tNever := fun _ _ _ _ _ _ h => h.elim
theorem pss_never {sts : List Stmt} : PSs X sts tNever := fun _ _ _ _ _ _ h => h.elim
end

/-! ### targets -/
abbrev TG := V → St → Hp → (St → Hp → Prop) → Prop
abbrev TGs := List V → St → Hp → (St → Hp → Prop) → Prop
def PG (X : Cx) (target : Expr) (t : TG) : Prop :=
  ∀ (pins : List (Addr × Obj)) (s : Shared) (σ : St) (H : Hp) (v : V) (u : Value) (Q : St → Hp → Prop), Inv X pins σ H s → RelV v u → t v σ H Q →
    wpAny (model X.prog X.w) X.A (assign target X.env u) (fun _ s' => ∃ σ' H', Inv X pins σ' H' s' ∧ Q σ' H') X.xe s
/-- several targets, one after another -/
def PGs (X : Cx) (ts : List Expr) (t : TGs) : Prop :=
  ∀ (pins : List (Addr × Obj)) (s : Shared) (σ : St) (H : Hp) (vs : List V) (us : List Value) (Q : St → Hp → Prop), Inv X pins σ H s → Vals vs us → t vs σ H Q →
    wpAny (model X.prog X.w) X.A (assignInOrder ((assignEach ts X.env).map (·.2)) us) (fun _ s' => ∃ σ' H', Inv X pins σ' H' s' ∧ Q σ' H') X.xe s
/-- o[i] = v, by values -/
abbrev TSet := V → V → V → Hp → (Hp → Prop) → Prop
def PSet (X : Cx) (t : TSet) : Prop :=
  ∀ (pins : List (Addr × Obj)) (s : Shared) (σ : St) (H : Hp) (o i v : V) (ov iv u : Value) (Q : Hp → Prop), Inv X pins σ H s → RelV o ov → RelV i iv → RelV v u → t o i v H Q →
    wpAny (model X.prog X.w) X.A (setItem ov iv u) (fun _ s' => ∃ H', Inv X pins σ H' s' ∧ Q H') X.xe s
/-- a op= b, by values -/
abbrev TIp := V → V → Hp → VK → Prop
def PIp (X : Cx) (op : Operator) (t : TIp) : Prop :=
  ∀ (pins : List (Addr × Obj)) (s : Shared) (σ : St) (H : Hp) (x y : V) (v u : Value) (Q : VK), Inv X pins σ H s → RelV x v → RelV y u → t x y H Q →
    wpAny (model X.prog X.w) X.A (inplaceOp op v u) (EP X pins σ Q) X.xe s
section
variable {X : Cx} {pos : Pos}
def gName (i : Nat) : TG := fun v σ H Q => Q (σ.set i (some v)) H
theorem pg_name {i : Nat} {x : Str} (hN : X.N.Nodup) (hi : X.N[i]? = some x) (hx : Loc X.env.scope x) (hf : X.fn x = true ∨ X.env.scope.names.lookup x = some .local := by first | exact .inl rfl | exact .inr rfl | assumption) : PG X (.Name x pos) (gName i) := by
  intro pins s σ H v u Q I r h
  exact wpAny_assign_Name (store_ok I hN hi hx r (fun s' I' => ⟨_, H, I', h⟩) hf)
def gNil : TGs := fun vs σ H Q => vs = [] ∧ Q σ H
def gCons (t : TG) (u : TGs) : TGs := fun vs σ H Q => ∃ v r, vs = v :: r ∧ t v σ H fun σ' H' => u r σ' H' Q
theorem pgs_nil : PGs X [] gNil := by
  intro pins s σ H vs us Q I r h
  obtain ⟨e, h⟩ := h
  subst e
  cases r
  exact assignInOrder_nil ⟨σ, H, I, h⟩
theorem pgs_cons {e : Expr} {es : List Expr} {t : TG} {u : TGs} (h1 : PG X e t) (h2 : PGs X es u)
    (hs : (assignEach (e :: es) X.env).map (·.2) = assign e X.env :: (assignEach es X.env).map (·.2) := by rfl) : PGs X (e :: es) (gCons t u) := by
  intro pins s σ H vs us Q I r h
  obtain ⟨v, vr, e1, h⟩ := h
  subst e1
  cases r with
  | cons r rr =>
    rw [hs]
    refine assignInOrder_cons (thn (h1 pins s σ H _ _ _ I r h) fun _ s1 ⟨σ1, H1, I1, q1⟩ => ?_)
    exact h2 pins s1 σ1 H1 _ _ Q I1 rr q1
/-- (a, b, ..) = a tuple of that length -/
def gTup (K : PySem.W.Frag) (n : Nat) (t : TGs) : TG := fun v σ H Q => ∃ a xs, v = .ref a ∧ SqT K H a xs ∧ xs.length = n ∧ t xs σ H Q
theorem pg_tup {es : List Expr} {k : Nat} {t : TGs} {n : Nat} (hc : X.calm = true) (h : PGs X es t)
    (hn : (assignEach es X.env).length = n := by rfl) (hst : (assignEach es X.env).findIdx? (·.1) = none := by rfl) : PG X (.Tuple es k pos) (gTup X.K n t) := by
  intro pins s σ H v u Q I r hw
  obtain ⟨a, xs, e1, hq, hl, hw⟩ := hw
  subst e1
  cases r
  obtain ⟨its, rv, ht, hz⟩ := I.tuple hq
  refine assign_Tuple_tuple (I.ok.hd hc) ht (by simp [hn, ← hl, rv.length]) hst fun h' hx => ?_
  have I1 : Inv X pins σ H { s with heap := h' } := I.kept (t' := s.toks) fun b o e => hx b o (Nat.ne_of_lt (Heap.lt_size e)) e
  exact h pins _ σ H xs _ Q I1 (by simpa using rv) hw
/-- o[i] = .. -/
def gSub (to ti : TE) (t : TSet) : TG := fun v σ H Q => to σ H fun o H1 => ti σ H1 fun i H2 => t o i v H2 fun H3 => Q σ H3
theorem pg_sub {o i : Expr} {to ti : TE} {t : TSet} (ho : PE X o to) (hi : PE X i ti) (hs : PSet X t)
    (ha : ∀ v, assign (.Subscript o i pos) X.env v = (do
      let ov ← holding [v] (eval o X.env)
      let iv ← holding [v, ov] (eval i X.env)
      standAt pos
      holding [v, ov, iv] (setItem ov iv v)
      release [v, ov, iv] []) := by intro _; rfl) : PG X (.Subscript o i pos) (gSub to ti t) := by
  intro pins s σ H v u Q I r h
  rw [ha]
  refine wpAny_bind (wpAny_holding (thn (ho pins s σ H _ I h) fun ov s1 ⟨x, H1, I1, r1, q1⟩ => ?_))
  refine wpAny_bind (wpAny_holding (thn (hi pins s1 σ H1 _ I1 q1) fun iv s2 ⟨y, H2, I2, r2, q2⟩ => ?_))
  refine wpAny_bind (wpAny_standAt (wpAny_bind (wpAny_holding (thn (hs pins s2 σ H2 x y v ov iv u _ I2 r1 r2 r q2) fun _ s3 ⟨H3, I3, q3⟩ => ?_))))
  exact wpAny_release ⟨σ, H3, I3, q3⟩
/-- target = value -/
def tAsg (te : TE) (g : TG) : TS := fun D σ H => te σ H fun x H1 => g x σ H1 D.nx
theorem ps_asg {tg e : Expr} {te : TE} {g : TG} (he : PE X e te) (hg : PG X tg g) (hs : swapsWithSole [tg] e pos.line X.env = pure false := by rfl) (hw : swappedStores [tg] e X.env = pure none := by rfl)
    (h1 : (assignEach [tg] X.env).map (·.2) = [assign tg X.env] := by rfl) : PS X (.Assign [tg] e pos) (tAsg te g) := by
  intro pins s σ H D I h
  refine wpAny_Assign_stores (thn (he pins s σ H _ I h) fun v s1 ⟨x, H1, I1, r1, q1⟩ => ?_) hs hw
  rw [h1]
  exact thn (hg pins s1 σ H1 x v _ I1 r1 q1) fun _ s2 q => q
/-- name = value -/
theorem ps_set {i : Nat} {x : Str} {e : Expr} {te : TE} {pos' : Pos} (hN : X.N.Nodup) (hi : X.N[i]? = some x) (hx : Loc X.env.scope x) (he : PE X e te) (hs : swapsWith e (some (.Name x pos')) pos.line X.env = pure false := by rfl) (hf : X.fn x = true ∨ X.env.scope.names.lookup x = some .local := by first | exact .inl rfl | exact .inr rfl | assumption) :
    PS X (.Assign [.Name x pos'] e pos) (tAsg te (gName i)) := by
  intro pins s σ H D I h
  refine wpAny_Assign_Name (thn (he pins s σ H _ I h) fun v s1 ⟨y, H1, I1, r1, q1⟩ => ?_) hs
  exact store_ok I1 hN hi hx r1 (fun s2 I2 => ⟨_, H1, I2, q1⟩) hf
/-- a, b = x, y with plain local names: stored from the right; the pair itself is not tracked (the opening rows as in PyProof/Rows/TupAssign.lean:23) -/
def tPar (i j : Nat) (ta : TA) : TS := fun D σ H => ta σ H fun vs H1 => ∃ v w, vs = [v, w] ∧ D.nx ((σ.set i (some v)).set j (some w)) H1
theorem ps_par {i j : Nat} {x y : Str} {a b : Expr} {ta : TA} {px py pt : Pos} {kt k2 pt2} (hc : X.calm = true) (hN : X.N.Nodup) (hi : X.N[i]? = some x) (hj : X.N[j]? = some y) (hij : i ≠ j)
    (hx : X.env.scope.names.lookup x = some .local) (hy : X.env.scope.names.lookup y = some .local) (ha : PA X [a, b] ta)
    (hw : swappedStores [.Tuple [.Name x px, .Name y py] kt pt] (.Tuple [a, b] k2 pt2) X.env = pure (some [x, y]))
    (hs : swapsWithSole [.Tuple [.Name x px, .Name y py] kt pt] (.Tuple [a, b] k2 pt2) pos.line X.env = pure false := by rfl) :
    PS X (.Assign [.Tuple [.Name x px, .Name y py] kt pt] (.Tuple [a, b] k2 pt2) pos) (tPar i j ta) := by
  intro pins s σ H D I h
  rw [exec_Assign_arm]
  refine wpAny_bind (wpAny_standAt ?_)
  rw [hs]
  refine wpAny_bind (wpAny_pure ?_)
  rw [if_neg (by decide)]
  refine wpAny_bind (Tuple_ (thn (ha _ pins s σ H _ I h) fun us s1 ⟨vs, H1, I1, r1, q1⟩ => ?_))
  obtain ⟨v, w, e1, q1⟩ := q1
  subst e1
  obtain ⟨u1, u2, rfl, rv, rw'⟩ : ∃ u1 u2, us = [u1, u2] ∧ RelV v u1 ∧ RelV w u2 := by
    cases r1 with
    | cons p q =>
      cases q with
      | cons p' q' =>
        cases q'
        exact ⟨_, _, rfl, p, p'⟩
  refine wpAny_newObj_type ?_ (by show 2 ≤ sizeLine; decide)
  have I2 : Inv X pins σ H1 { s1 with heap := s1.heap.push { cls := .type "tuple", data := .seq [u1, u2].toArray } } := I1.kept (t' := s1.toks) fun b o e => Heap.get?_push_of_some _ e
  rw [hw]
  refine wpAny_bind (wpAny_pure ?_)
  show wpAny (model X.prog X.w) X.A (do rule "assign.swapped-stores"; let items ← unpackItems (.ref s1.heap.objs.size) 2 none; assignInOrder [fun v => bindName X.env y v, fun v => bindName X.env x v] items.reverse; pure Flow.next) _ _ _
  refine wpAny_bind (wpAny_rule (wpAny_bind (unpackItems_tuple (items := #[u1, u2]) (I.ok.hd hc) (IsTup.new s1.heap _) fun h' hx' => ?_)))
  have I3 := I2.kept (h' := h') (t' := s1.toks) fun b o e => hx' b o (Nat.ne_of_lt (Heap.lt_size e)) e
  show wpAny _ _ (assignInOrder [fun v => bindName X.env y v, fun v => bindName X.env x v] [u2, u1] >>= fun _ => pure Flow.next) _ _ _
  refine wpAny_bind (assignInOrder_cons (wpAny_bindName (store_ok I3 hN hj (.inl hy) rw' (fun s2 I4 => ?_) (.inr hy))))
  refine assignInOrder_cons (wpAny_bindName (store_ok I4 hN hi (.inl hx) rv (fun s3 I5 => assignInOrder_nil (wpAny_pure ?_)) (.inr hx)))
  rw [List.set_comm _ _ (Ne.symm hij)] at I5
  exact ⟨_, H1, I5, q1⟩
/-- name op= e -/
def tAug (i : Nat) (te : TE) (ti : TIp) : TS := fun D σ H => ∃ x, σ[i]? = some (some x) ∧ te σ H fun y H1 => ti x y H1 fun z H2 => D.nx (σ.set i (some z)) H2
theorem ps_aug {i : Nat} {x : Str} {e : Expr} {te : TE} {op : Operator} {ti : TIp} {pos' : Pos} (hN : X.N.Nodup) (hi : X.N[i]? = some x) (hx : Loc X.env.scope x) (he : PE X e te) (ho : PIp X op ti) (hf : X.fn x = true ∨ X.env.scope.names.lookup x = some .local := by first | exact .inl rfl | exact .inr rfl | assumption) :
    PS X (.AugAssign (.Name x pos') op e pos) (tAug i te ti) := by
  intro pins s σ H D I h
  obtain ⟨v, e1, h⟩ := h
  obtain ⟨m, hn, hl⟩ := I.loc
  have vis : Vis X.env.scope x := by rcases hx with k | k; exact .inl k; exact .inr (.inl k)
  obtain ⟨u, r, l⟩ := hl i x v hi e1 vis
  refine wpAny_AugAssign_Name ?_
  have go : wpAny (model X.prog X.w) X.A (eval e X.env) (fun w s₂ => wpAny (model X.prog X.w) X.A (inplaceOp op u w) (fun r s₃ => wpAny (model X.prog X.w) X.A (storeName X.env x r) (fun _ => SP X pins D .next) X.xe s₃) X.xe s₂) X.xe s := by
    refine thn (he pins s σ H _ I h) fun w s1 ⟨y, H1, I1, r1, q1⟩ => ?_
    refine thn (ho pins s1 σ H1 v y u w _ I1 r r1 q1) fun z s2 ⟨zv, H2, I2, r2, q2⟩ => ?_
    exact store_ok I2 hN hi hx r2 (fun s3 I3 => ⟨_, H2, I3, q2⟩) hf
  rcases l with ⟨hk, hm⟩ | ⟨hk, c, hc, hcell⟩
  · exact wpAny_loadName_local I.ok.kind hk hn hm go
  · rcases hk with hk | hk
    · exact wpAny_loadName_cell I.ok.kind hk hc hcell go
    · rcases hx with k | k
      · have : X.env.scope.names.lookup x = some .free := hk
        rw [k] at this; cases this
      · have : X.env.scope.names.lookup x = some .free := hk
        rw [k] at this; cases this
/-- o[i] op= e -/
def tAugS (to ti te : TE) (tget : V → V → Hp → VK → Prop) (tip : TIp) (tset : TSet) : TS := fun D σ H => to σ H fun o H1 => ti σ H1 fun i H2 => tget o i H2 fun x H3 => te σ H3 fun y H4 => tip x y H4 fun z H5 => tset o i z H5 fun H6 => D.nx σ H6
/-- o[i], by values -/
def PGet (X : Cx) (t : V → V → Hp → VK → Prop) : Prop :=
  ∀ (pins : List (Addr × Obj)) (s : Shared) (σ : St) (H : Hp) (o i : V) (ov iv : Value) (Q : VK), Inv X pins σ H s → RelV o ov → RelV i iv → t o i H Q →
    wpAny (model X.prog X.w) X.A (getItem ov iv) (EP X pins σ Q) X.xe s
theorem ps_augS {o i e : Expr} {to ti te : TE} {tget : V → V → Hp → VK → Prop} {tip : TIp} {tset : TSet} {op : Operator} {tpos : Pos} (ho : PE X o to) (hi : PE X i ti) (hg : PGet X tget) (he : PE X e te) (hp : PIp X op tip) (hs : PSet X tset)
    (ha : ∀ ov iv new, augStore i ov iv new = (do holding [new, ov, iv] (setItem ov iv new); release [new, ov, iv] []; pure .next) := by intros; rfl) : PS X (.AugAssign (.Subscript o i tpos) op e pos) (tAugS to ti te tget tip tset) := by
  intro pins s σ H D I h
  refine wpAny_AugAssign_SubscriptAny (thn (ho pins s σ H _ I h) fun ov s1 ⟨x1, H1, I1, r1, q1⟩ => ?_) ha
  refine thn (hi pins s1 σ H1 _ I1 q1) fun iv s2 ⟨x2, H2, I2, r2, q2⟩ => ?_
  refine thn (hg pins s2 σ H2 x1 x2 ov iv _ I2 r1 r2 q2) fun old s3 ⟨x3, H3, I3, r3, q3⟩ => ?_
  refine thn (he pins s3 σ H3 _ I3 q3) fun v s4 ⟨x4, H4, I4, r4, q4⟩ => ?_
  refine thn (hp pins s4 σ H4 x3 x4 old v _ I4 r3 r4 q4) fun new s5 ⟨x5, H5, I5, r5, q5⟩ => ?_
  exact thn (hs pins s5 σ H5 x1 x2 x5 ov iv new _ I5 r1 r2 r5 q5) fun _ s6 ⟨H6, I6, q6⟩ => ⟨σ, H6, I6, q6⟩
/-- ints -/
def ipI (f : Int → Int → Int) : TIp := fun x y H Q => ∃ i j, x = .int i ∧ y = .int j ∧ Q (.int (f i j)) H
theorem ip_add : PIp X .Add (ipI fun i j => i + j) := by
  intro pins s σ H x y v u Q I r1 r2 h
  obtain ⟨i, j, e1, e2, q⟩ := h
  subst e1; subst e2
  obtain ⟨t, rfl⟩ := r1
  obtain ⟨t', rfl⟩ := r2
  exact iadd_int ⟨.int _, H, I.tok _, ⟨_, rfl⟩, q⟩
theorem ip_sub : PIp X .Sub (ipI fun i j => i - j) := by
  intro pins s σ H x y v u Q I r1 r2 h
  obtain ⟨i, j, e1, e2, q⟩ := h
  subst e1; subst e2
  obtain ⟨t, rfl⟩ := r1
  obtain ⟨t', rfl⟩ := r2
  exact isub_int ⟨.int _, H, I.tok _, ⟨_, rfl⟩, q⟩
end

/-! ### while -/
section
variable {X : Cx} {pos : Pos}
/-- the invariant W with its measure -/
def tWhile (c : TT) (tb : TS) : TS := fun D σ H => ∃ W : Nat → St → Hp → Prop, (∃ m, W m σ H) ∧ ∀ m σ H, W m σ H →
  c σ H fun b H1 => if b = true then ∃ N : St → Hp → Prop, (∀ σ' H', N σ' H' → ∃ m', m' < m ∧ W m' σ' H') ∧ tb { D with nx := N, ct := N, bk := D.nx } σ H1 else D.nx σ H1
theorem ps_while {c : Expr} {body : List Stmt} {tc : TT} {tb : TS} (hp : PassesOwn (model X.prog X.w) X.A X.env X.xe) (hc : PT X c tc) (hb : PSs X body tb) : PS X (.While c body [] pos) (tWhile tc tb) := by
  intro pins s σ H D I h
  obtain ⟨W, ⟨m0, w0⟩, turn⟩ := h
  refine wpAny_While (codeAny_whileLoop (fun n s' => ∃ σ' H', Inv X pins σ' H' s' ∧ W n σ' H') ?_ m0 ⟨σ, H, I, w0⟩)
  rintro n s1 ⟨σ1, H1, I1, w1⟩
  refine wpAny_passesOwn hp (thn (hc pins s1 σ1 H1 _ I1 (turn n σ1 H1 w1)) fun b s2 ⟨H2, I2, q2⟩ => ?_)
  cases b with
  | true =>
    obtain ⟨N, hN, q2⟩ := q2
    rw [if_pos rfl]
    refine wpAny_passesOwn hp (thn (hb pins s2 σ1 H2 _ I2 q2) fun f s3 q3 => ?_)
    cases f with
    | next =>
      obtain ⟨σ3, H3, I3, n3⟩ := q3
      obtain ⟨m', hm, w3⟩ := hN σ3 H3 n3
      exact ⟨m', hm, σ3, H3, I3, w3⟩
    | cont =>
      obtain ⟨σ3, H3, I3, n3⟩ := q3
      obtain ⟨m', hm, w3⟩ := hN σ3 H3 n3
      exact ⟨m', hm, σ3, H3, I3, w3⟩
    | brk => exact q3
    | ret v => exact q3
  | false =>
    rw [if_neg Bool.false_ne_true]
    exact wpAny_execs_nil ⟨σ1, H2, I2, q2⟩
end

/-! ### what a loop or a comprehension walks -/
/-- at turn i: it yields x (the heap may grow), or it stops -/
structure It where
  go : Nat → Hp → Prop
  yld : Nat → Hp → V → Hp → Prop
  stop : Nat → Hp → Prop
/-- the iterator's own objects may turn: they are not the frame's, not pinned, younger than the entry (or a comprehension's own) -/
def FpOk (X : Cx) (pins : List (Addr × Obj)) (H : Hp) (b : Addr) : Prop :=
  H b = none ∧ b ≠ X.env.locals ∧ b ∉ X.fs ∧ (b ∈ X.ex ∨ X.s₀.heap.objs.size ≤ b) ∧ (∀ x c, X.env.cells.lookup x = some c → c ≠ b) ∧ ∀ p ∈ X.pn ++ pins, p.1 ≠ b
theorem Inv.fpOk {X : Cx} {pins : List (Addr × Obj)} {σ : St} {H H' : Hp} {s : Shared} {b : Addr} (I : Inv X pins σ H s) (hb : s.heap.objs.size ≤ b) (hn : H' b = none) : FpOk X pins H' b := by
  refine ⟨hn, Nat.ne_of_gt (Nat.lt_of_lt_of_le I.lt hb), I.nofs hb, .inr (Nat.le_trans I.sz hb), fun x c e z => ?_, fun p hp z => ?_⟩
  · obtain ⟨v, q⟩ := I.cell x c e
    exact absurd (Nat.lt_of_lt_of_le q.lt (by rw [z]; exact hb)) (Nat.lt_irrefl _)
  · exact absurd (Nat.lt_of_lt_of_le (Heap.lt_size (I.pin p hp).1) (by rw [z]; exact hb)) (Nat.lt_irrefl _)
structure Turn (P : Program) (w : World) (K : PySem.W.Frag) (tg : Expr) (J : It) (fp : List Addr) (it : Addr) (tn : Nat → Heap → Prop) : Prop where
  mem : it ∈ fp
  obj : ∀ i h, tn i h → ∀ b ∈ fp, ∃ o, h.get? b = some o ∧ ∀ v, o.data ≠ .cell v
  keep : ∀ i h h', tn i h → (∀ b ∈ fp, ∀ o, h.get? b = some o → h'.get? b = some o) → tn i h'
  item : ∀ (X : Cx), X.prog = P → X.w = w → X.K = K → X.calm = true → ∀ (i : Nat) (pins : List (Addr × Obj)) (s : Shared) (σ : St) (H : Hp) (E : Value → Shared → Prop), Inv X pins σ H s → (∀ b ∈ fp, FpOk X pins H b) → tn i s.heap → J.go i H →
    wpAny (model P w) X.A (pyNext (.ref it)) (fun r s1 => ∃ u, r = some u ∧
      wpAny (model P w) X.A (letOwnedTupleGo tg (.ref it) u) (fun _ s2 => ∃ x H', Inv X pins σ H' s2 ∧ RelV x u ∧ J.yld i H x H' ∧ tn (i + 1) s2.heap ∧ ∀ b ∈ fp, H' b = none) E s1) E s
  done : ∀ (X : Cx), X.prog = P → X.w = w → X.K = K → X.calm = true → ∀ (i : Nat) (pins : List (Addr × Obj)) (s : Shared) (σ : St) (H : Hp) (E : Value → Shared → Prop), Inv X pins σ H s → (∀ b ∈ fp, FpOk X pins H b) → tn i s.heap → J.stop i H →
    wpAny (model P w) X.A (pyNext (.ref it)) (fun r s1 => r = none ∧ Inv X pins σ H s1) E s
  self : ∀ (A : Around) (i : Nat) (s : Shared) (Q : Value → Shared → Prop) (E : Value → Shared → Prop), tn i s.heap → Q (.ref it) s → wpAny (model P w) A (pyIter (.ref it)) Q E s
abbrev TI := St → Hp → (It → Hp → Prop) → Prop
/-- an iterator has come -/
def PIE (X : Cx) (pins : List (Addr × Obj)) (σ : St) (tg : Expr) (R : It → Hp → Prop) (itv : Value) (s2 : Shared) : Prop :=
  ∃ (it : Addr) (fp : List Addr) (tn : Nat → Heap → Prop) (J : It) (H' : Hp), itv = .ref it ∧ Inv X pins σ H' s2 ∧ Turn X.prog X.w X.K tg J fp it tn ∧ tn 0 s2.heap ∧ (∀ b ∈ fp, FpOk X pins H' b) ∧ R J H'
def PI (X : Cx) (tg iter : Expr) (wi : TI) : Prop :=
  ∀ (pins : List (Addr × Obj)) (s : Shared) (σ : St) (H : Hp) (R : It → Hp → Prop), Inv X pins σ H s → wi σ H R →
    wpAny (model X.prog X.w) X.A (eval iter X.env) (fun v s1 => wpAny (model X.prog X.w) X.A (pyIter v) (PIE X pins σ tg R) X.xe s1) X.xe s

/-- the step ahead of the store is nothing for an iterator that keeps no tuple -/
theorem go_of {M : Model} {A : Around} {E : Value → Shared → Prop} {s : Shared} {tg : Expr} {it : Addr} {u : Value} {o : Obj} {n : String} {vs : Array Value} {Q : Unit → Shared → Prop} (ho : s.heap.get? it = some o) (hc : o.cls = .type n) (hd : o.data = .fields vs)
    (hn : ["enumerate", "zip", "dict_itemiterator", "dict_reverseitemiterator", "odict_iterator", "itertools.zip_longest", "itertools.pairwise"].contains n = false) (hQ : Q () s) : wpAny M A (letOwnedTupleGo tg (.ref it) u) Q E s := by
  unfold letOwnedTupleGo
  cases tg <;> first
    | exact wpAny_pure hQ
    | (cases u <;> first
        | exact wpAny_pure hQ
        | (refine wpAny_bind (wpAny_load ho ?_)
           rw [hc, hd]
           show wpAny M A (if (["enumerate", "zip", "dict_itemiterator", "dict_reverseitemiterator", "odict_iterator", "itertools.zip_longest", "itertools.pairwise"].contains n && vs[0]? == some (rawInt _)) = true then _ else _) Q E s
           rw [if_neg (by intro h; rw [hn, Bool.false_and] at h; cases h)]
           exact wpAny_pure hQ))

/-- the list at a, as it stands at each turn (a loop may append to it) -/
def Itl (K : PySem.W.Frag) (a : Addr) : It :=
  ⟨fun i H => ∃ xs x, SqL K H a xs ∧ xs[i]? = some x, fun i H x H' => H' = H ∧ ∀ xs, SqL K H a xs → xs[i]? = some x, fun i H => ∃ xs, SqL K H a xs ∧ xs.length ≤ i⟩
def Itt (K : PySem.W.Frag) (a : Addr) : It :=
  ⟨fun i H => ∃ xs x, SqT K H a xs ∧ xs[i]? = some x, fun i H x H' => H' = H ∧ ∀ xs, SqT K H a xs → xs[i]? = some x, fun i H => ∃ xs, SqT K H a xs ∧ xs.length ≤ i⟩
/-- lo, lo + 1, .. (n of them) -/
def Itr (lo : Int) (n : Nat) : It := ⟨fun i _ => i < n, fun i H x H' => H' = H ∧ x = .int (lo + i), fun i _ => n ≤ i⟩
theorem turn_list {P : Program} {w : World} {K : PySem.W.Frag} {tg : Expr} (a it : Addr) : Turn P w K tg (Itl K a) [it] it (fun i h => h.IsListIter it a i) where
  mem := by simp
  obj := fun i h st b hb => by
    have e : b = it := by simpa using hb
    subst e
    obtain ⟨o, e, c, d⟩ := st
    exact ⟨o, e, fun v z => by rw [d] at z; cases z⟩
  keep := fun i h h' st k => st.at fun o e => k it (by simp) o e
  item := by
    intro X hP hw hK hc i pins s σ H E I hf st hg
    subst hP hw hK
    obtain ⟨xs, x, hq, hx⟩ := hg
    obtain ⟨its, rv, p, hz⟩ := I.list hq
    obtain ⟨u, hu, ru⟩ := rv.get hx
    obtain ⟨f0, f1, f2, f3, f4, f5⟩ := hf it (by simp)
    refine wpAny_pyNext_list_item st p.isList (x := u) (by simpa using hu) fun h' st' sb => ?_
    have I1 : Inv X pins σ H { s with heap := h' } := I.turned (t' := s.toks) (fun b o hb e => (sb.2 b hb).trans e) f0 f1 f3 f4 f5
    obtain ⟨o, e, c, d⟩ := id st'
    exact ⟨u, rfl, go_of (s := { s with heap := h' }) e c d (by decide) ⟨x, H, I1, ru, ⟨rfl, fun ys hy => by rw [I.list_inj hy hq]; exact hx⟩, st', fun b hb => (hf b hb).1⟩⟩
  done := by
    intro X hP hw hK hc i pins s σ H E I hf st hg
    subst hP hw hK
    obtain ⟨xs, hq, hx⟩ := hg
    obtain ⟨its, rv, p, hz⟩ := I.list hq
    obtain ⟨f0, f1, f2, f3, f4, f5⟩ := hf it (by simp)
    have hl := rv.length
    exact wpAny_pyNext_list_end (I.ok.hd hc) st p.isList (by simp; omega) fun h' eb => ⟨rfl, I.turned (t' := s.toks) (fun b o hb e => eb b o hb e) f0 f1 f3 f4 f5⟩
  self := fun _ _ _ _ _ st h => wpAny_pyIter_listiter st h
theorem turn_tuple {P : Program} {w : World} {K : PySem.W.Frag} {tg : Expr} (a it : Addr) : Turn P w K tg (Itt K a) [it] it (fun i h => h.IsTupleIter it a i) where
  mem := by simp
  obj := fun i h st b hb => by
    have e : b = it := by simpa using hb
    subst e
    obtain ⟨o, e, c, d⟩ := st
    exact ⟨o, e, fun v z => by rw [d] at z; cases z⟩
  keep := fun i h h' st k => st.at fun o e => k it (by simp) o e
  item := by
    intro X hP hw hK hc i pins s σ H E I hf st hg
    subst hP hw hK
    obtain ⟨xs, x, hq, hx⟩ := hg
    obtain ⟨its, rv, p, hz⟩ := I.tuple hq
    obtain ⟨u, hu, ru⟩ := rv.get hx
    obtain ⟨f0, f1, f2, f3, f4, f5⟩ := hf it (by simp)
    refine wpAny_pyNext_tuple_item st (show s.heap.IsTuple a its.toArray from p) (x := u) (by simpa using hu) fun h' st' sb => ?_
    have I1 : Inv X pins σ H { s with heap := h' } := I.turned (t' := s.toks) (fun b o hb e => (sb.2 b hb).trans e) f0 f1 f3 f4 f5
    obtain ⟨o, e, c, d⟩ := id st'
    exact ⟨u, rfl, go_of (s := { s with heap := h' }) e c d (by decide) ⟨x, H, I1, ru, ⟨rfl, fun ys hy => by rw [I.tuple_inj hy hq]; exact hx⟩, st', fun b hb => (hf b hb).1⟩⟩
  done := by
    intro X hP hw hK hc i pins s σ H E I hf st hg
    subst hP hw hK
    obtain ⟨xs, hq, hx⟩ := hg
    obtain ⟨its, rv, p, hz⟩ := I.tuple hq
    obtain ⟨f0, f1, f2, f3, f4, f5⟩ := hf it (by simp)
    have hl := rv.length
    exact wpAny_pyNext_tuple_end (I.ok.hd hc) st (show s.heap.IsTuple a its.toArray from p) (by simp; omega) fun h' eb => ⟨rfl, I.turned (t' := s.toks) (fun b o hb e => eb b o hb e) f0 f1 f3 f4 f5⟩
  self := fun _ _ _ _ _ st h => wpAny_pyIter_tupleiter st h
theorem turn_range {P : Program} {w : World} {K : PySem.W.Frag} {tg : Expr} (it : Addr) (lo : Int) (n : Nat) : Turn P w K tg (Itr lo n) [it] it (fun i h => IsRangeIter h it (lo + (i : Nat) * 1) ((n : Int) - (i : Nat)) 1) where
  mem := by simp
  obj := fun i h st b hb => by
    have e : b = it := by simpa using hb
    subst e
    exact ⟨_, st, fun v z => by
      have z' : Data.fields _ = Data.cell v := z
      cases z'⟩
  keep := fun i h h' st k => k it (by simp) _ st
  item := by
    intro X hP hw hK hc i pins s σ H E I hf st hg
    subst hP hw hK
    obtain ⟨f0, f1, f2, f3, f4, f5⟩ := hf it (by simp)
    have W := Walks.range (prog := X.prog) (w := X.w) (I.ok.hd hc) it lo 1 n
    refine W.item i s _ _ hg st fun v h' tk hv st' kk => ?_
    obtain ⟨t, rfl⟩ := hv
    have I1 : Inv X pins σ H { s with heap := h', toks := tk } := I.turned (fun b o hb e => kk b o (by simpa using hb) e) f0 f1 f3 f4 f5
    refine ⟨_, rfl, go_of (s := { s with heap := h', toks := tk }) (n := "range_iterator") st' rfl rfl (by decide) ⟨.int (lo + i), H, I1, ⟨t, ?_⟩, ⟨rfl, rfl⟩, st', fun b hb => (hf b hb).1⟩⟩
    rw [Int.mul_one]
  done := by
    intro X hP hw hK hc i pins s σ H E I hf st hg
    subst hP hw hK
    obtain ⟨f0, f1, f2, f3, f4, f5⟩ := hf it (by simp)
    exact wpAny_pyNext_range_end (I.ok.hd hc) st (by have : n ≤ i := hg; omega) fun h' eb => ⟨rfl, I.turned (t' := s.toks) (fun b o hb e => eb b o hb e) f0 f1 f3 f4 f5⟩
  self := fun _ _ _ _ _ st h => wpAny_pyIter_rangeiter st h
end L2

namespace L2
open PySem PySem.Spec PyProof.Rows
section
variable {X : Cx} {tg : Expr}
def iList (K : PySem.W.Frag) (tl : TE) : TI := fun σ H R => tl σ H fun x H1 => ∃ a, x = .ref a ∧ (∃ xs, SqL K H1 a xs) ∧ R (Itl K a) H1
def iTup (K : PySem.W.Frag) (tl : TE) : TI := fun σ H R => tl σ H fun x H1 => ∃ a, x = .ref a ∧ (∃ xs, SqT K H1 a xs) ∧ R (Itt K a) H1
theorem pi_list {l : Expr} {tl : TE} (hl : PE X l tl) : PI X tg l (iList X.K tl) := by
  intro pins s σ H R I h
  refine thn (hl pins s σ H _ I h) fun v s1 ⟨x, H1, I1, r1, q1⟩ => ?_
  obtain ⟨a, e, ⟨xs, hq⟩, q⟩ := q1
  subst e
  cases r1
  obtain ⟨its, rv, p, hz⟩ := I1.list hq
  refine wpAny_pyIter_list p.isList ?_
  refine ⟨s1.heap.objs.size, [s1.heap.objs.size], _, _, H1, rfl, I1.kept (t' := s1.toks) fun b o e => Heap.get?_push_of_some _ e, turn_list a _, ⟨_, Heap.get?_push_size _ rfl, rfl, rfl⟩, fun b hb => ?_, q⟩
  have e : b = s1.heap.objs.size := by simpa using hb
  subst e
  exact I1.fpOk (Nat.le_refl _) (I1.hok.fresh (Nat.le_refl _))
theorem pi_tup {l : Expr} {tl : TE} (hl : PE X l tl) : PI X tg l (iTup X.K tl) := by
  intro pins s σ H R I h
  refine thn (hl pins s σ H _ I h) fun v s1 ⟨x, H1, I1, r1, q1⟩ => ?_
  obtain ⟨a, e, ⟨xs, hq⟩, q⟩ := q1
  subst e
  cases r1
  obtain ⟨its, rv, p, hz⟩ := I1.tuple hq
  refine wpAny_pyIter_tuple (show s1.heap.IsTuple a its.toArray from p) ?_
  refine ⟨s1.heap.objs.size, [s1.heap.objs.size], _, _, H1, rfl, I1.kept (t' := s1.toks) fun b o e => Heap.get?_push_of_some _ e, turn_tuple a _, ⟨_, Heap.get?_push_size _ rfl, rfl, rfl⟩, fun b hb => ?_, q⟩
  have e : b = s1.heap.objs.size := by simpa using hb
  subst e
  exact I1.fpOk (Nat.le_refl _) (I1.hok.fresh (Nat.le_refl _))
/-- a range object just made, walked -/
theorem range_it {pins : List (Addr × Obj)} {σ : St} {H : Hp} {s : Shared} {R : It → Hp → Prop} {E : Value → Shared → Prop} {lo hi : Int} {t u v : Tok} {tk : Nat} (I : Inv X pins σ H s) (h1 : -(2 ^ 62) ≤ lo) (h2 : lo < 2 ^ 62) (h3 : -(2 ^ 62) ≤ hi) (h4 : hi < 2 ^ 62)
    (q : R (Itr lo (hi - lo).toNat) H) : wpAny (model X.prog X.w) X.A (pyIter (.ref s.heap.objs.size)) (PIE X pins σ tg R) E { s with heap := s.heap.push { cls := .type "range", data := .fields #[.int lo t, .int hi u, .int 1 v] }, toks := tk } := by
  refine wpAny_pyIter_range (IsRange.new ..) (small_one h1 h2 h3 h4) ?_
  have I1 : Inv X pins σ H { s with heap := s.heap.push { cls := .type "range", data := .fields #[.int lo t, .int hi u, .int 1 v] }, toks := tk } := I.kept fun b o e => Heap.get?_push_of_some _ e
  refine ⟨(s.heap.push { cls := .type "range", data := .fields #[.int lo t, .int hi u, .int 1 v] }).objs.size, [(s.heap.push { cls := .type "range", data := .fields #[.int lo t, .int hi u, .int 1 v] }).objs.size], _, _, H, rfl,
    I1.kept (t' := tk) fun b o e => Heap.get?_push_of_some _ e, turn_range _ lo (hi - lo).toNat, ?_, fun b hb => ?_, q⟩
  · have e1 : lo + ((0 : Nat) : Int) * 1 = lo := by simp
    have e2 : (((hi - lo).toNat : Nat) : Int) - ((0 : Nat) : Int) = Builtin.Range.rangeSize lo hi 1 := by rw [rangeSize_one]; split <;> omega
    show IsRangeIter _ _ (lo + ((0 : Nat) : Int) * 1) ((((hi - lo).toNat : Nat) : Int) - ((0 : Nat) : Int)) 1
    rw [e1, e2]
    exact Heap.get?_push_size _ rfl
  · have e : b = (s.heap.push { cls := .type "range", data := .fields #[.int lo t, .int hi u, .int 1 v] }).objs.size := by simpa using hb
    subst e
    exact I1.fpOk (Nat.le_refl _) (I1.hok.fresh (Nat.le_refl _))
def iRng1 (ta : TA) : TI := fun σ H R => ta σ H fun vs H1 => ∃ j : Int, vs = [.int j] ∧ -(2 ^ 62) ≤ j ∧ j < 2 ^ 62 ∧ R (Itr 0 j.toNat) H1
def iRng2 (ta : TA) : TI := fun σ H R => ta σ H fun vs H1 => ∃ i j : Int, vs = [.int i, .int j] ∧ (-(2 ^ 62) ≤ i ∧ i < 2 ^ 62 ∧ -(2 ^ 62) ≤ j ∧ j < 2 ^ 62) ∧ R (Itr i (j - i).toNat) H1
theorem pi_range1 {a : Expr} {ta : TA} {p pos : Pos} (hg : Gl X "range") (hm : X.mg "range" = none) (ha : PA X [a] ta) (hs : starEach [a] X.env = [(false, eval a X.env)] := by rfl) : PI X tg (.Call (.Name "range" p) [a] [] pos) (iRng1 ta) := by
  intro pins s σ H R I h
  refine Call_ (ld_blt I hg hm boot_range (PyProof.Rows.callWith_type1 (thn (ha pos pins s σ H _ I h) fun us s1 ⟨vs, H1, I1, r1, q1⟩ => ?_) hs rfl))
  obtain ⟨j, e, q1, q2, q⟩ := q1
  subst e
  cases r1 with
  | cons r rr =>
    cases rr
    obtain ⟨t, rfl⟩ := r
    exact call_range_1 (range_it I1 (by omega) (by omega) q1 q2 (by simpa using q))
theorem pi_range2 {a b : Expr} {ta : TA} {p pos : Pos} (hg : Gl X "range") (hm : X.mg "range" = none) (ha : PA X [a, b] ta) (hs : starEach [a, b] X.env = [(false, eval a X.env), (false, eval b X.env)] := by rfl) (hs2 : starEach [b] X.env = [(false, eval b X.env)] := by rfl) :
    PI X tg (.Call (.Name "range" p) [a, b] [] pos) (iRng2 ta) := by
  intro pins s σ H R I h
  refine Call_ (ld_blt I hg hm boot_range (PyProof.Rows.callWith_type1 (thn (ha pos pins s σ H _ I h) fun us s1 ⟨vs, H1, I1, r1, q1⟩ => ?_) (by rw [hs, hs2]) (by rw [hs2]; rfl)))
  obtain ⟨i, j, e, ⟨q1, q2, q3, q4⟩, q⟩ := q1
  subst e
  cases r1 with
  | cons r rr =>
    cases rr with
    | cons r' rr =>
      cases rr
      obtain ⟨t, rfl⟩ := r
      obtain ⟨t', rfl⟩ := r'
      exact call_range_2 (range_it I1 q1 q2 q3 q4 q)

/-! ### for -/
/-- W: the invariant by the turn and a measure; N: what the body is to reach -/
def tFor (wi : TI) (g : TG) (tb : TS) : TS := fun D σ H => wi σ H fun J H1 => ∃ W : Nat → Nat → St → Hp → Prop, (∃ m, W 0 m σ H1) ∧ ∀ i m σ H, W i m σ H →
  (J.stop i H ∧ D.nx σ H) ∨ (J.go i H ∧ ∃ N : St → Hp → Prop, (∀ σ' H', N σ' H' → ∃ m', m' < m ∧ W (i + 1) m' σ' H') ∧ ∀ x H', J.yld i H x H' → g x σ H' fun σ2 H2 => tb { D with nx := N, ct := N, bk := D.nx } σ2 H2)
/-- the records at fp as they stand -/
def pinsAt (fp : List Addr) (h : Heap) : List (Addr × Obj) := fp.filterMap fun b => (h.get? b).map fun o => (b, o)
theorem mem_pinsAt {fp : List Addr} {h : Heap} {b : Addr} {o : Obj} (hb : b ∈ fp) (e : h.get? b = some o) : (b, o) ∈ pinsAt fp h := List.mem_filterMap.mpr ⟨b, hb, by rw [e]; rfl⟩
theorem of_pinsAt {fp : List Addr} {h : Heap} {p : Addr × Obj} (hp : p ∈ pinsAt fp h) : p.1 ∈ fp ∧ h.get? p.1 = some p.2 := by
  obtain ⟨b, hb, e⟩ := List.mem_filterMap.mp hp
  cases q : h.get? b with
  | none => rw [q] at e; cases e
  | some o =>
    rw [q] at e
    have e' : (b, o) = p := Option.some.inj e
    subst e'
    exact ⟨hb, q⟩
theorem Inv.pinned {pins : List (Addr × Obj)} {σ : St} {H : Hp} {s : Shared} {fp : List Addr} (I : Inv X pins σ H s) (hf : ∀ b ∈ fp, FpOk X pins H b) (ho : ∀ b ∈ fp, ∃ o, s.heap.get? b = some o ∧ ∀ v, o.data ≠ .cell v) : Inv X (pins ++ pinsAt fp s.heap) σ H s :=
  I.pins_of fun p hp => (List.mem_append.mp hp).elim (fun z => I.pin p (List.mem_append_right _ z)) fun z => by
    obtain ⟨hb, e⟩ := of_pinsAt z
    obtain ⟨f0, f1, f2, _⟩ := hf p.1 hb
    obtain ⟨o, e', d⟩ := ho p.1 hb
    rw [e] at e'; cases e'
    exact ⟨e, f0, f1, f2, d⟩
theorem Inv.unpinned {pins pl : List (Addr × Obj)} {σ : St} {H : Hp} {s : Shared} (I : Inv X (pins ++ pl) σ H s) : Inv X pins σ H s := I.pins_of fun p hp => I.pin p (List.mem_append_right _ (List.mem_append_left _ hp))
theorem ps_for {iter : Expr} {body : List Stmt} {wi : TI} {g : TG} {tb : TS} {pos : Pos} (hp : PassesOwn (model X.prog X.w) X.A X.env X.xe) (hc : X.calm = true) (hi : PI X tg iter wi) (hg : PG X tg g) (hb : PSs X body tb)
    (hs : ∀ x, foldedSetIterable iter X.env x = pure x := by intro _; rfl) : PS X (.For tg iter body [] pos) (tFor wi g tb) := by
  intro pins s σ H D I h
  refine wpAny_For (thn (hi pins s σ H _ I h) fun v s1 h1 => thn h1 fun itv s2 h2 => ?_) hs
  obtain ⟨it, fp, tn, J, H2, e, I2, T, st2, f2, W, ⟨m0, w0⟩, turn⟩ := h2
  subst e
  -- what stays true of the iterator's objects through the loop
  have stat : ∀ {H' : Hp}, (∀ b ∈ fp, H' b = none) → ∀ b ∈ fp, FpOk X pins H' b := fun hn b hb => ⟨hn b hb, (f2 b hb).2⟩
  refine codeAny_forLoop_any (fun n s' => ∃ i σ' H', Inv X pins σ' H' s' ∧ tn i s'.heap ∧ (∀ b ∈ fp, H' b = none) ∧ W i n σ' H') ?_ m0 ⟨0, σ, H2, I2, st2, fun b hb => (f2 b hb).1, w0⟩
  rintro n s3 ⟨i, σ3, H3, I3, st3, fr3, w3⟩
  rcases turn i n σ3 H3 w3 with ⟨stop, qn⟩ | ⟨go, N, hN, step⟩
  · refine wpAny_passesOwn hp (thn (T.done X rfl rfl rfl hc i pins s3 σ3 H3 X.xe I3 (stat fr3) st3 stop) fun r s4 ⟨hr, I4⟩ => ?_)
    subst hr
    exact wpAny_execs_nil ⟨σ3, H3, I4, qn⟩
  · refine wpAny_passesOwn hp (thn (T.item X rfl rfl rfl hc i pins s3 σ3 H3 X.xe I3 (stat fr3) st3 go) fun r s4 ⟨u, hr, h4⟩ => ?_)
    subst hr
    refine wpAny_passesOwn hp (thn h4 fun _ s5 ⟨x, H5, I5, r5, y5, st5, fr5⟩ => ?_)
    have I5' := I5.pinned (stat fr5) (T.obj _ _ st5)
    refine wpAny_passesOwn hp (thn (hg _ s5 σ3 H5 x u _ I5' r5 (step x H5 y5)) fun _ s6 ⟨σ6, H6, I6, q6⟩ => ?_)
    refine wpAny_passesOwn hp (thn (hb _ s6 σ6 H6 _ I6 q6) fun f s7 q7 => ?_)
    have again : ∀ {σ7 : St} {H7 : Hp}, Inv X (pins ++ pinsAt fp s5.heap) σ7 H7 s7 → N σ7 H7 → ∃ m, m < n ∧ ∃ i σ' H', Inv X pins σ' H' s7 ∧ tn i s7.heap ∧ (∀ b ∈ fp, H' b = none) ∧ W i m σ' H' := fun {σ7 H7} I7 n7 => by
      obtain ⟨m', hm, w7⟩ := hN σ7 H7 n7
      refine ⟨m', hm, i + 1, σ7, H7, I7.unpinned, T.keep _ _ _ st5 fun b hb o e => (I7.pin (b, o) (List.mem_append_right _ (List.mem_append_right _ (mem_pinsAt hb e)))).1, fun b hb => ?_, w7⟩
      obtain ⟨o, e, d⟩ := T.obj _ _ st5 b hb
      exact (I7.pin (b, o) (List.mem_append_right _ (List.mem_append_right _ (mem_pinsAt hb e)))).2.1
    cases f with
    | next => obtain ⟨σ7, H7, I7, n7⟩ := q7; exact again I7 n7
    | cont => obtain ⟨σ7, H7, I7, n7⟩ := q7; exact again I7 n7
    | brk => obtain ⟨σ7, H7, I7, q7⟩ := q7; exact ⟨σ7, H7, I7.unpinned, q7⟩
    | ret v => obtain ⟨x7, σ7, H7, I7, r7, q7⟩ := q7; exact ⟨x7, σ7, H7, I7.unpinned, r7, q7⟩
end

/-! ### the forms one uses -/
/-- over a list that the body leaves as it is -/
theorem for_list {K : PySem.W.Frag} {a : Addr} {xs : List V} {g : TG} {tb : TS} {D : Ends} {σ : St} {H : Hp} (Pv : Nat → St → Hp → Prop) (h0 : Pv 0 σ H) (hl : ∀ i σ H, i ≤ xs.length → Pv i σ H → SqL K H a xs)
    (hs : ∀ i x σ H, xs[i]? = some x → Pv i σ H → g x σ H fun σ2 H2 => tb { D with nx := Pv (i + 1), ct := Pv (i + 1), bk := D.nx } σ2 H2) (hd : ∀ σ H, Pv xs.length σ H → D.nx σ H) :
    ∃ W : Nat → Nat → St → Hp → Prop, (∃ m, W 0 m σ H) ∧ ∀ i m σ H, W i m σ H →
      ((Itl K a).stop i H ∧ D.nx σ H) ∨ ((Itl K a).go i H ∧ ∃ N : St → Hp → Prop, (∀ σ' H', N σ' H' → ∃ m', m' < m ∧ W (i + 1) m' σ' H') ∧ ∀ x H', (Itl K a).yld i H x H' → g x σ H' fun σ2 H2 => tb { D with nx := N, ct := N, bk := D.nx } σ2 H2) := by
  refine ⟨fun i m σ H => m = xs.length - i ∧ i ≤ xs.length ∧ Pv i σ H, ⟨xs.length, by simp, Nat.zero_le _, h0⟩, ?_⟩
  rintro i m σ H ⟨rfl, hi, p⟩
  have q := hl i σ H hi p
  by_cases hlt : i < xs.length
  · refine .inr ⟨⟨xs, xs[i], q, by simp [hlt]⟩, Pv (i + 1), fun σ' H' p' => ⟨xs.length - (i + 1), by omega, rfl, hlt, p'⟩, fun x H' y => ?_⟩
    obtain ⟨e, y⟩ := y
    subst e
    exact hs i x σ _ (y xs q) p
  · have e : i = xs.length := by omega
    subst e
    exact .inl ⟨⟨xs, q, Nat.le_refl _⟩, hd σ H p⟩
theorem for_tup {K : PySem.W.Frag} {a : Addr} {xs : List V} {g : TG} {tb : TS} {D : Ends} {σ : St} {H : Hp} (Pv : Nat → St → Hp → Prop) (h0 : Pv 0 σ H) (hl : ∀ i σ H, i ≤ xs.length → Pv i σ H → SqT K H a xs)
    (hs : ∀ i x σ H, xs[i]? = some x → Pv i σ H → g x σ H fun σ2 H2 => tb { D with nx := Pv (i + 1), ct := Pv (i + 1), bk := D.nx } σ2 H2) (hd : ∀ σ H, Pv xs.length σ H → D.nx σ H) :
    ∃ W : Nat → Nat → St → Hp → Prop, (∃ m, W 0 m σ H) ∧ ∀ i m σ H, W i m σ H →
      ((Itt K a).stop i H ∧ D.nx σ H) ∨ ((Itt K a).go i H ∧ ∃ N : St → Hp → Prop, (∀ σ' H', N σ' H' → ∃ m', m' < m ∧ W (i + 1) m' σ' H') ∧ ∀ x H', (Itt K a).yld i H x H' → g x σ H' fun σ2 H2 => tb { D with nx := N, ct := N, bk := D.nx } σ2 H2) := by
  refine ⟨fun i m σ H => m = xs.length - i ∧ i ≤ xs.length ∧ Pv i σ H, ⟨xs.length, by simp, Nat.zero_le _, h0⟩, ?_⟩
  rintro i m σ H ⟨rfl, hi, p⟩
  have q := hl i σ H hi p
  by_cases hlt : i < xs.length
  · refine .inr ⟨⟨xs, xs[i], q, by simp [hlt]⟩, Pv (i + 1), fun σ' H' p' => ⟨xs.length - (i + 1), by omega, rfl, hlt, p'⟩, fun x H' y => ?_⟩
    obtain ⟨e, y⟩ := y
    subst e
    exact hs i x σ _ (y xs q) p
  · have e : i = xs.length := by omega
    subst e
    exact .inl ⟨⟨xs, q, Nat.le_refl _⟩, hd σ H p⟩
theorem for_range {lo : Int} {n : Nat} {g : TG} {tb : TS} {D : Ends} {σ : St} {H : Hp} (Pv : Nat → St → Hp → Prop) (h0 : Pv 0 σ H)
    (hs : ∀ i σ H, i < n → Pv i σ H → g (.int (lo + i)) σ H fun σ2 H2 => tb { D with nx := Pv (i + 1), ct := Pv (i + 1), bk := D.nx } σ2 H2) (hd : ∀ σ H, Pv n σ H → D.nx σ H) :
    ∃ W : Nat → Nat → St → Hp → Prop, (∃ m, W 0 m σ H) ∧ ∀ i m σ H, W i m σ H →
      ((Itr lo n).stop i H ∧ D.nx σ H) ∨ ((Itr lo n).go i H ∧ ∃ N : St → Hp → Prop, (∀ σ' H', N σ' H' → ∃ m', m' < m ∧ W (i + 1) m' σ' H') ∧ ∀ x H', (Itr lo n).yld i H x H' → g x σ H' fun σ2 H2 => tb { D with nx := N, ct := N, bk := D.nx } σ2 H2) := by
  refine ⟨fun i m σ H => m = n - i ∧ i ≤ n ∧ Pv i σ H, ⟨n, by simp, Nat.zero_le _, h0⟩, ?_⟩
  rintro i m σ H ⟨rfl, hi, p⟩
  by_cases hlt : i < n
  · refine .inr ⟨hlt, Pv (i + 1), fun σ' H' p' => ⟨n - (i + 1), by omega, rfl, hlt, p'⟩, fun x H' y => ?_⟩
    obtain ⟨e, y⟩ := y
    subst e y
    exact hs i σ _ hlt p
  · have e : i = n := by omega
    subst e
    exact .inl ⟨Nat.le_refl _, hd σ H p⟩
/-- while, by a word and a measure of the state -/
theorem while_by {c : TT} {tb : TS} {D : Ends} {σ : St} {H : Hp} (Pv : St → Hp → Prop) (μ : St → Hp → Nat) (h0 : Pv σ H)
    (hs : ∀ σ H, Pv σ H → c σ H fun b H1 => if b = true then tb { D with nx := fun σ' H' => Pv σ' H' ∧ μ σ' H' < μ σ H, ct := fun σ' H' => Pv σ' H' ∧ μ σ' H' < μ σ H, bk := D.nx } σ H1 else D.nx σ H1)
    (mono : ∀ σ H Q Q', (∀ b H1, Q b H1 → Q' b H1) → c σ H Q → c σ H Q') : tWhile c tb D σ H := by
  refine ⟨fun m σ H => m = μ σ H ∧ Pv σ H, ⟨_, rfl, h0⟩, ?_⟩
  rintro m σ H ⟨rfl, p⟩
  refine mono σ H _ _ (fun b H1 q => ?_) (hs σ H p)
  cases b with
  | true => exact ⟨_, fun σ' H' ⟨p', l⟩ => ⟨_, l, rfl, p'⟩, q⟩
  | false => exact q
end L2

namespace L2
open PySem PySem.Spec PyProof.Rows

abbrev R2 := V → V → Hp → VK → Prop
/-- a two-place operation on values: f is binaryOp op, inplaceOp op or compareOp op -/
def OpR (X : Cx) (f : Value → Value → Sem Value) (r : R2) : Prop :=
  ∀ (pins : List (Addr × Obj)) (s : Shared) (σ : St) (H : Hp) (x y : V) (v u : Value) (Q : VK), Inv X pins σ H s → RelV x v → RelV y u → r x y H Q →
    wpAny (model X.prog X.w) X.A (f v u) (EP X pins σ Q) X.xe s
/-- a one-place operation -/
def UnR (X : Cx) (f : Value → Sem Value) (r : V → Hp → VK → Prop) : Prop :=
  ∀ (pins : List (Addr × Obj)) (s : Shared) (σ : St) (H : Hp) (x : V) (v : Value) (Q : VK), Inv X pins σ H s → RelV x v → r x H Q →
    wpAny (model X.prog X.w) X.A (f v) (EP X pins σ Q) X.xe s
/-- a call of a value that is known (a builtin, a type) with values -/
def CallR (X : Cx) (f : Value) (r : List V → Hp → VK → Prop) : Prop :=
  ∀ (pins : List (Addr × Obj)) (s : Shared) (σ : St) (H : Hp) (xs : List V) (us : List Value) (Q : VK), Inv X pins σ H s → Vals xs us → r xs H Q →
    wpAny (model X.prog X.w) X.A (call f us) (EP X pins σ Q) X.xe s
/-- a value's truth -/
def TruR (X : Cx) (r : V → Hp → (Bool → Hp → Prop) → Prop) : Prop :=
  ∀ (pins : List (Addr × Obj)) (s : Shared) (σ : St) (H : Hp) (x : V) (v : Value) (Q : Bool → Hp → Prop), Inv X pins σ H s → RelV x v → r x H Q →
    wpAny (model X.prog X.w) X.A (truthy v) (TP X pins σ Q) X.xe s

def tOp (r : R2) (ta tb : TE) : TE := fun σ H Q => ta σ H fun x H1 => tb σ H1 fun y H2 => r x y H2 Q
def tUn (r : V → Hp → VK → Prop) (ta : TE) : TE := fun σ H Q => ta σ H fun x H1 => r x H1 Q
/-- ints in, under C, and a value out -/
def rI (C : Int → Int → Prop) (g : Int → Int → V) : R2 := fun x y H Q => ∃ i j, x = .int i ∧ y = .int j ∧ C i j ∧ Q (g i j) H
def rI0 (g : Int → Int → V) : R2 := fun x y H Q => ∃ i j, x = .int i ∧ y = .int j ∧ Q (g i j) H
def rU (g : Int → V) : V → Hp → VK → Prop := fun x H Q => ∃ i, x = .int i ∧ Q (g i) H

section
variable {X : Cx} {a b c : Expr} {ta tb tc : TE} {pos : Pos}

theorem binT (ha : PE X a ta) (hb : PE X b tb) {pins : List (Addr × Obj)} {s : Shared} {σ : St} {H : Hp} {R : V → V → Hp → Prop} (I : Inv X pins σ H s)
    (h : ta σ H fun x H1 => tb σ H1 fun y H2 => R x y H2) {Q : Value → Shared → Prop} {f : Value → Value → Sem Value}
    (hf : ∀ v u s2 x y H2, Inv X pins σ H2 s2 → RelV x v → RelV y u → R x y H2 → wpAny (model X.prog X.w) X.A (f v u) Q X.xe s2) :
    wpAny (model X.prog X.w) X.A (eval a X.env) (fun v s₁ => wpAny (model X.prog X.w) X.A (eval b X.env) (fun u s₂ => wpAny (model X.prog X.w) X.A (f v u) Q X.xe s₂) X.xe s₁) X.xe s := by
  refine thn (ha pins s σ H _ I h) fun v s1 ⟨x, H1, I1, r1, q1⟩ => ?_
  refine thn (hb pins s1 σ H1 _ I1 q1) fun u s2 ⟨y, H2, I2, r2, q2⟩ => ?_
  exact hf v u s2 x y H2 I2 r1 r2 q2

theorem pe_op {op : Operator} {r : R2} (ho : OpR X (binaryOp op) r) (ha : PE X a ta) (hb : PE X b tb) : PE X (.BinOp a op b pos) (tOp r ta tb) := by
  intro pins s σ H Q I h
  exact wpAny_BinOp (binT ha hb I h fun v u s2 x y H2 I2 rx ry q => ho pins s2 σ H2 x y v u Q I2 rx ry q)
theorem pe_un {op : UnaryOp} {r : V → Hp → VK → Prop} (ho : UnR X (unaryOp op) r) (ha : PE X a ta) : PE X (.UnaryOp op a pos) (tUn r ta) := by
  intro pins s σ H Q I h
  exact UnaryOp_ (thn (ha pins s σ H _ I h) fun v s1 ⟨x, H1, I1, r1, q1⟩ => ho pins s1 σ H1 x v Q I1 r1 q1)
/-- a op= e at a name: the name's slot i -/
theorem augR {op : Operator} {r : R2} (ho : OpR X (inplaceOp op) r) {pins : List (Addr × Obj)} {s : Shared} {σ : St} {H : Hp} {x y : V} {v u : Value} {Q : VK} (I : Inv X pins σ H s)
    (rx : RelV x v) (ry : RelV y u) (q : r x y H Q) : wpAny (model X.prog X.w) X.A (inplaceOp op v u) (EP X pins σ Q) X.xe s := ho pins s σ H x y v u Q I rx ry q

/-! ### ints -/
theorem opI {f : Value → Value → Sem Value} {C : Int → Int → Prop} {g : Int → Int → Int}
    (rule : ∀ (i j : Int) (t u : Tok) (s : Shared) (Q : Value → Shared → Prop) (E : Value → Shared → Prop), C i j → Q (.int (g i j) s.toks) { s with toks := s.toks + 1 } → wpAny (model X.prog X.w) X.A (f (.int i t) (.int j u)) Q E s) :
    OpR X f (rI C fun i j => .int (g i j)) := by
  intro pins s σ H x y v u Q I rx ry h
  obtain ⟨i, j, rfl, rfl, hc, q⟩ := h
  obtain ⟨t, rfl⟩ := rx
  obtain ⟨t', rfl⟩ := ry
  exact rule i j t t' s _ _ hc ⟨.int (g i j), H, I.tok _, ⟨_, rfl⟩, q⟩
theorem opI0 {f : Value → Value → Sem Value} {g : Int → Int → Int}
    (rule : ∀ (i j : Int) (t u : Tok) (s : Shared) (Q : Value → Shared → Prop) (E : Value → Shared → Prop), Q (.int (g i j) s.toks) { s with toks := s.toks + 1 } → wpAny (model X.prog X.w) X.A (f (.int i t) (.int j u)) Q E s) :
    OpR X f (rI0 fun i j => .int (g i j)) := by
  intro pins s σ H x y v u Q I rx ry h
  obtain ⟨i, j, rfl, rfl, q⟩ := h
  obtain ⟨t, rfl⟩ := rx
  obtain ⟨t', rfl⟩ := ry
  exact rule i j t t' s _ _ ⟨.int (g i j), H, I.tok _, ⟨_, rfl⟩, q⟩
theorem opB0 {f : Value → Value → Sem Value} {g : Int → Int → Bool}
    (rule : ∀ (i j : Int) (t u : Tok) (s : Shared) (Q : Value → Shared → Prop) (E : Value → Shared → Prop), Q (.bool (g i j)) s → wpAny (model X.prog X.w) X.A (f (.int i t) (.int j u)) Q E s) :
    OpR X f (rI0 fun i j => .bl (g i j)) := by
  intro pins s σ H x y v u Q I rx ry h
  obtain ⟨i, j, rfl, rfl, q⟩ := h
  obtain ⟨t, rfl⟩ := rx
  obtain ⟨t', rfl⟩ := ry
  exact rule i j t t' s _ _ ⟨.bl (g i j), H, I, rfl, q⟩

def CDiv (i j : Int) : Prop := 0 < j ∧ j < 1073741824
def CDivN (i j : Int) : Prop := j ≠ 0 ∧ j.natAbs < 1073741824
def CPow (i j : Int) : Prop := 0 ≤ j ∧ j ≤ 1000000 ∧ i.natAbs < 2 ^ 64
def CMul (i j : Int) : Prop := (-(2 ^ 64) < i ∧ i < 2 ^ 64) ∨ (-(2 ^ 64) < j ∧ j < 2 ^ 64)
theorem CMul.ok {i j : Int} (h : CMul i j) : IntMulOk i j := by
  rcases h with ⟨h1, h2⟩ | ⟨h1, h2⟩
  · exact .of_left (intBits_le_64 h1 h2)
  · exact .of_right (intBits_le_64 h1 h2)
theorem two_pow_nn (k : Nat) : (0 : Int) ≤ 2 ^ k := by
  rw [two_pow_cast]
  exact Int.natCast_nonneg _

theorem op_add : OpR X (binaryOp .Add) (rI0 fun i j => .int (i + j)) := opI0 fun _ _ _ _ _ _ _ q => add_int q
theorem op_sub : OpR X (binaryOp .Sub) (rI0 fun i j => .int (i - j)) := opI0 fun _ _ _ _ _ _ _ q => sub_int q
theorem op_mul : OpR X (binaryOp .Mult) (rI CMul fun i j => .int (i * j)) := opI fun _ _ _ _ _ _ _ hc q => mul_int q hc.ok
/-- // by a positive divisor -/
theorem op_fdiv : OpR X (binaryOp .FloorDiv) (rI CDiv fun i j => .int (i / j)) := opI fun i j _ _ _ _ _ hc q => by
  have h1 : (0 : Int) < j := hc.1
  have h2 : j < 1073741824 := hc.2
  exact floordiv_int (by omega) (by rw [Int.fdiv_eq_ediv_of_nonneg i (by omega)]; exact q) (.inl (PyProof.noPylong_small (by omega)))
theorem op_fdivN : OpR X (binaryOp .FloorDiv) (rI CDivN fun i j => .int (i.fdiv j)) := opI fun _ _ _ _ _ _ _ hc q => floordiv_int hc.1 q (.inl (PyProof.noPylong_small hc.2))
/-- % by a positive divisor of any size -/
theorem op_mod : OpR X (binaryOp .Mod) (rI (fun _ j => 0 < j) fun i j => .int (i % j)) := opI fun i j _ _ _ _ _ hc q => by
  have h1 : (0 : Int) < j := hc
  exact mod_int' (by omega) (by rw [Int.fmod_eq_emod_of_nonneg i (by omega)]; exact q)
theorem op_modN : OpR X (binaryOp .Mod) (rI (fun _ j => j ≠ 0) fun i j => .int (i.fmod j)) := opI fun _ _ _ _ _ _ _ hc q => mod_int' hc q
theorem op_pow : OpR X (binaryOp .Pow) (rI CPow fun i j => .int (i ^ j.toNat)) := opI fun _ _ _ _ _ _ _ hc q => pow_int_small hc.1 hc.2.1 hc.2.2 q
theorem op_shl : OpR X (binaryOp .LShift) (rI CPow fun i j => .int (i * 2 ^ j.toNat)) := opI fun _ _ _ _ _ _ _ hc q => lshift_int_small hc.1 hc.2.1 hc.2.2 q
theorem op_shr : OpR X (binaryOp .RShift) (rI (fun _ j => 0 ≤ j) fun i j => .int (i / 2 ^ j.toNat)) := opI fun i j _ _ _ _ _ hc q =>
  rshift_int hc (by rw [Int.fdiv_eq_ediv_of_nonneg i (two_pow_nn _)]; exact q)
theorem op_and : OpR X (binaryOp .BitAnd) (rI0 fun i j => .int (Builtin.bitAnd i j)) := opI0 fun _ _ _ _ _ _ _ q => and_int q
theorem op_or : OpR X (binaryOp .BitOr) (rI0 fun i j => .int (Builtin.bitOr i j)) := opI0 fun _ _ _ _ _ _ _ q => or_int q
theorem op_xor : OpR X (binaryOp .BitXor) (rI0 fun i j => .int (Builtin.bitXor i j)) := opI0 fun _ _ _ _ _ _ _ q => xor_int q

theorem iop_add : OpR X (inplaceOp .Add) (rI0 fun i j => .int (i + j)) := opI0 fun _ _ _ _ _ _ _ q => iadd_int q
theorem iop_sub : OpR X (inplaceOp .Sub) (rI0 fun i j => .int (i - j)) := opI0 fun _ _ _ _ _ _ _ q => isub_int q
theorem iop_mul : OpR X (inplaceOp .Mult) (rI CMul fun i j => .int (i * j)) := opI fun _ _ _ _ _ _ _ hc q => imul_int q hc.ok
theorem iop_fdiv : OpR X (inplaceOp .FloorDiv) (rI CDiv fun i j => .int (i / j)) := opI fun i j _ _ _ _ _ hc q => by
  have h1 : (0 : Int) < j := hc.1
  have h2 : j < 1073741824 := hc.2
  exact ifloordiv_int (by omega) (by rw [Int.fdiv_eq_ediv_of_nonneg i (by omega)]; exact q) (.inl (PyProof.noPylong_small (by omega)))
theorem iop_mod : OpR X (inplaceOp .Mod) (rI (fun _ j => 0 < j) fun i j => .int (i % j)) := opI fun i j _ _ _ _ _ hc q => by
  have h1 : (0 : Int) < j := hc
  exact imod_int (by omega) (by rw [Int.fmod_eq_emod_of_nonneg i (by omega)]; exact q)
theorem iop_shl : OpR X (inplaceOp .LShift) (rI CPow fun i j => .int (i * 2 ^ j.toNat)) := opI fun _ _ _ _ _ _ _ hc q => ilshift_int_small hc.1 hc.2.1 hc.2.2 q
theorem iop_shr : OpR X (inplaceOp .RShift) (rI (fun _ j => 0 ≤ j) fun i j => .int (i / 2 ^ j.toNat)) := opI fun i j _ _ _ _ _ hc q =>
  irshift_int hc (by rw [Int.fdiv_eq_ediv_of_nonneg i (two_pow_nn _)]; exact q)
theorem iop_and : OpR X (inplaceOp .BitAnd) (rI0 fun i j => .int (Builtin.bitAnd i j)) := opI0 fun _ _ _ _ _ _ _ q => iand_int q
theorem iop_or : OpR X (inplaceOp .BitOr) (rI0 fun i j => .int (Builtin.bitOr i j)) := opI0 fun _ _ _ _ _ _ _ q => ior_int q
theorem iop_xor : OpR X (inplaceOp .BitXor) (rI0 fun i j => .int (Builtin.bitXor i j)) := opI0 fun _ _ _ _ _ _ _ q => ixor_int q

theorem unI {f : Value → Sem Value} {g : Int → Int}
    (rule : ∀ (i : Int) (t : Tok) (s : Shared) (Q : Value → Shared → Prop) (E : Value → Shared → Prop), Q (.int (g i) s.toks) { s with toks := s.toks + 1 } → wpAny (model X.prog X.w) X.A (f (.int i t)) Q E s) :
    UnR X f (rU fun i => .int (g i)) := by
  intro pins s σ H x v Q I rx h
  obtain ⟨i, rfl, q⟩ := h
  obtain ⟨t, rfl⟩ := rx
  exact rule i t s _ _ ⟨.int (g i), H, I.tok _, ⟨_, rfl⟩, q⟩
theorem un_neg : UnR X (unaryOp .USub) (rU fun i => .int (-i)) := unI fun _ _ _ _ _ q => neg_int q
theorem un_inv : UnR X (unaryOp .Invert) (rU fun i => .int (Builtin.bitNot i)) := unI fun _ _ _ _ _ q => invert_int q

/-! ### bools among ints: n += (a < b) -/
theorem op_add_ib : OpR X (binaryOp .Add) (fun x y H Q => ∃ i k, x = .int i ∧ y = .bl k ∧ Q (.int (i + b2i k)) H) := by
  intro pins s σ H x y v u Q I rx ry h
  obtain ⟨i, k, rfl, rfl, q⟩ := h
  obtain ⟨t, rfl⟩ := rx
  cases ry
  exact add_int_bool ⟨.int (i + b2i k), H, I.tok _, ⟨_, rfl⟩, q⟩
end

/-! ### comparisons -/
/-- the scalars that == tells apart as data does -/
def scal : V → V → Bool
  | .non, .non => true | .non, .int _ => true | .int _, .non => true | .non, .bl _ => true | .bl _, .non => true | .non, .str _ => true | .str _, .non => true
  | .int _, .int _ => true | .bl _, .bl _ => true | .str _, .str _ => true | .byt _, .byt _ => true
  | .int _, .str _ => true | .str _, .int _ => true | .bl _, .str _ => true | .str _, .bl _ => true
  | _, _ => false
def rEq : R2 := fun x y H Q => scal x y = true ∧ Q (.bl (decide (x = y))) H
def rNe : R2 := fun x y H Q => scal x y = true ∧ Q (.bl (!decide (x = y))) H

theorem dec_int {i j : Int} : decide (V.int i = V.int j) = (i == j) := by
  rw [Bool.eq_iff_iff]
  simp
theorem dec_bl {i j : Bool} : decide (V.bl i = V.bl j) = (i == j) := by
  rw [Bool.eq_iff_iff]
  simp
theorem dec_str {i j : Str} : decide (V.str i = V.str j) = (i == j) := by
  rw [Bool.eq_iff_iff]
  simp
theorem dec_byt {i j : Array UInt8} : decide (V.byt i = V.byt j) = (i.toList == j.toList) := by
  rw [Bool.eq_iff_iff]
  cases i
  cases j
  simp

section
variable {X : Cx} {a b c : Expr} {ta tb tc : TE} {pos : Pos}
theorem fin_bl {pins : List (Addr × Obj)} {σ : St} {H : Hp} {s : Shared} {Q : VK} {k k' : Bool} (I : Inv X pins σ H s) (q : Q (.bl k) H) (e : k = k') : EP X pins σ Q (.bool k') s := by
  subst e
  exact ⟨.bl k, H, I, rfl, q⟩
theorem op_eq : OpR X (compareOp .Eq) rEq := by
  intro pins s σ H x y v u Q I rx ry h
  obtain ⟨hs, q⟩ := h
  cases x with
  | non =>
    cases rx
    cases y with
    | non => cases ry; exact PySem.EqNone.eq_none_none (fin_bl I q (by simp))
    | bl j => cases ry; exact PySem.EqNone.eq_none_bool (fin_bl I q (by simp))
    | int j => obtain ⟨t', rfl⟩ := ry; exact PySem.EqNone.eq_none_int (fin_bl I q (by simp))
    | str j => obtain ⟨t', rfl⟩ := ry; exact PySem.EqNone.eq_none_str (fin_bl I q (by simp))
    | _ => exact absurd (show false = true from hs) Bool.false_ne_true
  | bl i =>
    cases rx
    cases y with
    | non => cases ry; exact PySem.EqNone.eq_bool_none (fin_bl I q (by simp))
    | bl j => cases ry; exact eq_bool (fin_bl I q dec_bl)
    | str j => obtain ⟨t', rfl⟩ := ry; exact PySem.EqMixed.eq_bool_str (fin_bl I q (by simp))
    | _ => exact absurd (show false = true from hs) Bool.false_ne_true
  | int i =>
    obtain ⟨t, rfl⟩ := rx
    cases y with
    | non => cases ry; exact PySem.EqNone.eq_int_none (fin_bl I q (by simp))
    | int j => obtain ⟨t', rfl⟩ := ry; exact eq_int (fin_bl I q dec_int)
    | str j => obtain ⟨t', rfl⟩ := ry; exact PySem.EqMixed.eq_int_str (fin_bl I q (by simp))
    | _ => exact absurd (show false = true from hs) Bool.false_ne_true
  | str i =>
    obtain ⟨t, rfl⟩ := rx
    cases y with
    | non => cases ry; exact PySem.EqNone.eq_str_none (fin_bl I q (by simp))
    | bl j => cases ry; exact PySem.EqMixed.eq_str_bool (fin_bl I q (by simp))
    | int j => obtain ⟨t', rfl⟩ := ry; exact PySem.EqMixed.eq_str_int (fin_bl I q (by simp))
    | str j => obtain ⟨t', rfl⟩ := ry; exact eq_str (fin_bl I q dec_str)
    | _ => exact absurd (show false = true from hs) Bool.false_ne_true
  | byt i =>
    obtain ⟨t, rfl⟩ := rx
    cases y with
    | byt j => obtain ⟨t', rfl⟩ := ry; exact PySem.W.eq_bytes (fin_bl I q dec_byt)
    | _ => exact absurd (show false = true from hs) Bool.false_ne_true
  | _ => cases y <;> exact absurd (show false = true from hs) Bool.false_ne_true
theorem op_ne : OpR X (compareOp .NotEq) rNe := by
  intro pins s σ H x y v u Q I rx ry h
  obtain ⟨hs, q⟩ := h
  cases x with
  | non =>
    cases rx
    cases y with
    | non => cases ry; exact PySem.EqNone.ne_none_none (fin_bl I q (by simp))
    | bl j => cases ry; exact PySem.EqNone.ne_none_bool (fin_bl I q (by simp))
    | int j => obtain ⟨t', rfl⟩ := ry; exact PySem.EqNone.ne_none_int (fin_bl I q (by simp))
    | str j => obtain ⟨t', rfl⟩ := ry; exact PySem.EqNone.ne_none_str (fin_bl I q (by simp))
    | _ => exact absurd (show false = true from hs) Bool.false_ne_true
  | bl i =>
    cases rx
    cases y with
    | non => cases ry; exact PySem.EqNone.ne_bool_none (fin_bl I q (by simp))
    | bl j => cases ry; exact ne_bool (fin_bl I q (congrArg not dec_bl))
    | str j => obtain ⟨t', rfl⟩ := ry; exact PySem.EqMixed.ne_bool_str (fin_bl I q (by simp))
    | _ => exact absurd (show false = true from hs) Bool.false_ne_true
  | int i =>
    obtain ⟨t, rfl⟩ := rx
    cases y with
    | non => cases ry; exact PySem.EqNone.ne_int_none (fin_bl I q (by simp))
    | int j => obtain ⟨t', rfl⟩ := ry; exact ne_int (fin_bl I q (congrArg not dec_int))
    | str j => obtain ⟨t', rfl⟩ := ry; exact PySem.EqMixed.ne_int_str (fin_bl I q (by simp))
    | _ => exact absurd (show false = true from hs) Bool.false_ne_true
  | str i =>
    obtain ⟨t, rfl⟩ := rx
    cases y with
    | non => cases ry; exact PySem.EqNone.ne_str_none (fin_bl I q (by simp))
    | bl j => cases ry; exact PySem.EqMixed.ne_str_bool (fin_bl I q (by simp))
    | int j => obtain ⟨t', rfl⟩ := ry; exact PySem.EqMixed.ne_str_int (fin_bl I q (by simp))
    | str j => obtain ⟨t', rfl⟩ := ry; exact ne_str (fin_bl I q (congrArg not dec_str))
    | _ => exact absurd (show false = true from hs) Bool.false_ne_true
  | byt i =>
    obtain ⟨t, rfl⟩ := rx
    cases y with
    | byt j => obtain ⟨t', rfl⟩ := ry; exact PySem.W.ne_bytes (fin_bl I q (congrArg not dec_byt))
    | _ => exact absurd (show false = true from hs) Bool.false_ne_true
  | _ => cases y <;> exact absurd (show false = true from hs) Bool.false_ne_true

theorem op_lt : OpR X (compareOp .Lt) (rI0 fun i j => .bl (decide (i < j))) := opB0 fun _ _ _ _ _ _ _ q => lt_int q
theorem op_le : OpR X (compareOp .LtE) (rI0 fun i j => .bl (decide (i ≤ j))) := opB0 fun _ _ _ _ _ _ _ q => le_int q
theorem op_gt : OpR X (compareOp .Gt) (rI0 fun i j => .bl (decide (j < i))) := opB0 fun _ _ _ _ _ _ _ q => gt_int q
theorem op_ge : OpR X (compareOp .GtE) (rI0 fun i j => .bl (decide (j ≤ i))) := opB0 fun _ _ _ _ _ _ _ q => ge_int q
theorem op_lt_str : OpR X (compareOp .Lt) (fun x y H Q => ∃ i j, x = .str i ∧ y = .str j ∧ Q (.bl (decide (i.cps.toList < j.cps.toList))) H) := by
  intro pins s σ H x y v u Q I rx ry h
  obtain ⟨i, j, rfl, rfl, q⟩ := h
  obtain ⟨t, rfl⟩ := rx
  obtain ⟨t', rfl⟩ := ry
  exact lt_str (fin_bl I q rfl)
/-- the one string within the other -/
theorem op_in_str : OpR X (compareOp .In) (fun x y H Q => ∃ i j, x = .str i ∧ y = .str j ∧ Q (.bl (!(Builtin.Str.occurrences j i 0 j.length 1).isEmpty)) H) := by
  intro pins s σ H x y v u Q I rx ry h
  obtain ⟨i, j, rfl, rfl, q⟩ := h
  obtain ⟨t, rfl⟩ := rx
  obtain ⟨t', rfl⟩ := ry
  exact in_str (fin_bl I q rfl)

/-- is None, is not None: the right side a value none -/
theorem op_isN : OpR X (compareOp .Is) (fun x y H Q => y = .non ∧ Q (.bl (decide (x = .non))) H) := by
  intro pins s σ H x y v u Q I rx ry h
  obtain ⟨rfl, q⟩ := h
  cases ry
  refine is_none_gen (fin_bl I q ?_)
  cases x <;> first
    | (cases rx; rfl)
    | (obtain ⟨t, rfl⟩ := rx; rfl)
theorem op_notN : OpR X (compareOp .IsNot) (fun x y H Q => y = .non ∧ Q (.bl (!decide (x = .non))) H) := by
  intro pins s σ H x y v u Q I rx ry h
  obtain ⟨rfl, q⟩ := h
  cases ry
  refine isnot_none_gen (fin_bl I q ?_)
  cases x <;> first
    | (cases rx; rfl)
    | (obtain ⟨t, rfl⟩ := rx; rfl)

theorem op_notin_str : OpR X (compareOp .NotIn) (fun x y H Q => ∃ i j, x = .str i ∧ y = .str j ∧ Q (.bl (!(!(Builtin.Str.occurrences j i 0 j.length 1).isEmpty))) H) := by
  intro pins s σ H x y v u Q I rx ry h
  obtain ⟨i, j, rfl, rfl, q⟩ := h
  obtain ⟨t, rfl⟩ := rx
  obtain ⟨t', rfl⟩ := ry
  exact notIn_str (fin_bl I q rfl)
/-- is, is not of two objects that are tracked lists or instances -/
def isObj : HO → Bool
  | .lst _ => true
  | .ins _ _ _ => true
  | _ => false
theorem obj_there {pins : List (Addr × Obj)} {s : Shared} {σ : St} {H : Hp} {a : Addr} {o : HO} (I : Inv X pins σ H s) (h : H a = some o) (p : isObj o = true) : ∃ ob, s.heap.get? a = some ob ∧ ob.cls ≠ .type "tuple" := by
  cases o with
  | lst xs =>
    obtain ⟨_, its, n, _, e⟩ : xs.length ≤ sizeLine ∧ ∃ (its : List Value) (n : Nat), Vals xs its ∧ s.heap.get? a = some { cls := .type "list", data := .seq its.toArray n } := I.hok a _ h
    exact ⟨_, e, (by show Value.type "list" ≠ .type "tuple"; decide +kernel)⟩
  | ins C dx fs =>
    have x := I.hok a _ h
    obtain ⟨_, _, _, e, _⟩ := x
    exact ⟨_, e, (by show Value.ref C ≠ .type "tuple"; exact fun z => by cases z)⟩
  | _ => exact absurd (show false = true from p) Bool.false_ne_true
theorem op_is_ref : OpR X (compareOp .Is) (fun x y H Q => ∃ a b oa ob, x = .ref a ∧ y = .ref b ∧ H a = some oa ∧ isObj oa = true ∧ H b = some ob ∧ isObj ob = true ∧ Q (.bl (decide (a = b))) H) := by
  intro pins s σ H x y v u Q I rx ry h
  obtain ⟨a, b, oa, ob, rfl, rfl, ha, pa, hb, pb, q⟩ := h
  cases rx
  cases ry
  obtain ⟨o1, e1, n1⟩ := obj_there I ha pa
  obtain ⟨o2, e2, _⟩ := obj_there I hb pb
  by_cases z : a = b
  · subst z
    exact wpAny_is_ref_self (fin_bl I q (by simp))
  · exact wpAny_is_ref_other z e1 e2 n1 (fin_bl I q (by simp [z]))
theorem op_isnot_ref : OpR X (compareOp .IsNot) (fun x y H Q => ∃ a b oa ob, x = .ref a ∧ y = .ref b ∧ H a = some oa ∧ isObj oa = true ∧ H b = some ob ∧ isObj ob = true ∧ Q (.bl (!decide (a = b))) H) := by
  intro pins s σ H x y v u Q I rx ry h
  obtain ⟨a, b, oa, ob, rfl, rfl, ha, pa, hb, pb, q⟩ := h
  cases rx
  cases ry
  obtain ⟨o1, e1, n1⟩ := obj_there I ha pa
  obtain ⟨o2, e2, _⟩ := obj_there I hb pb
  by_cases z : a = b
  · subst z
    exact wpAny_isNot_ref_self (fin_bl I q (by simp))
  · exact wpAny_isNot_ref_other z e1 e2 n1 (fin_bl I q (by simp [z]))

/-- two rules for one operation: by cases -/
theorem OpR.or {f : Value → Value → Sem Value} {r r' : R2} (h : OpR X f r) (h' : OpR X f r') : OpR X f (fun x y H Q => r x y H Q ∨ r' x y H Q) := by
  intro pins s σ H x y v u Q I rx ry q
  rcases q with q | q
  · exact h pins s σ H x y v u Q I rx ry q
  · exact h' pins s σ H x y v u Q I rx ry q

theorem nomark (b : Expr) {op : CmpOp} (h : op ≠ .In := by decide) (h2 : op ≠ .NotIn := by decide) : behindInMarks op b = false := by
  have e1 : (op == CmpOp.In) = false := by cases op <;> first | rfl | exact absurd rfl h
  have e2 : (op == CmpOp.NotIn) = false := by cases op <;> first | rfl | exact absurd rfl h2
  cases b <;> simp [behindInMarks, e1, e2]
/-- a comparison as a value; hm: nomark b, or (for in, not in) by with_unfolding_all rfl -/
theorem pe_cmpR {op : CmpOp} {r : R2} (ho : OpR X (compareOp op) r) (ha : PE X a ta) (hb : PE X b tb) (hm : behindInMarks op b = false) : PE X (.Compare a [op] [b] pos) (tOp r ta tb) := by
  intro pins s σ H Q I h
  exact wpAny_Compare1 (binT ha hb I h fun v u s2 x y H2 I2 rx ry q => ho pins s2 σ H2 x y v u Q I2 rx ry q) hm
/-- a reading of a value as a test -/
def tTest (t : TE) : TT := fun σ H Q => t σ H fun x H' => ∃ k, x = .bl k ∧ Q k H'
theorem pt_cmpR {op : CmpOp} {r : R2} (ho : OpR X (compareOp op) r) (ha : PE X a ta) (hb : PE X b tb) (hm : behindInMarks op b = false) : PT X (.Compare a [op] [b] pos) (tTest (tOp r ta tb)) := by
  intro pins s σ H Q I h
  refine wpAny_isTrue_Compare1 (thn (ha pins s σ H _ I h) fun v s1 ⟨x, H1, I1, r1, q1⟩ => thn (hb pins s1 σ H1 _ I1 q1) fun u s2 ⟨y, H2, I2, r2, q2⟩ =>
    thn (ho pins s2 σ H2 x y v u _ I2 r1 r2 q2) fun c s3 ⟨z, H3, I3, r3, k, e, q3⟩ => ?_) hm
  subst e
  cases r3
  exact wpAny_truthy_bool ⟨H3, I3, q3⟩
/-- a op1 b op2 c -/
def tChain (r r' : R2) (ta tb tc : TE) : TE := fun σ H Q => ta σ H fun x H1 => tb σ H1 fun y H2 => r x y H2 fun z H3 => ∃ k, z = .bl k ∧
  (if k = true then tc σ H3 fun w' H4 => r' y w' H4 Q else Q (.bl false) H3)
theorem pe_chain {op op' : CmpOp} {r r' : R2} (ho : OpR X (compareOp op) r) (ho' : OpR X (compareOp op') r') (ha : PE X a ta) (hb : PE X b tb) (hc : PE X c tc)
    (hm : lastMarks [op, op'] [b, c] = false := by with_unfolding_all rfl) : PE X (.Compare a [op, op'] [b, c] pos) (tChain r r' ta tb tc) := by
  intro pins s σ H Q I h
  refine Compare_chain (thn (ha pins s σ H _ I h) fun v s1 ⟨x, H1, I1, r1, q1⟩ => chain_link (thn (hb pins s1 σ H1 _ I1 q1) fun u s2 ⟨y, H2, I2, r2, q2⟩ =>
    thn (ho pins s2 σ H2 x y v u _ I2 r1 r2 q2) fun d s3 ⟨z, H3, I3, r3, k, e, q3⟩ => ?_)) hm
  subst e
  cases r3
  refine wpAny_truthy_bool ?_
  cases k with
  | false => exact ite_ff ⟨.bl false, H3, I3, rfl, q3⟩
  | true => exact ite_tt (chain_last (thn (hc pins s3 σ H3 _ I3 q3) fun w' s4 ⟨z', H4, I4, r4, q4⟩ => ho' pins s4 σ H4 y z' u w' Q I4 r2 r4 q4))
theorem pt_chain {op op' : CmpOp} {r r' : R2} (ho : OpR X (compareOp op) r) (ho' : OpR X (compareOp op') r') (ha : PE X a ta) (hb : PE X b tb) (hc : PE X c tc)
    (hm : lastMarks [op, op'] [b, c] = false := by with_unfolding_all rfl) : PT X (.Compare a [op, op'] [b, c] pos) (tTest (tChain r r' ta tb tc)) := by
  intro pins s σ H Q I h
  refine isTrue_chain (thn (ha pins s σ H _ I h) fun v s1 ⟨x, H1, I1, r1, q1⟩ => test_link (thn (hb pins s1 σ H1 _ I1 q1) fun u s2 ⟨y, H2, I2, r2, q2⟩ =>
    thn (ho pins s2 σ H2 x y v u _ I2 r1 r2 q2) fun d s3 ⟨z, H3, I3, r3, k, e, q3⟩ => ?_)) hm
  subst e
  cases r3
  refine wpAny_truthy_bool ?_
  cases k with
  | false =>
    obtain ⟨k', e', q'⟩ := q3
    cases e'
    exact ite_ff ⟨H3, I3, q'⟩
  | true =>
    refine ite_tt (test_last (thn (hc pins s3 σ H3 _ I3 q3) fun w' s4 ⟨z', H4, I4, r4, q4⟩ => thn (ho' pins s4 σ H4 y z' u w' _ I4 r2 r4 q4) fun d' s5 ⟨z2, H5, I5, r5, k2, e2, q5⟩ => ?_))
    subst e2
    cases r5
    exact wpAny_truthy_bool ⟨H5, I5, q5⟩

/-! ### truth -/
/-- a value's truth by the abstract heap -/
def TruV (K : PySem.W.Frag) (x : V) (H : Hp) (k : Bool) : Prop :=
  match x with
  | .non => k = false
  | .bl b => k = b
  | .int i => k = (i != 0)
  | .str y => y.length ≤ sizeLine ∧ k = ((y.length : Int) != 0)
  | .byt y => y.size ≤ sizeLine ∧ k = ((y.size : Int) != 0)
  | .ref p => (∃ xs, SqL K H p xs ∧ k = !xs.isEmpty) ∨ (∃ xs, SqT K H p xs ∧ k = !xs.isEmpty) ∨ ∃ kvs, H p = some (.dK kvs) ∧ k = !kvs.isEmpty
  | _ => False
theorem isEmpty_kv {κ : Type} {kvs : List (κ × V)} {vs : List (κ × Value)} (r : KV kvs vs) : (!vs.isEmpty) = !kvs.isEmpty := by
  cases r <;> rfl
theorem isEmpty_of {xs : List V} {its : List Value} (r : Vals xs its) : (!its.toArray.isEmpty) = !xs.isEmpty := by
  cases r <;> simp
theorem line63 : (sizeLine : Nat) < 2 ^ 63 := by rw [sizeLine_eq]; decide
theorem tru_ok : TruR X (fun x H Q => ∃ k, TruV X.K x H k ∧ Q k H) := by
  intro pins s σ H x v Q I rx h
  obtain ⟨k, e, q⟩ := h
  have hl := line63
  have hs : sizeLine = 16777216 := sizeLine_eq
  cases x with
  | non =>
    cases rx
    have e' : k = false := e
    subst e'
    exact truthy_none ⟨H, I, q⟩
  | bl b =>
    cases rx
    have e' : k = b := e
    subst e'
    exact wpAny_truthy_bool ⟨H, I, q⟩
  | int i =>
    obtain ⟨t, rfl⟩ := rx
    have e' : k = (i != 0) := e
    subst e'
    exact PySem.P.truthy_int ⟨H, I, q⟩
  | str y =>
    obtain ⟨t, rfl⟩ := rx
    obtain ⟨hy, e'⟩ : y.length ≤ sizeLine ∧ k = ((y.length : Int) != 0) := e
    subst e'
    exact PySem.P.truthy_str (by omega) ⟨H, I.tok _, q⟩
  | byt y =>
    obtain ⟨t, rfl⟩ := rx
    obtain ⟨hy, e'⟩ : y.size ≤ sizeLine ∧ k = ((y.size : Int) != 0) := e
    subst e'
    exact PySem.W.truthy_bytes (by omega) ⟨H, I.tok _, q⟩
  | ref p =>
    cases rx
    have e' : (∃ xs, SqL X.K H p xs ∧ k = !xs.isEmpty) ∨ (∃ xs, SqT X.K H p xs ∧ k = !xs.isEmpty) ∨ ∃ kvs, H p = some (.dK kvs) ∧ k = !kvs.isEmpty := e
    rcases e' with ⟨xs, hx, e'⟩ | ⟨xs, hx, e'⟩ | ⟨kvs, hx, e'⟩
    · subst e'
      obtain ⟨its, r, pl, hz⟩ := I.list hx
      have hlen := r.length
      exact wpAny_truthy_list pl.isList (by simp only [List.size_toArray]; omega) ⟨H, I.tok _, by rw [isEmpty_of r]; exact q⟩
    · subst e'
      obtain ⟨its, r, pl, hz⟩ := I.tuple hx
      have hlen := r.length
      exact truthy_tuple pl (by simp only [List.size_toArray]; omega) ⟨H, I.tok _, by rw [isEmpty_of r]; exact q⟩
    · subst e'
      obtain ⟨hz, hS, vs, r, m⟩ : kvs.length ≤ sizeLine ∧ (p == sysModules) = false ∧ ∃ vs, KV kvs vs ∧ s.heap.DictOf (mixKind X.prog X.w) p vs := I.hok p _ hx
      have hlen : kvs.length = vs.length := Paired.length r
      exact wpAny_truthy_dict hS m (by omega) ⟨H, I.tok _, by rw [isEmpty_kv r]; exact q⟩
  | _ => exact (show False from e).elim
/-- any expression whose test is its value's truth (a name, a call, a subscript, a field ..: he by fun _ => rfl) -/
theorem pt_truth (ha : PE X a ta) (he : ∀ whole, isTrue a X.env whole = (do let v ← whole; standAt a.pos; holding [v] (truthy v))) :
    PT X a (fun σ H Q => ta σ H fun x H' => ∃ k, TruV X.K x H' k ∧ Q k H') := by
  intro pins s σ H Q I h
  exact isTrue_plain (thn (ha pins s σ H _ I h) fun v s1 ⟨x, H1, I1, r1, q1⟩ => tru_ok pins s1 σ H1 x v Q I1 r1 q1) (he _)

/-! ### strs and bytes -/
theorem pe_byt {x : List UInt8} {k : Nat} : PE X (.Constant (.bytes x) k pos) (fun _ H Q => Q (.byt x.toArray) H) := fun _ _ _ H _ I h => PySem.W.Constant_bytes ⟨.byt x.toArray, H, I.tok _, ⟨_, rfl⟩, h⟩
theorem op_add_str : OpR X (binaryOp .Add) (fun x y H Q => ∃ i j, x = .str i ∧ y = .str j ∧ i.length + j.length ≤ sizeLine ∧ Q (.str (i ++ j)) H) := by
  intro pins s σ H x y v u Q I rx ry h
  obtain ⟨i, j, rfl, rfl, hz, q⟩ := h
  obtain ⟨t, rfl⟩ := rx
  obtain ⟨t', rfl⟩ := ry
  exact add_str (fun t' tk => ⟨.str (i ++ j), H, I.tok _, ⟨_, rfl⟩, q⟩) hz
theorem iop_add_str : OpR X (inplaceOp .Add) (fun x y H Q => ∃ i j, x = .str i ∧ y = .str j ∧ i.length + j.length ≤ sizeLine ∧ Q (.str (i ++ j)) H) := by
  intro pins s σ H x y v u Q I rx ry h
  obtain ⟨i, j, rfl, rfl, hz, q⟩ := h
  obtain ⟨t, rfl⟩ := rx
  obtain ⟨t', rfl⟩ := ry
  exact iadd_str (fun t' tk => ⟨.str (i ++ j), H, I.tok _, ⟨_, rfl⟩, q⟩) hz
theorem op_add_byt : OpR X (binaryOp .Add) (fun x y H Q => ∃ i j, x = .byt i ∧ y = .byt j ∧ i.size + j.size ≤ 16777216 ∧ Q (.byt (i ++ j)) H) := by
  intro pins s σ H x y v u Q I rx ry h
  obtain ⟨i, j, rfl, rfl, hz, q⟩ := h
  obtain ⟨t, rfl⟩ := rx
  obtain ⟨t', rfl⟩ := ry
  exact PySem.W.KBy.add_bytes hz (fun t' tk => ⟨.byt (i ++ j), H, I.tok _, ⟨_, rfl⟩, q⟩)

def PlainIxT (b : Expr) : Prop := ∀ o i, subscripted b false o i = operate [o, i] (getItem o i)
/-- s[i], 0 ≤ i < len -/
theorem pe_item_str (ha : PE X a ta) (hb : PE X b tb) (hs : PlainIxT b) :
    PE X (.Subscript a b pos) (tOp (fun x y H Q => ∃ z i c, x = .str z ∧ y = .int i ∧ 0 ≤ i ∧ i < 2 ^ 63 ∧ i < z.length ∧ z.cps[i.toNat]? = some c ∧ Q (.str ⟨#[c]⟩) H) ta tb) := by
  intro pins s σ H Q I h
  refine Subscript_ (binT ha hb I h fun v u s2 x y H2 I2 rx ry q => ?_)
  obtain ⟨z, i, c, rfl, rfl, h0, h63, h1, hc, q⟩ := q
  obtain ⟨t, rfl⟩ := rx
  obtain ⟨t', rfl⟩ := ry
  have e : seqIndex? i z.length = some i.toNat := PySem.StrLaws.seqIndex_nonneg h0 h1
  exact tail_any (typeIs_str s2 z t) slot_str_getitem.lookup (getItem_str (c := c) (by
    have e1 : decide (i < -(2 ^ 63 : Int)) = false := decide_eq_false (by omega)
    have e2 : decide (i ≥ 2 ^ 63) = false := decide_eq_false (by omega)
    rw [e1, e2] <;> rfl) (by rw [e]; exact hc) ⟨.str ⟨#[c]⟩, H2, I2.tok _, ⟨_, rfl⟩, q⟩) (hs _ _)
/-- b[i], 0 ≤ i < len -/
theorem pe_item_byt (ha : PE X a ta) (hb : PE X b tb) (hs : PlainIxT b) :
    PE X (.Subscript a b pos) (tOp (fun x y H Q => ∃ (z : List UInt8) (i : Int), x = .byt z.toArray ∧ y = .int i ∧ z.length ≤ sizeLine ∧ 0 ≤ i ∧ i < z.length ∧ Q (.int ((z.getD i.toNat 0).toNat : Nat)) H) ta tb) := by
  intro pins s σ H Q I h
  refine Subscript_ (binT ha hb I h fun v u s2 x y H2 I2 rx ry q => ?_)
  obtain ⟨z, i, rfl, rfl, hz, h0, h1, q⟩ := q
  obtain ⟨t, rfl⟩ := rx
  obtain ⟨t', rfl⟩ := ry
  have hl : sizeLine = 16777216 := sizeLine_eq
  exact tail_any (PySem.W.typeIs_bytes s2 z.toArray t) PySem.W.FB.slot_bytes_getitem.lookup (PySem.W.getItem_bytes (by omega) h0 h1 ⟨.int ((z.getD i.toNat 0).toNat : Nat), H2, I2.tok _, ⟨_, rfl⟩, q⟩) (hs _ _)

/-! ### scalar builtins, by CallR -/
theorem vals1 {x : V} {us : List Value} (r : Vals [x] us) : ∃ u, us = [u] ∧ RelV x u := by
  cases r with
  | cons r1 r2 => cases r2; exact ⟨_, rfl, r1⟩
theorem vals2 {x y : V} {us : List Value} (r : Vals [x, y] us) : ∃ u w', us = [u, w'] ∧ RelV x u ∧ RelV y w' := by
  cases r with
  | cons r1 r2 =>
    cases r2 with
    | cons r3 r4 => cases r4; exact ⟨_, _, rfl, r1, r3⟩
theorem call_abs : CallR X (.builtin "abs") (fun xs H Q => ∃ i, xs = [.int i] ∧ Q (.int (if i < 0 then -i else i)) H) := by
  intro pins s σ H xs us Q I r h
  obtain ⟨i, rfl, q⟩ := h
  obtain ⟨u, rfl, t, rfl⟩ := vals1 r
  exact call_abs_int fun u tk => ⟨.int (if i < 0 then -i else i), H, I.tok _, ⟨_, rfl⟩, q⟩
theorem call_max2 (hc : X.calm = true) : CallR X (.builtin "max") (fun xs H Q => ∃ i j, xs = [.int i, .int j] ∧ Q (.int (if j > i then j else i)) H) := by
  intro pins s σ H xs us Q I r h
  obtain ⟨i, j, rfl, q⟩ := h
  obtain ⟨u, w', rfl, ⟨t, rfl⟩, ⟨t', rfl⟩⟩ := vals2 r
  refine max_two_ints (I.ok.hd hc) fun h' tk k => ⟨_, H, I.kept k, ?_, q⟩
  by_cases hj : j > i
  · rw [if_pos hj, if_pos hj]; exact ⟨_, rfl⟩
  · rw [if_neg hj, if_neg hj]; exact ⟨_, rfl⟩
theorem call_min2 (hc : X.calm = true) : CallR X (.builtin "min") (fun xs H Q => ∃ i j, xs = [.int i, .int j] ∧ Q (.int (if j < i then j else i)) H) := by
  intro pins s σ H xs us Q I r h
  obtain ⟨i, j, rfl, q⟩ := h
  obtain ⟨u, w', rfl, ⟨t, rfl⟩, ⟨t', rfl⟩⟩ := vals2 r
  refine min_two_ints (I.ok.hd hc) fun h' tk k => ⟨_, H, I.kept k, ?_, q⟩
  by_cases hj : j < i
  · rw [if_pos hj, if_pos hj]; exact ⟨_, rfl⟩
  · rw [if_neg hj, if_neg hj]; exact ⟨_, rfl⟩
theorem call_int1 : CallR X (.type "int") (fun xs H Q => (∃ i, xs = [.int i] ∧ Q (.int i) H) ∨ ∃ k, xs = [.bl k] ∧ Q (.int (if k then 1 else 0)) H) := by
  intro pins s σ H xs us Q I r h
  rcases h with ⟨i, rfl, q⟩ | ⟨k, rfl, q⟩
  · obtain ⟨u, rfl, t, rfl⟩ := vals1 r
    exact call_int_int ⟨.int i, H, I, ⟨_, rfl⟩, q⟩
  · obtain ⟨u, rfl, r1⟩ := vals1 r
    cases r1
    exact call_int_bool ⟨.int (if k then 1 else 0), H, I.tok _, ⟨_, rfl⟩, q⟩
theorem call_bool1 : CallR X (.type "bool") (fun xs H Q => (∃ i, xs = [.int i] ∧ Q (.bl (i != 0)) H) ∨ ∃ k, xs = [.bl k] ∧ Q (.bl k) H) := by
  intro pins s σ H xs us Q I r h
  rcases h with ⟨i, rfl, q⟩ | ⟨k, rfl, q⟩
  · obtain ⟨u, rfl, t, rfl⟩ := vals1 r
    exact call_bool_int ⟨.bl (i != 0), H, I, rfl, q⟩
  · obtain ⟨u, rfl, r1⟩ := vals1 r
    cases r1
    exact call_bool_bool ⟨.bl k, H, I, rfl, q⟩
theorem call_str_int : CallR X (.type "str") (fun xs H Q => ∃ i, xs = [.int i] ∧ i.natAbs.log2 < 1920 ∧ Q (.str (toString i)) H) := by
  intro pins s σ H xs us Q I r h
  obtain ⟨i, rfl, hz, q⟩ := h
  obtain ⟨u, rfl, t, rfl⟩ := vals1 r
  exact PySem.P.str_of_int hz ⟨.str _, H, I.tok _, ⟨_, rfl⟩, q⟩
theorem call_ord : CallR X (.builtin "ord") (fun xs H Q => ∃ x, xs = [.str x] ∧ x.length = 1 ∧ Q (.int (x.cps.getD 0 0 : Nat)) H) := by
  intro pins s σ H xs us Q I r h
  obtain ⟨x, rfl, hz, q⟩ := h
  obtain ⟨u, rfl, t, rfl⟩ := vals1 r
  exact ord_of_one hz ⟨.int _, H, I.tok _, ⟨_, rfl⟩, q⟩
theorem call_chr : CallR X (.builtin "chr") (fun xs H Q => ∃ i, xs = [.int i] ∧ 0 ≤ i ∧ i ≤ 1114111 ∧ Q (.str ⟨#[i.toNat]⟩) H) := by
  intro pins s σ H xs us Q I r h
  obtain ⟨i, rfl, h0, h1, q⟩ := h
  obtain ⟨u, rfl, t, rfl⟩ := vals1 r
  exact chr_of_range h0 h1 ⟨.str _, H, I.tok _, ⟨_, rfl⟩, q⟩
/-- len of a str, a bytes, a list, a tuple -/
def LenV (K : PySem.W.Frag) (x : V) (H : Hp) (n : Nat) : Prop :=
  match x with
  | .str y => y.length ≤ sizeLine ∧ n = y.length
  | .byt y => y.size ≤ sizeLine ∧ n = y.size
  | .ref p => (∃ xs, SqL K H p xs ∧ n = xs.length) ∨ ∃ xs, SqT K H p xs ∧ n = xs.length
  | _ => False
theorem call_len : CallR X (.builtin "len") (fun xs H Q => ∃ x n, xs = [x] ∧ LenV X.K x H n ∧ Q (.int n) H) := by
  intro pins s σ H xs us Q I r h
  obtain ⟨x, n, rfl, e, q⟩ := h
  obtain ⟨u, rfl, rx⟩ := vals1 r
  have hl := line63
  have hs : sizeLine = 16777216 := sizeLine_eq
  cases x with
  | str y =>
    obtain ⟨t, rfl⟩ := rx
    obtain ⟨hy, e'⟩ : y.length ≤ sizeLine ∧ n = y.length := e
    subst e'
    exact len_str (by omega) ⟨.int _, H, I.tok _, ⟨_, rfl⟩, q⟩
  | byt y =>
    obtain ⟨t, rfl⟩ := rx
    obtain ⟨hy, e'⟩ : y.size ≤ sizeLine ∧ n = y.size := e
    subst e'
    exact PySem.W.len_bytes (by omega) ⟨.int _, H, I.tok _, ⟨_, rfl⟩, q⟩
  | ref p =>
    cases rx
    have e' : (∃ xs, SqL X.K H p xs ∧ n = xs.length) ∨ ∃ xs, SqT X.K H p xs ∧ n = xs.length := e
    rcases e' with ⟨xs, hx, e'⟩ | ⟨xs, hx, e'⟩
    · subst e'
      obtain ⟨its, r', pl, hz⟩ := I.list hx
      have hlen := r'.length
      exact Calls.call_len_list pl.isList (by simp only [List.size_toArray]; omega) ⟨.int xs.length, H, I.tok _, ⟨_, by simp only [List.size_toArray]; rw [hlen]⟩, q⟩
    · subst e'
      obtain ⟨its, r', pl, hz⟩ := I.tuple hx
      have hlen := r'.length
      exact len_tuple pl (by simp only [List.size_toArray]; omega) ⟨.int xs.length, H, I.tok _, ⟨_, by simp only [List.size_toArray]; rw [hlen]⟩, q⟩
  | _ => exact (show False from e).elim
/-- divmod: a new tuple -/
theorem call_divmod : CallR X (.builtin "divmod") (fun xs H Q => ∃ i j, xs = [.int i, .int j] ∧ CDiv i j ∧ ∀ p, H p = none → Q (.ref p) (upd H p (.tup [.int (i / j), .int (i % j)]))) := by
  intro pins s σ H xs us Q I r h
  obtain ⟨i, j, rfl, ⟨h1, h2⟩, q⟩ := h
  obtain ⟨u, w', rfl, ⟨t, rfl⟩, ⟨t', rfl⟩⟩ := vals2 r
  refine divmod_int (by omega) ?_ (.inl (PyProof.noPylong_small (by omega)))
  rw [Int.fdiv_eq_ediv_of_nonneg i (by omega), Int.fmod_eq_emod_of_nonneg i (by omega)]
  have hn : H s.heap.objs.size = none := I.hok.fresh (Nat.le_refl _)
  refine ⟨.ref s.heap.objs.size, _, ?_, rfl, q _ hn⟩
  refine I.laid (fun b o e => Heap.get?_push_of_some _ e) (Nat.le_refl _) ⟨by simp only [List.length_cons, List.length_nil]; rw [sizeLine_eq]; decide, [.int (i / j) s.toks, .int (i % j) (s.toks + 1)], .cons ⟨_, rfl⟩ (.cons ⟨_, rfl⟩ .nil), ?_⟩
  exact ⟨_, Heap.get?_push_size s.heap rfl, rfl, 0, rfl⟩
end
end L2

namespace L2
open PySem PySem.Spec PyProof.Rows

/-! ### an instance, its attributes a map -/
structure ObjM (h : Heap) (x dx C : Addr) (mA : Str → Option Value) : Prop where
  obj : h.get? x = some (PySem.W.instObj C dx)
  ns : h.Ns1 dx mA
  ne : dx ≠ x

theorem lookIn_ns {h : Heap} {dx : Addr} {mA : Str → Option Value} (n : h.Ns1 dx mA) : ∃ od, h.get? dx = some od ∧ ∀ name, PySem.W.lookIn name od = some (mA name) := by
  obtain ⟨o, es, ep, ho, hd, hk, _, hm⟩ := n
  refine ⟨o, ho, fun name => ?_⟩
  have e := hm name
  unfold nsFind findBy at e
  rw [← Array.find?_toList] at e
  unfold PySem.W.lookIn
  rw [hd]
  dsimp only
  split
  · rename_i y q
    rw [q] at e
    exact congrArg some e
  · rename_i q
    rw [q] at e
    have a : es.toList.any (·.refKey) = false := by
      rw [List.any_eq_false]
      intro y hy
      obtain ⟨z, t, hkey⟩ := hk y (Array.mem_toList_iff.mp hy)
      simp [DictEntry.refKey, hkey]
    have a' : ¬ es.toList.any (·.refKey) = true := by rw [a]; exact Bool.false_ne_true
    rw [if_neg a']
    exact congrArg some e

theorem ObjM.look {h : Heap} {x dx C : Addr} {mA : Str → Option Value} (I : ObjM h x dx C mA) : ∃ od, PySem.W.InstAt h x (PySem.W.instObj C dx) C (some od) ∧ ∀ name, PySem.W.lookIn name od = some (mA name) :=
  let ⟨od, ho, hl⟩ := lookIn_ns I.ns
  ⟨od, ⟨I.obj, rfl, rfl, ho⟩, hl⟩

section
variable {prog : Program} {w : World} {A : Around} {E : Value → Shared → Prop} {s : Shared} {K : PySem.W.Frag} {x dx C f : Addr} {mA : Str → Option Value} {name : Str} {v : Value}

theorem get_map {expr : Bool} {Q : Value → Shared → Prop} (X : K.In s.heap) (I : ObjM s.heap x dx C mA) (hg : PySem.W.plainGet K C name = true) (hh : PySem.W.hasDictIn K C = true)
    (ha : PySem.W.findIn K (.ref C) name = some none) (hv : mA name = some v) (hv' : PySem.W.handedIn v = true) (h : Q v { s with toks := s.toks + 1 }) :
    wpAny (model prog w) A (getAttr (.ref x) name expr) Q E s := by
  obtain ⟨od, J, hl⟩ := I.look
  exact PySem.W.get_value X J (PySem.W.plainGet_of hg).1 (PySem.W.findObj_own hh ha rfl (by rw [hl, hv])) hv' h

theorem get_const {expr : Bool} {a : Value} {Q : Value → Shared → Prop} (X : K.In s.heap) (I : ObjM s.heap x dx C mA) (hg : PySem.W.plainGet K C name = true) (hh : PySem.W.hasDictIn K C = true)
    (ha : PySem.W.findIn K (.ref C) name = some (some a)) (hn : PySem.W.specialIn K a "__get__" = some none) (hc : PySem.W.copiedNames.contains name = false) (hv : mA name = none) (hv' : PySem.W.handedIn a = true)
    (h : Q a { s with toks := s.toks + 1 }) : wpAny (model prog w) A (getAttr (.ref x) name expr) Q E s := by
  obtain ⟨od, J, hl⟩ := I.look
  exact PySem.W.get_value X J (PySem.W.plainGet_of hg).1 (PySem.W.findObj_cls hh ha hn hv' hc (by rw [hl, hv])) hv' h

theorem get_meth {pl : Sem Bool} {Q : Value × List Value → Shared → Prop} (X : K.In s.heap) (I : ObjM s.heap x dx C mA) (hg : PySem.W.plainGet K C name = true)
    (hf : PySem.W.findIn K (.ref C) name = some (some (.ref f))) (ht : PySem.W.isFn K (.ref f) = true) (hv : mA name = none) (h : Q (.ref f, [.ref x]) s) :
    wpAny (model prog w) A (getMethod (.ref x) name pl) Q E s := by
  obtain ⟨od, J, hl⟩ := I.look
  exact PySem.W.method_fn X J (PySem.W.plainGet_of hg).1 (PySem.W.plainGet_of hg).2 hf (beq_iff_eq.mp ht) (by show (PySem.W.lookIn name od).map (·.isSome) = some false; rw [hl, hv]; rfl) h

theorem set_map {ns : List Str} {Q : Unit → Shared → Prop} (X : K.In s.heap) (I : ObjM s.heap x dx C mA)
    (hs : PySem.W.findIn K (.ref C) "__setattr__" = some (some (.builtin "object.__setattr__"))) (hp : PySem.W.plainOver K C = true) (ht : PySem.W.takerIn K C name = some none) (hh : PySem.W.hasDictIn K C = true)
    (hw : PySem.Within mA ns) (hsz : ns.length ≤ sizeLine)
    (h : ∀ h', ObjM h' x dx C (fun y => if y = name then some v else mA y) → Heap.SameBut dx s.heap h' → Q () { s with heap := h', toks := s.toks + 2 }) :
    wpAny (model prog w) A (setAttr (.ref x) name v) Q E s := by
  obtain ⟨od, J, hl⟩ := I.look
  refine PySem.W.set_plain X J hs (PySem.W.osa_open (s := { s with toks := s.toks + 1 }) (r := none) X J hp ht fun b => ?_)
  obtain ⟨cd, hc, hd'⟩ := PySem.W.any_some hh
  have hx : s.heap.get? x = some ⟨.ref C, some dx, .plain, #[]⟩ := I.obj
  refine wpAny_bind (wpAny_pure (wpAny_bind (wpAny_bind (wpAny_loadPart hx (wpAny_bind (PySem.W.Looks.here (s := { s with toks := s.toks + 1 }) (PySem.W.looks_clsIn X hc) ?_))))))
  rw [hd']
  refine wpAny_pure (a := some dx) (wpAny_bind (wpAny_pure (wpAny_bind ?_)))
  refine wpAny_nsSet1 (s := { s with toks := s.toks + 1 }) I.ns fun h' hn2 hs2 => ?_
  obtain ⟨oD, esD, epD, hoD, hdD, hcD⟩ := hn2.count (PySem.Within.cons name v hw)
  refine wpAny_bind (wpAny_lookBehind hoD (by rw [hdD]; exact pastItsLine_dict (Nat.le_trans hcD (by rw [List.length_cons]; omega))) ?_)
  exact wpAny_pure (h _ ⟨(hs2.2 _ (Ne.symm I.ne)).trans I.obj, hn2, I.ne⟩ hs2)

/-- C(..): the dict at the heap's end, the instance behind it; then its __init__ -/
theorem make_map {R : Result → Shared → Prop} {vs : List Value} {kw : List (Str × Value)} (X : K.In s.heap) (hm : PySem.W.makesIn K C = true)
    (hi : PySem.W.findIn K (.ref C) "__init__" = some (some (.ref f))) (hf : PySem.W.typeIn K (.ref f) = some (.type "function"))
    (h : codeAny (model prog w) (A.under (.builtin "type.__call__" ⟨.ref C :: vs, kw⟩)) (.call (.ref f) ⟨.ref (s.heap.objs.size + 1) :: vs, kw⟩) (PySem.W.InitBack (s.heap.objs.size + 1) R)
      { s with heap := (s.heap.push PySem.W.emptyDict).push (PySem.W.instObj C s.heap.objs.size) }) :
    codeAny (model prog w) A (.call (.ref C) ⟨vs, kw⟩) R s := by
  obtain ⟨hh, g, d, t, os⟩ := s
  exact PySem.W.make_core (PySem.W.makes_of X hm) (PySem.W.looks_findIn X hi) (fun self => PySem.W.bind_fn X self hf) (.inl rfl) h
/-- C() where there is no __init__ but object's -/
theorem make_map0 {R : Result → Shared → Prop} (X : K.In s.heap) (hm : PySem.W.makesIn K C = true)
    (hi : PySem.W.findIn K (.ref C) "__init__" = some (some (.builtin "object.__init__")))
    (hb : ∀ self, PySem.W.Looks (model prog w) s.heap (bindSpecial (.builtin "object.__init__") self) (.builtin "object.__init__", [self]))
    (h : codeAny (model prog w) (A.under (.builtin "type.__call__" ⟨[.ref C], []⟩)) (.call (.builtin "object.__init__") ⟨[.ref (s.heap.objs.size + 1)], []⟩) (PySem.W.InitBack (s.heap.objs.size + 1) R)
      { s with heap := (s.heap.push PySem.W.emptyDict).push (PySem.W.instObj C s.heap.objs.size) }) :
    codeAny (model prog w) A (.call (.ref C) ⟨[], []⟩) R s := by
  obtain ⟨hh, g, d, t, os⟩ := s
  exact PySem.W.make_core (PySem.W.makes_of X hm) (PySem.W.looks_findIn X hi) hb (.inr ⟨rfl, rfl⟩) h
end

/-! ### the attributes as a list of pairs -/
def putF (f : Str) (v : V) : List (Str × V) → List (Str × V)
  | [] => [(f, v)]
  | (g, x) :: r => if g = f then (g, v) :: r else (g, x) :: putF f v r
theorem lookup_putF (f g : Str) (v : V) : ∀ fs : List (Str × V), (putF f v fs).lookup g = if g = f then some v else fs.lookup g
  | [] => by
    show List.lookup g [(f, v)] = _
    by_cases h : g = f
    · have hb : (g == f) = true := beq_iff_eq.mpr h
      simp only [List.lookup, hb, if_pos h]
    · have hb : (g == f) = false := beq_eq_false_iff_ne.mpr h
      simp only [List.lookup, hb, if_neg h]
  | (k, x) :: r => by
    have ih := lookup_putF f g v r
    rw [show putF f v ((k, x) :: r) = (if k = f then (k, v) :: r else (k, x) :: putF f v r) from rfl]
    by_cases hk : k = f
    · rw [if_pos hk]
      by_cases h : g = k
      · have hb : (g == k) = true := beq_iff_eq.mpr h
        simp only [List.lookup, hb, if_pos (h.trans hk)]
      · have hb : (g == k) = false := beq_eq_false_iff_ne.mpr h
        simp only [List.lookup, hb, if_neg (fun e : g = f => h (e.trans hk.symm))]
    · rw [if_neg hk]
      by_cases h : g = k
      · have hb : (g == k) = true := beq_iff_eq.mpr h
        simp only [List.lookup, hb, if_neg (fun e : g = f => hk (h.symm.trans e))]
      · have hb : (g == k) = false := beq_eq_false_iff_ne.mpr h
        simp only [List.lookup, hb]
        exact ih
theorem keys_putF (f : Str) (v : V) : ∀ fs : List (Str × V), f ∈ (putF f v fs).map (·.1) ∧ ∀ g, g ∈ fs.map (·.1) → g ∈ (putF f v fs).map (·.1)
  | [] => ⟨by simp [putF], fun g h => by simp at h⟩
  | (k, x) :: r => by
    obtain ⟨i1, i2⟩ := keys_putF f v r
    rw [show putF f v ((k, x) :: r) = (if k = f then (k, v) :: r else (k, x) :: putF f v r) from rfl]
    by_cases hk : k = f
    · rw [if_pos hk]
      subst hk
      exact ⟨by simp, fun g h => by simpa using h⟩
    · rw [if_neg hk]
      refine ⟨?_, fun g h => ?_⟩
      · rw [List.map_cons]
        exact List.mem_cons_of_mem _ i1
      · rw [List.map_cons] at h ⊢
        rcases List.mem_cons.mp h with e | e
        · exact List.mem_cons.mpr (.inl e)
        · exact List.mem_cons_of_mem _ (i2 g e)
theorem length_putF (f : Str) (v : V) : ∀ fs : List (Str × V), (putF f v fs).length ≤ fs.length + 1
  | [] => by simp [putF]
  | (k, x) :: r => by
    have ih := length_putF f v r
    rw [show putF f v ((k, x) :: r) = (if k = f then (k, v) :: r else (k, x) :: putF f v r) from rfl]
    by_cases hk : k = f
    · rw [if_pos hk, List.length_cons, List.length_cons]; omega
    · rw [if_neg hk, List.length_cons, List.length_cons]; omega

theorem RelO.some_of {v : V} {o : Option Value} (r : RelO (some v) o) : ∃ u, o = some u ∧ RelV v u := by
  cases o with
  | none => exact (show False from r).elim
  | some u => exact ⟨u, rfl, r⟩
theorem RelO.none_of {o : Option Value} (r : RelO none o) : o = none := by
  cases o with
  | none => rfl
  | some u => exact (show False from r).elim
theorem handed_of {v : V} {u : Value} (r : RelV v u) : PySem.W.handedIn u = true := by
  cases v with
  | non => cases (show u = Value.none from r); rfl
  | bl b => cases (show u = Value.bool b from r); rfl
  | int i => obtain ⟨t, e⟩ := (show ∃ t, u = Value.int i t from r); cases e; rfl
  | str x => obtain ⟨t, e⟩ := (show ∃ t, u = Value.str x t from r); cases e; rfl
  | byt b => obtain ⟨t, e⟩ := (show ∃ t, u = Value.bytes b t from r); cases e; rfl
  | flt b => obtain ⟨t, e⟩ := (show ∃ t, u = Value.float b t from r); cases e; rfl
  | ref a => cases (show u = Value.ref a from r); rfl
  | ty n => cases (show u = Value.type n from r); rfl

section
variable {P : Program} {w : World} {H H' : Hp} {h h' : Heap} {a C dx : Addr} {fs fs' : List (Str × V)}
theorem ins_get (hok : HOk P w H h) (e : H a = some (.ins C dx fs)) : ∃ mA, ObjM h a dx C mA ∧ (∀ f, RelO (fs.lookup f) (mA f)) ∧ PySem.Within mA (fs.map (·.1)) ∧ fs.length ≤ 1000 ∧ H dx = some (.own a) := by
  obtain ⟨d, z, ne, ob, mA, n, r, q⟩ := (show ObjOk P w H h a (.ins C dx fs) from hok a _ e)
  exact ⟨mA, ⟨ob, n, ne⟩, r, q, z, d⟩
end

/-! ### what of the text a class must have -/
structure Cls (K : PySem.W.Frag) (C : Addr) : Prop where
  pg : PySem.W.plainGet K C Str.empty = true
  hd : PySem.W.hasDictIn K C = true
  po : PySem.W.plainOver K C = true
  sa : PySem.W.findIn K (.ref C) "__setattr__" = some (some (.builtin "object.__setattr__"))
theorem Cls.get {K : PySem.W.Frag} {C : Addr} (c : Cls K C) (f : Str) : PySem.W.plainGet K C f = true := c.pg
/-- no class of it has the name -/
def NoAttr (K : PySem.W.Frag) (C : Addr) (f : Str) : Prop := PySem.W.findIn K (.ref C) f = some none
theorem NoAttr.taker {K : PySem.W.Frag} {C : Addr} {f : Str} (n : NoAttr K C f) : PySem.W.takerIn K C f = some none := by
  unfold PySem.W.takerIn
  rw [show PySem.W.findIn K (.ref C) f = some none from n]
  rfl
/-- a constant of the class -/
structure Con (K : PySem.W.Frag) (C : Addr) (f : Str) (v : V) (u : Value) : Prop where
  at_ : PySem.W.findIn K (.ref C) f = some (some u)
  rel : RelV v u
  get : PySem.W.specialIn K u "__get__" = some none
  cp : PySem.W.copiedNames.contains f = false
/-- a method: a plain def of the class or of one above it -/
structure Meth (K : PySem.W.Frag) (C : Addr) (m : Str) (f : Addr) : Prop where
  at_ : PySem.W.findIn K (.ref C) m = some (some (.ref f))
  fn : PySem.W.isFn K (.ref f) = true
  kp : PySem.W.keepIn K (.ref f) = true

section
variable {X : Cx} {pins : List (Addr × Obj)} {σ : St} {H : Hp} {s : Shared} {a C dx : Addr} {fs : List (Str × V)} {f : Str} {v : V} {A : Around} {E : Value → Shared → Prop}

theorem getattr_ok {b : Bool} {Q : Value → Shared → Prop} (I : Inv X pins σ H s) (e : H a = some (.ins C dx fs)) (c : Cls X.K C) (n : NoAttr X.K C f) (l : fs.lookup f = some v)
    (h : ∀ u s', Inv X pins σ H s' → RelV v u → Q u s') : wpAny (model X.prog X.w) A (getAttr (.ref a) f b) Q E s := by
  obtain ⟨mA, O, r, _, _, _⟩ := ins_get I.hok e
  obtain ⟨u, hu, ru⟩ := RelO.some_of (v := v) (o := mA f) (by rw [← l]; exact r f)
  exact get_map I.kIn O (c.get f) c.hd n hu (handed_of ru) (h u _ (I.tok _) ru)

theorem getcon_ok {b : Bool} {u : Value} {Q : Value → Shared → Prop} (I : Inv X pins σ H s) (e : H a = some (.ins C dx fs)) (c : Cls X.K C) (k : Con X.K C f v u) (l : fs.lookup f = none)
    (h : ∀ s', Inv X pins σ H s' → Q u s') : wpAny (model X.prog X.w) A (getAttr (.ref a) f b) Q E s := by
  obtain ⟨mA, O, r, _, _, _⟩ := ins_get I.hok e
  have hn : mA f = none := RelO.none_of (by rw [← l]; exact r f)
  exact get_const I.kIn O (c.get f) c.hd k.at_ k.get k.cp hn (handed_of k.rel) (h _ (I.tok _))

theorem getmeth_ok {m : Str} {g : Addr} {pl : Sem Bool} {Q : Value × List Value → Shared → Prop} (I : Inv X pins σ H s) (e : H a = some (.ins C dx fs)) (c : Cls X.K C) (k : Meth X.K C m g) (l : fs.lookup m = none)
    (h : Q (.ref g, [.ref a]) s) : wpAny (model X.prog X.w) A (getMethod (.ref a) m pl) Q E s := by
  obtain ⟨mA, O, r, _, _, _⟩ := ins_get I.hok e
  have hn : mA m = none := RelO.none_of (by rw [← l]; exact r m)
  exact get_meth I.kIn O (c.get m) k.at_ k.fn hn h

theorem setattr_ok {y : V} {u : Value} {Q : Unit → Shared → Prop} (I : Inv X pins σ H s) (e : H a = some (.ins C dx fs)) (c : Cls X.K C) (n : NoAttr X.K C f) (hl : fs.length < 1000) (ry : RelV y u)
    (h : ∀ s', Inv X pins σ (upd H a (.ins C dx (putF f y fs))) s' → Q () s') : wpAny (model X.prog X.w) A (setAttr (.ref a) f u) Q E s := by
  obtain ⟨mA, O, r, wi, _, ho⟩ := ins_get I.hok e
  have hz : (fs.map (·.1)).length ≤ sizeLine := by rw [List.length_map, sizeLine_eq]; omega
  refine set_map I.kIn O c.sa c.po n.taker c.hd wi hz fun h' O' sb => h _ ?_
  have hd : ∃ o, h'.get? dx = some o := let ⟨o, _, _, e', _⟩ := O'.ns; ⟨o, e'⟩
  refine I.write (x := a) (e := dx) (by rw [e]; exact True.intro) (.inr ho) (fun b q hb z => (sb.2 b hb).trans z) hd ?_
  refine ⟨by rw [upd_ne O.ne]; exact ho, ?_, O.ne, O'.obj, _, O'.ns, fun g => ?_, fun g hg => ?_⟩
  · have := length_putF f y fs; omega
  · show RelO ((putF f y fs).lookup g) (if g = f then some u else mA g)
    rw [lookup_putF]
    by_cases q : g = f
    · rw [if_pos q, if_pos q]; exact ry
    · rw [if_neg q, if_neg q]; exact r g
  · by_cases q : g = f
    · rw [q]; exact (keys_putF f y fs).1
    · refine (keys_putF f y fs).2 g (wi g fun z => hg ?_)
      show (if g = f then some u else mA g) = none
      rw [if_neg q]; exact z

/-- a new instance, tracked, without attributes -/
theorem Inv.made (I : Inv X pins σ H s) : Inv X pins σ (upd (upd H s.heap.objs.size (.own (s.heap.objs.size + 1))) (s.heap.objs.size + 1) (.ins C s.heap.objs.size []))
    { s with heap := (s.heap.push PySem.W.emptyDict).push (PySem.W.instObj C s.heap.objs.size) } := by
  have e1 : (s.heap.push PySem.W.emptyDict).get? s.heap.objs.size = some PySem.W.emptyDict := Heap.get?_push_size s.heap rfl
  have e2 : ((s.heap.push PySem.W.emptyDict).push (PySem.W.instObj C s.heap.objs.size)).get? (s.heap.objs.size + 1) = some (PySem.W.instObj C s.heap.objs.size) := by
    have := Heap.get?_push_size (s.heap.push PySem.W.emptyDict) (o := PySem.W.instObj C s.heap.objs.size) rfl
    rwa [Heap.size_push] at this
  have e3 : (s.heap.push PySem.W.emptyDict).Ns s.heap.objs.size (fun _ => none) := ⟨PySem.W.emptyDict, #[], _, e1, rfl, (fun e he => absurd he (by simp)), fun _ => rfl⟩
  have I1 := I.laid (a := s.heap.objs.size) (o := .own (s.heap.objs.size + 1)) (h' := s.heap.push PySem.W.emptyDict) (t' := s.toks) (fun b u q => Heap.get?_push_of_some _ q) (Nat.le_refl _) ⟨_, e1⟩
  refine I1.laid (a := s.heap.objs.size + 1) (o := .ins C s.heap.objs.size []) (t' := s.toks) (fun b u q => Heap.get?_push_of_some _ q) (Nat.le_of_eq (Heap.size_push _ _)) ?_
  have ne : s.heap.objs.size ≠ s.heap.objs.size + 1 := Nat.ne_of_lt (Nat.lt_succ_self _)
  refine ⟨by rw [upd_ne ne, upd_same], Nat.zero_le _, ne, e2, fun _ => none, (Heap.Ns1.of_empty e3).at fun o q => Heap.get?_push_of_some _ q, fun _ => True.intro, fun y hy => absurd rfl hy⟩

/-- e.f where nothing but the object is asked: through attributeBase (super) and the last hold -/
theorem attr_of {prog : Program} {w : World} {env : Env} {e : Expr} {f : Str} {pos : Pos} {s : Shared} {Q : Value → Shared → Prop} (hb : attributeBase e f env (eval e env) = eval e env)
    (h : wpAny (model prog w) A (eval e env) (fun o s₁ => wpAny (model prog w) A (getAttr o f true) Q E s₁) E s) : wpAny (model prog w) A (eval (.Attribute e f pos) env) Q E s :=
  Attribute_any_ h (by rw [arm_eval_Attribute, hb])
end

/-! ### readings and rules -/
/-- e.f, an attribute of the instance -/
def tFld (K : PySem.W.Frag) (ta : TE) (f : Str) : TE := fun σ H Q => ta σ H fun x H1 => ∃ a C dx fs v, x = .ref a ∧ H1 a = some (.ins C dx fs) ∧ Cls K C ∧ NoAttr K C f ∧ fs.lookup f = some v ∧ Q v H1
/-- e.f, a constant of the class -/
def tCon (K : PySem.W.Frag) (ta : TE) (f : Str) : TE := fun σ H Q => ta σ H fun x H1 => ∃ a C dx fs v u, x = .ref a ∧ H1 a = some (.ins C dx fs) ∧ Cls K C ∧ Con K C f v u ∧ fs.lookup f = none ∧ Q v H1
/-- e.f = value -/
def sFld (K : PySem.W.Frag) (ta tv : TE) (f : Str) : TS := fun D σ H => tv σ H fun y H1 => ta σ H1 fun x H2 => ∃ a C dx fs, x = .ref a ∧ H2 a = some (.ins C dx fs) ∧ Cls K C ∧ NoAttr K C f ∧ fs.length < 1000 ∧
  D.nx σ (upd H2 a (.ins C dx (putF f y fs)))
/-- an augmented operator on two values -/
def InOp (X : Cx) (op : Operator) (rd : V → V → Hp → VK → Prop) : Prop :=
  ∀ (pins : List (Addr × Obj)) (s : Shared) (σ : St) (H : Hp) (x y : V) (u v : Value) (Q : VK), Inv X pins σ H s → RelV x u → RelV y v → rd x y H Q → wpAny (model X.prog X.w) X.A (inplaceOp op u v) (EP X pins σ Q) X.xe s
/-- e.f op= value -/
def sFldAug (K : PySem.W.Frag) (ta tv : TE) (rd : V → V → Hp → VK → Prop) (f : Str) : TS := fun D σ H => ta σ H fun x H1 => ∃ a C dx fs v, x = .ref a ∧ H1 a = some (.ins C dx fs) ∧ Cls K C ∧ NoAttr K C f ∧ fs.lookup f = some v ∧
  tv σ H1 fun y H2 => rd v y H2 fun z H3 => ∃ dx' fs', H3 a = some (.ins C dx' fs') ∧ fs'.length < 1000 ∧ D.nx σ (upd H3 a (.ins C dx' (putF f z fs')))

section
variable {X : Cx} {o e value : Expr} {f : Str} {pos pos' tpos : Pos} {ta tv : TE}
theorem pe_fld (he : PE X e ta) (hb : attributeBase e f X.env (eval e X.env) = eval e X.env) : PE X (.Attribute e f pos) (tFld X.K ta f) := by
  intro pins s σ H Q I h
  refine attr_of hb (thn (he pins s σ H _ I h) fun u s1 ⟨x, H1, I1, rx, a, C, dx, fs, v, ex, ea, c, n, l, q⟩ => ?_)
  subst ex
  obtain rfl : u = Value.ref a := rx
  exact getattr_ok I1 ea c n l fun u' s2 I2 ru => ⟨v, H1, I2, ru, q⟩
theorem pe_con (he : PE X e ta) (hb : attributeBase e f X.env (eval e X.env) = eval e X.env) : PE X (.Attribute e f pos) (tCon X.K ta f) := by
  intro pins s σ H Q I h
  refine attr_of hb (thn (he pins s σ H _ I h) fun u s1 ⟨x, H1, I1, rx, a, C, dx, fs, v, u0, ex, ea, c, k, l, q⟩ => ?_)
  subst ex
  obtain rfl : u = Value.ref a := rx
  exact getcon_ok I1 ea c k l fun s2 I2 => ⟨v, H1, I2, k.rel, q⟩
theorem ps_fld (ha : PE X o ta) (hv : PE X value tv) (hs : swapsWith value (some (.Attribute o f pos')) pos.line X.env = pure false) : PS X (.Assign [.Attribute o f pos'] value pos) (sFld X.K ta tv f) := by
  intro pins s σ H D I h
  refine plainObj_wpAny_Assign_Attribute (thn (hv pins s σ H _ I h) fun u s1 ⟨y, H1, I1, ry, q⟩ => thn (ha pins s1 σ H1 _ I1 q) fun ov s2 ⟨x, H2, I2, rx, a, C, dx, fs, ex, ea, c, n, l, q2⟩ => ?_) hs
  subst ex
  obtain rfl : ov = Value.ref a := rx
  exact setattr_ok I2 ea c n l ry fun s3 I3 => ⟨σ, _, I3, q2⟩
theorem ps_fldaug {op : Operator} {rd : V → V → Hp → VK → Prop} (ha : PE X o ta) (hv : PE X value tv) (hop : InOp X op rd) : PS X (.AugAssign (.Attribute o f tpos) op value pos) (sFldAug X.K ta tv rd f) := by
  intro pins s σ H D I h
  refine wpAny_AugAssign_AttributeAny (thn (ha pins s σ H _ I h) fun ov s1 ⟨x, H1, I1, rx, a, C, dx, fs, v, ex, ea, c, n, l, q⟩ => ?_)
  subst ex
  obtain rfl : ov = Value.ref a := rx
  refine getattr_ok I1 ea c n l fun u s2 I2 ru => thn (hv pins s2 σ H1 _ I2 q) fun w3 s3 ⟨y, H2, I3, ry, q3⟩ => thn (hop pins s3 σ H2 v y u w3 _ I3 ru ry q3) fun w4 s4 ⟨z, H3, I4, rz, dx', fs', ea', l', q4⟩ => ?_
  exact setattr_ok I4 ea' c n l' rz fun s5 I5 => ⟨σ, _, I5, q4⟩
def rAdd : V → V → Hp → VK → Prop := fun x y H Q => ∃ i j, x = .int i ∧ y = .int j ∧ Q (.int (i + j)) H
def rSub : V → V → Hp → VK → Prop := fun x y H Q => ∃ i j, x = .int i ∧ y = .int j ∧ Q (.int (i - j)) H
theorem in_add : InOp X .Add rAdd := by
  rintro pins s σ H x y u v Q I rx ry ⟨i, j, rfl, rfl, q⟩
  obtain ⟨t, rfl⟩ := (show ∃ t, u = Value.int i t from rx)
  obtain ⟨t', rfl⟩ := (show ∃ t', v = Value.int j t' from ry)
  exact PyProof.Rows.iadd_int ⟨.int (i + j), H, I.tok _, ⟨_, rfl⟩, q⟩
theorem in_sub : InOp X .Sub rSub := by
  rintro pins s σ H x y u v Q I rx ry ⟨i, j, rfl, rfl, q⟩
  obtain ⟨t, rfl⟩ := (show ∃ t, u = Value.int i t from rx)
  obtain ⟨t', rfl⟩ := (show ∃ t', v = Value.int j t' from ry)
  exact PyProof.Rows.isub_int ⟨.int (i - j), H, I.tok _, ⟨_, rfl⟩, q⟩

/-- what is between an instance and its method: the tree of a method call -/
theorem methcall_of {pl : Sem Bool} {m : Str} {apos : Pos} {args : List Expr} {pins : List (Addr × Obj)} {s : Shared} {σ : St} {H : Hp} {Q : Value → Shared → Prop} {te : TE} (he : PE X e te) (I : Inv X pins σ H s)
    (h : te σ H fun x H1 => ∃ a C dx fs g, x = .ref a ∧ H1 a = some (.ins C dx fs) ∧ Cls X.K C ∧ Meth X.K C m g ∧ fs.lookup m = none ∧
      ∀ s1, Inv X pins σ H1 s1 → wpAny (model X.prog X.w) X.A (callWith pos (.ref g) [.ref a] (backTo pos (starEach args X.env)) (backToKw pos (keywordEach [] X.env))) Q X.xe s1)
    (ht : eval (.Call (.Attribute e m apos) args [] pos) X.env = (do
      let ov ← eval e X.env
      standAt apos.atName
      let (f, first) ← holding [ov] (getMethod ov m pl)
      callWith pos f first (backTo pos (starEach args X.env)) (backToKw pos (keywordEach [] X.env)))) :
    wpAny (model X.prog X.w) X.A (eval (.Call (.Attribute e m apos) args [] pos) X.env) Q X.xe s := by
  refine PySem.W.methodCall_KW (pl := pl) (thn (he pins s σ H _ I h) fun u s1 ⟨x, H1, I1, rx, a, C, dx, fs, g, ex, ea, c, k, l, q⟩ => ?_) ht
  subst ex
  obtain rfl : u = Value.ref a := rx
  exact getmeth_ok I1 ea c k l (q s1 I1)
end

/-! ### isinstance -/
section
variable {X : Cx} {pins : List (Addr × Obj)} {σ : St} {H : Hp} {s : Shared} {A : Around} {E : Value → Shared → Prop} {Q : Value → Shared → Prop} {c : Value} {b : Bool}
/-- the type of a value, as the fragment's deciders take it; for an instance its class -/
inductive TyOf (K : PySem.W.Frag) (H : Hp) : V → Value → Prop where
  | non : TyOf K H .non (.type "NoneType")
  | bl (x : Bool) : TyOf K H (.bl x) (.type "bool")
  | int (i : Int) : TyOf K H (.int i) (.type "int")
  | str (x : Str) : TyOf K H (.str x) (.type "str")
  | flt (x : UInt64) : TyOf K H (.flt x) (.type "float")
  | lst {a : Addr} {xs : List V} (e : H a = some (.lst xs)) : TyOf K H (.ref a) (.type "list")
  | frz {a : Addr} {o : Obj} {xs : List V} (e : H a = some (.frz o (.lst xs))) : TyOf K H (.ref a) (.type "list")
  | tup {a : Addr} {xs : List V} (e : H a = some (.tup xs)) : TyOf K H (.ref a) (.type "tuple")
  | dK {a : Addr} {kvs : List (Key × V)} (e : H a = some (.dK kvs)) : TyOf K H (.ref a) (.type "dict")
  | dT {a : Addr} {kvs : List (List Key × V)} (e : H a = some (.dT kvs)) : TyOf K H (.ref a) (.type "dict")
  | ins {a C dx : Addr} {fs : List (Str × V)} (e : H a = some (.ins C dx fs)) (cl : Cls K C) (ha : PySem.W.findIn K (.ref C) "__class__" = some (some (.builtin "object.__class__")))
      (hn : PySem.W.specialIn K (.builtin "object.__class__") "__get__" = some (some (.builtin "getset_descriptor.__get__"))) (htk : PySem.W.takesIn K (.builtin "object.__class__") = some true)
      (hm : PySem.W.mroIn K C (.type "object") = some true) : TyOf K H (.ref a) (.ref C)
/-- isinstance(x, c) for one class c, a built-in or an own one: kitOne's answer -/
theorem isinst_ok {x : V} {u t : Value} (I : Inv X pins σ H s) (rx : RelV x u) (ty : TyOf X.K H x t) (e : PySem.W.kitOne X.K t c = some b) (h : ∀ tk, Q (.bool b) { s with toks := tk }) :
    wpAny (model X.prog X.w) A (call (.builtin "isinstance") [u, c]) Q E s := by
  cases ty with
  | non => cases (show u = Value.none from rx); exact PySem.W.kia_one PySem.W.kitx_none I.kIn True.intro e (fun z => nomatch z) h
  | bl y => cases (show u = Value.bool y from rx); exact PySem.W.kia_one PySem.W.kitx_bool I.kIn True.intro e (fun z => nomatch z) h
  | int i => obtain ⟨t, q⟩ := (show ∃ t, u = Value.int i t from rx); cases q; exact PySem.W.kia_one PySem.W.kitx_int I.kIn True.intro e (fun z => nomatch z) h
  | str y => obtain ⟨t, q⟩ := (show ∃ t, u = Value.str y t from rx); cases q; exact PySem.W.kia_one PySem.W.kitx_str I.kIn True.intro e (fun z => nomatch z) h
  | flt y => obtain ⟨t, q⟩ := (show ∃ t, u = Value.float y t from rx); cases q; exact PySem.W.kia_one PySem.W.kitx_float I.kIn True.intro e (fun z => nomatch z) h
  | @lst a xs ea =>
    cases (show u = Value.ref a from rx)
    obtain ⟨_, _, n, _, h1⟩ := (show ObjOk X.prog X.w H s.heap a (.lst xs) from I.hok a _ ea)
    exact PySem.W.kia_one PySem.W.kitx_list I.kIn ⟨_, h1, rfl⟩ e (fun z => nomatch z) h
  | @frz a ob xs ea =>
    cases (show u = Value.ref a from rx)
    obtain ⟨_, _, _, n, _, h1⟩ := (show ObjOk X.prog X.w H s.heap a (.frz ob (.lst xs)) from I.hok a _ ea)
    exact PySem.W.kia_one PySem.W.kitx_list I.kIn ⟨_, h1, rfl⟩ e (fun z => nomatch z) h
  | @tup a xs ea =>
    cases (show u = Value.ref a from rx)
    obtain ⟨_, _, _, p⟩ := (show ObjOk X.prog X.w H s.heap a (.tup xs) from I.hok a _ ea)
    obtain ⟨o, h1, h2, _⟩ := p
    exact PySem.W.kia_one PySem.W.kitx_tuple I.kIn ⟨o, h1, h2⟩ e (fun z => nomatch z) h
  | @dK a kvs ea =>
    cases (show u = Value.ref a from rx)
    obtain ⟨_, _, vs, _, p⟩ := (show ObjOk X.prog X.w H s.heap a (.dK kvs) from I.hok a _ ea)
    obtain ⟨o, es, ep, h1, h2, _⟩ := p
    exact PySem.W.kia_one PySem.W.kitx_dict I.kIn ⟨o, h1, h2.1⟩ e (fun z => nomatch z) h
  | @dT a kvs ea =>
    cases (show u = Value.ref a from rx)
    obtain ⟨_, _, xs, _, o, es, ep, h1, h2, _⟩ := (show ObjOk X.prog X.w H s.heap a (.dT kvs) from I.hok a _ ea)
    exact PySem.W.kia_one PySem.W.kitx_dict I.kIn ⟨o, h1, h2.1⟩ e (fun z => nomatch z) h
  | @ins a C dx fs ea cl ha hn htk hm =>
    cases (show u = Value.ref a from rx)
    obtain ⟨mA, O, _⟩ := ins_get I.hok ea
    obtain ⟨od, J, _⟩ := O.look
    exact PySem.W.kia_one (PySem.W.kitx_own (cl.get _) cl.hd ha hn htk hm) I.kIn J e (fun z => nomatch z) h
end
end L2

namespace L2
open PySem PySem.Spec PyProof.Rows

/-! ### room -/
structure Room (k : Nat) (A : Around) : Prop where
  hd : A.handled = none
  dp : A.depth + 3 * k + 5 < recursionLimit
  un : A.units + 16 * k + 200 < cLine
  gd : A.guards = some []
theorem Room.mono {j k : Nat} {A : Around} (r : Room k A) (h : j ≤ k) : Room j A := ⟨r.hd, by have := r.dp; omega, by have := r.un; omega, by first | exact r.gd | simpa [Around.under, Around.deeper, Code.guards, Code.isGuard, guardIds, pushGuards] using r.gd⟩
theorem Room.deeper {k : Nat} {A : Around} (r : Room (k + 1) A) (env : Env) : Room k (A.deeper env) :=
  ⟨r.hd, by have := r.dp; show A.depth + 1 + 3 * k + 5 < _; omega, by have := r.un; show A.units + 3 + 16 * k + 200 < _; omega, by first | exact r.gd | simpa [Around.under, Around.deeper, Code.guards, Code.isGuard, guardIds, pushGuards] using r.gd⟩
theorem Room.in1 {k : Nat} {A : Around} (r : Room (k + 1) A) : Room k A.in1 :=
  ⟨r.hd, by have := r.dp; show A.depth + 3 * k + 5 < _; omega, by have := r.un; show A.units + 1 + 16 * k + 200 < _; omega, by first | exact r.gd | simpa [Around.under, Around.deeper, Code.guards, Code.isGuard, guardIds, pushGuards] using r.gd⟩
theorem make_depth {A : Around} {C : Addr} {us : List Value} {kw : List (Str × Value)} : (A.under (.builtin "type.__call__" ⟨.ref C :: us, kw⟩)).depth = A.depth + 1 := by
  first | rfl | simp [Around.under, Code.weight, Code.isCreation, Code.isGuard, Code.isCaller, Code.frames, Code.isFrame, guardIds]
theorem make_units {A : Around} {C : Addr} {us : List Value} {kw : List (Str × Value)} : (A.under (.builtin "type.__call__" ⟨.ref C :: us, kw⟩)).units = A.units + 1 := by
  first | rfl | simp [Around.under, Code.cUnits, Code.frames, Code.isFrame]
theorem Room.make {k : Nat} {A : Around} (r : Room (k + 1) A) (C : Addr) (us : List Value) (kw : List (Str × Value)) : Room k (A.under (.builtin "type.__call__" ⟨.ref C :: us, kw⟩)) :=
  ⟨r.hd, by have := r.dp; rw [make_depth]; omega, by have := r.un; rw [make_units]; omega, by first | exact r.gd | simpa [Around.under, Around.deeper, Code.guards, Code.isGuard, guardIds, pushGuards] using r.gd⟩
theorem Room.depth {k : Nat} {A : Around} (r : Room k A) : A.depth < recursionLimit := by have := r.dp; omega
theorem Room.units {k : Nat} {A : Around} (r : Room k A) : A.units + 64 < cLine := by have := r.un; omega
theorem Room.units0 {k : Nat} {A : Around} (r : Room k A) : A.units < cLine := by have := r.un; omega

/-! ### argument lists and displays -/
def tNil : TA := fun _ H Q => Q [] H
def tCons (ta : TE) (tr : TA) : TA := fun σ H Q => ta σ H fun x H1 => tr σ H1 fun xs H2 => Q (x :: xs) H2
section
variable {X : Cx} {e : Expr} {es : List Expr} {te : TE} {t : TA} {pos : Pos}
theorem pa_nil : PA X [] tNil := fun _ _ _ _ H Q I h => Calls.spliced_nil ⟨[], H, I, .nil, h⟩
theorem pa_cons (ha : PE X e te) (hr : PA X es t) (hs : starEach (e :: es) X.env = (false, eval e X.env) :: starEach es X.env := by rfl) : PA X (e :: es) (tCons te t) := by
  intro pos pins s σ H Q I h
  rw [hs]
  show wpAny _ _ (spliced ((false, eval e X.env) :: backTo pos (starEach es X.env))) _ _ s
  refine Calls.spliced_cons (thn (ha pins s σ H _ I h) fun u s1 ⟨x, H1, I1, r1, q1⟩ => ?_)
  exact thn (hr pos pins s1 σ H1 _ I1 q1) fun us s2 ⟨xs, H2, I2, r2, q2⟩ => ⟨x :: xs, H2, I2, .cons r1 r2, q2⟩

/-- a tuple, a list of written items -/
def tTup (t : TA) : TE := fun σ H Q => t σ H fun xs H1 => xs.length ≤ sizeLine ∧ ∀ p, H1 p = none → Q (.ref p) (upd H1 p (.tup xs))
def tLst (t : TA) : TE := fun σ H Q => t σ H fun xs H1 => xs.length ≤ sizeLine ∧ ∀ p, H1 p = none → Q (.ref p) (upd H1 p (.lst xs))
theorem pe_tup {x1} (h : PA X es t) : PE X (.Tuple es x1 pos) (tTup t) := by
  intro pins s σ H Q I hq
  refine wpAny_Tuple_spliced (thn (h pos pins s σ H _ I hq) fun us s1 ⟨xs, H1, I1, r, z, q⟩ => ⟨by rw [← r.length]; exact z, ?_⟩)
  have hf : H1 s1.heap.objs.size = none := I1.hok.fresh (Nat.le_refl _)
  refine ⟨.ref s1.heap.objs.size, upd H1 s1.heap.objs.size (.tup xs), I1.laid (t' := s1.toks) (fun b u e => Heap.get?_push_of_some _ e) (Nat.le_refl _) ?_, rfl, q _ hf⟩
  exact ⟨z, us, r, ⟨_, Heap.get?_push_size _ rfl, rfl, _, rfl⟩⟩
theorem pe_lst (h : PA X es t) : PE X (.List es pos) (tLst t) := by
  intro pins s σ H Q I hq
  refine wpAny_List_spliced (thn (h pos pins s σ H _ I hq) fun us s1 ⟨xs, H1, I1, r, z, q⟩ => ⟨by rw [← r.length]; exact z, ?_⟩)
  have hf : H1 s1.heap.objs.size = none := I1.hok.fresh (Nat.le_refl _)
  refine ⟨.ref s1.heap.objs.size, upd H1 s1.heap.objs.size (.lst xs), I1.laid (t' := s1.toks) (fun b u e => Heap.get?_push_of_some _ e) (Nat.le_refl _) ?_, rfl, q _ hf⟩
  exact ⟨z, us, 0, r, Heap.get?_push_size _ rfl⟩
end

/-! ### what a def promises -/
/-- a def's promise: the bound arguments in the parameters' order, the heap, the wanted end, the wanted exception -/
abbrev Sp := List V → Hp → VK → XK → Prop
/-- how an exception lies behind a call (file 08 gives it): the callers' frames, abstract heap and state ahead of the call, the wish, the exception, the state -/
abbrev CXT := List Env → Hp → Shared → XK → Value → Shared → Prop

/-- the state at a call -/
structure Env0 (P : Program) (w : World) (K : PySem.W.Frag) (mg : Str → Option Value) (base : Heap) (A : Around) (outer : List Env) (s : Shared) (H : Hp) : Prop where
  frames : A.frames = some outer
  mod : Mod K mg base
  bs : ∀ b o, base.get? b = some o → s.heap.get? b = some o ∧ H b = none
  bsz : base.objs.size ≤ s.heap.objs.size
  funs : s.heap.FunFrames base outer
  frf : ∀ b ∈ frs outer, H b = none
  hok : HOk P w H s.heap
  bare : AllBare s.gens
/-- a call's end -/
def CE (outer : List Env) (P : Program) (w : World) (H : Hp) (s : Shared) (Q : VK) (u : Value) (s' : Shared) : Prop :=
  ∃ v H', s'.os = s.os ∧ AllBare s'.gens ∧ Un (frs outer) [] H H' s.heap s'.heap ∧ HOk P w H' s'.heap ∧ RelV v u ∧ Q v H'
def CR (CX : CXT) (outer : List Env) (P : Program) (w : World) (H : Hp) (s : Shared) (Q : VK) (E : XK) (r : Result) (s' : Shared) : Prop :=
  match r with
  | .ok (.ret u) => CE outer P w H s Q u s'
  | .ok _ => False
  | .error e => CX outer H s E e s'
structure FnOk (P : Program) (w : World) (K : PySem.W.Frag) (mg : Str → Option Value) (base : Heap) (CX : CXT) (k : Nat) (f : Addr) (fd : FuncData) (ps : List Str) (sp : Sp) : Prop where
  len : ∀ vs H Q E, sp vs H Q E → vs.length = ps.length
  run : ∀ (A : Around) (outer : List Env) (s : Shared) (H : Hp) (args : Args) (us : List Value) (vs : List V) (Q : VK) (E : XK), Room k A → Env0 P w K mg base A outer s H → BindsTo s fd args (ps.zip us) → Vals vs us → sp vs H Q E →
    codeAny (model P w) A (.call (.ref f) args) (CR CX outer P w H s Q E) s
theorem FnOk.mono {P : Program} {w : World} {K : PySem.W.Frag} {mg : Str → Option Value} {base : Heap} {CX : CXT} {j k : Nat} {f : Addr} {fd : FuncData} {ps : List Str} {sp : Sp} (F : FnOk P w K mg base CX j f fd ps sp) (h : j ≤ k) :
    FnOk P w K mg base CX k f fd ps sp := ⟨F.len, fun A outer s H args us vs Q E hr => F.run A outer s H args us vs Q E (hr.mono h)⟩
/-- a weaker promise -/
theorem FnOk.imp {P : Program} {w : World} {K : PySem.W.Frag} {mg : Str → Option Value} {base : Heap} {CX : CXT} {k : Nat} {f : Addr} {fd : FuncData} {ps : List Str} {sp sp' : Sp} (F : FnOk P w K mg base CX k f fd ps sp)
    (h : ∀ vs H Q E, sp' vs H Q E → sp vs H Q E) : FnOk P w K mg base CX k f fd ps sp' :=
  ⟨fun vs H Q E q => F.len vs H Q E (h _ _ _ _ q), fun A outer s H args us vs Q E hr he hb hv hs => F.run A outer s H args us vs Q E hr he hb hv (h _ _ _ _ hs)⟩

theorem Env0.make {P : Program} {w : World} {K : PySem.W.Frag} {mg : Str → Option Value} {base : Heap} {A : Around} {outer : List Env} {s : Shared} {H : Hp} (e : Env0 P w K mg base A outer s H) (C : Addr) (us : List Value) (kw : List (Str × Value)) :
    Env0 P w K mg base (A.under (.builtin "type.__call__" ⟨.ref C :: us, kw⟩)) outer s H := ⟨by first | exact e.frames | (simpa [Around.under, Code.envs, Code.isFrame, pushEnvs] using e.frames), e.mod, e.bs, e.bsz, e.funs, e.frf, e.hok, e.bare⟩
theorem Env0.in1 {P : Program} {w : World} {K : PySem.W.Frag} {mg : Str → Option Value} {base : Heap} {A : Around} {outer : List Env} {s : Shared} {H : Hp} (e : Env0 P w K mg base A outer s H) :
    Env0 P w K mg base A.in1 outer s H := ⟨e.frames, e.mod, e.bs, e.bsz, e.funs, e.frf, e.hok, e.bare⟩

section
variable {X : Cx} {pins : List (Addr × Obj)} {σ : St} {H : Hp} {s s' : Shared}
/-- from a body: what a callee wants -/
theorem Inv.env0 (I : Inv X pins σ H s) : Env0 X.prog X.w X.K X.mg X.base X.A X.stack s H :=
  ⟨I.ok.frames, I.ok.mod, I.bs, Nat.le_trans I.ok.bsz I.sz, I.stack, I.stkFree, I.hok, I.bare⟩
/-- behind a call -/
theorem Inv.after {Q : VK} {u : Value} (I : Inv X pins σ H s) (h : CE X.stack X.prog X.w H s Q u s') : EP X pins σ Q u s' := by
  obtain ⟨v, H', os, bare, un, hok, r, q⟩ := h
  obtain ⟨hh, g, d, t, os'⟩ := s'
  obtain rfl : os' = s.os := os
  exact ⟨v, H', I.call (h' := hh) (g' := g) (d' := d) (t' := t) (ch := []) un hok bare (fun b z => absurd z (by simp)), r, q⟩
end

/-! ### calls -/
/-- f(..): the written arguments, then the defaults dvs; E: what is wanted of an exception -/
def tCall (sp : Sp) (dvs : List V) (E : XK) (t : TA) : TE := fun σ H Q => t σ H fun vs H1 => sp (vs ++ dvs) H1 Q E
/-- o.m(..) of an instance of the class at C -/
def tMeth (C : Addr) (m : Str) (sp : Sp) (dvs : List V) (E : XK) (ta : TE) (t : TA) : TE := fun σ H Q => ta σ H fun x H1 => ∃ a dx fs, x = .ref a ∧ H1 a = some (.ins C dx fs) ∧ fs.lookup m = none ∧
  t σ H1 fun vs H2 => sp (x :: (vs ++ dvs)) H2 Q E
/-- C(..): a new instance and its dict, then __init__ -/
def tMake (C : Addr) (sp : Sp) (dvs : List V) (E : XK) (t : TA) : TE := fun σ H Q => t σ H fun vs H1 => ∀ x dx, H1 x = none → H1 dx = none → dx ≠ x →
  sp (.ref x :: (vs ++ dvs)) (upd (upd H1 dx (.own x)) x (.ins C dx [])) (fun v H2 => v = .non ∧ Q (.ref x) H2) E

/-- how the parameters are bound: us the positional arguments, kw the keywords' values by name, ds the defaults that fill up -/
def Binds (K : PySem.W.Frag) (fd : FuncData) (ps : List Str) (ds : List Value) : Prop :=
  ∀ (s : Shared) (us : List Value), K.In s.heap → (us ++ ds).length = ps.length → BindsTo s fd ⟨us, []⟩ (ps.zip (us ++ ds))
/-- every parameter is given -/
theorem Binds.all {K : PySem.W.Frag} {fd : FuncData} {ps : List Str} (h : ∀ us : List Value, us.length = ps.length → bindArgs fd ⟨us, []⟩ = pure (ps.zip us)) : Binds K fd ps [] := fun s us _ hl => by
  rw [List.append_nil] at hl ⊢
  exact .of_eq (h us hl)

/-- an exception of a callee reaches what this body wants of exceptions -/
def Passes (CX : CXT) (X : Cx) (E : XK) : Prop := ∀ (pins : List (Addr × Obj)) (σ : St) (H : Hp) (s : Shared) (e : Value) (s' : Shared), Inv X pins σ H s → CX X.stack H s E e s' → X.xe e s'

section
variable {X : Cx} {CX : CXT} {k : Nat} {f C : Addr} {fd : FuncData} {ps : List Str} {sp : Sp} {dvs : List V} {ds : List Value} {E : XK} {x m : Str} {p pos apos : Pos} {e o : Expr} {es : List Expr} {ta : TE} {t : TA}

/-- the callee runs -/
theorem run_fn {pins : List (Addr × Obj)} {σ : St} {H : Hp} {s : Shared} {Q : VK} {us : List Value} {vs : List V} (F : FnOk X.prog X.w X.K X.mg X.base CX k f fd ps sp) (hr : Room k X.A) (hb : Binds X.K fd ps ds) (hd : Vals dvs ds) (hx : Passes CX X E)
    (I : Inv X pins σ H s) (r : Vals vs us) (h : sp (vs ++ dvs) H Q E) : wpAny (model X.prog X.w) X.A (call (.ref f) us) (EP X pins σ Q) X.xe s := by
  have r2 : Vals (vs ++ dvs) (us ++ ds) := r.append hd
  have hl : (us ++ ds).length = ps.length := by rw [← r2.length]; exact F.len _ _ _ _ h
  refine wpAny_call (codeAny_mono (F.run X.A X.stack s H ⟨us, []⟩ (us ++ ds) (vs ++ dvs) Q E hr I.env0 (hb s us I.kIn hl) r2 h) fun r s' hq => ?_)
  cases r with
  | error e => exact hx pins σ H s e s' I hq
  | ok fl =>
    cases fl with
    | ret u => exact I.after hq
    | next => exact False.elim hq
    | brk => exact False.elim hq
    | cont => exact False.elim hq

theorem pe_call (F : FnOk X.prog X.w X.K X.mg X.base CX k f fd ps sp) (hr : Room k X.A) (hg : Gl X x) (hm : X.mg x = some (.ref f)) (hk : PySem.W.keepIn X.K (.ref f) = true) (hb : Binds X.K fd ps ds) (hd : Vals dvs ds) (hx : Passes CX X E)
    (ha : PA X (e :: es) t) (hdb : (x == ("__debug__" : Str)) = false := by decide) (he : starEach (e :: es) X.env = (false, eval e X.env) :: starEach es X.env := by rfl) (hpl : (backTo pos (starEach es X.env)).any (·.1) = false := by rfl) :
    PE X (.Call (.Name x p) (e :: es) [] pos) (tCall sp dvs E t) := by
  intro pins s σ H Q I h
  refine wpAny_Call_Name_kw (ld_glob I hg hm ?_ hdb)
  refine PySem.W.callWith_K (h₀ := X.base) I.ok.mod.kin hk (thn (ha pos pins s σ H _ I h) fun us s1 ⟨vs, H1, I1, r, q⟩ => ⟨I1.kIn, ?_⟩) he hpl
  exact run_fn F hr hb hd hx I1 r q
theorem pe_call0 (F : FnOk X.prog X.w X.K X.mg X.base CX k f fd ps sp) (hr : Room k X.A) (hg : Gl X x) (hm : X.mg x = some (.ref f)) (hk : PySem.W.keepIn X.K (.ref f) = true) (hb : Binds X.K fd ps ds) (hd : Vals dvs ds) (hx : Passes CX X E)
    (hdb : (x == ("__debug__" : Str)) = false := by decide) : PE X (.Call (.Name x p) [] [] pos) (tCall sp dvs E tNil) := by
  intro pins s σ H Q I h
  refine wpAny_Call_Name_kw (ld_glob I hg hm ?_ hdb)
  exact PySem.W.callWith_K0 I.kIn hk (run_fn (us := []) F hr hb hd hx I .nil h)

/-- o.m(e, ..) -/
theorem pe_meth {pl : Sem Bool} (he : PE X o ta) (c : Cls X.K C) (hm : Meth X.K C m f) (F : FnOk X.prog X.w X.K X.mg X.base CX k f fd ps sp) (hr : Room k X.A) (hb : Binds X.K fd ps ds) (hd : Vals dvs ds) (hx : Passes CX X E) (ha : PA X (e :: es) t)
    (hst : starEach (e :: es) X.env = (false, eval e X.env) :: starEach es X.env := by rfl) (hpl : (backTo pos (starEach es X.env)).any (·.1) = false := by rfl)
    (ht : eval (.Call (.Attribute o m apos) (e :: es) [] pos) X.env = (do
      let ov ← eval o X.env
      standAt apos.atName
      let (f, first) ← holding [ov] (getMethod ov m pl)
      callWith pos f first (backTo pos (starEach (e :: es) X.env)) (backToKw pos (keywordEach [] X.env))) := by rfl) :
    PE X (.Call (.Attribute o m apos) (e :: es) [] pos) (tMeth C m sp dvs E ta t) := by
  intro pins s σ H Q I h
  refine PySem.W.methodCall_KW (pl := pl) (thn (he pins s σ H _ I h) fun u s1 ⟨x, H1, I1, rx, a, dx, fs, ex, ea, l, q⟩ => ?_) ht
  subst ex
  obtain rfl : u = Value.ref a := rx
  refine getmeth_ok I1 ea c hm l ?_
  refine PySem.W.callWith_K (first := [.ref a]) (h₀ := X.base) I.ok.mod.kin hm.kp (thn (ha pos pins s1 σ H1 _ I1 q) fun us s2 ⟨vs, H2, I2, r, q2⟩ => ⟨I2.kIn, ?_⟩) hst hpl
  exact run_fn (us := .ref a :: us) (vs := .ref a :: vs) F hr hb hd hx I2 (.cons rfl r) q2
/-- o.m() -/
theorem pe_meth0 {pl : Sem Bool} (he : PE X o ta) (c : Cls X.K C) (hm : Meth X.K C m f) (F : FnOk X.prog X.w X.K X.mg X.base CX k f fd ps sp) (hr : Room k X.A) (hb : Binds X.K fd ps ds) (hd : Vals dvs ds) (hx : Passes CX X E)
    (ht : eval (.Call (.Attribute o m apos) [] [] pos) X.env = (do
      let ov ← eval o X.env
      standAt apos.atName
      let (f, first) ← holding [ov] (getMethod ov m pl)
      callWith pos f first (backTo pos (starEach [] X.env)) (backToKw pos (keywordEach [] X.env))) := by rfl) :
    PE X (.Call (.Attribute o m apos) [] [] pos) (tMeth C m sp dvs E ta tNil) := by
  intro pins s σ H Q I h
  refine PySem.W.methodCall_KW (pl := pl) (thn (he pins s σ H _ I h) fun u s1 ⟨x, H1, I1, rx, a, dx, fs, ex, ea, l, q⟩ => ?_) ht
  subst ex
  obtain rfl : u = Value.ref a := rx
  refine getmeth_ok I1 ea c hm l ?_
  exact PySem.W.callWith_K0 (first := [.ref a]) I1.kIn hm.kp (run_fn (us := [.ref a]) (vs := [.ref a]) F hr hb hd hx I1 (.cons rfl .nil) q)

/-- what a class must have to be made -/
structure Mk (K : PySem.W.Frag) (C f : Addr) : Prop where
  makes : PySem.W.makesIn K C = true
  init : PySem.W.findIn K (.ref C) "__init__" = some (some (.ref f))
  fn : PySem.W.isFn K (.ref f) = true
  kp : PySem.W.keepIn K (.ref C) = true

theorem run_make {pins : List (Addr × Obj)} {σ : St} {H : Hp} {s : Shared} {Q : VK} {us : List Value} {vs : List V} (M : Mk X.K C f) (F : FnOk X.prog X.w X.K X.mg X.base CX k f fd ps sp) (hr : Room (k + 1) X.A) (hb : Binds X.K fd ps ds) (hd : Vals dvs ds)
    (hx : Passes CX X E) (I : Inv X pins σ H s) (r : Vals vs us)
    (h : ∀ x dx, H x = none → H dx = none → dx ≠ x → sp (.ref x :: (vs ++ dvs)) (upd (upd H dx (.own x)) x (.ins C dx [])) (fun v H2 => v = .non ∧ Q (.ref x) H2) E) :
    wpAny (model X.prog X.w) X.A (call (.ref C) us) (EP X pins σ Q) X.xe s := by
  have hq := h (s.heap.objs.size + 1) s.heap.objs.size (I.hok.fresh (Nat.le_succ _)) (I.hok.fresh (Nat.le_refl _)) (Nat.ne_of_lt (Nat.lt_succ_self _))
  have I2 := Inv.made (C := C) I
  have r2 : Vals (V.ref (s.heap.objs.size + 1) :: (vs ++ dvs)) (Value.ref (s.heap.objs.size + 1) :: (us ++ ds)) := .cons rfl (r.append hd)
  have hl : (Value.ref (s.heap.objs.size + 1) :: us ++ ds).length = ps.length := by
    have e := r2.length
    rw [F.len _ _ _ _ hq] at e
    exact e.symm
  refine wpAny_call (make_map (f := f) I.kIn M.makes M.init (beq_iff_eq.mp M.fn) (codeAny_mono (F.run _ X.stack _ _ ⟨Value.ref (s.heap.objs.size + 1) :: us, []⟩ (Value.ref (s.heap.objs.size + 1) :: (us ++ ds)) _ _ E (hr.make C us [])
    (I2.env0.make C us []) (hb _ (Value.ref (s.heap.objs.size + 1) :: us) I2.kIn hl) r2 hq) fun r s' hq' => ?_))
  cases r with
  | error e => exact hx pins σ _ _ e s' I2 hq'
  | ok fl =>
    cases fl with
    | ret u =>
      obtain ⟨v, H', I3, rv, ev, q3⟩ := I2.after hq'
      subst ev
      exact ⟨rv, ⟨V.ref (s.heap.objs.size + 1), H', I3, rfl, q3⟩⟩
    | next => exact False.elim hq'
    | brk => exact False.elim hq'
    | cont => exact False.elim hq'
theorem pe_make (M : Mk X.K C f) (F : FnOk X.prog X.w X.K X.mg X.base CX k f fd ps sp) (hr : Room (k + 1) X.A) (hg : Gl X x) (hm : X.mg x = some (.ref C)) (hb : Binds X.K fd ps ds) (hd : Vals dvs ds) (hx : Passes CX X E)
    (ha : PA X (e :: es) t) (hdb : (x == ("__debug__" : Str)) = false := by decide) (he : starEach (e :: es) X.env = (false, eval e X.env) :: starEach es X.env := by rfl) (hpl : (backTo pos (starEach es X.env)).any (·.1) = false := by rfl) :
    PE X (.Call (.Name x p) (e :: es) [] pos) (tMake C sp dvs E t) := by
  intro pins s σ H Q I h
  refine wpAny_Call_Name_kw (ld_glob I hg hm ?_ hdb)
  refine PySem.W.callWith_K (h₀ := X.base) I.ok.mod.kin M.kp (thn (ha pos pins s σ H _ I h) fun us s1 ⟨vs, H1, I1, r, q⟩ => ⟨I1.kIn, ?_⟩) he hpl
  exact run_make M F hr hb hd hx I1 r q
theorem pe_make0 (M : Mk X.K C f) (F : FnOk X.prog X.w X.K X.mg X.base CX k f fd ps sp) (hr : Room (k + 1) X.A) (hg : Gl X x) (hm : X.mg x = some (.ref C)) (hb : Binds X.K fd ps ds) (hd : Vals dvs ds) (hx : Passes CX X E)
    (hdb : (x == ("__debug__" : Str)) = false := by decide) : PE X (.Call (.Name x p) [] [] pos) (tMake C sp dvs E tNil) := by
  intro pins s σ H Q I h
  refine wpAny_Call_Name_kw (ld_glob I hg hm ?_ hdb)
  exact PySem.W.callWith_K0 I.kIn M.kp (run_make (us := []) M F hr hb hd hx I .nil h)
end

/-! ### keywords -/
/-- the values of the keywords, from the left -/
def PK (X : Cx) (kws : List Keyword) (t : TA) : Prop :=
  ∀ (pos : Pos) (pins : List (Addr × Obj)) (s : Shared) (σ : St) (H : Hp) (Q : List V → Hp → Prop), Inv X pins σ H s → t σ H Q → wpAny (model X.prog X.w) X.A (evalAll ((backToKw pos (keywordEach kws X.env)).map (·.2))) (AP X pins σ Q) X.xe s
section
variable {X : Cx} {CX : CXT} {k : Nat} {f C : Addr} {fd : FuncData} {ps ks : List Str} {sp : Sp} {E : XK} {x m : Str} {p pos apos kpos : Pos} {e o : Expr} {es : List Expr} {kws : List Keyword} {te ta : TE} {t tk : TA} {nm : Option Str}
theorem pk_nil : PK X [] tNil := fun _ _ _ _ H Q I h => wpAny_evalAll_nil ⟨[], H, I, .nil, h⟩
theorem pk_cons (ha : PE X e te) (hr : PK X kws t) : PK X (⟨nm, e, kpos⟩ :: kws) (tCons te t) := by
  intro pos pins s σ H Q I h
  show wpAny _ _ (evalAll ((do let v ← eval e X.env; standAt pos; pure v) :: (backToKw pos (keywordEach kws X.env)).map (·.2))) _ _ s
  refine wpAny_evalAll_cons (wpAny_bind (thn (ha pins s σ H _ I h) fun u s1 ⟨x, H1, I1, r1, q1⟩ => wpAny_bind (wpAny_standAt (wpAny_pure ?_))))
  exact thn (hr pos pins s1 σ H1 _ I1 q1) fun us s2 ⟨xs, H2, I2, r2, q2⟩ => ⟨x :: xs, H2, I2, .cons r1 r2, q2⟩

/-- how a call with keywords binds: g puts the positional values us and the keywords' values ws (names ks) in the parameters' order, defaults among them -/
structure KBinds (K : PySem.W.Frag) (fd : FuncData) (ps ks : List Str) (g : List Value → List Value → List Value) (gV : List V → List V → List V) : Prop where
  to : ∀ (s : Shared) (us ws : List Value), K.In s.heap → (g us ws).length = ps.length → BindsTo s fd ⟨us, ks.zip ws⟩ (ps.zip (g us ws))
  rel : ∀ {vs : List V} {us : List Value} {zs : List V} {ws : List Value}, Vals vs us → Vals zs ws → Vals (gV vs zs) (g us ws)
def tCallK (sp : Sp) (gV : List V → List V → List V) (E : XK) (t tk : TA) : TE := fun σ H Q => t σ H fun vs H1 => tk σ H1 fun zs H2 => sp (gV vs zs) H2 Q E
variable {g : List Value → List Value → List Value} {gV : List V → List V → List V}
theorem run_fnk {pins : List (Addr × Obj)} {σ : St} {H : Hp} {s : Shared} {Q : VK} {us ws : List Value} {vs zs : List V} (F : FnOk X.prog X.w X.K X.mg X.base CX k f fd ps sp) (hr : Room k X.A) (hb : KBinds X.K fd ps ks g gV) (hx : Passes CX X E)
    (I : Inv X pins σ H s) (r : Vals vs us) (rz : Vals zs ws) (h : sp (gV vs zs) H Q E) : wpAny (model X.prog X.w) X.A (call (.ref f) us (ks.zip ws)) (EP X pins σ Q) X.xe s := by
  have r2 := hb.rel r rz
  have hl : (g us ws).length = ps.length := by rw [← r2.length]; exact F.len _ _ _ _ h
  refine wpAny_call (codeAny_mono (F.run X.A X.stack s H ⟨us, ks.zip ws⟩ (g us ws) (gV vs zs) Q E hr I.env0 (hb.to s us ws I.kIn hl) r2 h) fun r s' hq => ?_)
  cases r with
  | error e => exact hx pins σ H s e s' I hq
  | ok fl =>
    cases fl with
    | ret u => exact I.after hq
    | next => exact False.elim hq
    | brk => exact False.elim hq
    | cont => exact False.elim hq
/-- f(e, .., k = v, ..) -/
theorem pe_callK (F : FnOk X.prog X.w X.K X.mg X.base CX k f fd ps sp) (hr : Room k X.A) (hg : Gl X x) (hm : X.mg x = some (.ref f)) (hk : PySem.W.keepIn X.K (.ref f) = true) (hb : KBinds X.K fd ps ks g gV) (hx : Passes CX X E)
    (ha : PA X (e :: es) t) (hkw : PK X kws tk) (hall : (backToKw pos (keywordEach kws X.env)).all (·.1.isSome) = true := by rfl) (hks : (backToKw pos (keywordEach kws X.env)).filterMap (·.1) = ks := by rfl)
    (hdb : (x == ("__debug__" : Str)) = false := by decide) (he : starEach (e :: es) X.env = (false, eval e X.env) :: starEach es X.env := by rfl)
    (hpl : ((backTo pos (starEach (e :: es) X.env)).any (·.1) || (backToKw pos (keywordEach kws X.env)).any (·.1.isNone)) = false := by rfl) :
    PE X (.Call (.Name x p) (e :: es) kws pos) (tCallK sp gV E t tk) := by
  intro pins s σ H Q I h
  refine wpAny_Call_Name_kw (ld_glob I hg hm ?_ hdb)
  refine PySem.W.callWith_KW (h₀ := X.base) I.ok.mod.kin hk hall (thn (ha pos pins s σ H _ I h) fun us s1 ⟨vs, H1, I1, r, q⟩ => ?_) hpl he
  refine thn (hkw pos pins s1 σ H1 _ I1 q) fun ws s2 ⟨zs, H2, I2, rz, q2⟩ => ⟨I2.kIn, ?_⟩
  rw [hks]
  exact run_fnk F hr hb hx I2 r rz q2
end

/-! ### a def's body keeps its promise -/
/-- names: the parameters first -/
structure FnScope (N P : List Str) (sc : Scope) : Prop where
  kind : sc.kind = .function
  co : sc.isCoroutine = false
  gen : sc.isGenerator = false
  nd : N.Nodup
  pre : N.take P.length = P
  par : ∀ x ∈ P, sc.names.lookup x = some .local ∨ sc.names.lookup x = some .cell
  nofree : ∀ y ∈ sc.names, y.2 ≠ .free

theorem bindL_out {kindOf : Str → Option NameKind} {x : Str} : ∀ {binds : List (Str × Value)} {m : Str → Option Value}, (∀ v, (x, v) ∉ binds) → bindL kindOf binds m x = m x
  | [], _, _ => rfl
  | (n, v) :: r, m, h => by
    unfold bindL
    rw [bindL_out fun w hw => h w (List.mem_cons_of_mem _ hw)]
    split
    · have : x ≠ n := by rintro rfl; exact h v List.mem_cons_self
      simp [this]
    · rfl
theorem bindC_out {kindOf : Str → Option NameKind} {x : Str} : ∀ {binds : List (Str × Value)} {m : Str → Option Value}, (∀ v, (x, v) ∉ binds) → bindC kindOf binds m x = m x
  | [], _, _ => rfl
  | (n, v) :: r, m, h => by
    unfold bindC
    rw [bindC_out fun w hw => h w (List.mem_cons_of_mem _ hw)]
    split
    · rfl
    · have : x ≠ n := by rintro rfl; exact h v List.mem_cons_self
      simp [this]
theorem bindL_get {kindOf : Str → Option NameKind} {x : Str} {v : Value} : ∀ {P : List Str} {vs : List Value} {i : Nat} {m : Str → Option Value}, P.Nodup → P[i]? = some x → vs[i]? = some v → kindOf x = some .local →
    bindL kindOf (P.zip vs) m x = some v
  | [], _, _, _, _, h, _, _ => by simp at h
  | _ :: _, [], _, _, _, _, h, _ => by simp at h
  | p :: P, w :: vs, 0, m, nd, h1, h2, hk => by
    simp at h1 h2; subst h1; subst h2
    show bindL kindOf ((p, w) :: P.zip vs) m p = _
    unfold bindL
    rw [bindL_out fun v hv => (List.nodup_cons.mp nd).1 (List.of_mem_zip hv).1, if_pos hk]
    simp
  | p :: P, w :: vs, i + 1, m, nd, h1, h2, hk => by
    show bindL kindOf ((p, w) :: P.zip vs) m x = _
    unfold bindL
    exact bindL_get (i := i) (List.nodup_cons.mp nd).2 (by simpa using h1) (by simpa using h2) hk
theorem bindC_get {kindOf : Str → Option NameKind} {x : Str} {v : Value} : ∀ {P : List Str} {vs : List Value} {i : Nat} {m : Str → Option Value}, P.Nodup → P[i]? = some x → vs[i]? = some v → kindOf x ≠ some .local →
    bindC kindOf (P.zip vs) m x = some v
  | [], _, _, _, _, h, _, _ => by simp at h
  | _ :: _, [], _, _, _, _, h, _ => by simp at h
  | p :: P, w :: vs, 0, m, nd, h1, h2, hk => by
    simp at h1 h2; subst h1; subst h2
    show bindC kindOf ((p, w) :: P.zip vs) m p = _
    unfold bindC
    rw [bindC_out fun v hv => (List.nodup_cons.mp nd).1 (List.of_mem_zip hv).1, if_neg hk]
    simp
  | p :: P, w :: vs, i + 1, m, nd, h1, h2, hk => by
    show bindC kindOf ((p, w) :: P.zip vs) m x = _
    unfold bindC
    exact bindC_get (i := i) (List.nodup_cons.mp nd).2 (by simpa using h1) (by simpa using h2) hk

/-- the names' values at the entry -/
def start (N : List Str) (vs : List V) : St := vs.map some ++ List.replicate (N.length - vs.length) none

/-- the context of a def's body, at its entry; an exception leaves the frame, then lies as CX says -/
def cxOf (CX : CXT) (P : Program) (w : World) (K : PySem.W.Frag) (mg : Str → Option Value) (base : Heap) (N : List Str) (qual : Str) (scope : Scope) (f : Addr) (cd : Value) (A : Around) (outer : List Env) (s : Shared) (H : Hp) (E : XK) : Cx where
  prog := P
  w := w
  K := K
  mg := mg
  base := base
  A := A.deeper (envOfC qual scope s.heap.objs.size f cd)
  N := N
  s₀ := s
  H₀ := H
  env := envOfC qual scope s.heap.objs.size f cd
  outer := outer
  stack := envOfC qual scope s.heap.objs.size f cd :: outer
  ex := []
  calm := true
  fn := fun _ => true
  pn := []
  xe := fun e s' => wpAny (model P w) (A.deeper (envOfC qual scope s.heap.objs.size f cd)) (leaving (envOfC qual scope s.heap.objs.size f cd) e) (fun _ s'' => CX outer H s E e s'') (fun e' s'' => CX outer H s E e' s'') s'

theorem cell_has {sc : Scope} {n : Nat} {x : Str} (h : sc.names.lookup x = some .cell) : ∃ c, (cellsFrom n sc.names []).lookup x = some c := by
  have q := PySem.W.cellsFrom_some sc.names n [] (.inl h)
  exact Option.isSome_iff_exists.mp q

theorem inv_start {CX : CXT} {P : Program} {w : World} {K : PySem.W.Frag} {mg : Str → Option Value} {base : Heap} {N ps : List Str} {qual : Str} {scope : Scope} {f : Addr} {cd : Value} {A : Around} {outer : List Env} {s s1 : Shared} {H : Hp} {E : XK} {us : List Value} {vs : List V}
    (S : FnScope N ps scope) (hd : A.handled = none) (e0 : Env0 P w K mg base A outer s H) (hl : vs.length = ps.length) (r : Vals vs us)
    (x : InCallC s s.heap.objs.size (bindL (envOfC qual scope s.heap.objs.size f cd).kindOf (ps.zip us) fun _ => none) (cellsFrom (s.heap.objs.size + 1) scope.names []) (bindC (envOfC qual scope s.heap.objs.size f cd).kindOf (ps.zip us) fun _ => none) s1) :
    Inv (cxOf CX P w K mg base N qual scope f cd A outer s H E) [] (start N vs) H s1 := by
  have hpl : ps.length ≤ N.length := by have := congrArg List.length S.pre; rw [List.length_take] at this; omega
  obtain ⟨h1, tk, rfl, hk⟩ := x.done
  have noA : ∀ b : Addr, b ∉ (cxOf CX P w K mg base N qual scope f cd A outer s H E).ex := fun b z => absurd (show b ∈ ([] : List Addr) from z) (by simp)
  refine ⟨⟨e0.mod, S.kind, rfl, rfl, Nat.le_refl _, fun y z c h1 h2 => ?_, fun y hy => ?_, fun y c _ h => ?_, fun _ => hd, Around.frames_deeper e0.frames, .inr ⟨rfl, rfl⟩, fun b z => absurd z (noA b), e0.bs, e0.bsz, fun b _ _ => noA b, fun b z => absurd z (noA b), e0.funs, e0.frf⟩,
    rfl, e0.bare, Un.kept hk, ⟨_, x.toInCall.ns, fun i y v h1 h2 h3 => ?_⟩, fun y c h => ⟨_, x.cell y c h⟩, e0.hok.fresh (Nat.le_refl _), fun y c h => ?_, fun p hp => absurd (show p ∈ ([] : List (Addr × Obj)) from hp) (by simp), e0.hok.kept hk, ?_⟩
  · exact name_of_addr x.apart (PySem.mem_of_lookup h1) (PySem.mem_of_lookup h2)
  · have hy : scope.names.lookup y = some .cell ∨ scope.names.lookup y = some .free := hy
    rcases hy with hy | hy
    · exact cell_has hy
    · exact absurd rfl (S.nofree _ (PySem.mem_of_lookup hy))
  · exact Nat.le_of_lt (x.above y c (PySem.mem_of_lookup h))
  · have hi : i < vs.length := by
      unfold start at h2
      by_cases hi : i < vs.length
      · exact hi
      · rw [List.getElem?_append_right (by simpa using hi)] at h2
        rw [List.getElem?_replicate] at h2
        split at h2 <;> cases h2
    have ha : vs[i]? = some v := by
      unfold start at h2
      rw [List.getElem?_append_left (by simpa using hi), List.getElem?_map] at h2
      cases e : vs[i]? with
      | none => rw [e] at h2; cases h2
      | some a => rw [e] at h2; cases h2; rfl
    obtain ⟨u, hu, rv⟩ := r.get ha
    have hp : ps[i]? = some y := by
      rw [← S.pre, List.getElem?_take_of_lt (by omega)]; exact h1
    have ndP : ps.Nodup := by rw [← S.pre]; exact S.nd.sublist (List.take_sublist _ _)
    refine ⟨u, rv, ?_⟩
    rcases S.par y (List.mem_of_getElem? hp) with k | k
    · exact .inl ⟨k, bindL_get ndP hp hu k⟩
    · obtain ⟨c, e⟩ := cell_has (n := s.heap.objs.size + 1) k
      refine .inr ⟨.inl k, c, e, ?_⟩
      have q := x.cell y c e
      rw [bindC_get ndP hp hu (by show scope.names.lookup y ≠ _; rw [k]; decide)] at q
      exact q
  · exact e0.hok.fresh (Nat.le_of_lt (x.above y c (PySem.mem_of_lookup h)))
  · unfold start
    show _ = N.length
    rw [List.length_append, List.length_map, List.length_replicate]
    omega

/-- THE RULE: a def (or a method) of the text, by its body. The body's reading t is chosen for each entry; it is run at the parameters' values -/
theorem fn_of {CX : CXT} {P : Program} {w : World} {K : PySem.W.Frag} {mg : Str → Option Value} {base : Heap} {k : Nat} {f : Addr} {name qual : Str} {params : Arguments} {body : List Stmt} {scope : Scope} {dV kV doc pm cdv ct oc : Value} {an od : Option Addr}
    {osl : Array (Option Value)} {N ps : List Str} {sp : Sp} (lk : K.lookup f = some ⟨oc, od, .func (PySem.W.fnOf name qual params body scope dV kV doc pm an cdv ct), osl⟩) (hcd : PySem.W.codeIn K cdv qual = true) (S : FnScope N ps scope)
    (len : ∀ vs H Q E, sp vs H Q E → vs.length = ps.length)
    (hbody : ∀ (A : Around) (outer : List Env) (s : Shared) (H : Hp) (vs : List V) (Q : VK) (E : XK), Room k (A.deeper (envOfC qual scope s.heap.objs.size f cdv)) → sp vs H Q E →
      ∃ t, PSs (cxOf CX P w K mg base N qual scope f cdv A outer s H E) body t ∧ t { nx := fun _ H' => Q .non H', rt := Q } (start N vs) H) :
    FnOk P w K mg base CX (k + 1) f (PySem.W.fnOf name qual params body scope dV kV doc pm an cdv ct) ps sp := by
  refine ⟨len, fun A outer s H args us vs Q E hr e0 hb r hsp => ?_⟩
  have hl := len _ _ _ _ hsp
  have KX : K.In s.heap := e0.mod.kin.keeps fun b o e => (e0.bs b o e).1
  have lim : s.heap.NoLimit := e0.mod.nolimit.keeps fun b o e => (e0.bs b o e).1
  have hkind : ∀ y ∈ ps.zip us, scope.names.lookup y.1 = some .local ∨ (scope.names.lookup y.1 = some .cell ∧ ((cellsFrom (s.heap.objs.size + 1) scope.names []).lookup y.1).isSome = true) := fun ⟨n, v⟩ hy => by
    rcases S.par n (List.of_mem_zip hy).1 with q | q
    · exact .inl q
    · exact .inr ⟨q, PySem.W.cellsFrom_some _ _ _ (.inl q)⟩
  refine codeAny_call_function hr.depth (KX _ _ lk) rfl S.co S.gen rfl (PySem.W.codeRec_of KX hcd) (hb _ _ _ _ ?_)
  refine wpAny_newFunctionEnv_cells S.kind hkind fun env he s1 x => ?_
  subst he
  refine ⟨lim.keeps x.toInCall.keep, codeAny_func ?_⟩
  obtain ⟨t, ht, hq⟩ := hbody A outer s H vs Q E (hr.deeper _) hsp
  have I : Inv (cxOf CX P w K mg base N qual scope f cdv A outer s H E) [] (start N vs) H s1 := inv_start S hr.hd e0 hl r x
  refine wpAny_mono (ht [] s1 (start N vs) H _ I hq) (fun fl s' hs => ?_) fun e s' hs => hs
  have fin : ∀ {σ' : St} {H' : Hp} {v : V} {u : Value}, Inv (cxOf CX P w K mg base N qual scope f cdv A outer s H E) [] σ' H' s' → RelV v u → Q v H' → CE outer P w H s Q u s' :=
    fun {σ' H' v u} J rv q => ⟨v, H', J.os, J.bare, J.base, J.hok, rv, q⟩
  cases fl with
  | ret u =>
    obtain ⟨v, σ', H', J, rv, q⟩ := hs
    exact fin J rv q
  | next =>
    obtain ⟨σ', H', J, q⟩ := hs
    exact fin (v := V.non) (u := Value.none) J rfl q
  | brk =>
    obtain ⟨_, _, _, q⟩ := hs
    exact False.elim q
  | cont =>
    obtain ⟨_, _, _, q⟩ := hs
    exact False.elim q
end L2

namespace L2
open PySem PySem.Spec PyProof.Rows
section
variable {X : Cx} {x : Str} {p pos : Pos} {e : Expr} {es : List Expr} {t : TA} {id T : String} {r : List V → Hp → VK → Prop}

def tCB (r : List V → Hp → VK → Prop) (t : TA) : TE := fun σ H Q => t σ H fun vs H1 => r vs H1 Q
/-- f(e, ..), f a built-in function -/
theorem pe_callB (hc : CallR X (.builtin id) r) (hg : Gl X x) (hm : X.mg x = none) (hv : bootBuiltins x = some (.builtin id)) (ha : PA X (e :: es) t) (hn : x ≠ "__name__" := by decide) (hdb : (x == ("__debug__" : Str)) = false := by decide)
    (he : starEach (e :: es) X.env = (false, eval e X.env) :: starEach es X.env := by rfl) (hpl : (backTo pos (starEach es X.env)).any (·.1) = false := by rfl) : PE X (.Call (.Name x p) (e :: es) [] pos) (tCB r t) := by
  intro pins s σ H Q I h
  refine wpAny_Call_Name_kw (ld_blt I hg hm hv ?_ hn hdb)
  exact PyProof.Rows.callWith_builtin1 (thn (ha pos pins s σ H _ I h) fun us s1 ⟨vs, H1, I1, r1, q1⟩ => hc pins s1 σ H1 vs us Q I1 r1 q1) he hpl
/-- T(e, ..), T a built-in type -/
theorem pe_callTy (hc : CallR X (.type T) r) (hg : Gl X x) (hm : X.mg x = none) (hv : bootBuiltins x = some (.type T)) (ha : PA X (e :: es) t) (hn : x ≠ "__name__" := by decide) (hdb : (x == ("__debug__" : Str)) = false := by decide)
    (he : starEach (e :: es) X.env = (false, eval e X.env) :: starEach es X.env := by rfl) (hpl : (backTo pos (starEach es X.env)).any (·.1) = false := by rfl) : PE X (.Call (.Name x p) (e :: es) [] pos) (tCB r t) := by
  intro pins s σ H Q I h
  refine wpAny_Call_Name_kw (ld_blt I hg hm hv ?_ hn hdb)
  exact PyProof.Rows.callWith_type1 (thn (ha pos pins s σ H _ I h) fun us s1 ⟨vs, H1, I1, r1, q1⟩ => hc pins s1 σ H1 vs us Q I1 r1 q1) he hpl
/-- T() -/
theorem pe_callTy0 (hc : CallR X (.type T) r) (hg : Gl X x) (hm : X.mg x = none) (hv : bootBuiltins x = some (.type T)) (hn : x ≠ "__name__" := by decide) (hdb : (x == ("__debug__" : Str)) = false := by decide) :
    PE X (.Call (.Name x p) [] [] pos) (tCB r tNil) := by
  intro pins s σ H Q I h
  refine wpAny_Call_Name_kw (ld_blt I hg hm hv ?_ hn hdb)
  exact PyProof.Rows.callWith_type0 (hc pins s σ H [] [] Q I .nil h)
end
end L2

namespace HT
open PySem PyProof.Rows

/-- t < u of tuples of ints -/
def lexLt : List Int → List Int → Bool
  | [], [] => false
  | [], _ :: _ => true
  | _ :: _, [] => false
  | x :: xs, y :: ys => if x = y then lexLt xs ys else decide (x < y)
theorem lexLt_cons (x y : Int) (xs ys : List Int) : lexLt (x :: xs) (y :: ys) = if x = y then lexLt xs ys else decide (x < y) := rfl
theorem lexLt_nil_nil : lexLt [] [] = false := rfl
theorem lexLt_nil_cons (y : Int) (ys : List Int) : lexLt [] (y :: ys) = true := rfl
theorem lexLt_cons_nil (x : Int) (xs : List Int) : lexLt (x :: xs) [] = false := rfl

theorem eqAt_int (A : Around) (s : Shared) (a : Int) (t : Tok) (c : Int) (u : Tok) : ∃ e, SeqAt.EqAt A s (.int a t) (.int c u) e ∧ (e = true ↔ a = c) :=
  ⟨(a == c), SeqAt.EqAt.int_int a t c u, by simp⟩
theorem rcLt_int (A : Around) (s : Shared) (a : Int) (t : Tok) (c : Int) (u : Tok) (prog : Program) (w : World) (E : Value → Shared → Prop) (Q : Value → Shared → Prop) (h : Q (.bool (decide (a < c))) s) :
    wpAny (model prog w) A (richCompare .Lt (.int a t) (.int c u)) Q E s :=
  (PyProof.Rows.lt_int h : wpAny (model prog w) A (compareOp .Lt (.int a t) (.int c u)) Q E s)

section
open PySem.SeqAt
open PySem.AutoSeq1 (wpAny_loadPart')
open PySem.MeetsSeq PySem.MeetsSeq2 PySem.MeetsSeq3

theorem tuple_lt_ints (l b : Addr) (items items2 : Array Value) (n n2 : Nat) (dd dd2 : Option Addr) (sl sl2 : Array (Option Value)) (ns ms : List Int) (hi : IntsAre items.toList ns) (hj : IntsAre items2.toList ms) :
    Meets (Builtin.«tuple.__lt__» ⟨[.ref l, .ref b], []⟩)
      (fun _ R s => s.heap.get? l = some { cls := .type "tuple", dict := dd, data := .seq items n, slots := sl } ∧ s.heap.get? b = some { cls := .type "tuple", dict := dd2, data := .seq items2 n2, slots := sl2 } ∧
        R (.ok (.ret (.bool (lexLt ns ms)))) s) :=
  .of_wp fun prog w A R s h => by
    obtain ⟨hp, g, d, tk, os⟩ := s; obtain ⟨hl, hb, h⟩ := h
    have f2 := AutoSeq1.sub_tuple_tuple
    have z1 : items.size = ns.length := by rw [← hi.length]; simp
    have z2 : items2.size = ms.length := by rw [← hj.length]; simp
    wp_walk using wpAny_loadPart' hl, wpAny_loadPart' hb, wpAny_forIn_list _ (fun rest b s' => b.1 = none ∧ s' = ⟨hp, g, d, tk, os⟩ ∧ ∃ (vs ws : List Value) (ns' ms' : List Int), rest = vs.zip ws ∧
      IntsAre vs ns' ∧ IntsAre ws ms' ∧ ns'.length + items2.size = ms'.length + items.size ∧ R (.ok (.ret (.bool (lexLt ns' ms')))) ⟨hp, g, d, tk, os⟩) _
    case turn =>
      rintro ⟨y, x⟩ rest b s' ⟨hb', rfl, vs, ws, ns', ms', hz, hvi, hwi, hlen, hR⟩
      cases hvi with
      | nil => rw [List.zip_nil_left] at hz; cases hz
      | cons a t hvi' =>
        cases hwi with
        | nil => rw [List.zip_nil_right] at hz; cases hz
        | cons c u hwi' =>
          rw [List.zip_cons_cons] at hz
          injection hz with hyx hrest
          injection hyx with hy hx
          subst hy hx
          rw [lexLt_cons] at hR
          simp only [List.length_cons] at hlen
          obtain ⟨e, he, hiff⟩ := eqAt_int A.in1 ⟨hp, g, d, tk, os⟩ a t c u
          refine wpAny_bind (he prog w _ _ ?_)
          cases e with
          | true =>
            rw [if_pos (hiff.mp rfl)] at hR
            wp_walk
            exact ⟨rfl, rfl, _, _, _, _, hrest, hvi', hwi', by omega, hR⟩
          | false =>
            rw [if_neg (fun q => absurd (hiff.mpr q) Bool.false_ne_true)] at hR
            have hri := rcLt_int A.in1 ⟨hp, g, d, tk, os⟩ a t c u prog w
            wp_walk using hri
            exact ⟨_, rfl, by simpa using hR⟩
    case fin =>
      rintro ⟨b1, b2⟩ s' ⟨hb', rfl, vs, ws, ns', ms', hz, hvi, hwi, hlen, hR⟩
      simp only at hb'
      subst hb'
      have hv : lexLt ns' ms' = decide (items.size < items2.size) := by
        cases hvi with
        | nil =>
          cases hwi with
          | nil =>
            simp only [List.length_nil] at hlen
            rw [lexLt_nil_nil]
            exact (decide_eq_false (by omega)).symm
          | cons c u hw =>
            simp only [List.length_nil, List.length_cons] at hlen
            rw [lexLt_nil_cons]
            exact (decide_eq_true (by omega)).symm
        | cons a t hv =>
          cases hwi with
          | nil =>
            simp only [List.length_nil, List.length_cons] at hlen
            rw [lexLt_cons_nil]
            exact (decide_eq_false (by omega)).symm
          | cons c u hw =>
            rw [List.zip_cons_cons] at hz
            cases hz
      rw [hv] at hR
      wp_walk
      exact ⟨_, rfl, by simpa [Builtin.Tuple.tupleCompareSizes] using hR⟩
    case h =>
      exact ⟨rfl, rfl, items.toList, items2.toList, ns, ms, rfl, hi, hj, by omega, h⟩
end

section
variable {prog : Program} {w : World} {A : Around} {E : Value → Shared → Prop} {s : Shared}

theorem lt_tupInts {l b : Addr} {items items2 : Array Value} {ns ms : List Int} {Q : Value → Shared → Prop} (hl : IsTup s.heap l items) (hb : IsTup s.heap b items2) (hi : IntsAre items.toList ns) (hj : IntsAre items2.toList ms)
    (hu : A.units < cLine) (h : Q (.bool (lexLt ns ms)) s) : wpAny (model prog w) A (compareOp .Lt (.ref l) (.ref b)) Q E s := by
  obtain ⟨⟨cls, dd, data, sl⟩, ho, hc, n, hd⟩ := id hl
  obtain ⟨⟨cls2, dd2, data2, sl2⟩, ho2, hc2, n2, hd2⟩ := id hb
  simp only at hc hd hc2 hd2
  subst hc hd hc2 hd2
  exact richCompare_meets_room (op := .Lt) ⟨_, ho, rfl⟩ ⟨_, ho2, rfl⟩ PySem.F.slot_tuple_lt PySem.F.entry_tuple_lt (PySem.F.args_tuple_lt_2 _ _) (tuple_lt_ints l b items items2 n n2 dd dd2 sl sl2 ns ms hi hj)
    ⟨ho, ho2, show Value.bool (lexLt ns ms) ≠ Value.notImplemented ∧ Q (.bool (lexLt ns ms)) s from ⟨(fun x => nomatch x), h⟩⟩ hu

/-- t + u, t not empty -/
theorem cat_tup {t b : Addr} {vs ws : List Value} {Q : Value → Shared → Prop} (ht : IsTup s.heap t vs.toArray) (hb : IsTup s.heap b ws.toArray) (hv : vs ≠ [])
    (h1 : ws = [] → Q (.ref t) s) (h2 : ws ≠ [] → Q (.ref s.heap.objs.size) { s with heap := s.heap.push { cls := .type "tuple", data := .seq (vs ++ ws).toArray } })
    (hsz : vs.length + ws.length ≤ sizeLine) : wpAny (model prog w) A (binaryOp .Add (.ref t) (.ref b)) Q E s := by
  obtain ⟨⟨cls, dd, data, sl⟩, ho, hc, n, hd⟩ := id ht
  obtain ⟨⟨cls2, dd2, data2, sl2⟩, ho2, hc2, n2, hd2⟩ := id hb
  simp only at hc hd hc2 hd2
  subst hc hd hc2 hd2
  have e : vs.toArray ++ ws.toArray = (vs ++ ws).toArray := by simp
  by_cases hw : ws = []
  · exact concat_meets ⟨_, ho, rfl⟩ ⟨_, ho2, rfl⟩ noFill_tuple_add seq_tuple_add PySem.F.slot_tuple_add PySem.F.entry_tuple_add (PySem.F.args_tuple_add_2 _ _)
      (tuple_addW1 t b vs.toArray ws.toArray n n2 dd dd2 sl sl2 (by simpa using hv) (by simp [hw])) ⟨ho, ho2, h1 hw⟩
  · refine concat_meets ⟨_, ho, rfl⟩ ⟨_, ho2, rfl⟩ noFill_tuple_add seq_tuple_add PySem.F.slot_tuple_add PySem.F.entry_tuple_add (PySem.F.args_tuple_add_2 _ _)
      (tuple_addW2 t b vs.toArray ws.toArray n n2 dd dd2 sl sl2 (by simpa using hv) (by simpa using hw) (by rw [List.size_toArray, List.size_toArray]; exact hsz)) ⟨ho, ho2, ?_⟩
    rw [e]
    exact h2 hw

/-! ### t[a:b], not the whole -/
/-- a slice's bound as a place among n (d where it is left out) -/
def sIx (n d : Nat) : Option Int → Nat
  | none => d
  | some v => if v < 0 then (v + (n : Int)).toNat else min v.toNat n
theorem sIx_none (n d : Nat) : sIx n d none = d := rfl
theorem sIx_nat (n d k : Nat) : sIx n d (some (k : Int)) = min k n := by
  show (if (k : Int) < 0 then ((k : Int) + (n : Int)).toNat else min (k : Int).toNat n) = min k n
  rw [if_neg (by omega), Int.toNat_natCast]
theorem sIx_le (n d : Nat) (hd : d ≤ n) (o : Option Int) : sIx n d o ≤ n := by
  cases o with
  | none => exact hd
  | some v =>
    show (if v < 0 then (v + (n : Int)).toNat else min v.toNat n) ≤ n
    by_cases hv : v < 0
    · rw [if_pos hv]; omega
    · rw [if_neg hv]; exact Nat.min_le_right _ _
theorem clip_eq (v : Int) (n d : Nat) : (if v < 0 then max (v + (n : Int)) 0 else min v (n : Int)) = ((sIx n d (some v) : Nat) : Int) := by
  show (if v < 0 then max (v + (n : Int)) 0 else min v (n : Int)) = (((if v < 0 then (v + (n : Int)).toNat else min v.toNat n) : Nat) : Int)
  by_cases hv : v < 0
  · simp only [if_pos hv]; omega
  · simp only [if_neg hv]; omega
theorem adjust_gen (lo hi : Option Int) (n : Nat) : Builtin.Slice.sliceAdjust lo hi 1 (n : Int) = (((sIx n 0 lo : Nat) : Int), ((sIx n n hi : Nat) : Int)) := by
  have h1 : ¬ ((1 : Int) < 0) := by omega
  unfold Builtin.Slice.sliceAdjust
  simp only [h1, if_false]
  refine Prod.ext ?_ ?_
  · cases lo with
    | none => rfl
    | some v => exact clip_eq v n 0
  · cases hi with
    | none => rfl
    | some v => exact clip_eq v n n
theorem places_gen (i j : Nat) : Builtin.Slice.slicePlaces (i : Int) (j : Int) 1 = j - i := by
  unfold Builtin.Slice.slicePlaces
  have h1 : (1 : Int) > 0 := by omega
  simp only [h1, if_true, Int.ediv_one]
  split <;> omega
theorem slicePart_ {v : Value} {o : Option Int} {Q : Option Int → Shared → Prop} (p : IsPart v o) (h : Q o s) : wpAny (model prog w) A (Builtin.Slice.slicePartIndex v) Q E s := by
  cases p with
  | none => exact slicePart_none h
  | int i t => exact slicePart_int h
theorem sliceApplied_gen {sl : Addr} {vl vu : Value} {lo hi : Option Int} {n : Nat} {Q : Int × Int × Nat → Shared → Prop} (hs : s.heap.IsSliceOf sl vl vu .none) (pl : IsPart vl lo) (pu : IsPart vu hi)
    (h : Q (((sIx n 0 lo : Nat) : Int), 1, sIx n n hi - sIx n 0 lo) s) : wpAny (model prog w) A (Builtin.Slice.sliceApplied (.ref sl) (pure (n : Int))) Q E s := by
  obtain ⟨os, hos, hcs, hds⟩ := id hs
  unfold Builtin.Slice.sliceApplied Builtin.Slice.sliceFields
  refine wpAny_bind (wpAny_bind (wpAny_field hos hds (x := vl) rfl (wpAny_bind (wpAny_field hos hds (x := vu) rfl (wpAny_bind (wpAny_field hos hds (x := .none) rfl (wpAny_pure ?_)))))))
  refine wpAny_bind (slicePart_none ?_)
  show wpAny _ _ (if ((1 : Int) == 0) = true then _ else _) _ _ s
  rw [if_neg (by decide)]
  refine wpAny_bind (slicePart_ pl (wpAny_bind (slicePart_ pu (wpAny_bind (wpAny_pure ?_)))))
  show wpAny _ _ (match Builtin.Slice.sliceAdjust lo hi 1 (n : Int) with | (lo, hi) => pure (lo, (1 : Int), Builtin.Slice.slicePlaces lo hi 1)) _ _ s
  rw [adjust_gen lo hi n]
  show wpAny _ _ (pure (((sIx n 0 lo : Nat) : Int), (1 : Int), Builtin.Slice.slicePlaces ((sIx n 0 lo : Nat) : Int) ((sIx n n hi : Nat) : Int) 1)) _ _ s
  rw [places_gen]
  exact wpAny_pure h
theorem pick_gen (xs : Array Value) (i k : Nat) : ((List.range k).filterMap fun (m : Nat) => xs[((i : Int) + (m : Int) * 1).toNat]?).toArray = ((xs.toList.drop i).take k).toArray := by
  have e : (fun (m : Nat) => xs[((i : Int) + (m : Int) * 1).toNat]?) = fun m => xs[i + m]? := by
    funext m
    have : ((i : Int) + (m : Int) * 1).toNat = i + m := by omega
    rw [this]
  rw [e]
  have := pick_run xs i k
  rw [List.filterMap_map] at this
  have e2 : ((fun x => xs[x]?) ∘ fun x => i + x) = fun m => xs[i + m]? := rfl
  rw [e2] at this
  rw [this]

theorem getItem_tuple_cut {t sl : Addr} {items : Array Value} {vl vu : Value} {lo hi : Option Int} {Q : Value → Shared → Prop} (ht : IsTup s.heap t items) (hs : s.heap.IsSliceOf sl vl vu .none) (pl : IsPart vl lo) (pu : IsPart vu hi)
    (hw : ¬ (sIx items.size 0 lo = 0 ∧ sIx items.size items.size hi = items.size))
    (h : Q (.ref s.heap.objs.size) { s with heap := s.heap.push { cls := .type "tuple", data := .seq ((items.toList.drop (sIx items.size 0 lo)).take (sIx items.size items.size hi - sIx items.size 0 lo)).toArray } })
    (hsz : items.size ≤ sizeLine) : wpAny (model prog w) A (getItem (.ref t) (.ref sl)) Q E s := by
  have htake : sizeOk (.seq ((items.toList.drop (sIx items.size 0 lo)).take (sIx items.size items.size hi - sIx items.size 0 lo)).toArray) := by
    show ((items.toList.drop (sIx items.size 0 lo)).take (sIx items.size items.size hi - sIx items.size 0 lo)).toArray.size ≤ sizeLine
    rw [List.size_toArray, List.length_take, List.length_drop, Array.length_toList]
    omega
  have hj : sIx items.size items.size hi ≤ items.size := sIx_le _ _ (Nat.le_refl _) hi
  obtain ⟨os, hos, hcs, hds⟩ := id hs
  have hTs : s.TypeIs (.ref sl) "slice" := ⟨os, hos, hcs⟩
  unfold getItem
  try with_reducible refine wpAny_holding ?_
  first | refine wpAny_bind (wpAny_pure ?_) | skip
  refine wpAny_bind (wpAny_sequenceKey ht.typeIs (by decide) ?_)
  refine wpAny_bind (wpAny_callSpecial?_slot (name := Str.ofString "__getitem__") ht.typeIs PyProof.Rows.slot_tuple_getitem
    (wpAny_call_entry PyProof.Rows.slot_tuple_getitem ht.typeIs entry_tuple_getitem ?_ (args_tuple_getitem _ _)))
  show wpAny _ _ (Builtin.Tuple.tupleItemsOf (.ref t) >>= _) _ _ s
  refine wpAny_bind (tupleItemsOf_ ht ?_)
  refine wpAny_bind (wpAny_typeOf hTs ?_)
  rw [if_pos (by decide)]
  refine wpAny_bind (sliceApplied_gen hs pl pu ?_)
  have hno : ¬ ((((sIx items.size 0 lo : Nat) : Int) == 0 && (1 : Int) == 1 && (sIx items.size items.size hi - sIx items.size 0 lo) == items.size) = true) := by
    intro q
    rw [Bool.and_eq_true, Bool.and_eq_true] at q
    have q1 : ((sIx items.size 0 lo : Nat) : Int) = 0 := eq_of_beq q.1.1
    have q2 : sIx items.size items.size hi - sIx items.size 0 lo = items.size := eq_of_beq q.2
    exact hw ⟨by omega, by omega⟩
  show wpAny _ _ (if (((sIx items.size 0 lo : Nat) : Int) == 0 && (1 : Int) == 1 && (sIx items.size items.size hi - sIx items.size 0 lo) == items.size) = true then _ else _) _ _ s
  rw [if_neg hno, pick_gen]
  first
    | exact wpAny_bind (m := Builtin.Tuple.tupleExact _) (wpAny_newObj_type (wpAny_pure ⟨_, rfl, wpAny_pure h⟩) htake)
    | exact wpAny_bind (m := Builtin.Tuple.tupleExact _) (wpAny_newObj_type (wpAny_bind (wpAny_pure (wpAny_pure ⟨_, rfl, wpAny_pure h⟩))) htake)
    | exact wpAny_bind (wpAny_bind (m := Builtin.Tuple.tupleExact _) (wpAny_newObj_type (wpAny_pure (wpAny_pure ⟨_, rfl, wpAny_pure h⟩)) htake))
    | exact wpAny_bind (wpAny_bind (m := Builtin.Tuple.tupleExact _) (wpAny_newObj_type (wpAny_pure ⟨_, rfl, wpAny_pure h⟩) htake))
end
end HT

namespace L2
open PySem PySem.Spec PyProof.Rows

/-! ### the parts of a slice -/
abbrev TO := St → Hp → (Option Int → Hp → Prop) → Prop
/-- a slice's part (left out, or an int) -/
def PO (X : Cx) (e : Option Expr) (t : TO) : Prop :=
  ∀ (pins : List (Addr × Obj)) (s : Shared) (σ : St) (H : Hp) (Q : Option Int → Hp → Prop), Inv X pins σ H s → t σ H Q →
    wpAny (model X.prog X.w) X.A (evalPart e X.env) (fun u s' => ∃ o H', Inv X pins σ H' s' ∧ IsPart u o ∧ Q o H') X.xe s
def tNoPart : TO := fun _ H Q => Q none H
def tPart (t : TE) : TO := fun σ H Q => t σ H fun x H1 => ∃ i, x = .int i ∧ Q (some i) H1

theorem intsAre_of {ns : List Int} : ∀ {us : List Value}, Vals (ns.map V.int) us → IntsAre us ns := by
  induction ns with
  | nil => intro us r; rw [List.map_nil] at r; cases r; exact .nil
  | cons n ns ih =>
    intro us r
    rw [List.map_cons] at r
    cases r with
    | cons r1 r2 =>
      obtain ⟨t, e⟩ := r1
      subst e
      exact .cons n t (ih r2)

section
variable {X : Cx} {e : Expr} {te : TE} {lo hi : Option Expr} {tl th : TO} {pos p2 : Pos}

theorem po_none : PO X none tNoPart := by
  intro pins s σ H Q I h
  rw [evalPart_none]
  exact wpAny_pure ⟨none, H, I, .none, h⟩
theorem po_some (h : PE X e te) : PO X (some e) (tPart te) := by
  intro pins s σ H Q I hw
  rw [evalPart_some]
  refine thn (h pins s σ H _ I hw) fun u s1 ⟨x, H1, I1, r1, q1⟩ => ?_
  obtain ⟨i, rfl, q⟩ := q1
  obtain ⟨t, rfl⟩ := r1
  exact ⟨some i, H1, I1, .int i t, q⟩

/-- what a slice of a value is, by values: the slice object stands at sl -/
def SlR (X : Cx) (r : V → Option Int → Option Int → Hp → VK → Prop) : Prop :=
  ∀ (pins : List (Addr × Obj)) (s : Shared) (σ : St) (H : Hp) (x : V) (v vl vu : Value) (lo hi : Option Int) (sl : Addr) (Q : VK), Inv X pins σ H s → RelV x v → s.heap.IsSliceOf sl vl vu .none → IsPart vl lo → IsPart vu hi → r x lo hi H Q →
    ∃ T id, typeLookup (.type T) "__getitem__" = pure (some (.builtin id)) ∧ s.TypeIs v T ∧ wpAny (model X.prog X.w) X.A (getItem v (.ref sl)) (EP X pins σ Q) X.xe s
theorem SlR.or {r r' : V → Option Int → Option Int → Hp → VK → Prop} (h : SlR X r) (h' : SlR X r') : SlR X (fun x lo hi H Q => r x lo hi H Q ∨ r' x lo hi H Q) := by
  intro pins s σ H x v vl vu lo hi sl Q I rx hs pl pu q
  rcases q with q | q
  · exact h pins s σ H x v vl vu lo hi sl Q I rx hs pl pu q
  · exact h' pins s σ H x v vl vu lo hi sl Q I rx hs pl pu q
def tSl (r : V → Option Int → Option Int → Hp → VK → Prop) (te : TE) (tl th : TO) : TE := fun σ H Q => te σ H fun x H1 => tl σ H1 fun l H2 => th σ H2 fun u H3 => r x l u H3 Q
/-- a[lo:hi], any a -/
theorem pe_slice {r : V → Option Int → Option Int → Hp → VK → Prop} (hr : SlR X r) (he : PE X e te) (hl : PO X lo tl) (hu : PO X hi th) : PE X (.Subscript e (.Slice lo hi none p2) pos) (tSl r te tl th) := by
  intro pins s σ H Q I h
  refine Subscript_ (thn (he pins s σ H _ I h) fun v s1 ⟨x, H1, I1, r1, q1⟩ => ?_)
  refine wpAny_Slice (thn (hl pins s1 σ H1 _ I1 q1) fun vl s2 ⟨l, H2, I2, pl, q2⟩ => thn (hu pins s2 σ H2 _ I2 q2) fun vu s3 ⟨u, H3, I3, pu, q3⟩ => ?_)
  rw [evalPart_none]
  refine wpAny_pure ?_
  have I4 : Inv X pins σ H3 { s3 with heap := s3.heap.push { cls := .type "slice", data := .fields #[vl, vu, .none] } } := I3.kept (t' := s3.toks) fun b ob q => Heap.get?_push_of_some _ q
  obtain ⟨T, id, hT, ht, hg⟩ := hr pins { s3 with heap := s3.heap.push { cls := .type "slice", data := .fields #[vl, vu, .none] } } σ H3 x v vl vu l u s3.heap.objs.size Q I4 r1 (Heap.IsSliceOf.new ..) pl pu q3
  show wpAny (model X.prog X.w) X.A (subscriptTail e (.Slice lo hi none p2) v (.ref s3.heap.objs.size)) (EP X pins σ Q) X.xe { s3 with heap := s3.heap.push { cls := .type "slice", data := .fields #[vl, vu, .none] } }
  exact tail_any (ops := [.ref s3.heap.objs.size, v]) ht hT hg (by with_unfolding_all rfl)

/-- the items of xs[lo:hi] -/
def cutV (xs : List V) (lo hi : Option Int) : List V := (xs.drop (HT.sIx xs.length 0 lo)).take (HT.sIx xs.length xs.length hi - HT.sIx xs.length 0 lo)
theorem cutV_length (xs : List V) (lo hi : Option Int) : (cutV xs lo hi).length ≤ xs.length := by
  unfold cutV
  rw [List.length_take, List.length_drop]
  omega
/-- t[lo:hi], not the whole of it (the whole would be t itself) -/
def rSlT (K : PySem.W.Frag) : V → Option Int → Option Int → Hp → VK → Prop := fun x lo hi H Q => ∃ a xs, x = .ref a ∧ SqT K H a xs ∧
  ¬ (HT.sIx xs.length 0 lo = 0 ∧ HT.sIx xs.length xs.length hi = xs.length) ∧ ∀ p, H p = none → Q (.ref p) (upd H p (.tup (cutV xs lo hi)))
theorem sl_tup : SlR X (rSlT X.K) := by
  intro pins s σ H x v vl vu lo hi sl Q I rx hs pl pu h
  obtain ⟨a, xs, rfl, hx, hw, q⟩ := h
  cases rx
  obtain ⟨its, r, ht, hz⟩ := I.tuple hx
  have hlen : its.toArray.size = xs.length := by rw [List.size_toArray]; exact r.length.symm
  refine ⟨"tuple", _, PyProof.Rows.slot_tuple_getitem.lookup, ht.typeIs, ?_⟩
  refine HT.getItem_tuple_cut ht hs pl pu (by rw [hlen]; exact hw) ?_ (by rw [hlen]; exact hz)
  rw [hlen]
  refine ⟨.ref s.heap.objs.size, _, I.laid (t' := s.toks) (o := .tup (cutV xs lo hi)) (fun b ob q => Heap.get?_push_of_some _ q) (Nat.le_refl _) ?_, rfl, q _ (I.hok.fresh (Nat.le_refl _))⟩
  exact ⟨Nat.le_trans (cutV_length xs lo hi) hz, _, (r.drop (HT.sIx xs.length 0 lo)).take (HT.sIx xs.length xs.length hi - HT.sIx xs.length 0 lo), IsTup.new _ _⟩

/-! ### t < u, t + u -/
def rLtT (K : PySem.W.Frag) : R2 := fun x y H Q => ∃ a b ns ms, x = .ref a ∧ y = .ref b ∧ SqT K H a (ns.map V.int) ∧ SqT K H b (ms.map V.int) ∧ Q (.bl (HT.lexLt ns ms)) H
theorem op_ltT (hu : X.A.units < cLine) : OpR X (compareOp .Lt) (rLtT X.K) := by
  intro pins s σ H x y v u Q I rx ry h
  obtain ⟨a, b, ns, ms, rfl, rfl, ha, hb, q⟩ := h
  cases rx
  cases ry
  obtain ⟨its, r1, p1, _⟩ := I.tuple ha
  obtain ⟨its2, r2, p2, _⟩ := I.tuple hb
  have i1 : IntsAre its.toArray.toList ns := intsAre_of r1
  have i2 : IntsAre its2.toArray.toList ms := intsAre_of r2
  exact HT.lt_tupInts p1 p2 i1 i2 hu ⟨.bl (HT.lexLt ns ms), H, I, rfl, q⟩
/-- t + u, t not empty: u empty gives t itself -/
def rCatT (K : PySem.W.Frag) : R2 := fun x y H Q => ∃ a b xs ys, x = .ref a ∧ y = .ref b ∧ SqT K H a xs ∧ SqT K H b ys ∧ xs ≠ [] ∧ xs.length + ys.length ≤ sizeLine ∧
  (ys = [] → Q (.ref a) H) ∧ (ys ≠ [] → ∀ p, H p = none → Q (.ref p) (upd H p (.tup (xs ++ ys))))
theorem Vals.nil_iff {xs : List V} {us : List Value} (r : Vals xs us) : us = [] ↔ xs = [] := by
  cases r with
  | nil => simp
  | cons _ _ => simp
theorem op_catT : OpR X (binaryOp .Add) (rCatT X.K) := by
  intro pins s σ H x y v u Q I rx ry h
  obtain ⟨a, b, xs, ys, rfl, rfl, ha, hb, hx, hz, q1, q2⟩ := h
  cases rx
  cases ry
  obtain ⟨its, r1, p1, _⟩ := I.tuple ha
  obtain ⟨its2, r2, p2, _⟩ := I.tuple hb
  refine HT.cat_tup p1 p2 (fun z => hx (r1.nil_iff.mp z)) (fun z => ⟨.ref a, H, I, rfl, q1 (r2.nil_iff.mp z)⟩) (fun z => ?_) (by rw [← r1.length, ← r2.length]; exact hz)
  refine ⟨.ref s.heap.objs.size, _, I.laid (t' := s.toks) (o := .tup (xs ++ ys)) (fun b ob q => Heap.get?_push_of_some _ q) (Nat.le_refl _) ?_, rfl, q2 (fun w => z (r2.nil_iff.mpr w)) _ (I.hok.fresh (Nat.le_refl _))⟩
  exact ⟨by rw [List.length_append]; exact hz, _, r1.append r2, IsTup.new _ _⟩
/-- tuple(t) -/
theorem call_tupleT : CallR X (.type "tuple") (fun xs H Q => ∃ a ys, xs = [.ref a] ∧ SqT X.K H a ys ∧ Q (.ref a) H) := by
  intro pins s σ H xs us Q I r h
  obtain ⟨a, ys, rfl, ha, q⟩ := h
  obtain ⟨u, rfl, ru⟩ := vals1 r
  cases ru
  obtain ⟨its, _, p1, _⟩ := I.tuple ha
  exact call_tuple_same (items := its.toArray) p1 ⟨.ref a, H, I, rfl, q⟩
end
end L2

namespace L2
open PySem PySem.Spec PyProof.Rows

/-! ### places -/
/-- the place that an index of any sign means -/
def ixN (n : Nat) (i : Int) : Option Nat := if 0 ≤ i then (if i < n then some i.toNat else none) else if -(n : Int) ≤ i then some (i + n).toNat else none
def atI {α : Type} (xs : List α) (i : Int) : Option α := (ixN xs.length i).bind fun j => xs[j]?
theorem ixN_seq {n : Nat} {i : Int} {j : Nat} (h : ixN n i = some j) : seqIndex? i n = some j ∧ j < n ∧ -(n : Int) ≤ i ∧ i < n := by
  unfold ixN at h
  by_cases h0 : 0 ≤ i
  · rw [if_pos h0] at h
    by_cases h1 : i < n
    · rw [if_pos h1] at h
      have e : i.toNat = j := Option.some.inj h
      exact ⟨by rw [seqIndex_of h0 h1, e], by omega, by omega, h1⟩
    · rw [if_neg h1] at h; cases h
  · rw [if_neg h0] at h
    by_cases h1 : -(n : Int) ≤ i
    · rw [if_pos h1] at h
      have e : (i + n).toNat = j := Option.some.inj h
      exact ⟨by rw [seqIndex_neg (by omega) h1, e], by omega, h1, by omega⟩
    · rw [if_neg h1] at h; cases h
theorem atI_get {α : Type} {xs : List α} {i : Int} {v : α} (h : atI xs i = some v) : ∃ j, seqIndex? i xs.length = some j ∧ xs[j]? = some v ∧ j < xs.length ∧ -(xs.length : Int) ≤ i ∧ i < xs.length := by
  unfold atI at h
  cases e : ixN xs.length i with
  | none => rw [e] at h; cases h
  | some j =>
    rw [e] at h
    obtain ⟨h1, h2, h3, h4⟩ := ixN_seq e
    exact ⟨j, h1, h, h2, h3, h4⟩
theorem atI_nat {α : Type} {xs : List α} {j : Nat} {v : α} (h : xs[j]? = some v) : atI xs (j : Int) = some v := by
  have hj : j < xs.length := (List.getElem?_eq_some_iff.mp h).1
  have e : ixN xs.length (j : Int) = some j := by
    unfold ixN
    rw [if_pos (by omega), if_pos (by omega)]; simp
  unfold atI; rw [e]; exact h
theorem atI_last {α : Type} (xs : List α) (v : α) : atI (xs ++ [v]) (-1) = some v := by
  have hl : (xs ++ [v]).length = xs.length + 1 := by simp
  have e : ixN (xs ++ [v]).length (-1) = some xs.length := by
    unfold ixN
    rw [hl, if_neg (by decide), if_pos (by omega)]
    congr 1
    omega
  unfold atI
  rw [e]
  show (xs ++ [v])[xs.length]? = some v
  simp

/-! ### what may be subscripted -/
/-- what stands as an index of a plain subscript -/
def PlainIx (b : Expr) : Prop := ∀ o i, subscripted b false o i = operate [o, i] (getItem o i)
/-- a subscript by values -/
def IxR (X : Cx) (r : R2) : Prop :=
  ∀ (value slice : Expr) (pins : List (Addr × Obj)) (s : Shared) (σ : St) (H : Hp) (x y : V) (v u : Value) (Q : VK), Inv X pins σ H s → RelV x v → RelV y u → r x y H Q →
    subscripted slice false v u = operate [v, u] (getItem v u) → wpAny (model X.prog X.w) X.A (subscriptTail value slice v u) (EP X pins σ Q) X.xe s
/-- a call of a builtin's method by values: the receiver, the arguments -/
def MtR (X : Cx) (id : String) (r : V → List V → Hp → VK → Prop) : Prop :=
  ∀ (pins : List (Addr × Obj)) (s : Shared) (σ : St) (H : Hp) (x : V) (xs : List V) (v : Value) (us : List Value) (Q : VK), Inv X pins σ H s → RelV x v → Vals xs us → r x xs H Q →
    wpAny (model X.prog X.w) X.A (call (.builtin id) (v :: us)) (EP X pins σ Q) X.xe s
section
variable {X : Cx} {a b : Expr} {ta tb : TE} {pos : Pos}
theorem IxR.or {r r' : R2} (h : IxR X r) (h' : IxR X r') : IxR X (fun x y H Q => r x y H Q ∨ r' x y H Q) := by
  intro value slice pins s σ H x y v u Q I rx ry q hs
  rcases q with q | q
  · exact h value slice pins s σ H x y v u Q I rx ry q hs
  · exact h' value slice pins s σ H x y v u Q I rx ry q hs
theorem MtR.or {id : String} {r r' : V → List V → Hp → VK → Prop} (h : MtR X id r) (h' : MtR X id r') : MtR X id (fun x xs H Q => r x xs H Q ∨ r' x xs H Q) := by
  intro pins s σ H x xs v us Q I rx rs q
  rcases q with q | q
  · exact h pins s σ H x xs v us Q I rx rs q
  · exact h' pins s σ H x xs v us Q I rx rs q
/-- a[b] -/
theorem pe_ix {r : R2} (hr : IxR X r) (ha : PE X a ta) (hb : PE X b tb) (hs : PlainIx b) : PE X (.Subscript a b pos) (tOp r ta tb) := by
  intro pins s σ H Q I h
  exact Subscript_ (binT ha hb I h fun v u s2 x y H2 I2 rx ry q => hr a b pins s2 σ H2 x y v u Q I2 rx ry q (hs _ _))

def rIxL (K : PySem.W.Frag) : R2 := fun x y H Q => ∃ p xs i v, x = .ref p ∧ y = .int i ∧ SqL K H p xs ∧ atI xs i = some v ∧ Q v H
def rIxT (K : PySem.W.Frag) : R2 := fun x y H Q => ∃ p xs i v, x = .ref p ∧ y = .int i ∧ SqT K H p xs ∧ atI xs i = some v ∧ Q v H
def rIxS : R2 := fun x y H Q => ∃ z i c, x = .str z ∧ y = .int i ∧ z.length ≤ sizeLine ∧ atI z.cps.toList i = some c ∧ Q (.str ⟨#[c]⟩) H
theorem ix_list : IxR X (rIxL X.K) := by
  intro value slice pins s σ H x y v u Q I rx ry h hs
  obtain ⟨p, xs, i, z, rfl, rfl, hq, he, q⟩ := h
  cases rx
  obtain ⟨t, rfl⟩ := ry
  obtain ⟨its, r, pl, hz⟩ := I.list hq
  obtain ⟨j, h1, h2, h3, h4, h5⟩ := atI_get he
  obtain ⟨w, ew, rw'⟩ := r.get h2
  have hl := r.length
  have hn := line63
  have fin : EP X pins σ Q w s := ⟨z, H, I, rw', q⟩
  by_cases h0 : 0 ≤ i
  · have hj : i.toNat = j := by
      rw [seqIndex_of h0 h5] at h1
      exact Option.some.inj h1
    exact item_listR pl.isList h0 (by omega) (by rw [hj]; simpa using ew) fin hs
  · have hj : (i + (its.toArray.size : Int)).toNat = j := by
      rw [seqIndex_neg (by omega) h4] at h1
      rw [List.size_toArray, ← hl]
      exact Option.some.inj h1
    exact subscriptTail_builtinR (x := w) pl.isList.typeIs slot_list_getitem.lookup
      (wpAny_getItem_list_neg (Q := fun r s' => r = w ∧ EP X pins σ Q r s') pl.isList (by omega) (by rw [List.size_toArray] <;> omega) (by omega) (by rw [hj]; simpa using ew) ⟨rfl, fin⟩) hs
theorem ix_tup : IxR X (rIxT X.K) := by
  intro value slice pins s σ H x y v u Q I rx ry h hs
  obtain ⟨p, xs, i, z, rfl, rfl, hq, he, q⟩ := h
  cases rx
  obtain ⟨t, rfl⟩ := ry
  obtain ⟨its, r, pl, hz⟩ := I.tuple hq
  obtain ⟨j, h1, h2, h3, h4, h5⟩ := atI_get he
  obtain ⟨w, ew, rw'⟩ := r.get h2
  have hl := r.length
  have hn := line63
  have fin : EP X pins σ Q w s := ⟨z, H, I, rw', q⟩
  exact subscriptTail_builtinR (x := w) pl.typeIs slot_tuple_getitem.lookup
    (getItem_tuple (j := j) (Q := fun r s' => r = w ∧ EP X pins σ Q r s') pl (by omega) (by omega) (by rw [List.size_toArray, ← hl]; exact h1) (by simpa using ew) ⟨rfl, fin⟩) hs
theorem ix_str : IxR X rIxS := by
  intro value slice pins s σ H x y v u Q I rx ry h hs
  obtain ⟨z, i, c, rfl, rfl, hz, he, q⟩ := h
  obtain ⟨t, rfl⟩ := rx
  obtain ⟨t', rfl⟩ := ry
  obtain ⟨j, h1, h2, h3, h4, h5⟩ := atI_get he
  have hl : z.cps.toList.length = z.length := by simp [Str.length]
  rw [hl] at h1 h4 h5
  have hn := line63
  exact tail_any (typeIs_str s z t) slot_str_getitem.lookup (getItem_str (c := c) (by
    have e1 : decide (i < -(2 ^ 63 : Int)) = false := decide_eq_false (by omega)
    have e2 : decide (i ≥ 2 ^ 63) = false := decide_eq_false (by omega)
    rw [e1, e2, Bool.or_false]) (by rw [h1]; simpa using h2) ⟨.str ⟨#[c]⟩, H, I.tok _, ⟨_, rfl⟩, q⟩) hs
/-- list, tuple or str -/
def rIx (K : PySem.W.Frag) : R2 := fun x y H Q => rIxL K x y H Q ∨ rIxT K x y H Q ∨ rIxS x y H Q
theorem ix_seq : IxR X (rIx X.K) := ix_list.or (ix_tup.or ix_str)

/-! ### xs[i] = v, any sign -/
/-- the list's object behind a store -/
theorem mapSeq_set (its : List Value) (n j : Nat) (u : Value) : Obj.mapSeq (·.setIfInBounds j u) { cls := .type "list", data := .seq its.toArray n } = { cls := .type "list", data := .seq (its.set j u).toArray n } := by
  simp [Obj.mapSeq]
theorem Inv.lst {pins : List (Addr × Obj)} {σ : St} {H : Hp} {s : Shared} {p : Addr} {xs : List V} (I : Inv X pins σ H s) (h : H p = some (.lst xs)) :
    ∃ (its : List Value) (n : Nat), Vals xs its ∧ s.heap.get? p = some { cls := .type "list", data := .seq its.toArray n } ∧ xs.length ≤ sizeLine := by
  obtain ⟨z, its, n, r, e⟩ := I.hok p _ h
  exact ⟨its, n, r, e, z⟩
/-- the list at p is written by an update of its object -/
theorem Inv.lstUpd {pins : List (Addr × Obj)} {σ : St} {H : Hp} {s : Shared} {p : Addr} {xs ys : List V} {its its' : List Value} {n n' : Nat} {f : Obj → Obj} (I : Inv X pins σ H s) (h : H p = some (.lst xs))
    (ho : s.heap.get? p = some { cls := .type "list", data := .seq its.toArray n }) (hf : f { cls := .type "list", data := .seq its.toArray n } = { cls := .type "list", data := .seq its'.toArray n' }) (r : Vals ys its') (hz : ys.length ≤ sizeLine) (t : Nat) :
    Inv X pins σ (upd H p (.lst ys)) { s with heap := s.heap.update p f, toks := t } := by
  have e : (s.heap.update p f).get? p = some { cls := .type "list", data := .seq its'.toArray n' } := by
    rw [Heap.get?_update_self f ho (by rw [hf] <;> rfl), hf]
  refine I.write (x := p) (e := p) (by rw [h]; trivial) (.inl rfl) (fun b u hb q => (Heap.get?_update_other _ _ (Ne.symm hb)).trans q) ⟨_, e⟩ ?_
  exact ⟨hz, its', n', r, e⟩
def rSetL : V → V → V → Hp → (Hp → Prop) → Prop := fun o i v H Q => ∃ p xs k j, o = .ref p ∧ i = .int k ∧ H p = some (.lst xs) ∧ ixN xs.length k = some j ∧ Q (upd H p (.lst (xs.set j v)))
theorem set_list : PSet X rSetL := by
  intro pins s σ H o i v ov iv u Q I ro ri rv h
  obtain ⟨p, xs, k, j, rfl, rfl, hp, hj, q⟩ := h
  cases ro
  obtain ⟨t, rfl⟩ := ri
  obtain ⟨its, n, r, ho, hz⟩ := I.lst hp
  obtain ⟨h1, h2, h3, h4⟩ := ixN_seq hj
  have hl := r.length
  have hn := line63
  have I' : Inv X pins σ (upd H p (.lst (xs.set j v))) { s with heap := s.heap.update p (Obj.mapSeq (·.setIfInBounds j u)) } :=
    I.lstUpd hp ho (mapSeq_set its n j u) (r.set rv j) (by rw [List.length_set]; exact hz) s.toks
  by_cases h0 : 0 ≤ k
  · have hk : k.toNat = j := by
      rw [seqIndex_of h0 h4] at h1
      exact Option.some.inj h1
    exact PySem.W.ki_setAt ho h0 (by omega) (by rw [List.size_toArray, ← hl]; exact h4) (by rw [hk]; exact ⟨_, I', q⟩)
  · have hk : (k + (its.toArray.size : Int)).toNat = j := by
      rw [seqIndex_neg (by omega) h3] at h1
      rw [List.size_toArray, ← hl]
      exact Option.some.inj h1
    exact PySem.W.ki_setBack ho (by omega) (by rw [List.size_toArray, ← hl]; exact h3) (by omega) (by rw [hk]; exact ⟨_, I', q⟩)

/-! ### slices -/
theorem slice_bounds (lo hi : Option Int) (n : Nat) : (sliceBounds lo hi none n).1 = ((HT.sIx n 0 lo : Nat) : Int) ∧ (sliceBounds lo hi none n).2.1 = ((HT.sIx n n hi : Nat) : Int) ∧ (sliceBounds lo hi none n).2.2 = 1 := by
  refine ⟨?_, ?_, rfl⟩
  · cases lo with
    | none => simp [sliceBounds, HT.sIx]
    | some i =>
      simp only [sliceBounds, HT.sIx, Option.getD_none, show (1 : Int) > 0 by decide, if_true]
      by_cases h : i < 0
      · simp only [h, if_true] <;> omega
      · simp only [h, if_false] <;> omega
  · cases hi with
    | none => simp [sliceBounds, HT.sIx]
    | some i =>
      simp only [sliceBounds, HT.sIx, Option.getD_none, show (1 : Int) > 0 by decide, if_true]
      by_cases h : i < 0
      · simp only [h, if_true] <;> omega
      · simp only [h, if_false] <;> omega
theorem slicePick_cut (its : List Value) (lo hi : Option Int) : slicePick its.toArray lo hi none = ((its.drop (HT.sIx its.length 0 lo)).take (HT.sIx its.length its.length hi - HT.sIx its.length 0 lo)).toArray := by
  obtain ⟨h1, h2, h3⟩ := slice_bounds lo hi its.toArray.size
  unfold slicePick
  rw [h1, h2, h3]
  simp only [sliceRange_one, pick_run, List.size_toArray] <;> rfl
/-- xs[lo:hi] of a list: a new list -/
def rSlL (K : PySem.W.Frag) : V → Option Int → Option Int → Hp → VK → Prop := fun x lo hi H Q => ∃ a xs, x = .ref a ∧ SqL K H a xs ∧ ∀ p, H p = none → Q (.ref p) (upd H p (.lst (cutV xs lo hi)))
theorem sl_list : SlR X (rSlL X.K) := by
  intro pins s σ H x v vl vu lo hi sl Q I rx hs pl pu h
  obtain ⟨a, xs, rfl, hx, q⟩ := h
  cases rx
  obtain ⟨its, r, ht, hz⟩ := I.list hx
  have hlen := r.length
  refine ⟨"list", _, slot_list_getitem.lookup, ht.isList.typeIs, ?_⟩
  refine wpAny_getItem_list_slice ht.isList hs pl pu .none (by simp) ?_ (by rw [List.size_toArray] <;> omega)
  rw [slicePick_cut, ← hlen]
  refine ⟨.ref s.heap.objs.size, _, I.laid (t' := s.toks) (o := .lst (cutV xs lo hi)) (fun b ob q => Heap.get?_push_of_some _ q) (Nat.le_refl _) ?_, rfl, q _ (I.hok.fresh (Nat.le_refl _))⟩
  exact ⟨Nat.le_trans (cutV_length xs lo hi) hz, _, 0, (r.drop (HT.sIx xs.length 0 lo)).take (HT.sIx xs.length xs.length hi - HT.sIx xs.length 0 lo), Heap.get?_push_size _ rfl⟩

/-! ### in, not in: flat items -/
def flatV : V → Bool
  | .non => true
  | .bl _ => true
  | .int _ => true
  | .str _ => true
  | _ => false
/-- == of flat values -/
def eqV : V → V → Bool
  | .non, .non => true
  | .bl a, .bl b => a == b
  | .bl a, .int b => (if a then 1 else 0) == b
  | .int a, .bl b => a == (if b then 1 else 0)
  | .int a, .int b => a == b
  | .str a, .str b => a == b
  | _, _ => false
theorem eqAt_V {A : Around} {s : Shared} {y x : V} {u v : Value} (ry : RelV y u) (rx : RelV x v) (fy : flatV y = true) (fx : flatV x = true) : SeqAt.EqAt A s u v (eqV y x) := by
  cases y with
  | non =>
    cases ry
    cases x with
    | non => cases rx; exact SeqAt.EqAt.same _
    | bl b => cases rx; exact SeqAt.EqAt.none_bool b
    | int b => obtain ⟨t, rfl⟩ := rx; exact SeqAt.EqAt.none_int b t
    | str b => obtain ⟨t, rfl⟩ := rx; exact SeqAt.EqAt.none_str b t
    | _ => exact absurd (show false = true from fx) Bool.false_ne_true
  | bl a =>
    cases ry
    cases x with
    | non => cases rx; exact SeqAt.EqAt.bool_none a
    | bl b => cases rx; exact SeqAt.EqAt.bool_bool a b
    | int b => obtain ⟨t, rfl⟩ := rx; exact SeqAt.EqAt.bool_int a b t
    | str b => obtain ⟨t, rfl⟩ := rx; exact SeqAt.EqAt.bool_str a b t
    | _ => exact absurd (show false = true from fx) Bool.false_ne_true
  | int a =>
    obtain ⟨t', rfl⟩ := ry
    cases x with
    | non => cases rx; exact SeqAt.EqAt.int_none a t'
    | bl b => cases rx; exact SeqAt.EqAt.int_bool a t' b
    | int b => obtain ⟨t, rfl⟩ := rx; exact SeqAt.EqAt.int_int a t' b t
    | str b => obtain ⟨t, rfl⟩ := rx; exact SeqAt.EqAt.int_str a t' b t
    | _ => exact absurd (show false = true from fx) Bool.false_ne_true
  | str a =>
    obtain ⟨t', rfl⟩ := ry
    cases x with
    | non => cases rx; exact SeqAt.EqAt.str_none a t'
    | bl b => cases rx; exact SeqAt.EqAt.str_bool a t' b
    | int b => obtain ⟨t, rfl⟩ := rx; exact SeqAt.EqAt.str_int a t' b t
    | str b => obtain ⟨t, rfl⟩ := rx; exact SeqAt.EqAt.str_str a t' b t
    | _ => exact absurd (show false = true from fx) Bool.false_ne_true
  | _ => exact absurd (show false = true from fy) Bool.false_ne_true
/-- the items' answers, read off the values (a value's own answer does not lean on its token) -/
def eqU (x : V) (u : Value) : Bool := match u with
  | .none => eqV .non x
  | .bool b => eqV (.bl b) x
  | .int i _ => eqV (.int i) x
  | .str z _ => eqV (.str z) x
  | _ => false
theorem eqU_of {x y : V} {u : Value} (r : RelV y u) (f : flatV y = true) : eqU x u = eqV y x := by
  cases y with
  | non => cases r; rfl
  | bl b => cases r; rfl
  | int i => obtain ⟨t, rfl⟩ := r; rfl
  | str z => obtain ⟨t, rfl⟩ := r; rfl
  | _ => exact absurd (show false = true from f) Bool.false_ne_true
theorem any_eqU {x : V} : ∀ {xs : List V} {us : List Value}, Vals xs us → xs.all flatV = true → us.any (eqU x) = xs.any fun y => eqV y x
  | _, _, .nil, _ => rfl
  | y :: xs, u :: us, .cons r t, f => by
    rw [List.all_cons, Bool.and_eq_true] at f
    rw [List.any_cons, List.any_cons, eqU_of r f.1, any_eqU t f.2]
theorem mem_eqAt {A : Around} {s : Shared} {x : V} {v : Value} (rx : RelV x v) (fx : flatV x = true) : ∀ {xs : List V} {us : List Value}, Vals xs us → xs.all flatV = true → ∀ u ∈ us, SeqAt.EqAt A s u v (eqU x u)
  | _, _, .nil, _ => fun u hu => by cases hu
  | y :: xs, u :: us, .cons r t, f => fun u' hu => by
    rw [List.all_cons, Bool.and_eq_true] at f
    rcases List.mem_cons.mp hu with rfl | hu
    · rw [eqU_of r f.1]; exact eqAt_V r rx f.1 fx
    · exact mem_eqAt rx fx t f.2 u' hu
def inV (x : V) (xs : List V) : Bool := xs.any fun y => eqV y x
/-- x in a list or tuple of flat items -/
def rIn (K : PySem.W.Frag) (neg : Bool) : R2 := fun x y H Q => ∃ p xs, y = .ref p ∧ (SqL K H p xs ∨ SqT K H p xs) ∧ flatV x = true ∧ xs.all flatV = true ∧ Q (.bl (if neg then !inV x xs else inV x xs)) H
theorem op_in_seq : OpR X (compareOp .In) (rIn X.K false) := by
  intro pins s σ H x y v u Q I rx ry h
  obtain ⟨p, xs, rfl, hq, fx, fs, q⟩ := h
  cases ry
  rcases hq with hq | hq
  · obtain ⟨its, r, pl, hz⟩ := I.list hq
    refine SeqAt.in_listAt (eqU x) pl.isList (fun w hw => mem_eqAt rx fx r fs w (by simpa using hw)) ⟨.bl _, H, I, rfl, ?_⟩
    rw [show its.toArray.any (eqU x) = its.any (eqU x) by simp, any_eqU r fs]
    exact q
  · obtain ⟨its, r, pl, hz⟩ := I.tuple hq
    refine SeqAt.in_tupleAt (eqU x) pl (fun w hw => mem_eqAt rx fx r fs w (by simpa using hw)) ⟨.bl _, H, I, rfl, ?_⟩
    rw [show its.toArray.any (eqU x) = its.any (eqU x) by simp, any_eqU r fs]
    exact q
theorem op_notIn_seq : OpR X (compareOp .NotIn) (rIn X.K true) := by
  intro pins s σ H x y v u Q I rx ry h
  obtain ⟨p, xs, rfl, hq, fx, fs, q⟩ := h
  cases ry
  rcases hq with hq | hq
  · obtain ⟨its, r, pl, hz⟩ := I.list hq
    refine SeqAt.notIn_listAt (eqU x) pl.isList (fun w hw => mem_eqAt rx fx r fs w (by simpa using hw)) ⟨.bl _, H, I, rfl, ?_⟩
    rw [show its.toArray.any (eqU x) = its.any (eqU x) by simp, any_eqU r fs]
    exact q
  · obtain ⟨its, r, pl, hz⟩ := I.tuple hq
    refine SeqAt.notIn_tupleAt (eqU x) pl (fun w hw => mem_eqAt rx fx r fs w (by simpa using hw)) ⟨.bl _, H, I, rfl, ?_⟩
    rw [show its.toArray.any (eqU x) = its.any (eqU x) by simp, any_eqU r fs]
    exact q
theorem op_notIn_str : OpR X (compareOp .NotIn) (fun x y H Q => ∃ i j, x = .str i ∧ y = .str j ∧ Q (.bl (!(!(Builtin.Str.occurrences j i 0 j.length 1).isEmpty))) H) := by
  intro pins s σ H x y v u Q I rx ry h
  obtain ⟨i, j, rfl, rfl, q⟩ := h
  obtain ⟨t, rfl⟩ := rx
  obtain ⟨t', rfl⟩ := ry
  exact notIn_str ⟨.bl _, H, I, rfl, q⟩

/-! ### len, list(x), tuple(x) of any list or tuple that is read -/
theorem call_len_seq : CallR X (.builtin "len") (fun xs H Q => ∃ p ys, xs = [.ref p] ∧ (SqL X.K H p ys ∨ SqT X.K H p ys) ∧ Q (.int ys.length) H) := by
  intro pins s σ H xs us Q I r h
  obtain ⟨p, ys, rfl, hq, q⟩ := h
  obtain ⟨u, rfl, rx⟩ := vals1 r
  cases rx
  have hn := line63
  rcases hq with hq | hq
  · obtain ⟨its, r', pl, hz⟩ := I.list hq
    have hlen := r'.length
    exact Calls.call_len_list pl.isList (by simp only [List.size_toArray] <;> omega) ⟨.int ys.length, H, I.tok _, ⟨s.toks + 1, by rw [List.size_toArray, hlen]⟩, q⟩
  · obtain ⟨its, r', pl, hz⟩ := I.tuple hq
    have hlen := r'.length
    exact len_tuple pl (by simp only [List.size_toArray] <;> omega) ⟨.int ys.length, H, I.tok _, ⟨s.toks + 1, by rw [List.size_toArray, hlen]⟩, q⟩
theorem call_len_str : CallR X (.builtin "len") (fun xs H Q => ∃ z, xs = [.str z] ∧ z.length ≤ sizeLine ∧ Q (.int z.length) H) := by
  intro pins s σ H xs us Q I r h
  obtain ⟨z, rfl, hz, q⟩ := h
  obtain ⟨u, rfl, t, rfl⟩ := vals1 r
  have hn := line63
  exact len_str (by omega) ⟨.int z.length, H, I.tok _, ⟨_, rfl⟩, q⟩
theorem CallR.or {f : Value} {r r' : List V → Hp → VK → Prop} (h : CallR X f r) (h' : CallR X f r') : CallR X f (fun xs H Q => r xs H Q ∨ r' xs H Q) := by
  intro pins s σ H xs us Q I rs q
  rcases q with q | q
  · exact h pins s σ H xs us Q I rs q
  · exact h' pins s σ H xs us Q I rs q
theorem call_list_of : CallR X (.type "list") (fun xs H Q => ∃ p ys, xs = [.ref p] ∧ (SqL X.K H p ys ∨ SqT X.K H p ys) ∧ ∀ l, H l = none → Q (.ref l) (upd H l (.lst ys))) := by
  intro pins s σ H xs us Q I r h
  obtain ⟨p, ys, rfl, hq, q⟩ := h
  obtain ⟨u, rfl, rx⟩ := vals1 r
  cases rx
  have fin : ∀ (its : List Value), Vals ys its → ys.length ≤ sizeLine → ∀ (h' : Heap) (c' : Nat), (∀ b o', s.heap.get? b = some o' → h'.get? b = some o') →
      h'.get? s.heap.objs.size = some { cls := .type "list", dict := none, data := .seq its.toArray c', slots := #[] } → EP X pins σ Q (.ref s.heap.objs.size) { s with heap := h' } := fun its r' hz h' c' kp e =>
    ⟨.ref s.heap.objs.size, _, I.laid (t' := s.toks) kp (Nat.le_refl _) (show ObjOk X.prog X.w _ h' _ (.lst ys) from ⟨hz, its, c', r', e⟩), rfl, q _ (I.hok.fresh (Nat.le_refl _))⟩
  rcases hq with hq | hq
  · obtain ⟨its, r', pl, hz⟩ := I.list hq
    have hlen := r'.length
    obtain ⟨o, ho, hc, n, hd⟩ := pl.isList
    exact call_list_seq p (.inl rfl) ho hc hd (fun h' c' kp e => fin its r' hz h' c' kp e) (by simp only [List.size_toArray] <;> omega)
  · obtain ⟨its, r', pl, hz⟩ := I.tuple hq
    have hlen := r'.length
    obtain ⟨o, ho, hc, n, hd⟩ := pl
    exact call_list_seq p (.inr rfl) ho hc hd (fun h' c' kp e => fin its r' hz h' c' kp e) (by simp only [List.size_toArray] <;> omega)
theorem call_tuple_of : CallR X (.type "tuple") (fun xs H Q => ∃ p ys, xs = [.ref p] ∧ ((SqL X.K H p ys ∧ ∀ l, H l = none → Q (.ref l) (upd H l (.tup ys))) ∨ (SqT X.K H p ys ∧ Q (.ref p) H))) := by
  intro pins s σ H xs us Q I r h
  obtain ⟨p, ys, rfl, h⟩ := h
  obtain ⟨u, rfl, rx⟩ := vals1 r
  cases rx
  rcases h with ⟨hq, q⟩ | ⟨hq, q⟩
  · obtain ⟨its, r', pl, hz⟩ := I.list hq
    have hlen := r'.length
    refine call_tuple_list pl.isList (fun h' kp => ?_) (by simp only [List.size_toArray] <;> omega)
    have I1 : Inv X pins σ H { s with heap := h' } := I.kept (t' := s.toks) kp
    have I2 : Inv X pins σ (upd H h'.objs.size (.tup ys)) { s with heap := h'.push { cls := .type "tuple", data := .seq its.toArray } } :=
      I1.laid (t' := s.toks) (fun b o e => Heap.get?_push_of_some _ e) (Nat.le_refl _) (show ObjOk X.prog X.w _ _ _ (.tup ys) from ⟨hz, its, r', IsTup.new _ _⟩)
    exact ⟨.ref h'.objs.size, _, I2, rfl, q _ (I1.hok.fresh (Nat.le_refl _))⟩
  · obtain ⟨its, r', pl, hz⟩ := I.tuple hq
    exact call_tuple_same pl ⟨.ref p, H, I, rfl, q⟩

/-! ### the call of a builtin's method: o.m(..) -/
/-- the value is of that builtin type -/
def tyV (K : PySem.W.Frag) (T : String) (x : V) (H : Hp) : Prop := match x with
  | .str _ => T = "str"
  | .int _ => T = "int"
  | .ref p => (T = "list" ∧ ∃ xs, SqL K H p xs) ∨ (T = "tuple" ∧ ∃ o, K.lookup p = some o ∧ o.cls = .type "tuple" ∧ o.dict = none) ∨
      (T = "dict" ∧ ((∃ kvs, H p = some (.dK kvs)) ∨ ∃ kvs, H p = some (.dT kvs))) ∨ (T = "set" ∧ ∃ S n, H p = some (.set S n))
  | _ => False
theorem tyV_is {pins : List (Addr × Obj)} {σ : St} {H : Hp} {s : Shared} {T : String} {x : V} {v : Value} (I : Inv X pins σ H s) (r : RelV x v) (ty : tyV X.K T x H) :
    s.TypeIs v T ∧ ∀ a, v = .ref a → ∃ ob, s.heap.get? a = some ob ∧ ob.dict = none := by
  cases x with
  | str z =>
    obtain ⟨t, rfl⟩ := r
    cases (show T = "str" from ty)
    exact ⟨typeIs_str s z t, fun _ e => nomatch e⟩
  | int i =>
    obtain ⟨t, rfl⟩ := r
    cases (show T = "int" from ty)
    exact ⟨typeIs_int s i t, fun _ e => nomatch e⟩
  | ref p =>
    cases r
    rcases ty with ⟨rfl, xs, hq⟩ | ⟨rfl, o, hk, hc, hd⟩ | ⟨rfl, hk⟩ | ⟨rfl, S, n, hk⟩
    · obtain ⟨its, _, pl, _⟩ := I.list hq
      refine ⟨pl.isList.typeIs, fun a e => ?_⟩
      cases e
      obtain ⟨o, n, e, c, hd, _⟩ := pl
      exact ⟨o, e, hd⟩
    · refine ⟨⟨o, I.kIn p o hk, hc⟩, fun a e => ?_⟩
      cases e
      exact ⟨o, I.kIn _ o hk, hd⟩
    · have z : ∃ o, s.heap.get? p = some o ∧ o.ExactDict := by
        rcases hk with ⟨kvs, hk⟩ | ⟨kvs, hk⟩
        · obtain ⟨_, _, _, _, o, _, _, e, ex, _⟩ := I.hok p _ hk
          exact ⟨o, e, ex⟩
        · obtain ⟨_, _, _, _, o, _, _, e, ex, _⟩ := I.hok p _ hk
          exact ⟨o, e, ex⟩
      obtain ⟨o, e, ex⟩ := z
      refine ⟨⟨o, e, ex.1⟩, fun a e2 => ?_⟩
      cases e2
      exact ⟨o, e, ex.2.1⟩
    · obtain ⟨o, _, _, _, e, ex, _⟩ := I.hok p _ hk
      refine ⟨⟨o, e, ex.1⟩, fun a e2 => ?_⟩
      cases e2
      exact ⟨o, e, ex.2.1⟩
  | _ => exact False.elim ty
def tBM0 (K : PySem.W.Frag) (T : String) (r : V → List V → Hp → VK → Prop) (to : TE) : TE := fun σ H Q => to σ H fun x H1 => tyV K T x H1 ∧ r x [] H1 Q
def tBM (K : PySem.W.Frag) (T : String) (r : V → List V → Hp → VK → Prop) (to : TE) (t : TA) : TE := fun σ H Q => to σ H fun x H1 => tyV K T x H1 ∧ t σ H1 fun xs H2 => r x xs H2 Q
variable {o e : Expr} {es : List Expr} {to : TE} {t : TA} {name : Str} {apos cpos : Pos} {T id : String} {r : V → List V → Hp → VK → Prop}
theorem pe_bm0 (pa : PlainAttrs T) (slot : Slot T name id) (hty : typeOf (.builtin id) = pure (.type "method_descriptor")) (hm : MtR X id r) (ho : PE X o to)
    (hbase : attributeBase o name X.env (eval o X.env) = eval o X.env := by rfl) (hline : (apos.endLine == cpos.line) = true := by rfl) : PE X (.Call (.Attribute o name apos) [] [] cpos) (tBM0 X.K T r to) := by
  intro pins s σ H Q I h
  refine wpAny_Call_method0_late hbase hline (thn (ho pins s σ H _ I h) fun v s1 ⟨x, H1, I1, r1, ty, q1⟩ => ?_)
  obtain ⟨h1, h2⟩ := tyV_is I1 r1 ty
  exact ⟨T, id, pa, slot, hty, h1, h2, Calls.callWith_builtin rfl (PySem.evalArgs_none (hm pins s1 σ H1 x [] v [] Q I1 r1 .nil q1))⟩
theorem pe_bm (pa : PlainAttrs T) (slot : Slot T name id) (hty : typeOf (.builtin id) = pure (.type "method_descriptor")) (hm : MtR X id r) (ho : PE X o to) (ha : PA X (e :: es) t)
    (hbase : attributeBase o name X.env (eval o X.env) = eval o X.env := by rfl)
    (hfew : ((backTo cpos (starEach (e :: es) X.env)).all (fun x => !x.1) && (backToKw cpos (keywordEach [] X.env)).all (fun x => x.1.isSome)
      && decide ((e :: es).length + ([] : List Keyword).length + (if ([] : List Keyword).isEmpty then 0 else 1) < 30)) = true := by rfl)
    (hline : (apos.endLine == cpos.line) = true := by rfl) (hs : starEach (e :: es) X.env = (false, eval e X.env) :: starEach es X.env := by rfl) (hplain : (backTo cpos (starEach es X.env)).any (·.1) = false := by rfl) :
    PE X (.Call (.Attribute o name apos) (e :: es) [] cpos) (tBM X.K T r to t) := by
  intro pins s σ H Q I h
  refine wpAny_Call_method_late hbase hfew hline rfl (thn (ho pins s σ H _ I h) fun v s1 ⟨x, H1, I1, r1, ty, q1⟩ => ?_)
  obtain ⟨h1, h2⟩ := tyV_is I1 r1 ty
  refine ⟨T, id, pa, slot, hty, h1, h2, ?_⟩
  have hA := ha cpos pins s1 σ H1 _ I1 q1
  rw [hs] at hA ⊢
  refine Calls.callWith_builtin (by show (false || (backTo cpos (starEach es X.env)).any (·.1)) = false; rw [hplain] <;> rfl) (Calls.evalArgs_plain ?_)
  exact thn hA fun us s2 ⟨vs, H2, I2, r2, q2⟩ => hm pins s2 σ H2 x vs v us Q I2 r1 r2 q2
/- xs.append(e), list.index on a module's tuple .. are MtR facts of 06m -/
end
end L2

namespace L2
open PySem PySem.Spec PyProof.Rows

def MtM (X : Cx) (id : String) (r : V → List V → Hp → VK → Prop) : Prop :=
  ∀ (pins : List (Addr × Obj)) (s : Shared) (σ : St) (H : Hp) (x : V) (xs : List V) (v : Value) (us : List Value) (Q : VK), Inv X pins σ H s → RelV x v → Vals xs us → r x xs H Q →
    wpAny (model X.prog X.w) X.A (call (.builtin id) (v :: us)) (EP X pins σ Q) X.xe s

/-! ### lists of values -/
theorem Vals.one : ∀ {x : V} {us : List Value}, Vals [x] us → ∃ u, us = [u] ∧ RelV x u
  | _, _, .cons r .nil => ⟨_, rfl, r⟩
theorem Vals.two : ∀ {x y : V} {us : List Value}, Vals [x, y] us → ∃ u v, us = [u, v] ∧ RelV x u ∧ RelV y v
  | _, _, _, .cons r (.cons q .nil) => ⟨_, _, rfl, r, q⟩
theorem Vals.zero : ∀ {us : List Value}, Vals [] us → us = []
  | _, .nil => rfl
theorem Vals.dropLast {xs : List V} {us : List Value} (h : Vals xs us) : Vals xs.dropLast us.dropLast := by
  induction h with
  | nil => exact .nil
  | cons r t ih =>
    cases t with
    | nil => exact .nil
    | cons q t' => exact .cons r ih
theorem Vals.eraseIdx : ∀ {xs : List V} {us : List Value} (i : Nat), Vals xs us → Vals (xs.eraseIdx i) (us.eraseIdx i)
  | _, _, _, .nil => .nil
  | _, _, 0, .cons _ t => t
  | _, _, i + 1, .cons r t => .cons r (Vals.eraseIdx i t)
theorem Vals.reverse {xs : List V} {us : List Value} (h : Vals xs us) : Vals xs.reverse us.reverse := by
  induction h with
  | nil => exact .nil
  | cons r t ih => rw [List.reverse_cons, List.reverse_cons]; exact Vals.append ih (.cons r .nil)
theorem Vals.rep {xs : List V} {us : List Value} (h : Vals xs us) : ∀ k : Nat, Vals (List.replicate k xs).flatten (List.replicate k us).flatten
  | 0 => .nil
  | k + 1 => by
    rw [List.replicate_succ, List.replicate_succ, List.flatten_cons, List.flatten_cons]
    exact Vals.append h (Vals.rep h k)
theorem erase_last {α : Type} (l : List α) : l.eraseIdx (l.length - 1) = l.dropLast := by
  induction l with
  | nil => rfl
  | cons a r ih =>
    cases r with
    | nil => rfl
    | cons b r =>
      have e : (a :: b :: r).length - 1 = ((b :: r).length - 1) + 1 := by
        have h1 : (a :: b :: r).length = r.length + 2 := rfl
        have h2 : (b :: r).length = r.length + 1 := rfl
        omega
      rw [e, List.eraseIdx_cons_succ, ih]
      all_goals rfl
theorem len_erase {α : Type} : ∀ (l : List α) (i : Nat), (l.eraseIdx i).length ≤ l.length
  | [], _ => Nat.le_refl _
  | _ :: _, 0 => Nat.le_succ _
  | _ :: r, i + 1 => Nat.succ_le_succ (len_erase r i)
theorem foldl_rep (its : List Value) : ∀ (k : Nat) (acc : List Value),
    List.foldl (fun x1 x2 => x1 ++ x2) acc.toArray (List.replicate k its.toArray) = (acc ++ (List.replicate k its).flatten).toArray
  | 0, acc => by simp
  | k + 1, acc => by
    have e : acc.toArray ++ its.toArray = (acc ++ its).toArray := by simp
    have e2 : (acc ++ its) ++ (List.replicate k its).flatten = acc ++ (List.replicate (k + 1) its).flatten := by
      rw [List.replicate_succ, List.flatten_cons, List.append_assoc]
    rw [← e2, ← foldl_rep its k (acc ++ its), ← e, List.replicate_succ, List.foldl_cons]

section
variable {X : Cx} {pins : List (Addr × Obj)} {σ : St} {H : Hp} {s : Shared} {l b : Addr} {xs ys zs : List V}

/-! ### the two steps: a tracked list is rewritten, a new list is laid -/
theorem Inv.lset {its its' : List Value} {n : Nat} {f : Array Value → Array Value} {t' : Nat} (I : Inv X pins σ H s) (hH : H l = some (.lst xs))
    (e : s.heap.get? l = some { cls := .type "list", data := .seq its.toArray n }) (hf : f its.toArray = its'.toArray) (hv : Vals ys its') (hz : ys.length ≤ sizeLine) :
    Inv X pins σ (upd H l (.lst ys)) { s with heap := s.heap.update l (Obj.mapSeq f), toks := t' } := by
  have q := PySem.IsL.update e f
  rw [hf] at q
  refine I.write (x := l) (e := l) (by rw [hH]; exact trivial) (.inl rfl) (fun b' u hb hu => (Heap.get?_update_other s.heap (Obj.mapSeq f) (Ne.symm hb)).trans hu) ⟨_, q⟩ ?_
  exact ⟨hz, its', _, hv, q⟩
theorem Inv.lnew {its : List Value} {t' : Nat} (I : Inv X pins σ H s) (hv : Vals ys its) (hz : ys.length ≤ sizeLine) :
    Inv X pins σ (upd H s.heap.objs.size (.lst ys)) { s with heap := s.heap.push { cls := .type "list", data := .seq its.toArray }, toks := t' } :=
  I.laid (fun _ _ q => Heap.get?_push_of_some _ q) (Nat.le_refl _) ⟨hz, its, 0, hv, Heap.get?_push_size _ rfl⟩
theorem Inv.fresh (I : Inv X pins σ H s) : H s.heap.objs.size = none := I.hok.fresh (Nat.le_refl _)
theorem Inv.lstM (I : Inv X pins σ H s) (hH : H l = some (.lst xs)) : xs.length ≤ sizeLine ∧ ∃ (its : List Value) (n : Nat), Vals xs its ∧ xs.length = its.length ∧ s.heap.get? l = some { cls := .type "list", data := .seq its.toArray n } := by
  obtain ⟨z, its, n, r, e⟩ := I.hok l _ hH
  exact ⟨z, its, n, r, r.length, e⟩

theorem notLongL {n : Nat} (h : n ≤ sizeLine) : Builtin.List.listTooLong n = false := by
  unfold Builtin.List.listTooLong
  exact decide_eq_false (by omega)
end

section
variable {X : Cx}

/-! ### methods -/
def rAppend : V → List V → Hp → VK → Prop := fun x vs H Q => ∃ l xs y, x = .ref l ∧ vs = [y] ∧ H l = some (.lst xs) ∧ xs.length < sizeLine ∧ Q .non (upd H l (.lst (xs ++ [y])))
theorem mt_append : MtM X "list.append" rAppend := by
  intro pins s σ H x vs v us Q I rx rv h
  obtain ⟨l, xs, y, rfl, rfl, hH, hz, q⟩ := h
  cases rx
  obtain ⟨u, rfl, ru⟩ := rv.one
  obtain ⟨z, its, n, r, hl, e⟩ := I.lstM hH
  refine call_meets F.slot_list_append ⟨_, e, rfl⟩ F.entry_list_append (F.args_list_append_2 _ _) (PySem.list_append l its.toArray n u (by rw [List.size_toArray]; omega)) ⟨e, ?_⟩
  refine ⟨.non, _, I.lset (its' := its ++ [u]) hH e (by simp) (r.append (.cons ru .nil)) ?_, rfl, q⟩
  rw [List.length_append, List.length_singleton]
  omega

def rExtend : V → List V → Hp → VK → Prop := fun x vs H Q => ∃ l b xs zs, x = .ref l ∧ vs = [.ref b] ∧ H l = some (.lst xs) ∧ H b = some (.lst zs) ∧ xs.length + zs.length ≤ sizeLine ∧ Q .non (upd H l (.lst (xs ++ zs)))
theorem mt_extend : MtM X "list.extend" rExtend := by
  intro pins s σ H x vs v us Q I rx rv h
  obtain ⟨l, b, xs, zs, rfl, rfl, hH, hB, hz, q⟩ := h
  cases rx
  obtain ⟨u, rfl, ru⟩ := rv.one
  cases ru
  obtain ⟨z, its, n, r, hl, e⟩ := I.lstM hH
  obtain ⟨z2, its2, n2, r2, hl2, e2⟩ := I.lstM hB
  have hsz : its.toArray.size + its2.toArray.size ≤ sizeLine := by rw [List.size_toArray, List.size_toArray]; omega
  have hlong : ¬ (!its.toArray.isEmpty && Builtin.List.listTooLong (its.toArray.size + its2.toArray.size)) = true := by
    rw [notLongL hsz, Bool.and_false]
    exact Bool.false_ne_true
  refine call_meets F.slot_list_extend ⟨_, e, rfl⟩ F.entry_list_extend (F.args_list_extend_2 _ _)
    (AutoSeq1.list_extend_list_list_0 l its.toArray n b its2.toArray n2 hlong (by rw [List.size_toArray]; omega) (by omega)) ⟨e, e2, ?_⟩
  refine ⟨.non, _, I.lset (its' := its ++ its2) hH e (by simp) (r.append r2) ?_, rfl, q⟩
  rw [List.length_append]
  omega

def rPop : V → List V → Hp → VK → Prop := fun x vs H Q => ∃ l xs y, x = .ref l ∧ vs = [] ∧ H l = some (.lst xs) ∧ xs[xs.length - 1]? = some y ∧ Q y (upd H l (.lst xs.dropLast))
theorem mt_pop : MtM X "list.pop" rPop := by
  intro pins s σ H x vs v us Q I rx rv h
  obtain ⟨l, xs, y, rfl, rfl, hH, hy, q⟩ := h
  cases rx
  have hus := rv.zero
  subst hus
  obtain ⟨z, its, n, r, hl, e⟩ := I.lstM hH
  obtain ⟨u, hu, ru⟩ := r.get hy
  have hy' : its.toArray[its.toArray.size - 1]? = some u := by
    show its.toArray[its.length - 1]? = some u
    rw [← Array.getElem?_toList, ← hl]
    exact hu
  refine call_meets F.slot_list_pop ⟨_, e, rfl⟩ F.entry_list_pop (F.args_list_pop_1 _) (MeetsSeq.list_pop_last l its.toArray n u hy' (by rw [List.size_toArray]; omega)) ⟨e, ?_⟩
  refine ⟨y, _, I.lset (its' := its.dropLast) hH e ?_ r.dropLast ?_, ru, q⟩
  · show its.toArray.eraseIdxIfInBounds (its.toArray.size - 1) = its.dropLast.toArray
    rw [List.size_toArray, List.eraseIdxIfInBounds_toArray, erase_last]
  · rw [List.length_dropLast]
    omega

def rPopAt : V → List V → Hp → VK → Prop := fun x vs H Q => ∃ l xs i k y, x = .ref l ∧ vs = [.int i] ∧ H l = some (.lst xs) ∧ -(2 ^ 63) ≤ i ∧ i < 2 ^ 63 ∧ seqIndex? i xs.length = some k ∧ xs[k]? = some y ∧ Q y (upd H l (.lst (xs.eraseIdx k)))
theorem mt_popAt : MtM X "list.pop" rPopAt := by
  intro pins s σ H x vs v us Q I rx rv h
  obtain ⟨l, xs, i, k, y, rfl, rfl, hH, h1, h2, hk, hy, q⟩ := h
  cases rx
  obtain ⟨u, rfl, ru⟩ := rv.one
  obtain ⟨t, rfl⟩ := ru
  obtain ⟨z, its, n, r, hl, e⟩ := I.lstM hH
  obtain ⟨w, hw, rw'⟩ := r.get hy
  refine call_meets F.slot_list_pop ⟨_, e, rfl⟩ F.entry_list_pop (F.args_list_pop_2 _ _)
    (MeetsSeq.list_pop_at l its.toArray n i t k w (fitsIndex_both h1 h2) (by rw [List.size_toArray, ← hl]; exact hk) (by rw [← Array.getElem?_toList]; exact hw) (by rw [List.size_toArray]; omega)) ⟨e, ?_⟩
  refine ⟨y, _, I.lset (its' := its.eraseIdx k) hH e ?_ (r.eraseIdx k) ?_, rw', q⟩
  · show its.toArray.eraseIdxIfInBounds k = (its.eraseIdx k).toArray
    rw [List.eraseIdxIfInBounds_toArray]
  · have := len_erase xs k
    omega

def rReverse : V → List V → Hp → VK → Prop := fun x vs H Q => ∃ l xs, x = .ref l ∧ vs = [] ∧ H l = some (.lst xs) ∧ Q .non (upd H l (.lst xs.reverse))
theorem mt_reverse : MtM X "list.reverse" rReverse := by
  intro pins s σ H x vs v us Q I rx rv h
  obtain ⟨l, xs, rfl, rfl, hH, q⟩ := h
  cases rx
  have hus := rv.zero
  subst hus
  obtain ⟨z, its, n, r, hl, e⟩ := I.lstM hH
  refine call_meets F.slot_list_reverse ⟨_, e, rfl⟩ F.entry_list_reverse (F.args_list_reverse_1 _) (AutoSeq1.list_reverse_list_0 l its.toArray n (by rw [List.size_toArray]; omega)) ⟨e, ?_⟩
  refine ⟨.non, _, I.lset (its' := its.reverse) hH e (by simp) r.reverse ?_, rfl, q⟩
  rw [List.length_reverse]
  omega

def rClear : V → List V → Hp → VK → Prop := fun x vs H Q => ∃ l xs, x = .ref l ∧ vs = [] ∧ H l = some (.lst xs) ∧ Q .non (upd H l (.lst []))
theorem mt_clear : MtM X "list.clear" rClear := by
  intro pins s σ H x vs v us Q I rx rv h
  obtain ⟨l, xs, rfl, rfl, hH, q⟩ := h
  cases rx
  have hus := rv.zero
  subst hus
  obtain ⟨z, its, n, r, hl, e⟩ := I.lstM hH
  refine call_meets F.slot_list_clear ⟨_, e, rfl⟩ F.entry_list_clear (F.args_list_clear_1 _) (AutoSeq1.list_clear_list_0 l its.toArray n (by rw [List.size_toArray]; omega)) ⟨e, ?_⟩
  exact ⟨.non, _, I.lset (its' := []) (ys := []) hH e rfl .nil (Nat.zero_le _), rfl, q⟩

/-! ### list + list, list += list, list * int -/
def rCat : R2 := fun x y H Q => ∃ l b xs zs, x = .ref l ∧ y = .ref b ∧ H l = some (.lst xs) ∧ H b = some (.lst zs) ∧ xs.length + zs.length ≤ sizeLine ∧ ∀ p, H p = none → Q (.ref p) (upd H p (.lst (xs ++ zs)))
theorem op_cat : OpR X (binaryOp .Add) rCat := by
  intro pins s σ H x y v u Q I rx ry h
  obtain ⟨l, b, xs, zs, rfl, rfl, hH, hB, hz, q⟩ := h
  cases rx
  cases ry
  obtain ⟨z, its, n, r, hl, e⟩ := I.lstM hH
  obtain ⟨z2, its2, n2, r2, hl2, e2⟩ := I.lstM hB
  refine PySem.P.add_list e e2 ?_ (by rw [List.size_toArray, List.size_toArray]; omega)
  have ea : its.toArray ++ its2.toArray = (its ++ its2).toArray := by simp
  rw [ea]
  exact ⟨.ref _, _, I.lnew (t' := s.toks) (r.append r2) (by rw [List.length_append]; omega), rfl, q _ I.fresh⟩
/-- a list times an int (a negative one is nothing) -/
def rRep : R2 := fun x y H Q => ∃ l k xs, x = .ref l ∧ y = .int k ∧ H l = some (.lst xs) ∧ -(2 ^ 63) ≤ k ∧ k < 2 ^ 63 ∧ xs.length * k.toNat ≤ sizeLine ∧
  ∀ p, H p = none → Q (.ref p) (upd H p (.lst (List.replicate k.toNat xs).flatten))
theorem len_rep {α : Type} (xs : List α) (k : Nat) : (List.replicate k xs).flatten.length = k * xs.length := by
  induction k with
  | zero => simp
  | succ k ih => rw [List.replicate_succ, List.flatten_cons, List.length_append, ih, Nat.succ_mul, Nat.add_comm]
theorem op_rep : OpR X (binaryOp .Mult) rRep := by
  intro pins s σ H x y v u Q I rx ry h
  obtain ⟨l, k, xs, rfl, rfl, hH, h1, h2, hz, q⟩ := h
  cases rx
  obtain ⟨t, rfl⟩ := ry
  obtain ⟨z, its, n, r, hl, e⟩ := I.lstM hH
  have hlen : its.toArray.size * k.toNat ≤ sizeLine := by rw [List.size_toArray, ← hl]; exact hz
  have hcap : ¬ its.toArray.size * k.toNat > (2 ^ 63 - 1) / 8 := by
    have : (sizeLine : Nat) ≤ (2 ^ 63 - 1) / 8 := by decide
    omega
  have hfit : ¬ (!Builtin.List.listFitsIndex k) = true := by
    rw [fitsIndex_both h1 h2]
    exact Bool.false_ne_true
  have hlong : ¬ Builtin.List.listTooLong (its.toArray.size * k.toNat) = true := by
    rw [notLongL hlen]
    exact Bool.false_ne_true
  have hnew : List.foldl (fun x1 x2 => x1 ++ x2) #[] (List.replicate (if its.toArray.isEmpty = true then 0 else k.toNat) its.toArray) = (List.replicate k.toNat its).flatten.toArray := by
    have f0 : ∀ m : Nat, List.foldl (fun x1 x2 => x1 ++ x2) #[] (List.replicate m its.toArray) = (List.replicate m its).flatten.toArray := fun m => by
      have := foldl_rep its m []
      rw [List.nil_append] at this
      exact this
    rw [f0]
    cases its with
    | nil => simp
    | cons a r' => rw [if_neg (by simp)]
  refine wpAny_binaryOp_repeat_ref (T := "list") (U := "int") (by decide) ⟨_, e, rfl⟩ (fun s' => typeIs_int s' k t) noFill_list_mul F.fills_int_mul F.slot_int_rmul repeat_list F.slot_int_index.lookup
    (call_meets F.slot_int_rmul (typeIs_int s k t) F.entry_int_rmul (F.args_int_rmul_2 _ _) (int___rmul___int_list k t l its.toArray n)
      ⟨e, rfl, ⟨_, e, rfl⟩, call_meets F.slot_list_mul ⟨_, e, rfl⟩ F.entry_list_mul (F.args_list_mul_2 _ _) (AutoListH.list___mul___list_int_3 l its.toArray n k t hfit hcap hlong) ⟨e, ?_⟩⟩)
  rw [hnew]
  exact ⟨.ref _, _, I.lnew (t' := s.toks) (r.rep k.toNat) (by rw [len_rep, Nat.mul_comm]; exact hz), rfl, q _ I.fresh⟩

/-! ### del xs[i] -/
theorem del_list {pins : List (Addr × Obj)} {s : Shared} {σ : St} {H : Hp} {l : Addr} {xs : List V} {i : Int} {t : Tok} {k : Nat} {Q : Unit → Shared → Prop} (I : Inv X pins σ H s) (hH : H l = some (.lst xs))
    (h1 : -(2 ^ 63) ≤ i) (h2 : i < 2 ^ 63) (hk : seqIndex? i xs.length = some k) (h : ∀ s', Inv X pins σ (upd H l (.lst (xs.eraseIdx k))) s' → Q () s') :
    wpAny (model X.prog X.w) X.A (delItem (.ref l) (.int i t)) Q X.xe s := by
  obtain ⟨z, its, n, r, hl, e⟩ := I.lstM hH
  refine PySem.P.delItem_list (k := k) e (fitsIndex_both h1 h2) (by rw [List.size_toArray, ← hl]; exact hk) (h _ ?_) (by rw [List.size_toArray]; omega)
  refine I.lset (its' := its.eraseIdx k) (t' := s.toks) hH e ?_ (r.eraseIdx k) ?_
  · show its.toArray.eraseIdxIfInBounds k = (its.eraseIdx k).toArray
    rw [List.eraseIdxIfInBounds_toArray]
  · have := len_erase xs k
    omega
end

/-! ### xs[a:b] = ys -/
section
variable {prog : Program} {w : World} {A : Around} {E : Value → Shared → Prop} {s : Shared}
theorem splice_eq (its its2 : List Value) (a c : Nat) : its.toArray.extract 0 a ++ its2.toArray ++ its.toArray.extract c its.toArray.size = (its.take a ++ its2 ++ its.drop c).toArray := by
  apply Array.toList_inj.mp
  first
    | (simp
       exact List.take_of_length_le (by simp))
    | simp [List.take_of_length_le]
    | simp
theorem bounds_run {a c n : Nat} (hac : a ≤ c) (hc : c ≤ n) : sliceBounds (some (a : Int)) (some (c : Int)) none n = ((a : Int), (c : Int), 1) := by
  simp only [sliceBounds, Option.getD_none]
  have h1 : ¬ ((a : Int) < 0) := by omega
  have h2 : ¬ ((c : Int) < 0) := by omega
  simp only [h1, h2, if_false, show (1 : Int) > 0 by decide, if_true]
  congr 1
  · omega
  · congr 1; omega
set_option maxRecDepth 100000 in
/-- list.__setitem__ with a slice of step one and another list -/
theorem setItem_slice {l b sl : Addr} {items new : Array Value} {n n2 : Nat} {vl vu : Value} {a c : Nat} {Q : Unit → Shared → Prop}
    (e : s.heap.get? l = some { cls := .type "list", data := .seq items n }) (e2 : s.heap.get? b = some { cls := .type "list", data := .seq new n2 }) (hne : l ≠ b)
    (hs : s.heap.IsSliceOf sl vl vu .none) (pl : IsPart vl (some (a : Int))) (pu : IsPart vu (some (c : Int))) (hac : a ≤ c) (hc : c ≤ items.size)
    (hsz : items.size + new.size ≤ sizeLine) (h : Q () { s with heap := s.heap.update l (Obj.mapSeq fun xs => xs.extract 0 a ++ new ++ xs.extract c xs.size) }) :
    wpAny (model prog w) A (setItem (.ref l) (.ref sl) (.ref b)) Q E s := by
  have hl : s.heap.IsList l items := PySem.IsL.isList e
  have hb : s.heap.IsList b new := PySem.IsL.isList e2
  obtain ⟨os, hos, hcs, hds⟩ := id hs
  have hTs : s.TypeIs (.ref sl) "slice" := ⟨os, hos, hcs⟩
  have hstep : ¬ ((rawPart none == rawInt 0) = true) := Bool.false_ne_true
  have hsame : Builtin.List.listSameRef (.ref l) (.ref b) = false := by
    unfold Builtin.List.listSameRef
    exact beq_eq_false_iff_ne.mpr hne
  have hmax : (max (a : Int) (c : Int)).toNat = c := by omega
  have hz' : ((fun xs : Array Value => xs.extract 0 a ++ new ++ xs.extract c xs.size) items).size ≤ sizeLine + 1 := by
    simp only [Array.size_append, Array.size_extract]
    omega
  unfold setItem
  try with_reducible refine wpAny_holding ?_
  first | refine wpAny_bind (wpAny_pure ?_) | skip
  refine wpAny_bind (wpAny_sequenceKey hl.typeIs (by decide) ?_)
  refine wpAny_bind (wpAny_callSpecial?_slot (name := Str.ofString "__setitem__") hl.typeIs slot_list_setitem
    (wpAny_call_entry slot_list_setitem hl.typeIs entry_list_setitem ?_ (args_list_setitem _ _ _)))
  show wpAny _ _ (Builtin.List.listSubscript? (.ref sl) >>= _) _ _ s
  refine wpAny_bind ?_
  unfold Builtin.List.listSubscript?
  refine wpAny_bind (wpAny_specialOf hTs slice_no_index ?_)
  simp only [Option.isNone_none, if_true]
  refine wpAny_pure ?_
  show wpAny _ _ (typeOf (.ref sl) >>= _) _ _ s
  refine wpAny_bind (wpAny_typeOf hTs ?_)
  first
    | rw [if_neg (by decide)]
    | refine PySem.W.KFB.if_not (by decide) ?_
  rw [listSliceParts_eq]
  refine wpAny_bind (wpAny_bind (wpAny_field hos hds (x := .none) rfl (wpAny_bind (wpAny_listPart .none ?_))))
  rw [if_neg hstep]
  refine wpAny_bind (wpAny_field hos hds (x := vl) rfl (wpAny_bind (wpAny_listPart pl ?_)))
  refine wpAny_bind (wpAny_field hos hds (x := vu) rfl (wpAny_bind (wpAny_listPart pu (wpAny_pure ?_))))
  first
    | simp only [hsame, Bool.false_eq_true, if_false]
    | refine PySem.W.KFB.if_not hsame ?_
    | (dsimp only
       rw [if_neg (by rw [hsame]; exact Bool.false_ne_true)])
  refine wpAny_bind (m := Builtin.List.listAllItems (.ref b) "must assign iterable to extended slice") ?_
  unfold Builtin.List.listAllItems
  refine wpAny_bind (wpAny_typeOf hb.typeIs ?_)
  first
    | refine PySem.W.KFB.if_so (by decide) ?_
    | rw [if_pos (by decide)]
    | simp only [beq_self_eq_true, Bool.true_or, if_true]
  unfold Builtin.List.listItems
  refine wpAny_bind (wpAny_seqItems e2 rfl (wpAny_pure ?_))
  refine wpAny_bind (wpAny_bind (wpAny_seqItems e rfl (wpAny_pure ?_)))
  refine wpAny_bind (wpAny_of_eq ((sliceIndices_raw (some (a : Int)) (some (c : Int)) none items.size (by simp)).trans (congrArg (pure : Int × Int × Int → Sem (Int × Int × Int)) (bounds_run hac hc))) ?_)
  show wpAny _ _ (if ((1 : Int) == 1) = true then _ else _) _ _ s
  rw [if_pos (by decide)]
  refine wpAny_bind (wpAny_rule ?_)
  first
    | simp only [notLongL hsz, Bool.false_eq_true, if_false]
    | refine PySem.W.KFB.if_not (notLongL hsz) ?_
  first | refine wpAny_bind (wpAny_pure ?_) | skip
  show wpAny _ _ (updateSeq l (fun xs => xs.extract 0 ((a : Int)).toNat ++ new ++ xs.extract (max (a : Int) (c : Int)).toNat xs.size) >>= _) _ _ s
  rw [hmax, Int.toNat_natCast]
  refine wpAny_bind (wpAny_updateSeq (hz := Nat.le_trans (Nat.le_add_right _ _) hsz) (_hz' := hz') e rfl ?_)
  refine wpAny_bind (wpAny_letGo ?_)
  first
    | exact wpAny_bind (wpAny_pure (wpAny_pure ⟨.none, rfl, wpAny_pure h⟩))
    | exact wpAny_pure ⟨.none, rfl, wpAny_pure h⟩
end

section
variable {X : Cx}
/-- xs[a:c] = ys of another list, at the value level: sl is the slice object that was just made -/
theorem set_slice {pins : List (Addr × Obj)} {s : Shared} {σ : St} {H : Hp} {l b sl : Addr} {xs ys : List V} {a c : Int} {vl vu : Value} {Q : Unit → Shared → Prop} (I : Inv X pins σ H s)
    (hH : H l = some (.lst xs)) (hB : H b = some (.lst ys)) (hne : l ≠ b) (hs : s.heap.IsSliceOf sl vl vu .none) (ra : RelV (.int a) vl) (rc : RelV (.int c) vu) (h0 : 0 ≤ a) (hac : a ≤ c) (hc : c ≤ xs.length)
    (hz : xs.length + ys.length ≤ sizeLine) (h : ∀ s', Inv X pins σ (upd H l (.lst (xs.take a.toNat ++ ys ++ xs.drop c.toNat))) s' → Q () s') :
    wpAny (model X.prog X.w) X.A (setItem (.ref l) (.ref sl) (.ref b)) Q X.xe s := by
  obtain ⟨ta, rfl⟩ := ra
  obtain ⟨tc, rfl⟩ := rc
  obtain ⟨z, its, n, r, hl, e⟩ := I.lstM hH
  obtain ⟨z2, its2, n2, r2, hl2, e2⟩ := I.lstM hB
  obtain ⟨a', rfl⟩ := Int.eq_ofNat_of_zero_le h0
  obtain ⟨c', rfl⟩ := Int.eq_ofNat_of_zero_le (Int.le_trans h0 hac)
  simp only [Int.toNat_natCast] at h
  refine setItem_slice (a := a') (c := c') e e2 hne hs (.int _ _) (.int _ _) (by omega) (by rw [List.size_toArray]; omega) (by rw [List.size_toArray, List.size_toArray]; omega) (h _ ?_)
  refine I.lset (its' := its.take a' ++ its2 ++ its.drop c') (t' := s.toks) hH e ?_ (Vals.append (Vals.append (r.take _) r2) (r.drop _)) ?_
  · exact splice_eq its its2 a' c'
  · rw [List.length_append, List.length_append, List.length_take, List.length_drop]
    omega
end
end L2

namespace Att
open PySem PySem.W PySem.Calls PyProof.Rows

/-! ### the script -/
theorem ints_of_wellAll {P : Params} {h : Heap} : ∀ (ns : List Int) (vs : List Value), WellAll P h vs (ns.map WData.int) → IntsAre vs ns := by
  intro ns
  induction ns with
  | nil =>
    intro vs w
    rw [List.map_nil] at w
    cases w
    exact .nil
  | cons n ns ih =>
    intro vs w
    rw [List.map_cons] at w
    cases w with
    | cons a b =>
      cases a
      exact .cons _ _ (ih _ b)

theorem script_of {l : OpenLaw} {n : Nat} (hn : l.most = some n) {P : Params} {h : Heap} {args : List WData} {vals : List Value}
    (hpre : l.row.toRowW.claim.pre args = true) (hwl : WellAll P h vals args) :
    ∃ a vs ns, vals = [Value.ref a] ∧ args = [WData.list (ns.map WData.int)] ∧ h.get? a = some { cls := .type "list", data := .seq vs.toArray } ∧ IntsAre vs ns ∧ ns.length ≤ n := by
  have hsh : WShape.hasAll [] args [.list .int] = true := (pre_splitW hpre).1
  have hc : l.pre.holds [] { args := args } = true := (pre_splitW hpre).2
  obtain ⟨d, r, rfl, h1, h2⟩ := hasAllW_cons hsh
  obtain rfl := hasAllW_nil h2
  obtain ⟨xs, rfl, h3⟩ := hasW_list h1
  obtain ⟨ns, rfl⟩ := items_int h3
  have hlen : ns.length ≤ n := by
    unfold OpenLaw.pre at hc
    have h4 : (WTm.not (.lt (.lit (.int (n : Int))) (.len (.arg 0)))).holds [] { args := [.list (ns.map .int)] } = true := by
      have h4 := (holds_andW hc).1
      rw [hn] at h4
      exact h4
    have h5 := condW_of h4 (w_not (w_lt w_lit (w_len_list (w_arg rfl))))
    rw [List.length_map] at h5
    refine Nat.le_of_not_lt fun q => ?_
    have q' : (n : Int) < ((ns.length : Nat) : Int) := by omega
    first
      | (rw [decide_eq_true q'] at h5; exact absurd h5 (by decide))
      | (simp at h5; omega)
  cases hwl with
  | cons w1 w2 =>
    cases w2
    cases w1 with
    | list ho hall => exact ⟨_, _, ns, rfl, rfl, ho, ints_of_wellAll ns _ hall, hlen⟩

theorem post_true (l : OpenLaw) (args : List WData) : l.row.toRowW.claim.post args (.bool true) args = true :=
  postW_of (r := l.row.toRowW) (X := (true == true))
    (show WShape.has [] (.bool true) .bool = true by first | rfl | decide | simp [WShape.has, WShape.arms, WShape.armsAll])
    (show (WTm.eq .res (.lit (.bool true))).value [] { args := args, res := some (.bool true), after := args } = some (.bool (true == true)) from w_eq_bool (w_res rfl) w_lit) rfl

/-! ### the attachment: holds_open's last premise (the goal 'hc' behind k_head) from a wpAny of the law's body -/
theorem attach {l : OpenLaw} {n : Nat} {q : Program} {loose : List Str} {XP : (Str → Option Value) → Heap → Prop} {YP : World → Heap → Prop} {d : DefRec} {x : Str}
    (hn : l.most = some n) (hdf : d.params.defaults = [])
    (hbind : ∀ pm cd doc v : Value, bindArgs (docDef d.name d.params d.body d.scope pm cd doc) ⟨[v], []⟩ = pure [(x, v)])
    (hx : d.scope.names.lookup x = some .local ∨ d.scope.names.lookup x = some .cell)
    (hk : d.scope.kind = .function) (hco : d.scope.isCoroutine = false) (hgen : d.scope.isGenerator = false)
    (body : ∀ (w : World) (s₀ s₁ s : Shared) (mg mb : Str → Option Value) (fa : Addr) (o : Obj) (pm cd doc : Value) (a : Addr) (vs : List Value) (ns : List Int),
      Ground q loose [] XP w s₀ mg mb s₁.heap → YP w s₁.heap →
      s₁.heap.get? fa = some o → o.data = .func (docDef d.name d.params d.body d.scope pm cd doc) → s₁.heap.CodeRec cd d.name → mg d.name = some (.ref fa) →
      s₁.heap.get? a = some { cls := .type "list", data := .seq vs.toArray } → IntsAre vs ns → ns.length ≤ n →
      s.gens = #[] → s.os = s₁.os →
      Fr s₁.heap s₁.heap.objs.size s.heap (bindL (envOfC d.name d.scope s₁.heap.objs.size fa cd).kindOf [(x, .ref a)] fun _ => none) →
      Cl s₁.heap.objs.size (cellsFrom (s₁.heap.objs.size + 1) d.scope.names []) s.heap (bindC (envOfC d.name d.scope s₁.heap.objs.size fa cd).kindOf [(x, .ref a)] fun _ => none) →
      wpAny (model l.prog w) (callerA.deeper (envOfC d.name d.scope s₁.heap.objs.size fa cd)) (execs d.body (envOfC d.name d.scope s₁.heap.objs.size fa cd))
        (fun f s' => f = .ret (.bool true) ∧ OldK s₁.heap s'.heap ∧ s'.os = s₁.os ∧ AllBare s'.gens) (fun _ _ => False) s) :
    WalkO q loose XP YP l.row.toRowW d [] (fun f vs => PySem.call f vs) := by
  intro w s₀ s₁ mg mb G Y fa o pm cd doc dV kV ho hd hcd hD hmg hg args vals as hpre hlay hrd hwl hlo
  obtain rfl : dV = .none := Dflts.none hD hdf
  obtain rfl : kV = .none := Dflts.noKw hD
  obtain ⟨a, vs, ns, rfl, rfl, hobj, hints, hlen⟩ := script_of hn hpre hwl
  refine enter_call ?_
  refine call_cells_ret (o := o) (by rw [depth_caller]; decide) ho (fd_plain hd) G.T.nolimit hcd (hbind pm cd doc (.ref a)) (fun y hy => ?_) (fun h₁ tk F X => ?_) hco hgen hk
  · obtain rfl : y = (x, Value.ref a) := List.mem_singleton.mp hy
    rcases hx with e | e
    · exact .inl e
    · exact .inr ⟨e, cellsFrom_some _ _ _ (.inl e)⟩
  · refine wpAny_mono (body w s₀ s₁ { s₁ with heap := h₁, toks := tk } mg mb fa o pm cd doc a vs ns G Y ho (fd_plain hd) hcd hmg hobj hints hlen hg rfl F X) (fun f s' hq => ?_) (fun _ _ hq => hq)
    obtain ⟨rfl, h2, h3, h4⟩ := hq
    exact ⟨.inl ⟨.bool true, .bool true, [], rfl, fun _ => rfl, .bool true, post_true l _, fun _ => ⟨List.Pairwise.nil, fun _ hm => (nomatch hm)⟩⟩, h2, h3, h4⟩

/-- the same from a codeAny of the CALL (for a layer whose function contracts speak of calls) -/
theorem attach_call {l : OpenLaw} {n : Nat} {q : Program} {loose : List Str} {XP : (Str → Option Value) → Heap → Prop} {YP : World → Heap → Prop} {d : DefRec}
    (hn : l.most = some n) (hdf : d.params.defaults = [])
    (call : ∀ (w : World) (s₀ s₁ : Shared) (mg mb : Str → Option Value) (fa : Addr) (o : Obj) (pm cd doc : Value) (a : Addr) (vs : List Value) (ns : List Int),
      Ground q loose [] XP w s₀ mg mb s₁.heap → YP w s₁.heap →
      s₁.heap.get? fa = some o → o.data = .func (docDef d.name d.params d.body d.scope pm cd doc) → s₁.heap.CodeRec cd d.name → mg d.name = some (.ref fa) →
      s₁.heap.get? a = some { cls := .type "list", data := .seq vs.toArray } → IntsAre vs ns → ns.length ≤ n → s₁.gens = #[] →
      codeAny (model l.prog w) callerA (.call (.ref fa) ⟨[.ref a], []⟩) (fun r s' => r = .ok (.ret (.bool true)) ∧ OldK s₁.heap s'.heap ∧ s'.os = s₁.os ∧ AllBare s'.gens) s₁) :
    WalkO q loose XP YP l.row.toRowW d [] (fun f vs => PySem.call f vs) := by
  intro w s₀ s₁ mg mb G Y fa o pm cd doc dV kV ho hd hcd hD hmg hg args vals as hpre hlay hrd hwl hlo
  obtain rfl : dV = .none := Dflts.none hD hdf
  obtain rfl : kV = .none := Dflts.noKw hD
  obtain ⟨a, vs, ns, rfl, rfl, hobj, hints, hlen⟩ := script_of hn hpre hwl
  refine enter_call (codeAny_mono (call w s₀ s₁ mg mb fa o pm cd doc a vs ns G Y ho (fd_plain hd) hcd hmg hobj hints hlen hg) fun r s' hq => ?_)
  obtain ⟨rfl, h2, h3, h4⟩ := hq
  exact ⟨.inl ⟨.bool true, .bool true, [], rfl, fun _ => rfl, .bool true, post_true l _, fun _ => ⟨List.Pairwise.nil, fun _ hm => (nomatch hm)⟩⟩, h2, h3, h4⟩

/-- the same where the top left finished generators (o_head chose holds_openN): nothing may have changed at all and no generator may be left -/
theorem attachN {l : OpenLaw} {n : Nat} {q : Program} {loose : List Str} {XP : (Str → Option Value) → Heap → Prop} {YP : World → Heap → Prop} {d : DefRec} {x : Str}
    (hn : l.most = some n) (hdf : d.params.defaults = [])
    (hbind : ∀ pm cd doc v : Value, bindArgs (docDef d.name d.params d.body d.scope pm cd doc) ⟨[v], []⟩ = pure [(x, v)])
    (hx : d.scope.names.lookup x = some .local ∨ d.scope.names.lookup x = some .cell)
    (hk : d.scope.kind = .function) (hco : d.scope.isCoroutine = false) (hgen : d.scope.isGenerator = false)
    (body : ∀ (w : World) (s₀ s₁ s : Shared) (mg mb : Str → Option Value) (fa : Addr) (o : Obj) (pm cd doc : Value) (a : Addr) (vs : List Value) (ns : List Int),
      Ground q loose [] XP w s₀ mg mb s₁.heap → YP w s₁.heap →
      s₁.heap.get? fa = some o → o.data = .func (docDef d.name d.params d.body d.scope pm cd doc) → s₁.heap.CodeRec cd d.name → mg d.name = some (.ref fa) →
      s₁.heap.get? a = some { cls := .type "list", data := .seq vs.toArray } → IntsAre vs ns → ns.length ≤ n →
      s.gens = #[] → s.os = s₁.os →
      Fr s₁.heap s₁.heap.objs.size s.heap (bindL (envOfC d.name d.scope s₁.heap.objs.size fa cd).kindOf [(x, .ref a)] fun _ => none) →
      Cl s₁.heap.objs.size (cellsFrom (s₁.heap.objs.size + 1) d.scope.names []) s.heap (bindC (envOfC d.name d.scope s₁.heap.objs.size fa cd).kindOf [(x, .ref a)] fun _ => none) →
      wpAny (model l.prog w) (callerA.deeper (envOfC d.name d.scope s₁.heap.objs.size fa cd)) (execs d.body (envOfC d.name d.scope s₁.heap.objs.size fa cd))
        (fun f s' => f = .ret (.bool true) ∧ (∀ b o, s₁.heap.get? b = some o → s'.heap.get? b = some o) ∧ s'.os = s₁.os ∧ s'.gens = #[]) (fun _ _ => False) s) :
    WalkN q loose XP YP l.row.toRowW d [] (fun f vs => PySem.call f vs) := by
  intro w s₀ s₁ mg mb G Y fa o pm cd doc dV kV ho hd hcd hD hmg hg args vals as hpre hlay hrd hwl hlo
  obtain rfl : dV = .none := Dflts.none hD hdf
  obtain rfl : kV = .none := Dflts.noKw hD
  obtain ⟨a, vs, ns, rfl, rfl, hobj, hints, hlen⟩ := script_of hn hpre hwl
  refine enter_callW ?_
  refine call_cells_ret (o := o) (by rw [depth_caller]; decide) ho (fd_plain hd) G.T.nolimit hcd (hbind pm cd doc (.ref a)) (fun y hy => ?_) (fun h₁ tk F X => ?_) hco hgen hk
  · obtain rfl : y = (x, Value.ref a) := List.mem_singleton.mp hy
    rcases hx with e | e
    · exact .inl e
    · exact .inr ⟨e, cellsFrom_some _ _ _ (.inl e)⟩
  · refine wpAny_mono (body w s₀ s₁ { s₁ with heap := h₁, toks := tk } mg mb fa o pm cd doc a vs ns G Y ho (fd_plain hd) hcd hmg hobj hints hlen hg rfl F X) (fun f s' hq => ?_) (fun _ _ hq => hq)
    obtain ⟨rfl, h2, h3, h4⟩ := hq
    exact ⟨.inl ⟨.bool true, .bool true, [], rfl, fun _ => rfl, .bool true, post_true l _, fun _ => ⟨List.Pairwise.nil, fun _ hm => (nomatch hm)⟩⟩, h2, h3, h4⟩

/-! ### rules over ANY heap (no ledger) from facts about the written part K: the library's own take a ledger (News) for what they write -/
section
variable {prog : Program} {w : World} {A : Around} {E : Value → Shared → Prop} {s : Shared} {K : Frag}

/-- a def of the module, or a method (qual 'C.m'), entered: the frame is the next address; cells behind it -/
theorem call_fn {R : Result → Shared → Prop} {name qual : Str} {params : Arguments} {body : List Stmt} {scope : Scope} {dV kV doc pm cdv ct oc : Value} {an od : Option Addr} {osl : Array (Option Value)} {f : Addr} {args : Args} {binds : List (Str × Value)}
    (X : K.In s.heap) (hlim : s.heap.NoLimit) (ho : K.lookup f = some ⟨oc, od, .func (fnOf name qual params body scope dV kV doc pm an cdv ct), osl⟩) (hcd : codeIn K cdv qual = true) (hroom : A.depth < recursionLimit)
    (hbind : BindsTo s (fnOf name qual params body scope dV kV doc pm an cdv ct) args binds)
    (hkind : (binds.all fun y => scope.names.lookup y.1 == some .local || scope.names.lookup y.1 == some .cell) = true)
    (h : ∀ s₁, InCallC s s.heap.objs.size (bindL (envOfC qual scope s.heap.objs.size f cdv).kindOf binds fun _ => none) (cellsFrom (s.heap.objs.size + 1) scope.names [])
        (bindC (envOfC qual scope s.heap.objs.size f cdv).kindOf binds fun _ => none) s₁ →
      wpAny (model prog w) (A.deeper (envOfC qual scope s.heap.objs.size f cdv)) (execs body (envOfC qual scope s.heap.objs.size f cdv))
        (fun fl s' => R (.ok (.ret (match fl with | .ret v => v | _ => .none))) s')
        (fun e s' => wpAny (model prog w) (A.deeper (envOfC qual scope s.heap.objs.size f cdv)) (leaving (envOfC qual scope s.heap.objs.size f cdv) e) (fun _ s'' => R (.error e) s'') (fun e' s'' => R (.error e') s'') s') s₁)
    (hco : scope.isCoroutine = false) (hgen : scope.isGenerator = false) (hk : scope.kind = .function) : codeAny (model prog w) A (.call (.ref f) args) R s := by
  refine codeAny_call_function hroom (X _ _ ho) rfl hco hgen rfl (codeRec_of X hcd) (hbind _ _ _ _ ?_)
  refine wpAny_newFunctionEnv_cells hk (kindsX hkind _) fun env he s₁ x => ?_
  subst he
  exact ⟨hlim.keeps x.toInCall.keep, codeAny_func (h s₁ x)⟩

/-- C(..): dict at size, instance at size + 1, then __init__ -/
theorem make_obj {R : Result → Shared → Prop} {C fI : Addr} {rest : List Value} {kw : List (Str × Value)}
    (X : K.In s.heap) (hm : makesIn K C = true) (hi : findIn K (.ref C) "__init__" = some (some (.ref fI))) (hf : isFn K (.ref fI) = true)
    (h : codeAny (model prog w) (A.under (.builtin "type.__call__" ⟨.ref C :: rest, kw⟩)) (.call (.ref fI) ⟨.ref (s.heap.objs.size + 1) :: rest, kw⟩) (InitBack (s.heap.objs.size + 1) R)
      { s with heap := (s.heap.push emptyDict).push (instObj C s.heap.objs.size) }) : codeAny (model prog w) A (.call (.ref C) ⟨rest, kw⟩) R s := by
  obtain ⟨hh, g, d, t, os⟩ := s
  exact make_core (makes_of X hm) (looks_findIn X hi) (fun self => bind_fn X self (beq_iff_eq.mp hf)) (.inl rfl) h

/-- x.name where the instance's dict holds the name and the class does not -/
theorem get_field {x C : Addr} {ox : Obj} {es : List DictEntry} {n : Nat} {name : Str} {expr : Bool} {v : Value} {Q : Value → Shared → Prop}
    (X : K.In s.heap) (I : PySem.W.InstAt s.heap x ox C (some (dictOf es n))) (hg : plainGet K C name = true) (hh : hasDictIn K C = true) (ha : findIn K (.ref C) name = some none)
    (hl : getL name es = some (some v)) (hv : handedIn v = true) (h : Q v { s with toks := s.toks + 1 }) : wpAny (model prog w) A (getAttr (.ref x) name expr) Q E s :=
  get_value X I (plainGet_of hg).1 (findObj_own hh ha rfl hl) hv h

/-- x.m(..): the method found in the class -/
theorem get_method {x C f : Addr} {ox : Obj} {es : List DictEntry} {n : Nat} {name : Str} {pl : Sem Bool} {Q : Value × List Value → Shared → Prop}
    (X : K.In s.heap) (I : PySem.W.InstAt s.heap x ox C (some (dictOf es n))) (hg : plainGet K C name = true) (hf : findIn K (.ref C) name = some (some (.ref f))) (ht : isFn K (.ref f) = true)
    (hl : getL name es = some none) (h : Q (.ref f, [.ref x]) s) : wpAny (model prog w) A (getMethod (.ref x) name pl) Q E s :=
  method_fn X I (plainGet_of hg).1 (plainGet_of hg).2 hf (beq_iff_eq.mp ht) (by show (lookIn name (dictOf es n)).map _ = _; rw [lookIn_dict, hl]; rfl) h

/-! the whole heap as the ledger: makes every rule that writes through a ledger a rule over any heap -/
def noObjs (h : Heap) : Heap := { h with objs := #[] }
theorem noObjs_get (h : Heap) (b : Addr) : (noObjs h).get? b = none := by
  cases e : (noObjs h).get? b with
  | none => rfl
  | some o => exact absurd (Heap.lt_size e) (Nat.not_lt_zero _)
def ledger (h : Heap) (L d : Addr) : List (Addr × Obj) := (List.range h.objs.size).filterMap fun a => if a = L ∨ a = d then none else (h.get? a).map fun o => (a, o)
theorem mem_ledger {h : Heap} {L d a : Addr} {o : Obj} : (a, o) ∈ ledger h L d ↔ a ≠ L ∧ a ≠ d ∧ h.get? a = some o := by
  unfold ledger
  rw [List.mem_filterMap]
  constructor
  · rintro ⟨b, _, e⟩
    split at e
    · cases e
    · rename_i hb
      obtain ⟨o', ho, e'⟩ := Option.map_eq_some_iff.mp e
      cases e'
      exact ⟨fun q => hb (.inl q), fun q => hb (.inr q), ho⟩
  · rintro ⟨n1, n2, ho⟩
    refine ⟨a, List.mem_range.mpr (Heap.lt_size ho), ?_⟩
    rw [if_neg (show ¬ (a = L ∨ a = d) from fun q => q.elim n1 n2), ho] <;> rfl
theorem news_ledger {h : Heap} {L d : Addr} {od : Obj} (hne : d ≠ L) (ho : h.get? d = some od) : News (noObjs h) L h ([] ++ (d, od) :: ledger h L d) := by
  rintro ⟨a, o⟩ hp
  rcases List.mem_cons.mp hp with e | hp
  · cases e
    exact ⟨ho, hne, noObjs_get _ _⟩
  · obtain ⟨n1, n2, e⟩ := mem_ledger.mp hp
    exact ⟨e, n1, noObjs_get _ _⟩
theorem fr_all {h : Heap} {L : Addr} {m : Str → Option Value} (n : h.Ns L m) : Fr (noObjs h) L h m :=
  ⟨n, fun b o e => (by rw [noObjs_get] at e; cases e), Nat.zero_le _⟩
/-- Upd of the head entry (for append_K, setItem_K ..) -/
theorem upd_ledger {h : Heap} {L d : Addr} {o o' : Obj} : Upd d o o' ((d, o) :: ledger h L d) ((d, o') :: ledger h L d) :=
  .head fun ⟨_, _⟩ hp => (mem_ledger.mp hp).2.1

/-- x.name = v over any heap: L is any namespace of the heap (the frame's, say): its map stays, its object is not told; all else but the dict stays -/
theorem set_field {x C dx L : Addr} {ox : Obj} {m : Str → Option Value} {es es' : List DictEntry} {n n' : Nat} {name : Str} {v : Value} {Q : Unit → Shared → Prop}
    (X : K.In s.heap) (I : PySem.W.InstAt s.heap x ox C (some (dictOf es n))) (hd : ox.dict = some dx) (hL : s.heap.Ns L m) (hne : dx ≠ L)
    (hs : findIn K (.ref C) "__setattr__" = some (some (.builtin "object.__setattr__"))) (hp : plainOver K C = true) (ht : takerIn K C name = some none) (hh : hasDictIn K C = true) (hl : (getL name es).isSome = true)
    (e : (putL name (PyData.keyHash w.params name) (.str name (s.toks + 1)) v es, putN name es n) = (es', n')) (hz : es'.length ≤ 1000)
    (h : ∀ h' : Heap, h'.Ns L m → h'.get? dx = some (dictOf es' n') → (∀ b o, b ≠ dx → b ≠ L → s.heap.get? b = some o → h'.get? b = some o) → Q () { s with heap := h', toks := s.toks + 2 }) :
    wpAny (model prog w) A (setAttr (.ref x) name v) Q E s := by
  obtain ⟨e1, e2⟩ := Prod.mk.inj e
  have hdx : s.heap.get? dx = some (dictOf es n) := by
    have := I.dict
    rw [hd] at this
    exact this
  refine set_plain X I hs (osa_dict (s := { s with toks := s.toks + 1 }) (h₀ := noObjs s.heap) (L := L) (m := m) (od := dictOf es n) (od' := dictOf es' n') (es := es') (n := n') (pre := []) (post := ledger s.heap L dx)
    (fr_all hL) (news_ledger hne hdx) X I hd hp ht hh hl (fun _ q => nomatch q) (fun ⟨_, _⟩ q => (mem_ledger.mp q).2.1) (by rw [putName_dict, e1, e2]) rfl hz fun h' F' N' => ?_)
  exact h h' F'.ns (N'.get (List.Mem.head _)) fun b o n1 n2 ho => N'.get (List.Mem.tail _ (mem_ledger.mpr ⟨n2, n1, ho⟩))
end
end Att

namespace L2
open PySem PySem.Spec PyProof.Rows

theorem vals_ints : ∀ {vs : List Value} {ns : List Int}, IntsAre vs ns → Vals (ns.map V.int) vs
  | _, _, .nil => .nil
  | _, _, .cons n t h => .cons ⟨t, rfl⟩ (vals_ints h)

/-- nothing is tracked but the script, known to the object (or it is an object of the module) -/
def Only (H : Hp) : Prop := ∀ b, H b = none ∨ ∃ o xs, H b = some (.frz o (.lst xs))

/-- THE HEAD: the law's promise, at the heap behind the top. F, the promise of the law's def, may use that base is part of the heap (so K.In base, base.Ns mainGlobals mg stand in Mod) -/
theorem law_call {P : Program} {w : World} {K : PySem.W.Frag} {mg mb : Str → Option Value} {CX : CXT} {k : Nat} {fa a : Addr} {fd : FuncData} {x : Str} {sp : Sp} {s₁ : Shared} {vs : List Value} {ns : List Int}
    (KX : K.In s₁.heap) (hns : s₁.heap.Ns mainGlobals mg) (hb : s₁.heap.Ns builtinsNs mb) (hbb : ∀ x : Str, x ≠ "__name__" → mb x = bootBuiltins x) (hlim : s₁.heap.NoLimit) (hg : s₁.gens = #[])
    (ha : s₁.heap.get? a = some { cls := .type "list", data := .seq vs.toArray }) (hi : IntsAre vs ns) (hl : ns.length ≤ sizeLine) (hr : Room k callerA)
    (F : ∀ base : Heap, K.In base → base.Ns mainGlobals mg → FnOk P w K mg base CX k fa fd [x] sp) (hbind : ∀ (s : Shared) (u : Value), BindsTo s fd ⟨[u], []⟩ [(x, u)])
    (hsp : ∀ H : Hp, Only H → SqL K H a (ns.map V.int) → sp [.ref a] H (fun v _ => v = .bl true) fun _ _ _ => False)
    (hCX : ∀ H e s', CX [] H s₁ (fun _ _ _ => False) e s' → False) :
    codeAny (model P w) callerA (.call (.ref fa) ⟨[.ref a], []⟩) (fun r s' => r = .ok (.ret (.bool true)) ∧ OldK s₁.heap s'.heap ∧ s'.os = s₁.os ∧ AllBare s'.gens) s₁ := by
  have rv := vals_ints hi
  have lenV := hi.length
  -- from an abstract heap in which nothing but the script may be tracked
  have core : ∀ H : Hp, Only H → SqL K H a (ns.map V.int) → HOk P w H s₁.heap → (∀ b, H b ≠ none → b = a) → (H a ≠ none → K.lookup a = none) →
      codeAny (model P w) callerA (.call (.ref fa) ⟨[.ref a], []⟩) (fun r s' => r = .ok (.ret (.bool true)) ∧ OldK s₁.heap s'.heap ∧ s'.os = s₁.os ∧ AllBare s'.gens) s₁ := by
    intro H hO hS hok hA hK
    have base_of : ∀ {b : Addr} {o : Obj}, s₁.heap.get? b = some o → H b = none → (hidT s₁.heap H).get? b = some o := fun e n => hidT_get e n
    have noA : ∀ {b : Addr} {o : Obj} {es : Array DictEntry} {ep : Nat}, s₁.heap.get? b = some o → o.data = .dict es ep → H b = none := fun {b o es ep} e d => by
      cases q : H b with
      | none => rfl
      | some u =>
        have e' : b = a := hA b (by rw [q]; simp)
        subst e'
        rw [ha] at e; cases e
        have d' : Data.seq vs.toArray _ = Data.dict es ep := d
        cases d'
    have nsK : ∀ {b : Addr} {m : Str → Option Value}, s₁.heap.Ns b m → (hidT s₁.heap H).Ns b m := fun {b m} ⟨o, es, ep, e, d, r⟩ => ⟨o, es, ep, base_of e (noA e d), d, r⟩
    have hKb : K.In (hidT s₁.heap H) := fun b o e => base_of (KX b o e) (by
      cases q : H b with
      | none => rfl
      | some u =>
        have e' : b = a := hA b (by rw [q]; simp)
        subst e'
        rw [hK (by rw [q]; simp)] at e; cases e)
    have hM : Mod K mg (hidT s₁.heap H) := ⟨hKb, nsK hns, ⟨mb, nsK hb, hbb⟩, let ⟨mc, h1, h2⟩ := hlim; ⟨mc, nsK h1, h2⟩⟩
    have e0 : Env0 P w K mg (hidT s₁.heap H) callerA [] s₁ H := ⟨rfl, hM, fun b o e => of_hidT e, Nat.le_of_eq (hidT_size _ _), trivial, fun b hb => absurd (show b ∈ ([] : List Addr) from hb) (by simp), hok, .of_eq hg⟩
    refine codeAny_mono ((F _ hKb (nsK hns)).run callerA [] s₁ H ⟨[.ref a], []⟩ [.ref a] [.ref a] _ _ hr e0 (hbind s₁ (.ref a)) (.cons rfl .nil) (hsp H hO hS)) fun r s' h => ?_
    cases r with
    | error e => exact (hCX H e s' h).elim
    | ok fl =>
      cases fl with
      | next => exact False.elim h
      | brk => exact False.elim h
      | cont => exact False.elim h
      | ret u =>
        obtain ⟨v, H', os, bare, un, hok', r', q⟩ := h
        have q' : v = .bl true := q
        subst q'
        obtain rfl : u = Value.bool true := r'
        refine ⟨rfl, OldK.of_keep fun b o e => ?_, os, bare⟩
        cases q : H b with
        | none => exact un.keep b o e q (by intro z; exact absurd (show b ∈ ([] : List Addr) from z) (by simp)) (by simp)
        | some u =>
          rcases hO b with z | ⟨ob, xs, z⟩
          · rw [q] at z; cases z
          · have z2 := un.frzs b ob _ z
            obtain ⟨e1, _⟩ := hok b _ z
            obtain ⟨e2, _⟩ := hok' b _ z2
            rw [e] at e1; cases e1
            exact e2
  cases hk : K.lookup a with
  | some o =>
    -- the script is one of the module's own objects
    have e := KX a o hk
    rw [ha] at e
    cases e
    refine core (fun _ => none) (fun _ => .inl rfl) (.inr ⟨_, vs.toArray, _, hk, rfl, rfl, rfl, by rw [List.size_toArray, lenV]; exact hl, by simpa using rv⟩) (fun b u z => by have z' : (none : Option HO) = some u := z; cases z') (fun b z => absurd rfl z) fun z => absurd rfl z
  | none =>
    refine core (fun b => if b = a then some (.frz { cls := .type "list", data := .seq vs.toArray } (.lst (ns.map V.int))) else none) (fun b => ?_) (.inl (.inr ⟨{ cls := .type "list", data := .seq vs.toArray }, if_pos rfl⟩)) (fun b u z => ?_) (fun b z => ?_) fun _ => hk
    · by_cases hb : b = a
      · exact .inr ⟨_, _, if_pos hb⟩
      · exact .inl (if_neg hb)
    · by_cases hb : b = a
      · have z' := (if_pos hb).symm.trans z
        cases z'
        subst hb
        exact ⟨ha, by rw [List.length_map]; exact hl, vs, _, rv, ha⟩
      · have z' := (if_neg hb).symm.trans z
        cases z'
    · by_cases hb : b = a
      · exact hb
      · exact absurd (if_neg hb) z
end L2

namespace L2
open PySem PySem.Spec PyProof.Rows

abbrev KOf {K : PySem.W.Frag} {h : Heap} (_ : K.In h) : PySem.W.Frag := K

/-- the goal that k_head leaves (case hc), from the law's promise. F gives the function object fd (K's own) once, then the promise over every base -/
theorem walk_of {l : PySem.W.OpenLaw} {n k : Nat} {q : Program} {loose : List Str} {XP : (Str → Option Value) → Heap → Prop} {YP : World → Heap → Prop} {d : DefRec} {K : Params → PySem.W.Frag} {CX : World → CXT} {sp : World → Sp} {x : Str}
    (hn : l.most = some n) (hn2 : n ≤ sizeLine) (hdf : d.params.defaults = []) (hr : Room k callerA)
    (hY : ∀ (w : World) (h : Heap), YP w h → (K w.params).In h)
    (F : ∀ (w : World) (mg : Str → Option Value) (fa : Addr) (h : Heap), (K w.params).In h → h.Ns mainGlobals mg → mg d.name = some (.ref fa) →
      ∃ fd : FuncData, (∀ (s : Shared) (u : Value), BindsTo s fd ⟨[u], []⟩ [(x, u)]) ∧
        ∀ base : Heap, (K w.params).In base → base.Ns mainGlobals mg → FnOk l.prog w (K w.params) mg base (CX w) k fa fd [x] (sp w))
    (hsp : ∀ (w : World) (H : Hp) (a : Addr) (ns : List Int), ns.length ≤ n → Only H → SqL (K w.params) H a (ns.map V.int) → sp w [.ref a] H (fun v _ => v = .bl true) fun _ _ _ => False)
    (hCX : ∀ (w : World) (H : Hp) (s : Shared) (e : Value) (s' : Shared), CX w [] H s (fun _ _ _ => False) e s' → False) :
    PySem.W.WalkO q loose XP YP l.row.toRowW d [] (fun f vs => PySem.call f vs) := by
  refine Att.attach_call hn hdf fun w s₀ s₁ mg mb fa o pm cd doc a vs ns G Y ho hd hcd hmg hobj hints hlen hg => ?_
  have KX := hY w _ Y
  obtain ⟨fd, hb, hF⟩ := F w mg fa _ KX G.T.g hmg
  exact law_call KX G.T.g G.T.b G.T.builtins G.T.nolimit hg hobj hints (Nat.le_trans hlen hn2) hr hF hb (fun H hO hS => hsp w H a ns hlen hO hS) fun H e s' => hCX w H s₁ e s'
/-- the same where the promise hangs on the written part alone: (sp := My.sp_law), no hole under a binder -/
theorem walk_ofK {l : PySem.W.OpenLaw} {n k : Nat} {q : Program} {loose : List Str} {XP : (Str → Option Value) → Heap → Prop} {YP : World → Heap → Prop} {d : DefRec} {K : Params → PySem.W.Frag} {CX : CXT} {sp : PySem.W.Frag → Sp} {x : Str}
    (hn : l.most = some n) (hn2 : n ≤ sizeLine) (hdf : d.params.defaults = []) (hr : Room k callerA)
    (hY : ∀ (w : World) (h : Heap), YP w h → (K w.params).In h)
    (F : ∀ (w : World) (mg : Str → Option Value) (fa : Addr) (h : Heap), (K w.params).In h → h.Ns mainGlobals mg → mg d.name = some (.ref fa) →
      ∃ fd : FuncData, (∀ (s : Shared) (u : Value), BindsTo s fd ⟨[u], []⟩ [(x, u)]) ∧
        ∀ base : Heap, (K w.params).In base → base.Ns mainGlobals mg → FnOk l.prog w (K w.params) mg base CX k fa fd [x] (sp (K w.params)))
    (hsp : ∀ (K : PySem.W.Frag) (H : Hp) (a : Addr) (ns : List Int), ns.length ≤ n → Only H → SqL K H a (ns.map V.int) → sp K [.ref a] H (fun v _ => v = .bl true) fun _ _ _ => False)
    (hCX : ∀ (H : Hp) (s : Shared) (e : Value) (s' : Shared), CX [] H s (fun _ _ _ => False) e s' → False) :
    PySem.W.WalkO q loose XP YP l.row.toRowW d [] (fun f vs => PySem.call f vs) :=
  walk_of (K := K) (CX := fun _ => CX) (sp := fun w => sp (K w.params)) hn hn2 hdf hr hY F (fun w H a ns h1 h2 h3 => hsp (K w.params) H a ns h1 h2 h3) fun _ H s e s' => hCX H s e s'
end L2



/-! SHORT WORDS over the layer: a def of the text, its body, what a loop and a test want. -/
namespace L2
open PySem PySem.Spec PyProof.Rows

/-! ### the text by places -/
/-- the j-th statement of a class's body -/
def inClass (s : Stmt) (j : Nat) : Stmt := match s with
  | .ClassDef _ _ _ body _ _ _ _ _ _ _ => body.getD j (.Pass ⟨0, 0, 0, 0⟩)
  | _ => .Pass ⟨0, 0, 0, 0⟩
def defArgs (s : Stmt) : Arguments := match s with
  | .FunctionDef _ a _ _ _ _ _ _ _ _ => a
  | _ => { posonlyargs := [], args := [], vararg := none, kwonlyargs := [], kw_defaults := [], kwarg := none, defaults := [] }
def defBody (s : Stmt) : List Stmt := match s with
  | .FunctionDef _ _ b _ _ _ _ _ _ _ => b
  | _ => []
def defScope (s : Stmt) : Scope := match s with
  | .FunctionDef _ _ _ _ _ _ sc _ _ _ => sc
  | _ => { kind := .function, names := [], isGenerator := false, isCoroutine := false }

/-! ### no exception leaves a def -/
abbrev CX0 : CXT := fun _ _ _ _ _ _ => False
abbrev E0 : XK := fun _ _ _ => False
theorem pass0 {X : Cx} : Passes CX0 X E0 := fun _ _ _ _ _ _ _ h => h.elim

/-! ### a def (or method) of the text as it stands behind the top -/
structure Fun (K : PySem.W.Frag) (x qual : Str) (st : Stmt) (f : Addr) (fd : FuncData) : Prop where
  ex : ∃ (oc : Value) (od : Option Addr) (kV doc pm : Value) (an : Option Addr) (cdv ct : Value) (osl : Array (Option Value)),
    fd = PySem.W.fnOf x qual (defArgs st) (defBody st) (defScope st) .none kV doc pm an cdv ct ∧ K.lookup f = some ⟨oc, od, .func fd, osl⟩ ∧ PySem.W.codeIn K cdv qual = true
  kp : PySem.W.keepIn K (.ref f) = true
section
variable {P : Program} {w : World} {K : PySem.W.Frag} {mg : Str → Option Value} {base : Heap}
/-- THE RULE for a def: its body as a term of rules, and the reading of that term -/
theorem Fun.ok {x qual : Str} {st : Stmt} {f : Addr} {fd : FuncData} {N ps : List Str} {k : Nat} {sp : Sp} (F : Fun K x qual st f fd) (S : FnScope N ps (defScope st)) (len : ∀ vs H Q E, sp vs H Q E → vs.length = ps.length)
    (hbody : ∀ (cdv : Value) (A : Around) (outer : List Env) (s : Shared) (H : Hp) (vs : List V) (Q : VK) (E : XK), Room k (A.deeper (envOfC qual (defScope st) s.heap.objs.size f cdv)) → sp vs H Q E →
      ∃ t, PSs (cxOf CX0 P w K mg base N qual (defScope st) f cdv A outer s H E).nox (defBody st) t ∧ t { nx := fun _ H' => Q .non H', rt := Q } (start N vs) H) : FnOk P w K mg base CX0 (k + 1) f fd ps sp := by
  obtain ⟨oc, od, kV, doc, pm, an, cdv, ct, osl, rfl, lk, hcd⟩ := F.ex
  refine fn_of lk hcd S len fun A outer s H vs Q E hr hsp => ?_
  obtain ⟨t, h, q⟩ := hbody cdv A outer s H vs Q E hr hsp
  exact ⟨t, h.nox, q⟩
/-- how its arguments bind (no defaults): h is «fun _ _ _ _ _ _ us hl => match us, hl with | [_, _], _ => rfl», one _ a parameter -/
theorem Fun.binds {x qual : Str} {st : Stmt} {f : Addr} {fd : FuncData} {ps : List Str} (F : Fun K x qual st f fd)
    (h : ∀ (kV doc pm : Value) (an : Option Addr) (cdv ct : Value) (us : List Value), us.length = ps.length → bindArgs (PySem.W.fnOf x qual (defArgs st) (defBody st) (defScope st) .none kV doc pm an cdv ct) ⟨us, []⟩ = pure (ps.zip us)) : Binds K fd ps [] := by
  obtain ⟨oc, od, kV, doc, pm, an, cdv, ct, osl, rfl, lk, hcd⟩ := F.ex
  exact .all (h kV doc pm an cdv ct)
theorem fun_mk {x qual : Str} {st : Stmt} {f : Addr} {oc : Value} {od an : Option Addr} {osl : Array (Option Value)} {kV doc pm cdv ct : Value} (l : K.lookup f = some ⟨oc, od, .func (PySem.W.fnOf x qual (defArgs st) (defBody st) (defScope st) .none kV doc pm an cdv ct), osl⟩)
    (c : PySem.W.codeIn K cdv qual = true) (k : PySem.W.keepIn K (.ref f) = true) : Fun K x qual st f (PySem.W.fnOf x qual (defArgs st) (defBody st) (defScope st) .none kV doc pm an cdv ct) := ⟨⟨oc, od, kV, doc, pm, an, cdv, ct, osl, rfl, l, c⟩, k⟩
end
theorem hu_of {A : Around} {k : Nat} (hr : Room k A) : A.units + 1 < cLine := Nat.lt_of_le_of_lt (Nat.add_le_add_left (by decide : 1 ≤ 64) _) hr.units
theorem small1000 {n : Nat} (h : n ≤ 1000) : n < sizeLine := Nat.lt_of_le_of_lt h (by decide)

/-! ### expressions in short: the name that stands in the i-th slot -/
section
variable {X : Cx}
theorem pv (i : Nat) {x : Str} {pos : Pos} (hN : X.N[i]? = some x := by rfl) (hv : Vis X.env.scope x := by first | exact Or.inl rfl | exact Or.inr (Or.inl rfl) | exact Or.inr (Or.inr rfl)) (hd : (x == ("__debug__" : Str)) = false := by decide)
    (hcd : (x == ("__classdict__" : Str)) = false := by decide) : PE X (.Name x pos) (tVar i) := pe_var hN hv hd hcd
end

/-! ### tests -/
theorem iteF {A B : Prop} (h : B) : if false = true then A else B := by
  rw [if_neg Bool.false_ne_true]
  exact h
theorem iteT {A B : Prop} (h : A) : if true = true then A else B := by
  rw [if_pos rfl]
  exact h
theorem ite2 {c A B : Prop} [Decidable c] (h1 : c → A) (h2 : ¬ c → B) : if c then A else B := by
  by_cases h : c
  · rw [if_pos h]
    exact h1 h
  · rw [if_neg h]
    exact h2 h
theorem iteNS {c A B : Prop} [Decidable c] (hc : c) (h : B) : if (!decide c) = true then A else B := by
  rw [decide_eq_true hc]
  exact iteF h

/-! ### heaps -/
/-- all that was tracked is as it was -/
def Same (H H' : Hp) : Prop := ∀ b o, H b = some o → H' b = some o
theorem Same.refl (H : Hp) : Same H H := fun _ _ h => h
theorem Same.trans {H H1 H2 : Hp} (a : Same H H1) (b : Same H1 H2) : Same H H2 := fun c o h => b c o (a c o h)
theorem Same.free {H H' : Hp} (e : Same H H') {l : Addr} (h : H' l = Option.none) : H l = Option.none := by
  cases q : H l with
  | none => rfl
  | some o =>
    rw [e l o q] at h
    cases h
theorem Same.seq {K : PySem.W.Frag} {H H' : Hp} {a : Addr} {xs : List V} (e : Same H H') (h : SqL K H a xs) : SqL K H' a xs := by
  rcases h with (h | ⟨o, h⟩) | h
  · exact .inl (.inl (e _ _ h))
  · exact .inl (.inr ⟨o, e _ _ h⟩)
  · exact .inr h

end L2

namespace L2
open PySem PySem.Spec PyProof.Rows

/-! ### lists of pairs as tables -/
section
variable {κ : Type} [DecidableEq κ]
def valV (kvs : List (κ × V)) (k : κ) : Option V := (kvs.find? fun kv => decide (kv.1 = k)).map (·.2)
/-- in its place, or at the end -/
def putK (kvs : List (κ × V)) (k : κ) (v : V) : List (κ × V) :=
  if (kvs.any fun kv => decide (kv.1 = k)) = true then kvs.map (fun kv => if kv.1 = k then (kv.1, v) else kv) else kvs ++ [(k, v)]
def dropK (kvs : List (κ × V)) (k : κ) : List (κ × V) := kvs.filter fun kv => decide (kv.1 ≠ k)

theorem valV_nil {k : κ} : valV ([] : List (κ × V)) k = none := rfl
theorem valV_pos {p : κ × V} {r : List (κ × V)} {k : κ} (e : p.1 = k) : valV (p :: r) k = some p.2 := by simp [valV, List.find?_cons, e]
theorem valV_neg {p : κ × V} {r : List (κ × V)} {k : κ} (e : ¬ p.1 = k) : valV (p :: r) k = valV r k := by simp [valV, List.find?_cons, e]
theorem valV_any (k : κ) : ∀ kvs : List (κ × V), (kvs.any fun kv => decide (kv.1 = k)) = (valV kvs k).isSome
  | [] => rfl
  | p :: r => by
    rw [List.any_cons]
    by_cases e : p.1 = k
    · simp only [valV_pos e, decide_eq_true e, Bool.true_or, Option.isSome_some]
    · rw [valV_neg e, decide_eq_false e, Bool.false_or]; exact valV_any k r
theorem valV_map (k j : κ) (y : V) : ∀ kvs : List (κ × V), valV (kvs.map fun kv => if kv.1 = k then (kv.1, y) else kv) j = (valV kvs j).map fun x => if j = k then y else x
  | [] => rfl
  | p :: r => by
    have ih := valV_map k j y r
    rw [List.map_cons]
    by_cases h : p.1 = k
    · rw [if_pos h]
      by_cases e : p.1 = j
      · rw [valV_pos (p := (p.1, y)) e, valV_pos e, Option.map_some, if_pos (e.symm.trans h)]
      · rw [valV_neg (p := (p.1, y)) e, valV_neg e, ih]
    · rw [if_neg h]
      by_cases e : p.1 = j
      · rw [valV_pos (p := p) e, valV_pos e, Option.map_some, if_neg (fun z => h (e.trans z))]
      · rw [valV_neg (p := p) e, valV_neg e, ih]
theorem valV_snoc (k j : κ) (y : V) : ∀ kvs : List (κ × V), valV kvs k = none → valV (kvs ++ [(k, y)]) j = if j = k then some y else valV kvs j
  | [], _ => by
    by_cases e : k = j
    · rw [if_pos e.symm]; exact valV_pos (p := (k, y)) e
    · rw [if_neg (fun z => e z.symm)]; exact valV_neg (p := (k, y)) e
  | p :: r, hn => by
    rw [List.cons_append]
    have hk : ¬ p.1 = k := fun z => by rw [valV_pos z] at hn; cases hn
    rw [valV_neg hk] at hn
    have ih := valV_snoc k j y r hn
    by_cases e : p.1 = j
    · rw [valV_pos e, valV_pos e, if_neg (fun z => hk (e.trans z))]
    · rw [valV_neg e, valV_neg e, ih]
theorem valV_put (kvs : List (κ × V)) (k j : κ) (y : V) : valV (putK kvs k y) j = if j = k then some y else valV kvs j := by
  unfold putK
  by_cases a : (kvs.any fun kv => decide (kv.1 = k)) = true
  · rw [if_pos a, valV_map]
    rw [valV_any] at a
    by_cases e : j = k
    · obtain ⟨x, hx⟩ := Option.isSome_iff_exists.mp a
      rw [if_pos e, e, hx, Option.map_some, if_pos rfl]
    · rw [if_neg e]
      cases valV kvs j with
      | none => rfl
      | some x => rw [Option.map_some, if_neg e]
  · rw [if_neg a]
    refine valV_snoc k j y kvs ?_
    rw [valV_any] at a
    cases q : valV kvs k with
    | none => rfl
    | some x => rw [q] at a; exact (a rfl).elim
theorem length_putK (kvs : List (κ × V)) (k : κ) (v : V) : (putK kvs k v).length ≤ kvs.length + 1 := by
  unfold putK
  split
  · rw [List.length_map]; omega
  · rw [List.length_append, List.length_cons, List.length_nil]; omega
theorem putK_new {kvs : List (κ × V)} {k : κ} (v : V) (h : valV kvs k = none) : putK kvs k v = kvs ++ [(k, v)] := by
  unfold putK
  rw [valV_any, h]
  exact if_neg (by decide)

theorem RelO.isSome_eq {o : Option V} {u : Option Value} (r : RelO o u) : o.isSome = u.isSome := by
  cases o with
  | none => cases u with
    | none => rfl
    | some _ => exact (show False from r).elim
  | some _ => cases u with
    | none => exact (show False from r).elim
    | some _ => rfl
theorem RelO.getD {o : Option V} {u : Option Value} {d : V} {d' : Value} (r : RelO o u) (rd : RelV d d') : RelV (o.getD d) (u.getD d') := by
  cases o with
  | none => cases u with
    | none => exact rd
    | some _ => exact (show False from r).elim
  | some _ => cases u with
    | none => exact (show False from r).elim
    | some _ => exact r

/-- raw tables of the same keys -/
theorem KV.val {kvs : List (κ × V)} {vs : List (κ × Value)} (r : KV kvs vs) (k : κ) : RelO (valV kvs k) (valueAt vs k) := by
  unfold KV at r
  induction r with
  | nil => exact True.intro
  | @cons p q ps qs h t ih =>
    obtain ⟨h1, h2⟩ := h
    by_cases e : p.1 = k
    · have e' : q.1 = k := h1.symm.trans e
      have b : valueAt (q :: qs) k = some q.2 := by simp [valueAt, List.find?_cons, e']
      rw [valV_pos e, b]; exact h2
    · have e' : ¬ q.1 = k := fun z => e (h1.trans z)
      have b : valueAt (q :: qs) k = valueAt qs k := by simp [valueAt, List.find?_cons, e']
      rw [valV_neg e, b]; exact ih
theorem KV.any {kvs : List (κ × V)} {vs : List (κ × Value)} (r : KV kvs vs) (k : κ) : (kvs.any fun kv => decide (kv.1 = k)) = vs.any fun kv => decide (kv.1 = k) := by
  unfold KV at r
  induction r with
  | nil => rfl
  | cons h t ih => rw [List.any_cons, List.any_cons, ih, h.1]
theorem KV.repl {kvs : List (κ × V)} {vs : List (κ × Value)} (r : KV kvs vs) (k : κ) {y : V} {u : Value} (ry : RelV y u) :
    KV (kvs.map fun kv => if kv.1 = k then (kv.1, y) else kv) (vs.map fun kv => if kv.1 = k then (kv.1, u) else kv) := by
  unfold KV at r ⊢
  induction r with
  | nil => exact .nil
  | @cons p q ps qs h t ih =>
    rw [List.map_cons, List.map_cons]
    refine .cons ?_ ih
    obtain ⟨h1, h2⟩ := h
    by_cases e : p.1 = k
    · rw [if_pos e, if_pos (h1.symm.trans e)]; exact ⟨h1, ry⟩
    · rw [if_neg e, if_neg (fun z => e (h1.trans z))]; exact ⟨h1, h2⟩
theorem KV.put {kvs : List (κ × V)} {vs : List (κ × Value)} (r : KV kvs vs) (k : κ) {y : V} {u : Value} (ry : RelV y u) : KV (putK kvs k y) (stored vs k u) := by
  unfold putK stored
  rw [r.any k]
  by_cases e : (vs.any fun kv => decide (kv.1 = k)) = true
  · rw [if_pos e, if_pos e]; exact r.repl k ry
  · rw [if_neg e, if_neg e]; exact Paired.snoc r ⟨rfl, ry⟩
theorem KV.drop {kvs : List (κ × V)} {vs : List (κ × Value)} (r : KV kvs vs) (k : κ) : KV (dropK kvs k) (without vs k) := by
  unfold KV at r ⊢
  unfold dropK without
  induction r with
  | nil => exact .nil
  | @cons p q ps qs h t ih =>
    obtain ⟨h1, h2⟩ := h
    rw [List.filter_cons, List.filter_cons]
    by_cases e : p.1 = k
    · have a : ¬ decide (p.1 ≠ k) = true := by simp [e]
      have b : ¬ decide (q.1 ≠ k) = true := by simp [h1.symm.trans e]
      rw [if_neg a, if_neg b]; exact ih
    · have e' : ¬ q.1 = k := fun z => e (h1.trans z)
      have a : decide (p.1 ≠ k) = true := by simp [e]
      have b : decide (q.1 ≠ k) = true := by simp [e']
      rw [if_pos a, if_pos b]; exact .cons ⟨h1, h2⟩ ih
theorem KV.keys {kvs : List (κ × V)} {vs : List (κ × Value)} (r : KV kvs vs) : kvs.map (·.1) = vs.map (·.1) := by
  unfold KV at r
  induction r with
  | nil => rfl
  | cons h t ih => rw [List.map_cons, List.map_cons, ih, h.1]
theorem KV.length {kvs : List (κ × V)} {vs : List (κ × Value)} (r : KV kvs vs) : kvs.length = vs.length := Paired.length r
theorem dropK_le (kvs : List (κ × V)) (k : κ) : (dropK kvs k).length ≤ kvs.length := List.length_filter_le _ _
end


/-! ### a tracked dict, its keys ints and texts or tuples of these -/
theorem kV_is {P : Program} {w : World} {k : Key} {u : Value} (r : RelV (kV k) u) : (mixKind P w).is k u = true := by
  cases k with
  | inl i => obtain ⟨t, e⟩ := (show ∃ t, u = Value.int i t from r); subst e; exact mixKind_int P w i t
  | inr x => obtain ⟨t, e⟩ := (show ∃ t, u = Value.str x t from r); subst e; exact mixKind_str P w x t
theorem kV_inj {a b : Key} (e : kV a = kV b) : a = b := by
  cases a with
  | inl i => cases b with
    | inl j => have e' : V.int i = V.int j := e; injection e' with e'; rw [e']
    | inr y => exact nomatch (show V.int i = V.str y from e)
  | inr x => cases b with
    | inl j => exact nomatch (show V.str x = V.int j from e)
    | inr y => have e' : V.str x = V.str y := e; injection e' with e'; rw [e']
theorem kVs_inj : ∀ {a b : List Key}, a.map kV = b.map kV → a = b
  | [], [], _ => rfl
  | [], _ :: _, e => by simp at e
  | _ :: _, [], e => by simp at e
  | x :: xs, y :: ys, e => by
    rw [List.map_cons, List.map_cons] at e
    injection e with e1 e2
    rw [kV_inj e1, kVs_inj e2]
theorem items_are {P : Program} {w : World} : ∀ {ks : List Key} {us : List Value}, Vals (ks.map kV) us → ItemsAre (mixKind P w) ks us
  | [], _, r => by rw [List.map_nil] at r; cases r; exact .nil
  | k :: ks, _, r => by
    rw [List.map_cons] at r
    cases r with
    | cons h t => exact .cons (kV_is h) (items_are t)

/-- raw entries of a dict with tuple keys -/
abbrev KT (H : Hp) : List (List Key × V) → List (List Key × Addr × Value) → Prop := Paired fun p q => p.1 = q.1 ∧ H q.2.1 = some (.tup (p.1.map kV)) ∧ RelV p.2 q.2.2
theorem KT.val {H : Hp} {kvs : List (List Key × V)} {xs : List (List Key × Addr × Value)} (r : KT H kvs xs) (k : List Key) : RelO (valV kvs k) ((atKey xs k).map (·.2)) := by
  induction r with
  | nil => exact True.intro
  | @cons p q ps qs h t ih =>
    obtain ⟨h1, _, h2⟩ := h
    by_cases e : p.1 = k
    · have e' : q.1 = k := h1.symm.trans e
      have b : atKey (q :: qs) k = some q.2 := by simp [atKey, List.find?_cons, e']
      rw [valV_pos e, b]; exact h2
    · have e' : ¬ q.1 = k := fun z => e (h1.trans z)
      have b : atKey (q :: qs) k = atKey qs k := by simp [atKey, List.find?_cons, e']
      rw [valV_neg e, b]; exact ih
theorem KT.repl {H : Hp} {kvs : List (List Key × V)} {xs : List (List Key × Addr × Value)} (r : KT H kvs xs) (k : List Key) {y : V} {u : Value} (ry : RelV y u) :
    KT H (kvs.map fun kv => if kv.1 = k then (kv.1, y) else kv) (xs.map (putAt k u)) := by
  induction r with
  | nil => exact .nil
  | @cons p q ps qs h t ih =>
    rw [List.map_cons, List.map_cons]
    refine .cons ?_ ih
    obtain ⟨h1, h2, h3⟩ := h
    unfold putAt
    by_cases e : p.1 = k
    · rw [if_pos e, if_pos (h1.symm.trans e)]; exact ⟨h1, h2, ry⟩
    · rw [if_neg e, if_neg (fun z => e (h1.trans z))]; exact ⟨h1, h2, h3⟩
theorem KT.put {H : Hp} {kvs : List (List Key × V)} {xs : List (List Key × Addr × Value)} (r : KT H kvs xs) (k : List Key) {b : Addr} {y : V} {u : Value} (hb : H b = some (.tup (k.map kV))) (ry : RelV y u) :
    KT H (putK kvs k y) (storedH xs k b u) := by
  have e : (kvs.any fun kv => decide (kv.1 = k)) = (atKey xs k).isSome := by
    rw [valV_any, (r.val k).isSome_eq, Option.isSome_map]
  unfold putK storedH
  rw [e]
  by_cases q : (atKey xs k).isSome = true
  · rw [if_pos q, if_pos q]; exact r.repl k ry
  · rw [if_neg q, if_neg q]; exact Paired.snoc r ⟨rfl, hb, ry⟩
theorem KT.keeps {H H' : Hp} {kvs : List (List Key × V)} {xs : List (List Key × Addr × Value)} (r : KT H kvs xs) (ht : ∀ b ys, H b = some (.tup ys) → H' b = some (.tup ys)) : KT H' kvs xs :=
  Paired.mapP r fun _ _ z => ⟨z.1, ht _ _ z.2.1, z.2.2⟩

section
variable {P : Program} {w : World} {H : Hp} {h : Heap} {a : Addr}
theorem rd_of {u : HO} (ok : HOk P w H h) (e : Rd H a u) : ObjOk P w H h a u := e.ok ok
theorem dk_rd {kvs : List (Key × V)} (ok : HOk P w H h) (e : Rd H a (.dK kvs)) : kvs.length ≤ sizeLine ∧ (a == sysModules) = false ∧ ∃ vs, KV kvs vs ∧ h.DictOf (mixKind P w) a vs :=
  show ObjOk P w H h a (.dK kvs) from rd_of ok e
theorem dk_of {kvs : List (Key × V)} (ok : HOk P w H h) (e : H a = some (.dK kvs)) : kvs.length ≤ sizeLine ∧ (a == sysModules) = false ∧ ∃ vs, KV kvs vs ∧ h.DictOf (mixKind P w) a vs := dk_rd ok (.inl e)
/-- a tracked tuple of ints and texts is a key -/
theorem key_of {ks : List Key} (ok : HOk P w H h) (e : H a = some (.tup (ks.map kV))) : (tupleKind (mixKind P w)).is h ks a := by
  obtain ⟨_, its, r, o, h1, h2, n, h3⟩ := (show ObjOk P w H h a (.tup (ks.map kV)) from ok a _ e)
  exact ⟨o, its.toArray, n, h1, h2, h3, by simpa using items_are r⟩
theorem dt_rd {kvs : List (List Key × V)} (ok : HOk P w H h) (e : Rd H a (.dT kvs)) : kvs.length ≤ sizeLine ∧ (a == sysModules) = false ∧
    ∃ xs, KT H kvs xs ∧ h.DictOfH (tupleKind (mixKind P w)) a xs := by
  obtain ⟨z, y, xs, r, o, es, ep, h1, h2, h3, h4, h5⟩ := (show ObjOk P w H h a (.dT kvs) from rd_of ok e)
  refine ⟨z, y, xs, r, o, es, ep, h1, h2, h3, h4, fun x hx => ?_, h5⟩
  have all : ∀ {l : List (List Key × V)} {m : List (List Key × Addr × Value)}, KT H l m → ∀ x ∈ m, (tupleKind (mixKind P w)).is h x.1 x.2.1 := by
    intro l m q
    induction q with
    | nil => intro x hx; exact nomatch hx
    | @cons p q ps qs hq t ih =>
      intro x hx
      rcases List.mem_cons.mp hx with e | hx
      · subst e
        exact key_of ok (by rw [← hq.1]; exact hq.2.1)
      · exact ih x hx
  exact all r x hx
theorem dt_of {kvs : List (List Key × V)} (ok : HOk P w H h) (e : H a = some (.dT kvs)) : kvs.length ≤ sizeLine ∧ (a == sysModules) = false ∧
    ∃ xs, KT H kvs xs ∧ h.DictOfH (tupleKind (mixKind P w)) a xs := dt_rd ok (.inl e)
end

/-- what the dict at a holds at the key y -/
def DGet (H : Hp) (a : Addr) (y : V) (r : Option V) : Prop :=
  (∃ kvs k, Rd H a (.dK kvs) ∧ y = kV k ∧ r = valV kvs k) ∨ ∃ kvs k b, Rd H a (.dT kvs) ∧ y = .ref b ∧ H b = some (.tup (k.map kV)) ∧ r = valV kvs k
/-- the heap behind a[y] = v -/
def DPut (H : Hp) (a : Addr) (y v : V) (H' : Hp) : Prop :=
  (∃ kvs k, H a = some (.dK kvs) ∧ y = kV k ∧ kvs.length < sizeLine ∧ H' = upd H a (.dK (putK kvs k v))) ∨
  ∃ kvs k b, H a = some (.dT kvs) ∧ y = .ref b ∧ H b = some (.tup (k.map kV)) ∧ kvs.length < sizeLine ∧ H' = upd H a (.dT (putK kvs k v))
theorem DGet.k {H : Hp} {a : Addr} {kvs : List (Key × V)} {k : Key} (e : H a = some (.dK kvs)) : DGet H a (kV k) (valV kvs k) := .inl ⟨kvs, k, .inl e, rfl, rfl⟩
theorem DGet.t {H : Hp} {a b : Addr} {kvs : List (List Key × V)} {k : List Key} (e : H a = some (.dT kvs)) (eb : H b = some (.tup (k.map kV))) : DGet H a (.ref b) (valV kvs k) := .inr ⟨kvs, k, b, .inl e, rfl, eb, rfl⟩
theorem DPut.k {H : Hp} {a : Addr} {kvs : List (Key × V)} {k : Key} {v : V} (e : H a = some (.dK kvs)) (hl : kvs.length < sizeLine) : DPut H a (kV k) v (upd H a (.dK (putK kvs k v))) := .inl ⟨kvs, k, e, rfl, hl, rfl⟩
theorem DPut.t {H : Hp} {a b : Addr} {kvs : List (List Key × V)} {k : List Key} {v : V} (e : H a = some (.dT kvs)) (eb : H b = some (.tup (k.map kV))) (hl : kvs.length < sizeLine) :
    DPut H a (.ref b) v (upd H a (.dT (putK kvs k v))) := .inr ⟨kvs, k, b, e, rfl, eb, hl, rfl⟩


section
variable {X : Cx} {pins : List (Addr × Obj)} {σ : St} {H : Hp} {s : Shared} {a : Addr} {y v : V} {u r : Value} {o : Option V} {A : Around} {E : Value → Shared → Prop}

theorem Inv.big (I : Inv X pins σ H s) : sysModules < s.heap.objs.size := by
  have h : mainGlobals < s.heap.objs.size := (I.mod.glob.keeps I.bk).lt
  exact Nat.lt_trans (by decide) h

/-- d[y], there -/
theorem d_getItem {Q : Value → Shared → Prop} (hu : A.units + 1 < cLine) (I : Inv X pins σ H s) (g : DGet H a y (some v)) (ry : RelV y u) (h : ∀ w' s', Inv X pins σ H s' → RelV v w' → Q w' s') :
    wpAny (model X.prog X.w) A (getItem (.ref a) u) Q E s := by
  rcases g with ⟨kvs, k, e, ey, l⟩ | ⟨kvs, k, b, e, ey, eb, l⟩
  · subst ey
    obtain ⟨z, hd, vs, rel, dd⟩ := dk_rd I.hok e
    obtain ⟨w', hw, rw'⟩ := RelO.some_of (v := v) (o := valueAt vs k) (by rw [l]; exact rel.val k)
    exact wpAny_getItem_of (kV_is ry) dd.mapOf hw (h w' _ (I.tok _) rw')
  · subst ey
    cases (show u = Value.ref b from ry)
    obtain ⟨z, hd, xs, rel, dd⟩ := dt_rd I.hok e
    obtain ⟨w', hw, rw'⟩ := RelO.some_of (v := v) (o := (atKey xs k).map (·.2)) (by rw [l]; exact rel.val k)
    obtain ⟨p, hp, hp2⟩ := Option.map_eq_some_iff.mp hw
    refine wpAny_getItem_heap (tupleKind_room_in1 hu) (key_of I.hok eb) dd hp ?_
    rw [hp2]
    exact h w' _ (I.tok _) rw'
/-- y in d -/
theorem d_in {Q : Value → Shared → Prop} (hu : A.units + 1 < cLine) (I : Inv X pins σ H s) (g : DGet H a y o) (ry : RelV y u) (h : ∀ s', Inv X pins σ H s' → Q (.bool o.isSome) s') :
    wpAny (model X.prog X.w) A (compareOp .In u (.ref a)) Q E s := by
  rcases g with ⟨kvs, k, e, ey, l⟩ | ⟨kvs, k, b, e, ey, eb, l⟩
  · subst ey
    obtain ⟨z, hd, vs, rel, dd⟩ := dk_rd I.hok e
    refine wpAny_in_of (kV_is ry) hd dd.mapOf ?_
    rw [← (rel.val k).isSome_eq, ← l]
    exact h _ (I.tok _)
  · subst ey
    cases (show u = Value.ref b from ry)
    obtain ⟨z, hd, xs, rel, dd⟩ := dt_rd I.hok e
    refine wpAny_in_heap (tupleKind_room_in1 hu) (key_of I.hok eb) hd dd ?_
    have q := (rel.val k).isSome_eq
    rw [Option.isSome_map] at q
    rw [← q, ← l]
    exact h _ (I.tok _)
theorem d_notIn {Q : Value → Shared → Prop} (hu : A.units + 1 < cLine) (I : Inv X pins σ H s) (g : DGet H a y o) (ry : RelV y u) (h : ∀ s', Inv X pins σ H s' → Q (.bool (!o.isSome)) s') :
    wpAny (model X.prog X.w) A (compareOp .NotIn u (.ref a)) Q E s := by
  rcases g with ⟨kvs, k, e, ey, l⟩ | ⟨kvs, k, b, e, ey, eb, l⟩
  · subst ey
    obtain ⟨z, hd, vs, rel, dd⟩ := dk_rd I.hok e
    refine wpAny_notIn_of (kV_is ry) hd dd.mapOf ?_
    rw [← (rel.val k).isSome_eq, ← l]
    exact h _ (I.tok _)
  · subst ey
    cases (show u = Value.ref b from ry)
    obtain ⟨z, hd, xs, rel, dd⟩ := dt_rd I.hok e
    refine wpAny_notIn_heap (tupleKind_room_in1 hu) (key_of I.hok eb) hd dd ?_
    have q := (rel.val k).isSome_eq
    rw [Option.isSome_map] at q
    rw [← q, ← l]
    exact h _ (I.tok _)
/-- a dict's object is replaced -/
theorem d_write {h' : Heap} {t' : Nat} {ob : HO} (I : Inv X pins σ H s) (mu : Mut (H a)) (hs : Heap.SameBut a s.heap h') (he : ∃ q, h'.get? a = some q) (new : ObjOk X.prog X.w (upd H a ob) h' a ob) :
    Inv X pins σ (upd H a ob) { s with heap := h', toks := t' } :=
  I.write (x := a) (e := a) mu (.inl rfl) (fun b q hb z => (hs.2 b hb).trans z) he new
theorem dk_new {P : Program} {w : World} {H' : Hp} {h' : Heap} {kvs : List (Key × V)} {vs : List (Key × Value)} (z : kvs.length ≤ sizeLine) (hd : (a == sysModules) = false) (rel : KV kvs vs) (dd : h'.DictOf (mixKind P w) a vs) :
    ObjOk P w H' h' a (.dK kvs) := ⟨z, hd, vs, rel, dd⟩
/-- d[y] = v -/
theorem d_setItem {H' : Hp} {Q : Unit → Shared → Prop} (hu : A.units + 1 < cLine) (I : Inv X pins σ H s) (g : DPut H a y v H') (ry : RelV y u) (rv : RelV v r) (h : ∀ s', Inv X pins σ H' s' → Q () s') :
    wpAny (model X.prog X.w) A (setItem (.ref a) u r) Q E s := by
  rcases g with ⟨kvs, k, e, ey, l, eH⟩ | ⟨kvs, k, b, e, ey, eb, l, eH⟩
  · subst ey eH
    obtain ⟨z, hd, vs, rel, dd⟩ := dk_of I.hok e
    have hz : vs.length ≤ sizeLine := by rw [← rel.length]; exact z
    have hl : (putK kvs k v).length ≤ sizeLine := by have := length_putK kvs k v; omega
    refine wpAny_setItem_pairs (hsz := hz) (kV_is ry) dd fun h' dd' hs => h _ ?_
    have he : ∃ q, h'.get? a = some q := let ⟨q, _, _, hq, _⟩ := dd'; ⟨q, hq⟩
    exact d_write I (by rw [e]; exact True.intro) hs he (dk_new hl hd (rel.put k rv) dd')
  · subst ey eH
    cases (show u = Value.ref b from ry)
    obtain ⟨z, hd, xs, rel, dd⟩ := dt_of I.hok e
    have hz : xs.length ≤ sizeLine := by rw [← Paired.length rel]; exact z
    have hl : (putK kvs k v).length ≤ sizeLine := by have := length_putK kvs k v; omega
    refine wpAny_setItem_heap (hsz := hz) (tupleKind_room_in1 hu) (key_of I.hok eb) dd fun h' dd' hs => h _ ?_
    obtain ⟨q, es, ep, hq, h2, h3, h4, _, h5⟩ := dd'
    refine d_write I (by rw [e]; exact True.intro) hs ⟨q, hq⟩ ⟨hl, hd, _, (rel.put k eb rv).keeps fun c ys ec => ?_, q, es, ep, hq, h2, h3, h4, h5⟩
    rw [upd_ne (ne_of ec e (fun z => nomatch z))]
    exact ec
end

section
variable {X : Cx} {pins : List (Addr × Obj)} {σ : St} {H : Hp} {s : Shared} {a : Addr} {kvs : List (Key × V)} {k : Key} {u : Value} {A : Around} {E : Value → Shared → Prop}
/-- del d[k] -/
theorem d_delItem {Q : Unit → Shared → Prop} (I : Inv X pins σ H s) (e : H a = some (.dK kvs)) (ry : RelV (kV k) u) (l : (valV kvs k).isSome = true) (h : ∀ s', Inv X pins σ (upd H a (.dK (dropK kvs k))) s' → Q () s') :
    wpAny (model X.prog X.w) A (delItem (.ref a) u) Q E s := by
  obtain ⟨z, hd, vs, rel, dd⟩ := dk_of I.hok e
  refine wpAny_delItem_slot dd.typeIs (by decide) PySem.F.slot_dict_delitem
    (call_meetsIn PySem.F.slot_dict_delitem dd.typeIs PySem.F.entry_dict_delitem (PySem.F.args_dict_delitem_2 _ _) (meets_dict_delitem_pairs (mixKind X.prog X.w) a (kV_is ry)) ⟨vs, dd, by rw [← rel.length]; exact z, by rw [← (rel.val k).isSome_eq]; exact l, fun h' dd' hs => h _ ?_⟩)
  have he : ∃ q, h'.get? a = some q := let ⟨q, _, _, hq, _⟩ := dd'; ⟨q, hq⟩
  exact d_write I (by rw [e]; exact True.intro) hs he (dk_new (Nat.le_trans (dropK_le kvs k) z) hd (rel.drop k) dd')
/-- d.pop(k[, x]), there -/
theorem d_pop {v : V} {more : List Value} {Q : Value → Shared → Prop} (I : Inv X pins σ H s) (e : H a = some (.dK kvs)) (ry : RelV (kV k) u) (l : valV kvs k = some v) (hm : more = [] ∨ ∃ x, more = [x])
    (h : ∀ w' s', Inv X pins σ (upd H a (.dK (dropK kvs k))) s' → RelV v w' → Q w' s') : wpAny (model X.prog X.w) A (call (.builtin "dict.pop") (.ref a :: u :: more)) Q E s := by
  obtain ⟨z, hd, vs, rel, dd⟩ := dk_of I.hok e
  obtain ⟨w', hw, rw'⟩ := RelO.some_of (v := v) (o := valueAt vs k) (by rw [← l]; exact rel.val k)
  have hp : (keyPart u).isSome = true := by
    cases k with
    | inl i => obtain ⟨t, q⟩ := (show ∃ t, u = Value.int i t from ry); subst q; rfl
    | inr x => obtain ⟨t, q⟩ := (show ∃ t, u = Value.str x t from ry); subst q; rfl
  have ha : argsOk "dict.pop" ⟨.ref a :: u :: more, []⟩ := by
    rcases hm with q | ⟨x, q⟩
    · subst q; exact PySem.F.args_dict_pop_2 _ _
    · subst q; exact PySem.F.args_dict_pop_3 _ _ _
  refine call_meetsIn PySem.F.slot_dict_pop dd.typeIs PySem.F.entry_dict_pop ha (meets_dict_pop_there (mixKind X.prog X.w) a (kV_is ry) more hm hp)
    ⟨vs, w', dd, by rw [← rel.length]; exact z, hw, fun h' dd' hs => h w' _ ?_ rw'⟩
  have he : ∃ q, h'.get? a = some q := let ⟨q, _, _, hq, _⟩ := dd'; ⟨q, hq⟩
  exact d_write I (by rw [e]; exact True.intro) hs he (dk_new (Nat.le_trans (dropK_le kvs k) z) hd (rel.drop k) dd')
/-- d.pop(k, x), not there -/
theorem d_popD {r : Value} {Q : Value → Shared → Prop} (I : Inv X pins σ H s) (e : H a = some (.dK kvs)) (ry : RelV (kV k) u) (l : valV kvs k = none) (h : ∀ s', Inv X pins σ H s' → Q r s') :
    wpAny (model X.prog X.w) A (call (.builtin "dict.pop") [.ref a, u, r]) Q E s := by
  obtain ⟨z, hd, vs, rel, dd⟩ := dk_of I.hok e
  have hn : valueAt vs k = none := RelO.none_of (by rw [← l]; exact rel.val k)
  have hp : (keyPart u).isSome = true := by
    cases k with
    | inl i => obtain ⟨t, q⟩ := (show ∃ t, u = Value.int i t from ry); subst q; rfl
    | inr x => obtain ⟨t, q⟩ := (show ∃ t, u = Value.str x t from ry); subst q; rfl
  exact call_meetsIn PySem.F.slot_dict_pop dd.typeIs PySem.F.entry_dict_pop (PySem.F.args_dict_pop_3 _ _ _) (meets_dict_pop_default (mixKind X.prog X.w) a (kV_is ry) hd hp r) ⟨vs, dd, hn, h _ (I.tok _)⟩
/-- d.clear() -/
theorem d_clear {Q : Value → Shared → Prop} (I : Inv X pins σ H s) (e : H a = some (.dK kvs)) (h : ∀ s', Inv X pins σ (upd H a (.dK [])) s' → Q .none s') : wpAny (model X.prog X.w) A (call (.builtin "dict.clear") [.ref a]) Q E s := by
  obtain ⟨z, hd, vs, rel, dd⟩ := dk_of I.hok e
  refine call_meetsIn PySem.F.slot_dict_clear dd.typeIs PySem.F.entry_dict_clear (PySem.F.args_dict_clear_1 _) (meets_dict_clear (mixKind X.prog X.w) a) ⟨vs, dd, by rw [← rel.length]; exact z, fun h' dd' hs => h _ ?_⟩
  have he : ∃ q, h'.get? a = some q := let ⟨q, _, _, hq, _⟩ := dd'; ⟨q, hq⟩
  exact d_write (t' := s.toks) I (by rw [e]; exact True.intro) hs he (dk_new (Nat.zero_le _) hd .nil dd')
/-- len(d) -/
theorem d_len {Q : Value → Shared → Prop} (I : Inv X pins σ H s) (e : Rd H a (.dK kvs)) (h : ∀ t s', Inv X pins σ H s' → Q (.int kvs.length t) s') : wpAny (model X.prog X.w) A (call (.builtin "len") [.ref a]) Q E s := by
  obtain ⟨z, hd, vs, rel, dd⟩ := dk_rd I.hok e
  refine call_len_dict hd dd (by rw [← rel.length]; rw [sizeLine_eq] at z; omega) ?_
  rw [← rel.length]
  exact h _ _ (I.tok _)
/-- if d -/
theorem d_truth {Q : Bool → Shared → Prop} (I : Inv X pins σ H s) (e : Rd H a (.dK kvs)) (h : ∀ s', Inv X pins σ H s' → Q (!kvs.isEmpty) s') : wpAny (model X.prog X.w) A (truthy (.ref a)) Q E s := by
  obtain ⟨z, hd, vs, rel, dd⟩ := dk_rd I.hok e
  refine wpAny_truthy_dict hd dd (by rw [← rel.length]; rw [sizeLine_eq] at z; omega) ?_
  have q : kvs.isEmpty = vs.isEmpty := by cases rel <;> rfl
  rw [← q]
  exact h _ (I.tok _)
end


/-! ### readings and rules -/
/-- the element of a subscription, not a slice -/
def NoSl (i : Expr) : Prop := ∀ ov iv, subscripted i false ov iv = operate [ov, iv] (getItem ov iv)
theorem subD_of {prog : Program} {w : World} {A : Around} {E : Value → Shared → Prop} {s : Shared} {env : Env} {value slice : Expr} {pos : Pos} {T id : String} {Q : Value → Shared → Prop}
    (hl : typeLookup (.type T) "__getitem__" = pure (some (.builtin id))) (hs : NoSl slice)
    (h : wpAny (model prog w) A (eval value env) (fun o s₁ => wpAny (model prog w) A (eval slice env) (fun i s₂ => s₂.TypeIs o T ∧ wpAny (model prog w) A (getItem o i) Q E s₂) E s₁) E s) :
    wpAny (model prog w) A (eval (.Subscript value slice pos) env) Q E s := by
  refine Subscript_ (wpAny_mono h (fun o s₁ h₁ => wpAny_mono h₁ (fun i s₂ h₂ => ?_) fun _ _ x => x) fun _ _ x => x)
  obtain ⟨hT, h₂⟩ := h₂
  unfold subscriptTail
  refine wpAny_bind ?_
  rw [getitemInPython_of_ne hT.not_modules]
  refine wpAny_bind (wpAny_specialOf hT hl ?_)
  have fin : wpAny (model prog w) A (subscripted slice false o i) (fun r s₃ => wpAny (model prog w) A (letTemporaryGo value o r >>= fun _ => pure r) Q E s₃) E s₂ := by
    rw [hs o i]
    exact wpAny_operating (wpAny_mono h₂ (fun r s₃ h₃ => wpAny_bind (wpAny_letTemporaryGo (wpAny_pure h₃))) fun _ _ x => x)
  first
    | exact wpAny_pure (wpAny_bind fin)
    | exact wpAny_bind (wpAny_pure (wpAny_bind fin))
    | exact wpAny_bind fin

theorem dict_typeIs {X : Cx} {pins : List (Addr × Obj)} {σ : St} {H : Hp} {s : Shared} {a : Addr} {y : V} {o : Option V} (I : Inv X pins σ H s) (g : DGet H a y o) : s.TypeIs (.ref a) "dict" := by
  rcases g with ⟨kvs, k, e, _, _⟩ | ⟨kvs, k, b, e, _, _, _⟩
  · obtain ⟨_, _, vs, _, dd⟩ := dk_rd I.hok e
    exact dd.typeIs
  · obtain ⟨_, _, xs, _, dd⟩ := dt_rd I.hok e
    exact dd.typeIs
theorem dict_noDict {X : Cx} {pins : List (Addr × Obj)} {σ : St} {H : Hp} {s : Shared} {a : Addr} {y : V} {o : Option V} (I : Inv X pins σ H s) (g : DGet H a y o) :
    ∀ b, Value.ref a = .ref b → ∃ ob, s.heap.get? b = some ob ∧ ob.dict = none := fun b q => by
  cases q
  rcases g with ⟨kvs, k, e, _, _⟩ | ⟨kvs, k, b, e, _, _, _⟩
  · obtain ⟨_, _, vs, _, ob, _, _, h1, h2, _⟩ := dk_rd I.hok e
    exact ⟨ob, h1, h2.2.1⟩
  · obtain ⟨_, _, xs, _, ob, _, _, h1, h2, _⟩ := dt_rd I.hok e
    exact ⟨ob, h1, h2.2.1⟩

/-- d[y] -/
def tDGet (td ty : TE) : TE := fun σ H Q => td σ H fun x H1 => ty σ H1 fun y H2 => ∃ a v, x = .ref a ∧ DGet H2 a y (some v) ∧ Q v H2
/-- y in d, y not in d -/
def tDIn (ty td : TE) : TE := fun σ H Q => ty σ H fun y H1 => td σ H1 fun x H2 => ∃ a o, x = .ref a ∧ DGet H2 a y o ∧ Q (.bl o.isSome) H2
def tDNotIn (ty td : TE) : TE := fun σ H Q => ty σ H fun y H1 => td σ H1 fun x H2 => ∃ a o, x = .ref a ∧ DGet H2 a y o ∧ Q (.bl (!o.isSome)) H2
/-- d[y] = v -/
def sDPut (td ty tv : TE) : TS := fun D σ H => tv σ H fun v H1 => td σ H1 fun x H2 => ty σ H2 fun y H3 => ∃ a H4, x = .ref a ∧ DPut H3 a y v H4 ∧ D.nx σ H4
/-- d[y] op= v -/
def sDAug (td ty tv : TE) (rd : V → V → Hp → VK → Prop) : TS := fun D σ H => td σ H fun x H1 => ty σ H1 fun y H2 => ∃ a v, x = .ref a ∧ DGet H2 a y (some v) ∧
  tv σ H2 fun y2 H3 => rd v y2 H3 fun z H4 => ∃ H5, DPut H4 a y z H5 ∧ D.nx σ H5
/-- del d[y] -/
def sDDel (td ty : TE) : TS := fun D σ H => td σ H fun x H1 => ty σ H1 fun y H2 => ∃ a kvs k, x = .ref a ∧ H2 a = some (.dK kvs) ∧ y = kV k ∧ (valV kvs k).isSome = true ∧ D.nx σ (upd H2 a (.dK (dropK kvs k)))

section
variable {X : Cx} {o i e value : Expr} {pos pos' tpos : Pos} {td ty tv : TE}
theorem pe_dget (hu : X.A.units + 1 < cLine) (ho : PE X o td) (hi : PE X i ty) (hs : NoSl i) : PE X (.Subscript o i pos) (tDGet td ty) := by
  intro pins s σ H Q I h
  refine subD_of PySem.F.slot_dict_getitem.lookup hs (thn (ho pins s σ H _ I h) fun u s1 ⟨x, H1, I1, rx, q1⟩ => thn (hi pins s1 σ H1 _ I1 q1) fun iv s2 ⟨y, H2, I2, ry, a, v, ex, g, q2⟩ => ?_)
  subst ex
  obtain rfl : u = Value.ref a := rx
  exact ⟨dict_typeIs I2 g, d_getItem hu I2 g ry fun w' s3 I3 rw' => ⟨v, H2, I3, rw', q2⟩⟩
theorem pc_din (hu : X.A.units + 1 < cLine) (hi : PE X i ty) (ho : PE X o td) : PC X .In i o (tDIn ty td) := by
  intro pins s σ H Q I h
  refine thn (hi pins s σ H _ I h) fun iv s1 ⟨y, H1, I1, ry, q1⟩ => thn (ho pins s1 σ H1 _ I1 q1) fun u s2 ⟨x, H2, I2, rx, a, ov, ex, g, q2⟩ => ?_
  subst ex
  obtain rfl : u = Value.ref a := rx
  exact d_in hu I2 g ry fun s3 I3 => ⟨.bl ov.isSome, H2, I3, rfl, q2⟩
theorem pc_dnotin (hu : X.A.units + 1 < cLine) (hi : PE X i ty) (ho : PE X o td) : PC X .NotIn i o (tDNotIn ty td) := by
  intro pins s σ H Q I h
  refine thn (hi pins s σ H _ I h) fun iv s1 ⟨y, H1, I1, ry, q1⟩ => thn (ho pins s1 σ H1 _ I1 q1) fun u s2 ⟨x, H2, I2, rx, a, ov, ex, g, q2⟩ => ?_
  subst ex
  obtain rfl : u = Value.ref a := rx
  exact d_notIn hu I2 g ry fun s3 I3 => ⟨.bl (!ov.isSome), H2, I3, rfl, q2⟩
theorem ps_dput (hu : X.A.units + 1 < cLine) (ho : PE X o td) (hi : PE X i ty) (hv : PE X value tv) (hs : swapsWith value (some (.Subscript o i pos')) pos.line X.env = pure false) :
    PS X (.Assign [.Subscript o i pos'] value pos) (sDPut td ty tv) := by
  intro pins s σ H D I h
  refine wpAny_Assign_Subscript (thn (hv pins s σ H _ I h) fun r s1 ⟨v, H1, I1, rv, q1⟩ => thn (ho pins s1 σ H1 _ I1 q1) fun u s2 ⟨x, H2, I2, rx, q2⟩ => thn (hi pins s2 σ H2 _ I2 q2) fun iv s3 ⟨y, H3, I3, ry, a, H4, ex, g, q3⟩ => ?_) hs
  subst ex
  obtain rfl : u = Value.ref a := rx
  exact d_setItem hu I3 g ry rv fun s4 I4 => ⟨σ, H4, I4, q3⟩
theorem ps_daug {op : Operator} {rd : V → V → Hp → VK → Prop} (hu : X.A.units + 1 < cLine) (ho : PE X o td) (hi : PE X i ty) (hv : PE X value tv) (hop : InOp X op rd)
    (ha : ∀ ov iv new, augStore i ov iv new = (do holding [new, ov, iv] (setItem ov iv new); release [new, ov, iv] []; pure .next)) : PS X (.AugAssign (.Subscript o i tpos) op value pos) (sDAug td ty tv rd) := by
  intro pins s σ H D I h
  refine wpAny_AugAssign_SubscriptAny (thn (ho pins s σ H _ I h) fun u s1 ⟨x, H1, I1, rx, q1⟩ => thn (hi pins s1 σ H1 _ I1 q1) fun iv s2 ⟨y, H2, I2, ry, a, v, ex, g, q2⟩ => ?_) ha
  subst ex
  obtain rfl : u = Value.ref a := rx
  refine d_getItem hu I2 g ry fun w' s3 I3 rw' => thn (hv pins s3 σ H2 _ I3 q2) fun w2 s4 ⟨y2, H3, I4, ry2, q3⟩ => thn (hop pins s4 σ H3 v y2 w' w2 _ I4 rw' ry2 q3) fun w3 s5 ⟨z, H4, I5, rz, H5, g5, q4⟩ => ?_
  exact d_setItem hu I5 g5 ry rz fun s6 I6 => ⟨σ, H5, I6, q4⟩
theorem ps_ddel (ho : PE X o td) (hi : PE X i ty) : PS X (.Delete [.Subscript o i tpos] pos) (sDDel td ty) := by
  intro pins s σ H D I h
  refine wpAny_Delete (wpAny_deleteEach_cons (wpAny_delete_Subscript (thn (ho pins s σ H _ I h) fun u s1 ⟨x, H1, I1, rx, q1⟩ => thn (hi pins s1 σ H1 _ I1 q1) fun iv s2 ⟨y, H2, I2, ry, a, kvs, k, ex, e, ey, l, q2⟩ => ?_)))
  subst ex ey
  obtain rfl : u = Value.ref a := rx
  exact d_delItem I2 e ry l fun s3 I3 => wpAny_deleteEach_nil ⟨σ, _, I3, q2⟩
end


/-! ### displays -/
theorem dk_empty {P : Program} {w : World} {H : Hp} (h : Heap) (hb : sysModules < h.objs.size) : ObjOk P w H (h.push { cls := .type "dict", data := .dict #[] }) h.objs.size (.dK []) :=
  ⟨Nat.zero_le _, beq_eq_false_iff_ne.mpr (Ne.symm (Nat.ne_of_lt hb)), [], .nil, Heap.DictOf.new h⟩
theorem dt_empty {P : Program} {w : World} {H : Hp} (h : Heap) (hb : sysModules < h.objs.size) : ObjOk P w H (h.push { cls := .type "dict", data := .dict #[] }) h.objs.size (.dT []) :=
  ⟨Nat.zero_le _, beq_eq_false_iff_ne.mpr (Ne.symm (Nat.ne_of_lt hb)), [], .nil, _, #[], 0, Heap.get?_push_size _ rfl, ⟨rfl, rfl, rfl⟩, rfl, rfl, List.nodup_nil⟩
/-- {}, to be a dict of the kind that is wanted -/
def tDNewK : TE := fun _ H Q => ∀ p, H p = none → Q (.ref p) (upd H p (.dK []))
def tDNewT : TE := fun _ H Q => ∀ p, H p = none → Q (.ref p) (upd H p (.dT []))
section
variable {X : Cx} {pos : Pos}
theorem pe_dnewK : PE X (.Dict [] [] pos) tDNewK := fun pins s σ H Q I h =>
  wpAny_Dict_empty ⟨.ref s.heap.objs.size, _, I.laid (a := s.heap.objs.size) (o := .dK []) (t' := s.toks) (fun _ _ q => Heap.get?_push_of_some _ q) (Nat.le_refl _) (dk_empty s.heap I.big), rfl, h _ (I.hok.fresh (Nat.le_refl _))⟩
theorem pe_dnewT : PE X (.Dict [] [] pos) tDNewT := fun pins s σ H Q I h =>
  wpAny_Dict_empty ⟨.ref s.heap.objs.size, _, I.laid (a := s.heap.objs.size) (o := .dT []) (t' := s.toks) (fun _ _ q => Heap.get?_push_of_some _ q) (Nat.le_refl _) (dt_empty s.heap I.big), rfl, h _ (I.hok.fresh (Nat.le_refl _))⟩
end

/-- the pairs of a display, from the left -/
def tPairs : List (TE × TE) → St → Hp → (List (V × V) → Hp → Prop) → Prop
  | [], _, H, Q => Q [] H
  | (tk, tv) :: r, σ, H, Q => tk σ H fun x H1 => tv σ H1 fun y H2 => tPairs r σ H2 fun ps H3 => Q ((x, y) :: ps) H3
abbrev VV : List (V × V) → List (Value × Value) → Prop := Paired fun p q => RelV p.1 q.1 ∧ RelV p.2 q.2
def PPs (X : Cx) (pos : Pos) (keys : List (Option Expr)) (values : List Expr) (trs : List (TE × TE)) : Prop :=
  ∀ (pins : List (Addr × Obj)) (s : Shared) (σ : St) (H : Hp) (Q : List (V × V) → Hp → Prop), Inv X pins σ H s → tPairs trs σ H Q →
    wpAny (model X.prog X.w) X.A (evalPairs (pairTrees keys values X.env pos)) (fun vs s' => ∃ ps H', Inv X pins σ H' s' ∧ VV ps vs ∧ Q ps H') X.xe s
theorem pps_nil {X : Cx} {pos : Pos} : PPs X pos [] [] [] := fun pins s σ H Q I h => pairTrees_nil_walk ⟨[], H, I, .nil, h⟩
theorem pps_cons {X : Cx} {pos : Pos} {k v : Expr} {ks : List (Option Expr)} {vs : List Expr} {tk tv : TE} {trs : List (TE × TE)} (hk : PE X k tk) (hv : PE X v tv) (hr : PPs X pos ks vs trs) :
    PPs X pos (some k :: ks) (v :: vs) ((tk, tv) :: trs) := fun pins s σ H Q I h =>
  pairTrees_cons_walk (thn (hk pins s σ H _ I h) fun u s1 ⟨x, H1, I1, rx, q1⟩ => thn (hv pins s1 σ H1 _ I1 q1) fun w2 s2 ⟨y, H2, I2, ry, q2⟩ =>
    thn (hr pins s2 σ H2 _ I2 q2) fun ws s3 ⟨ps, H3, I3, rel, q3⟩ => ⟨(x, y) :: ps, H3, I3, .cons ⟨rx, ry⟩ rel, q3⟩)

def mergeK (kvs more : List (Key × V)) : List (Key × V) := more.foldl (fun acc kv => putK acc kv.1 kv.2) kvs
theorem KV.merge : ∀ {more : List (Key × V)} {rs : List (Key × Value)} {kvs : List (Key × V)} {vs : List (Key × Value)}, KV more rs → KV kvs vs → KV (mergeK kvs more) (merged vs rs) := by
  intro more rs kvs vs r
  unfold KV at r
  induction r generalizing kvs vs with
  | nil => intro q; exact q
  | @cons p q ps qs h t ih =>
    intro r0
    have e : KV (putK kvs p.1 p.2) (stored vs q.1 q.2) := by
      have := r0.put p.1 h.2
      rw [← h.1]; exact this
    exact ih e
theorem length_mergeK : ∀ (more kvs : List (Key × V)), (mergeK kvs more).length ≤ kvs.length + more.length
  | [], kvs => by show kvs.length ≤ kvs.length + 0; omega
  | p :: r, kvs => by
    have h1 := length_mergeK r (putK kvs p.1 p.2)
    have h2 := length_putK kvs p.1 p.2
    show (mergeK (putK kvs p.1 p.2) r).length ≤ _
    rw [List.length_cons]; omega
theorem carries_of {P : Program} {w : World} : ∀ {kvs : List (Key × V)} {ws : List (Value × Value)}, VV (kvs.map fun kv => (kV kv.1, kv.2)) ws → ∃ rs, Carries (mixKind P w) ws rs ∧ KV kvs rs
  | [], _, r => by rw [List.map_nil] at r; cases r; exact ⟨[], True.intro, .nil⟩
  | p :: kvs, _, r => by
    rw [List.map_cons] at r
    cases r with
    | @cons a b as bs h t =>
      obtain ⟨rs, c, q⟩ := carries_of (P := P) (w := w) t
      obtain ⟨b1, b2⟩ := b
      exact ⟨(p.1, b2) :: rs, ⟨kV_is h.1, rfl, c⟩, .cons ⟨rfl, h.2⟩ q⟩
/-- {k: v, ..} with keys ints and texts; the new dict stands empty while the pairs are made -/
def tDisp (trs : List (TE × TE)) : TE := fun σ H Q => ∀ p, H p = none → tPairs trs σ (upd H p (.dK [])) fun ps H2 => H2 p = some (.dK []) ∧ ∃ kvs : List (Key × V), ps = kvs.map (fun kv => (kV kv.1, kv.2)) ∧ kvs.length ≤ 15 ∧ Q (.ref p) (upd H2 p (.dK (mergeK [] kvs)))
theorem pe_disp {X : Cx} {pos : Pos} {keys : List (Option Expr)} {values : List Expr} {trs : List (TE × TE)} (h : PPs X pos keys values trs) (hall : keys.all (·.isSome) = true) (hl : keys.length = values.length) (h0 : keys ≠ [])
    (h15 : keys.length ≤ 15) : PE X (.Dict keys values pos) (tDisp trs) := by
  intro pins s σ H Q I q
  have hn := I.hok.fresh (Nat.le_refl s.heap.objs.size)
  have I1 := I.laid (a := s.heap.objs.size) (o := .dK []) (h' := s.heap.push { cls := .type "dict", data := .dict #[] }) (t' := s.toks) (fun _ _ q => Heap.get?_push_of_some _ q) (Nat.le_refl _) (dk_empty s.heap I.big)
  refine wpAny_Dict_walk (knd := mixKind X.prog X.w) hall hl h0 h15 (thn (h pins _ σ _ _ I1 (q _ hn)) fun ws s2 ⟨ps, H2, I2, rel, e, kvs, ep, lk, q2⟩ => ?_)
  subst ep
  obtain ⟨rs, c, rk⟩ := carries_of (P := X.prog) (w := X.w) rel
  obtain ⟨z, hd, vs0, r0, dd⟩ := dk_of I2.hok e
  cases r0
  refine ⟨rs, c, dd, fun h' dd' hs => ⟨.ref s.heap.objs.size, _, ?_, rfl, q2⟩⟩
  have hz : (mergeK [] kvs).length ≤ sizeLine := by
    have h1 := length_mergeK kvs []
    rw [List.length_nil] at h1
    rw [sizeLine_eq]; omega
  have he : ∃ q, h'.get? s.heap.objs.size = some q := let ⟨q, _, _, hq, _⟩ := dd'; ⟨q, hq⟩
  exact d_write I2 (by rw [e]; exact True.intro) hs he (dk_new hz hd (rk.merge .nil) dd')


/-! ### methods -/
/-- a method call o.m(e) of a built-in, with one argument: what must be seen of the text -/
structure M1 (X : Cx) (o : Expr) (m : Str) (apos : Pos) (e : Expr) (cpos : Pos) : Prop where
  base : attributeBase o m X.env (eval o X.env) = eval o X.env
  few : ((backTo cpos (starEach [e] X.env)).all (fun x => !x.1) && (backToKw cpos (keywordEach [] X.env)).all (fun x => x.1.isSome)
    && decide (([e] : List Expr).length + ([] : List Keyword).length + (if ([] : List Keyword).isEmpty then 0 else 1) < 30)) = true
  line : (apos.endLine == cpos.line) = true
  trees : backTo cpos (starEach [e] X.env) = [(false, eval e X.env)]
structure M2 (X : Cx) (o : Expr) (m : Str) (apos : Pos) (e f : Expr) (cpos : Pos) : Prop where
  base : attributeBase o m X.env (eval o X.env) = eval o X.env
  few : ((backTo cpos (starEach [e, f] X.env)).all (fun x => !x.1) && (backToKw cpos (keywordEach [] X.env)).all (fun x => x.1.isSome)
    && decide (([e, f] : List Expr).length + ([] : List Keyword).length + (if ([] : List Keyword).isEmpty then 0 else 1) < 30)) = true
  line : (apos.endLine == cpos.line) = true
  trees : backTo cpos (starEach [e, f] X.env) = [(false, eval e X.env), (false, eval f X.env)]

/-- a is a dict, whatever its keys -/
def IsD (H : Hp) (a : Addr) : Prop := (∃ kvs, Rd H a (.dK kvs)) ∨ ∃ kvs, Rd H a (.dT kvs)
theorem isD_at {X : Cx} {pins : List (Addr × Obj)} {σ : St} {H : Hp} {s : Shared} {a : Addr} (I : Inv X pins σ H s) (d : IsD H a) :
    s.TypeIs (.ref a) "dict" ∧ (∀ b, Value.ref a = .ref b → ∃ ob, s.heap.get? b = some ob ∧ ob.dict = none) ∧ (a == sysModules) = false := by
  rcases d with ⟨kvs, e⟩ | ⟨kvs, e⟩
  · obtain ⟨_, hd, vs, _, dd⟩ := dk_rd I.hok e
    refine ⟨dd.typeIs, fun b q => ?_, hd⟩
    cases q
    obtain ⟨ob, _, _, h1, h2, _⟩ := dd
    exact ⟨ob, h1, h2.2.1⟩
  · obtain ⟨_, hd, xs, _, dd⟩ := dt_rd I.hok e
    refine ⟨dd.typeIs, fun b q => ?_, hd⟩
    cases q
    obtain ⟨ob, _, _, h1, h2, _⟩ := dd
    exact ⟨ob, h1, h2.2.1⟩

section
variable {X : Cx} {pins : List (Addr × Obj)} {σ : St} {H : Hp} {s : Shared} {a : Addr} {y d : V} {u r : Value} {o : Option V} {A : Around} {E : Value → Shared → Prop}
/-- d.get(y) -/
theorem d_get1 {Q : Value → Shared → Prop} (hu : A.units + 1 < cLine) (I : Inv X pins σ H s) (g : DGet H a y o) (ry : RelV y u) (h : ∀ w' s', Inv X pins σ H s' → RelV (o.getD .non) w' → Q w' s') :
    wpAny (model X.prog X.w) A (call (.builtin "dict.get") [.ref a, u]) Q E s := by
  rcases g with ⟨kvs, k, e, ey, l⟩ | ⟨kvs, k, b, e, ey, eb, l⟩
  · subst ey
    obtain ⟨z, hd, vs, rel, dd⟩ := dk_rd I.hok e
    refine call_meetsIn PySem.F.slot_dict_get dd.typeIs PySem.F.entry_dict_get (PySem.F.args_dict_get_2 _ _) (meets_dict_get (mixKind X.prog X.w) a (kV_is ry) hd) ⟨_, dd.mapOf, h _ _ (I.tok _) ?_⟩
    rw [l]
    exact (rel.val k).getD rfl
  · subst ey
    cases (show u = Value.ref b from ry)
    obtain ⟨z, hd, xs, rel, dd⟩ := dt_rd I.hok e
    refine call_meetsIn PySem.F.slot_dict_get dd.typeIs PySem.F.entry_dict_get (PySem.F.args_dict_get_2 _ _) (meetsH_dict_get (tupleKind (mixKind X.prog X.w)) a b hd) ⟨tupleKind_room_in1 hu, k, xs, key_of I.hok eb, dd, h _ _ (I.tok _) ?_⟩
    rw [l]
    exact (rel.val k).getD rfl
/-- d.get(y, x) -/
theorem d_get2 {Q : Value → Shared → Prop} (hu : A.units + 1 < cLine) (I : Inv X pins σ H s) (g : DGet H a y o) (ry : RelV y u) (rd : RelV d r) (h : ∀ w' s', Inv X pins σ H s' → RelV (o.getD d) w' → Q w' s') :
    wpAny (model X.prog X.w) A (call (.builtin "dict.get") [.ref a, u, r]) Q E s := by
  rcases g with ⟨kvs, k, e, ey, l⟩ | ⟨kvs, k, b, e, ey, eb, l⟩
  · subst ey
    obtain ⟨z, hd, vs, rel, dd⟩ := dk_rd I.hok e
    refine call_meetsIn PySem.F.slot_dict_get dd.typeIs PySem.F.entry_dict_get (PySem.F.args_dict_get_3 _ _ _) (meets_dict_get_default (mixKind X.prog X.w) a (kV_is ry) hd r) ⟨_, dd.mapOf, h _ _ (I.tok _) ?_⟩
    rw [l]
    exact (rel.val k).getD rd
  · subst ey
    cases (show u = Value.ref b from ry)
    obtain ⟨z, hd, xs, rel, dd⟩ := dt_rd I.hok e
    refine call_meetsIn PySem.F.slot_dict_get dd.typeIs PySem.F.entry_dict_get (PySem.F.args_dict_get_3 _ _ _) (meetsH_dict_get_default (tupleKind (mixKind X.prog X.w)) a b hd r) ⟨tupleKind_room_in1 hu, k, xs, key_of I.hok eb, dd, h _ _ (I.tok _) ?_⟩
    rw [l]
    exact (rel.val k).getD rd
end

def tDGet1 (td ty : TE) : TE := fun σ H Q => td σ H fun x H1 => ∃ a, x = .ref a ∧ IsD H1 a ∧ ty σ H1 fun y H2 => ∃ o, DGet H2 a y o ∧ Q (o.getD .non) H2
def tDGet2 (td ty tx : TE) : TE := fun σ H Q => td σ H fun x H1 => ∃ a, x = .ref a ∧ IsD H1 a ∧ ty σ H1 fun y H2 => tx σ H2 fun z H3 => ∃ o, DGet H3 a y o ∧ Q (o.getD z) H3
/-- d.pop(k): there; d.pop(k, x): there or not -/
def tDPop1 (td ty : TE) : TE := fun σ H Q => td σ H fun x H1 => ∃ a, x = .ref a ∧ IsD H1 a ∧ ty σ H1 fun y H2 => ∃ kvs k v, H2 a = some (.dK kvs) ∧ y = kV k ∧ valV kvs k = some v ∧ Q v (upd H2 a (.dK (dropK kvs k)))
def tDPop2 (td ty tx : TE) : TE := fun σ H Q => td σ H fun x H1 => ∃ a, x = .ref a ∧ IsD H1 a ∧ ty σ H1 fun y H2 => tx σ H2 fun z H3 => ∃ kvs k, H3 a = some (.dK kvs) ∧ y = kV k ∧
  (∀ v, valV kvs k = some v → Q v (upd H3 a (.dK (dropK kvs k)))) ∧ (valV kvs k = none → Q z H3)
section
variable {X : Cx} {o e f : Expr} {apos cpos : Pos} {td ty tx : TE}
theorem pe_dget1 (hu : X.A.units + 1 < cLine) (ho : PE X o td) (he : PE X e ty) (m : M1 X o "get" apos e cpos) : PE X (.Call (.Attribute o "get" apos) [e] [] cpos) (tDGet1 td ty) := by
  intro pins s σ H Q I h
  refine wpAny_Call_method m.base m.few m.line PySem.F.plainAttrs_dict PySem.F.slot_dict_get PySem.F.type_dict_get (thn (ho pins s σ H _ I h) fun u s1 ⟨x, H1, I1, rx, a, ex, d, q1⟩ => ?_)
  subst ex
  obtain rfl : u = Value.ref a := rx
  obtain ⟨t1, t2, _⟩ := isD_at I1 d
  refine ⟨t1, t2, ?_⟩
  rw [m.trees]
  refine Calls.callWith_builtin rfl (Calls.evalArgs_plain (Calls.spliced_cons (thn (he pins s1 σ H1 _ I1 q1) fun iv s2 ⟨y, H2, I2, ry, ov, g, q2⟩ => Calls.spliced_nil ?_)))
  exact d_get1 hu I2 g ry fun w' s3 I3 rw' => ⟨_, H2, I3, rw', q2⟩
theorem pe_dget2 (hu : X.A.units + 1 < cLine) (ho : PE X o td) (he : PE X e ty) (hf : PE X f tx) (m : M2 X o "get" apos e f cpos) : PE X (.Call (.Attribute o "get" apos) [e, f] [] cpos) (tDGet2 td ty tx) := by
  intro pins s σ H Q I h
  refine wpAny_Call_method m.base m.few m.line PySem.F.plainAttrs_dict PySem.F.slot_dict_get PySem.F.type_dict_get (thn (ho pins s σ H _ I h) fun u s1 ⟨x, H1, I1, rx, a, ex, d, q1⟩ => ?_)
  subst ex
  obtain rfl : u = Value.ref a := rx
  obtain ⟨t1, t2, _⟩ := isD_at I1 d
  refine ⟨t1, t2, ?_⟩
  rw [m.trees]
  refine Calls.callWith_builtin rfl (Calls.evalArgs_plain (Calls.spliced_cons (thn (he pins s1 σ H1 _ I1 q1) fun iv s2 ⟨y, H2, I2, ry, q2⟩ =>
    Calls.spliced_cons (thn (hf pins s2 σ H2 _ I2 q2) fun fv s3 ⟨z, H3, I3, rz, ov, g, q3⟩ => Calls.spliced_nil ?_))))
  exact d_get2 hu I3 g ry rz fun w' s4 I4 rw' => ⟨_, H3, I4, rw', q3⟩
theorem pe_dpop1 (ho : PE X o td) (he : PE X e ty) (m : M1 X o "pop" apos e cpos) : PE X (.Call (.Attribute o "pop" apos) [e] [] cpos) (tDPop1 td ty) := by
  intro pins s σ H Q I h
  refine wpAny_Call_method m.base m.few m.line PySem.F.plainAttrs_dict PySem.F.slot_dict_pop PySem.F.type_dict_pop (thn (ho pins s σ H _ I h) fun u s1 ⟨x, H1, I1, rx, a, ex, d, q1⟩ => ?_)
  subst ex
  obtain rfl : u = Value.ref a := rx
  obtain ⟨t1, t2, _⟩ := isD_at I1 d
  refine ⟨t1, t2, ?_⟩
  rw [m.trees]
  refine Calls.callWith_builtin rfl (Calls.evalArgs_plain (Calls.spliced_cons (thn (he pins s1 σ H1 _ I1 q1) fun iv s2 ⟨y, H2, I2, ry, kvs, k, v, ea, ey, l, q2⟩ => Calls.spliced_nil ?_)))
  subst ey
  exact d_pop I2 ea ry l (.inl rfl) fun w' s3 I3 rw' => ⟨v, _, I3, rw', q2⟩
theorem pe_dpop2 (ho : PE X o td) (he : PE X e ty) (hf : PE X f tx) (m : M2 X o "pop" apos e f cpos) : PE X (.Call (.Attribute o "pop" apos) [e, f] [] cpos) (tDPop2 td ty tx) := by
  intro pins s σ H Q I h
  refine wpAny_Call_method m.base m.few m.line PySem.F.plainAttrs_dict PySem.F.slot_dict_pop PySem.F.type_dict_pop (thn (ho pins s σ H _ I h) fun u s1 ⟨x, H1, I1, rx, a, ex, d, q1⟩ => ?_)
  subst ex
  obtain rfl : u = Value.ref a := rx
  obtain ⟨t1, t2, _⟩ := isD_at I1 d
  refine ⟨t1, t2, ?_⟩
  rw [m.trees]
  refine Calls.callWith_builtin rfl (Calls.evalArgs_plain (Calls.spliced_cons (thn (he pins s1 σ H1 _ I1 q1) fun iv s2 ⟨y, H2, I2, ry, q2⟩ =>
    Calls.spliced_cons (thn (hf pins s2 σ H2 _ I2 q2) fun fv s3 ⟨z, H3, I3, rz, kvs, k, ea, ey, q3, q4⟩ => Calls.spliced_nil ?_))))
  subst ey
  cases l : valV kvs k with
  | some v => exact d_pop I3 ea ry l (.inr ⟨fv, rfl⟩) fun w' s4 I4 rw' => ⟨v, _, I4, rw', q3 v l⟩
  | none => exact d_popD I3 ea ry l fun s4 I4 => ⟨z, H3, I4, rz, q4 l⟩
end

/-! ### dict(d): a copy -/
section
variable {X : Cx} {pins : List (Addr × Obj)} {σ : St} {H : Hp} {s : Shared} {a : Addr} {kvs : List (Key × V)} {A : Around} {E : Value → Shared → Prop}
theorem d_copyOf {Q : Value → Shared → Prop} (I : Inv X pins σ H s) (e : Rd H a (.dK kvs)) (h : ∀ p s', H p = none → Inv X pins σ (upd H p (.dK kvs)) s' → Q (.ref p) s') : wpAny (model X.prog X.w) A (call (.type "dict") [.ref a]) Q E s := by
  obtain ⟨z, hd, vs, rel, dd⟩ := dk_rd I.hok e
  refine kt_call_dict hd dd (by rw [← rel.length]; exact z) fun h' dd' hs => ?_
  refine h _ _ (I.hok.fresh (Nat.le_refl _)) (I.laid (a := s.heap.objs.size) (o := .dK kvs) (t' := s.toks) (fun b q hq => ?_) (Nat.le_refl _) (dk_new z (beq_eq_false_iff_ne.mpr (Ne.symm (Nat.ne_of_lt I.big))) rel dd'))
  exact (hs.2 b (Nat.ne_of_lt (Heap.lt_size hq))).trans (Heap.get?_push_of_some _ hq)
end


section
variable {X : Cx} {pins : List (Addr × Obj)} {σ : St} {H : Hp} {s : Shared} {a : Addr} {y : V} {u : Value} {A : Around} {E : Value → Shared → Prop}
/-- d[y], not there: a KeyError -/
theorem d_missing {Q : Value → Shared → Prop} (hu : A.units + 1 < cLine) (hh : A.handled = none) (I : Inv X pins σ H s) (g : DGet H a y none) (ry : RelV y u)
    (h : ∀ h' e t', Heap.NewExc s.heap h' e "KeyError" → E (.ref e) { s with heap := h', toks := t' }) : wpAny (model X.prog X.w) A (getItem (.ref a) u) Q E s := by
  rcases g with ⟨kvs, k, e, ey, l⟩ | ⟨kvs, k, b, e, ey, eb, l⟩
  · subst ey
    obtain ⟨z, hd, vs, rel, dd⟩ := dk_rd I.hok e
    have hn : valueAt vs k = none := RelO.none_of (by rw [l]; exact rel.val k)
    exact wpAny_getItem_missing_of (kV_is ry) hd hh dd.mapOf hn fun h' ex ne => h h' ex _ ne
  · subst ey
    cases (show u = Value.ref b from ry)
    obtain ⟨z, hd, xs, rel, dd⟩ := dt_rd I.hok e
    have hn : (atKey xs k).map (·.2) = none := RelO.none_of (by rw [l]; exact rel.val k)
    exact wpAny_getItem_missing_heap (tupleKind_room_in1 hu) (key_of I.hok eb) hd hh dd (Option.map_eq_none_iff.mp hn) fun h' ex ne => h h' ex _ ne
end
end L2

namespace L2
open PySem PySem.Spec PyProof.Rows
/-! ### a dict's pairs: keys that differ -/
section
variable {κ : Type} [DecidableEq κ]
theorem valV_not {kvs : List (κ × V)} {k : κ} (h : valV kvs k = none) : ¬ k ∈ kvs.map (·.1) := by
  intro m
  obtain ⟨p, hp, e⟩ := List.mem_map.mp m
  have q : (kvs.any fun kv => decide (kv.1 = k)) = true := List.any_eq_true.mpr ⟨p, hp, decide_eq_true e⟩
  rw [valV_any, h] at q
  exact absurd q (by simp)
theorem valV_in {kvs : List (κ × V)} {k : κ} {v : V} (h : valV kvs k = some v) : k ∈ kvs.map (·.1) := by
  have q : (kvs.any fun kv => decide (kv.1 = k)) = true := by
    rw [valV_any, h]
    all_goals rfl
  obtain ⟨p, hp, e⟩ := List.any_eq_true.mp q
  exact List.mem_map.mpr ⟨p, hp, of_decide_eq_true e⟩
theorem nd_snoc : ∀ {l : List κ} {k : κ}, l.Nodup → ¬ k ∈ l → (l ++ [k]).Nodup
  | [], k, _, _ => by simp
  | a :: r, k, h, hk => by
    obtain ⟨h1, h2⟩ := List.nodup_cons.mp h
    show (a :: (r ++ [k])).Nodup
    refine List.nodup_cons.mpr ⟨fun m => ?_, nd_snoc h2 fun m => hk (List.mem_cons.mpr (Or.inr m))⟩
    rcases List.mem_append.mp m with q | q
    · exact h1 q
    · exact hk (List.mem_cons.mpr (Or.inl (List.mem_singleton.mp q).symm))
theorem nd_putK {kvs : List (κ × V)} {k : κ} (v : V) (hn : (kvs.map (·.1)).Nodup) (h : valV kvs k = none) : ((putK kvs k v).map (·.1)).Nodup := by
  rw [putK_new v h, List.map_append]
  exact nd_snoc hn (valV_not h)
theorem dropK_pos {p : κ × V} {r : List (κ × V)} {k : κ} (e : p.1 = k) : dropK (p :: r) k = dropK r k := by
  unfold dropK
  rw [List.filter_cons, if_neg (by simp [e])]
theorem dropK_neg {p : κ × V} {r : List (κ × V)} {k : κ} (e : ¬ p.1 = k) : dropK (p :: r) k = p :: dropK r k := by
  unfold dropK
  rw [List.filter_cons, if_pos (by simp [e])]
theorem dropK_no : ∀ {kvs : List (κ × V)} {k : κ}, ¬ k ∈ kvs.map (·.1) → dropK kvs k = kvs
  | [], _, _ => rfl
  | p :: r, k, h => by
    have h' : ¬ k ∈ r.map (·.1) := fun m => by
      obtain ⟨q, hq, e⟩ := List.mem_map.mp m
      exact h (List.mem_map.mpr ⟨q, List.mem_cons.mpr (Or.inr hq), e⟩)
    rw [dropK_neg fun e => h (List.mem_map.mpr ⟨p, List.mem_cons.mpr (Or.inl rfl), e⟩), dropK_no h']
theorem dropK_mem {kvs : List (κ × V)} {k : κ} {p : κ × V} (h : p ∈ dropK kvs k) : p ∈ kvs := (List.mem_filter.mp h).1
theorem nd_dropK : ∀ {kvs : List (κ × V)} {k : κ}, (kvs.map (·.1)).Nodup → ((dropK kvs k).map (·.1)).Nodup
  | [], _, _ => List.nodup_nil
  | p :: r, k, h => by
    have h : (p.1 :: r.map (·.1)).Nodup := h
    obtain ⟨h1, h2⟩ := List.nodup_cons.mp h
    by_cases e : p.1 = k
    · rw [dropK_pos e]
      exact nd_dropK h2
    · rw [dropK_neg e]
      show (p.1 :: (dropK r k).map (·.1)).Nodup
      refine List.nodup_cons.mpr ⟨fun m => h1 ?_, nd_dropK h2⟩
      obtain ⟨q, hq, eq⟩ := List.mem_map.mp m
      exact List.mem_map.mpr ⟨q, dropK_mem hq, eq⟩
theorem dropK_len : ∀ {kvs : List (κ × V)} {k : κ}, (kvs.map (·.1)).Nodup → k ∈ kvs.map (·.1) → (dropK kvs k).length + 1 = kvs.length
  | [], _, _, m => by simp at m
  | p :: r, k, h, m => by
    have h : (p.1 :: r.map (·.1)).Nodup := h
    have m : k = p.1 ∨ k ∈ r.map (·.1) := List.mem_cons.mp m
    obtain ⟨h1, h2⟩ := List.nodup_cons.mp h
    by_cases e : p.1 = k
    · subst e
      rw [dropK_pos rfl, dropK_no h1]
      all_goals rfl
    · have m' : k ∈ r.map (·.1) := m.resolve_left fun z => e z.symm
      have q := dropK_len h2 m'
      rw [dropK_neg e, List.length_cons, List.length_cons]
      omega
end
end L2

set_option maxHeartbeats 4000000
/-! THE MATHEMATICS: turns of classes, walks over them. -/
namespace Kin
/-- each of 0 .. n - 1 stands just once -/
def IsTurn (n : Nat) (w : List Nat) : Prop := w.Perm (List.range n)
theorem IsTurn.len {n : Nat} {w : List Nat} (h : IsTurn n w) : w.length = n := by rw [List.Perm.length_eq h, List.length_range]
theorem IsTurn.nodup {n : Nat} {w : List Nat} (h : IsTurn n w) : w.Nodup := (List.Perm.nodup_iff h).mpr List.nodup_range
theorem IsTurn.mem {n : Nat} {w : List Nat} (h : IsTurn n w) {c : Nat} : c ∈ w ↔ c < n := by rw [List.Perm.mem_iff h, List.mem_range]
/-- the class to which the turn leads from c -/
def fw (w : List Nat) (c : Nat) : Nat := w.getD c 0
/-- the class from which it leads to c -/
def bw (w : List Nat) (c : Nat) : Nat := w.idxOf c
def inv (w : List Nat) : List Nat := (List.range w.length).map (bw w)
section
variable {n : Nat} {w : List Nat} (h : IsTurn n w) {c : Nat} (hc : c < n)
include h hc
theorem fw_get : w[c]? = some (fw w c) := by
  have hl : c < w.length := by rw [h.len]; exact hc
  unfold fw
  rw [List.getD_eq_getElem?_getD, List.getElem?_eq_getElem hl]
  rfl
theorem fw_lt : fw w c < n := h.mem.mp (List.mem_of_getElem? (fw_get h hc))
theorem bw_lt : bw w c < n := by
  have : bw w c < w.length := List.idxOf_lt_length_iff.mpr (h.mem.mpr hc)
  rw [h.len] at this; exact this
theorem fw_bw : fw w (bw w c) = c := by
  have hl : w.idxOf c < w.length := List.idxOf_lt_length_iff.mpr (h.mem.mpr hc)
  have e := List.getElem_idxOf hl
  unfold fw bw
  rw [List.getD_eq_getElem?_getD, List.getElem?_eq_getElem hl]
  simpa using e
theorem bw_fw : bw w (fw w c) = c := by
  have h1 : fw w (bw w (fw w c)) = fw w c := fw_bw h (fw_lt h hc)
  have hb : bw w (fw w c) < n := bw_lt h (fw_lt h hc)
  have e1 := fw_get h hb
  have e2 := fw_get h hc
  rw [h1] at e1
  obtain ⟨l1, q1⟩ := List.getElem?_eq_some_iff.mp e1
  obtain ⟨l2, q2⟩ := List.getElem?_eq_some_iff.mp e2
  exact (List.getElem_inj h.nodup).mp (q1.trans q2.symm)
theorem inv_get : (inv w)[c]? = some (bw w c) := by
  unfold inv
  rw [List.getElem?_map, h.len, List.getElem?_range hc]
  rfl
end
theorem inv_len (w : List Nat) : (inv w).length = w.length := by unfold inv; rw [List.length_map, List.length_range]

/-! letters by their codes: f 102, m 109, s 115, d 100, p 112, b 98, z 122; a sex: man = true -/
def IsL (l : Nat) : Prop := l = 102 ∨ l = 109 ∨ l = 115 ∨ l = 100 ∨ l = 112 ∨ l = 98 ∨ l = 122
instance (l : Nat) : Decidable (IsL l) := by unfold IsL; infer_instance
def stS (m : Bool) (l : Nat) : Bool := if l = 112 then !m else (l == 102 || l == 115 || l == 98)
def stC (w h : List Nat) (m : Bool) (c : Nat) (l : Nat) : Nat :=
  if l = 102 then bw h c else if l = 109 then fw w (bw h c) else if l = 112 then (if m then fw w c else bw w c)
  else if l = 115 ∨ l = 100 then fw h (if m then c else bw w c) else c
def step (w h : List Nat) (s : Bool × Nat) (l : Nat) : Bool × Nat := (stS s.1 l, stC w h s.1 s.2 l)
def led (w h : List Nat) (s : Bool × Nat) (ls : List Nat) : Bool × Nat := ls.foldl (step w h) s
def endS (m : Bool) (ls : List Nat) : Bool := ls.foldl stS m
theorem led_fst (w h : List Nat) : ∀ (ls : List Nat) (s : Bool × Nat), (led w h s ls).1 = endS s.1 ls
  | [], _ => rfl
  | l :: r, s => led_fst w h r (step w h s l)
theorem led_append (w h : List Nat) (s : Bool × Nat) (a b : List Nat) : led w h s (a ++ b) = led w h (led w h s a) b := List.foldl_append ..
section
variable {n : Nat} {w h : List Nat} (tw : IsTurn n w) (th : IsTurn n h)
include tw th
theorem stC_lt {m : Bool} {c l : Nat} (hc : c < n) : stC w h m c l < n := by
  unfold stC
  repeat' split
  · exact bw_lt th hc
  · exact fw_lt tw (bw_lt th hc)
  · exact fw_lt tw hc
  · exact bw_lt tw hc
  · exact fw_lt th hc
  · exact fw_lt th (bw_lt tw hc)
  · exact hc
theorem led_lt : ∀ (ls : List Nat) (s : Bool × Nat), s.2 < n → (led w h s ls).2 < n
  | [], _, hc => hc
  | l :: r, s, hc => led_lt r (step w h s l) (stC_lt tw th hc)
/-- the letter that leads back to a person of the sex ahead -/
def bkL (m : Bool) (l : Nat) : Nat :=
  if l = 102 ∨ l = 109 then (if m then 115 else 100) else if l = 115 ∨ l = 100 then (if m then 102 else 109) else if l = 112 then 112 else (if m then 98 else 122)
omit tw th in
theorem bkL_isL (m : Bool) (l : Nat) : IsL (bkL m l) := by
  unfold bkL IsL
  cases m <;> (repeat' split) <;> simp_all
theorem step_back {m : Bool} {c l : Nat} (hl : IsL l) (hc : c < n) : step w h (step w h (m, c) l) (bkL m l) = (m, c) := by
  have b1 := bw_lt th hc
  have b2 := bw_lt tw hc
  rcases hl with rfl | rfl | rfl | rfl | rfl | rfl | rfl <;> cases m <;>
    simp [step, stS, stC, bkL, fw_bw th hc, fw_bw tw hc, bw_fw tw hc, bw_fw th hc, bw_fw tw b1, fw_bw th b1, bw_fw th b2, fw_bw tw b2]
/-- its way back -/
def back (m : Bool) : List Nat → List Nat
  | [] => []
  | l :: r => back (stS m l) r ++ [bkL m l]
omit tw th in
theorem back_isL : ∀ (ls : List Nat) (m : Bool), ∀ x ∈ back m ls, IsL x
  | [], _, x, hx => by cases hx
  | l :: r, m, x, hx => by
    rcases List.mem_append.mp hx with q | q
    · exact back_isL r _ x q
    · rw [List.mem_singleton.mp q]; exact bkL_isL m l
omit tw th in
theorem back_len : ∀ (ls : List Nat) (m : Bool), (back m ls).length = ls.length
  | [], _ => rfl
  | l :: r, m => by
    show (back (stS m l) r ++ [bkL m l]).length = _
    rw [List.length_append, back_len r, List.length_singleton, List.length_cons]
theorem led_back : ∀ (ls : List Nat) (s : Bool × Nat), (∀ x ∈ ls, IsL x) → s.2 < n → led w h (led w h s ls) (back s.1 ls) = s
  | [], _, _, _ => rfl
  | l :: r, s, hl, hc => by
    have e : led w h s (l :: r) = led w h (step w h s l) r := rfl
    have ih := led_back r (step w h s l) (fun x hx => hl x (List.mem_cons_of_mem _ hx)) (stC_lt tw th hc)
    show led w h (led w h s (l :: r)) (back (stS s.1 l) r ++ [bkL s.1 l]) = s
    rw [led_append, e]
    have ih' : led w h (led w h (step w h s l) r) (back (stS s.1 l) r) = step w h s l := ih
    rw [ih']
    exact step_back tw th (hl l List.mem_cons_self) hc
end
/-- the turn of a walk -/
def turnOf (n : Nat) (w h : List Nat) (m : Bool) (ls : List Nat) : List Nat := (List.range n).map fun c => (led w h (m, c) ls).2
theorem turnOf_inj {n : Nat} {w h : List Nat} (tw : IsTurn n w) (th : IsTurn n h) {m : Bool} {ls : List Nat} (hl : ∀ x ∈ ls, IsL x) {a b : Nat} (ha : a < n) (hb : b < n) (e : (led w h (m, a) ls).2 = (led w h (m, b) ls).2) : a = b := by
  have h1 := led_back tw th ls (m, a) hl ha
  have h2 := led_back tw th ls (m, b) hl hb
  have q : led w h (m, a) ls = led w h (m, b) ls := by
    have f : (led w h (m, a) ls).1 = (led w h (m, b) ls).1 := by rw [led_fst, led_fst]
    cases h3 : led w h (m, a) ls; cases h4 : led w h (m, b) ls
    rw [h3, h4] at e f
    simp only at e f
    rw [e, f]
  rw [q] at h1
  have h1' : led w h (led w h (m, b) ls) (back m ls) = (m, a) := h1
  have h2' : led w h (led w h (m, b) ls) (back m ls) = (m, b) := h2
  rw [h1'] at h2'
  injection h2'
theorem nodup_len : ∀ (n : Nat) (l : List Nat), l.Nodup → (∀ x ∈ l, x < n) → l.length ≤ n
  | 0, [], _, _ => Nat.le_refl _
  | 0, x :: r, _, h => absurd (h x List.mem_cons_self) (Nat.not_lt_zero _)
  | n + 1, l, nd, h => by
    have ih := nodup_len n (l.erase n) (nd.erase n) fun x hx => by
      obtain ⟨h1, h2⟩ := (List.Nodup.mem_erase_iff nd).mp hx
      have := h x h2
      omega
    have := List.length_erase (a := n) (l := l)
    split at this <;> omega
/-- a list of n different numbers below n is a turn -/
theorem isTurn_of {n : Nat} {l : List Nat} (hl : l.length = n) (hnd : l.Nodup) (hlt : ∀ x ∈ l, x < n) : IsTurn n l := by
  refine List.perm_iff_count.mpr fun a => ?_
  by_cases ha : a < n
  · have hm : a ∈ l := by
      refine Classical.byContradiction fun hn => ?_
      have := nodup_len n (a :: l) (List.nodup_cons.mpr ⟨hn, hnd⟩) fun x hx => by
        rcases List.mem_cons.mp hx with rfl | hx
        · exact ha
        · exact hlt x hx
      rw [List.length_cons, hl] at this
      omega
    rw [hnd.count, List.nodup_range.count, if_pos hm, if_pos (List.mem_range.mpr ha)]
  · rw [hnd.count, List.nodup_range.count, if_neg fun hm => ha (hlt a hm), if_neg fun hm => ha (List.mem_range.mp hm)]
theorem turnOf_isTurn {n : Nat} {w h : List Nat} (tw : IsTurn n w) (th : IsTurn n h) {m : Bool} {ls : List Nat} (hl : ∀ x ∈ ls, IsL x) : IsTurn n (turnOf n w h m ls) := by
  refine isTurn_of (by unfold turnOf; rw [List.length_map, List.length_range]) ?_ fun x hx => ?_
  · unfold turnOf
    refine List.pairwise_map.mpr ?_
    exact List.Pairwise.imp_of_mem (fun {a b} ha hb hab e => hab (turnOf_inj tw th hl (List.mem_range.mp ha) (List.mem_range.mp hb) e)) (List.nodup_range (n := n))
  · unfold turnOf at hx
    obtain ⟨c, hc, rfl⟩ := List.mem_map.mp hx
    exact led_lt tw th ls _ (List.mem_range.mp hc)
/-- a turn loses one that is taken out and put elsewhere: what the drawing keeps -/
theorem isTurn_nil_app {n : Nat} {out : List Nat} (h : ([] ++ out).Perm (List.range n)) : IsTurn n out := h
theorem erase_perm : ∀ (l : List Nat) (k x : Nat), l[k]? = some x → (x :: l.eraseIdx k).Perm l
  | [], k, x, h => by simp at h
  | a :: r, 0, x, h => by simp at h; subst h; exact List.Perm.refl _
  | a :: r, k + 1, x, h => by
    have ih := erase_perm r k x (by simpa using h)
    rw [List.eraseIdx_cons_succ]
    exact (List.Perm.swap a x _).trans (List.Perm.cons a ih)
theorem perm_pick {rest out : List Nat} {n k x : Nat} (h : (rest ++ out).Perm (List.range n)) (hk : rest[k]? = some x) : (rest.eraseIdx k ++ (out ++ [x])).Perm (List.range n) := by
  refine List.Perm.trans ?_ h
  have e1 : (x :: rest.eraseIdx k).Perm rest := erase_perm rest k x hk
  have e2 : (rest.eraseIdx k ++ (out ++ [x])).Perm (rest.eraseIdx k ++ (x :: out)) := List.Perm.append_left _ (List.perm_append_singleton x out)
  refine e2.trans ?_
  have e3 : (rest.eraseIdx k ++ x :: out).Perm (x :: (rest.eraseIdx k ++ out)) := List.perm_middle
  refine e3.trans ?_
  exact List.Perm.append_right out e1
/-- a rising list of different numbers below n, all of them, is the list of them -/
theorem sorted_unique : ∀ {a b : List Int}, a.Perm b → a.Pairwise (· ≤ ·) → b.Pairwise (· ≤ ·) → a = b := fun {a b} h ha hb => by
  exact List.Perm.eq_of_pairwise (fun x y _ _ h1 h2 => Int.le_antisymm h1 h2) ha hb h
def intL (w : List Nat) : List Int := w.map fun (k : Nat) => (k : Int)
theorem intL_len (w : List Nat) : (intL w).length = w.length := by unfold intL; rw [List.length_map]
theorem range_sorted (n : Nat) : (intL (List.range n)).Pairwise (· ≤ ·) := by
  unfold intL
  refine List.pairwise_map.mpr ?_
  exact List.Pairwise.imp (fun {a b} (h : a < b) => by omega) List.pairwise_lt_range
end Kin

namespace Kin
theorem endS_cons (m : Bool) (a : Nat) (r : List Nat) : endS m (a :: r) = endS (stS m a) r := rfl
theorem back_eq : ∀ (l : List Nat) (m : Bool), back m l = (List.range l.length).map fun j => bkL (endS m (l.take (l.length - 1 - j))) (l.getD (l.length - 1 - j) 0)
  | [], _ => rfl
  | a :: r, m => by
    show back (stS m a) r ++ [bkL m a] = _
    rw [back_eq r (stS m a), List.length_cons, List.range_succ, List.map_append]
    congr 1
    · refine List.map_congr_left fun j hj => ?_
      have hj' : j < r.length := List.mem_range.mp hj
      have e : r.length + 1 - 1 - j = (r.length - 1 - j) + 1 := by omega
      rw [e, List.take_succ_cons, endS_cons, List.getD_cons_succ]
    · show [bkL m a] = [bkL (endS m ((a :: r).take (r.length + 1 - 1 - r.length))) ((a :: r).getD (r.length + 1 - 1 - r.length) 0)]
      have e : r.length + 1 - 1 - r.length = 0 := by omega
      rw [e]
      rfl
theorem endS_take {m : Bool} {l : List Nat} {i x : Nat} (hi : l[i]? = some x) : endS m (l.take (i + 1)) = stS (endS m (l.take i)) x := by
  rw [List.take_add_one, hi]
  show List.foldl stS m (l.take i ++ [x]) = _
  rw [List.foldl_append]
  rfl
end Kin

/-! COMPREHENSIONS: [elt for x in iter], no tests, one clause; no exception leaves the block. -/
namespace L2
open PySem PySem.Spec PyProof.Rows

/-- the context of a comprehension's block -/
abbrev blk (X : Cx) (N : List Str) (scope : Scope) (cl : List (Str × Addr)) (s₀ : Shared) (H₀ : Hp) (ex : List Addr) (E : Value → Shared → Prop) : Cx :=
  { X with N := N, s₀ := s₀, H₀ := H₀, env := compEnvC scope cl s₀.heap.objs.size X.env, outer := X.stack, stack := X.stack, ex := ex, fn := fun _ => false, pn := [], xe := E }
/-- the outer names that the block reads: each with its slot outside -/
def FreeOk (X : Cx) (scope : Scope) (cl : List (Str × Addr)) : List (Str × Nat) → Prop
  | [] => True
  | p :: r => (X.N[p.2]? = some p.1 ∧ (X.env.kindOf p.1 = some .cell ∨ X.env.kindOf p.1 = some .free) ∧ ((relabel scope X.env).names.lookup p.1 = some .cell ∨ (relabel scope X.env).names.lookup p.1 = some .free) ∧ cl.lookup p.1 = X.env.cells.lookup p.1) ∧ FreeOk X scope cl r
structure CompOk (X : Cx) (x : Str) (fv : List (Str × Nat)) (scope : Scope) (cl : List (Str × Addr)) : Prop where
  clos : closureFor scope X.env = pure cl
  nocell : ∀ y ∈ scope.names, y.2 ≠ .cell
  kind : scope.kind = .function
  names : ∀ y ∈ scope.names, y.2 = .local → scope.names.lookup y.1 = some .local
  here : scope.names.lookup x = some .local
  nd : (x :: fv.map (·.1)).Nodup
  free : FreeOk X scope cl fv
  cls : cl.map (·.1) = (fv.map (·.1)).reverse
  fr : ((relabel scope X.env).names.filter fun p => p.2 == .cell || p.2 == .free).map (·.1) = fv.map (·.1)
section
variable {X : Cx} {x : Str} {fv : List (Str × Nat)} {scope : Scope} {cl : List (Str × Addr)}
theorem FreeOk.mem : ∀ {fv : List (Str × Nat)}, FreeOk X scope cl fv → ∀ y, y ∈ fv.map (·.1) → (X.env.kindOf y = some .cell ∨ X.env.kindOf y = some .free) ∧ cl.lookup y = X.env.cells.lookup y
  | [], _, y, h => by simp at h
  | p :: r, f, y, h => by
    rw [List.map_cons] at h
    rcases List.mem_cons.mp h with e | h
    · subst e; exact ⟨f.1.2.1, f.1.2.2.2⟩
    · exact FreeOk.mem f.2 y h
theorem FreeOk.at : ∀ {fv : List (Str × Nat)}, FreeOk X scope cl fv → ∀ (i : Nat) y, (fv.map (·.1))[i]? = some y → ∃ j, fv[i]? = some (y, j) ∧ X.N[j]? = some y ∧ (X.env.kindOf y = some .cell ∨ X.env.kindOf y = some .free) ∧
    ((relabel scope X.env).names.lookup y = some .cell ∨ (relabel scope X.env).names.lookup y = some .free) ∧ cl.lookup y = X.env.cells.lookup y
  | [], _, i, y, h => by simp at h
  | p :: r, f, 0, y, h => by
    simp at h; subst h
    exact ⟨p.2, rfl, f.1⟩
  | p :: r, f, i + 1, y, h => by
    obtain ⟨j, h1, h2⟩ := FreeOk.at f.2 i y (by simpa using h)
    exact ⟨j, by simpa using h1, h2⟩
theorem mem_of_lk : ∀ {l : List (Str × Addr)} {y : Str} {c : Addr}, l.lookup y = some c → y ∈ l.map (·.1) := fun {l y c} h => List.mem_map.mpr ⟨(y, c), PySem.mem_of_lookup h, rfl⟩
theorem CompOk.sub (ok : CompOk X x fv scope cl) {y : Str} {c : Addr} (h : cl.lookup y = some c) : X.env.cells.lookup y = some c := by
  have m : y ∈ fv.map (·.1) := by
    have := mem_of_lk h
    rw [ok.cls] at this
    exact List.mem_reverse.mp this
  rw [← (ok.free.mem y m).2]; exact h
theorem CompOk.has (ok : CompOk X x fv scope cl) (hx : X.Ok) {y : Str} (h : (relabel scope X.env).names.lookup y = some .cell ∨ (relabel scope X.env).names.lookup y = some .free) : ∃ c, cl.lookup y = some c := by
  have m : y ∈ fv.map (·.1) := by
    rw [← ok.fr]
    rcases h with h | h
    · exact List.mem_map.mpr ⟨(y, .cell), List.mem_filter.mpr ⟨PySem.mem_of_lookup h, rfl⟩, rfl⟩
    · exact List.mem_map.mpr ⟨(y, .free), List.mem_filter.mpr ⟨PySem.mem_of_lookup h, rfl⟩, rfl⟩
  obtain ⟨k, e⟩ := ok.free.mem y m
  rw [e]
  exact hx.has y k
variable {pins : List (Addr × Obj)} {σ : St} {H : Hp} {s : Shared} {fp : List Addr} {E : Value → Shared → Prop} {N : List Str}
theorem blk_ok (I : Inv X pins σ H s) (ok : CompOk X x fv scope cl) (hf : ∀ b ∈ fp, FpOk X pins H b) (ho : ∀ b ∈ fp, b < s.heap.objs.size) : (blk X N scope cl s H fp E).Ok where
  mod := I.ok.mod
  kind := ok.kind
  glob := I.ok.glob
  blt := I.ok.blt
  above := Nat.le_refl _
  inj := fun y z c h1 h2 => I.ok.inj y z c (ok.sub h1) (ok.sub h2)
  has := fun y hy => ok.has I.ok hy
  cab := fun _ _ h => by cases h
  hd := I.ok.hd
  frames := I.ok.frames
  stk := .inl rfl
  exf := fun b hb => ⟨Nat.ne_of_lt (ho b hb), fun y c h => (hf b hb).2.2.2.2.1 y c (ok.sub h)⟩
  bs := fun b o e => I.bs b o e
  bsz := Nat.le_trans I.ok.bsz I.sz
  noex := fun b o e hb => by
    rcases (hf b hb).2.2.2.1 with h4 | h4
    · exact I.ok.noex b o e h4
    · exact absurd (Nat.lt_of_lt_of_le (Heap.lt_size e) (Nat.le_trans I.ok.bsz h4)) (Nat.lt_irrefl _)
  exfs := fun b hb z => by
    rcases List.mem_cons.mp (I.stkSub b z) with e | e
    · exact (hf b hb).2.1 e
    · exact (hf b hb).2.2.1 e
  funs := I.stack
  frf := I.stkFree
/-- the block's names at its start -/
def blkS (fv : List (Str × Nat)) (σ : St) (o : Option V) : St := o :: fv.map fun p => (σ[p.2]?).join
theorem blkS_set (fv : List (Str × Nat)) (σ : St) (o : Option V) (v : V) : (blkS fv σ o).set 0 (some v) = blkS fv σ (some v) := rfl
theorem blk_start (I : Inv X pins σ H s) (ok : CompOk X x fv scope cl) (hf : ∀ b ∈ fp, FpOk X pins H b) (ho : ∀ b ∈ fp, b < s.heap.objs.size) {h₁ : Heap} {m₁ : Str → Option Value} (hn : h₁.Ns s.heap.objs.size m₁)
    (hk : ∀ b o, s.heap.get? b = some o → h₁.get? b = some o) (tk : Nat) : Inv (blk X (x :: fv.map (·.1)) scope cl s H fp E) [] (blkS fv σ none) H { s with heap := h₁, toks := tk } := by
  refine ⟨blk_ok I ok hf ho, rfl, I.bare, Un.kept hk, ⟨m₁, hn, fun i y v h1 h2 h3 => ?_⟩, fun y c h => ?_, I.hok.fresh (Nat.le_refl _), fun y c h => I.freeC y c (ok.sub h), fun p hp => ?_, I.hok.kept hk, ?_⟩
  · cases i with
    | zero =>
      have h2' : (none : Option V) = some v := by simpa [blkS] using h2
      cases h2'
    | succ i =>
      have h1' : (fv.map (·.1))[i]? = some y := by simpa using h1
      obtain ⟨j, e1, e2, k1, k2, e3⟩ := ok.free.at i y h1'
      have h2' : (σ[j]?).join = some v := by
        have q : (fv.map fun p => (σ[p.2]?).join)[i]? = some (some v) := by simpa [blkS] using h2
        rw [List.getElem?_map, e1] at q
        exact Option.some.inj q
      have h2'' : σ[j]? = some (some v) := by
        cases e : σ[j]? with
        | none => rw [e] at h2'; cases h2'
        | some o => rw [e] at h2'; exact congrArg some h2'
      obtain ⟨m, _, hl⟩ := I.loc
      obtain ⟨u, r, l⟩ := hl j y v e2 h2'' (by
        rcases k1 with k | k
        · exact .inr (.inl k)
        · exact .inr (.inr k))
      refine ⟨u, r, .inr ⟨k2, ?_⟩⟩
      rcases l with ⟨k, _⟩ | ⟨_, c, ec, o, z1, z2⟩
      · rcases k1 with k' | k' <;> (rw [k] at k'; cases k')
      · exact ⟨c, e3.trans ec, o, hk _ _ z1, z2⟩
  · obtain ⟨v, o, z1, z2⟩ := I.cell y c (ok.sub h)
    exact ⟨v, o, hk _ _ z1, z2⟩
  · exact absurd (show p ∈ ([] : List (Addr × Obj)) from hp) (by simp)
  · show (blkS fv σ none).length = _
    simp [blkS]
end
section
variable {prog : Program} {w : World} {A : Around} {R : Result → Shared → Prop} {s : Shared}
theorem codeAny_compLoop_L {elt target iter : Expr} {scope : Scope} {pos : Pos} {it acc : Value} {env : Env} (I : Nat → Shared → Prop)
    (turn : ∀ n s, I n s → wpAny (model prog w) A (pyNext it) (fun r s₁ => match r with
      | none => R (.ok .next) s₁
      | some v => wpAny (model prog w) A (letOwnedTupleGo target it v) (fun _ s₂ => wpAny (model prog w) A (assign target env v) (fun _ s₂ => wpAny (model prog w) A (eval elt env) (fun x s₃ =>
          wpAny (model prog w) A (call (.builtin "list.append") [acc, x]) (fun _ s₄ => ∃ m, m < n ∧ I m s₄) (notedBy (model prog w) A env fun e s' => R (.error e) s') s₃)
          (notedBy (model prog w) A env fun e s' => R (.error e) s') s₂) (notedBy (model prog w) A env fun e s' => R (.error e) s') s₂) (notedBy (model prog w) A env fun e s' => R (.error e) s') s₁) (notedBy (model prog w) A env fun e s' => R (.error e) s') s)
    (n : Nat) (h : I n s) :
    codeAny (model prog w) A (.compLoop (.ListComp elt [⟨target, iter, [], 0⟩] scope pos) 0 it acc env) R s := by
  refine codeAny_loop rfl I (fun n s hI => ?_) n h
  show wpAny _ _ ((compTurn (.ListComp elt [⟨target, iter, [], 0⟩] scope pos) 0 it acc env).onRaise (fun x => do noteFrame x env; theTreesLotGoes x)) _ _ s
  refine wpAny_noted ?_
  rw [compTurn_list1]
  refine wpAny_bind (wpAny_standAt (wpAny_bind (wpAny_mono (turn n s hI) (fun r s₁ h₁ => ?_) fun _ _ h' => h')))
  cases r with
  | none => exact wpAny_pure h₁
  | some v =>
    refine wpAny_bind (wpAny_mono h₁ (fun _ s₂ h₂ => ?_) fun _ _ h' => h')
    exact wpAny_bind (wpAny_mono h₂ (fun _ s₂ h₂ => wpAny_bind (wpAny_bind (wpAny_mono h₂ (fun x s₃ h₃ => wpAny_bind (wpAny_mono h₃
      (fun _ s₄ h₄ => wpAny_pure (wpAny_pure ⟨rfl, h₄⟩)) fun _ _ h' => h')) fun _ _ h' => h'))) fun _ _ h' => h')
end
/-- what is wanted of a comprehension over the iterator J: W the invariant by the turn, a measure, the items so far -/
abbrev TEB := Shared → Hp → List Addr → TE
def tCompJ (fv : List (Str × Nat)) (te : TEB) (σ : St) (J : It) (H1 : Hp) (Q : VK) : Prop :=
  ∀ D, H1 D = none → ∃ W : Nat → Nat → List V → Hp → Prop, (∃ m, W 0 m [] (upd H1 D (.lst []))) ∧
    ∀ i m ys H, W i m ys H → H D = some (.lst ys) ∧ ((J.stop i H ∧ Q (.ref D) H) ∨ (J.go i H ∧ ys.length < sizeLine ∧ ∀ x H', J.yld i H x H' →
      ∀ s₀ H₀ ex, te s₀ H₀ ex (blkS fv σ (some x)) H' fun v H2 => H2 D = some (.lst ys) ∧ ∃ m', m' < m ∧ W (i + 1) m' (ys ++ [v]) (upd H2 D (.lst (ys ++ [v])))))
def tComp (wi : TI) (fv : List (Str × Nat)) (te : TEB) : TE := fun σ H Q => wi σ H fun J H1 => tCompJ fv te σ J H1 Q
section
variable {X : Cx} {x : Str} {fv : List (Str × Nat)} {scope : Scope} {cl : List (Str × Addr)} {pins : List (Addr × Obj)} {σ : St} {px pos : Pos} {iter elt : Expr} {te : TEB}
abbrev NoX : Value → Shared → Prop := fun _ _ => False
theorem comp_block {s2 : Shared} {H2 : Hp} {it : Addr} {fp : List Addr} {tn : Nat → Heap → Prop} {J : It} (ok : CompOk X x fv scope cl) (hc : X.calm = true)
    (he : ∀ s₀ H₀ ex, PE (blk X (x :: fv.map (·.1)) scope cl s₀ H₀ ex NoX) elt (te s₀ H₀ ex)) (I2 : Inv X pins σ H2 s2) (T : Turn X.prog X.w X.K (.Name x px) J fp it tn) (st2 : tn 0 s2.heap) (f2 : ∀ b ∈ fp, FpOk X pins H2 b)
    {Qv : VK} (hQ : tCompJ fv te σ J H2 Qv) {RR : Value → Addr → Result → Shared → Prop}
    (hRR : ∀ D C m' H' s', Inv X pins σ H' s' → s'.heap.Ns C m' → FpOk X pins H' C → Qv (.ref D) H' → RR (.ref D) C (.ok .next) s') :
    wpAny (model X.prog X.w) X.A (newList []) (fun acc s₃ => wpAny (model X.prog X.w) X.A (newFunctionEnv scope X.env.globals cl [] X.env.qual none .none (some X.env)) (fun cenv s₄ =>
      codeAny (model X.prog X.w) X.A (.compStart (.ListComp elt [⟨.Name x px, iter, [], 0⟩] scope pos) 0 (.ref it) acc { cenv with scope := relabel scope X.env }) (RR acc cenv.locals) s₄) X.xe s₃) X.xe s2 := by
  refine wpAny_newObj_type (wpAny_newFunctionEnv ok.nocell (by intro y hy; simp at hy) (fun h₁ hns₁ hsb₁ => ?_) ok.kind)
  dsimp only at hns₁ hsb₁ ⊢
  have I3 : Inv X pins σ (upd H2 s2.heap.objs.size (.lst [])) { s2 with heap := s2.heap.push { cls := .type "list", dict := none, data := .seq ([] : List Value).toArray } } :=
    I2.laid (t' := s2.toks) (fun b o e => Heap.get?_push_of_some _ e) (Nat.le_refl _) ⟨Nat.zero_le _, [], 0, .nil, Heap.get?_push_size _ rfl⟩
  have hD : H2 s2.heap.objs.size = none := I2.hok.fresh (Nat.le_refl _)
  generalize hs3 : ({ s2 with heap := s2.heap.push { cls := .type "list", dict := none, data := .seq ([] : List Value).toArray } } : Shared) = s3 at I3
  have eh : s2.heap.push { cls := .type "list", dict := none, data := .seq ([] : List Value).toArray } = s3.heap := by rw [← hs3]
  rw [eh] at hns₁ hsb₁ ⊢
  have fl : ∀ b ∈ fp, b < s2.heap.objs.size := fun b hb => by
    obtain ⟨o, e, _⟩ := T.obj _ _ st2 b hb
    exact Heap.lt_size e
  have sz3 : s3.heap.objs.size = s2.heap.objs.size + 1 := by rw [← eh, Heap.size_push]
  have f3 : ∀ b ∈ fp, FpOk X pins (upd H2 s2.heap.objs.size (.lst [])) b := fun b hb => ⟨by rw [upd_ne (Nat.ne_of_lt (fl b hb))]; exact (f2 b hb).1, (f2 b hb).2⟩
  have fl3 : ∀ b ∈ fp, b < s3.heap.objs.size := fun b hb => by rw [sz3]; exact Nat.lt_succ_of_lt (fl b hb)
  have old3 : ∀ b o, s3.heap.get? b = some o → h₁.get? b = some o := fun b o e => hsb₁.extBut b o (Nat.ne_of_lt (Heap.lt_size e)) (Heap.get?_push_of_some _ e)
  have old2 : ∀ b o, s2.heap.get? b = some o → h₁.get? b = some o := fun b o e => old3 b o (by rw [← eh]; exact Heap.get?_push_of_some _ e)
  have st1 : tn 0 h₁ := T.keep _ _ _ st2 fun b _ o e => old2 b o e
  have IY := blk_start (E := NoX) I3 ok f3 fl3 hns₁ old3 (s3.toks + ([] : List (Str × Value)).length)
  obtain ⟨W, ⟨m0, w0⟩, turn⟩ := hQ s2.heap.objs.size hD
  have loop : ∀ s4 : Shared, s4 = { s3 with heap := h₁, toks := s3.toks + ([] : List (Str × Value)).length } →
      codeAny (model X.prog X.w) X.A (.compLoop (.ListComp elt [⟨.Name x px, iter, [], 0⟩] scope pos) 0 (.ref it) (.ref s2.heap.objs.size) (compEnvC scope cl s3.heap.objs.size X.env)) (RR (.ref s2.heap.objs.size) s3.heap.objs.size) s4 := by
    rintro s4 rfl
    have stat : ∀ {H' : Hp}, (∀ b ∈ fp, H' b = none) → ∀ b ∈ fp, FpOk (blk X (x :: fv.map (·.1)) scope cl s3 (upd H2 s2.heap.objs.size (.lst [])) fp NoX) [] H' b := fun hn b hb =>
      ⟨hn b hb, Nat.ne_of_lt (fl3 b hb), fun z => by
        rcases List.mem_cons.mp (I3.stkSub b z) with e | e
        · exact (f2 b hb).2.1 e
        · exact (f2 b hb).2.2.1 e, .inl hb, fun y c h => (f2 b hb).2.2.2.2.1 y c (ok.sub h), fun p hp => absurd (show p ∈ ([] : List (Addr × Obj)) from hp) (by simp)⟩
    refine codeAny_compLoop_L (fun n s' => ∃ i o H' ys, Inv (blk X (x :: fv.map (·.1)) scope cl s3 (upd H2 s2.heap.objs.size (.lst [])) fp NoX) [] (blkS fv σ o) H' s' ∧ tn i s'.heap ∧ (∀ b ∈ fp, H' b = none) ∧ W i n ys H') ?_ m0
      ⟨0, none, _, [], IY, st1, fun b hb => (f3 b hb).1, w0⟩
    rintro n s5 ⟨i, o, H5, ys, I5, st5, fr5, w5⟩
    obtain ⟨hD5, w5⟩ := turn i n ys H5 w5
    rcases w5 with ⟨stop, qn⟩ | ⟨go, hsz, step⟩
    · refine wpAny_mono (T.done (blk X (x :: fv.map (·.1)) scope cl s3 (upd H2 s2.heap.objs.size (.lst [])) fp NoX) rfl rfl rfl hc i [] s5 _ H5 NoX I5 (stat fr5) st5 stop) (fun r s6 ⟨hr, I6⟩ => ?_) fun _ _ z => z.elim
      subst hr
      obtain ⟨m', hm', _⟩ := I6.loc
      have I7 : Inv X pins σ H5 s6 := I3.call' (ch := fp) (by rw [I6.os]) I6.base I6.hok I6.bare fun b hb => ⟨(f2 b hb).2.2.2.1, (f2 b hb).2.1, (f2 b hb).2.2.2.2.1, (f2 b hb).2.2.2.2.2⟩
      exact hRR _ _ m' H5 s6 I7 hm' (I3.fpOk (Nat.le_refl _) I6.free) qn
    · refine wpAny_mono (T.item (blk X (x :: fv.map (·.1)) scope cl s3 (upd H2 s2.heap.objs.size (.lst [])) fp NoX) rfl rfl rfl hc i [] s5 _ H5 NoX I5 (stat fr5) st5 go) (fun r s6 ⟨u, hr, h6⟩ => ?_) fun _ _ z => z.elim
      subst hr
      refine wpAny_mono h6 (fun _ s7 ⟨v, H7, I7, r7, y7, st7, fr7⟩ => ?_) fun _ _ z => z.elim
      have I7' := I7.pinned (stat fr7) (T.obj _ _ st7)
      have hx : Loc (blk X (x :: fv.map (·.1)) scope cl s3 (upd H2 s2.heap.objs.size (.lst [])) fp NoX).env.scope x := .inl (lookup_relabel_local ok.here)
      refine wpAny_assign_Name (store_ok (X := blk X (x :: fv.map (·.1)) scope cl s3 (upd H2 s2.heap.objs.size (.lst [])) fp NoX) (i := 0) I7' ok.nd rfl hx r7 (fun s8 I8 => ?_) (.inr (lookup_relabel_local ok.here)))
      refine wpAny_mono (he s3 _ fp _ s8 (blkS fv σ (some v)) H7 _ I8 (step v H7 y7 _ _ _)) (fun u9 s9 ⟨v9, H9, I9, r9, hD9, m', hm', w9⟩ => ?_) fun _ _ z => z.elim
      refine wpAny_mono (mt_append (X := blk X (x :: fv.map (·.1)) scope cl s3 (upd H2 s2.heap.objs.size (.lst [])) fp NoX) _ s9 _ H9 (.ref s2.heap.objs.size) [v9] (.ref s2.heap.objs.size) [u9]
        (fun _ H10 => H10 = upd H9 s2.heap.objs.size (.lst (ys ++ [v9]))) I9 rfl (.cons r9 .nil) ⟨_, ys, v9, rfl, rfl, hD9, hsz, rfl⟩) (fun _ s10 ⟨_, H10, I10, _, e10⟩ => ?_) fun _ _ z => z.elim
      subst e10
      refine ⟨m', hm', i + 1, some v, _, ys ++ [v9], I10.unpinned, T.keep _ _ _ st7 fun b hb o e => (I10.pin (b, o) (List.mem_append_right _ (List.mem_append_right _ (mem_pinsAt hb e)))).1, fun b hb => ?_, w9⟩
      obtain ⟨o, e, d⟩ := T.obj _ _ st7 b hb
      exact (I10.pin (b, o) (List.mem_append_right _ (List.mem_append_right _ (mem_pinsAt hb e)))).2.1
  exact codeAny_compStart_list (loop _ (by rw [← hs3])) (T.self _ 0 _ _ _ st1 (loop _ (by rw [← hs3])))
/-- [elt for x in iter] as a value -/
theorem pe_comp {wi : TI} (ok : CompOk X x fv scope cl) (hc : X.calm = true) (hi : PI X (.Name x px) iter wi) (he : ∀ s₀ H₀ ex, PE (blk X (x :: fv.map (·.1)) scope cl s₀ H₀ ex NoX) elt (te s₀ H₀ ex))
    (hs : ∀ v, foldedSetIterable iter X.env v = pure v := by intro _; rfl) : PE X (.ListComp elt [⟨.Name x px, iter, [], 0⟩] scope pos) (tComp wi fv te) := by
  intro pins s σ H Q I h
  rw [eval_ListComp]
  refine wpAny_comprehension_free (use := none) rfl hs ok.clos ok.kind ok.names (thn (hi pins s σ H _ I h) fun v s1 h1 => thn h1 fun itv s2 h2 => ?_)
  obtain ⟨it, fp, tn, J, H2, rfl, I2, T, st2, f2, hQ⟩ := h2
  refine comp_block (RR := fun acc C => compPost (model X.prog X.w) X.A X.xe none (EP X pins σ Q) acc C) ok hc he I2 T st2 f2 hQ ?_
  intro D C m' H' s' I' hn fC q
  exact ⟨m', hn, fun h' hs' => ⟨.ref D, H', I'.turned (t' := s'.toks) (fun b o hb e => hs'.extBut b o hb e) fC.1 fC.2.1 fC.2.2.2.1 fC.2.2.2.2.1 fC.2.2.2.2.2, rfl, q⟩⟩
/-- y = [elt for x in iter], stored within the block -/
theorem ps_setComp {wi : TI} {i : Nat} {y : Str} {py spos : Pos} (hN : X.N.Nodup) (hiy : X.N[i]? = some y) (hy : Loc X.env.scope y) (ok : CompOk X x fv scope cl) (hc : X.calm = true) (hi : PI X (.Name x px) iter wi) (he : ∀ s₀ H₀ ex, PE (blk X (x :: fv.map (·.1)) scope cl s₀ H₀ ex NoX) elt (te s₀ H₀ ex))
    (hsw : swapsWith (.ListComp elt [⟨.Name x px, iter, [], 0⟩] scope pos) (some (.Name y py)) spos.line X.env = pure true := by rfl)
    (hs : ∀ v, foldedSetIterable iter X.env v = pure v := by intro _; rfl) (hf : X.fn y = true ∨ X.env.scope.names.lookup y = some .local := by first | exact .inl rfl | exact .inr rfl | assumption) :
    PS X (.Assign [.Name y py] (.ListComp elt [⟨.Name x px, iter, [], 0⟩] scope pos) spos) (tAsg (tComp wi fv te) (gName i)) := by
  intro pins s σ H D I h
  rw [exec_Assign_Name_used _ _ _ _ hsw]
  refine wpAny_bind (wpAny_standAt (wpAny_bind ?_))
  show wpAny _ _ (do let _ ← comprehension (.ListComp elt [⟨.Name x px, iter, [], 0⟩] scope pos) scope X.env _ (newList []) false (eval iter X.env) (some (assign (.Name y py) X.env))) _ _ s
  refine wpAny_bind (wpAny_mono (wpAny_comprehension_free (use := some (assign (.Name y py) X.env)) (Q := fun _ s' => SP X pins D .next s') rfl hs ok.clos ok.kind ok.names
    (thn (hi pins s σ H _ I h) fun v s1 h1 => thn h1 fun itv s2 h2 => ?_)) (fun _ s' hq => wpAny_pure (wpAny_pure hq)) fun _ _ e => e)
  obtain ⟨it, fp, tn, J, H2, rfl, I2, T, st2, f2, hQ⟩ := h2
  refine comp_block (RR := fun acc C => compPost (model X.prog X.w) X.A X.xe (some (assign (.Name y py) X.env)) (fun _ s' => SP X pins D .next s') acc C) ok hc he I2 T st2 f2 hQ ?_
  intro D' C m' H' s' I' hn fC q
  show wpAny _ _ (assign (.Name y py) X.env (.ref D')) _ _ _
  refine wpAny_assign_Name (store_ok2 (v := .ref D') I' hN hiy hy rfl (fun s'' I'' hab => ?_) hf)
  obtain ⟨a, hsb, ha⟩ := hab
  have haC : C ≠ a := by
    rcases ha with e | e
    · rw [e]; exact fC.2.1
    · exact (fC.2.2.2.2.1 y a e).symm
  exact ⟨m', hn.sameBut hsb haC, fun h' hs' => ⟨_, H', I''.turned (t' := s''.toks) (fun b o hb e => hs'.extBut b o hb e) fC.1 fC.2.1 fC.2.2.2.1 fC.2.2.2.2.1 fC.2.2.2.2.2, q⟩⟩
/-- over a range, when the elements only lay new things: the i-th element is f i -/
theorem comp_range {lo : Int} {n : Nat} {H1 : Hp} {Q : VK} (f : Nat → V) (hn : n ≤ sizeLine)
    (el : ∀ (i : Nat) (H' : Hp) (R : VK), i < n → Same H1 H' → (∀ H2, Same H' H2 → R (f i) H2) → ∀ s₀ H₀ ex, te s₀ H₀ ex (blkS fv σ (some (.int (lo + i)))) H' R)
    (fin : ∀ D H2, H1 D = none → Same H1 H2 → H2 D = some (.lst ((List.range n).map f)) → Q (.ref D) H2) : tCompJ fv te σ (Itr lo n) H1 Q := by
  intro D hD
  have sd : ∀ {H2 : Hp} {o : HO}, Same H1 H2 → Same H1 (upd H2 D o) := fun {H2 o} s b u e => by
    rw [upd_ne (ne_of_none e hD)]; exact s b u e
  refine ⟨fun i m ys H => m = n - i ∧ i ≤ n ∧ ys = (List.range i).map f ∧ Same H1 H ∧ H D = some (.lst ys), ⟨n, by simp, Nat.zero_le _, rfl, sd (Same.refl H1), upd_same⟩, ?_⟩
  rintro i m ys H ⟨rfl, hi, rfl, sm, hDi⟩
  refine ⟨hDi, ?_⟩
  by_cases hlt : i < n
  · refine .inr ⟨hlt, by simpa using Nat.lt_of_lt_of_le hlt hn, fun x H' y => ?_⟩
    obtain ⟨e, y⟩ := y
    subst e y
    refine fun s₀ H₀ ex => el i _ _ hlt sm (fun H2 s2 => ⟨s2 D _ hDi, n - (i + 1), by omega, rfl, hlt, ?_, sd (sm.trans s2), upd_same⟩) s₀ H₀ ex
    rw [List.range_succ, List.map_append]
    rfl
  · have e : i = n := by omega
    subst e
    exact .inl ⟨Nat.le_refl _, fin D H hD sm hDi⟩
/-- over a list that stays -/
theorem comp_list {K : PySem.W.Frag} {a : Addr} {xs : List V} {H1 : Hp} {Q : VK} (f : Nat → V) (hq : SqL K H1 a xs) (hn : xs.length ≤ sizeLine)
    (el : ∀ (i : Nat) (x : V) (H' : Hp) (R : VK), xs[i]? = some x → Same H1 H' → (∀ H2, Same H' H2 → R (f i) H2) → ∀ s₀ H₀ ex, te s₀ H₀ ex (blkS fv σ (some x)) H' R)
    (fin : ∀ D H2, H1 D = none → Same H1 H2 → H2 D = some (.lst ((List.range xs.length).map f)) → Q (.ref D) H2) : tCompJ fv te σ (Itl K a) H1 Q := by
  intro D hD
  have sd : ∀ {H2 : Hp} {o : HO}, Same H1 H2 → Same H1 (upd H2 D o) := fun {H2 o} s b u e => by
    rw [upd_ne (ne_of_none e hD)]; exact s b u e
  refine ⟨fun i m ys H => m = xs.length - i ∧ i ≤ xs.length ∧ ys = (List.range i).map f ∧ Same H1 H ∧ H D = some (.lst ys), ⟨xs.length, by simp, Nat.zero_le _, rfl, sd (Same.refl H1), upd_same⟩, ?_⟩
  rintro i m ys H ⟨rfl, hi, rfl, sm, hDi⟩
  refine ⟨hDi, ?_⟩
  have hqi := sm.seq hq
  by_cases hlt : i < xs.length
  · refine .inr ⟨⟨xs, xs[i], hqi, by simp [hlt]⟩, by simpa using Nat.lt_of_lt_of_le hlt hn, fun x H' y => ?_⟩
    obtain ⟨e, y⟩ := y
    subst e
    refine fun s₀ H₀ ex => el i x _ _ (y xs hqi) sm (fun H2 s2 => ⟨s2 D _ hDi, xs.length - (i + 1), by omega, rfl, hlt, ?_, sd (sm.trans s2), upd_same⟩) s₀ H₀ ex
    rw [List.range_succ, List.map_append]
    rfl
  · have e : i = xs.length := by omega
    subst e
    exact .inl ⟨⟨xs, hqi, Nat.le_refl _⟩, fin D H hD sm hDi⟩
end
end L2

/-! MORE BUILT-INS: sorted, ranges as objects, list(range), index, isinstance, == and != of flat lists and tuples, texts walked and cut, range downwards. -/
namespace L2
open PySem PySem.Spec PyProof.Rows

theorem vals_of_get : ∀ {xs : List V} {us : List Value}, xs.length = us.length → (∀ (i : Nat) x u, xs[i]? = some x → us[i]? = some u → RelV x u) → Vals xs us
  | [], [], _, _ => .nil
  | [], _ :: _, h, _ => by simp at h
  | _ :: _, [], h, _ => by simp at h
  | x :: xs, u :: us, h, f => .cons (f 0 x u rfl rfl) (vals_of_get (by simpa using h) fun i y v h1 h2 => f (i + 1) y v (by simpa using h1) (by simpa using h2))
section
variable {X : Cx} {pos p : Pos} {a b c : Expr} {ta : TA}
/-- sorted(xs) of fewer than 64 intL -/
theorem call_sorted : CallR X (.builtin "sorted") (fun xs H Q => ∃ (p : Addr) (ns : List Int), xs = [.ref p] ∧ SqL X.K H p (ns.map V.int) ∧ ns.length < 64 ∧ ∀ (l : Addr) (ns' : List Int), H l = none → ns'.Perm ns → ns'.Pairwise (· ≤ ·) → Q (.ref l) (upd H l (.lst (ns'.map V.int)))) := by
  intro pins s σ H xs us Q I r h
  obtain ⟨p, ns, rfl, hq, hl, q⟩ := h
  obtain ⟨u, rfl, rx⟩ := vals1 r
  cases rx
  obtain ⟨its, r', pl, hz⟩ := I.list hq
  have hi : IntsAre its ns := intsAre_of r'
  have hlen := r'.length
  rw [List.length_map] at hlen hz
  refine sorted_ints pl.isList hi (by omega) fun out ns' a1 a2 a3 => ?_
  obtain ⟨e, he⟩ := sortedAll_at s.heap its out
  have fresh : H (s.heap.objs.size + 1) = none := I.hok.fresh (Nat.le_succ _)
  refine ⟨.ref (s.heap.objs.size + 1), _, I.laid (t' := s.toks) (o := .lst (ns'.map V.int)) (fun b o e => sortedAll_old e) (Nat.le_succ _) ?_, rfl, q _ ns' fresh a2 a3⟩
  exact ⟨by rw [List.length_map, a2.length_eq]; exact hz, out.toList, e, vals_ints a1, by simpa using he⟩
/-- range(j) as an object -/
def tRng1 (ta : TA) : TE := fun σ H Q => ta σ H fun vs H1 => ∃ j : Int, vs = [.int j] ∧ ∀ p, H1 p = none → Q (.ref p) (upd H1 p (.rng 0 j))
theorem pe_rng1 (hg : Gl X "range") (hm : X.mg "range" = none) (ha : PA X [a] ta) (hs : starEach [a] X.env = [(false, eval a X.env)] := by rfl) : PE X (.Call (.Name "range" p) [a] [] pos) (tRng1 ta) := by
  intro pins s σ H Q I h
  refine Call_ (ld_blt I hg hm boot_range (PyProof.Rows.callWith_type1 (thn (ha pos pins s σ H _ I h) fun us s1 ⟨vs, H1, I1, r1, q1⟩ => ?_) hs rfl))
  obtain ⟨j, e, q⟩ := q1
  subst e
  cases r1 with
  | cons r rr =>
    cases rr
    obtain ⟨t, rfl⟩ := r
    exact call_range_1 ⟨.ref s1.heap.objs.size, _, I1.laid (o := .rng 0 j) (fun b o e => Heap.get?_push_of_some _ e) (Nat.le_refl _) ⟨_, _, _, Heap.get?_push_size _ rfl⟩, rfl, q _ (I1.hok.fresh (Nat.le_refl _))⟩
def rngV (lo hi : Int) : List V := (List.range (hi - lo).toNat).map fun i => V.int (lo + (i : Nat))
/-- list(range object) -/
theorem call_list_rng (hc : X.calm = true) : CallR X (.type "list") (fun xs H Q => ∃ p lo hi, xs = [.ref p] ∧ H p = some (.rng lo hi) ∧ -(2 ^ 62) ≤ lo ∧ lo < 2 ^ 62 ∧ -(2 ^ 62) ≤ hi ∧ hi < 2 ^ 62 ∧ (hi - lo).toNat ≤ 1000 ∧ ∀ l, H l = none → Q (.ref l) (upd H l (.lst (rngV lo hi)))) := by
  intro pins s σ H xs us Q I r h
  obtain ⟨p, lo, hi, rfl, hp, h1, h2, h3, h4, h5, q⟩ := h
  obtain ⟨u, rfl, rx⟩ := vals1 r
  cases rx
  obtain ⟨t, u, v, e⟩ := I.hok p _ hp
  have hn : Builtin.Range.rangeSize lo hi 1 = (((hi - lo).toNat : Nat) : Int) := by rw [rangeSize_one]; split <;> omega
  refine call_list_range (I.ok.hd hc) e (small_one h1 h2 h3 h4) hn (Nat.le_trans h5 (by decide)) fun h' tk acc' c' hk hS' hacc => ?_
  refine ⟨.ref s.heap.objs.size, _, I.laid (t' := tk) (o := .lst (rngV lo hi)) hk (Nat.le_refl _) ?_, rfl, q _ (I.hok.fresh (Nat.le_refl _))⟩
  have hlen : (rngV lo hi).length = (hi - lo).toNat := by unfold rngV; rw [List.length_map, List.length_range]
  refine ⟨by rw [hlen]; exact Nat.le_trans h5 (by decide), acc'.toList, c', vals_of_get (by rw [hlen, Array.length_toList]; exact hacc.1.symm) fun i x w e1 e2 => ?_, by simpa using hS'⟩
  obtain ⟨tk', ew⟩ := hacc.2 i w (by simpa using e2)
  have hi' : i < (hi - lo).toNat := by rw [← hlen]; exact (List.getElem?_eq_some_iff.mp e1).1
  have ex : x = V.int (lo + (i : Nat)) := by
    unfold rngV at e1
    rw [List.getElem?_map, List.getElem?_range hi'] at e1
    exact (Option.some.inj e1).symm
  subst ex
  exact ⟨tk', by rw [ew, Int.mul_one]⟩
/-- xs.index(k) of a list of intL, there -/
def rIndex (K : PySem.W.Frag) : V → List V → Hp → VK → Prop := fun x vs H Q => ∃ (l : Addr) (ns : List Int) (k : Int), x = .ref l ∧ vs = [.int k] ∧ SqL K H l (ns.map V.int) ∧ k ∈ ns ∧ Q (.int (ns.idxOf k : Nat)) H
theorem mt_index : MtR X "list.index" (rIndex X.K) := by
  intro pins s σ H x vs v us Q I rx rv h
  obtain ⟨l, ns, k, rfl, rfl, hq, hk, q⟩ := h
  cases rx
  obtain ⟨u, rfl, t, rfl⟩ := rv.one
  obtain ⟨its, r', pl, hz⟩ := I.list hq
  have hi : IntsAre its ns := intsAre_of r'
  have hlen := r'.length
  rw [List.length_map] at hlen hz
  have hn := line63
  have hl := pl.isList
  obtain ⟨⟨cls, dd, data, sl⟩, ho, hc, n, hd⟩ := id hl
  simp only at hc hd
  subst hc hd
  have hj : ns.idxOf k < ns.length := List.idxOf_lt_length_iff.mpr hk
  refine call_meets PySem.F.slot_list_index ⟨_, ho, rfl⟩ PySem.F.entry_list_index (PySem.F.args_list_index_2 _ _)
    (SeqAt.list_indexAt l its.toArray n dd sl (.int k t) (isInt k) (ns.idxOf k) (by rw [List.size_toArray, ← hlen]; exact hj) (by omega) ?_ ?_) ⟨ho, fun y hy => (eq_isInt k t hi y (by simpa using hy)).at _ _, ⟨.int (ns.idxOf k : Nat), H, I.tok _, ⟨_, rfl⟩, q⟩⟩
  · show isInt k its[ns.idxOf k] = true
    rw [isInt_at k hi _ (by omega) hj]
    simpa using List.getElem_idxOf hj
  · intro j hjs hlt
    show isInt k its[j] = false
    rw [isInt_at k hi j (by simpa using hjs) (by rw [hlen]; simpa using hjs)]
    exact ne_of_lt_idxOf hlt _
/-- isinstance(x, T), T a built-in type by its name -/
theorem call_isinst : CallR X (.builtin "isinstance") (fun xs H Q => ∃ x T t b, xs = [x, .ty T] ∧ TyOf X.K H x t ∧ PySem.W.kitOne X.K t (.type T) = some b ∧ Q (.bl b) H) := by
  intro pins s σ H xs us Q I r h
  obtain ⟨x, T, t, b, rfl, ty, e, q⟩ := h
  obtain ⟨u, w', rfl, r1, r2⟩ := vals2 r
  cases (show w' = Value.type T from r2)
  exact isinst_ok I r1 ty e fun tk => ⟨.bl b, H, I.tok tk, rfl, q⟩
end

/-! ### == of flat lists and tuples -/
def eqVs : List V → List V → Bool
  | [], [] => true
  | x :: xs, y :: ys => eqV x y && eqVs xs ys
  | _, _ => false
def eAt (xs ys : List V) (j : Nat) : Bool := match xs[j]?, ys[j]? with
  | some x, some y => eqV x y
  | _, _ => false
theorem eAt_all : ∀ {xs ys : List V}, xs.length = ys.length → (List.range xs.length).all (eAt xs ys) = eqVs xs ys
  | [], [], _ => rfl
  | [], _ :: _, h => by simp at h
  | _ :: _, [], h => by simp at h
  | x :: xs, y :: ys, h => by
    have h' : xs.length = ys.length := by simpa using h
    rw [List.length_cons, List.range_succ_eq_map, List.all_cons, List.all_map]
    show (eqV x y && (List.range xs.length).all (eAt xs ys)) = _
    rw [eAt_all h']
    rfl
theorem eqVs_len : ∀ {xs ys : List V}, xs.length ≠ ys.length → eqVs xs ys = false
  | [], [], h => absurd rfl h
  | [], _ :: _, _ => rfl
  | _ :: _, [], _ => rfl
  | x :: xs, y :: ys, h => by
    show (eqV x y && eqVs xs ys) = false
    rw [eqVs_len (xs := xs) (ys := ys) (by simpa using h), Bool.and_false]
theorem eqVs_intL : ∀ (a b : List Int), eqVs (a.map V.int) (b.map V.int) = decide (a = b)
  | [], [] => rfl
  | [], _ :: _ => rfl
  | _ :: _, [] => rfl
  | x :: a, y :: b => by
    show ((x == y) && eqVs (a.map V.int) (b.map V.int)) = _
    rw [eqVs_intL a b]
    by_cases h1 : x = y <;> by_cases h2 : a = b <;> simp [h1, h2]
theorem all_get {p : V → Bool} {xs : List V} {i : Nat} {x : V} (h : xs.all p = true) (e : xs[i]? = some x) : p x = true := List.all_eq_true.mp h x (List.mem_of_getElem? e)
theorem eAt_at {A : Around} {s : Shared} {xs ys : List V} {us ws : List Value} (r1 : Vals xs us) (r2 : Vals ys ws) (f1 : xs.all flatV = true) (f2 : ys.all flatV = true) (j : Nat) (h1 : j < us.toArray.size) (h2 : j < ws.toArray.size) :
    SeqAt.EqAt A s us.toArray[j] ws.toArray[j] (eAt xs ys j) := by
  have l1 := r1.length
  have l2 := r2.length
  rw [List.size_toArray] at h1 h2
  have e1 : xs[j]? = some xs[j] := by simp
  have e2 : ys[j]? = some ys[j] := by simp
  obtain ⟨u, eu, ru⟩ := r1.get e1
  obtain ⟨w, ew, rw'⟩ := r2.get e2
  have q1 : us.toArray[j] = u := by
    have : us[j] = u := by rw [List.getElem?_eq_getElem h1] at eu; exact Option.some.inj eu
    simpa using this
  have q2 : ws.toArray[j] = w := by
    have : ws[j] = w := by rw [List.getElem?_eq_getElem h2] at ew; exact Option.some.inj ew
    simpa using this
  have q3 : eAt xs ys j = eqV xs[j] ys[j] := by unfold eAt; rw [e1, e2]
  rw [q1, q2, q3]
  exact eqAt_V ru rw' (all_get f1 e1) (all_get f2 e2)
section
variable {X : Cx}
def rEqL (K : PySem.W.Frag) (neg : Bool) : R2 := fun x y H Q => ∃ a b xs ys, x = .ref a ∧ y = .ref b ∧ SqL K H a xs ∧ SqL K H b ys ∧ xs.all flatV = true ∧ ys.all flatV = true ∧ Q (.bl (if neg then !eqVs xs ys else eqVs xs ys)) H
def rEqT (K : PySem.W.Frag) (neg : Bool) : R2 := fun x y H Q => ∃ a b xs ys, x = .ref a ∧ y = .ref b ∧ SqT K H a xs ∧ SqT K H b ys ∧ xs.all flatV = true ∧ ys.all flatV = true ∧ Q (.bl (if neg then !eqVs xs ys else eqVs xs ys)) H
theorem op_eqL (hu : X.A.units < cLine) : OpR X (compareOp .Eq) (rEqL X.K false) := by
  intro pins s σ H x y v u Q I rx ry h
  obtain ⟨a, b, xs, ys, rfl, rfl, h1, h2, f1, f2, q⟩ := h
  cases rx
  cases ry
  obtain ⟨us, r1, p1, _⟩ := I.list h1
  obtain ⟨ws, r2, p2, _⟩ := I.list h2
  have l1 := r1.length
  have l2 := r2.length
  by_cases e : xs.length = ys.length
  · refine SeqAt.eq_listAt (e := eAt xs ys) p1.isList p2.isList (by simp only [List.size_toArray] <;> omega) hu (fun j k1 k2 => eAt_at r1 r2 f1 f2 j k1 k2) ⟨.bl _, H, I, ?_, q⟩
    rw [List.size_toArray, ← l1, eAt_all e]
    rfl
  · refine SeqAt.eq_list_lengthsAt p1.isList p2.isList (by simp only [List.size_toArray, bne_iff_ne, ne_eq] <;> omega) hu ⟨.bl _, H, I, ?_, q⟩
    rw [eqVs_len e]
    rfl
theorem op_neL (hu : X.A.units < cLine) : OpR X (compareOp .NotEq) (rEqL X.K true) := by
  intro pins s σ H x y v u Q I rx ry h
  obtain ⟨a, b, xs, ys, rfl, rfl, h1, h2, f1, f2, q⟩ := h
  cases rx
  cases ry
  obtain ⟨us, r1, p1, _⟩ := I.list h1
  obtain ⟨ws, r2, p2, _⟩ := I.list h2
  have l1 := r1.length
  have l2 := r2.length
  by_cases e : xs.length = ys.length
  · refine SeqAt.RcNeAt.lists (e := eAt xs ys) p1.isList p2.isList (by simp only [List.size_toArray] <;> omega) hu (fun j k1 k2 => eAt_at r1 r2 f1 f2 j k1 k2) _ _ _ _ ⟨.bl _, H, I, ?_, q⟩
    rw [List.size_toArray, ← l1, eAt_all e]
    rfl
  · refine SeqAt.RcNeAt.lists_lengths p1.isList p2.isList (by simp only [List.size_toArray, bne_iff_ne, ne_eq] <;> omega) hu _ _ _ _ ⟨.bl _, H, I, ?_, q⟩
    rw [eqVs_len e]
    rfl
theorem eAt_allT {xs ys : List V} : ((List.range (min xs.length ys.length)).all (eAt xs ys) && (xs.length == ys.length)) = eqVs xs ys := by
  by_cases e : xs.length = ys.length
  · rw [← e, Nat.min_self, eAt_all e, beq_self_eq_true, Bool.and_true]
  · rw [eqVs_len e, beq_false_of_ne e, Bool.and_false]
theorem op_eqT (hu : X.A.units < cLine) : OpR X (compareOp .Eq) (rEqT X.K false) := by
  intro pins s σ H x y v u Q I rx ry h
  obtain ⟨a, b, xs, ys, rfl, rfl, h1, h2, f1, f2, q⟩ := h
  cases rx
  cases ry
  obtain ⟨us, r1, p1, _⟩ := I.tuple h1
  obtain ⟨ws, r2, p2, _⟩ := I.tuple h2
  have l1 := r1.length
  have l2 := r2.length
  refine SeqAt.eq_tupleAt (e := eAt xs ys) p1 p2 hu (fun j k1 k2 => eAt_at r1 r2 f1 f2 j k1 k2) ⟨.bl _, H, I, ?_, q⟩
  rw [List.size_toArray, List.size_toArray, ← l1, ← l2, eAt_allT]
  rfl
theorem op_neT (hu : X.A.units < cLine) : OpR X (compareOp .NotEq) (rEqT X.K true) := by
  intro pins s σ H x y v u Q I rx ry h
  obtain ⟨a, b, xs, ys, rfl, rfl, h1, h2, f1, f2, q⟩ := h
  cases rx
  cases ry
  obtain ⟨us, r1, p1, _⟩ := I.tuple h1
  obtain ⟨ws, r2, p2, _⟩ := I.tuple h2
  have l1 := r1.length
  have l2 := r2.length
  refine SeqAt.RcNeAt.tuples (e := eAt xs ys) p1 p2 hu (fun j k1 k2 => eAt_at r1 r2 f1 f2 j k1 k2) _ _ _ _ ⟨.bl _, H, I, ?_, q⟩
  rw [List.size_toArray, List.size_toArray, ← l1, ← l2, eAt_allT]
  rfl
end

/-! ### a text, sign by sign -/
def Its (x : Str) : It := ⟨fun i _ => i < x.cps.size, fun i H v H' => H' = H ∧ ∃ c, x.cps[i]? = some c ∧ v = .str ⟨#[c]⟩, fun i _ => i = x.cps.size⟩
theorem turn_strA {P : Program} {w : World} {K : PySem.W.Frag} {tg : Expr} (x : Str) (t : Tok) (it : Addr) : Turn P w K tg (Its x) [it] it (fun i h => h.IsStrIter it "str_ascii_iterator" x t i) where
  mem := by simp
  obj := fun i h st b hb => by
    have e : b = it := by simpa using hb
    subst e
    obtain ⟨o, ho, hc, hd⟩ := st
    exact ⟨o, ho, fun v z => by rw [hd] at z; cases z⟩
  keep := fun i h h' st k => let ⟨o, ho, r⟩ := st; ⟨o, k it (by simp) o ho, r⟩
  item := by
    intro X hP hw hK hc i pins s σ H E I hf st hg
    subst hP hw hK
    obtain ⟨f0, f1, f2, f3, f4, f5⟩ := hf it (by simp)
    refine (Walks.strAscii (prog := X.prog) (w := X.w) (I.ok.hd hc) it x t).item i s _ _ hg st fun v h' tk hv st' kk => ?_
    obtain ⟨c, u, hcx, rfl⟩ := hv
    have I1 : Inv X pins σ H { s with heap := h', toks := tk } := I.turned (fun b o hb e => kk b o (by simpa using hb) e) f0 f1 f3 f4 f5
    obtain ⟨o, ho, hcl, hd⟩ := id st'
    exact ⟨_, rfl, go_of (s := { s with heap := h', toks := tk }) (n := "str_ascii_iterator") ho hcl hd (by decide) ⟨.str ⟨#[c]⟩, H, I1, ⟨u, rfl⟩, ⟨rfl, c, hcx, rfl⟩, st', fun b hb => (hf b hb).1⟩⟩
  done := by
    intro X hP hw hK hc i pins s σ H E I hf st hg
    subst hP hw hK
    obtain ⟨f0, f1, f2, f3, f4, f5⟩ := hf it (by simp)
    have hg' : i = x.cps.size := hg
    subst hg'
    exact (Walks.strAscii (prog := X.prog) (w := X.w) (I.ok.hd hc) it x t).done s _ _ st fun h' tk kk => ⟨rfl, I.turned (t' := tk) (fun b o hb e => kk b o (by simpa using hb) e) f0 f1 f3 f4 f5⟩
  self := fun _ _ _ _ _ st h => wpAny_pyIter_striter_ascii st h
theorem turn_strW {P : Program} {w : World} {K : PySem.W.Frag} {tg : Expr} (x : Str) (t : Tok) (it : Addr) : Turn P w K tg (Its x) [it] it (fun i h => h.IsStrIter it "str_iterator" x t i) where
  mem := by simp
  obj := fun i h st b hb => by
    have e : b = it := by simpa using hb
    subst e
    obtain ⟨o, ho, hc, hd⟩ := st
    exact ⟨o, ho, fun v z => by rw [hd] at z; cases z⟩
  keep := fun i h h' st k => let ⟨o, ho, r⟩ := st; ⟨o, k it (by simp) o ho, r⟩
  item := by
    intro X hP hw hK hc i pins s σ H E I hf st hg
    subst hP hw hK
    obtain ⟨f0, f1, f2, f3, f4, f5⟩ := hf it (by simp)
    refine (Walks.strWide (prog := X.prog) (w := X.w) (I.ok.hd hc) it x t).item i s _ _ hg st fun v h' tk hv st' kk => ?_
    obtain ⟨c, u, hcx, rfl⟩ := hv
    have I1 : Inv X pins σ H { s with heap := h', toks := tk } := I.turned (fun b o hb e => kk b o (by simpa using hb) e) f0 f1 f3 f4 f5
    obtain ⟨o, ho, hcl, hd⟩ := id st'
    exact ⟨_, rfl, go_of (s := { s with heap := h', toks := tk }) (n := "str_iterator") ho hcl hd (by decide) ⟨.str ⟨#[c]⟩, H, I1, ⟨u, rfl⟩, ⟨rfl, c, hcx, rfl⟩, st', fun b hb => (hf b hb).1⟩⟩
  done := by
    intro X hP hw hK hc i pins s σ H E I hf st hg
    subst hP hw hK
    obtain ⟨f0, f1, f2, f3, f4, f5⟩ := hf it (by simp)
    have hg' : i = x.cps.size := hg
    subst hg'
    exact (Walks.strWide (prog := X.prog) (w := X.w) (I.ok.hd hc) it x t).done s _ _ st fun h' tk kk => ⟨rfl, I.turned (t' := tk) (fun b o hb e => kk b o (by simpa using hb) e) f0 f1 f3 f4 f5⟩
  self := fun _ _ _ _ _ st h => wpAny_pyIter_striter_wide st h
section
variable {X : Cx} {tg : Expr}
def iStr (tl : TE) : TI := fun σ H R => tl σ H fun v H1 => ∃ x, v = .str x ∧ R (Its x) H1
theorem pi_str {l : Expr} {tl : TE} (hl : PE X l tl) : PI X tg l (iStr tl) := by
  intro pins s σ H R I h
  refine thn (hl pins s σ H _ I h) fun v s1 ⟨x, H1, I1, r1, q1⟩ => ?_
  obtain ⟨z, e, q⟩ := q1
  subst e
  obtain ⟨t, rfl⟩ := r1
  have fp : ∀ b ∈ [s1.heap.objs.size], FpOk X pins H1 b := fun b hb => by
    have e : b = s1.heap.objs.size := by simpa using hb
    subst e
    exact I1.fpOk (Nat.le_refl _) (I1.hok.fresh (Nat.le_refl _))
  cases ha : z.cps.all (· < 128)
  · refine wpAny_pyIter_wide ha ?_
    exact ⟨s1.heap.objs.size, [s1.heap.objs.size], _, _, H1, rfl, I1.kept (t' := s1.toks) fun b o e => Heap.get?_push_of_some _ e, turn_strW z t _, ⟨_, Heap.get?_push_size _ rfl, rfl, rfl⟩, fp, q⟩
  · refine wpAny_pyIter_ascii ha ?_
    exact ⟨s1.heap.objs.size, [s1.heap.objs.size], _, _, H1, rfl, I1.kept (t' := s1.toks) fun b o e => Heap.get?_push_of_some _ e, turn_strA z t _, ⟨_, Heap.get?_push_size _ rfl, rfl, rfl⟩, fp, q⟩
end
/-- a text from its codes -/
abbrev txt (l : List Nat) : Str := ⟨l.toArray⟩
abbrev sgn (c : Nat) : V := .str ⟨#[c]⟩
theorem for_str {l : List Nat} {g : TG} {tb : TS} {D : Ends} {σ : St} {H : Hp} (Pv : Nat → St → Hp → Prop) (h0 : Pv 0 σ H)
    (hs : ∀ i c σ H, l[i]? = some c → Pv i σ H → g (sgn c) σ H fun σ2 H2 => tb { D with nx := Pv (i + 1), ct := Pv (i + 1), bk := D.nx } σ2 H2) (hd : ∀ σ H, Pv l.length σ H → D.nx σ H) :
    ∃ W : Nat → Nat → St → Hp → Prop, (∃ m, W 0 m σ H) ∧ ∀ i m σ H, W i m σ H →
      ((Its (txt l)).stop i H ∧ D.nx σ H) ∨ ((Its (txt l)).go i H ∧ ∃ N : St → Hp → Prop, (∀ σ' H', N σ' H' → ∃ m', m' < m ∧ W (i + 1) m' σ' H') ∧ ∀ x H', (Its (txt l)).yld i H x H' → g x σ H' fun σ2 H2 => tb { D with nx := N, ct := N, bk := D.nx } σ2 H2) := by
  refine ⟨fun i m σ H => m = l.length - i ∧ i ≤ l.length ∧ Pv i σ H, ⟨l.length, by simp, Nat.zero_le _, h0⟩, ?_⟩
  rintro i m σ H ⟨rfl, hi, p⟩
  by_cases hlt : i < l.length
  · refine .inr ⟨by show i < l.toArray.size; simpa using hlt, Pv (i + 1), fun σ' H' p' => ⟨l.length - (i + 1), by omega, rfl, hlt, p'⟩, fun x H' y => ?_⟩
    obtain ⟨e, c, hc, y⟩ := y
    subst e y
    exact hs i c σ _ (by simpa using hc) p
  · have e : i = l.length := by omega
    subst e
    exact .inl ⟨by show l.length = l.toArray.size; simp, hd σ H p⟩

/-! ### slices of a text -/
section
variable {X : Cx}
def rSlS : V → Option Int → Option Int → Hp → VK → Prop := fun x lo hi H Q => ∃ z, x = .str z ∧ z.length ≤ sizeLine ∧ Q (.str (Txt.slice z lo hi)) H
theorem sl_str : SlR X rSlS := by
  intro pins s σ H x v vl vu lo hi sl Q I rx hs pl pu h
  obtain ⟨z, rfl, hz, q⟩ := h
  obtain ⟨t, rfl⟩ := rx
  have fin : ∀ t' k, EP X pins σ Q (.str (Txt.slice z lo hi) t') { s with toks := k } := fun t' k => ⟨.str _, H, I.tok _, ⟨t', rfl⟩, q⟩
  refine ⟨"str", _, F.slot_str_getitem.lookup, typeIs_str _ _ _, ?_⟩
  cases pl with
  | none =>
    cases pu with
    | none => exact wpAny_getItem_str_slice (l := none) (u := none) (st := none) hs rfl (post_val_or_str ⟨Nat.le_trans (Txt.slice_le z _ _) hz, fun t' k => fin t' k⟩)
    | int j tj => exact wpAny_getItem_str_slice (l := none) (u := some (j, tj)) (st := none) hs rfl (post_val_or_str ⟨Nat.le_trans (Txt.slice_le z _ _) hz, fun t' k => fin t' k⟩)
  | int i ti =>
    cases pu with
    | none => exact wpAny_getItem_str_slice (l := some (i, ti)) (u := none) (st := none) hs rfl (post_val_or_str ⟨Nat.le_trans (Txt.slice_le z _ _) hz, fun t' k => fin t' k⟩)
    | int j tj => exact wpAny_getItem_str_slice (l := some (i, ti)) (u := some (j, tj)) (st := none) hs rfl (post_val_or_str ⟨Nat.le_trans (Txt.slice_le z _ _) hz, fun t' k => fin t' k⟩)
end

/-! ### range(a, b, -1) -/
def Itd (hi : Int) (n : Nat) : It := ⟨fun i _ => i < n, fun i H x H' => H' = H ∧ x = .int (hi - i), fun i _ => i = n⟩
theorem turn_down {P : Program} {w : World} {K : PySem.W.Frag} {tg : Expr} (it : Addr) (hi : Int) (n : Nat) : Turn P w K tg (Itd hi n) [it] it (fun i h => IsRangeIter h it (hi + (i : Nat) * (-1)) ((n : Int) - (i : Nat)) (-1)) where
  mem := by simp
  obj := fun i h st b hb => by
    have e : b = it := by simpa using hb
    subst e
    exact ⟨_, st, fun v z => by
      have z' : Data.fields _ = Data.cell v := z
      cases z'⟩
  keep := fun i h h' st k => k it (by simp) _ st
  item := by
    intro X hP hw hK hc i pins s σ H E I hf st hg
    subst hP hw hK
    obtain ⟨f0, f1, f2, f3, f4, f5⟩ := hf it (by simp)
    refine (Walks.range (prog := X.prog) (w := X.w) (I.ok.hd hc) it hi (-1) n).item i s _ _ hg st fun v h' tk hv st' kk => ?_
    obtain ⟨t, rfl⟩ := hv
    have I1 : Inv X pins σ H { s with heap := h', toks := tk } := I.turned (fun b o hb e => kk b o (by simpa using hb) e) f0 f1 f3 f4 f5
    refine ⟨_, rfl, go_of (s := { s with heap := h', toks := tk }) (n := "range_iterator") st' rfl rfl (by decide) ⟨.int (hi - i), H, I1, ⟨t, ?_⟩, ⟨rfl, rfl⟩, st', fun b hb => (hf b hb).1⟩⟩
    have e : hi + (i : Nat) * (-1) = hi - (i : Nat) := by omega
    rw [e]
  done := by
    intro X hP hw hK hc i pins s σ H E I hf st hg
    subst hP hw hK
    obtain ⟨f0, f1, f2, f3, f4, f5⟩ := hf it (by simp)
    have hg' : i = n := hg
    subst hg'
    exact (Walks.range (prog := X.prog) (w := X.w) (I.ok.hd hc) it hi (-1) i).done s _ _ st fun h' tk kk => ⟨rfl, I.turned (t' := tk) (fun b o hb e => kk b o (by simpa using hb) e) f0 f1 f3 f4 f5⟩
  self := fun _ _ _ _ _ st h => wpAny_pyIter_rangeiter st h
theorem rangeSize_down (a b : Int) : Builtin.Range.rangeSize a b (-1) = if b < a then a - b else 0 := by
  unfold Builtin.Range.rangeSize
  simp only [show ¬ ((-1 : Int) > 0) by decide, if_false, Int.neg_neg, Int.ediv_one]
  split <;> omega
theorem small_down {a b : Int} (ha : -(2 ^ 62) ≤ a) (ha' : a < 2 ^ 62) (hb : -(2 ^ 62) ≤ b) (hb' : b < 2 ^ 62) : Builtin.Range.small a b (-1) = true := by
  unfold Builtin.Range.small
  rw [rangeSize_down]
  simp only [Builtin.Range.rangeFitsLong, Bool.and_eq_true, Bool.or_eq_true, decide_eq_true_eq, beq_iff_eq, show ¬ ((-1 : Int) > 0) by decide, if_false]
  split <;> omega
section
variable {X : Cx} {tg : Expr}
def iRngD (ta : TA) : TI := fun σ H R => ta σ H fun vs H1 => ∃ i j : Int, vs = [.int i, .int j, .int (-1)] ∧ (-(2 ^ 62) ≤ i ∧ i < 2 ^ 62 ∧ -(2 ^ 62) ≤ j ∧ j < 2 ^ 62) ∧ R (Itd i (i - j).toNat) H1
theorem pi_rangeD {a b c : Expr} {ta : TA} {p pos : Pos} (hg : Gl X "range") (hm : X.mg "range" = none) (ha : PA X [a, b, c] ta) (hs : starEach [a, b, c] X.env = [(false, eval a X.env), (false, eval b X.env), (false, eval c X.env)] := by rfl)
    (hs2 : starEach [b, c] X.env = [(false, eval b X.env), (false, eval c X.env)] := by rfl) : PI X tg (.Call (.Name "range" p) [a, b, c] [] pos) (iRngD ta) := by
  intro pins s σ H R I h
  refine Call_ (ld_blt I hg hm boot_range (PyProof.Rows.callWith_type1 (thn (ha pos pins s σ H _ I h) fun us s1 ⟨vs, H1, I1, r1, q1⟩ => ?_) (by rw [hs, hs2]) (by rw [hs2]; rfl)))
  obtain ⟨i, j, e, ⟨q1, q2, q3, q4⟩, q⟩ := q1
  subst e
  cases r1 with
  | cons r rr =>
    cases rr with
    | cons r' rr =>
      cases rr with
      | cons r'' rr =>
        cases rr
        obtain ⟨t, rfl⟩ := r
        obtain ⟨t', rfl⟩ := r'
        obtain ⟨t'', rfl⟩ := r''
        refine call_range_3 (by decide) ?_ (Or.inl (PyProof.noPylong_small (by decide)))
        refine wpAny_pyIter_range (IsRange.new ..) (small_down q1 q2 q3 q4) ?_
        have I2 : Inv X pins σ H1 { s1 with heap := s1.heap.push { cls := .type "range", data := .fields #[.int i t, .int j t', .int (-1) t''] }, toks := s1.toks } := I1.kept fun b o e => Heap.get?_push_of_some _ e
        refine ⟨(s1.heap.push { cls := .type "range", data := .fields #[.int i t, .int j t', .int (-1) t''] }).objs.size, [(s1.heap.push { cls := .type "range", data := .fields #[.int i t, .int j t', .int (-1) t''] }).objs.size], _, _, H1, rfl,
          I2.kept (t' := s1.toks) fun b o e => Heap.get?_push_of_some _ e, turn_down _ i (i - j).toNat, ?_, fun b hb => ?_, q⟩
        · have e1 : i + ((0 : Nat) : Int) * (-1) = i := by simp
          have e2 : (((i - j).toNat : Nat) : Int) - ((0 : Nat) : Int) = Builtin.Range.rangeSize i j (-1) := by rw [rangeSize_down]; split <;> omega
          show IsRangeIter _ _ (i + ((0 : Nat) : Int) * (-1)) ((((i - j).toNat : Nat) : Int) - ((0 : Nat) : Int)) (-1)
          rw [e1, e2]
          exact Heap.get?_push_size _ rfl
        · have e : b = (s1.heap.push { cls := .type "range", data := .fields #[.int i t, .int j t', .int (-1) t''] }).objs.size := by simpa using hb
          subst e
          exact I2.fpOk (Nat.le_refl _) (I2.hok.fresh (Nat.le_refl _))
end
theorem for_down {hi : Int} {n : Nat} {g : TG} {tb : TS} {D : Ends} {σ : St} {H : Hp} (Pv : Nat → St → Hp → Prop) (h0 : Pv 0 σ H)
    (hs : ∀ i σ H, i < n → Pv i σ H → g (.int (hi - i)) σ H fun σ2 H2 => tb { D with nx := Pv (i + 1), ct := Pv (i + 1), bk := D.nx } σ2 H2) (hd : ∀ σ H, Pv n σ H → D.nx σ H) :
    ∃ W : Nat → Nat → St → Hp → Prop, (∃ m, W 0 m σ H) ∧ ∀ i m σ H, W i m σ H →
      ((Itd hi n).stop i H ∧ D.nx σ H) ∨ ((Itd hi n).go i H ∧ ∃ N : St → Hp → Prop, (∀ σ' H', N σ' H' → ∃ m', m' < m ∧ W (i + 1) m' σ' H') ∧ ∀ x H', (Itd hi n).yld i H x H' → g x σ H' fun σ2 H2 => tb { D with nx := N, ct := N, bk := D.nx } σ2 H2) := by
  refine ⟨fun i m σ H => m = n - i ∧ i ≤ n ∧ Pv i σ H, ⟨n, by simp, Nat.zero_le _, h0⟩, ?_⟩
  rintro i m σ H ⟨rfl, hi, p⟩
  by_cases hlt : i < n
  · refine .inr ⟨hlt, Pv (i + 1), fun σ' H' p' => ⟨n - (i + 1), by omega, rfl, hlt, p'⟩, fun x H' y => ?_⟩
    obtain ⟨e, y⟩ := y
    subst e y
    exact hs i σ _ hlt p
  · have e : i = n := by omega
    subst e
    exact .inl ⟨rfl, hd σ H p⟩
end L2

namespace L2
open PySem PySem.Spec PyProof.Rows
theorem slice_run (l : List Nat) (i j : Nat) (hij : i ≤ j) (hj : j ≤ l.length) {lo hi : Option Int} (h : Builtin.Str.strSliceIndices lo hi 1 l.length = sliceRange (i : Int) (j : Int) 1) : Txt.slice (⟨l.toArray⟩ : Str) lo hi = ⟨((l.drop i).take (j - i)).toArray⟩ := by
  unfold Txt.slice
  have hl : (⟨l.toArray⟩ : Str).length = l.length := by show l.toArray.size = _; simp
  rw [hl, h, sliceRange_one]
  by_cases e : (((List.range (j - i)).map (i + ·)).length == l.length) = true
  · rw [if_pos (by rw [e]; rfl)]
    have e' := beq_iff_eq.mp e
    rw [List.length_map, List.length_range] at e'
    have hi0 : i = 0 := by omega
    have hjl : j = l.length := by omega
    subst hi0 hjl
    simp
  · rw [if_neg (by simpa using e)]
    congr 2
    exact pick_run l.toArray i (j - i)
theorem slice_take (l : List Nat) (k : Nat) (hk : k ≤ l.length) : Txt.slice (⟨l.toArray⟩ : Str) none (some (k : Int)) = ⟨(l.take k).toArray⟩ := by
  have h : Builtin.Str.strSliceIndices none (some (k : Int)) 1 l.length = sliceRange ((0 : Nat) : Int) (k : Int) 1 := by
    unfold Builtin.Str.strSliceIndices
    simp only [show (1 : Int) > 0 by decide, if_true]
    have e1 : ¬ ((k : Int) < 0) := by omega
    simp only [e1, if_false]
    congr 1
    omega
  rw [slice_run l 0 k (Nat.zero_le _) hk h]
  simp
theorem slice_drop (l : List Nat) (k : Nat) (hk : k ≤ l.length) : Txt.slice (⟨l.toArray⟩ : Str) (some (k : Int)) none = ⟨(l.drop k).toArray⟩ := by
  have h : Builtin.Str.strSliceIndices (some (k : Int)) none 1 l.length = sliceRange (k : Int) (l.length : Int) 1 := by
    unfold Builtin.Str.strSliceIndices
    simp only [show (1 : Int) > 0 by decide, if_true]
    have e1 : ¬ ((k : Int) < 0) := by omega
    simp only [e1, if_false]
    congr 1
    omega
  rw [slice_run l k l.length hk (Nat.le_refl _) h]
  congr 2
  exact List.take_of_length_le (by rw [List.length_drop]; exact Nat.le_refl _)
end L2

/-! DEFS IN ONE WORD: what a call of a def, a method, a class wants, as one hypothesis. -/
namespace L2
open PySem PySem.Spec PyProof.Rows
/-- no exception meets the wish that is False -/
structure NoE (CX : CXT) : Prop where
  no : ∀ outer H s e s', CX outer H s E0 e s' → False
theorem noE0 : NoE CX0 := ⟨fun _ _ _ _ _ h => h⟩
theorem NoE.pass {CX : CXT} (h : NoE CX) {X : Cx} : Passes CX X E0 := fun _ _ _ _ _ _ _ z => (h.no _ _ _ _ _ z).elim
section
variable {P : Program} {w : World} {K : PySem.W.Frag} {mg : Str → Option Value} {base : Heap} {CX : CXT}
/-- a def from whose body no exception comes -/
theorem Fun.okN {x qual : Str} {st : Stmt} {f : Addr} {fd : FuncData} {N ps : List Str} {k : Nat} {sp : Sp} (F : Fun K x qual st f fd) (S : FnScope N ps (defScope st)) (len : ∀ vs H Q E, sp vs H Q E → vs.length = ps.length)
    (hbody : ∀ (cdv : Value) (A : Around) (outer : List Env) (s : Shared) (H : Hp) (vs : List V) (Q : VK) (E : XK), Room k (A.deeper (envOfC qual (defScope st) s.heap.objs.size f cdv)) → sp vs H Q E →
      ∃ t, PSs (cxOf CX P w K mg base N qual (defScope st) f cdv A outer s H E).nox (defBody st) t ∧ t { nx := fun _ H' => Q .non H', rt := Q } (start N vs) H) : FnOk P w K mg base CX (k + 1) f fd ps sp := by
  obtain ⟨oc, od, kV, doc, pm, an, cdv, ct, osl, rfl, lk, hcd⟩ := F.ex
  refine fn_of lk hcd S len fun A outer s H vs Q E hr hsp => ?_
  obtain ⟨t, h, q⟩ := hbody cdv A outer s H vs Q E hr hsp
  exact ⟨t, h.nox, q⟩
structure Def (P : Program) (w : World) (K : PySem.W.Frag) (mg : Str → Option Value) (base : Heap) (CX : CXT) (x : Str) (k : Nat) (ps : List Str) (sp : Sp) : Prop where
  ex : ∃ (f : Addr) (fd : FuncData), mg x = some (.ref f) ∧ PySem.W.keepIn K (.ref f) = true ∧ Binds K fd ps [] ∧ FnOk P w K mg base CX k f fd ps sp
structure MDef (P : Program) (w : World) (K : PySem.W.Frag) (mg : Str → Option Value) (base : Heap) (CX : CXT) (C : Addr) (m : Str) (k : Nat) (ps : List Str) (sp : Sp) : Prop where
  ex : ∃ (f : Addr) (fd : FuncData), Meth K C m f ∧ Binds K fd ps [] ∧ FnOk P w K mg base CX k f fd ps sp
structure CDef (P : Program) (w : World) (K : PySem.W.Frag) (mg : Str → Option Value) (base : Heap) (CX : CXT) (x : Str) (C : Addr) (k : Nat) (ps : List Str) (sp : Sp) : Prop where
  ex : ∃ (f : Addr) (fd : FuncData), mg x = some (.ref C) ∧ Mk K C f ∧ Binds K fd ps [] ∧ FnOk P w K mg base CX k f fd ps sp
end
section
variable {X : Cx} {CX : CXT} {k j : Nat} {C : Addr} {ps : List Str} {sp : Sp} {x m : Str} {p pos apos : Pos} {e o : Expr} {es : List Expr} {ta : TE} {t : TA}
theorem pe_callD (D : Def X.prog X.w X.K X.mg X.base CX x k ps sp) (hE : NoE CX) (hr : Room j X.A) (hg : Gl X x) (ha : PA X (e :: es) t) (hj : k ≤ j := by decide) (hdb : (x == ("__debug__" : Str)) = false := by decide)
    (he : starEach (e :: es) X.env = (false, eval e X.env) :: starEach es X.env := by rfl) (hpl : (backTo pos (starEach es X.env)).any (·.1) = false := by rfl) : PE X (.Call (.Name x p) (e :: es) [] pos) (tCall sp [] E0 t) := by
  obtain ⟨f, fd, hm, hk, hb, F⟩ := D.ex
  exact pe_call F (hr.mono hj) hg hm hk hb .nil hE.pass ha hdb he hpl
theorem pe_callD0 (D : Def X.prog X.w X.K X.mg X.base CX x k ps sp) (hE : NoE CX) (hr : Room j X.A) (hg : Gl X x) (hj : k ≤ j := by decide) (hdb : (x == ("__debug__" : Str)) = false := by decide) : PE X (.Call (.Name x p) [] [] pos) (tCall sp [] E0 tNil) := by
  obtain ⟨f, fd, hm, hk, hb, F⟩ := D.ex
  exact pe_call0 F (hr.mono hj) hg hm hk hb .nil hE.pass hdb
theorem pe_methD {pl : Sem Bool} (he : PE X o ta) (c : Cls X.K C) (D : MDef X.prog X.w X.K X.mg X.base CX C m k ps sp) (hE : NoE CX) (hr : Room j X.A) (ha : PA X (e :: es) t) (hj : k ≤ j := by decide)
    (hst : starEach (e :: es) X.env = (false, eval e X.env) :: starEach es X.env := by rfl) (hpl : (backTo pos (starEach es X.env)).any (·.1) = false := by rfl)
    (ht : eval (.Call (.Attribute o m apos) (e :: es) [] pos) X.env = (do
      let ov ← eval o X.env
      standAt apos.atName
      let (f, first) ← holding [ov] (getMethod ov m pl)
      callWith pos f first (backTo pos (starEach (e :: es) X.env)) (backToKw pos (keywordEach [] X.env))) := by rfl) :
    PE X (.Call (.Attribute o m apos) (e :: es) [] pos) (tMeth C m sp [] E0 ta t) := by
  obtain ⟨f, fd, hm, hb, F⟩ := D.ex
  exact pe_meth he c hm F (hr.mono hj) hb .nil hE.pass ha hst hpl ht
theorem pe_methD0 {pl : Sem Bool} (he : PE X o ta) (c : Cls X.K C) (D : MDef X.prog X.w X.K X.mg X.base CX C m k ps sp) (hE : NoE CX) (hr : Room j X.A) (hj : k ≤ j := by decide)
    (ht : eval (.Call (.Attribute o m apos) [] [] pos) X.env = (do
      let ov ← eval o X.env
      standAt apos.atName
      let (f, first) ← holding [ov] (getMethod ov m pl)
      callWith pos f first (backTo pos (starEach [] X.env)) (backToKw pos (keywordEach [] X.env))) := by rfl) :
    PE X (.Call (.Attribute o m apos) [] [] pos) (tMeth C m sp [] E0 ta tNil) := by
  obtain ⟨f, fd, hm, hb, F⟩ := D.ex
  exact pe_meth0 he c hm F (hr.mono hj) hb .nil hE.pass ht
theorem pe_makeD (D : CDef X.prog X.w X.K X.mg X.base CX x C k ps sp) (hE : NoE CX) (hr : Room j X.A) (hg : Gl X x) (ha : PA X (e :: es) t) (hj : k + 1 ≤ j := by decide) (hdb : (x == ("__debug__" : Str)) = false := by decide)
    (he : starEach (e :: es) X.env = (false, eval e X.env) :: starEach es X.env := by rfl) (hpl : (backTo pos (starEach es X.env)).any (·.1) = false := by rfl) : PE X (.Call (.Name x p) (e :: es) [] pos) (tMake C sp [] E0 t) := by
  obtain ⟨f, fd, hm, M, hb, F⟩ := D.ex
  exact pe_make M F (hr.mono hj) hg hm hb .nil hE.pass ha hdb he hpl
/-- a constant of the module -/
theorem pe_globE {v : V} (hg : Gl X x) (h : ∃ u, X.mg x = some u ∧ RelV v u) (hd : (x == ("__debug__" : Str)) = false := by decide) : PE X (.Name x pos) (tC v) := by
  obtain ⟨u, hm, r⟩ := h
  exact pe_glob hg hm r hd
end
theorem iteD {c A B : Prop} [Decidable c] (hc : c) (h : A) : if decide c = true then A else B := by rw [if_pos (decide_eq_true hc)]; exact h
theorem iteDn {c A B : Prop} [Decidable c] (hc : ¬ c) (h : B) : if decide c = true then A else B := by rw [if_neg (by rw [decide_eq_false hc]; exact Bool.false_ne_true)]; exact h
theorem iteD2 {c A B : Prop} [Decidable c] (h1 : c → A) (h2 : ¬ c → B) : if decide c = true then A else B := by
  by_cases hc : c
  · exact iteD hc (h1 hc)
  · exact iteDn hc (h2 hc)
theorem iteB {b : Bool} {A B : Prop} (h1 : b = true → A) (h2 : b = false → B) : if b = true then A else B := by
  cases b with
  | true => exact iteT (h1 rfl)
  | false => exact iteF (h2 rfl)
abbrev nat (k : Nat) : V := .int (k : Int)
def natL (w : List Nat) : List V := w.map fun (k : Nat) => V.int (k : Int)
theorem natL_len (w : List Nat) : (natL w).length = w.length := by unfold natL; rw [List.length_map]
theorem natL_get {w : List Nat} {i c : Nat} (h : w[i]? = some c) : (natL w)[i]? = some (nat c) := by unfold natL; rw [List.getElem?_map, h]; rfl
theorem natL_flat (w : List Nat) : (natL w).all flatV = true := by
  unfold natL
  rw [List.all_map]
  exact List.all_eq_true.mpr fun _ _ => rfl
theorem bt_int : bootBuiltins "int" = some (.type "int") := by decide +kernel
theorem bt_bool : bootBuiltins "bool" = some (.type "bool") := by decide +kernel
theorem bt_str : bootBuiltins "str" = some (.type "str") := by decide +kernel
theorem bt_list : bootBuiltins "list" = some (.type "list") := by decide +kernel
theorem bt_tuple : bootBuiltins "tuple" = some (.type "tuple") := by decide +kernel
theorem bt_sorted : bootBuiltins "sorted" = some (.builtin "sorted") := by decide +kernel
theorem bt_isinstance : bootBuiltins "isinstance" = some (.builtin "isinstance") := by decide +kernel
end L2
namespace L2
open PySem PySem.Spec PyProof.Rows
theorem comp_range0 {fv : List (Str × Nat)} {σ : St} {te : TEB} {n : Nat} {H1 : Hp} {Q : VK} (f : Nat → V) (hn : n ≤ sizeLine)
    (el : ∀ (i : Nat) (H' : Hp) (R : VK), i < n → Same H1 H' → (∀ H2, Same H' H2 → R (f i) H2) → ∀ s₀ H₀ ex, te s₀ H₀ ex (blkS fv σ (some (nat i))) H' R)
    (fin : ∀ D H2, H1 D = none → Same H1 H2 → H2 D = some (.lst ((List.range n).map f)) → Q (.ref D) H2) : tCompJ fv te σ (Itr 0 n) H1 Q :=
  comp_range f hn (fun i H' R hi sm kk => by rw [Int.zero_add]; exact el i H' R hi sm kk) fin
theorem for_range0 {n : Nat} {g : TG} {tb : TS} {D : Ends} {σ : St} {H : Hp} (Pv : Nat → St → Hp → Prop) (h0 : Pv 0 σ H)
    (hs : ∀ i σ H, i < n → Pv i σ H → g (nat i) σ H fun σ2 H2 => tb { D with nx := Pv (i + 1), ct := Pv (i + 1), bk := D.nx } σ2 H2) (hd : ∀ σ H, Pv n σ H → D.nx σ H) :
    ∃ W : Nat → Nat → St → Hp → Prop, (∃ m, W 0 m σ H) ∧ ∀ i m σ H, W i m σ H →
      ((Itr 0 n).stop i H ∧ D.nx σ H) ∨ ((Itr 0 n).go i H ∧ ∃ N : St → Hp → Prop, (∀ σ' H', N σ' H' → ∃ m', m' < m ∧ W (i + 1) m' σ' H') ∧ ∀ x H', (Itr 0 n).yld i H x H' → g x σ H' fun σ2 H2 => tb { D with nx := N, ct := N, bk := D.nx } σ2 H2) :=
  for_range Pv h0 (fun i σ H hi p => by rw [Int.zero_add]; exact hs i σ H hi p) hd
theorem same_upd {H H' : Hp} {t : Addr} {o : HO} (s : Same H H') (ht : H t = none) : Same H (upd H' t o) := fun b u e => by rw [upd_ne (ne_of_none e ht)]; exact s b u e
theorem same_new {H : Hp} {t : Addr} {o : HO} (ht : H t = none) : Same H (upd H t o) := same_upd (Same.refl H) ht
theorem sgn_iff {z : Str} {c : Nat} (hs : z = ⟨#[c]⟩) (l : Nat) : sgn l = V.str z ↔ l = c := by
  subst hs
  constructor
  · intro h
    injection h with h
    injection h with h
    simpa using h
  · rintro rfl; rfl
theorem txt_len (l : List Nat) : (txt l).length = l.length := by show l.toArray.size = _; simp
theorem kit_same {K : PySem.W.Frag} {T : String} : PySem.W.kitOne K (.type T) (.type T) = some true := by
  unfold PySem.W.kitOne
  rw [if_pos (beq_self_eq_true _)]
theorem kit_ib {K : PySem.W.Frag} : PySem.W.kitOne K (.type "int") (.type "bool") = some false := by
  unfold PySem.W.kitOne
  rw [if_neg (by decide)]
  unfold PySem.W.kitCls PySem.W.subIn
  with_unfolding_all rfl
end L2

/-! EXCEPTIONS: how one lies behind a call, a raise, a try with one clause. -/
namespace L2
open PySem PySem.Spec PyProof.Rows
/-- what B, the heap that stays while an exception flies, holds of h: all but the frames -/
structure UnB (fs : List Addr) (H H' : Hp) (h B : Heap) : Prop where
  keep : ∀ b o, h.get? b = some o → H b = none → b ∉ fs → B.get? b = some o
  free : ∀ b o, h.get? b = some o → H b = none → H' b = none
  there : ∀ b o, h.get? b = some o → b ∉ fs → ∃ o', B.get? b = some o'
  tups : ∀ b xs, H b = some (.tup xs) → H' b = some (.tup xs)
  frzs : ∀ b o u, H b = some (.frz o u) → H' b = some (.frz o u)
  tbls : ∀ b ps, H b = some (.tbl ps) → ∃ more, H' b = some (.tbl (ps ++ more))
def Slots (fs : List Addr) (h h' : Heap) : Prop := ∀ b ∈ fs, ∀ o, h.get? b = some o → (∀ vs, o.data ≠ .fields vs) → ∃ sl, h'.get? b = some { o with slots := sl }
theorem Slots.up {fs : List Addr} {h h1 h2 : Heap} (a : Slots fs h h1) (b : h1.UpToSlots h2) : Slots fs h h2 := fun c hc o e d => by
  obtain ⟨sl, e1⟩ := a c hc o e d
  obtain ⟨sl2, e2⟩ := b c _ e1 d
  exact ⟨sl2, e2⟩
theorem UnB.un {fs : List Addr} {H H' : Hp} {h B h' : Heap} (u : UnB fs H H' h B) (st : B.StaysIn h') (sl : Slots fs h h') (hfs : ∀ b ∈ fs, ∃ o, h.get? b = some o ∧ ∀ vs, o.data ≠ .fields vs) : Un fs [] H H' h h' where
  keep := fun b o e n hb _ => st b o (u.keep b o e n hb)
  slot := fun b o e n hb _ => by
    obtain ⟨o2, e2, d⟩ := hfs b hb
    rw [e] at e2; cases e2
    exact sl b hb o e d
  free := fun b o e n _ => u.free b o e n
  there := fun b o e _ => by
    by_cases hb : b ∈ fs
    · obtain ⟨o2, e2, d⟩ := hfs b hb
      rw [e] at e2; cases e2
      obtain ⟨s2, e3⟩ := sl b hb o e d
      exact ⟨_, e3⟩
    · obtain ⟨o2, e2⟩ := u.there b o e hb
      exact ⟨o2, st b o2 e2⟩
  tups := u.tups
  frzs := u.frzs
  tbls := u.tbls
/-- an exception at a, of the class cls, flies to the frames of outer; s, H ahead of the call, H' the abstract heap now -/
structure Fly (P : Program) (w : World) (outer : List Env) (H : Hp) (s : Shared) (a : Addr) (cls : Value) (H' : Hp) (s' : Shared) : Prop where
  ex : ∃ B a0, UnB (frs outer) H H' s.heap B ∧ HOk P w H' B ∧ Heap.FlyingW B outer a cls a0 s'.heap
  os : s'.os = s.os
  bare : AllBare s'.gens
  slot : Slots (frs outer) s.heap s'.heap
def CXR (P : Program) (w : World) : CXT := fun outer H s E e s' => ∃ a cls H', e = .ref a ∧ Fly P w outer H s a cls H' s' ∧ E cls none H'
theorem noER {P : Program} {w : World} : NoE (CXR P w) := ⟨fun _ _ _ _ _ ⟨_, _, _, _, _, z⟩ => z⟩
/-- an exception of a callee, one made here, reach what is wanted -/
structure Exits (CX : CXT) (X : Cx) (E : XK) : Prop where
  pass : Passes CX X E
  made : ∀ (pins : List (Addr × Obj)) (σ : St) (H : Hp) (s : Shared) (h' : Heap) (e : Addr) (cls : Value) (vs : List Value), Inv X pins σ H s → Heap.MadeExcOf s.heap h' e cls vs → E cls none H → X.xe (.ref e) { s with heap := h' }
section
variable {P : Program} {w : World} {K : PySem.W.Frag} {mg : Str → Option Value} {base : Heap} {N : List Str} {qual : Str} {scope : Scope} {f : Addr} {cd : Value} {A : Around} {outer : List Env} {s0 : Shared} {H0 : Hp} {E : XK}
theorem frs_cons {env : Env} {L : Addr} {l : List Env} (h : env.frame = some L) : frs (env :: l) = L :: frs l := by unfold frs; rw [List.filterMap_cons, h]
theorem frs_frame {l : List Env} : ∀ env ∈ l, ∀ b, env.frame = some b → b ∈ frs l := fun env he b hb => List.mem_filterMap.mpr ⟨env, he, hb⟩
section
variable {CX : CXT} {pins : List (Addr × Obj)} {σ : St} {H H' : Hp} {s : Shared} {B : Heap}
theorem unb_out (I : Inv (cxOf CX P w K mg base N qual scope f cd A outer s0 H0 E) pins σ H s) (U : UnB (frs (envOfC qual scope s0.heap.objs.size f cd :: outer)) H H' s.heap B) : UnB (frs outer) H0 H' s0.heap B := by
  have ub := I.base
  have nex : ∀ b : Addr, b ∉ (cxOf CX P w K mg base N qual scope f cd A outer s0 H0 E).ex := fun b z => by cases z
  have fr : frs (envOfC qual scope s0.heap.objs.size f cd :: outer) = s0.heap.objs.size :: frs outer := frs_cons rfl
  have nl : ∀ b o, s0.heap.get? b = some o → b ∉ frs outer → b ∉ frs (envOfC qual scope s0.heap.objs.size f cd :: outer) := fun b o e hb z => by
    rw [fr] at z
    rcases List.mem_cons.mp z with z | z
    · exact Nat.ne_of_lt (Heap.lt_size e) z
    · exact hb z
  refine ⟨fun b o e n hb => ?_, fun b o e n => ?_, fun b o e hb => ?_, fun b xs e => U.tups b xs (ub.tups b xs e), fun b o u e => U.frzs b o u (ub.frzs b o u e), fun b ps e => ?_⟩
  · exact U.keep b o (ub.keep b o e n hb (nex b)) (ub.free b o e n (nex b)) (nl b o e hb)
  · obtain ⟨o2, e2⟩ := ub.there b o e (nex b)
    exact U.free b o2 e2 (ub.free b o e n (nex b))
  · obtain ⟨o2, e2⟩ := ub.there b o e (nex b)
    exact U.there b o2 e2 (nl b o e hb)
  · obtain ⟨m1, e1⟩ := ub.tbls b ps e
    obtain ⟨m2, e2⟩ := U.tbls b _ e1
    exact ⟨m1 ++ m2, by rw [e2, Array.append_assoc]⟩
theorem slots_out (I : Inv (cxOf CX P w K mg base N qual scope f cd A outer s0 H0 E) pins σ H s) {h' : Heap} (S : Slots (frs (envOfC qual scope s0.heap.objs.size f cd :: outer)) s.heap h') : Slots (frs outer) s0.heap h' := fun b hb o e d => by
  have nex : b ∉ (cxOf CX P w K mg base N qual scope f cd A outer s0 H0 E).ex := fun z => by cases z
  obtain ⟨sl, e1⟩ := I.base.slot b o e (I.ok.frf b hb) hb nex
  obtain ⟨sl2, e2⟩ := S b (by rw [frs_cons (L := s0.heap.objs.size) rfl]; exact List.mem_cons_of_mem _ hb) _ e1 d
  exact ⟨sl2, e2⟩
end
theorem exitsR : Exits (CXR P w) (cxOf (CXR P w) P w K mg base N qual scope f cd A outer s0 H0 E) E where
  pass := by
    rintro pins σ H s e s' I ⟨a, cls, H', rfl, F, hE⟩
    obtain ⟨B, a0, U, ok, fl⟩ := F.ex
    refine wpAny_leaves_onW I.ok.frames rfl fl fun h2 fl2 up => ⟨a, cls, H', rfl, ⟨⟨B, a0, unb_out I U, ok, fl2⟩, F.os.trans I.os, F.bare, slots_out I (F.slot.up up)⟩, hE⟩
  made := by
    intro pins σ H s h' e cls vs I hm hE
    have hst := I.stack
    have nf : ∀ b u, H b = some u → b ∉ frs (envOfC qual scope s0.heap.objs.size f cd :: outer) := fun b u hb z => by
      have := I.stkFree b z
      rw [hb] at this; cases this
    have ok : HOk P w H (PySem.W.hideAll s.heap (frs (envOfC qual scope s0.heap.objs.size f cd :: outer))) := fun b u hb =>
      (I.hok b u hb).stay (fun c v hc q => PySem.W.hideAll_get _ q (by
        rcases hc with rfl | hc
        · exact nf _ _ hb
        · exact nf _ _ hc)) (fun _ q => q) fun _ _ q => q
    have U : UnB (frs (envOfC qual scope s0.heap.objs.size f cd :: outer)) H H s.heap (PySem.W.hideAll s.heap (frs (envOfC qual scope s0.heap.objs.size f cd :: outer))) :=
      ⟨fun b o q _ hb => PySem.W.hideAll_get _ q hb, fun _ _ _ n => n, fun b o q hb => ⟨o, PySem.W.hideAll_get _ q hb⟩, fun _ _ q => q, fun _ _ _ q => q, fun _ ps q => ⟨#[], by rw [q]; simp⟩⟩
    refine wpAny_leaves_madeW (h := s.heap) I.ok.frames rfl (fun b o q => PySem.W.of_hideAll _ q) (PySem.W.funFrames_hide hst frs_frame) hm fun h2 t fl tp tn up => ?_
    refine ⟨e, cls, H, rfl, ⟨⟨_, _, unb_out I U, ok, fl⟩, I.os, I.bare, slots_out I fun b hb o q d => ?_⟩, hE⟩
    obtain ⟨sl, e2⟩ := up b o (hm.keeps b o q) d
    exact ⟨sl, e2⟩
end
end L2

namespace L2
open PySem PySem.Spec PyProof.Rows
section
variable {X : Cx} {CX : CXT} {E : XK} {x : Str} {C : Addr} {j : Nat} {p pos cpos np : Pos} {e : Expr} {es : List Expr} {t : TA} {te : TE}
/-! ### raise C(e, ..) -/
def tRaise (C : Addr) (E : XK) (t : TA) : TS := fun _ σ H => t σ H fun vs H1 => vs.length ≤ sizeLine ∧ E (.ref C) none H1
theorem ps_raise {bm : List Value} {B newId initId : String} (hx : Exits CX X E) (O : OwnCls x C bm newId X.mg X.base) (FB : ExcBaseFacts B newId initId bm) (hr : Room j X.A) (hg : Gl X x) (ha : PA X (e :: es) t)
    (hdb : (x == ("__debug__" : Str)) = false := by decide) (he : starEach (e :: es) X.env = (false, eval e X.env) :: starEach es X.env := by rfl) (hpl : (backTo cpos (starEach es X.env)).any (·.1) = false := by rfl) :
    PS X (.Raise (some (.Call (.Name x np) (e :: es) [] cpos)) none pos) (tRaise C E t) := by
  intro pins s σ H D I h
  obtain ⟨tl, ns, nm, qn, bs, hdct, sn, sub, ab, col, dd, k0, k1, k2, k3, k5, mN, hC, hN, hni, T⟩ := O.obj
  have pl : (backTo cpos (starEach (e :: es) X.env)).any (·.1) = false := by
    rw [he]
    show (false || (backTo cpos (starEach es X.env)).any (·.1)) = false
    rw [hpl]; rfl
  refine wpAny_Raise_call_subT (nm := nm) (q := qn) (N := ns) (bs := bs) (bm := tl) (hdct := hdct) (sn := sn) (sub := sub) (ab := ab) (col := col) (dd := dd) (k0 := k0) (k1 := k1) (k2 := k2) (k3 := k3) (k5 := k5) FB (mN := mN) (T.hasType FB.hasBase) hr.hd pl hni
    (ld_glob I hg O.bound ⟨rfl, ?_⟩ hdb)
  have go := ha cpos pins s σ H _ I h
  rw [he] at go ⊢
  exact Calls.evalArgs_plain (thn go fun us s2 ⟨vs, H1, I1, r, z, q⟩ => ⟨rfl, by rw [← r.length]; exact z, I1.bk _ _ hC, hN.keeps I1.bk, T.keeps I1.bk, fun h' a hm => hx.made pins σ H1 s2 h' a _ _ I1 hm q⟩)
theorem ps_raise0 {bm : List Value} {B newId initId : String} (hx : Exits CX X E) (O : OwnCls x C bm newId X.mg X.base) (FB : ExcBaseFacts B newId initId bm) (hr : Room j X.A) (hg : Gl X x)
    (hdb : (x == ("__debug__" : Str)) = false := by decide) : PS X (.Raise (some (.Call (.Name x np) [] [] cpos)) none pos) (tRaise C E tNil) := by
  intro pins s σ H D I h
  obtain ⟨tl, ns, nm, qn, bs, hdct, sn, sub, ab, col, dd, k0, k1, k2, k3, k5, mN, hC, hN, hni, T⟩ := O.obj
  refine wpAny_Raise_call_subT (nm := nm) (q := qn) (N := ns) (bs := bs) (bm := tl) (hdct := hdct) (sn := sn) (sub := sub) (ab := ab) (col := col) (dd := dd) (k0 := k0) (k1 := k1) (k2 := k2) (k3 := k3) (k5 := k5) FB (mN := mN) (T.hasType FB.hasBase) hr.hd rfl hni
    (ld_glob I hg O.bound ⟨rfl, ?_⟩ hdb)
  exact evalArgs_empty ⟨rfl, Nat.zero_le _, I.bk _ _ hC, hN.keeps I.bk, T.keeps I.bk, fun h' a hm => hx.made pins σ H s h' a _ _ I hm h.2⟩
/-! ### f-strings, whose words nobody asks; n: the text by now has at most n signs -/
abbrev TJ := St → Hp → Nat → (Hp → Prop) → Prop
def PJ (X : Cx) (es : List Expr) (t : TJ) : Prop :=
  ∀ (pins : List (Addr × Obj)) (s : Shared) (σ : St) (H : Hp) (acc : Str) (n : Nat) (R : Hp → Prop), Inv X pins σ H s → acc.length ≤ n → t σ H n R →
    Joins (model X.prog X.w) X.A X.xe (evalEach es X.env) acc (fun out s1 => out.length ≤ sizeLine ∧ ∃ H1, Inv X pins σ H1 s1 ∧ R H1) s
def tjNil : TJ := fun _ H n R => n ≤ sizeLine ∧ R H
theorem pj_nil : PJ X [] tjNil := fun _ s σ H acc n R I hl h => ⟨Nat.le_trans hl h.1, H, I, h.2⟩
/-- a written part; an int; a text; the repr of a text -/
def tjC (m : Nat) (tj : TJ) : TJ := fun σ H n R => n + m ≤ sizeLine ∧ tj σ H (n + m) R
def tjI (te : TE) (tj : TJ) : TJ := fun σ H n R => te σ H fun x H1 => ∃ i : Int, x = .int i ∧ i.natAbs.log2 < 1920 ∧ n + 1921 ≤ sizeLine ∧ tj σ H1 (n + 1921) R
def tjS (te : TE) (tj : TJ) : TJ := fun σ H n R => te σ H fun x H1 => ∃ y : Str, x = .str y ∧ y.length ≤ 1000 ∧ n + 1000 ≤ sizeLine ∧ tj σ H1 (n + 1000) R
def tjR (te : TE) (tj : TJ) : TJ := fun σ H n R => te σ H fun x H1 => ∃ y : Str, x = .str y ∧ y.length ≤ 1000 ∧ (∀ c ∈ y.cps.toList, c < 16 ^ 8) ∧ n + 10002 ≤ sizeLine ∧ tj σ H1 (n + 10002) R
section
variable {tj : TJ}
/-- a part is told: the rest goes on -/
theorem pj_on (hr : PJ X es tj) {pins : List (Addr × Obj)} {s : Shared} {σ : St} {H : Hp} {acc y : Str} {n m : Nat} {R : Hp → Prop} {tk : Tok} (I : Inv X pins σ H s) (hl : acc.length ≤ n) (hy : y.length ≤ m) (hz : n + m ≤ sizeLine) (q : tj σ H (n + m) R) :
    ∃ y' t, Value.str y tk = .str y' t ∧ (acc ++ y').length ≤ sizeLine ∧ Joins (model X.prog X.w) X.A X.xe (evalEach es X.env) (acc ++ y') (fun out s1 => out.length ≤ sizeLine ∧ ∃ H1, Inv X pins σ H1 s1 ∧ R H1) s := by
  have el : (acc ++ y).length = acc.length + y.length := strLen_append ..
  exact ⟨y, tk, rfl, by rw [el]; omega, hr pins s σ H (acc ++ y) (n + m) R I (by rw [el]; omega) q⟩
theorem pj_cst {x : Str} {kk} (hr : PJ X es tj) (hx : x.length ≤ 1000 := by decide +kernel) (hs : evalEach (.Constant (.str x) kk pos :: es) X.env = eval (.Constant (.str x) kk pos) X.env :: evalEach es X.env := by rfl) : PJ X (.Constant (.str x) kk pos :: es) (tjC 1000 tj) := by
  intro pins s σ H acc n R I hl hq
  rw [hs]
  exact Calls.Constant_str (pj_on hr (I.tok _) hl hx hq.1 hq.2)
theorem pj_int (h : PE X e te) (hr : PJ X es tj) (hs : evalEach (.FormattedValue e (-1) none pos :: es) X.env = eval (.FormattedValue e (-1) none pos) X.env :: evalEach es X.env := by rfl) : PJ X (.FormattedValue e (-1) none pos :: es) (tjI te tj) := by
  intro pins s σ H acc n R I hl hq
  rw [hs]
  refine wpAny_FormattedValue_plain (thn (h pins s σ H _ I hq) fun u s1 ⟨x, H1, I1, r, i, ex, hb, hz, k⟩ => ?_)
  subst ex
  obtain ⟨tk, rfl⟩ := r
  exact wpAny_formatField_int hb (pj_on hr (I1.tok _) hl (int_text_len_1921 hb) hz k)
theorem pj_str (h : PE X e te) (hr : PJ X es tj) (hs : evalEach (.FormattedValue e (-1) none pos :: es) X.env = eval (.FormattedValue e (-1) none pos) X.env :: evalEach es X.env := by rfl) : PJ X (.FormattedValue e (-1) none pos :: es) (tjS te tj) := by
  intro pins s σ H acc n R I hl hq
  rw [hs]
  refine wpAny_FormattedValue_plain (thn (h pins s σ H _ I hq) fun u s1 ⟨x, H1, I1, r, y, ex, hb, hz, k⟩ => ?_)
  subst ex
  obtain ⟨tk, rfl⟩ := r
  have big : 2000000 ≤ sizeLine := by decide
  exact formatField_str (fun t' tk => pj_on hr (I1.tok _) hl hb hz k) (by omega)
theorem pj_rep (h : PE X e te) (hr : PJ X es tj) (hs : evalEach (.FormattedValue e 114 none pos :: es) X.env = eval (.FormattedValue e 114 none pos) X.env :: evalEach es X.env := by rfl) : PJ X (.FormattedValue e 114 none pos :: es) (tjR te tj) := by
  intro pins s σ H acc n R I hl hq
  rw [hs]
  refine wpAny_FormattedValue_repr (thn (h pins s σ H _ I hq) fun u s1 ⟨x, H1, I1, r, y, ex, hb, hc, hz, k⟩ => ?_)
  subst ex
  obtain ⟨tk, rfl⟩ := r
  have len := StrLaws.reprText_len y hc
  have big : 2000000 ≤ sizeLine := by decide
  have fit : (reprText y).length ≤ sizeLine := by omega
  exact pyReprObj_str (formatField_str (fun t' tk => pj_on hr (I1.tok _) hl (by omega) hz k) fit) fit
end
def tJoin (tj : TJ) : TE := fun σ H Q => tj σ H 0 fun H1 => ∀ y, Q (.str y) H1
theorem pe_join {e2 : Expr} {tj : TJ} (h : PJ X (e :: e2 :: es) tj) : PE X (.JoinedStr (e :: e2 :: es) pos) (tJoin tj) := by
  intro pins s σ H Q I hq
  refine wpAny_JoinedStr (joins_mono (h pins s σ H Str.empty 0 _ I (Nat.le_refl _) hq) fun out s1 ⟨hl, H1, I1, q⟩ => ⟨hl, .str out, H1, I1.tok _, ⟨_, rfl⟩, q out⟩)
where
  joins_mono {M : Model} {A : Around} {E : Value → Shared → Prop} : ∀ {l : List (Sem Value)} {acc : Str} {Q Q' : Str → Shared → Prop} {s : Shared}, Joins M A E l acc Q s → (∀ o s, Q o s → Q' o s) → Joins M A E l acc Q' s
    | [], _, _, _, _, h, f => f _ _ h
    | _ :: _, _, _, _, _, h, f => thn h fun _ _ ⟨y, t, e, z, r⟩ => ⟨y, t, e, z, joins_mono r f⟩
end
end L2

namespace L2
open PySem PySem.Spec PyProof.Rows
/-- an exception of a callee, called where the names are σ -/
structure ExitsS (CX : CXT) (X : Cx) (E : St → XK) : Prop where
  pass : ∀ (pins : List (Addr × Obj)) (σ : St) (H : Hp) (s : Shared) (e : Value) (s' : Shared), Inv X pins σ H s → CX X.stack H s (E σ) e s' → X.xe e s'
theorem Exits.s {CX : CXT} {X : Cx} {E : XK} (h : Exits CX X E) : ExitsS CX X fun _ => E := ⟨h.pass⟩
def tCallX (sp : Sp) (E : St → XK) (t : TA) : TE := fun σ H Q => t σ H fun vs H1 => sp vs H1 Q (E σ)
def tMethX (C : Addr) (m : Str) (sp : Sp) (E : St → XK) (ta : TE) (t : TA) : TE := fun σ H Q => ta σ H fun x H1 => ∃ a dx fs, x = .ref a ∧ H1 a = some (.ins C dx fs) ∧ fs.lookup m = none ∧ t σ H1 fun vs H2 => sp (x :: vs) H2 Q (E σ)
def tMakeX (C : Addr) (sp : Sp) (E : St → XK) (t : TA) : TE := fun σ H Q => t σ H fun vs H1 => ∀ x dx, H1 x = none → H1 dx = none → dx ≠ x →
  sp (.ref x :: vs) (upd (upd H1 dx (.own x)) x (.ins C dx [])) (fun v H2 => v = .non ∧ Q (.ref x) H2) (E σ)
section
variable {X : Cx} {CX : CXT} {k j : Nat} {f C : Addr} {fd : FuncData} {ps : List Str} {sp : Sp} {E : St → XK} {x m : Str} {p pos apos : Pos} {e o : Expr} {es : List Expr} {ta : TE} {t : TA}
theorem run_fnX {pins : List (Addr × Obj)} {σ : St} {H : Hp} {s : Shared} {Q : VK} {us : List Value} {vs : List V} (F : FnOk X.prog X.w X.K X.mg X.base CX k f fd ps sp) (hr : Room k X.A) (hb : Binds X.K fd ps []) (hx : ExitsS CX X E)
    (I : Inv X pins σ H s) (r : Vals vs us) (h : sp vs H Q (E σ)) : wpAny (model X.prog X.w) X.A (call (.ref f) us) (EP X pins σ Q) X.xe s := by
  have hl : (us ++ []).length = ps.length := by rw [List.append_nil, ← r.length]; exact F.len _ _ _ _ h
  have hb' := hb s us I.kIn hl
  rw [List.append_nil] at hb'
  refine wpAny_call (codeAny_mono (F.run X.A X.stack s H ⟨us, []⟩ us vs Q (E σ) hr I.env0 hb' r h) fun res s' hq => ?_)
  cases res with
  | error e => exact hx.pass pins σ H s e s' I hq
  | ok fl =>
    cases fl with
    | ret u => exact I.after hq
    | next => cases hq
    | brk => cases hq
    | cont => cases hq
theorem pe_callX (D : Def X.prog X.w X.K X.mg X.base CX x k ps sp) (hx : ExitsS CX X E) (hr : Room j X.A) (hg : Gl X x) (ha : PA X (e :: es) t) (hj : k ≤ j := by decide) (hdb : (x == ("__debug__" : Str)) = false := by decide)
    (he : starEach (e :: es) X.env = (false, eval e X.env) :: starEach es X.env := by rfl) (hpl : (backTo pos (starEach es X.env)).any (·.1) = false := by rfl) : PE X (.Call (.Name x p) (e :: es) [] pos) (tCallX sp E t) := by
  obtain ⟨f, fd, hm, hk, hb, F⟩ := D.ex
  intro pins s σ H Q I h
  refine wpAny_Call_Name_kw (ld_glob I hg hm ?_ hdb)
  refine PySem.W.callWith_K (h₀ := X.base) I.ok.mod.kin hk (thn (ha pos pins s σ H _ I h) fun us s1 z => ?_) he hpl
  obtain ⟨vs, H1, I1, r, q⟩ := z
  exact ⟨I1.kIn, run_fnX F (hr.mono hj) hb hx I1 r q⟩
theorem pe_callX0 (D : Def X.prog X.w X.K X.mg X.base CX x k ps sp) (hx : ExitsS CX X E) (hr : Room j X.A) (hg : Gl X x) (hj : k ≤ j := by decide) (hdb : (x == ("__debug__" : Str)) = false := by decide) : PE X (.Call (.Name x p) [] [] pos) (tCallX sp E tNil) := by
  obtain ⟨f, fd, hm, hk, hb, F⟩ := D.ex
  intro pins s σ H Q I h
  exact wpAny_Call_Name_kw (ld_glob I hg hm (PySem.W.callWith_K0 I.kIn hk (run_fnX (us := []) F (hr.mono hj) hb hx I .nil h)) hdb)
theorem pe_methX {pl : Sem Bool} (he : PE X o ta) (c : Cls X.K C) (D : MDef X.prog X.w X.K X.mg X.base CX C m k ps sp) (hx : ExitsS CX X E) (hr : Room j X.A) (ha : PA X (e :: es) t) (hj : k ≤ j := by decide)
    (hst : starEach (e :: es) X.env = (false, eval e X.env) :: starEach es X.env := by rfl) (hpl : (backTo pos (starEach es X.env)).any (·.1) = false := by rfl)
    (ht : eval (.Call (.Attribute o m apos) (e :: es) [] pos) X.env = (do
      let ov ← eval o X.env
      standAt apos.atName
      let (f, first) ← holding [ov] (getMethod ov m pl)
      callWith pos f first (backTo pos (starEach (e :: es) X.env)) (backToKw pos (keywordEach [] X.env))) := by rfl) :
    PE X (.Call (.Attribute o m apos) (e :: es) [] pos) (tMethX C m sp E ta t) := by
  obtain ⟨f, fd, hm, hb, F⟩ := D.ex
  intro pins s σ H Q I h
  refine PySem.W.methodCall_KW (pl := pl) (thn (he pins s σ H _ I h) fun u s1 z => ?_) ht
  obtain ⟨x, H1, I1, rx, a, dx, fs, rfl, ea, l, q⟩ := z
  cases (show u = Value.ref a from rx)
  refine getmeth_ok I1 ea c hm l (PySem.W.callWith_K (first := [.ref a]) (h₀ := X.base) I.ok.mod.kin hm.kp (thn (ha pos pins s1 σ H1 _ I1 q) fun us s2 z => ?_) hst hpl)
  obtain ⟨vs, H2, I2, r, q2⟩ := z
  exact ⟨I2.kIn, run_fnX (us := .ref a :: us) (vs := .ref a :: vs) F (hr.mono hj) hb hx I2 (.cons rfl r) q2⟩
theorem pe_methX0 {pl : Sem Bool} (he : PE X o ta) (c : Cls X.K C) (D : MDef X.prog X.w X.K X.mg X.base CX C m k ps sp) (hx : ExitsS CX X E) (hr : Room j X.A) (hj : k ≤ j := by decide)
    (ht : eval (.Call (.Attribute o m apos) [] [] pos) X.env = (do
      let ov ← eval o X.env
      standAt apos.atName
      let (f, first) ← holding [ov] (getMethod ov m pl)
      callWith pos f first (backTo pos (starEach [] X.env)) (backToKw pos (keywordEach [] X.env))) := by rfl) :
    PE X (.Call (.Attribute o m apos) [] [] pos) (tMethX C m sp E ta tNil) := by
  obtain ⟨f, fd, hm, hb, F⟩ := D.ex
  intro pins s σ H Q I h
  refine PySem.W.methodCall_KW (pl := pl) (thn (he pins s σ H _ I h) fun u s1 z => ?_) ht
  obtain ⟨x, H1, I1, rx, a, dx, fs, rfl, ea, l, q⟩ := z
  cases (show u = Value.ref a from rx)
  exact getmeth_ok I1 ea c hm l (PySem.W.callWith_K0 (first := [.ref a]) I1.kIn hm.kp (run_fnX (us := [.ref a]) (vs := [.ref a]) F (hr.mono hj) hb hx I1 (.cons rfl .nil) q))
theorem pe_makeX (D : CDef X.prog X.w X.K X.mg X.base CX x C k ps sp) (hx : ExitsS CX X E) (hr : Room j X.A) (hg : Gl X x) (ha : PA X (e :: es) t) (hj : k + 1 ≤ j := by decide) (hdb : (x == ("__debug__" : Str)) = false := by decide)
    (he : starEach (e :: es) X.env = (false, eval e X.env) :: starEach es X.env := by rfl) (hpl : (backTo pos (starEach es X.env)).any (·.1) = false := by rfl) :
    PE X (.Call (.Name x p) (e :: es) [] pos) (tMakeX C sp E t) := by
  obtain ⟨f, fd, hm, M, hb, F⟩ := D.ex
  intro pins s σ H Q I h
  refine wpAny_Call_Name_kw (ld_glob I hg hm ?_ hdb)
  refine PySem.W.callWith_K (h₀ := X.base) I.ok.mod.kin M.kp (thn (ha pos pins s σ H _ I h) fun us s1 z => ?_) he hpl
  obtain ⟨vs, H1, I1, r, q⟩ := z
  refine ⟨I1.kIn, ?_⟩
  have hq := q (s1.heap.objs.size + 1) s1.heap.objs.size (I1.hok.fresh (Nat.le_succ _)) (I1.hok.fresh (Nat.le_refl _)) (Nat.ne_of_lt (Nat.lt_succ_self _))
  have I2 := Inv.made (C := C) I1
  have r2 : Vals (V.ref (s1.heap.objs.size + 1) :: vs) (Value.ref (s1.heap.objs.size + 1) :: us) := .cons rfl r
  have hl : (Value.ref (s1.heap.objs.size + 1) :: us ++ []).length = ps.length := by
    have e1 := r2.length
    rw [F.len _ _ _ _ hq] at e1
    rw [List.append_nil]; exact e1.symm
  have hb' := hb _ (Value.ref (s1.heap.objs.size + 1) :: us) I2.kIn hl
  rw [List.append_nil] at hb'
  have hr' : Room (k + 1) X.A := hr.mono hj
  refine wpAny_call (make_map (f := f) I1.kIn M.makes M.init (beq_iff_eq.mp M.fn) (codeAny_mono (F.run _ X.stack _ _ ⟨Value.ref (s1.heap.objs.size + 1) :: us, []⟩ _ _ _ (E σ) (hr'.make C us []) (I2.env0.make C us []) hb' r2 hq) fun res s' hq' => ?_))
  cases res with
  | error e1 => exact hx.pass pins σ _ _ e1 s' I2 hq'
  | ok fl =>
    cases fl with
    | ret u =>
      obtain ⟨v, H', I3, rv, ev, q3⟩ := I2.after hq'
      subst ev
      exact ⟨rv, ⟨V.ref (s1.heap.objs.size + 1), H', I3, rfl, q3⟩⟩
    | next => cases hq'
    | brk => cases hq'
    | cont => cases hq'
end
/-! ### try: .. except K as n: .. -/
/-- within the try: what every state bears; an exception of a callee -/
abbrev Cx.tryX (X : Cx) (pins : List (Addr × Obj)) (E : St → XK) : Cx := { X with pn := X.pn ++ pins, xe := fun e s' => ∃ σ H s, Inv X pins σ H s ∧ CXR X.prog X.w X.stack H s (E σ) e s' }
/-- within the clause -/
abbrev Cx.markX (X : Cx) (a : Addr) : Cx := { X with A := X.A.mark (some (.ref a)), calm := false, xe := fun _ _ => False }
section
variable {X : Cx} {pins pins' : List (Addr × Obj)} {σ : St} {H H' : Hp} {s : Shared} {E : St → XK} {a : Addr}
theorem Inv.toTry (I : Inv X pins σ H s) : Inv (X.tryX pins E) [] σ H s :=
  ⟨⟨I.ok.mod, I.ok.kind, I.ok.glob, I.ok.blt, I.ok.above, I.ok.inj, I.ok.has, I.ok.cab, I.ok.hd, I.ok.frames, I.ok.stk, I.ok.exf, I.ok.bs, I.ok.bsz, I.ok.noex, I.ok.exfs, I.ok.funs, I.ok.frf⟩, I.os, I.bare, I.base, I.loc, I.cell, I.free, I.freeC,
    fun p hp => I.pin p (by rw [List.append_nil] at hp; exact hp), I.hok, I.len⟩
theorem Inv.ofTry (I : Inv (X.tryX pins E) pins' σ H s) : Inv X pins σ H s :=
  ⟨⟨I.ok.mod, I.ok.kind, I.ok.glob, I.ok.blt, I.ok.above, I.ok.inj, I.ok.has, I.ok.cab, I.ok.hd, I.ok.frames, I.ok.stk, I.ok.exf, I.ok.bs, I.ok.bsz, I.ok.noex, I.ok.exfs, I.ok.funs, I.ok.frf⟩, I.os, I.bare, I.base, I.loc, I.cell, I.free, I.freeC,
    fun p hp => I.pin p (List.mem_append_left _ hp), I.hok, I.len⟩
theorem Inv.mark (I : Inv X pins σ H s) : Inv (X.markX a) pins σ H s :=
  ⟨⟨I.ok.mod, I.ok.kind, I.ok.glob, I.ok.blt, I.ok.above, I.ok.inj, I.ok.has, I.ok.cab, (fun z => by cases z), I.ok.frames, I.ok.stk, I.ok.exf, I.ok.bs, I.ok.bsz, I.ok.noex, I.ok.exfs, I.ok.funs, I.ok.frf⟩, I.os, I.bare, I.base, I.loc, I.cell, I.free, I.freeC, I.pin, I.hok, I.len⟩
theorem Inv.unmark (I : Inv (X.markX a) pins σ H s) (hd : X.calm = true → X.A.handled = none) : Inv X pins σ H s :=
  ⟨⟨I.ok.mod, I.ok.kind, I.ok.glob, I.ok.blt, I.ok.above, I.ok.inj, I.ok.has, I.ok.cab, hd, I.ok.frames, I.ok.stk, I.ok.exf, I.ok.bs, I.ok.bsz, I.ok.noex, I.ok.exfs, I.ok.funs, I.ok.frf⟩, I.os, I.bare, I.base, I.loc, I.cell, I.free, I.freeC, I.pin, I.hok, I.len⟩
theorem exitsT {P : Program} {w : World} (hP : X.prog = P := by rfl) (hw : X.w = w := by rfl) : ExitsS (CXR P w) (X.tryX pins E) E := by
  subst hP hw
  exact ⟨fun _ σ H s _ _ I z => ⟨σ, H, s, I.ofTry, z⟩⟩
theorem SP.ofTry {D : Ends} {f : Flow} {s' : Shared} (h : SP (X.tryX pins E) pins' D f s') : SP X pins D f s' := by
  cases f with
  | next => obtain ⟨σ', H', I, q⟩ := h; exact ⟨σ', H', I.ofTry, q⟩
  | brk => obtain ⟨σ', H', I, q⟩ := h; exact ⟨σ', H', I.ofTry, q⟩
  | cont => obtain ⟨σ', H', I, q⟩ := h; exact ⟨σ', H', I.ofTry, q⟩
  | ret u => obtain ⟨v, σ', H', I, r, q⟩ := h; exact ⟨v, σ', H', I.ofTry, r, q⟩
/-- the exception, as a thing that is told of by its class alone -/
def excO (a : Addr) (cls : Value) : HO := .ext fun h => ∃ o, h.get? a = some o ∧ o.cls = cls ∧ PySem.W.notCls o = true
theorem ObjOk.has {P : Program} {w : World} {h : Heap} {o : HO} (x : ObjOk P w H h a o) : ∃ ob, h.get? a = some ob := by
  cases o with
  | lst xs => obtain ⟨_, _, _, _, e⟩ := x; exact ⟨_, e⟩
  | tup xs => obtain ⟨_, _, _, ob, e, _⟩ := x; exact ⟨_, e⟩
  | dK kvs => obtain ⟨_, _, _, _, o, _, _, e, _⟩ := x; exact ⟨_, e⟩
  | dT kvs => obtain ⟨_, _, _, _, o, _, _, e, _⟩ := x; exact ⟨_, e⟩
  | set S n => obtain ⟨o, _, _, _, e, _⟩ := x; exact ⟨_, e⟩
  | ins C dx fs => obtain ⟨_, _, _, e, _⟩ := x; exact ⟨_, e⟩
  | own y => exact x
  | xd fs => obtain ⟨_, ⟨_, _, _, e, _⟩, _⟩ := x; exact ⟨_, e⟩
  | rng lo hi => obtain ⟨_, _, _, e⟩ := x; exact ⟨_, e⟩
  | frz ob u => obtain ⟨e, _⟩ := x; exact ⟨_, e⟩
  | tbl ps => exact ⟨_, (show h.get? a = some _ from x)⟩
  | met f y => exact ⟨_, (show h.get? a = some _ from x)⟩
  | ext φ => obtain ⟨_, e, _⟩ := x; exact e
/-- a name is forgotten -/
theorem Inv.goes {i : Nat} {n : Str} {m : Str → Option Value} {h' : Heap} {v : Option Value} {t' : Nat} (I : Inv X pins σ H s) (nd : X.N.Nodup) (hi : X.N[i]? = some n)
    (hlk : ∀ (i : Nat) (x : Str) (v : V), X.N[i]? = some x → σ[i]? = some (some v) → Vis X.env.scope x → ∃ u, RelV v u ∧ Look X.env s.heap m x u) (hn : h'.Ns X.env.locals (fun x => if x = n then v else m x)) (hs : Heap.SameBut X.env.locals s.heap h') :
    Inv X pins (σ.set i none) H { s with heap := h', toks := t' } := by
  have cne := I.cne
  have low : ∀ b o, X.s₀.heap.get? b = some o → b ≠ X.env.locals := fun b o e => Nat.ne_of_lt (Nat.lt_of_lt_of_le (Heap.lt_size e) I.ok.above)
  refine ⟨I.ok, I.os, I.bare, ⟨fun b o e n hb hx => (hs.2 b (low b o e)).trans (I.base.keep b o e n hb hx), fun b o e n hb hx => ?_, I.base.free, fun b o e hx => ?_, I.base.tups, I.base.frzs, I.base.tbls⟩, ⟨_, hn, fun j y v' e1 e2 e3 => ?_⟩, fun y c e => ?_, I.free, I.freeC, fun p hp => ?_, fun b ob e => ?_, by simpa using I.len⟩
  · obtain ⟨sl, e1⟩ := I.base.slot b o e n hb hx
    exact ⟨sl, (hs.2 b (low b o e)).trans e1⟩
  · obtain ⟨o', e1⟩ := I.base.there b o e hx
    exact ⟨o', (hs.2 b (low b o e)).trans e1⟩
  · have hj : j ≠ i := by
      rintro rfl
      rw [List.getElem?_set] at e2
      simp only [if_true] at e2
      split at e2 <;> cases e2
    rw [List.getElem?_set_ne (Ne.symm hj)] at e2
    obtain ⟨u, r, q⟩ := hlk j y v' e1 e2 e3
    refine ⟨u, r, ?_⟩
    rcases q with ⟨k, e⟩ | ⟨k, c, e, z⟩
    · refine .inl ⟨k, ?_⟩
      have ne : y ≠ n := fun e => hj (nodup_ix nd e1 (e ▸ hi))
      simp [ne, e]
    · exact .inr ⟨k, c, e, z.sameBut hs (cne y c e)⟩
  · obtain ⟨w', z⟩ := I.cell y c e
    exact ⟨w', z.sameBut hs (cne y c e)⟩
  · obtain ⟨e, n, ne, nf, d⟩ := I.pin p hp
    exact ⟨(hs.2 p.1 ne).trans e, n, ne, nf, d⟩
  · refine (I.hok b ob e).stay (fun c w' hc q => (hs.2 c ?_).trans q) (fun _ q => q) fun _ _ q => q
    rintro rfl
    rcases hc with rfl | hc
    · rw [I.free] at e; cases e
    · rw [I.free] at hc; cases hc
end
end L2

namespace L2
open PySem PySem.Spec PyProof.Rows
section
variable {X : Cx} {x n : Str} {i : Nat} {KE : Addr} {np hpos pos : Pos} {b0 : Stmt} {body suite : List Stmt} {tb : List (Addr × Obj) → (St → XK) → TS} {ts : Addr → TS}
/-- behind the clause its name is forgotten -/
def Ends.less (D : Ends) (i : Nat) : Ends := { nx := fun σ H => D.nx (σ.set i none) H, rt := D.rt, bk := fun σ H => D.bk (σ.set i none) H, ct := fun σ H => D.ct (σ.set i none) H }
def tTry (K : PySem.W.Frag) (KE : Addr) (i : Nat) (tb : List (Addr × Obj) → (St → XK) → TS) (ts : Addr → TS) : TS := fun D σ H => ∀ pins,
  tb pins (fun σ' cls _ H' => PySem.W.exmOne K cls (.ref KE) = some true ∧ ∀ a, H' a = none → ts a (D.less i) (σ'.set i (some (.ref a))) (upd H' a (excO a cls))) D σ H
theorem ps_try (nd : X.N.Nodup) (hi : X.N[i]? = some n) (hl : X.env.scope.names.lookup n = some .local) (hm : X.mg x = some (.ref KE)) (hg : Gl X x) (hb : ∀ (pins : List (Addr × Obj)) (E : St → XK), PSs (X.tryX pins E) body (tb pins E)) (hs : ∀ a : Addr, PSs (X.markX a) (b0 :: suite) (ts a))
    (hst : X.stack = X.env :: X.outer := by rfl) (hfr : X.env.frame = some X.env.locals := by rfl) (hdb : (x == ("__debug__" : Str)) = false := by decide) :
    PS X (.Try body [.ExceptHandler (some (.Name x np)) (some n) (b0 :: suite) hpos] [] [] pos) (tTry X.K KE i tb ts) := by
  intro pins s σ H D I h
  have calm := I.ok.hd
  refine wpAny_Try_except (wpAny_mono (hb pins _ [] s σ H D I.toTry (h pins)) (fun f s1 q => ?_) fun e s1 q => ?_)
  · have q' : SP X pins D f s1 := SP.ofTry q
    cases f with
    | next => obtain ⟨σ', H', I', z⟩ := q'; exact wpAny_execs_nil ⟨σ', H', I', z⟩
    | brk => exact q'
    | cont => exact q'
    | ret u => exact q'
  obtain ⟨σ1, H1, s2, I1, a, cls, H', rfl, F, hcls, hsu⟩ := q
  obtain ⟨B, a0, U, ok, fl⟩ := F.ex
  have fl' : Heap.FlyingW B (X.env :: X.outer) a cls a0 s1.heap := by rw [← hst]; exact fl
  have frames : X.A.frames = some (X.env :: X.outer) := by rw [← hst]; exact I.ok.frames
  have hfs : ∀ b ∈ frs X.stack, ∃ o, s2.heap.get? b = some o ∧ ∀ vs, o.data ≠ .fields vs := fun b hb => (I1.stack.mem hb).2
  have un : ∀ h', B.StaysIn h' → s1.heap.UpToSlots h' → Un (frs X.stack) [] H1 H' s2.heap h' := fun h' st up => U.un st (F.slot.up up) hfs
  have back : ∀ h', B.StaysIn h' → s1.heap.UpToSlots h' → Inv X pins σ1 H' { s1 with heap := h' } := fun h' st up =>
    I1.call' (s' := { s1 with heap := h' }) (ch := []) F.os (un h' st up) (ok.kept st) F.bare fun b z => by cases z
  refine wpAny_looks_onW frames hfr fl' fun h4 held4 up4 => wpAny_landsW held4 fun h5 fl5 up5 => ?_
  have I5 := back h5 fl5.1 (up4.trans up5)
  obtain ⟨ob, hob, hobc⟩ := fl5.there
  have typ : PySem.W.Looks (model X.prog X.w) h5 (typeOf (.ref a)) cls := hobc ▸ (PySem.W.Looks.ld hob).andThen .now
  refine wpAny_handleBy_cons (codeAny_handlers_test (ld_glob (X := X.markX a) I5.mark hg hm ?_ hdb)) (fun z => by cases z)
  refine (PySem.W.exm_one I5.kIn typ hcls).here ?_
  refine codeAny_handlers_suite_as (lands_againW fl5 fun h6 fl6 up6 => ?_)
  have up06 := (up4.trans up5).trans up6
  -- the exception's own object is new
  obtain ⟨oe, vs, hoe, hoec, hoed, _⟩ := fl6.first
  have na : s2.heap.get? a = none := by
    cases q : s2.heap.get? a with
    | none => rfl
    | some o =>
      by_cases hb : a ∈ frs X.stack
      · obtain ⟨o2, e2, d⟩ := hfs a hb
        rw [q] at e2; cases e2
        obtain ⟨sl, e3⟩ := (F.slot.up up06) a hb o q d
        rw [hoe] at e3; cases e3
        exact absurd hoed (d vs)
      · obtain ⟨o2, e2⟩ := U.there a o q hb
        rw [fl'.2.1] at e2; cases e2
  have nH : H' a = none := by
    cases q : H' a with
    | none => rfl
    | some u =>
      obtain ⟨ob2, e2⟩ := (ok a u q).has
      rw [fl'.2.1] at e2; cases e2
  have nc : PySem.W.notCls oe = true := by unfold PySem.W.notCls; rw [hoed]
  have ok6 : HOk X.prog X.w (upd H' a (excO a cls)) h6 := fun b u e => by
    by_cases hb : b = a
    · subst hb
      rw [upd_same] at e; cases e
      exact ⟨⟨oe, hoe, hoec, nc⟩, ⟨oe, hoe⟩, fun g1 g2 ⟨o, q1, q2, q3⟩ kk => ⟨o, kk o q1, q2, q3⟩⟩
    · rw [upd_ne hb] at e
      exact (ok b u e).stay (fun c v _ q => fl6.1 c v q) (fun c q => by rw [upd_ne (ne_of_none q nH)]; exact q) fun c xs q => by rw [upd_ne (ne_of_none q nH)]; exact q
  have un6 := un h6 fl6.1 up06
  have un6' : Un (frs X.stack) [] H1 (upd H' a (excO a cls)) s2.heap h6 := by
    refine ⟨un6.keep, un6.slot, fun b o e nn hx => ?_, un6.there, fun b xs e => ?_, fun b o u e => ?_, fun b ps e => ?_⟩
    · rw [upd_ne (fun z => by rw [z, na] at e; cases e)]
      exact un6.free b o e nn hx
    · have := un6.tups b xs e
      rw [upd_ne (ne_of_none this nH)]; exact this
    · have := un6.frzs b o u e
      rw [upd_ne (ne_of_none this nH)]; exact this
    · obtain ⟨more, e2⟩ := un6.tbls b ps e
      exact ⟨more, by rw [upd_ne (ne_of_none e2 nH)]; exact e2⟩
  have I6 : Inv X pins σ1 (upd H' a (excO a cls)) { s1 with heap := h6 } := I1.call' (s' := { s1 with heap := h6 }) (ch := []) F.os un6' ok6 F.bare fun b z => by cases z
  refine store_ok (X := X.markX a) (v := .ref a) I6.mark nd hi (.inl hl) rfl (fun s7 I7 => ?_) (.inr hl)
  refine wpAny_mono (hs a pins s7 _ _ _ I7 (hsu a nH)) (fun f s8 q8 => ?_) fun _ _ z => z.elim
  have hcls2 : (X.env.scope.kind == .class || (X.env.scope.kind == .module && X.env.locals != X.env.globals)) = false := by rw [I.ok.kind]; rfl
  have done : ∀ {σ' : St} {H2 : Hp} {R : Unit → Shared → Prop}, Inv (X.markX a) pins σ' H2 s8 → (∀ s9, Inv X pins (σ'.set i none) H2 s9 → R () s9) → wpAny (model X.prog X.w) X.A (do bindName X.env n .none; unbindBehindTheSuite X.env n hpos) R X.xe s8 := fun {σ' H2 R} I8 kk => by
    have I8' := I8.unmark calm
    obtain ⟨m, hn, hlk⟩ := I8'.loc
    exact wpAny_nameGoes_keeps hl hn hcls2 fun h9 v hn9 same => kk _ (I8'.goes nd hi hlk hn9 same)
  cases f with
  | next => obtain ⟨σ', H2, I8, z⟩ := q8; exact done I8 fun s9 I9 => ⟨_, H2, I9, z⟩
  | brk => obtain ⟨σ', H2, I8, z⟩ := q8; exact done I8 fun s9 I9 => ⟨_, H2, I9, z⟩
  | cont => obtain ⟨σ', H2, I8, z⟩ := q8; exact done I8 fun s9 I9 => ⟨_, H2, I9, z⟩
  | ret u => obtain ⟨v, σ', H2, I8, r, z⟩ := q8; exact done I8 fun s9 I9 => ⟨v, _, H2, I9, r, z⟩
end
/-! ### isinstance(e, C) of a caught exception -/
section
open Builtin Builtin.ObjectAttr Builtin.Getset_descriptor PySem.Calls
variable {K : PySem.W.Frag}
theorem looks_dd {M : Model} {h : Heap} {a C : Addr} {nm : Str} {d g : Value} (X : K.In h) (ha : PySem.W.findIn K (.ref C) nm = some (some d)) (hg : PySem.W.specialIn K d "__get__" = some (some g)) (ht : PySem.W.takesIn K d = some true) :
    PySem.W.Looks M h (find (.ref a) (.ref C) nm) (.bind g d) :=
  (PySem.W.looks_findIn X ha).andThen ((show PySem.W.Looks M h (getOf (some d)) (some g) from PySem.W.looks_specialIn X hg).andThen
    ((show PySem.W.Looks M h (dataDescriptor? (some d) (some g)) (some (g, d)) from (PySem.W.looks_takesIn X ht).andThen .now).andThen (PySem.W.Looks.tag .now)))
/-- what is known of an own class of exceptions -/
structure ExcCls (K : PySem.W.Frag) (D : Addr) : Prop where
  cls : PySem.W.isClsIn K D = true
  ga : PySem.W.findIn K (.ref D) "__getattribute__" = some (some (.builtin "BaseException.__getattribute__"))
  gt : PySem.W.findIn K (.ref D) "__getattr__" = some none
  ca : PySem.W.findIn K (.ref D) "__class__" = some (some (.builtin "object.__class__"))
  gs : PySem.W.specialIn K (.builtin "object.__class__") "__get__" = some (some (.builtin "getset_descriptor.__get__"))
  tk : PySem.W.takesIn K (.builtin "object.__class__") = some true
  ob : PySem.W.mroIn K D (.type "object") = some true
  bx : PySem.W.mroIn K D (.type "BaseException") = some true
abbrev ExcAtφ (a : Addr) (cls : Value) : Heap → Prop := fun h => ∃ o, h.get? a = some o ∧ o.cls = cls ∧ PySem.W.notCls o = true
variable {D a : Addr} {prog : Program} {w : World} {A : Around} {E : Value → Shared → Prop} {s : Shared}
theorem exc_ty {M : Model} {h : Heap} {c : Value} (p : ExcAtφ a c h) : PySem.W.Looks M h (typeOf (.ref a)) c := by
  obtain ⟨o, h1, h2, _⟩ := p
  exact h2 ▸ (PySem.W.Looks.ld h1).andThen .now
theorem exc_get {R : Result → Shared → Prop} {tp : Value} (C : ExcCls K D) (X : K.In s.heap) (p : ExcAtφ a (.ref D) s.heap) (h : R (.ok (.ret (.ref D))) s) :
    codeAny (model prog w) A (.call (.builtin "getset_descriptor.__get__") ⟨[.builtin "object.__class__", .ref a, tp], []⟩) R s := by
  obtain ⟨hp, gn, dr, tk, os⟩ := s
  have ty := exc_ty (M := model prog w) p
  have mr := PySem.W.looks_mroIn (M := model prog w) X C.ob
  refine codeAny_call_builtin PySem.W.KF.slot_gs.plain PySem.W.KF.entry_gs
    (PySem.W.KF.slot_gs.check _ _ _ _ _ _ _ _ PySem.W.KF.type_class (PySem.W.KF.args_gs _ _ _) ?_)
  unfold Builtin.«getset_descriptor.__get__» descrGet
  rw [PySem.W.dga_obj]
  refine wpAny_bind (wpAny_pure ?go)
  unfold descrGetter descrCheckInstance descrNameAndClass isInstance
  simp only [PySem.W.KF.owner_class]
  repeat lk
  refine ⟨Code.quiet_builtin _ (by decide +kernel), ?gg⟩
  refine codeAny_builtin PySem.W.KF.entry_class ?_
  unfold Builtin.«object.__class__» shownTypeOf
  repeat lk
  exact h
theorem bexc_split : splitId "BaseException.__getattribute__" = some ("BaseException", "__getattribute__") := by decide +kernel
theorem bexc_kind : (Manifest.find? "BaseException").bind (·.attrs.lookup "__getattribute__") = some .slot ∨ (Manifest.find? "BaseException").bind (·.attrs.lookup "__getattribute__") = some .method := by
  first | exact .inl (by decide +kernel) | exact .inr (by decide +kernel)
theorem exc_check {M : Model} {rest : List Value} {Q : Unit → Shared → Prop} (C : ExcCls K D) (X : K.In s.heap) (p : ExcAtφ a (.ref D) s.heap) (ha : argsOk "BaseException.__getattribute__" ⟨.ref a :: rest, []⟩) (h : Q () s) :
    wpAny M A (checkBuiltinCall "BaseException.__getattribute__" ⟨.ref a :: rest, []⟩) Q E s := by
  have isi : PySem.W.Looks M s.heap (isInstance (.ref a) (.type "BaseException")) true := (exc_ty p).andThen (PySem.W.looks_mroIn X C.bx)
  have kind : builtinKind "BaseException.__getattribute__" = (Manifest.find? "BaseException").bind (·.attrs.lookup "__getattribute__") := by simp only [builtinKind, bexc_split]
  rcases bexc_kind with q | q
  all_goals
    simp only [checkBuiltinCall, kind, q, bexc_split]
    refine wpAny_bind (isi.here ?_)
    simp only [Bool.not_true, Bool.false_eq_true, if_false]
    cases sg : Manifest.signature? "BaseException.__getattribute__" with
    | none => exact wpAny_pure h
    | some sig =>
      simp only [argsOk, sg] at ha
      have ha' : Bind.checkArgs "BaseException.__getattribute__" sig ⟨.ref a :: rest, []⟩ = pure () := ha
      show wpAny M A (Bind.checkArgs "BaseException.__getattribute__" sig ⟨.ref a :: rest, []⟩) Q E s
      rw [ha']
      exact wpAny_pure h
theorem exc_class {Q : Option Value → Shared → Prop} (C : ExcCls K D) (X : K.In s.heap) (p : ExcAtφ a (.ref D) s.heap) (h : Q (some (.ref D)) { s with toks := s.toks + 1 }) : wpAny (model prog w) A (getAttr? (.ref a) "__class__") Q E s := by
  obtain ⟨hp, gn, dr, tk, os⟩ := s
  have ty := exc_ty (M := model prog w) p
  have l1 := PySem.W.looks_findIn (M := model prog w) X C.ga
  have l2 := looks_dd (M := model prog w) (a := a) X C.ca C.gs C.tk
  have l3 := PySem.W.looks_findIn (M := model prog w) X C.gt
  unfold getAttr? getAttrBy? getAttrBy
  refine wpAny_bind (wpAny_mkText (wpAny_bind (wpAny_attempt (wpAny_holding (wpAny_bind (ty.at ?z))))))
  refine wpAny_bind (l1.at ?_)
  show wpAny _ _ (getAttrByItsOwn _ _ _ _ _ _) _ _ _
  unfold getAttrByItsOwn hookBefore
  refine wpAny_bind (l3.at ?_)
  refine wpAny_bind (wpAny_attempt (wpAny_holding ?_))
  show wpAny _ _ (boundAndCalled _ _ _) _ _ _
  unfold boundAndCalled
  refine wpAny_bind ?_
  rw [F.excAttr_ValueError.ga.bind (.ref a)]
  refine wpAny_pure (wpAny_call ?_)
  refine codeAny_call_builtin F.excAttr_ValueError.ga.plain F.entry_bexc_ga (exc_check (s := ⟨hp, gn, dr, tk + 1, os⟩) C X p (F.args_bexc_ga _ _) ?_)
  unfold Builtin.«object.__getattribute__»
  refine wpAny_bind (wpAny_pure (wpAny_bind (wpAny_pure (wpAny_bind (ty.at (wpAny_bind (l2.at ?_)))))))
  show wpAny _ _ (bindTo (.builtin "getset_descriptor.__get__") (.builtin "object.__class__") (.ref a) (.ref D)) _ _ _
  unfold bindTo
  show wpAny _ _ (holding [.builtin "object.__class__"] (call (.builtin "getset_descriptor.__get__") [.builtin "object.__class__", .ref a, .ref D]) >>= ret) _ _ _
  refine wpAny_bind (wpAny_holding (wpAny_call (exc_get (s := ⟨hp, gn, dr, tk + 1, os⟩) C X p ?_)))
  exact wpAny_pure (PySem.W.handed_on rfl (wpAny_pure h))
theorem kitx_exc (C : ExcCls K D) : PySem.W.KitX K (.ref a) (.ref D) (ExcAtφ a (.ref D)) where
  ty := fun _ _ _ p => exc_ty p
  it := fun _ _ X _ => by
    obtain ⟨cd, hc⟩ := Option.isSome_iff_exists.mp C.cls
    unfold PySem.W.clsIn at hc
    split at hc
    · rename_i ho
      intro A' Q' E' s' kk q
      unfold isType loadHead
      exact wpAny_bind (wpAny_loadPart (kk _ _ (X _ _ ho)) (wpAny_pure q))
    · cases hc
  ne := fun h tp dd its n sl X htp => by
    obtain ⟨cd, hc⟩ := Option.isSome_iff_exists.mp C.cls
    refine Bool.eq_false_iff.mpr fun q => ?_
    cases Value.ref.inj (beq_iff_eq.mp q)
    unfold PySem.W.clsIn at hc
    split at hc
    · rename_i ho
      cases (X _ _ ho).symm.trans htp
    · cases hc
  ca := fun X p k => exc_class C X p k
end
section
variable {X : Cx}
/-- isinstance(e, C): e caught, C an own class or a built-in one -/
theorem call_isinstX : CallR X (.builtin "isinstance") (fun xs H Q => ∃ a y c cD b, xs = [.ref a, y] ∧ H a = some (excO a (.ref cD)) ∧ RelV y c ∧ ExcCls X.K cD ∧ PySem.W.kitOne X.K (.ref cD) c = some b ∧ Q (.bl b) H) := by
  intro pins s σ H xs us Q I r h
  obtain ⟨a, y, c, cD, b, rfl, ha, ry, hc, e, q⟩ := h
  obtain ⟨u, w', rfl, r1, r2⟩ := vals2 r
  cases (show u = Value.ref a from r1)
  have ew : w' = c := relV_uniq ry r2 hc e
  subst ew
  obtain ⟨p, _, _⟩ := (show ObjOk X.prog X.w H s.heap a (excO a (.ref cD)) from I.hok a _ ha)
  exact PySem.W.kia_one (kitx_exc hc) I.kIn p e (fun z => nomatch z) fun tk => ⟨.bl b, H, I.tok tk, rfl, q⟩
where
  relV_uniq {K : PySem.W.Frag} {y : V} {c w' : Value} {cD : Addr} {b : Bool} (ry : RelV y c) (r2 : RelV y w') (_ : ExcCls K cD) (e : PySem.W.kitOne K (.ref cD) c = some b) : w' = c := by
    cases y with
    | ref q => exact (show w' = _ from r2).trans (show c = _ from ry).symm
    | ty q => exact (show w' = _ from r2).trans (show c = _ from ry).symm
    | non => exact (show w' = _ from r2).trans (show c = _ from ry).symm
    | bl q => exact (show w' = _ from r2).trans (show c = _ from ry).symm
    | int q => obtain ⟨t, rfl⟩ := ry; unfold PySem.W.kitOne PySem.W.kitCls at e; split at e <;> simp at *
    | str q => obtain ⟨t, rfl⟩ := ry; unfold PySem.W.kitOne PySem.W.kitCls at e; split at e <;> simp at *
    | byt q => obtain ⟨t, rfl⟩ := ry; unfold PySem.W.kitOne PySem.W.kitCls at e; split at e <;> simp at *
    | flt q => obtain ⟨t, rfl⟩ := ry; unfold PySem.W.kitOne PySem.W.kitCls at e; split at e <;> simp at *
end
end L2

/-! AN EXCEPTION OUT OF A COMPREHENSION -/
namespace L2
open PySem PySem.Spec PyProof.Rows
/-- an exception on its way, whatever its mark -/
def Air (base : Heap) (l : List Env) (e : Addr) (cls a0 fl : Value) (h : Heap) : Prop := base.StaysIn h ∧ base.get? e = none ∧ h.FunFrames base l ∧ h.TracedAtW base e cls a0 fl
section
variable {M : Model} {A : Around} {E : Value → Shared → Prop} {s : Shared} {base : Heap} {l : List Env} {e : Addr} {cls a0 fl : Value}
theorem note_same {env env' : Env} (h : env.frame = env'.frame) (v : Value) : noteFrame v env = noteFrame v env' := by
  unfold noteFrame PySem.frameOf
  rw [h]
/-- the mark is set anew -/
theorem mark_air {Q : Unit → Shared → Prop} (f : Option Addr) (x : Air base l e cls a0 fl s.heap)
    (h : ∀ h', Air base l e cls a0 (f.elim Value.none fun q => rawInt q) h' → s.heap.UpToSlots h' → Q () { s with heap := h' }) : wpAny M A (setFlight (.ref e) f) Q E s := by
  obtain ⟨x1, x2, x3, oe, vs, T, oT, ts, he, hc, hd, h1, hn, hTe, hT, hdT, h3⟩ := x
  have sz : 3 < ts.size := (Array.getElem?_eq_some_iff.mp h3).1
  have oth : ∀ b, b ≠ T → (s.heap.update T (Obj.mapFields (·.setIfInBounds 3 (f.elim Value.none fun q => rawInt q)))).get? b = s.heap.get? b := fun b hb => Heap.get?_update_other _ _ (Ne.symm hb)
  have rec' : ∀ b o, s.heap.get? b = some o → (∀ vs, o.data ≠ .fields vs) → b ≠ T := fun b o hb hnf q => by
    rw [q, hT] at hb
    cases hb
    exact hnf ts hdT
  unfold setFlight
  refine wpAny_bind (wpAny_field he hd h1 ?_)
  rw [if_pos (by simp)]
  refine wpAny_setField hT hdT sz (h _ ⟨fun b o hb => (oth b fun q => by rw [q, hn] at hb; cases hb).trans (x1 b o hb), x2, x3.of_keeps fun b o hb hnf => ⟨o, (oth b (rec' b o hb hnf)).trans hb, rfl⟩, ?_⟩ fun b o hb hnf => ⟨o.slots, (oth b (rec' b o hb hnf)).trans hb⟩)
  exact ⟨oe, vs, T, _, _, (oth e (Ne.symm hTe)).trans he, hc, hd, h1, hn, hTe, Heap.get?_update_self _ hT (Obj.isFreed_of_fields (Obj.data_mapFields hdT _)), Obj.data_mapFields hdT _, by simp [sz]⟩
theorem leave_air {env : Env} {outer : List Env} {L : Addr} {Q : Unit → Shared → Prop} (hfr : A.frames = some (env :: outer)) (hf : env.frame = some L) (x : Air base (env :: outer) e cls a0 fl s.heap)
    (h : ∀ h', Heap.FlyingW base outer e cls a0 h' → s.heap.UpToSlots h' → Q () { s with heap := h' }) : wpAny M A (leaving env (.ref e)) Q E s := by
  by_cases hl : fl = rawInt L
  · subst hl
    unfold leaving
    refine wpAny_bind (wpAny_noteFrame_againW hf x.2.2.2 (wpAny_landsW (L := L) x fun h' ⟨y1, y2, y3, y4⟩ up => h h' ⟨y1, y2, y3.2.2, y4⟩ up))
  · obtain ⟨x1, x2, x3, oe, vs, T, oT, ts, he, ⟨hc, h0⟩, hd, h1, hn, hTe, hT, hdT, h3⟩ := x
    subst hc
    have oth : ∀ b, b ≠ T → (s.heap.update T (Obj.mapFields (·.setIfInBounds 3 Value.none))).get? b = s.heap.get? b := fun b hb => Heap.get?_update_other _ _ (Ne.symm hb)
    have rec' : ∀ b o, s.heap.get? b = some o → (∀ vs, o.data ≠ .fields vs) → b ≠ T := fun b o hb hnf q => by
      rw [q, hT] at hb
      cases hb
      exact hnf ts hdT
    unfold leaving noteFrame
    simp only [hf]
    refine wpAny_bind (wpAny_bind (wpAny_field he hd h1 ?_))
    rw [if_pos (by simp)]
    refine wpAny_bind (wpAny_field hT hdT h3 ?_)
    rw [if_neg (by simpa using hl)]
    refine wpAny_bind (wpAny_setField hT hdT (Array.getElem?_eq_some_iff.mp h3).1 ?_)
    refine wpAny_newEntryW hfr (x3.of_keeps fun b o hb hnf => ⟨o, (oth b (rec' b o hb hnf)).trans hb, rfl⟩) hf ((oth e (Ne.symm hTe)).trans he)
      (fun b o hb => (oth b fun q => by rw [q, hn] at hb; cases hb).trans (x1 b o hb)) x2 hd (Array.getElem?_eq_some_iff.mp h1).1 h0 fun h' z => ?_
    obtain ⟨z1, z2, z3, z4⟩ := z
    exact h h' ⟨z1, x2, z2.2.2, z3⟩ fun b o hb hnf => z4 b o ((oth b (rec' b o hb hnf)).trans hb) hnf
theorem pass_air {α : Type} {what : String} {env : Env} {Q : α → Shared → Prop} (x : Air base l e cls a0 fl s.heap) (h : ∀ h' fl', Air base l e cls a0 fl' h' → s.heap.UpToSlots h' → E (.ref e) { s with heap := h' }) : wpAny M A (PySem.passOn what (.ref e) env) Q E s := by
  have x' := x
  obtain ⟨_, _, _, oe, vs, T, oT, ts, he, hc, hd, h1, _⟩ := x'
  unfold PySem.passOn
  refine wpAny_bind (wpAny_field he hd h1 ?_)
  rw [if_neg (by simp)]
  first
    | exact wpAny_bind (wpAny_pure (wpAny_bind (mark_air env.frame x fun h' y up => wpAny_throw (h h' _ y up))))
    | exact wpAny_bind (mark_air env.frame x fun h' y up => wpAny_throw (h h' _ y up))
/-- an object of the heap that stays is changed: the rest stays -/
theorem Air.but {h h' : Heap} {C : Addr} {o : Obj} (x : Air base l e cls a0 fl h) (hC : base.get? C = some o) (hs : Heap.SameBut C h h') : Air (PySem.W.hideAll base [C]) l e cls a0 fl h' := by
  obtain ⟨x1, x2, x3, oe, vs, T, oT, ts, he, hc, hd, h1, hn, hTe, hT, hdT, h3⟩ := x
  have ne : ∀ {b : Addr}, base.get? b = none → b ≠ C := fun hb z => by rw [z, hC] at hb; cases hb
  have hid : ∀ {b : Addr}, base.get? b = none → (PySem.W.hideAll base [C]).get? b = none := fun {b} hb => by
    cases q : (PySem.W.hideAll base [C]).get? b with
    | none => rfl
    | some o => rw [PySem.W.of_hideAll _ q] at hb; cases hb
  refine ⟨fun b o hb => ?_, hid x2, ?_, oe, vs, T, oT, ts, (hs.2 e (ne x2)).trans he, hc, hd, h1, hid hn, hTe, (hs.2 T (ne hn)).trans hT, hdT, h3⟩
  · have nb : b ≠ C := fun z => by rw [z, PySem.W.hideAll_none [C] (List.mem_singleton.mpr rfl)] at hb; cases hb
    exact (hs.2 b nb).trans (x1 b o (PySem.W.of_hideAll _ hb))
  · clear he hT hn x2
    induction l with
    | nil => trivial
    | cons env r ih =>
      obtain ⟨k1, ⟨L, oL, q1, q2, q3, q4⟩, k2⟩ := x3
      exact ⟨k1, ⟨L, oL, q1, hid q2, (hs.2 L (ne q2)).trans q3, q4⟩, ih k2⟩
end
end L2


namespace L2
open PySem PySem.Spec PyProof.Rows
/-- an exception on its way reaches what is wanted; C: the block's own names, which go -/
structure ExitsA (X : Cx) (E : XK) : Prop where
  air : ∀ (pins : List (Addr × Obj)) (σ : St) (H : Hp) (s : Shared) (H' : Hp) (B : Heap) (C a : Addr) (cls a0 fl : Value) (s' : Shared), Inv X pins σ H s → UnB (frs X.stack) H H' s.heap B → HOk X.prog X.w H' B → X.s₀.heap.objs.size ≤ C → H' C = none →
    Air (PySem.W.hideAll B [C]) X.stack a cls a0 fl s'.heap → s'.os = s.os → AllBare s'.gens → Slots (frs X.stack) s.heap s'.heap → E cls none H' → X.xe (.ref a) s'
theorem exitsA {P : Program} {w : World} {K : PySem.W.Frag} {mg : Str → Option Value} {base : Heap} {N : List Str} {qual : Str} {scope : Scope} {f : Addr} {cd : Value} {A : Around} {outer : List Env} {s0 : Shared} {H0 : Hp} {E : XK} :
    ExitsA (cxOf (CXR P w) P w K mg base N qual scope f cd A outer s0 H0 E) E where
  air := by
    intro pins σ H s H' B C a cls a0 fl s' I U ok hC nC air os bare sl hE
    have U0 := unb_out I U
    have lt : ∀ b o, s0.heap.get? b = some o → b ∉ [C] := fun b o e z => by
      rw [List.mem_singleton.mp z] at e
      exact absurd (Nat.lt_of_lt_of_le (Heap.lt_size e) hC) (Nat.lt_irrefl _)
    have U1 : UnB (frs outer) H0 H' s0.heap (PySem.W.hideAll B [C]) := ⟨fun b o e n hb => PySem.W.hideAll_get _ (U0.keep b o e n hb) (lt b o e), U0.free, fun b o e hb => by
      obtain ⟨o2, e2⟩ := U0.there b o e hb
      exact ⟨o2, PySem.W.hideAll_get _ e2 (lt b o e)⟩, U0.tups, U0.frzs, U0.tbls⟩
    have ok1 : HOk P w H' (PySem.W.hideAll B [C]) := fun b u e => (ok b u e).stay (fun c v hc q => PySem.W.hideAll_get _ q fun z => by
      have hz : H' c = none := by rw [List.mem_singleton.mp z]; exact nC
      rcases hc with rfl | hc
      · rw [hz] at e; cases e
      · rw [hz] at hc; cases hc) (fun _ q => q) fun _ _ q => q
    exact leave_air I.ok.frames rfl air fun h2 fl2 up => ⟨a, cls, H', rfl, ⟨⟨_, _, U1, ok1, fl2⟩, os.trans I.os, bare, slots_out I (sl.up up)⟩, hE⟩
/-- what is wanted of an exception within a block -/
def blkE (X : Cx) (N : List Str) (scope : Scope) (cl : List (Str × Addr)) (E : XK) (s₀ : Shared) (H₀ : Hp) (ex : List Addr) : Value → Shared → Prop := fun e s' => ∃ pins σ H s, Inv (blk X N scope cl s₀ H₀ ex NoX) pins σ H s ∧ CXR X.prog X.w X.stack H s E e s'
theorem exitsB {P : Program} {w : World} {X : Cx} {N : List Str} {scope : Scope} {cl : List (Str × Addr)} {E : XK} {s₀ : Shared} {H₀ : Hp} {ex : List Addr} (hP : X.prog = P := by rfl) (hw : X.w = w := by rfl) :
    ExitsS (CXR P w) (blk X N scope cl s₀ H₀ ex (blkE X N scope cl E s₀ H₀ ex)) fun _ => E := by
  subst hP hw
  exact ⟨fun pins σ H s _ _ I z => ⟨pins, σ, H, s, Inv.unwish (X := blk X N scope cl s₀ H₀ ex NoX) I, z⟩⟩
section
variable {X : Cx} {x : Str} {fv : List (Str × Nat)} {scope : Scope} {cl : List (Str × Addr)} {pins : List (Addr × Obj)} {σ : St} {px pos : Pos} {iter elt : Expr} {te : TEB}
theorem comp_blockX {E : XK} {s2 : Shared} {H2 : Hp} {it : Addr} {fp : List Addr} {tn : Nat → Heap → Prop} {J : It} (ok : CompOk X x fv scope cl) (hc : X.calm = true)
    (hA : ExitsA X E) (hst : X.stack = X.env :: X.outer) (hfr : X.env.frame = some X.env.locals) (he : ∀ s₀ H₀ ex, PE (blk X (x :: fv.map (·.1)) scope cl s₀ H₀ ex (blkE X (x :: fv.map (·.1)) scope cl E s₀ H₀ ex)) elt (te s₀ H₀ ex)) (I2 : Inv X pins σ H2 s2) (T : Turn X.prog X.w X.K (.Name x px) J fp it tn) (st2 : tn 0 s2.heap) (f2 : ∀ b ∈ fp, FpOk X pins H2 b)
    {Qv : VK} (hQ : tCompJ fv te σ J H2 Qv) {RR : Value → Addr → Result → Shared → Prop}
    (hRE : ∀ acc C m e s', s'.heap.Ns C m → (∀ h', Heap.SameBut C s'.heap h' → ∀ cenv : Env, cenv.locals = C → wpAny (model X.prog X.w) X.A (PySem.passOn "comprehension.variables-let-go" e cenv : Sem Value) (fun _ _ => False) X.xe { s' with heap := h' }) → RR acc C (.error e) s')
    (hRR : ∀ D C m' H' s', Inv X pins σ H' s' → s'.heap.Ns C m' → FpOk X pins H' C → Qv (.ref D) H' → RR (.ref D) C (.ok .next) s') :
    wpAny (model X.prog X.w) X.A (newList []) (fun acc s₃ => wpAny (model X.prog X.w) X.A (newFunctionEnv scope X.env.globals cl [] X.env.qual none .none (some X.env)) (fun cenv s₄ =>
      codeAny (model X.prog X.w) X.A (.compStart (.ListComp elt [⟨.Name x px, iter, [], 0⟩] scope pos) 0 (.ref it) acc { cenv with scope := relabel scope X.env }) (RR acc cenv.locals) s₄) X.xe s₃) X.xe s2 := by
  refine wpAny_newObj_type (wpAny_newFunctionEnv ok.nocell (by intro y hy; simp at hy) (fun h₁ hns₁ hsb₁ => ?_) ok.kind)
  dsimp only at hns₁ hsb₁ ⊢
  have I3 : Inv X pins σ (upd H2 s2.heap.objs.size (.lst [])) { s2 with heap := s2.heap.push { cls := .type "list", dict := none, data := .seq ([] : List Value).toArray } } :=
    I2.laid (t' := s2.toks) (fun b o e => Heap.get?_push_of_some _ e) (Nat.le_refl _) ⟨Nat.zero_le _, [], 0, .nil, Heap.get?_push_size _ rfl⟩
  have hD : H2 s2.heap.objs.size = none := I2.hok.fresh (Nat.le_refl _)
  generalize hs3 : ({ s2 with heap := s2.heap.push { cls := .type "list", dict := none, data := .seq ([] : List Value).toArray } } : Shared) = s3 at I3
  have eh : s2.heap.push { cls := .type "list", dict := none, data := .seq ([] : List Value).toArray } = s3.heap := by rw [← hs3]
  rw [eh] at hns₁ hsb₁ ⊢
  have fl : ∀ b ∈ fp, b < s2.heap.objs.size := fun b hb => by
    obtain ⟨o, e, _⟩ := T.obj _ _ st2 b hb
    exact Heap.lt_size e
  have sz3 : s3.heap.objs.size = s2.heap.objs.size + 1 := by rw [← eh, Heap.size_push]
  have f3 : ∀ b ∈ fp, FpOk X pins (upd H2 s2.heap.objs.size (.lst [])) b := fun b hb => ⟨by rw [upd_ne (Nat.ne_of_lt (fl b hb))]; exact (f2 b hb).1, (f2 b hb).2⟩
  have fl3 : ∀ b ∈ fp, b < s3.heap.objs.size := fun b hb => by rw [sz3]; exact Nat.lt_succ_of_lt (fl b hb)
  have old3 : ∀ b o, s3.heap.get? b = some o → h₁.get? b = some o := fun b o e => hsb₁.extBut b o (Nat.ne_of_lt (Heap.lt_size e)) (Heap.get?_push_of_some _ e)
  have old2 : ∀ b o, s2.heap.get? b = some o → h₁.get? b = some o := fun b o e => old3 b o (by rw [← eh]; exact Heap.get?_push_of_some _ e)
  have st1 : tn 0 h₁ := T.keep _ _ _ st2 fun b _ o e => old2 b o e
  have IY := blk_start (E := NoX) I3 ok f3 fl3 hns₁ old3 (s3.toks + ([] : List (Str × Value)).length)
  obtain ⟨W, ⟨m0, w0⟩, turn⟩ := hQ s2.heap.objs.size hD
  have loop : ∀ s4 : Shared, s4 = { s3 with heap := h₁, toks := s3.toks + ([] : List (Str × Value)).length } →
      codeAny (model X.prog X.w) X.A (.compLoop (.ListComp elt [⟨.Name x px, iter, [], 0⟩] scope pos) 0 (.ref it) (.ref s2.heap.objs.size) (compEnvC scope cl s3.heap.objs.size X.env)) (RR (.ref s2.heap.objs.size) s3.heap.objs.size) s4 := by
    rintro s4 rfl
    have stat : ∀ {H' : Hp}, (∀ b ∈ fp, H' b = none) → ∀ b ∈ fp, FpOk (blk X (x :: fv.map (·.1)) scope cl s3 (upd H2 s2.heap.objs.size (.lst [])) fp NoX) [] H' b := fun hn b hb =>
      ⟨hn b hb, Nat.ne_of_lt (fl3 b hb), fun z => by
        rcases List.mem_cons.mp (I3.stkSub b z) with e | e
        · exact (f2 b hb).2.1 e
        · exact (f2 b hb).2.2.1 e, .inl hb, fun y c h => (f2 b hb).2.2.2.2.1 y c (ok.sub h), fun p hp => absurd (show p ∈ ([] : List (Addr × Obj)) from hp) (by simp)⟩
    refine codeAny_compLoop_L (fun n s' => ∃ i o H' ys, Inv (blk X (x :: fv.map (·.1)) scope cl s3 (upd H2 s2.heap.objs.size (.lst [])) fp NoX) [] (blkS fv σ o) H' s' ∧ tn i s'.heap ∧ (∀ b ∈ fp, H' b = none) ∧ W i n ys H') ?_ m0
      ⟨0, none, _, [], IY, st1, fun b hb => (f3 b hb).1, w0⟩
    rintro n s5 ⟨i, o, H5, ys, I5, st5, fr5, w5⟩
    obtain ⟨hD5, w5⟩ := turn i n ys H5 w5
    rcases w5 with ⟨stop, qn⟩ | ⟨go, hsz, step⟩
    · refine wpAny_mono (T.done (blk X (x :: fv.map (·.1)) scope cl s3 (upd H2 s2.heap.objs.size (.lst [])) fp NoX) rfl rfl rfl hc i [] s5 _ H5 NoX I5 (stat fr5) st5 stop) (fun r s6 ⟨hr, I6⟩ => ?_) fun _ _ z => z.elim
      subst hr
      obtain ⟨m', hm', _⟩ := I6.loc
      have I7 : Inv X pins σ H5 s6 := I3.call' (ch := fp) (by rw [I6.os]) I6.base I6.hok I6.bare fun b hb => ⟨(f2 b hb).2.2.2.1, (f2 b hb).2.1, (f2 b hb).2.2.2.2.1, (f2 b hb).2.2.2.2.2⟩
      exact hRR _ _ m' H5 s6 I7 hm' (I3.fpOk (Nat.le_refl _) I6.free) qn
    · refine wpAny_mono (T.item (blk X (x :: fv.map (·.1)) scope cl s3 (upd H2 s2.heap.objs.size (.lst [])) fp NoX) rfl rfl rfl hc i [] s5 _ H5 NoX I5 (stat fr5) st5 go) (fun r s6 ⟨u, hr, h6⟩ => ?_) fun _ _ z => z.elim
      subst hr
      refine wpAny_mono h6 (fun _ s7 ⟨v, H7, I7, r7, y7, st7, fr7⟩ => ?_) fun _ _ z => z.elim
      have I7' := I7.pinned (stat fr7) (T.obj _ _ st7)
      have hx : Loc (blk X (x :: fv.map (·.1)) scope cl s3 (upd H2 s2.heap.objs.size (.lst [])) fp NoX).env.scope x := .inl (lookup_relabel_local ok.here)
      refine wpAny_assign_Name (store_ok (X := blk X (x :: fv.map (·.1)) scope cl s3 (upd H2 s2.heap.objs.size (.lst [])) fp NoX) (i := 0) I7' ok.nd rfl hx r7 (fun s8 I8 => ?_) (.inr (lookup_relabel_local ok.here)))
      refine wpAny_mono (he s3 _ fp _ s8 (blkS fv σ (some v)) H7 _ (I8.wish (blkE X (x :: fv.map (·.1)) scope cl E s3 (upd H2 s2.heap.objs.size (.lst [])) fp)) (step v H7 y7 _ _ _)) (fun u9 s9 q9 => ?_) fun e9 s9 z9 => ?err
      case err =>
        obtain ⟨pb, σb, Hb, sb, Ib, a, cls, H', rfl, F, hE⟩ := z9
        have IX : Inv X pins σ Hb sb := I3.call' (ch := fp) (by rw [Ib.os]) Ib.base Ib.hok Ib.bare fun b hb => ⟨(f2 b hb).2.2.2.1, (f2 b hb).2.1, (f2 b hb).2.2.2.2.1, (f2 b hb).2.2.2.2.2⟩
        obtain ⟨B, a0, U, ok', fl⟩ := F.ex
        obtain ⟨mC, hnC, _⟩ := Ib.loc
        obtain ⟨oC, esC, epC, hoC, restC⟩ := id hnC
        have fC : Hb s3.heap.objs.size = none := Ib.free
        have nfC : s3.heap.objs.size ∉ frs X.stack := fun z => by
          obtain ⟨_, o, ho, _⟩ := I3.stack.mem z
          exact Nat.lt_irrefl _ (Heap.lt_size ho)
        have hBC := U.keep _ _ hoC fC nfC
        have fC' := U.free _ _ hoC fC
        rw [show notedBy (model X.prog X.w) X.A (compEnvC scope cl s3.heap.objs.size X.env) = notedBy (model X.prog X.w) X.A X.env by unfold notedBy; funext E' v s'; rw [note_same (show (compEnvC scope cl s3.heap.objs.size X.env).frame = X.env.frame from rfl)]]
        have fl' : Heap.FlyingW B (X.env :: X.outer) a cls a0 s9.heap := by rw [← hst]; exact fl
        have frames : X.A.frames = some (X.env :: X.outer) := by rw [← hst]; exact I2.ok.frames
        refine wpAny_looks_onW frames hfr fl' fun h4 held4 up4 => ?_
        have hC4 : h4.Ns s3.heap.objs.size mC := ⟨oC, esC, epC, held4.1 _ _ hBC, restC⟩
        refine hRE _ _ mC _ _ hC4 fun h5 same cenv _ => ?_
        have air5 : Air (PySem.W.hideAll B [s3.heap.objs.size]) X.stack a cls a0 (rawInt X.env.locals) h5 := Air.but (by rw [hst]; exact held4) hBC same
        have sl5 : Slots (frs X.stack) sb.heap h5 := fun b hb o q d => by
          obtain ⟨sl, e1⟩ := (F.slot.up up4) b hb o q d
          exact ⟨sl, (same.2 b fun z => nfC (z ▸ hb)).trans e1⟩
        refine pass_air (s := { s9 with heap := h5 }) air5 fun h6 fl6 air6 up6 => ?_
        exact hA.air pins σ Hb sb H' B s3.heap.objs.size a cls a0 fl6 { s9 with heap := h6 } IX U ok' (Nat.le_trans I3.sz (Nat.le_refl _)) fC' air6 F.os F.bare (sl5.up up6) hE
      obtain ⟨v9, H9, I9', r9, hD9, m', hm', w9⟩ := q9
      have I9 := Inv.unwish (X := blk X (x :: fv.map (·.1)) scope cl s3 (upd H2 s2.heap.objs.size (.lst [])) fp NoX) I9'
      refine wpAny_mono (mt_append (X := blk X (x :: fv.map (·.1)) scope cl s3 (upd H2 s2.heap.objs.size (.lst [])) fp NoX) _ s9 _ H9 (.ref s2.heap.objs.size) [v9] (.ref s2.heap.objs.size) [u9]
        (fun _ H10 => H10 = upd H9 s2.heap.objs.size (.lst (ys ++ [v9]))) I9 rfl (.cons r9 .nil) ⟨_, ys, v9, rfl, rfl, hD9, hsz, rfl⟩) (fun _ s10 ⟨_, H10, I10, _, e10⟩ => ?_) fun _ _ z => z.elim
      subst e10
      refine ⟨m', hm', i + 1, some v, _, ys ++ [v9], I10.unpinned, T.keep _ _ _ st7 fun b hb o e => (I10.pin (b, o) (List.mem_append_right _ (List.mem_append_right _ (mem_pinsAt hb e)))).1, fun b hb => ?_, w9⟩
      obtain ⟨o, e, d⟩ := T.obj _ _ st7 b hb
      exact (I10.pin (b, o) (List.mem_append_right _ (List.mem_append_right _ (mem_pinsAt hb e)))).2.1
  exact codeAny_compStart_list (loop _ (by rw [← hs3])) (T.self _ 0 _ _ _ st1 (loop _ (by rw [← hs3])))
/-- [elt for x in iter] as a value -/
theorem pe_compX {E : XK} {wi : TI} (ok : CompOk X x fv scope cl) (hc : X.calm = true) (hi : PI X (.Name x px) iter wi) (hA : ExitsA X E) (he : ∀ s₀ H₀ ex, PE (blk X (x :: fv.map (·.1)) scope cl s₀ H₀ ex (blkE X (x :: fv.map (·.1)) scope cl E s₀ H₀ ex)) elt (te s₀ H₀ ex))
    (hs : ∀ v, foldedSetIterable iter X.env v = pure v := by intro _; rfl) (hst : X.stack = X.env :: X.outer := by rfl) (hfr : X.env.frame = some X.env.locals := by rfl) : PE X (.ListComp elt [⟨.Name x px, iter, [], 0⟩] scope pos) (tComp wi fv te) := by
  intro pins s σ H Q I h
  rw [eval_ListComp]
  refine wpAny_comprehension_free (use := none) rfl hs ok.clos ok.kind ok.names (thn (hi pins s σ H _ I h) fun v s1 h1 => thn h1 fun itv s2 h2 => ?_)
  obtain ⟨it, fp, tn, J, H2, rfl, I2, T, st2, f2, hQ⟩ := h2
  refine comp_blockX (RR := fun acc C => compPost (model X.prog X.w) X.A X.xe none (EP X pins σ Q) acc C) ok hc hA hst hfr he I2 T st2 f2 hQ (fun _ _ m _ _ hn k => ⟨m, hn, k⟩) ?_
  intro D C m' H' s' I' hn fC q
  exact ⟨m', hn, fun h' hs' => ⟨.ref D, H', I'.turned (t' := s'.toks) (fun b o hb e => hs'.extBut b o hb e) fC.1 fC.2.1 fC.2.2.2.1 fC.2.2.2.2.1 fC.2.2.2.2.2, rfl, q⟩⟩
/-- y = [elt for x in iter], stored within the block -/
theorem ps_setCompX {E : XK} {wi : TI} {i : Nat} {y : Str} {py spos : Pos} (hN : X.N.Nodup) (hiy : X.N[i]? = some y) (hy : Loc X.env.scope y) (ok : CompOk X x fv scope cl) (hc : X.calm = true) (hi : PI X (.Name x px) iter wi) (hA : ExitsA X E) (he : ∀ s₀ H₀ ex, PE (blk X (x :: fv.map (·.1)) scope cl s₀ H₀ ex (blkE X (x :: fv.map (·.1)) scope cl E s₀ H₀ ex)) elt (te s₀ H₀ ex))
    (hsw : swapsWith (.ListComp elt [⟨.Name x px, iter, [], 0⟩] scope pos) (some (.Name y py)) spos.line X.env = pure true := by rfl)
    (hs : ∀ v, foldedSetIterable iter X.env v = pure v := by intro _; rfl) (hst : X.stack = X.env :: X.outer := by rfl) (hfr : X.env.frame = some X.env.locals := by rfl) (hf : X.fn y = true ∨ X.env.scope.names.lookup y = some .local := by first | exact .inl rfl | exact .inr rfl | assumption) :
    PS X (.Assign [.Name y py] (.ListComp elt [⟨.Name x px, iter, [], 0⟩] scope pos) spos) (tAsg (tComp wi fv te) (gName i)) := by
  intro pins s σ H D I h
  rw [exec_Assign_Name_used _ _ _ _ hsw]
  refine wpAny_bind (wpAny_standAt (wpAny_bind ?_))
  show wpAny _ _ (do let _ ← comprehension (.ListComp elt [⟨.Name x px, iter, [], 0⟩] scope pos) scope X.env _ (newList []) false (eval iter X.env) (some (assign (.Name y py) X.env))) _ _ s
  refine wpAny_bind (wpAny_mono (wpAny_comprehension_free (use := some (assign (.Name y py) X.env)) (Q := fun _ s' => SP X pins D .next s') rfl hs ok.clos ok.kind ok.names
    (thn (hi pins s σ H _ I h) fun v s1 h1 => thn h1 fun itv s2 h2 => ?_)) (fun _ s' hq => wpAny_pure (wpAny_pure hq)) fun _ _ e => e)
  obtain ⟨it, fp, tn, J, H2, rfl, I2, T, st2, f2, hQ⟩ := h2
  refine comp_blockX (RR := fun acc C => compPost (model X.prog X.w) X.A X.xe (some (assign (.Name y py) X.env)) (fun _ s' => SP X pins D .next s') acc C) ok hc hA hst hfr he I2 T st2 f2 hQ (fun _ _ m _ _ hn k => ⟨m, hn, k⟩) ?_
  intro D' C m' H' s' I' hn fC q
  show wpAny _ _ (assign (.Name y py) X.env (.ref D')) _ _ _
  refine wpAny_assign_Name (store_ok2 (v := .ref D') I' hN hiy hy rfl (fun s'' I'' hab => ?_) hf)
  obtain ⟨a, hsb, ha⟩ := hab
  have haC : C ≠ a := by
    rcases ha with e | e
    · rw [e]; exact fC.2.1
    · exact (fC.2.2.2.2.1 y a e).symm
  exact ⟨m', hn.sameBut hsb haC, fun h' hs' => ⟨_, H', I''.turned (t' := s''.toks) (fun b o hb e => hs'.extBut b o hb e) fC.1 fC.2.1 fC.2.2.2.1 fC.2.2.2.2.1 fC.2.2.2.2.2, q⟩⟩
end
end L2

/-! OWN ERROR CLASSES, DEFS THAT RAISE -/
namespace L2
open PySem PySem.Spec PyProof.Rows
abbrev bmVE : List Value := [.type "ValueError", .type "Exception", .type "BaseException", .type "object"]
theorem own_mk {K : PySem.W.Frag} {h : Heap} {mg : Str → Option Value} {x : Str} {C : Addr} {bm : List Value} {nid : String} (X : K.In h) (hm : mg x = some (.ref C)) (q : PySem.W.excIn K C bm nid = true) : OwnCls x C bm nid mg h := by
  refine ⟨hm, ?_⟩
  unfold PySem.W.excIn at q
  split at q
  · rename_i d1 c1 s1 look
    split at q
    · rename_i C1 tl j0 j1 j2 j3 nn j5 em es
      simp only [Bool.and_eq_true, beq_iff_eq, Bool.not_eq_true'] at q
      obtain ⟨⟨⟨⟨⟨rfl, rfl⟩, del⟩, tail⟩, isn⟩, noi⟩ := q
      obtain ⟨f1, f2, f3, f4, f5, f6, f7, f8, f9, f10, f11⟩ := c1
      dsimp only at em del isn noi
      subst em del
      have es' : s1 = #[j0, j1, j2, j3, some (.builtin nn), j5] := by
        obtain ⟨l⟩ := s1
        simp only at es
        rw [es]
      subst es'
      exact ⟨tl, f4, f1, f5, f2, f6, f7, f8, f9, f10, d1, j0, j1, j2, j3, j5, _, X _ _ look, .of_isNs (PySem.W.isNs_of_in X isn), PySem.W.nsMap_none_of_in X isn noi, PySem.W.tail_of_in X tail⟩
    · cases q
  · cases q
section
variable {X : Cx} {CX : CXT} {E : XK} {x : Str} {C : Addr} {j : Nat} {pos cpos np : Pos} {e : Expr} {es : List Expr} {t : TA}
theorem ps_rais (hx : Exits CX X E) (hm : X.mg x = some (.ref C)) (hq : PySem.W.excIn X.K C bmVE "ValueError.__new__" = true) (hr : Room j X.A) (hg : Gl X x) (ha : PA X (e :: es) t)
    (hdb : (x == ("__debug__" : Str)) = false := by decide) (he : starEach (e :: es) X.env = (false, eval e X.env) :: starEach es X.env := by rfl) (hpl : (backTo cpos (starEach es X.env)).any (·.1) = false := by rfl) :
    PS X (.Raise (some (.Call (.Name x np) (e :: es) [] cpos)) none pos) (tRaise C E t) :=
  fun pins s σ H D I h => ps_raise hx (own_mk I.ok.mod.kin hm hq) PySem.F.excBase_ValueError hr hg ha hdb he hpl pins s σ H D I h
theorem ps_rais0 (hx : Exits CX X E) (hm : X.mg x = some (.ref C)) (hq : PySem.W.excIn X.K C bmVE "ValueError.__new__" = true) (hr : Room j X.A) (hg : Gl X x)
    (hdb : (x == ("__debug__" : Str)) = false := by decide) : PS X (.Raise (some (.Call (.Name x np) [] [] cpos)) none pos) (tRaise C E tNil) :=
  fun pins s σ H D I h => ps_raise0 hx (own_mk I.ok.mod.kin hm hq) PySem.F.excBase_ValueError hr hg hdb pins s σ H D I h
end
section
variable {P : Program} {w : World} {K : PySem.W.Frag} {mg : Str → Option Value} {base : Heap}
/-- a def from whose body exceptions may come -/
theorem Fun.okX {x qual : Str} {st : Stmt} {f : Addr} {fd : FuncData} {N ps : List Str} {k : Nat} {sp : Sp} (F : Fun K x qual st f fd) (S : FnScope N ps (defScope st)) (len : ∀ vs H Q E, sp vs H Q E → vs.length = ps.length)
    (hbody : ∀ (cdv : Value) (A : Around) (outer : List Env) (s : Shared) (H : Hp) (vs : List V) (Q : VK) (E : XK), Room k (A.deeper (envOfC qual (defScope st) s.heap.objs.size f cdv)) →
      Exits (CXR P w) (cxOf (CXR P w) P w K mg base N qual (defScope st) f cdv A outer s H E) E → sp vs H Q E →
      ∃ t, PSs (cxOf (CXR P w) P w K mg base N qual (defScope st) f cdv A outer s H E) (defBody st) t ∧ t { nx := fun _ H' => Q .non H', rt := Q } (start N vs) H) : FnOk P w K mg base (CXR P w) (k + 1) f fd ps sp := by
  obtain ⟨oc, od, kV, doc, pm, an, cdv, ct, osl, rfl, lk, hcd⟩ := F.ex
  exact fn_of lk hcd S len fun A outer s H vs Q E hr hsp => hbody cdv A outer s H vs Q E hr exitsR hsp
end
end L2

/-! WEAKER PROMISES -/
namespace L2
open PySem
section
variable {P : Program} {w : World} {K : PySem.W.Frag} {mg : Str → Option Value} {base : Heap} {CX : CXT} {x m : Str} {C : Addr} {k : Nat} {ps : List Str} {sp sp' : Sp}
theorem Def.imp (D : Def P w K mg base CX x k ps sp) (h : ∀ vs H Q E, sp' vs H Q E → sp vs H Q E) : Def P w K mg base CX x k ps sp' :=
  let ⟨f, fd, a, b, c, F⟩ := D.ex; ⟨f, fd, a, b, c, F.imp h⟩
theorem MDef.imp (D : MDef P w K mg base CX C m k ps sp) (h : ∀ vs H Q E, sp' vs H Q E → sp vs H Q E) : MDef P w K mg base CX C m k ps sp' :=
  let ⟨f, fd, a, c, F⟩ := D.ex; ⟨f, fd, a, c, F.imp h⟩
theorem CDef.imp (D : CDef P w K mg base CX x C k ps sp) (h : ∀ vs H Q E, sp' vs H Q E → sp vs H Q E) : CDef P w K mg base CX x C k ps sp' :=
  let ⟨f, fd, a, b, c, F⟩ := D.ex; ⟨f, fd, a, b, c, F.imp h⟩
end
/-- a comprehension whose first element raises -/
theorem comp_range_x {te : TEB} {fv : List (Str × Nat)} {σ : St} {n : Nat} {H1 : Hp} {Q : VK} (hn : 0 < n) (el : ∀ (H' : Hp) (R : VK), Same H1 H' → ∀ s₀ H₀ ex, te s₀ H₀ ex (blkS fv σ (some (nat 0))) H' R) : tCompJ fv te σ (Itr 0 n) H1 Q := by
  intro D hD
  refine ⟨fun i m ys H => i = 0 ∧ ys = [] ∧ Same H1 H ∧ H D = some (.lst []), ⟨0, rfl, rfl, same_new hD, upd_same⟩, ?_⟩
  rintro i m ys H ⟨rfl, rfl, sm, hDi⟩
  refine ⟨hDi, .inr ⟨hn, by decide, fun x H' y => ?_⟩⟩
  obtain ⟨e, y⟩ := y
  subst e y
  intro s₀ H₀ ex
  rw [Int.zero_add]
  exact el _ _ sm s₀ H₀ ex
theorem pe_globC {X : Cx} {x : Str} {C : Addr} {pos : Pos} (hg : Gl X x) (hm : X.mg x = some (.ref C)) (hd : (x == ("__debug__" : Str)) = false := by decide) : PE X (.Name x pos) (tC (.ref C)) := pe_glob hg hm rfl hd
/-- the ways through a statement meet at J -/
def tJ (t : TS) : TS := fun D σ H => ∃ J : St → Hp → Prop, t { D with nx := J } σ H ∧ ∀ σ' H', J σ' H' → D.nx σ' H'
theorem ps_join {X : Cx} {st : Stmt} {t : TS} (h : PS X st t) : PS X st (tJ t) := by
  rintro pins s σ H D I ⟨J, q, k⟩
  refine thn (h pins s σ H _ I q) fun f s' z => ?_
  cases f with
  | next => obtain ⟨σ', H', I', z⟩ := z; exact ⟨σ', H', I', k _ _ z⟩
  | brk => exact z
  | cont => exact z
  | ret u => exact z
theorem one_fits {v : V} : [v].length ≤ sizeLine := by show 1 ≤ sizeLine; decide
theorem two_fits {u v : V} : [u, v].length ≤ sizeLine := by show 2 ≤ sizeLine; decide
theorem bt_ValueError : bootBuiltins "ValueError" = some (.type "ValueError") := by decide +kernel
end L2

/-! A SIGN, SEVERAL TIMES -/
namespace L2
open PySem PySem.Spec PyProof.Rows
theorem fold_signs (c : Nat) : ∀ (k : Nat) (acc : List Nat), (List.replicate k (#[c] : Array Nat)).foldl (· ++ ·) acc.toArray = (acc ++ List.replicate k c).toArray
  | 0, acc => by simp
  | k + 1, acc => by
    rw [List.replicate_succ, List.foldl_cons]
    have e : acc.toArray ++ #[c] = (acc ++ [c]).toArray := by simp
    rw [e, fold_signs c k (acc ++ [c]), List.replicate_succ, List.append_assoc]
    rfl
theorem op_mul_str {X : Cx} : OpR X (binaryOp .Mult) (fun x y H Q => ∃ (c : Nat) (n : Int), x = .str ⟨#[c]⟩ ∧ y = .int n ∧ 0 ≤ n ∧ n ≤ 1000 ∧ Q (.str (txt (List.replicate n.toNat c))) H) := by
  intro pins s σ H x y v u Q I rx ry h
  obtain ⟨c, n, rfl, rfl, h0, h1, q⟩ := h
  obtain ⟨t, rfl⟩ := rx
  obtain ⟨t', rfl⟩ := ry
  have big : 2000000 ≤ sizeLine := by decide
  have one : (⟨#[c]⟩ : Str).length = 1 := rfl
  refine P.mul_str ?_ (fun _ _ => ?_) (fun _ _ => ?_) ?_
  · rw [decide_eq_false (by omega), decide_eq_false (by omega)]; rfl
  · rw [one]
    intro z
    have hn : 1 ≤ n := by omega
    have : (1 : Int) ≤ (2 ^ 63 - 1) / n := by
      refine Int.le_ediv_of_mul_le (by omega) ?_
      omega
    omega
  · rw [one, Nat.one_mul]
    unfold Builtin.Str.tooLong
    exact decide_eq_false (by omega)
  · by_cases z : n < 1
    · have e : n.toNat = 0 := by omega
      rw [if_pos z]
      refine ⟨by decide, .str Str.empty, H, I.tok _, ⟨_, rfl⟩, ?_⟩
      rw [e] at q
      exact q
    · rw [if_neg z]
      by_cases z1 : n = 1
      · subst z1
        rw [if_pos (by simp)]
        exact ⟨.str ⟨#[c]⟩, H, I, ⟨_, rfl⟩, q⟩
      · rw [if_neg (by rw [one]; simpa using z1)]
        have e : (⟨(List.replicate n.toNat (#[c] : Array Nat)).foldl (· ++ ·) #[]⟩ : Str) = txt (List.replicate n.toNat c) := by
          have := fold_signs c n.toNat []
          simp only [List.nil_append] at this
          show (⟨(List.replicate n.toNat (#[c] : Array Nat)).foldl (· ++ ·) [].toArray⟩ : Str) = ⟨_⟩
          rw [this]
        refine ⟨?_, .str (txt (List.replicate n.toNat c)), H, I.tok _, ⟨s.toks, ?_⟩, q⟩
        · show (⟨(List.replicate n.toNat (#[c] : Array Nat)).foldl (· ++ ·) #[]⟩ : Str).length ≤ sizeLine
          rw [e, txt_len, List.length_replicate]; omega
        · exact congrArg (fun z => Value.str z s.toks) e
end L2

/-! THE REPR OF A LIST OF INTS, WITHIN AN F-STRING -/
namespace L2
open PySem PySem.Spec PyProof.Rows
theorem textFrom_le {B : Nat} : ∀ (ts : List Str) (k : Nat) (acc : Str), (∀ t ∈ ts, t.length ≤ B) → (textFrom k acc ts).length ≤ acc.length + ts.length * (B + 2)
  | [], _, acc, _ => by show acc.length ≤ acc.length + 0 * (B + 2); omega
  | t :: r, k, acc, h => by
    have ih := textFrom_le r (k + 1) (acc ++ (if k > 0 then ", " else "" : String) ++ t) fun x hx => h x (List.mem_cons_of_mem _ hx)
    have ht := h t List.mem_cons_self
    have e : (acc ++ (if k > 0 then ", " else "" : String) ++ t).length = acc.length + (if k > 0 then 2 else 0) + t.length := by
      rw [strLen_append, strLen_append]
      congr 2
      split <;> rfl
    have e2 : (if k > 0 then 2 else 0) ≤ 2 := by split <;> decide
    show (textFrom (k + 1) (acc ++ (if k > 0 then ", " else "" : String) ++ t) r).length ≤ acc.length + (r.length + 1) * (B + 2)
    rw [Nat.add_mul, Nat.one_mul]
    omega
theorem shown_ints_le (ns : List Int) (hn : ns.length ≤ 64) (hb : ∀ i ∈ ns, i.natAbs.log2 < 1920) : (PyData.list (ns.map .int)).shown.length ≤ 130000 := by
  have all : ∀ ms : List Int, PyData.shownAll (ms.map .int) = ms.map fun i => (Str.ofString (toString i)) := fun ms => by
    induction ms with
    | nil => simp only [List.map_nil, PyData.shownAll]
    | cons x r ih => simp only [List.map_cons, PyData.shownAll, ih, PyData.shown]
  simp only [PyData.shown]
  unfold listText
  rw [all, strLen_append]
  have := textFrom_le (B := 1921) (ns.map fun i => (Str.ofString (toString i))) 0 "[" fun t ht => by
    obtain ⟨i, hi, rfl⟩ := List.mem_map.mp ht
    exact int_text_len_1921 (hb i hi)
  rw [List.length_map] at this
  have e1 : ("[" : Str).length = 1 := rfl
  have e2 : ("]" : Str).length = 1 := rfl
  omega
theorem showable_ints : ∀ ns : List Int, (∀ i ∈ ns, i.natAbs.log2 < 1920) → PyData.showableAll (ns.map .int) = true
  | [], _ => by simp only [List.map_nil, PyData.showableAll]
  | x :: r, h => by
    have ih := showable_ints r fun i hi => h i (List.mem_cons_of_mem _ hi)
    have hx := h x List.mem_cons_self
    simp only [List.map_cons, PyData.showableAll, PyData.showable, ih, decide_eq_true hx, Bool.and_self]
theorem noDict_ints : ∀ ns : List Int, PyData.hasDictAll (ns.map .int) = false
  | [] => by simp only [List.map_nil, PyData.hasDictAll]
  | x :: r => by simp only [List.map_cons, PyData.hasDictAll, PyData.hasDict, noDict_ints r, Bool.or_self]
theorem depth_ints : ∀ ns : List Int, PyData.depthAll (ns.map .int) ≤ 1
  | [] => by simp only [List.map_nil, PyData.depthAll]; omega
  | x :: r => by
    have := depth_ints r
    simp only [List.map_cons, PyData.depthAll, PyData.depth]
    omega
theorem reads_ints {h : Heap} : ∀ {ns : List Int} {its : List Value}, Vals (ns.map V.int) its → ReadsAll h its (ns.map .int) []
  | [], [], _ => .nil
  | [], _ :: _, r => by cases r
  | _ :: _, [], r => by cases r
  | x :: ns, u :: us, r => by
    cases r with
    | cons r1 r2 =>
      obtain ⟨t, rfl⟩ := r1
      exact .cons (as := []) (bs := []) (.int x t) (reads_ints r2)
section
variable {X : Cx} {pos : Pos} {e : Expr} {es : List Expr} {te : TE} {tj : TJ} {j : Nat}
def tjL (K : PySem.W.Frag) (te : TE) (tj : TJ) : TJ := fun σ H n R => te σ H fun x H1 => ∃ (a : Addr) (ns : List Int), x = .ref a ∧ SqL K H1 a (ns.map V.int) ∧ ns.length ≤ 64 ∧ (∀ i ∈ ns, i.natAbs.log2 < 1920) ∧ n + 130000 ≤ sizeLine ∧ tj σ H1 (n + 130000) R
theorem pj_lst (rm : Room j X.A) (h : PE X e te) (hr : PJ X es tj) (hs : evalEach (.FormattedValue e 114 none pos :: es) X.env = eval (.FormattedValue e 114 none pos) X.env :: evalEach es X.env := by rfl) : PJ X (.FormattedValue e 114 none pos :: es) (tjL X.K te tj) := by
  intro pins s σ H acc n R I hl hq
  rw [hs]
  refine wpAny_FormattedValue_repr (thn (h pins s σ H _ I hq) fun u s1 ⟨x, H1, I1, r, a, ns, ex, hL, hn, hb, hz, k⟩ => ?_)
  subst ex
  cases (show u = Value.ref a from r)
  obtain ⟨its, r', pl, _⟩ := I1.list hL
  obtain ⟨ob, ho, hc, nn, hd⟩ := id pl.isList
  have big : 2000000 ≤ sizeLine := by decide
  have len := shown_ints_le ns hn hb
  have rr : Reads s1.heap (.ref a) (.list (ns.map .int)) [a] := .list (as := []) ho hc hd (by simpa using reads_ints r')
  have dp : (PyData.list (ns.map .int)).depth ≤ 2 := by
    have := depth_ints ns
    simp only [PyData.depth]
    omega
  have hu := rm.units
  refine pyReprObj_of_reads rr (by simp only [PyData.showable]; exact showable_ints ns hb) (PyData.noDict_hsm (by simp only [PyData.hasDict]; exact noDict_ints ns)) rm.gd (by omega) (fun _ _ e => e) (fun h' u tk kk => ?_) (by omega)
  have I2 : Inv X pins σ H1 { s1 with heap := h', toks := tk } := I1.kept (t' := tk) kk
  exact formatField_str (fun t' tk' => pj_on hr (I2.tok _) hl len hz k) (by omega)
end
end L2

/-! list(reversed(xs)) -/
namespace L2
open PySem PySem.Spec PyProof.Rows
theorem nolen_rv : typeLookup (.type "list_reverseiterator") "__len__" = pure none := by rw [typeLookup_type, builtinLookup_eq_fast]; kernel_rfl
theorem hint_rv : typeLookup (.type "list_reverseiterator") "__length_hint__" = pure (some (.builtin "list_reverseiterator.__length_hint__")) := by rw [typeLookup_type, builtinLookup_eq_fast]; kernel_rfl
theorem bt_reversed : bootBuiltins "reversed" = some (.type "reversed") := by decide +kernel
section
variable {prog : Program} {w : World} {A : Around} {E : Value → Shared → Prop} {s : Shared}
theorem rev_hint {I : Addr} {Q : Bool → Shared → Prop} (hT : s.TypeIs (.ref I) "list_reverseiterator") (h : Q false s) : wpAny (model prog w) A (Builtin.List.listLengthHint (.ref I)) Q E s := by
  unfold Builtin.List.listLengthHint
  refine wpAny_bind (wpAny_specialOf hT nolen_rv ?_)
  show wpAny _ A (specialOf (Value.ref I) (Str.ofString "__length_hint__") >>= _) _ _ _
  refine wpAny_bind (wpAny_specialOf hT hint_rv ?_)
  (generalize hid : ("list_reverseiterator.__length_hint__" : String) = id0; (fail_if_success (clear hid id0)); wp_delta; rw [show splitId id0 = some ("list_reverseiterator", "__length_hint__") from by subst hid; decide +kernel]; subst hid)
  refine wpAny_bind (wpAny_isInstance (b := true) hT (by rw [isSubtype_type]; kernel_rfl) ?_)
  exact wpAny_pure h
theorem rev_extend {R : Result → Shared → Prop} {I l : Addr} {items : Array Value} (hh : A.handled = none) (hne : l ≠ I) (hit : s.heap.IsRevIter I l ((items.size : Int) - 1)) (hl : s.heap.IsList l items) (hn : items.size ≤ sizeLine) (S : Addr) (hSI : S ≠ I) (hSl : S ≠ l) (res : Value) (c₀ : Nat) (hS : s.heap.get? S = some { cls := .type "list", data := .seq #[] c₀ })
    (hR : ∀ h' tk acc' c', (∀ b o, b ≠ S → b ≠ I → s.heap.get? b = some o → h'.get? b = some o) → h'.get? S = some { cls := .type "list", dict := none, data := .seq acc' c', slots := #[] } → ItemsOf (fun i v => items[items.size - 1 - i]? = some v) acc' items.size → R (.ok (.ret res)) { s with heap := h', toks := tk }) :
    wpAny (model prog w) A.in1 (Builtin.List.listExtendWith (.ref S) (.ref I) res)
      (fun fin s' => match fin with | .done f => R (.ok f) s' | .again c' => c'.quiet = true ∧ codeAny (model prog w) A c' R s') (fun e s' => R (.error e) s') s := by
  have hSf : S ∉ [I, l] := by simp only [List.mem_cons, List.not_mem_nil, or_false, not_or]; exact ⟨hSI, hSl⟩
  have W := Walks.listRev (prog := prog) (w := w) (A := A.in1) hh I l hne items
  unfold Builtin.List.listExtendWith
  refine wpAny_bind (wpAny_typeOf (T := "list_reverseiterator") hit.typeIs ?_)
  have h1 : Builtin.List.listSameRef (.ref S) (.ref I) = false := by simp [Builtin.List.listSameRef, hSI]
  have h2 : (Value.type "list_reverseiterator" == Value.type "list") = false := by decide
  have h3 : (Value.type "list_reverseiterator" == Value.type "tuple") = false := by decide
  simp only [h1, h2, h3, Bool.or_false, Bool.false_eq_true, if_false]
  refine wpAny_bind (wpAny_pyIter_revIter hit ?_)
  refine wpAny_bind (wpAny_holding (rev_hint hit.typeIs ?_))
  refine wpAny_ite_split (fun hab => absurd hab (by decide)) (fun _ => ?_)
  have e0 : (items.size : Int) - 1 - ((0 : Nat) : Int) = (items.size : Int) - 1 := by omega
  refine wpAny_pure ⟨plainId_quiet PySem.F.plain_extend_loop _, codeAny_extend_loopS W.toS hn S hSf res items.size 0 _ #[] c₀ rfl (Nat.zero_le _) ⟨Nat.zero_le _, by rw [e0]; exact hit, hl⟩ hS (ItemsOf.nil _) fun s' acc' c' hm hS' hacc => ?_⟩
  rw [Moved.eq_with hm]
  refine hR s'.heap s'.toks acc' c' (fun b o hb hbI e => hm.heap b o (fun hmem => ?_) e) hS' hacc
  rcases List.mem_cons.mp hmem with e' | hmem
  · exact hb e'
  · exact hbI (List.mem_singleton.mp hmem)
theorem call_list_rev {Q : Value → Shared → Prop} {I l : Addr} {items : Array Value} (hh : A.handled = none) (hne : l ≠ I) (hit : s.heap.IsRevIter I l ((items.size : Int) - 1)) (hl : s.heap.IsList l items) (hn : items.size ≤ sizeLine)
    (hQ : ∀ h' tk acc' c', (∀ b o, b ≠ I → s.heap.get? b = some o → h'.get? b = some o) →
      h'.get? s.heap.objs.size = some { cls := .type "list", dict := none, data := .seq acc' c', slots := #[] } → ItemsOf (fun i v => items[items.size - 1 - i]? = some v) acc' items.size → Q (.ref s.heap.objs.size) { s with heap := h', toks := tk }) :
    wpAny (model prog w) A (call (.type "list") [.ref I]) Q E s := by
  refine callType_codes (Q₁ := fun obj s₁ => obj = .ref s.heap.objs.size ∧ s₁ = { s with heap := s.heap.push { cls := .type "list", data := .seq #[] } }) PySem.F.called_list (PySem.F.typeCall_list_1 _) PySem.F.entry_list_init
    (code_list_new _ ⟨rfl, rfl⟩) fun obj s₁ h₁ => ?_
  obtain ⟨rfl, rfl⟩ := h₁
  have hS : (s.heap.push { cls := .type "list", data := .seq #[] }).get? s.heap.objs.size = some { cls := .type "list", data := .seq #[] } := Heap.get?_push_size _ rfl
  have lI : I < s.heap.objs.size := let ⟨o, ho, _⟩ := hit; Heap.lt_size ho
  have ll : l < s.heap.objs.size := let ⟨o, ho, _⟩ := id hl; Heap.lt_size ho
  refine ⟨⟨_, hS, rfl⟩, PySem.F.args_list_init_2 _ _, ?_⟩
  show wpAny _ _ (do let old ← Builtin.List.listItems (.ref s.heap.objs.size); Builtin.List.listUpdate (.ref s.heap.objs.size) (fun _ => #[]); letGo old.toList.reverse; Builtin.List.listExtendWith (.ref s.heap.objs.size) (.ref I) .none) _ _ _
  refine wpAny_bind ?_
  unfold Builtin.List.listItems
  refine wpAny_bind (wpAny_seqItems hS rfl (wpAny_pure ?_))
  show wpAny _ _ (updateSeq s.heap.objs.size (fun _ => #[]) >>= fun _ => letGo (#[] : Array Value).toList.reverse >>= fun _ => Builtin.List.listExtendWith (.ref s.heap.objs.size) (.ref I) .none) _ _ _
  refine wpAny_bind (wpAny_updateSeq hS rfl ?_)
  have hS₂ := Heap.get?_update_self (Obj.mapSeq (fun _ => (#[] : Array Value))) hS rfl
  have oth : ∀ b o, s.heap.get? b = some o → ((s.heap.push { cls := .type "list", data := .seq #[] }).update s.heap.objs.size (Obj.mapSeq (fun _ => (#[] : Array Value)))).get? b = some o :=
    fun b o e => (Heap.get?_update_other _ _ (Nat.ne_of_gt (Heap.lt_size e))).trans (Heap.get?_push_of_some _ e)
  refine wpAny_bind (wpAny_letGo ?_)
  refine rev_extend (A := A.in1) hh hne (hit.at fun o e => oth _ o e) (hl.at fun o e => oth _ o e) hn _ (Nat.ne_of_gt lI) (Nat.ne_of_gt ll) .none _ hS₂ fun h' tk acc' c' hk hS' hacc => ?_
  exact ⟨rfl, hQ h' tk acc' c' (fun b o hb e => hk b o (Nat.ne_of_lt (Heap.lt_size e)) hb (oth b o e)) hS' hacc⟩
end
section
variable {X : Cx} {e : Expr} {te : TE} {p p' pos pos' : Pos}
def tLRev (K : PySem.W.Frag) (te : TE) : TE := fun σ H Q => te σ H fun x H1 => ∃ a ys, x = .ref a ∧ SqL K H1 a ys ∧ ∀ l, H1 l = none → Q (.ref l) (upd H1 l (.lst ys.reverse))
theorem pe_listrev (hc : X.calm = true) (hg : Gl X "list") (hg' : Gl X "reversed") (hm : X.mg "list" = none) (hm' : X.mg "reversed" = none) (he : PE X e te)
    (hs : starEach [e] X.env = [(false, eval e X.env)] := by rfl) (hs' : starEach [.Call (.Name "reversed" p') [e] [] pos'] X.env = [(false, eval (.Call (.Name "reversed" p') [e] [] pos') X.env)] := by rfl) :
    PE X (.Call (.Name "list" p) [.Call (.Name "reversed" p') [e] [] pos'] [] pos) (tLRev X.K te) := by
  intro pins s σ H Q I h
  refine wpAny_Call_Name_kw (ld_blt I hg hm bt_list ?_ (by decide) (by decide))
  refine PyProof.Rows.callWith_type1 ?_ hs' rfl
  rw [hs']
  refine Calls.spliced_cons ?_
  refine wpAny_Call_Name_kw (ld_blt I hg' hm' bt_reversed ?_ (by decide) (by decide))
  refine PyProof.Rows.callWith_type1 ?_ hs rfl
  rw [hs]
  refine Calls.spliced_cons (thn (he pins s σ H _ I h) fun u s1 ⟨x, H1, I1, r, a, ys, ex, hL, q⟩ => ?_)
  subst ex
  cases (show u = Value.ref a from r)
  obtain ⟨its, r', pl, hz⟩ := I1.list hL
  have hlen := r'.length
  refine Calls.spliced_nil (call_reversed_list pl.isList (Calls.spliced_nil ?_))
  have al : a < s1.heap.objs.size := let ⟨o, ho, _⟩ := id pl.isList; Heap.lt_size ho
  refine call_list_rev (I := s1.heap.objs.size) (l := a) (items := its.toArray) (I1.ok.hd hc) (Nat.ne_of_lt al) ⟨_, Heap.get?_push_size _ rfl, rfl, rfl⟩ (pl.isList.at fun o e => Heap.get?_push_of_some _ e) (by simp only [List.size_toArray]; omega) fun h' tk acc' c' hk hS' hacc => ?_
  have e1 : (s1.heap.push (revObj a (((its.toArray.size : Nat) : Int) - 1))).objs.size = s1.heap.objs.size + 1 := by simp [Heap.push]
  rw [e1] at hS' ⊢
  refine ⟨.ref (s1.heap.objs.size + 1), _, I1.laid (t' := tk) (o := .lst ys.reverse) (fun b o e => hk b o (Nat.ne_of_lt (Heap.lt_size e)) (Heap.get?_push_of_some _ e)) (Nat.le_succ _) ?_, rfl, q _ (I1.hok.fresh (Nat.le_succ _))⟩
  refine ⟨by rw [List.length_reverse]; exact hz, acc'.toList, c', vals_of_get ?_ fun i x w e1 e2 => ?_, by simpa using hS'⟩
  · have h0 := hacc.1
    rw [List.size_toArray] at h0
    have h5 : ys.reverse.length = ys.length := List.length_reverse
    have h6 : acc'.toList.length = acc'.size := Array.length_toList
    rw [h5, h0]
    exact hlen
  · have h2 := hacc.2 i w (by simpa using e2)
    have hi : i < ys.length := by rw [← List.length_reverse]; exact (List.getElem?_eq_some_iff.mp e1).1
    rw [List.getElem?_reverse hi] at e1
    have h3 : its[ys.length - 1 - i]? = some w := by rw [hlen]; simpa using h2
    obtain ⟨u, hu, ru⟩ := r'.get e1
    cases hu.symm.trans h3
    exact ru
end
end L2

/-! min of a list of ints, sorted(d) of a dict keyed by ints, == of lists of lists of ints -/
namespace L2
open PySem PySem.Spec PyProof.Rows
theorem bt_min : bootBuiltins "min" = some (.builtin "min") := by decide +kernel
section
variable {prog : Program} {w : World} {A : Around} {E : Value → Shared → Prop} {s : Shared}
theorem sorted_src {T : String} {r d : Addr} {n : Nat} {P : Nat → Value → Prop} {OK : Heap → Prop} {Q : Value → Shared → Prop} (K : PySem.W.KdlSrc prog w T r d n P OK) (hh : A.handled = none) (hok : OK s.heap) (hn : n < 64) (ns : List Int) (hns : ns.length = n)
    (hval : ∀ i v k, P i v → ns[i]? = some k → ∃ t, v = .int k t)
    (h : ∀ (h' h2 : Heap) (tk : Nat) (out : Array Value) (ns' : List Int) (c : Nat), (∀ b o, s.heap.get? b = some o → h'.get? b = some o) → (∀ b o, h'.get? b = some o → h2.get? b = some o) → h2.get? h'.objs.size = some (seqObj "list" out c) → IntsAre out.toList ns' → ns'.Perm ns → ns'.Pairwise (· ≤ ·) → Q (.ref h'.objs.size) { s with heap := h2, toks := tk }) :
    wpAny (model prog w) A (call (.builtin "sorted") [.ref r]) Q E s := by
  have big : 64 ≤ sizeLine := by decide
  refine Calls.call_function_entry kind_sorted plain_sorted entry_sorted (args_sorted1 _) ?_
  unfold Builtin.«sorted»
  refine wpAny_bind (m := checkCount "sorted" 1 1 _) (wpAny_pure ?_)
  refine wpAny_bind (PySem.W.kdu_collect (A := A.in1) K hh hok (by omega) fun h' tk acc hk hacc => ?_)
  have hlen : acc.toList.length = n := by rw [Array.length_toList]; exact hacc.1
  have hI : IntsAre acc.toList ns := intsAre_of (vals_of_get (xs := ns.map V.int) (by rw [List.length_map, hlen, hns]) fun i x u e1 e2 => by
    rw [List.getElem?_map] at e1
    obtain ⟨k, ek, rfl⟩ := Option.map_eq_some_iff.mp e1
    exact hval i u k (hacc.2 i u (by simpa using e2)) ek)
  refine wpAny_bind (wpAny_newList ?_ (by rw [hlen]; omega))
  have hoL : (h'.push (seqObj "list" acc.toList.toArray 0)).get? h'.objs.size = some (seqObj "list" acc.toList.toArray 0) := Heap.get?_push_size _ rfl
  refine wpAny_bind (wpAny_holding (wpAny_call_entry slot_list_sort ⟨_, hoL, rfl⟩ entry_list_sort (list_sort_tree hoL hI (by rw [hlen]; exact hn) fun out ns' a1 a2 a3 => ⟨_, rfl, ?_⟩) (args_list_sort _)))
  refine wpAny_pure ⟨_, rfl, ?_⟩
  obtain ⟨c, he⟩ := sortedHeap_at (out := out) hoL
  refine h h' _ tk out ns' c hk (fun b o q' => ?_) he a1 a2 a3
  have lt := Heap.lt_size q'
  rw [sortedHeap_old (Nat.ne_of_lt lt) (by rw [size_push']; exact Nat.lt_succ_of_lt lt)]
  exact Heap.get?_push_of_some _ q'
end
section
variable {X : Cx}
theorem call_minL (hc : X.calm = true) : CallR X (.builtin "min") (fun xs H Q => ∃ (p : Addr) (ns : List Int), xs = [.ref p] ∧ SqL X.K H p (ns.map V.int) ∧ 0 < ns.length ∧ ∀ M, M ∈ ns → (∀ a ∈ ns, M ≤ a) → Q (.int M) H) := by
  intro pins s σ H xs us Q I r h
  obtain ⟨p, ns, rfl, hq, hne, q⟩ := h
  obtain ⟨u, rfl, rx⟩ := vals1 r
  cases rx
  obtain ⟨its, r', pl, hz⟩ := I.list hq
  have hi : IntsAre its ns := intsAre_of r'
  have hl := pl.isList
  obtain ⟨xs, e⟩ := hi.allInts.items
  have hns : ns = xs.toList.map (·.1) := by
    rw [← hi.numsOf, ← nums_intItems, ← e]
  have hsz : 0 < xs.size := by
    have h3 := hne; rw [hns, List.length_map, Array.length_toList] at h3; exact h3
  rw [e] at hl
  refine min_intList (I.ok.hd hc) hl hsz fun v h' tk hv hk => ?_
  obtain ⟨t, rfl⟩ := intItems_at hv
  obtain ⟨h1, h2⟩ := argBest_lt (numAt xs) (xs.size - 1)
  refine ⟨.int _, H, I.kept (t' := tk) hk, ⟨t, rfl⟩, q _ ?_ fun a ha => ?_⟩
  · rw [hns, numAt_eq]; exact PySem.getD_mem (by rw [List.length_map, Array.length_toList]; omega)
  · rw [hns] at ha
    obtain ⟨j, hj, rfl⟩ := mem_getD ha
    rw [List.length_map, Array.length_toList] at hj
    rw [← numAt_eq]; exact h2 j (by omega)
/-- sorted(d), the keys ints -/
theorem call_sortedD (hc : X.calm = true) : CallR X (.builtin "sorted") (fun xs H Q => ∃ (p : Addr) (kvs : List (Key × V)) (ns : List Int), xs = [.ref p] ∧ H p = some (.dK kvs) ∧ kvs.map (·.1) = ns.map Sum.inl ∧ ns.length < 64 ∧
    ∀ (l : Addr) (ns' : List Int), H l = none → ns'.Perm ns → ns'.Pairwise (· ≤ ·) → Q (.ref l) (upd H l (.lst (ns'.map V.int)))) := by
  intro pins s σ H xs us Q I r h
  obtain ⟨p, kvs, ns, rfl, hp, hk, hl, q⟩ := h
  obtain ⟨u, rfl, rx⟩ := vals1 r
  cases rx
  obtain ⟨_, lo, vs, rel, dd⟩ := dk_of I.hok hp
  obtain ⟨ep, hat⟩ := dd.dictAt
  have ek := rel.keys
  have len : ns.length = vs.length := by
    have := congrArg List.length (hk.symm.trans ek)
    simpa using this
  refine sorted_src (PySem.W.kdl_dict (knd := mixKind X.prog X.w) (kvs := vs) (ep := ep) lo) (I.ok.hd hc) hat (by omega) ns len (fun i v k hP hn => ?_) fun h' h2 tk out ns' c hkp hk2 hget a1 a2 a3 => ?_
  · obtain ⟨k', x, e1, e2⟩ := hP
    have e3 : (vs.map (·.1))[i]? = some k' := by rw [List.getElem?_map, e1]; rfl
    rw [← ek, hk, List.getElem?_map, hn] at e3
    cases Option.some.inj e3
    obtain ⟨t, e5⟩ : ∃ t, v = .int k t := by
      have e2' : keyIs (.inl k) v = true := e2
      rcases keyIs_shape e2' with ⟨j, t, e4, e5⟩ | ⟨j, t, e4, e5⟩
      · exact ⟨t, by rw [e5, Sum.inl.inj e4]⟩
      · cases e4
    exact ⟨t, e5⟩
  · have I2 := I.kept (t' := tk) hkp
    have fresh : H h'.objs.size = none := I2.hok.fresh (Nat.le_refl _)
    refine ⟨.ref h'.objs.size, _, I2.laid (t' := tk) (o := .lst (ns'.map V.int)) hk2 (Nat.le_refl _) ?_, rfl, q _ ns' fresh a2 a3⟩
    have big : 64 ≤ sizeLine := by decide
    exact ⟨by rw [List.length_map, a2.length_eq]; omega, out.toList, c, vals_ints a1, by simpa using hget⟩
end
end L2

/-! == of two lists of lists of ints, the same lists -/
namespace L2
open PySem PySem.Spec PyProof.Rows
/-- the lists at ps hold xss -/
structure LsAt (H : Hp) (ps : List Addr) (xss : List (List Int)) : Prop where
  len : ps.length = xss.length
  at_ : ∀ (i : Nat) p xs, ps[i]? = some p → xss[i]? = some xs → H p = some (.lst (xs.map V.int))
theorem LsAt.same {H H' : Hp} {ps : List Addr} {xss : List (List Int)} (h : LsAt H ps xss) (s : Same H H') : LsAt H' ps xss := ⟨h.len, fun i p xs a b => s _ _ (h.at_ i p xs a b)⟩
section
variable {X : Cx}
def rEqLL (K : PySem.W.Frag) : R2 := fun x y H Q => ∃ a b ps qs xss, x = .ref a ∧ y = .ref b ∧ SqL K H a (ps.map V.ref) ∧ SqL K H b (qs.map V.ref) ∧ LsAt H ps xss ∧ LsAt H qs xss ∧ Q (.bl true) H
theorem vals_refs : ∀ {ps : List Addr} {us : List Value}, Vals (ps.map V.ref) us → us = ps.map Value.ref
  | [], [], _ => rfl
  | [], _ :: _, r => by cases r
  | _ :: _, [], r => by cases r
  | p :: ps, u :: us, r => by
    cases r with
    | cons r1 r2 => cases (show u = Value.ref p from r1); rw [vals_refs r2]; rfl
theorem op_eqLL (hu1 : X.A.units + 1 < cLine) : OpR X (compareOp .Eq) (rEqLL X.K) := by
  intro pins s σ H x y v u Q I rx ry h
  obtain ⟨a, b, ps, qs, xss, rfl, rfl, h1, h2, f1, f2, q⟩ := h
  cases rx
  cases ry
  obtain ⟨us, r1, p1, _⟩ := I.list h1
  obtain ⟨ws, r2, p2, _⟩ := I.list h2
  have e1 := vals_refs r1
  have e2 := vals_refs r2
  subst e1 e2
  have hu : X.A.units < cLine := Nat.lt_of_succ_lt hu1
  have ll : ps.length = qs.length := f1.len.trans f2.len.symm
  refine SeqAt.eq_listAt (e := fun _ => true) p1.isList p2.isList (by simp [ll]) hu (fun j k1 k2 => ?_) ⟨.bl true, H, I, ?_, q⟩
  · have j1 : j < ps.length := by simpa using k1
    have j2 : j < qs.length := by simpa using k2
    have j3 : j < xss.length := by rw [← f1.len]; exact j1
    have g1 : H ps[j] = some (.lst (xss[j].map V.int)) := f1.at_ j _ _ (List.getElem?_eq_getElem j1) (List.getElem?_eq_getElem j3)
    have g2 : H qs[j] = some (.lst (xss[j].map V.int)) := f2.at_ j _ _ (List.getElem?_eq_getElem j2) (List.getElem?_eq_getElem j3)
    have t1 : (ps.map Value.ref).toArray[j] = Value.ref ps[j] := by simp
    have t2 : (qs.map Value.ref).toArray[j] = Value.ref qs[j] := by simp
    rw [t1, t2]
    by_cases e : ps[j] = qs[j]
    · rw [e]; exact SeqAt.EqAt.same _
    · obtain ⟨u1, v1, m1, _⟩ := I.list (SqL.of (K := X.K) g1)
      obtain ⟨u2, v2, m2, _⟩ := I.list (SqL.of (K := X.K) g2)
      have l1 := v1.length
      have l2 := v2.length
      have fl : (xss[j].map V.int).all flatV = true := by rw [List.all_map]; exact List.all_eq_true.mpr fun _ _ => rfl
      have rc := SeqAt.RcAt.lists (A := X.A.in1) (e := eAt (xss[j].map V.int) (xss[j].map V.int)) m1.isList m2.isList (by simp only [List.size_toArray] <;> omega) (by rw [Around.in1_units]; exact hu1) (fun i k1 k2 => eAt_at v1 v2 fl fl i k1 k2)
      rw [List.size_toArray, ← l1, eAt_all rfl, eqVs_intL, decide_eq_true rfl] at rc
      exact SeqAt.EqAt.of_refs e rc
  · simp [RelV]
end
end L2

/-! list comprehensions with one test: [elt for x in iter if cnd] -/
namespace L2
open PySem PySem.Spec PyProof.Rows
section
variable {prog : Program} {w : World} {A : Around} {R : Result → Shared → Prop} {s : Shared}
theorem codeAny_compLoop_F {elt target iter cnd : Expr} {scope : Scope} {pos : Pos} {it acc : Value} {env : Env} (I : Nat → Shared → Prop)
    (turn : ∀ n s, I n s → wpAny (model prog w) A (pyNext it) (fun r s₁ => match r with
      | none => R (.ok .next) s₁
      | some v => wpAny (model prog w) A (letOwnedTupleGo target it v) (fun _ s₂ => wpAny (model prog w) A (assign target env v) (fun _ s₂ => wpAny (model prog w) A (isTrue cnd env (eval cnd env)) (fun b s₂ => match b with
        | false => ∃ m, m < n ∧ I m s₂
        | true => wpAny (model prog w) A (eval elt env) (fun x s₃ =>
          wpAny (model prog w) A (call (.builtin "list.append") [acc, x]) (fun _ s₄ => ∃ m, m < n ∧ I m s₄) (notedBy (model prog w) A env fun e s' => R (.error e) s') s₃)
          (notedBy (model prog w) A env fun e s' => R (.error e) s') s₂) (notedBy (model prog w) A env fun e s' => R (.error e) s') s₂) (notedBy (model prog w) A env fun e s' => R (.error e) s') s₂) (notedBy (model prog w) A env fun e s' => R (.error e) s') s₁) (notedBy (model prog w) A env fun e s' => R (.error e) s') s)
    (n : Nat) (h : I n s) :
    codeAny (model prog w) A (.compLoop (.ListComp elt [⟨target, iter, [cnd], 0⟩] scope pos) 0 it acc env) R s := by
  refine codeAny_loop rfl I (fun n s hI => ?_) n h
  show wpAny _ _ ((compTurn (.ListComp elt [⟨target, iter, [cnd], 0⟩] scope pos) 0 it acc env).onRaise (fun x => do noteFrame x env; theTreesLotGoes x)) _ _ s
  refine wpAny_noted ?_
  rw [compTurn_list]
  refine wpAny_bind (wpAny_standAt (wpAny_bind (wpAny_mono (turn n s hI) (fun r s₁ h₁ => ?_) fun _ _ h' => h')))
  cases r with
  | none => exact wpAny_pure h₁
  | some v =>
    refine wpAny_bind (wpAny_mono h₁ (fun _ s₂ h₂ => ?_) fun _ _ h' => h')
    refine wpAny_bind (wpAny_mono h₂ (fun _ s₂ h₂ => ?_) fun _ _ h' => h')
    simp only [List.forIn_cons, List.forIn_nil, if_true]
    refine wpAny_bind (wpAny_bind (wpAny_bind (wpAny_mono h₂ (fun b s₃ h₃ => ?_) fun _ _ h' => h')))
    refine wpAny_pure (wpAny_pure ?_)
    cases b with
    | false => exact wpAny_pure ⟨rfl, h₃⟩
    | true =>
      exact wpAny_bind (wpAny_bind (wpAny_mono h₃ (fun x s₃ h₃ => wpAny_bind (wpAny_mono h₃ (fun _ s₄ h₄ => wpAny_pure (wpAny_pure ⟨rfl, h₄⟩)) fun _ _ h' => h')) fun _ _ h' => h'))
end
abbrev TTB := Shared → Hp → List Addr → TT
def tCompF (fv : List (Str × Nat)) (tc : TTB) (te : TEB) (σ : St) (J : It) (H1 : Hp) (Q : VK) : Prop :=
  ∀ D, H1 D = none → ∃ W : Nat → Nat → List V → Hp → Prop, (∃ m, W 0 m [] (upd H1 D (.lst []))) ∧
    ∀ i m ys H, W i m ys H → H D = some (.lst ys) ∧ ((J.stop i H ∧ Q (.ref D) H) ∨ (J.go i H ∧ ys.length < sizeLine ∧ ∀ x H', J.yld i H x H' →
      ∀ s₀ H₀ ex, tc s₀ H₀ ex (blkS fv σ (some x)) H' fun b H2 => match b with
        | false => ∃ m', m' < m ∧ W (i + 1) m' ys H2
        | true => te s₀ H₀ ex (blkS fv σ (some x)) H2 fun v H2 => H2 D = some (.lst ys) ∧ ∃ m', m' < m ∧ W (i + 1) m' (ys ++ [v]) (upd H2 D (.lst (ys ++ [v])))))
def tCompFt (wi : TI) (fv : List (Str × Nat)) (tc : TTB) (te : TEB) : TE := fun σ H Q => wi σ H fun J H1 => tCompF fv tc te σ J H1 Q
section
variable {X : Cx} {x : Str} {fv : List (Str × Nat)} {scope : Scope} {cl : List (Str × Addr)} {pins : List (Addr × Obj)} {σ : St} {px pos : Pos} {iter elt cnd : Expr} {te : TEB} {tc : TTB}
theorem comp_blockF {s2 : Shared} {H2 : Hp} {it : Addr} {fp : List Addr} {tn : Nat → Heap → Prop} {J : It} (ok : CompOk X x fv scope cl) (hc : X.calm = true)
    (he : ∀ s₀ H₀ ex, PE (blk X (x :: fv.map (·.1)) scope cl s₀ H₀ ex NoX) elt (te s₀ H₀ ex)) (hcd : ∀ s₀ H₀ ex, PT (blk X (x :: fv.map (·.1)) scope cl s₀ H₀ ex NoX) cnd (tc s₀ H₀ ex)) (I2 : Inv X pins σ H2 s2) (T : Turn X.prog X.w X.K (.Name x px) J fp it tn) (st2 : tn 0 s2.heap) (f2 : ∀ b ∈ fp, FpOk X pins H2 b)
    {Qv : VK} (hQ : tCompF fv tc te σ J H2 Qv) {RR : Value → Addr → Result → Shared → Prop}
    (hRR : ∀ D C m' H' s', Inv X pins σ H' s' → s'.heap.Ns C m' → FpOk X pins H' C → Qv (.ref D) H' → RR (.ref D) C (.ok .next) s') :
    wpAny (model X.prog X.w) X.A (newList []) (fun acc s₃ => wpAny (model X.prog X.w) X.A (newFunctionEnv scope X.env.globals cl [] X.env.qual none .none (some X.env)) (fun cenv s₄ =>
      codeAny (model X.prog X.w) X.A (.compStart (.ListComp elt [⟨.Name x px, iter, [cnd], 0⟩] scope pos) 0 (.ref it) acc { cenv with scope := relabel scope X.env }) (RR acc cenv.locals) s₄) X.xe s₃) X.xe s2 := by
  refine wpAny_newObj_type (wpAny_newFunctionEnv ok.nocell (by intro y hy; simp at hy) (fun h₁ hns₁ hsb₁ => ?_) ok.kind)
  dsimp only at hns₁ hsb₁ ⊢
  have I3 : Inv X pins σ (upd H2 s2.heap.objs.size (.lst [])) { s2 with heap := s2.heap.push { cls := .type "list", dict := none, data := .seq ([] : List Value).toArray } } :=
    I2.laid (t' := s2.toks) (fun b o e => Heap.get?_push_of_some _ e) (Nat.le_refl _) ⟨Nat.zero_le _, [], 0, .nil, Heap.get?_push_size _ rfl⟩
  have hD : H2 s2.heap.objs.size = none := I2.hok.fresh (Nat.le_refl _)
  generalize hs3 : ({ s2 with heap := s2.heap.push { cls := .type "list", dict := none, data := .seq ([] : List Value).toArray } } : Shared) = s3 at I3
  have eh : s2.heap.push { cls := .type "list", dict := none, data := .seq ([] : List Value).toArray } = s3.heap := by rw [← hs3]
  rw [eh] at hns₁ hsb₁ ⊢
  have fl : ∀ b ∈ fp, b < s2.heap.objs.size := fun b hb => by
    obtain ⟨o, e, _⟩ := T.obj _ _ st2 b hb
    exact Heap.lt_size e
  have sz3 : s3.heap.objs.size = s2.heap.objs.size + 1 := by rw [← eh, Heap.size_push]
  have f3 : ∀ b ∈ fp, FpOk X pins (upd H2 s2.heap.objs.size (.lst [])) b := fun b hb => ⟨by rw [upd_ne (Nat.ne_of_lt (fl b hb))]; exact (f2 b hb).1, (f2 b hb).2⟩
  have fl3 : ∀ b ∈ fp, b < s3.heap.objs.size := fun b hb => by rw [sz3]; exact Nat.lt_succ_of_lt (fl b hb)
  have old3 : ∀ b o, s3.heap.get? b = some o → h₁.get? b = some o := fun b o e => hsb₁.extBut b o (Nat.ne_of_lt (Heap.lt_size e)) (Heap.get?_push_of_some _ e)
  have old2 : ∀ b o, s2.heap.get? b = some o → h₁.get? b = some o := fun b o e => old3 b o (by rw [← eh]; exact Heap.get?_push_of_some _ e)
  have st1 : tn 0 h₁ := T.keep _ _ _ st2 fun b _ o e => old2 b o e
  have IY := blk_start (E := NoX) I3 ok f3 fl3 hns₁ old3 (s3.toks + ([] : List (Str × Value)).length)
  obtain ⟨W, ⟨m0, w0⟩, turn⟩ := hQ s2.heap.objs.size hD
  have loop : ∀ s4 : Shared, s4 = { s3 with heap := h₁, toks := s3.toks + ([] : List (Str × Value)).length } →
      codeAny (model X.prog X.w) X.A (.compLoop (.ListComp elt [⟨.Name x px, iter, [cnd], 0⟩] scope pos) 0 (.ref it) (.ref s2.heap.objs.size) (compEnvC scope cl s3.heap.objs.size X.env)) (RR (.ref s2.heap.objs.size) s3.heap.objs.size) s4 := by
    rintro s4 rfl
    have stat : ∀ {H' : Hp}, (∀ b ∈ fp, H' b = none) → ∀ b ∈ fp, FpOk (blk X (x :: fv.map (·.1)) scope cl s3 (upd H2 s2.heap.objs.size (.lst [])) fp NoX) [] H' b := fun hn b hb =>
      ⟨hn b hb, Nat.ne_of_lt (fl3 b hb), fun z => by
        rcases List.mem_cons.mp (I3.stkSub b z) with e | e
        · exact (f2 b hb).2.1 e
        · exact (f2 b hb).2.2.1 e, .inl hb, fun y c h => (f2 b hb).2.2.2.2.1 y c (ok.sub h), fun p hp => absurd (show p ∈ ([] : List (Addr × Obj)) from hp) (by simp)⟩
    refine codeAny_compLoop_F (fun n s' => ∃ i o H' ys, Inv (blk X (x :: fv.map (·.1)) scope cl s3 (upd H2 s2.heap.objs.size (.lst [])) fp NoX) [] (blkS fv σ o) H' s' ∧ tn i s'.heap ∧ (∀ b ∈ fp, H' b = none) ∧ W i n ys H') ?_ m0
      ⟨0, none, _, [], IY, st1, fun b hb => (f3 b hb).1, w0⟩
    rintro n s5 ⟨i, o, H5, ys, I5, st5, fr5, w5⟩
    obtain ⟨hD5, w5⟩ := turn i n ys H5 w5
    rcases w5 with ⟨stop, qn⟩ | ⟨go, hsz, step⟩
    · refine wpAny_mono (T.done (blk X (x :: fv.map (·.1)) scope cl s3 (upd H2 s2.heap.objs.size (.lst [])) fp NoX) rfl rfl rfl hc i [] s5 _ H5 NoX I5 (stat fr5) st5 stop) (fun r s6 ⟨hr, I6⟩ => ?_) fun _ _ z => z.elim
      subst hr
      obtain ⟨m', hm', _⟩ := I6.loc
      have I7 : Inv X pins σ H5 s6 := I3.call' (ch := fp) (by rw [I6.os]) I6.base I6.hok I6.bare fun b hb => ⟨(f2 b hb).2.2.2.1, (f2 b hb).2.1, (f2 b hb).2.2.2.2.1, (f2 b hb).2.2.2.2.2⟩
      exact hRR _ _ m' H5 s6 I7 hm' (I3.fpOk (Nat.le_refl _) I6.free) qn
    · refine wpAny_mono (T.item (blk X (x :: fv.map (·.1)) scope cl s3 (upd H2 s2.heap.objs.size (.lst [])) fp NoX) rfl rfl rfl hc i [] s5 _ H5 NoX I5 (stat fr5) st5 go) (fun r s6 ⟨u, hr, h6⟩ => ?_) fun _ _ z => z.elim
      subst hr
      refine wpAny_mono h6 (fun _ s7 ⟨v, H7, I7, r7, y7, st7, fr7⟩ => ?_) fun _ _ z => z.elim
      have I7' := I7.pinned (stat fr7) (T.obj _ _ st7)
      have hx : Loc (blk X (x :: fv.map (·.1)) scope cl s3 (upd H2 s2.heap.objs.size (.lst [])) fp NoX).env.scope x := .inl (lookup_relabel_local ok.here)
      refine wpAny_assign_Name (store_ok (X := blk X (x :: fv.map (·.1)) scope cl s3 (upd H2 s2.heap.objs.size (.lst [])) fp NoX) (i := 0) I7' ok.nd rfl hx r7 (fun s8 I8 => ?_) (.inr (lookup_relabel_local ok.here)))
      refine wpAny_mono (hcd s3 _ fp _ s8 (blkS fv σ (some v)) H7 _ I8 (step v H7 y7 _ _ _)) (fun bb s8' ⟨H8, I8', q8⟩ => ?_) fun _ _ z => z.elim
      cases bb with
      | false =>
        obtain ⟨m', hm', w9⟩ := q8
        refine ⟨m', hm', i + 1, some v, _, ys, I8'.unpinned, T.keep _ _ _ st7 fun b hb o e => (I8'.pin (b, o) (List.mem_append_right _ (List.mem_append_right _ (mem_pinsAt hb e)))).1, fun b hb => ?_, w9⟩
        obtain ⟨o, e, d⟩ := T.obj _ _ st7 b hb
        exact (I8'.pin (b, o) (List.mem_append_right _ (List.mem_append_right _ (mem_pinsAt hb e)))).2.1
      | true =>
        refine wpAny_mono (he s3 _ fp _ s8' (blkS fv σ (some v)) H8 _ I8' q8) (fun u9 s9 ⟨v9, H9, I9, r9, hD9, m', hm', w9⟩ => ?_) fun _ _ z => z.elim
        refine wpAny_mono (mt_append (X := blk X (x :: fv.map (·.1)) scope cl s3 (upd H2 s2.heap.objs.size (.lst [])) fp NoX) _ s9 _ H9 (.ref s2.heap.objs.size) [v9] (.ref s2.heap.objs.size) [u9]
          (fun _ H10 => H10 = upd H9 s2.heap.objs.size (.lst (ys ++ [v9]))) I9 rfl (.cons r9 .nil) ⟨_, ys, v9, rfl, rfl, hD9, hsz, rfl⟩) (fun _ s10 ⟨_, H10, I10, _, e10⟩ => ?_) fun _ _ z => z.elim
        subst e10
        refine ⟨m', hm', i + 1, some v, _, ys ++ [v9], I10.unpinned, T.keep _ _ _ st7 fun b hb o e => (I10.pin (b, o) (List.mem_append_right _ (List.mem_append_right _ (mem_pinsAt hb e)))).1, fun b hb => ?_, w9⟩
        obtain ⟨o, e, d⟩ := T.obj _ _ st7 b hb
        exact (I10.pin (b, o) (List.mem_append_right _ (List.mem_append_right _ (mem_pinsAt hb e)))).2.1
  exact codeAny_compStart_list (loop _ (by rw [← hs3])) (T.self _ 0 _ _ _ st1 (loop _ (by rw [← hs3])))
/-- [elt for x in iter] as a value -/
theorem pe_compF {wi : TI} (ok : CompOk X x fv scope cl) (hc : X.calm = true) (hi : PI X (.Name x px) iter wi) (he : ∀ s₀ H₀ ex, PE (blk X (x :: fv.map (·.1)) scope cl s₀ H₀ ex NoX) elt (te s₀ H₀ ex)) (hcd : ∀ s₀ H₀ ex, PT (blk X (x :: fv.map (·.1)) scope cl s₀ H₀ ex NoX) cnd (tc s₀ H₀ ex))
    (hs : ∀ v, foldedSetIterable iter X.env v = pure v := by intro _; rfl) : PE X (.ListComp elt [⟨.Name x px, iter, [cnd], 0⟩] scope pos) (tCompFt wi fv tc te) := by
  intro pins s σ H Q I h
  rw [eval_ListComp]
  refine wpAny_comprehension_free (use := none) rfl hs ok.clos ok.kind ok.names (thn (hi pins s σ H _ I h) fun v s1 h1 => thn h1 fun itv s2 h2 => ?_)
  obtain ⟨it, fp, tn, J, H2, rfl, I2, T, st2, f2, hQ⟩ := h2
  refine comp_blockF (RR := fun acc C => compPost (model X.prog X.w) X.A X.xe none (EP X pins σ Q) acc C) ok hc he hcd I2 T st2 f2 hQ ?_
  intro D C m' H' s' I' hn fC q
  exact ⟨m', hn, fun h' hs' => ⟨.ref D, H', I'.turned (t' := s'.toks) (fun b o hb e => hs'.extBut b o hb e) fC.1 fC.2.1 fC.2.2.2.1 fC.2.2.2.2.1 fC.2.2.2.2.2, rfl, q⟩⟩
/-- y = [elt for x in iter], stored within the block -/
theorem ps_setCompF {wi : TI} {i : Nat} {y : Str} {py spos : Pos} (hN : X.N.Nodup) (hiy : X.N[i]? = some y) (hy : Loc X.env.scope y) (ok : CompOk X x fv scope cl) (hc : X.calm = true) (hi : PI X (.Name x px) iter wi) (he : ∀ s₀ H₀ ex, PE (blk X (x :: fv.map (·.1)) scope cl s₀ H₀ ex NoX) elt (te s₀ H₀ ex)) (hcd : ∀ s₀ H₀ ex, PT (blk X (x :: fv.map (·.1)) scope cl s₀ H₀ ex NoX) cnd (tc s₀ H₀ ex))
    (hsw : swapsWith (.ListComp elt [⟨.Name x px, iter, [cnd], 0⟩] scope pos) (some (.Name y py)) spos.line X.env = pure true := by rfl)
    (hs : ∀ v, foldedSetIterable iter X.env v = pure v := by intro _; rfl) (hf : X.fn y = true ∨ X.env.scope.names.lookup y = some .local := by first | exact .inl rfl | exact .inr rfl | assumption) :
    PS X (.Assign [.Name y py] (.ListComp elt [⟨.Name x px, iter, [cnd], 0⟩] scope pos) spos) (tAsg (tCompFt wi fv tc te) (gName i)) := by
  intro pins s σ H D I h
  rw [exec_Assign_Name_used _ _ _ _ hsw]
  refine wpAny_bind (wpAny_standAt (wpAny_bind ?_))
  show wpAny _ _ (do let _ ← comprehension (.ListComp elt [⟨.Name x px, iter, [cnd], 0⟩] scope pos) scope X.env _ (newList []) false (eval iter X.env) (some (assign (.Name y py) X.env))) _ _ s
  refine wpAny_bind (wpAny_mono (wpAny_comprehension_free (use := some (assign (.Name y py) X.env)) (Q := fun _ s' => SP X pins D .next s') rfl hs ok.clos ok.kind ok.names
    (thn (hi pins s σ H _ I h) fun v s1 h1 => thn h1 fun itv s2 h2 => ?_)) (fun _ s' hq => wpAny_pure (wpAny_pure hq)) fun _ _ e => e)
  obtain ⟨it, fp, tn, J, H2, rfl, I2, T, st2, f2, hQ⟩ := h2
  refine comp_blockF (RR := fun acc C => compPost (model X.prog X.w) X.A X.xe (some (assign (.Name y py) X.env)) (fun _ s' => SP X pins D .next s') acc C) ok hc he hcd I2 T st2 f2 hQ ?_
  intro D' C m' H' s' I' hn fC q
  show wpAny _ _ (assign (.Name y py) X.env (.ref D')) _ _ _
  refine wpAny_assign_Name (store_ok2 (v := .ref D') I' hN hiy hy rfl (fun s'' I'' hab => ?_) hf)
  obtain ⟨a, hsb, ha⟩ := hab
  have haC : C ≠ a := by
    rcases ha with e | e
    · rw [e]; exact fC.2.1
    · exact (fC.2.2.2.2.1 y a e).symm
  exact ⟨m', hn.sameBut hsb haC, fun h' hs' => ⟨_, H', I''.turned (t' := s''.toks) (fun b o hb e => hs'.extBut b o hb e) fC.1 fC.2.1 fC.2.2.2.1 fC.2.2.2.2.1 fC.2.2.2.2.2, q⟩⟩
/-- over a range, the test and the elements only lay new things -/
theorem comp_rangeF {lo : Int} {n : Nat} {H1 : Hp} {Q : VK} (p : Nat → Bool) (f : Nat → V) (hn : n ≤ sizeLine)
    (ct : ∀ (i : Nat) (H' : Hp) (R : Bool → Hp → Prop), i < n → Same H1 H' → (∀ H2, Same H' H2 → R (p i) H2) → ∀ s₀ H₀ ex, tc s₀ H₀ ex (blkS fv σ (some (.int (lo + i)))) H' R)
    (el : ∀ (i : Nat) (H' : Hp) (R : VK), i < n → p i = true → Same H1 H' → (∀ H2, Same H' H2 → R (f i) H2) → ∀ s₀ H₀ ex, te s₀ H₀ ex (blkS fv σ (some (.int (lo + i)))) H' R)
    (fin : ∀ D H2, H1 D = none → Same H1 H2 → H2 D = some (.lst (((List.range n).filter p).map f)) → Q (.ref D) H2) : tCompF fv tc te σ (Itr lo n) H1 Q := by
  intro D hD
  have sd : ∀ {H2 : Hp} {o : HO}, Same H1 H2 → Same H1 (upd H2 D o) := fun {H2 o} s b u e => by
    rw [upd_ne (ne_of_none e hD)]; exact s b u e
  refine ⟨fun i m ys H => m = n - i ∧ i ≤ n ∧ ys = ((List.range i).filter p).map f ∧ Same H1 H ∧ H D = some (.lst ys), ⟨n, by simp, Nat.zero_le _, rfl, sd (Same.refl H1), upd_same⟩, ?_⟩
  rintro i m ys H ⟨rfl, hi, rfl, sm, hDi⟩
  refine ⟨hDi, ?_⟩
  by_cases hlt : i < n
  · have len : (((List.range i).filter p).map f).length ≤ i := by
      rw [List.length_map]
      exact Nat.le_trans (List.length_filter_le _ _) (by rw [List.length_range]; exact Nat.le_refl _)
    refine .inr ⟨hlt, by omega, fun x H' y => ?_⟩
    obtain ⟨e, y⟩ := y
    subst e y
    intro s₀ H₀ ex
    refine ct i _ _ hlt sm (fun H2 s2 => ?_) s₀ H₀ ex
    cases q : p i with
    | false =>
      refine ⟨n - (i + 1), by omega, rfl, hlt, ?_, sm.trans s2, s2 D _ hDi⟩
      rw [List.range_succ, List.filter_append, List.map_append, List.filter_cons_of_neg (by rw [q]; decide), List.filter_nil, List.map_nil, List.append_nil]
    | true =>
      refine el i H2 _ hlt q (sm.trans s2) (fun H3 s3 => ⟨s3 D _ (s2 D _ hDi), n - (i + 1), by omega, rfl, hlt, ?_, sd ((sm.trans s2).trans s3), upd_same⟩) s₀ H₀ ex
      rw [List.range_succ, List.filter_append, List.map_append, List.filter_cons_of_pos q, List.filter_nil]
      rfl
  · have e : i = n := by omega
    subst e
    exact .inl ⟨Nat.le_refl _, fin D H hD sm hDi⟩
/-- over a list that stays -/
theorem comp_listF {K : PySem.W.Frag} {a : Addr} {xs : List V} {H1 : Hp} {Q : VK} (p : Nat → Bool) (f : Nat → V) (hq : SqL K H1 a xs) (hn : xs.length ≤ sizeLine)
    (ct : ∀ (i : Nat) (x : V) (H' : Hp) (R : Bool → Hp → Prop), xs[i]? = some x → Same H1 H' → (∀ H2, Same H' H2 → R (p i) H2) → ∀ s₀ H₀ ex, tc s₀ H₀ ex (blkS fv σ (some x)) H' R)
    (el : ∀ (i : Nat) (x : V) (H' : Hp) (R : VK), xs[i]? = some x → p i = true → Same H1 H' → (∀ H2, Same H' H2 → R (f i) H2) → ∀ s₀ H₀ ex, te s₀ H₀ ex (blkS fv σ (some x)) H' R)
    (fin : ∀ D H2, H1 D = none → Same H1 H2 → H2 D = some (.lst (((List.range xs.length).filter p).map f)) → Q (.ref D) H2) : tCompF fv tc te σ (Itl K a) H1 Q := by
  intro D hD
  have sd : ∀ {H2 : Hp} {o : HO}, Same H1 H2 → Same H1 (upd H2 D o) := fun {H2 o} s b u e => by
    rw [upd_ne (ne_of_none e hD)]; exact s b u e
  refine ⟨fun i m ys H => m = xs.length - i ∧ i ≤ xs.length ∧ ys = ((List.range i).filter p).map f ∧ Same H1 H ∧ H D = some (.lst ys), ⟨xs.length, by simp, Nat.zero_le _, rfl, sd (Same.refl H1), upd_same⟩, ?_⟩
  rintro i m ys H ⟨rfl, hi, rfl, sm, hDi⟩
  have hq' := sm.seq hq
  refine ⟨hDi, ?_⟩
  by_cases hlt : i < xs.length
  · have len : (((List.range i).filter p).map f).length ≤ i := by
      rw [List.length_map]
      exact Nat.le_trans (List.length_filter_le _ _) (by rw [List.length_range]; exact Nat.le_refl _)
    refine .inr ⟨⟨xs, xs[i], hq', by simp [hlt]⟩, by omega, fun x H' y => ?_⟩
    obtain ⟨e, y⟩ := y
    subst e
    have hx := y xs hq'
    intro s₀ H₀ ex
    refine ct i x _ _ hx sm (fun H2 s2 => ?_) s₀ H₀ ex
    cases q : p i with
    | false =>
      refine ⟨xs.length - (i + 1), by omega, rfl, hlt, ?_, sm.trans s2, s2 D _ hDi⟩
      rw [List.range_succ, List.filter_append, List.map_append, List.filter_cons_of_neg (by rw [q]; decide), List.filter_nil, List.map_nil, List.append_nil]
    | true =>
      refine el i x H2 _ hx q (sm.trans s2) (fun H3 s3 => ⟨s3 D _ (s2 D _ hDi), xs.length - (i + 1), by omega, rfl, hlt, ?_, sd ((sm.trans s2).trans s3), upd_same⟩) s₀ H₀ ex
      rw [List.range_succ, List.filter_append, List.map_append, List.filter_cons_of_pos q, List.filter_nil]
      rfl
  · have e : i = xs.length := by omega
    subst e
    exact .inl ⟨⟨xs, hq', Nat.le_refl _⟩, fin D H hD sm hDi⟩
end
/-! == and != of two lists of the very same things -/
section
variable {X : Cx}
def seenV : V → Bool
  | .ref _ => true
  | v => flatV v
theorem eqAt_same {A : Around} {s : Shared} {x : V} {u v : Value} (r1 : RelV x u) (r2 : RelV x v) (f : seenV x = true) (e : flatV x = true → eqV x x = true) : SeqAt.EqAt A s u v true := by
  by_cases q : flatV x = true
  · have h := eqAt_V (A := A) (s := s) r1 r2 q q
    rw [e q] at h
    exact h
  · cases x with
    | ref a =>
      cases (show u = Value.ref a from r1)
      cases (show v = Value.ref a from r2)
      exact SeqAt.EqAt.same _
    | _ => exact absurd f q
def rEqS (K : PySem.W.Frag) (neg : Bool) : R2 := fun x y H Q => ∃ a b xs, x = .ref a ∧ y = .ref b ∧ SqL K H a xs ∧ SqL K H b xs ∧ xs.all seenV = true ∧ (∀ x ∈ xs, flatV x = true → eqV x x = true) ∧ Q (.bl (!neg)) H
theorem op_eqS (hu : X.A.units < cLine) : OpR X (compareOp .Eq) (rEqS X.K false) := by
  intro pins s σ H x y v u Q I rx ry h
  obtain ⟨a, b, xs, rfl, rfl, h1, h2, f, er, q⟩ := h
  cases rx
  cases ry
  obtain ⟨us, r1, p1, _⟩ := I.list h1
  obtain ⟨ws, r2, p2, _⟩ := I.list h2
  have l1 := r1.length
  have l2 := r2.length
  refine SeqAt.eq_listAt (e := fun _ => true) p1.isList p2.isList (by simp only [List.size_toArray] <;> omega) hu (fun j k1 k2 => ?_) ⟨.bl true, H, I, by simp [RelV], q⟩
  have j1 : j < us.length := by simpa using k1
  have j2 : j < ws.length := by simpa using k2
  have j0 : j < xs.length := by omega
  obtain ⟨u', eu, ru⟩ := r1.get (List.getElem?_eq_getElem j0)
  obtain ⟨w', ew, rw'⟩ := r2.get (List.getElem?_eq_getElem j0)
  have q1 : us.toArray[j] = u' := by
    have : us[j] = u' := by rw [List.getElem?_eq_getElem j1] at eu; exact Option.some.inj eu
    simpa using this
  have q2 : ws.toArray[j] = w' := by
    have : ws[j] = w' := by rw [List.getElem?_eq_getElem j2] at ew; exact Option.some.inj ew
    simpa using this
  rw [q1, q2]
  exact eqAt_same ru rw' (all_get f (List.getElem?_eq_getElem j0)) (er _ (List.getElem_mem j0))
theorem op_neS (hu : X.A.units < cLine) : OpR X (compareOp .NotEq) (rEqS X.K true) := by
  intro pins s σ H x y v u Q I rx ry h
  obtain ⟨a, b, xs, rfl, rfl, h1, h2, f, er, q⟩ := h
  cases rx
  cases ry
  obtain ⟨us, r1, p1, _⟩ := I.list h1
  obtain ⟨ws, r2, p2, _⟩ := I.list h2
  have l1 := r1.length
  have l2 := r2.length
  refine SeqAt.RcNeAt.lists (e := fun _ => true) p1.isList p2.isList (by simp only [List.size_toArray] <;> omega) hu (fun j k1 k2 => ?_) _ _ _ _ ⟨.bl false, H, I, by simp [RelV], q⟩
  have j1 : j < us.length := by simpa using k1
  have j2 : j < ws.length := by simpa using k2
  have j0 : j < xs.length := by omega
  obtain ⟨u', eu, ru⟩ := r1.get (List.getElem?_eq_getElem j0)
  obtain ⟨w', ew, rw'⟩ := r2.get (List.getElem?_eq_getElem j0)
  have q1 : us.toArray[j] = u' := by
    have : us[j] = u' := by rw [List.getElem?_eq_getElem j1] at eu; exact Option.some.inj eu
    simpa using this
  have q2 : ws.toArray[j] = w' := by
    have : ws[j] = w' := by rw [List.getElem?_eq_getElem j2] at ew; exact Option.some.inj ew
    simpa using this
  rw [q1, q2]
  exact eqAt_same ru rw' (all_get f (List.getElem?_eq_getElem j0)) (er _ (List.getElem_mem j0))
end
end L2

namespace L2
open PySem PySem.Spec PyProof.Rows
/-! ### enumerate(a list), walked by two names -/
section
variable {X : Cx} {pins : List (Addr × Obj)} {σ : St} {H : Hp} {s : Shared} {h' : Heap}
/-- two untracked records of ours have turned -/
theorem Inv.turned2 {t' : Nat} {x y : Addr} (I : Inv X pins σ H s) (k : ∀ b o, b ≠ x → b ≠ y → s.heap.get? b = some o → h'.get? b = some o) (fx : FpOk X pins H x) (fy : FpOk X pins H y) : Inv X pins σ H { s with heap := h', toks := t' } := by
  have nx : ∀ b u, H b = some u → b ≠ x := fun b u e z => by rw [z, fx.1] at e; cases e
  have ny : ∀ b u, H b = some u → b ≠ y := fun b u e z => by rw [z, fy.1] at e; cases e
  have kk : ∀ b o, b ∉ [x, y] → s.heap.get? b = some o → h'.get? b = some o := fun b o hc e => k b o (fun z => hc (by simp [z])) (fun z => hc (by simp [z])) e
  refine I.step (g' := s.gens) (d' := s.drawn) (ch := [x, y]) (fun b hb => ?_) (fun b o _ _ hc e _ => kk b o hc e) (fun b o _ _ hc e _ => ⟨o.slots, kk b o hc e⟩) (fun _ _ _ _ n => n)
    (fun b o hc e => ⟨o, kk b o hc e⟩) (fun _ _ e => e) (fun _ _ _ e => e) (fun b ps e => ⟨#[], by rw [e]; simp⟩) (fun m hm => ?_) (fun b u e => ?_) I.bare
  · have e : b = x ∨ b = y := by simpa using hb
    rcases e with rfl | rfl
    · exact ⟨fx.2.2.2.1, fx.2.1, fx.2.2.2.2.1, fx.2.2.2.2.2⟩
    · exact ⟨fy.2.2.2.1, fy.2.1, fy.2.2.2.2.1, fy.2.2.2.2.2⟩
  · obtain ⟨o, es, ep, ho, r⟩ := hm
    exact ⟨o, es, ep, k _ o (Ne.symm fx.2.1) (Ne.symm fy.2.1) ho, r⟩
  · refine (I.hok b u e).stay (fun c v hc q => ?_) (fun _ q => q) fun _ _ q => q
    rcases hc with z | z
    · subst z; exact k c v (nx c u e) (ny c u e) q
    · exact k c v (nx c _ z) (ny c _ z) q
/-- an object of ours that lies there is tracked from now on -/
theorem Inv.adopt {T : Addr} {o : HO} (I : Inv X pins σ H s) (f : FpOk X pins H T) (new : ObjOk X.prog X.w (upd H T o) s.heap T o) : Inv X pins σ (upd H T o) s := by
  have nT : ∀ b u, H b = some u → b ≠ T := fun b u e z => by rw [z, f.1] at e; cases e
  have up : ∀ b u, H b = some u → upd H T o b = some u := fun b u e => by rw [upd_ne (nT b u e)]; exact e
  refine I.step (h' := s.heap) (H' := upd H T o) (g' := s.gens) (d' := s.drawn) (t' := s.toks) (ch := [T]) (fun b hb => ?_) (fun b o _ _ _ e _ => e) (fun b o _ _ _ e _ => ⟨o.slots, e⟩) (fun b o hc _ n => by rw [upd_ne (fun z => hc (by simp [z]))]; exact n)
    (fun b o _ e => ⟨o, e⟩) (fun b xs e => up _ _ e) (fun b o u e => up _ _ e) (fun b ps e => ⟨#[], by rw [up _ _ e]; simp⟩) (fun m hm => hm) (fun b u e => ?_) I.bare
  · have e : b = T := by simpa using hb
    subst e
    exact ⟨f.2.2.2.1, f.2.1, f.2.2.2.2.1, f.2.2.2.2.2⟩
  · by_cases hb : b = T
    · subst hb; rw [upd_same] at e; cases e; exact new
    · rw [upd_ne hb] at e
      exact (I.hok b u e).stay (fun c v _ q => q) (fun c q => up _ _ q) fun c xs q => up _ _ q
end
/-- (0, x0), (1, x1), .. of the list at a -/
def Ite (K : PySem.W.Frag) (a : Addr) : It :=
  ⟨fun i H => ∃ xs x, SqL K H a xs ∧ xs[i]? = some x, fun i H v H' => ∃ T x, v = .ref T ∧ H T = none ∧ H' = upd H T (.tup [.int (i : Nat), x]) ∧ ∀ xs, SqL K H a xs → xs[i]? = some x, fun i H => ∃ xs, SqL K H a xs ∧ xs.length ≤ i⟩
theorem turn_enum {P : Program} {w : World} {K : PySem.W.Frag} {elts : List Expr} {k : Nat} {pos : Pos} (a e it : Addr) (hne : e ≠ it) :
    Turn P w K (.Tuple elts k pos) (Ite K a) [e, it] e (fun i h => (∃ old, IsEnum h e it ((i : Nat) : Int) old) ∧ h.IsListIter it a i) where
  mem := by simp
  obj := fun i h st b hb => by
    obtain ⟨⟨old, he⟩, hit⟩ := st
    have q : b = e ∨ b = it := by simpa using hb
    rcases q with rfl | rfl
    · exact ⟨_, he, fun v z => by
        have z' : Data.fields _ = Data.cell v := z
        cases z'⟩
    · obtain ⟨o, e, c, d⟩ := hit
      exact ⟨o, e, fun v z => by rw [d] at z; cases z⟩
  keep := fun i h h' st kk => ⟨let ⟨old, he⟩ := st.1; ⟨old, kk e (by simp) _ he⟩, st.2.at fun o q => kk it (by simp) o q⟩
  item := by
    intro X hP hw hK hc i pins s σ H E I hf st hg
    subst hP hw hK
    obtain ⟨⟨old, he⟩, hit⟩ := st
    obtain ⟨xs, x, hq, hx⟩ := hg
    obtain ⟨its, rv, p, hz⟩ := I.list hq
    obtain ⟨u, hu, ru⟩ := rv.get hx
    have fe := hf e (by simp)
    have fi := hf it (by simp)
    have le : e < s.heap.objs.size := Heap.lt_size he
    have li : it < s.heap.objs.size := by obtain ⟨o, q, _⟩ := id hit; exact Heap.lt_size q
    have fT : FpOk X pins H s.heap.objs.size := I.fpOk (Nat.le_refl _) (I.hok.fresh (Nat.le_refl _))
    refine wpAny_pyNext_enum_item he hit p.isList (x := u) (by simpa using hu) hne fun h1 ho hit1 hT hsz hk => ?_
    refine ⟨_, rfl, wpAny_letOwnedTupleGo_enum ho fun h2 he2 hs2 => ?_⟩
    replace hs2 : Heap.SameBut e h1 h2 := hs2
    have I1 : Inv X pins σ H { s with heap := h2, toks := s.toks + 1 } := I.turned2 (t' := s.toks + 1) (fun b o n1 n2 q => (hs2.2 b n1).trans (hk b o n1 n2 q)) fe fi
    have gT : h2.get? s.heap.objs.size = some { cls := .type "tuple", data := .seq #[.int i s.toks, u] } := (hs2.2 _ (Nat.ne_of_gt le)).trans hT
    have I2 : Inv X pins σ (upd H s.heap.objs.size (.tup [.int (i : Nat), x])) { s with heap := h2, toks := s.toks + 1 } :=
      I1.adopt fT ⟨(by show 2 ≤ sizeLine; decide), [.int i s.toks, u], .cons ⟨_, rfl⟩ (.cons ru .nil), ⟨_, gT, rfl, _, rfl⟩⟩
    refine ⟨.ref s.heap.objs.size, _, I2, rfl, ⟨_, x, rfl, fT.1, rfl, fun ys hy => by rw [I.list_inj hy hq]; exact hx⟩, ⟨⟨u, ?_⟩, ?_⟩, fun b hb => ?_⟩
    · have e1 : ((i + 1 : Nat) : Int) = (i : Int) + 1 := by push_cast; rfl
      rw [e1]; exact he2
    · exact hit1.at fun o q => (hs2.2 it (Ne.symm hne)).trans q
    · have q : b = e ∨ b = it := by simpa using hb
      rw [upd_ne (fun z => by rcases q with q | q; exact Nat.ne_of_lt le (q.symm.trans z); exact Nat.ne_of_lt li (q.symm.trans z))]
      exact (hf b hb).1
  done := by
    intro X hP hw hK hc i pins s σ H E I hf st hg
    subst hP hw hK
    obtain ⟨⟨old, he⟩, hit⟩ := st
    obtain ⟨xs, hq, hx⟩ := hg
    obtain ⟨its, rv, p, hz⟩ := I.list hq
    obtain ⟨f0, f1, f2, f3, f4, f5⟩ := hf it (by simp)
    have hl := rv.length
    exact wpAny_pyNext_enum_end (I.ok.hd hc) he hit p.isList (by simp; omega) fun h' eb => ⟨rfl, I.turned (t' := s.toks) (fun b o hb e => eb b o hb e) f0 f1 f3 f4 f5⟩
  self := fun _ _ _ _ _ st h => let ⟨_, he⟩ := st.1; wpAny_pyIter_enum he h
section
variable {X : Cx}
theorem bt_enumerate : bootBuiltins "enumerate" = some (.type "enumerate") := by decide +kernel
def iEnum (K : PySem.W.Frag) (ta : TA) : TI := fun σ H R => ta σ H fun vs H1 => ∃ a, vs = [.ref a] ∧ (∃ xs, SqL K H1 a xs) ∧ R (Ite K a) H1
theorem pi_enum {l : Expr} {ta : TA} {p pos tpos : Pos} {elts : List Expr} {k : Nat} (hg : Gl X "enumerate") (hm : X.mg "enumerate" = none) (ha : PA X [l] ta) (hs : starEach [l] X.env = [(false, eval l X.env)] := by rfl) :
    PI X (.Tuple elts k tpos) (.Call (.Name "enumerate" p) [l] [] pos) (iEnum X.K ta) := by
  intro pins s σ H R I h
  refine Call_ (ld_blt I hg hm bt_enumerate (PyProof.Rows.callWith_type1 (thn (ha pos pins s σ H _ I h) fun us s1 ⟨vs, H1, I1, r1, q1⟩ => ?_) hs rfl))
  obtain ⟨a, e, ⟨xs, hq⟩, q⟩ := q1
  subst e
  cases r1 with
  | cons r rr =>
    cases rr
    cases r
    obtain ⟨its, rv, pl, hz⟩ := I1.list hq
    refine call_enumerate_list pl.isList fun h' he hit hsz hk => ?_
    refine wpAny_pyIter_enum he ?_
    refine ⟨s1.heap.objs.size + 1, [s1.heap.objs.size + 1, s1.heap.objs.size], _, _, H1, rfl, I1.kept (t' := s1.toks) fun b o e => hk b o e, turn_enum a _ _ (Nat.ne_of_gt (Nat.lt_succ_self _)), ⟨⟨_, he⟩, hit⟩, fun b hb => ?_, q⟩
    have e : b = s1.heap.objs.size + 1 ∨ b = s1.heap.objs.size := by simpa using hb
    have e2 : s1.heap.objs.size ≤ b := by rcases e with e | e; exact e ▸ Nat.le_succ _; exact e ▸ Nat.le_refl _
    exact I1.fpOk e2 (I1.hok.fresh e2)
end
theorem for_enum {K : PySem.W.Frag} {a : Addr} {xs : List V} {g : TG} {tb : TS} {D : Ends} {σ : St} {H : Hp} (Pv : Nat → St → Hp → Prop) (h0 : Pv 0 σ H) (hl : ∀ i σ H, i ≤ xs.length → Pv i σ H → SqL K H a xs)
    (hs : ∀ i x σ H, xs[i]? = some x → Pv i σ H → ∀ T, H T = none → g (.ref T) σ (upd H T (.tup [nat i, x])) fun σ2 H2 => tb { D with nx := Pv (i + 1), ct := Pv (i + 1), bk := D.nx } σ2 H2) (hd : ∀ σ H, Pv xs.length σ H → D.nx σ H) :
    ∃ W : Nat → Nat → St → Hp → Prop, (∃ m, W 0 m σ H) ∧ ∀ i m σ H, W i m σ H →
      ((Ite K a).stop i H ∧ D.nx σ H) ∨ ((Ite K a).go i H ∧ ∃ N : St → Hp → Prop, (∀ σ' H', N σ' H' → ∃ m', m' < m ∧ W (i + 1) m' σ' H') ∧ ∀ x H', (Ite K a).yld i H x H' → g x σ H' fun σ2 H2 => tb { D with nx := N, ct := N, bk := D.nx } σ2 H2) := by
  refine ⟨fun i m σ H => m = xs.length - i ∧ i ≤ xs.length ∧ Pv i σ H, ⟨xs.length, by simp, Nat.zero_le _, h0⟩, ?_⟩
  rintro i m σ H ⟨rfl, hi, p⟩
  have q := hl i σ H hi p
  by_cases hlt : i < xs.length
  · refine .inr ⟨⟨xs, xs[i], q, by simp [hlt]⟩, Pv (i + 1), fun σ' H' p' => ⟨xs.length - (i + 1), by omega, rfl, hlt, p'⟩, fun x H' y => ?_⟩
    obtain ⟨T, v, rfl, hT, rfl, hv⟩ := y
    exact hs i v σ H (hv xs q) p T hT
  · have : i = xs.length := by omega
    subst this
    exact .inl ⟨⟨xs, q, Nat.le_refl _⟩, hd σ H p⟩
end L2

/-! a flat tuple in a list of flat tuples -/
namespace L2
open PySem PySem.Spec PyProof.Rows
/-- the tuples at ps hold xss -/
structure TsAt (H : Hp) (ps : List Addr) (xss : List (List V)) : Prop where
  len : ps.length = xss.length
  at_ : ∀ (i : Nat) p xs, ps[i]? = some p → xss[i]? = some xs → H p = some (.tup xs)
theorem TsAt.keep {H H' : Hp} {ps : List Addr} {xss : List (List V)} (h : TsAt H ps xss) (s : ∀ p xs, p ∈ ps → H p = some (.tup xs) → H' p = some (.tup xs)) : TsAt H' ps xss := ⟨h.len, fun i p xs a b => s _ _ (List.mem_of_getElem? a) (h.at_ i p xs a b)⟩
theorem TsAt.same {H H' : Hp} {ps : List Addr} {xss : List (List V)} (h : TsAt H ps xss) (s : Same H H') : TsAt H' ps xss := h.keep fun _ _ _ e => s _ _ e
theorem TsAt.nil {H : Hp} : TsAt H [] [] := ⟨rfl, fun i p r h1 h2 => by cases h1⟩
theorem TsAt.snoc {H : Hp} {ps : List Addr} {xss : List (List V)} (h : TsAt H ps xss) {t : Addr} {r : List V} (ht : H t = some (.tup r)) : TsAt H (ps ++ [t]) (xss ++ [r]) := by
  refine ⟨by rw [List.length_append, List.length_append, h.len]; rfl, fun i p q a b => ?_⟩
  by_cases c : i < ps.length
  · rw [List.getElem?_append_left c] at a
    rw [List.getElem?_append_left (by rw [← h.len]; exact c)] at b
    exact h.at_ i p q a b
  · have hi : i = ps.length := by
      have := (List.getElem?_eq_some_iff.mp a).1
      rw [List.length_append] at this
      have e1 : [t].length = 1 := rfl
      omega
    subst hi
    rw [List.getElem?_append_right (Nat.le_refl _), Nat.sub_self] at a
    rw [h.len, List.getElem?_append_right (Nat.le_refl _), Nat.sub_self] at b
    cases Option.some.inj a
    cases Option.some.inj b
    exact ht
theorem TsAt.get {H : Hp} {ps : List Addr} {xss : List (List V)} (h : TsAt H ps xss) {i : Nat} {xs : List V} (hx : xss[i]? = some xs) : ∃ p, ps[i]? = some p ∧ H p = some (.tup xs) := by
  have hi : i < ps.length := by rw [h.len]; exact (List.getElem?_eq_some_iff.mp hx).1
  exact ⟨ps[i], List.getElem?_eq_getElem hi, h.at_ i _ _ (List.getElem?_eq_getElem hi) hx⟩
theorem eqV_self {x : V} (h : flatV x = true) : eqV x x = true := by
  cases x with
  | non => rfl
  | bl b => show (b == b) = true; simp
  | int i => show (i == i) = true; simp
  | str z => show (z == z) = true; simp
  | _ => exact absurd (show false = true from h) Bool.false_ne_true
theorem eqVs_self : ∀ {xs : List V}, xs.all flatV = true → eqVs xs xs = true
  | [], _ => rfl
  | x :: xs, h => by
    rw [List.all_cons, Bool.and_eq_true] at h
    show (eqV x x && eqVs xs xs) = true
    rw [eqV_self h.1, eqVs_self h.2]; rfl
def eqT (H : Hp) (xs : List V) (a : Addr) : Bool := match H a with
  | some (.tup ys) => eqVs ys xs
  | _ => false
theorem any_eqT {H : Hp} {xs : List V} : ∀ {ps : List Addr} {xss : List (List V)}, TsAt H ps xss → ps.any (eqT H xs) = xss.any fun ys => eqVs ys xs
  | [], [], _ => rfl
  | [], _ :: _, h => by have := h.len; cases this
  | _ :: _, [], h => by have := h.len; cases this
  | p :: ps, ys :: xss, h => by
    have h1 : H p = some (.tup ys) := h.at_ 0 p ys rfl rfl
    have h2 : TsAt H ps xss := ⟨by have := h.len; simpa using this, fun i q zs a b => h.at_ (i + 1) q zs (by simpa using a) (by simpa using b)⟩
    rw [List.any_cons, List.any_cons, any_eqT h2]
    congr 1
    unfold eqT
    rw [h1]
section
variable {X : Cx}
def rInTs (K : PySem.W.Frag) (neg : Bool) : R2 := fun x y H Q => ∃ t p ps xs xss, x = .ref t ∧ y = .ref p ∧ H t = some (.tup xs) ∧ SqL K H p (ps.map V.ref) ∧ TsAt H ps xss ∧ xs.all flatV = true ∧ (∀ ys ∈ xss, ys.all flatV = true) ∧
  Q (.bl (if neg then !(xss.any fun ys => eqVs ys xs) else xss.any fun ys => eqVs ys xs)) H
theorem eqT_at {pins : List (Addr × Obj)} {σ : St} {H : Hp} {s : Shared} (I : Inv X pins σ H s) (hu1 : X.A.units + 1 < cLine) {t : Addr} {ps : List Addr} {xs : List V} {xss : List (List V)} (ht : H t = some (.tup xs)) (ts : TsAt H ps xss) (fx : xs.all flatV = true) (fs : ∀ ys ∈ xss, ys.all flatV = true) :
    ∀ a ∈ ps, SeqAt.EqAt X.A.in1 s (.ref a) (.ref t) (eqT H xs a) := by
  intro a ha
  obtain ⟨i, hi⟩ := List.getElem?_of_mem ha
  have hl : i < xss.length := by rw [← ts.len]; exact (List.getElem?_eq_some_iff.mp hi).1
  have h1 := ts.at_ i a _ hi (List.getElem?_eq_getElem hl)
  have f1 := fs _ (List.getElem_mem hl)
  generalize xss[i] = ys at h1 f1
  by_cases e : a = t
  · subst e
    have : eqT H xs a = true := by unfold eqT; rw [ht]; exact eqVs_self fx
    rw [this]; exact SeqAt.EqAt.same _
  · have he : eqT H xs a = eqVs ys xs := by unfold eqT; rw [h1]
    rw [he]
    obtain ⟨u1, v1, m1, _⟩ := I.tuple (SqT.of (K := X.K) h1)
    obtain ⟨u2, v2, m2, _⟩ := I.tuple (SqT.of (K := X.K) ht)
    have l1 := v1.length
    have l2 := v2.length
    have rc := SeqAt.RcAt.tuples (A := X.A.in1) (e := eAt ys xs) m1 m2 (by rw [Around.in1_units]; exact hu1) (fun i k1 k2 => eAt_at v1 v2 f1 fx i k1 k2)
    rw [List.size_toArray, List.size_toArray, ← l1, ← l2, eAt_allT] at rc
    exact SeqAt.EqAt.of_refs e rc
theorem op_in_ts (hu1 : X.A.units + 1 < cLine) : OpR X (compareOp .In) (rInTs X.K false) := by
  intro pins s σ H x y v u Q I rx ry h
  obtain ⟨t, p, ps, xs, xss, rfl, rfl, ht, hp, ts, fx, fs, q⟩ := h
  cases rx
  cases ry
  obtain ⟨us, r1, p1, _⟩ := I.list hp
  have e1 := vals_refs r1
  subst e1
  refine SeqAt.in_listAt (fun u => match u with
    | .ref a => eqT H xs a
    | _ => false) p1.isList (fun w hw => ?_) ⟨.bl _, H, I, rfl, ?_⟩
  · have hw' : w ∈ ps.map Value.ref := by simpa using hw
    obtain ⟨a, ha, rfl⟩ := List.mem_map.mp hw'
    exact eqT_at I hu1 ht ts fx fs a ha
  · rw [show ((ps.map Value.ref).toArray.any fun u => match u with
      | .ref a => eqT H xs a
      | _ => false) = ps.any (eqT H xs) by simp [List.any_map, Function.comp_def], any_eqT ts]
    exact q
theorem op_notIn_ts (hu1 : X.A.units + 1 < cLine) : OpR X (compareOp .NotIn) (rInTs X.K true) := by
  intro pins s σ H x y v u Q I rx ry h
  obtain ⟨t, p, ps, xs, xss, rfl, rfl, ht, hp, ts, fx, fs, q⟩ := h
  cases rx
  cases ry
  obtain ⟨us, r1, p1, _⟩ := I.list hp
  have e1 := vals_refs r1
  subst e1
  refine SeqAt.notIn_listAt (fun u => match u with
    | .ref a => eqT H xs a
    | _ => false) p1.isList (fun w hw => ?_) ⟨.bl _, H, I, rfl, ?_⟩
  · have hw' : w ∈ ps.map Value.ref := by simpa using hw
    obtain ⟨a, ha, rfl⟩ := List.mem_map.mp hw'
    exact eqT_at I hu1 ht ts fx fs a ha
  · rw [show ((ps.map Value.ref).toArray.any fun u => match u with
      | .ref a => eqT H xs a
      | _ => false) = ps.any (eqT H xs) by simp [List.any_map, Function.comp_def], any_eqT ts]
    exact q
end
theorem comp_rangeF0 {fv : List (Str × Nat)} {σ : St} {tc : TTB} {te : TEB} {n : Nat} {H1 : Hp} {Q : VK} (p : Nat → Bool) (f : Nat → V) (hn : n ≤ sizeLine)
    (ct : ∀ (i : Nat) (H' : Hp) (R : Bool → Hp → Prop), i < n → Same H1 H' → (∀ H2, Same H' H2 → R (p i) H2) → ∀ s₀ H₀ ex, tc s₀ H₀ ex (blkS fv σ (some (nat i))) H' R)
    (el : ∀ (i : Nat) (H' : Hp) (R : VK), i < n → p i = true → Same H1 H' → (∀ H2, Same H' H2 → R (f i) H2) → ∀ s₀ H₀ ex, te s₀ H₀ ex (blkS fv σ (some (nat i))) H' R)
    (fin : ∀ D H2, H1 D = none → Same H1 H2 → H2 D = some (.lst (((List.range n).filter p).map f)) → Q (.ref D) H2) : tCompF fv tc te σ (Itr 0 n) H1 Q :=
  comp_rangeF p f hn (fun i H' R hi sm kk => by rw [Int.zero_add]; exact ct i H' R hi sm kk) (fun i H' R hi pi sm kk => by rw [Int.zero_add]; exact el i H' R hi pi sm kk) fin
end L2
namespace L2
open PySem PySem.Spec PyProof.Rows
section
variable {X : Cx} {x : Str} {C : Addr} {k j : Nat} {ps : List Str} {sp : Sp} {CX : CXT} {p pos : Pos}
theorem pe_makeD0 (D : CDef X.prog X.w X.K X.mg X.base CX x C k ps sp) (hE : NoE CX) (hr : Room j X.A) (hg : Gl X x) (hj : k + 1 ≤ j := by decide) (hdb : (x == ("__debug__" : Str)) = false := by decide) :
    PE X (.Call (.Name x p) [] [] pos) (tMake C sp [] E0 tNil) := by
  obtain ⟨f, fd, hm, M, hb, F⟩ := D.ex
  exact pe_make0 M F (hr.mono hj) hg hm hb .nil hE.pass hdb
end
end L2

local macro_rules | `(tactic| walk_at "ns") => `(tactic| try dsimp only [List.set_cons_zero, List.set_cons_succ, _root_.L2.start, _root_.L2.gName, List.map_cons, List.map_nil, List.length_cons, List.length_nil, List.replicate_succ, List.replicate_zero, List.cons_append, List.nil_append, Nat.reduceSub, Nat.reduceAdd])
namespace Prf
open PySem L2 Kin
def top (i : Nat) : PySem.Stmt := PySem.Challenge.pw_kinturns_k09_a_book_of_kin.main.body.getD i (.Pass ⟨0, 0, 0, 0⟩)
structure Ad where
  KinError : Addr
  NoPerson : Addr
  NoParents : Addr
  TooMany : Addr
  Book : Addr
structure Txt (K : PySem.W.Frag) (mg : Str → Option Value) (C : Addr) (e : Ad) : Prop where
  m_Book : mg "Book" = some (.ref e.Book)
  cl_Book : Cls K e.Book
  n_sexes : NoAttr K e.Book "sexes"
  n_fathers : NoAttr K e.Book "fathers"
  n_mothers : NoAttr K e.Book "mothers"
  n_partner_lists : NoAttr K e.Book "partner_lists"
  z_ValueError : mg "ValueError" = none
  z_bool : mg "bool" = none
  z_int : mg "int" = none
  z_isinstance : mg "isinstance" = none
  z_len : mg "len" = none
  z_list : mg "list" = none
  z_max : mg "max" = none
  z_range : mg "range" = none
  z_sorted : mg "sorted" = none
  g_MOST_PERSONS : ∃ u, mg "MOST_PERSONS" = some u ∧ RelV (.int 60) u
  kd : PySem.W.specialIn K (.builtin "object.__class__") "__get__" = some (some (.builtin "getset_descriptor.__get__")) ∧ PySem.W.takesIn K (.builtin "object.__class__") = some true
  m_KinError : mg "KinError" = some (.ref e.KinError)
  m_NoPerson : mg "NoPerson" = some (.ref e.NoPerson)
  x_NoPerson : PySem.W.excIn K e.NoPerson bmVE "ValueError.__new__" = true
  c_NoPerson : ExcCls K e.NoPerson
  w_NoPerson : PySem.W.exmOne K (.ref e.NoPerson) (.ref e.KinError) = some true
  v_NoPerson : PySem.W.kitOne K (.ref e.NoPerson) (.type "ValueError") = some true
  k_NoPerson_NoPerson : PySem.W.kitOne K (.ref e.NoPerson) (.ref e.NoPerson) = some true
  k_NoPerson_NoParents : PySem.W.kitOne K (.ref e.NoPerson) (.ref e.NoParents) = some false
  k_NoPerson_TooMany : PySem.W.kitOne K (.ref e.NoPerson) (.ref e.TooMany) = some false
  m_NoParents : mg "NoParents" = some (.ref e.NoParents)
  x_NoParents : PySem.W.excIn K e.NoParents bmVE "ValueError.__new__" = true
  c_NoParents : ExcCls K e.NoParents
  w_NoParents : PySem.W.exmOne K (.ref e.NoParents) (.ref e.KinError) = some true
  v_NoParents : PySem.W.kitOne K (.ref e.NoParents) (.type "ValueError") = some true
  k_NoParents_NoPerson : PySem.W.kitOne K (.ref e.NoParents) (.ref e.NoPerson) = some false
  k_NoParents_NoParents : PySem.W.kitOne K (.ref e.NoParents) (.ref e.NoParents) = some true
  k_NoParents_TooMany : PySem.W.kitOne K (.ref e.NoParents) (.ref e.TooMany) = some false
  m_TooMany : mg "TooMany" = some (.ref e.TooMany)
  x_TooMany : PySem.W.excIn K e.TooMany bmVE "ValueError.__new__" = true
  c_TooMany : ExcCls K e.TooMany
  w_TooMany : PySem.W.exmOne K (.ref e.TooMany) (.ref e.KinError) = some true
  v_TooMany : PySem.W.kitOne K (.ref e.TooMany) (.type "ValueError") = some true
  k_TooMany_NoPerson : PySem.W.kitOne K (.ref e.TooMany) (.ref e.NoPerson) = some false
  k_TooMany_NoParents : PySem.W.kitOne K (.ref e.TooMany) (.ref e.NoParents) = some false
  k_TooMany_TooMany : PySem.W.kitOne K (.ref e.TooMany) (.ref e.TooMany) = some true
/-! what all laws share -/
def sexS (m : Bool) : Str := if m then "man" else "woman"
abbrev sexV (m : Bool) : V := .str (sexS m)
def pairV (s : Bool × Nat) : List V := [sexV s.1, nat s.2]
theorem sex_man (m : Bool) : decide (sexV m = V.str "man") = m := by cases m <;> decide +kernel
theorem sex_woman (m : Bool) : decide (sexV m = V.str "woman") = !m := by cases m <;> decide +kernel
theorem emod_nat (z : Int) {k : Nat} (hk : 0 < k) : ∃ q : Nat, z % (k : Int) = (q : Int) ∧ q < k :=
  ⟨(z % (k : Int)).toNat, by have := Int.emod_nonneg z (show (k : Int) ≠ 0 by omega); omega, by have := Int.emod_lt_of_pos z (show (0 : Int) < k by omega); have := Int.emod_nonneg z (show (k : Int) ≠ 0 by omega); omega⟩
theorem pick_sex (q : Int) (h0 : 0 ≤ q) (h2 : q < 2) : ∃ m, atI [V.str "man", V.str "woman"] q = some (sexV m) := by
  have h : q = 0 ∨ q = 1 := by omega
  rcases h with rfl | rfl
  · exact ⟨true, rfl⟩
  · exact ⟨false, rfl⟩
/-- the class is one of n -/
abbrev InC (n : Nat) (c : Int) : Prop := 0 ≤ c ∧ c < (n : Int)
theorem log_small {n : Nat} (h : n < 10 ^ 9) : n.log2 < 1920 := by
  by_cases z : n = 0
  · subst z; decide
  · exact (Nat.log2_lt z).mpr (Nat.lt_trans h (Nat.lt_of_lt_of_le (by decide : 10 ^ 9 < 2 ^ 30) (Nat.pow_le_pow_right (by decide) (by decide))))
theorem bt_max : PySem.bootBuiltins "max" = some (.builtin "max") := by decide +kernel
theorem sIx_natN (n d k : Nat) (hk : k ≤ n) : HT.sIx n d (some (k : Int)) = k := by
  unfold HT.sIx
  simp only
  split <;> omega
theorem cut_dropN (xs : List V) (k : Nat) (hk : k ≤ xs.length) : cutV xs (some (k : Int)) none = xs.drop k := by
  unfold cutV
  rw [sIx_natN _ _ _ hk, show HT.sIx xs.length xs.length none = xs.length from rfl]
  exact List.take_of_length_le (by rw [List.length_drop]; exact Nat.le_refl _)


--CUT
/-! the law's own helpers -/
def spCellAt (K : PySem.W.Frag) : Sp := fun vs H Q _ => ∃ (a : Addr) (ns : List Int) (k : Nat), vs = [.ref a, nat k] ∧ SqL K H a (ns.map V.int) ∧ ∀ z, Q (.int z) H
def spWhole : Sp := fun vs H Q _ => ∃ i, vs = [.int i] ∧ Q (.bl true) H
def spTurnBy : Sp := fun vs H Q _ => ∃ z n, vs = [.int z, nat n] ∧ n ≤ 8 ∧ ∀ w D H', IsTurn n w → H D = none → Same H H' → H' D = some (.lst (natL w)) → Q (.ref D) H'
def spWalkBy : Sp := fun vs H Q _ => ∃ z most, vs = [.int z, nat most] ∧ most ≤ 60 ∧ ∀ l : List Nat, l.length ≤ most → (∀ x ∈ l, IsL x) → Q (.str (txt l)) H
def spStep : Sp := fun vs H Q _ => ∃ a b n w h m c l, vs = [.ref a, .ref b, sexV m, nat c, sgn l] ∧ H a = some (.lst (natL w)) ∧ H b = some (.lst (natL h)) ∧ IsTurn n w ∧ IsTurn n h ∧ c < n ∧ IsL l ∧
  ∀ t, H t = none → Q (.ref t) (upd H t (.tup (pairV (step w h (m, c) l))))
def spLed : Sp := fun vs H Q _ => ∃ a b n w h m c l, vs = [.ref a, .ref b, sexV m, nat c, .str (txt l)] ∧ H a = some (.lst (natL w)) ∧ H b = some (.lst (natL h)) ∧ IsTurn n w ∧ IsTurn n h ∧ c < n ∧ l.length ≤ 60 ∧ (∀ x ∈ l, IsL x) ∧
  ∀ t H', H t = none → Same H H' → H' t = some (.tup (pairV (led w h (m, c) l))) → Q (.ref t) H'
def spSexAt : Sp := fun vs H Q _ => ∃ m l, vs = [sexV m, .str (txt l)] ∧ (∀ x ∈ l, IsL x) ∧ Q (sexV (endS m l)) H
def spLaw (K : PySem.W.Frag) : Sp := fun vs H Q _ => ∃ (a : Addr) (ns : List Int), vs = [.ref a] ∧ ns.length ≤ 63 ∧ SqL K H a (ns.map V.int) ∧ ∀ H', Q (.bl true) H'
def spSameN : Sp := fun vs H Q _ => ∃ (a b : Addr) (ns ms : List Int), vs = [.ref a, .ref b] ∧ H a = some (.lst (ns.map V.int)) ∧ H b = some (.lst (ms.map V.int)) ∧ ms.length ≤ 1000 ∧ Q (.bl (decide (ns = ms))) H
section
variable {P : Program} {w : World} {K : PySem.W.Frag} {mg : Str → Option Value} {base : Heap} {CX : CXT} {C : Addr} {e : Ad}
theorem sc_cell : FnScope ["script", "k"] ["script", "k"] (defScope (top 10)) := ⟨rfl, rfl, rfl, by decide +kernel, rfl, by decide +kernel, by decide +kernel⟩
theorem ok_cell {f : Addr} {fd : FuncData} (F : Fun K "_law_cell_at" "_law_cell_at" (top 10) f fd) (T : Txt K mg C e) : FnOk P w K mg base CX 1 f fd ["script", "k"] (spCellAt K) := by
  refine F.okN sc_cell (fun vs H Q E h => ?_) (fun cdv A outer s H vs Q E hr h => ?_)
  · obtain ⟨a, ns, k, rfl, _⟩ := h; rfl
  · obtain ⟨a, ns, c, rfl, hS, k⟩ := h
    refine ⟨_, (pss_cons (ps_if (pt_cmpR op_lt (pv 1) (pe_callB call_len_seq rfl T.z_len PySem.boot_len (pa_cons (pv 0) pa_nil)) (nomark _)) (pss_one (ps_ret (pe_ix ix_list (pv 0) (pv 1) (fun _ _ => rfl)))) pss_nil)
      (pss_one (ps_ret pe_int))), ?_⟩
    refine ⟨_, rfl, _, rfl, a, _, rfl, .inl hS, _, _, rfl, rfl, _, rfl, iteD2 (fun e => ?_) (fun _ => k 0)⟩
    rw [List.length_map] at e
    have hlt : c < ns.length := by omega
    exact ⟨_, rfl, _, rfl, a, _, _, V.int ns[c], rfl, rfl, hS, atI_nat (by rw [List.getElem?_map, List.getElem?_eq_getElem hlt]; rfl), k _⟩
theorem sc_whole : FnScope ["found"] ["found"] (defScope (top 11)) := ⟨rfl, rfl, rfl, by decide +kernel, rfl, by decide +kernel, by decide +kernel⟩
theorem ok_whole {f : Addr} {fd : FuncData} (F : Fun K "_law_whole" "_law_whole" (top 11) f fd) (T : Txt K mg C e) : FnOk P w K mg base CX 1 f fd ["found"] spWhole := by
  refine F.okN sc_whole (fun vs H Q E h => ?_) (fun cdv A outer s H vs Q E hr h => ?_)
  · obtain ⟨i, rfl, _⟩ := h; rfl
  · obtain ⟨i, rfl, k⟩ := h
    refine ⟨_, (pss_one (ps_ret (pe_and (pe_callB call_isinst rfl T.z_isinstance bt_isinstance (pa_cons (pv 0) (pa_cons (pe_bltn (v := .ty "int") rfl T.z_int bt_int rfl) pa_nil))) (pe_one (pe_not (pe_callB call_isinst rfl T.z_isinstance bt_isinstance (pa_cons (pv 0) (pa_cons (pe_bltn (v := .ty "bool") rfl T.z_bool bt_bool rfl) pa_nil)))))))), ?_⟩
    refine ⟨_, rfl, V.int i, "int", _, true, rfl, TyOf.int i, kit_same, _, rfl, iteT ?_⟩
    exact ⟨_, rfl, V.int i, "bool", _, false, rfl, TyOf.int i, kit_ib, _, rfl, k⟩
theorem natL_erase : ∀ (l : List Nat) (k : Nat), (natL l).eraseIdx k = natL (l.eraseIdx k)
  | [], _ => rfl
  | _ :: _, 0 => rfl
  | a :: r, k + 1 => by
    show (nat a :: natL r).eraseIdx (k + 1) = _
    rw [List.eraseIdx_cons_succ, natL_erase r k]
    rfl
theorem natL_snoc (l : List Nat) (x : Nat) : natL l ++ [nat x] = natL (l ++ [x]) := by unfold natL; rw [List.map_append]; rfl
theorem in_mdz' {l : Nat} (h : IsL l) : (!(Builtin.Str.occurrences ("mdz" : Str) ⟨#[l]⟩ 0 ("mdz" : Str).length 1).isEmpty) = (l == 109 || l == 100 || l == 122) := by
  rcases h with rfl | rfl | rfl | rfl | rfl | rfl | rfl <;> decide +kernel
theorem in_sd' {l : Nat} (h : IsL l) : (!(Builtin.Str.occurrences ("sd" : Str) ⟨#[l]⟩ 0 ("sd" : Str).length 1).isEmpty) = (l == 115 || l == 100) := by
  rcases h with rfl | rfl | rfl | rfl | rfl | rfl | rfl <;> decide +kernel
theorem c_b' : ("b" : Str) = ⟨#[98]⟩ := by decide +kernel
theorem eqVs_pairs (s t : Bool × Nat) : eqVs (pairV s) (pairV t) = decide (s = t) := by
  show ((sexS s.1 == sexS t.1) && (((s.2 : Int) == (t.2 : Int)) && true)) = _
  obtain ⟨a, b⟩ := s
  obtain ⟨c, d⟩ := t
  have e1 : (sexS a == sexS c) = decide (a = c) := by cases a <;> cases c <;> decide +kernel
  have e2 : ((b : Int) == (d : Int)) = decide (b = d) := by
    by_cases q : b = d
    · subst q; simp
    · rw [decide_eq_false q, beq_eq_false_iff_ne]; omega
  dsimp only
  rw [e1, e2, Bool.and_true]
  by_cases q1 : a = c <;> by_cases q2 : b = d <;> simp [q1, q2]
theorem sexV_eq (a b : Bool) : decide (sexV a = sexV b) = decide (a = b) := by cases a <;> cases b <;> decide +kernel
theorem sc_samen : FnScope ["found", "due", "k"] ["found", "due"] (defScope (top 12)) := ⟨rfl, rfl, rfl, by decide +kernel, rfl, by decide +kernel, by decide +kernel⟩
theorem ok_samen {f : Addr} {fd : FuncData} (F : Fun K "_law_same_numbers" "_law_same_numbers" (top 12) f fd) (T : Txt K mg C e) (hE : NoE CX) (D__law_whole : Def P w K mg base CX "_law_whole" 1 ["found"] spWhole) : FnOk P w K mg base CX 2 f fd ["found", "due"] spSameN := by
  refine F.okN sc_samen (fun vs H Q E h => ?_) (fun cdv A outer s H vs Q E hr h => ?_)
  · obtain ⟨a, b, ns, ms, rfl, _⟩ := h; rfl
  · obtain ⟨a, b, ns, ms, rfl, ha, hb, hl, k⟩ := h
    have nd := sc_samen.nd
    refine ⟨_, (pss_cons (ps_if (PW.pt (pw_or (pt_not (pt_val (pe_callB call_isinst rfl T.z_isinstance bt_isinstance (pa_cons (pv 0) (pa_cons (pe_bltn (v := .ty "list") rfl T.z_list bt_list rfl) pa_nil))))) (pw_or1 (pt_cmpR op_ne (pe_callB call_len_seq rfl T.z_len PySem.boot_len (pa_cons (pv 0) pa_nil)) (pe_callB call_len_seq rfl T.z_len PySem.boot_len (pa_cons (pv 1) pa_nil)) (nomark _))))) (pss_one (ps_ret pe_bl)) pss_nil)
      (pss_cons (ps_for PassesOwn.never rfl (pi_range1 rfl T.z_range (pa_cons (pe_callB call_len_seq rfl T.z_len PySem.boot_len (pa_cons (pv 1) pa_nil)) pa_nil)) (pg_name (i := 2) nd rfl (Or.inl rfl)) (pss_one (ps_if (PW.pt (pw_or (pt_not (pt_val (pe_callD D__law_whole hE hr rfl (pa_cons (pe_ix ix_list (pv 0) (pv 2) (fun _ _ => rfl)) pa_nil)))) (pw_or1 (pt_cmpR op_ne (pe_ix ix_list (pv 0) (pv 2) (fun _ _ => rfl)) (pe_ix ix_list (pv 1) (pv 2) (fun _ _ => rfl)) (nomark _))))) (pss_one (ps_ret pe_bl)) pss_nil)))
      (pss_one (ps_ret pe_bl)))), ?_⟩
    refine ⟨_, rfl, .ref a, "list", _, true, rfl, TyOf.lst ha, kit_same, _, rfl, iteF ?_⟩
    refine ⟨_, rfl, a, _, rfl, .inl (SqL.of ha), _, rfl, b, _, rfl, .inl (SqL.of hb), rfl, _, rfl, ?_⟩
    rw [List.length_map, List.length_map]
    have el : (!decide (V.int (ns.length : Int) = V.int (ms.length : Int))) = !decide (ns.length = ms.length) := by
      rw [dec_int]
      by_cases q : ns.length = ms.length
      · rw [q]; simp
      · rw [decide_eq_false q, beq_eq_false_iff_ne.mpr (by omega)]
    rw [el]
    by_cases q : ns.length = ms.length
    · rw [decide_eq_true q]
      refine iteF ⟨_, rfl, b, _, rfl, .inl (SqL.of hb), _, rfl, by rw [List.length_map]; omega, by rw [List.length_map]; omega, ?_⟩
      rw [List.length_map, Int.toNat_natCast]
      refine for_range0 (fun i σ H2 => (∃ o, σ = [some (.ref a), some (.ref b), o]) ∧ H2 = H ∧ ns.take i = ms.take i) ⟨⟨none, rfl⟩, rfl, rfl⟩ ?_ ?_
      · rintro i σ H2 hi ⟨⟨o, rfl⟩, rfl, ht⟩
        have hi' : i < ns.length := by omega
        have ga : atI (ns.map V.int) (i : Int) = some (V.int ns[i]) := atI_nat (by rw [List.getElem?_map, List.getElem?_eq_getElem hi']; rfl)
        have gb : atI (ms.map V.int) (i : Int) = some (V.int ms[i]) := atI_nat (by rw [List.getElem?_map, List.getElem?_eq_getElem hi]; rfl)
        refine ⟨_, rfl, _, rfl, a, _, _, _, rfl, rfl, SqL.of ha, ga, _, rfl, _, rfl, iteF ?_⟩
        refine ⟨_, rfl, _, rfl, a, _, _, _, rfl, rfl, SqL.of ha, ga, _, rfl, _, rfl, b, _, _, _, rfl, rfl, SqL.of hb, gb, rfl, _, rfl, ?_⟩
        rw [dec_int]
        by_cases z : ns[i] = ms[i]
        · rw [z, beq_self_eq_true]
          refine iteF ⟨⟨_, rfl⟩, rfl, ?_⟩
          rw [List.take_add_one, List.take_add_one, ht, List.getElem?_eq_getElem hi', List.getElem?_eq_getElem hi, z]
        · rw [beq_eq_false_iff_ne.mpr z]
          refine iteT ?_
          have ne : ns ≠ ms := fun zz => z (by subst zz; rfl)
          rw [decide_eq_false ne] at k
          exact k
      · rintro σ H2 ⟨⟨o, rfl⟩, rfl, ht⟩
        rw [List.take_length, ← q, List.take_length] at ht
        rw [decide_eq_true ht] at k
        exact k
    · rw [decide_eq_false q]
      refine iteT ?_
      have ne : ns ≠ ms := fun zz => q (by rw [zz])
      rw [decide_eq_false ne] at k
      exact k
end


--CUT
/-! books: what a book is, what it looks like, and its own defs -/
abbrev Per := Bool × Option (Nat × Nat)
structure Bk where
  ps : List Per
  prs : List (Nat × Nat)
def faV (x : Per) : V := match x.2 with
  | none => .non
  | some q => nat q.1
def moV (x : Per) : V := match x.2 with
  | none => .non
  | some q => nat q.2
def perSex (x : Per) : V := sexV x.1
def IsS (bk : Bk) (i : Nat) (s : Bool) : Prop := ∃ x, bk.ps[i]? = some x ∧ x.1 = s
def mates (prs : List (Nat × Nat)) (i : Nat) : List Nat := (prs.filter fun q => decide (q.1 = i)).map (·.2) ++ (prs.filter fun q => decide (q.2 = i)).map (·.1)
structure BkOk (bk : Bk) : Prop where
  n60 : bk.ps.length ≤ 60
  pl : bk.prs.length ≤ 1000
  par : ∀ x ∈ bk.ps, ∀ q, x.2 = some q → IsS bk q.1 true ∧ IsS bk q.2 false ∧ q ∈ bk.prs
  pr : ∀ q ∈ bk.prs, IsS bk q.1 true ∧ IsS bk q.2 false
  nd : bk.prs.Nodup
def Bk.add (bk : Bk) (x : Per) : Bk := ⟨bk.ps ++ [x], bk.prs⟩
def Bk.pair (bk : Bk) (q : Nat × Nat) : Bk := ⟨bk.ps, if q ∈ bk.prs then bk.prs else bk.prs ++ [q]⟩
theorem IsS.lt {bk : Bk} {i : Nat} {s : Bool} (h : IsS bk i s) : i < bk.ps.length := by
  obtain ⟨x, hx, _⟩ := h
  exact (List.getElem?_eq_some_iff.mp hx).1
theorem IsS.uniq {bk : Bk} {i : Nat} {s t : Bool} (h : IsS bk i s) (g : IsS bk i t) : s = t := by
  obtain ⟨x, hx, rfl⟩ := h
  obtain ⟨y, hy, rfl⟩ := g
  rw [hx] at hy
  cases Option.some.inj hy
  rfl
theorem IsS.of {bk : Bk} {i : Nat} (h : i < bk.ps.length) : ∃ s, IsS bk i s := ⟨_, bk.ps[i], List.getElem?_eq_getElem h, rfl⟩
theorem IsS.add {bk : Bk} {i : Nat} {s : Bool} {x : Per} (h : IsS bk i s) : IsS (bk.add x) i s := by
  obtain ⟨y, hy, rfl⟩ := h
  exact ⟨y, by show (bk.ps ++ [x])[i]? = some y; rw [List.getElem?_append_left (List.getElem?_eq_some_iff.mp hy).1]; exact hy, rfl⟩
theorem BkOk.added {bk : Bk} (h : BkOk bk) {x : Per} (n : bk.ps.length < 60) (hx : ∀ q, x.2 = some q → IsS bk q.1 true ∧ IsS bk q.2 false ∧ q ∈ bk.prs) : BkOk (bk.add x) := by
  refine ⟨by show (bk.ps ++ [x]).length ≤ 60; rw [List.length_append]; show _ + 1 ≤ 60; omega, h.pl, fun y hy q hq => ?_, fun q hq => ⟨(h.pr q hq).1.add, (h.pr q hq).2.add⟩, h.nd⟩
  rcases List.mem_append.mp hy with z | z
  · obtain ⟨a, b, c⟩ := h.par y z q hq
    exact ⟨a.add, b.add, c⟩
  · rw [List.mem_singleton.mp z] at hq
    obtain ⟨a, b, c⟩ := hx q hq
    exact ⟨a.add, b.add, c⟩
theorem BkOk.paired {bk : Bk} (h : BkOk bk) {q : Nat × Nat} (n : bk.prs.length < 1000) (h1 : IsS bk q.1 true) (h2 : IsS bk q.2 false) : BkOk (bk.pair q) := by
  unfold Bk.pair
  by_cases z : q ∈ bk.prs
  · rw [if_pos z]; exact h
  · rw [if_neg z]
    refine ⟨h.n60, by show (bk.prs ++ [q]).length ≤ 1000; rw [List.length_append]; show _ + 1 ≤ 1000; omega, fun x hx r hr => ?_, fun r hr => ?_, ?_⟩
    · obtain ⟨a, b, c⟩ := h.par x hx r hr
      exact ⟨a, b, List.mem_append_left _ c⟩
    · rcases List.mem_append.mp hr with y | y
      · exact h.pr r y
      · rw [List.mem_singleton.mp y]; exact ⟨h1, h2⟩
    · rw [List.nodup_append]
      exact ⟨h.nd, List.nodup_cons.mpr ⟨fun y => (List.not_mem_nil y), List.nodup_nil⟩, fun a ha b hb e => z (by rw [← List.mem_singleton.mp hb, ← e]; exact ha)⟩
theorem mem_pair {bk : Bk} {q : Nat × Nat} : q ∈ (bk.pair q).prs := by
  unfold Bk.pair
  by_cases z : q ∈ bk.prs
  · rw [if_pos z]; exact z
  · rw [if_neg z]; exact List.mem_append_right _ (List.mem_singleton.mpr rfl)
theorem mates_snoc (prs : List (Nat × Nat)) (q : Nat × Nat) (i : Nat) (h : q.1 = i → ∀ r ∈ prs, r.2 ≠ i) : mates (prs ++ [q]) i = mates prs i ++ ((if q.1 = i then [q.2] else []) ++ (if q.2 = i then [q.1] else [])) := by
  unfold mates
  rw [List.filter_append, List.filter_append, List.map_append, List.map_append]
  by_cases a : q.1 = i
  · have e : prs.filter (fun q => decide (q.2 = i)) = [] := List.filter_eq_nil_iff.mpr fun r hr => by rw [decide_eq_false (h a r hr)]; exact Bool.false_ne_true
    rw [e, if_pos a]
    by_cases b : q.2 = i
    · simp [a, b]
    · simp [a, b]
  · rw [if_neg a]
    by_cases b : q.2 = i
    · simp [a, b]
    · simp [a, b]
theorem u12 : ¬ (("sexes" : Str) = "fathers") := by decide +kernel
theorem u13 : ¬ (("sexes" : Str) = "mothers") := by decide +kernel
theorem u14 : ¬ (("sexes" : Str) = "partner_lists") := by decide +kernel
theorem u23 : ¬ (("fathers" : Str) = "mothers") := by decide +kernel
theorem u24 : ¬ (("fathers" : Str) = "partner_lists") := by decide +kernel
theorem u34 : ¬ (("mothers" : Str) = "partner_lists") := by decide +kernel
def bfl (a b c d : Addr) : List (Str × V) := putF "partner_lists" (.ref d) (putF "mothers" (.ref c) (putF "fathers" (.ref b) (putF "sexes" (.ref a) [])))
theorem bfl_s (a b c d : Addr) : (bfl a b c d).lookup ("sexes" : Str) = some (.ref a) := by
  unfold bfl
  rw [lookup_putF, if_neg u14, lookup_putF, if_neg u13, lookup_putF, if_neg u12, lookup_putF, if_pos rfl]
theorem bfl_f (a b c d : Addr) : (bfl a b c d).lookup ("fathers" : Str) = some (.ref b) := by
  unfold bfl
  rw [lookup_putF, if_neg u24, lookup_putF, if_neg u23, lookup_putF, if_pos rfl]
theorem bfl_m (a b c d : Addr) : (bfl a b c d).lookup ("mothers" : Str) = some (.ref c) := by
  unfold bfl
  rw [lookup_putF, if_neg u34, lookup_putF, if_pos rfl]
theorem bfl_p (a b c d : Addr) : (bfl a b c d).lookup ("partner_lists" : Str) = some (.ref d) := by
  unfold bfl
  rw [lookup_putF, if_pos rfl]
theorem bfl_no (a b c d : Addr) {m : Str} (h1 : ¬ m = "partner_lists") (h2 : ¬ m = "mothers") (h3 : ¬ m = "fathers") (h4 : ¬ m = "sexes") : (bfl a b c d).lookup m = none := by
  unfold bfl
  rw [lookup_putF, if_neg h1, lookup_putF, if_neg h2, lookup_putF, if_neg h3, lookup_putF, if_neg h4]
  all_goals rfl
/-- a book in the heap; fp: what it writes to -/
structure BookAt (B : Addr) (H : Hp) (p : Addr) (fp : List Addr) (bk : Bk) : Prop where
  ok : BkOk bk
  nd : fp.Nodup
  ob : ∃ dx a b c d qs, fp = a :: b :: c :: d :: qs ∧ H p = some (.ins B dx (bfl a b c d)) ∧ H a = some (.lst (bk.ps.map perSex)) ∧ H b = some (.lst (bk.ps.map faV)) ∧ H c = some (.lst (bk.ps.map moV)) ∧ H d = some (.lst (qs.map V.ref)) ∧
    qs.length = bk.ps.length ∧ ∀ (i : Nat) q, qs[i]? = some q → H q = some (.lst (natL (mates bk.prs i)))
theorem BookAt.keep {B : Addr} {H H' : Hp} {p : Addr} {fp : List Addr} {bk : Bk} (T : BookAt B H p fp bk) (s : ∀ c o, H c = some o → c ∈ p :: fp → H' c = some o) : BookAt B H' p fp bk := by
  obtain ⟨ok, nd, dx, a, b, c, d, qs, rfl, e1, e2, e3, e4, e5, e6, e7⟩ := T
  exact ⟨ok, nd, dx, a, b, c, d, qs, rfl, s _ _ e1 (by simp), s _ _ e2 (by simp), s _ _ e3 (by simp), s _ _ e4 (by simp), s _ _ e5 (by simp), e6, fun i q h => s _ _ (e7 i q h) (by simp [List.mem_of_getElem? h])⟩
theorem BookAt.same {B : Addr} {H H' : Hp} {p : Addr} {fp : List Addr} {bk : Bk} (T : BookAt B H p fp bk) (s : Same H H') : BookAt B H' p fp bk := T.keep fun c o h _ => s c o h
/-- every address of a book holds something -/
theorem BookAt.held {B : Addr} {H : Hp} {p : Addr} {fp : List Addr} {bk : Bk} (T : BookAt B H p fp bk) {c : Addr} (hc : c ∈ p :: fp) : ∃ o, H c = some o := by
  obtain ⟨ok, nd, dx, a, b, c1, d, qs, rfl, e1, e2, e3, e4, e5, e6, e7⟩ := T
  simp only [List.mem_cons] at hc
  rcases hc with rfl | rfl | rfl | rfl | rfl | h
  · exact ⟨_, e1⟩
  · exact ⟨_, e2⟩
  · exact ⟨_, e3⟩
  · exact ⟨_, e4⟩
  · exact ⟨_, e5⟩
  · obtain ⟨i, hi⟩ := List.getElem?_of_mem h
    exact ⟨_, e7 i c hi⟩
/-- the heap behind a deed in a book -/
def After (B : Addr) (H : Hp) (p : Addr) (fp : List Addr) (bk' : Bk) (K : Hp → Prop) : Prop :=
  ∀ fp' H', BookAt B H' p fp' bk' → (∀ c o, H c = some o → c ∉ fp → H' c = some o) → (∀ c ∈ fp', c ∈ fp ∨ H c = none) → (∀ c ∈ fp, c ∈ fp') → K H'
theorem gone {B : Addr} {H H' : Hp} {p : Addr} {fp fp' : List Addr} {bk' : Bk} (BA : BookAt B H' p fp' bk') (kp : ∀ c o, H c = some o → c ∉ fp → H' c = some o) (sb : ∀ c ∈ fp, c ∈ fp') (c : Addr) (h : H' c = none) : H c = none := by
  cases y : H c with
  | none => rfl
  | some o =>
    by_cases q : c ∈ fp
    · obtain ⟨o', ho'⟩ := BA.held (List.mem_cons_of_mem p (sb c q))
      rw [h] at ho'; cases ho'
    · rw [kp c o y q] at h; cases h
/-- two numbers: a man and a woman of the book -/
def Cpl (bk : Bk) (i j : Int) : Prop := ∃ m f : Nat, i = (m : Int) ∧ j = (f : Int) ∧ IsS bk m true ∧ IsS bk f false
abbrev InB (bk : Bk) (i : Int) : Prop := InC bk.ps.length i
abbrev Sn (i : Int) : Prop := i.natAbs.log2 < 1920
def spAskB (e : Ad) (R : Bk → Nat → V → Prop) : Sp := fun vs H Q E => ∃ (p : Addr) (fp : List Addr) (bk : Bk) (i : Int), vs = [.ref p, .int i] ∧ BookAt e.Book H p fp bk ∧ Sn i ∧ (InB bk i → ∀ v, R bk i.toNat v → Q v H) ∧ (¬ InB bk i → E (.ref e.NoPerson) none H)
abbrev spCheckP (e : Ad) : Sp := spAskB e fun _ _ v => v = .non
abbrev spSexOf (e : Ad) : Sp := spAskB e fun bk i v => ∃ x, bk.ps[i]? = some x ∧ v = sexV x.1
abbrev spFatherB (e : Ad) : Sp := spAskB e fun bk i v => ∃ x, bk.ps[i]? = some x ∧ v = faV x
abbrev spMotherB (e : Ad) : Sp := spAskB e fun bk i v => ∃ x, bk.ps[i]? = some x ∧ v = moV x
def spListB (e : Ad) (R : Bk → Nat → List Nat → Prop) : Sp := fun vs H Q E => ∃ (p : Addr) (fp : List Addr) (bk : Bk) (i : Int), vs = [.ref p, .int i] ∧ BookAt e.Book H p fp bk ∧ Sn i ∧ (InB bk i → ∀ l D H', R bk i.toNat l → H D = none → Same H H' → H' D = some (.lst (natL l)) → Q (.ref D) H') ∧ (¬ InB bk i → E (.ref e.NoPerson) none H)
def kids (bk : Bk) (a : Nat) : List Nat := (List.range bk.ps.length).filter fun i => match bk.ps[i]? with
  | some x => inV (nat a) [faV x, moV x]
  | none => false
abbrev spPartnersB (e : Ad) : Sp := spListB e fun bk i l => l.Perm (mates bk.prs i) ∧ l.Pairwise (· ≤ ·)
abbrev spChildrenB (e : Ad) : Sp := spListB e fun bk i l => l = kids bk i
def spSizeB (e : Ad) : Sp := fun vs H Q _ => ∃ (p : Addr) (fp : List Addr) (bk : Bk), vs = [.ref p] ∧ BookAt e.Book H p fp bk ∧ Q (nat bk.ps.length) H
def spCouple (e : Ad) : Sp := fun vs H Q E => ∃ (p : Addr) (fp : List Addr) (bk : Bk) (i j : Int), vs = [.ref p, .int i, .int j] ∧ BookAt e.Book H p fp bk ∧ Sn i ∧ Sn j ∧ (Cpl bk i j → Q .non H) ∧ (¬ (InB bk i ∧ InB bk j) → E (.ref e.NoPerson) none H) ∧ (InB bk i → InB bk j → ¬ Cpl bk i j → E (.ref e.NoParents) none H)
def spRoom (e : Ad) : Sp := fun vs H Q E => ∃ (p : Addr) (fp : List Addr) (bk : Bk), vs = [.ref p] ∧ BookAt e.Book H p fp bk ∧ (bk.ps.length < 60 → Q .non H) ∧ (60 ≤ bk.ps.length → E (.ref e.TooMany) none H)
def spEnter (e : Ad) : Sp := fun vs H Q _ => ∃ (p : Addr) (fp : List Addr) (bk : Bk) (x : Per), vs = [.ref p, sexV x.1, faV x, moV x] ∧ BookAt e.Book H p fp bk ∧ bk.ps.length < 60 ∧ (∀ q, x.2 = some q → IsS bk q.1 true ∧ IsS bk q.2 false ∧ q ∈ bk.prs) ∧ After e.Book H p fp (bk.add x) (Q (nat bk.ps.length))
def spPair (e : Ad) : Sp := fun vs H Q _ => ∃ (p : Addr) (fp : List Addr) (bk : Bk) (m f : Nat), vs = [.ref p, nat m, nat f] ∧ BookAt e.Book H p fp bk ∧ bk.prs.length < 1000 ∧ IsS bk m true ∧ IsS bk f false ∧ After e.Book H p fp (bk.pair (m, f)) (Q .non)
def spCome (e : Ad) : Sp := fun vs H Q E => ∃ (p : Addr) (fp : List Addr) (bk : Bk) (s : Bool), vs = [.ref p, sexV s] ∧ BookAt e.Book H p fp bk ∧ (bk.ps.length < 60 → After e.Book H p fp (bk.add (s, none)) (Q (nat bk.ps.length))) ∧ (60 ≤ bk.ps.length → E (.ref e.TooMany) none H)
def spBorn (e : Ad) : Sp := fun vs H Q E => ∃ (p : Addr) (fp : List Addr) (bk : Bk) (s : Bool) (i j : Int), vs = [.ref p, sexV s, .int i, .int j] ∧ BookAt e.Book H p fp bk ∧ Sn i ∧ Sn j ∧
  (∀ m f : Nat, i = (m : Int) → j = (f : Int) → IsS bk m true → IsS bk f false → bk.ps.length < 60 → bk.prs.length < 1000 ∧ After e.Book H p fp ((bk.pair (m, f)).add (s, some (m, f))) (Q (nat bk.ps.length))) ∧
  (¬ (InB bk i ∧ InB bk j) → E (.ref e.NoPerson) none H) ∧ (InB bk i → InB bk j → ¬ Cpl bk i j → E (.ref e.NoParents) none H) ∧ (Cpl bk i j → 60 ≤ bk.ps.length → E (.ref e.TooMany) none H)
def spWed (e : Ad) : Sp := fun vs H Q E => ∃ (p : Addr) (fp : List Addr) (bk : Bk) (i j : Int), vs = [.ref p, .int i, .int j] ∧ BookAt e.Book H p fp bk ∧ Sn i ∧ Sn j ∧
  (∀ m f : Nat, i = (m : Int) → j = (f : Int) → IsS bk m true → IsS bk f false → bk.prs.length < 1000 ∧ After e.Book H p fp (bk.pair (m, f)) (Q .non)) ∧
  (¬ (InB bk i ∧ InB bk j) → E (.ref e.NoPerson) none H) ∧ (InB bk i → InB bk j → ¬ Cpl bk i j → E (.ref e.NoParents) none H)
def spBookInit (e : Ad) : Sp := fun vs H Q _ => ∃ (x dx : Addr), vs = [.ref x] ∧ H x = some (.ins e.Book dx []) ∧
  ∀ fp H', (∀ c o, H c = some o → c ≠ x → H' c = some o) → (∀ c ∈ fp, H c = none) → BookAt e.Book H' x fp ⟨[], []⟩ → Q .non H'
theorem toN {n : Nat} {i : Int} (h : InC n i) : ∃ k : Nat, i = (k : Int) ∧ k < n ∧ i.toNat = k := ⟨i.toNat, by have := h.1; omega, by have := h.1; have := h.2; omega, rfl⟩
theorem sexs_at {bk : Bk} {k : Nat} {x : Per} (h : bk.ps[k]? = some x) (f : Per → V) : atI (bk.ps.map f) (k : Int) = some (f x) := atI_nat (by rw [List.getElem?_map, h]; rfl)
section
variable {P : Program} {w : World} {K : PySem.W.Frag} {mg : Str → Option Value} {base : Heap} {CX : CXT} {C : Addr} {e : Ad}
theorem bno {m : Str} (a b c d : Addr) (h1 : ¬ m = "partner_lists" := by decide +kernel) (h2 : ¬ m = "mothers" := by decide +kernel) (h3 : ¬ m = "fathers" := by decide +kernel) (h4 : ¬ m = "sexes" := by decide +kernel) : (bfl a b c d).lookup m = none := bfl_no a b c d h1 h2 h3 h4
/-! ### check_person -/
theorem sc_checkp : FnScope ["self", "a"] ["self", "a"] (defScope (inClass (top 8) 1)) := ⟨rfl, rfl, rfl, by decide +kernel, rfl, by decide +kernel, by decide +kernel⟩
theorem ok_checkp {f : Addr} {fd : FuncData} (F : Fun K "check_person" "Book.check_person" (inClass (top 8) 1) f fd) (T : Txt K mg C e) : FnOk P w K mg base (CXR P w) 1 f fd ["self", "a"] (spCheckP e) := by
  refine F.okX sc_checkp (fun vs H Q E h => ?_) (fun cdv A outer s H vs Q E hr hx h => ?_)
  · obtain ⟨p, fp, bk, i, rfl, _⟩ := h; rfl
  · obtain ⟨p, fp, bk, i, rfl, BA, sm, k, kE⟩ := h
    obtain ⟨dx, a, b, c, d, qs, rfl, e1, e2, e3, e4, e5, e6, e7⟩ := BA.ob
    refine ⟨_, (pss_one (ps_if (PW.pt (pw_or (pt_cmpR op_lt (pv 1) pe_int (nomark _)) (pw_or1 (pt_cmpR op_ge (pv 1) (pe_callB call_len_seq rfl T.z_len PySem.boot_len (pa_cons (pe_fld (pv 0) rfl) pa_nil)) (nomark _))))) (pss_one (ps_rais hx T.m_NoPerson T.x_NoPerson hr rfl (pa_cons (pe_join (pj_cst (pj_int (pv 1) pj_nil))) pa_nil))) pss_nil)), ?_⟩
    refine ⟨_, rfl, _, _, rfl, rfl, _, rfl, iteD2 (fun q => ?_) (fun q => ?_)⟩
    · exact iteT ⟨by decide, _, rfl, _, rfl, sm, by decide, by decide, fun _ => ⟨one_fits, kE fun z => absurd z.1 (by omega)⟩⟩
    refine ⟨_, rfl, _, rfl, p, e.Book, dx, _, _, rfl, e1, T.cl_Book, T.n_sexes, bfl_s .., a, _, rfl, .inl (SqL.of e2), _, _, rfl, rfl, _, rfl, ?_⟩
    rw [List.length_map]
    refine iteD2 (fun q' => ?_) (fun q' => ?_)
    · exact ⟨by decide, _, rfl, _, rfl, sm, by decide, by decide, fun _ => ⟨one_fits, kE fun z => absurd z.2 (by omega)⟩⟩
    · exact k ⟨by omega, by omega⟩ _ rfl
theorem sc_couple : FnScope ["self", "man", "woman"] ["self", "man", "woman"] (defScope (inClass (top 8) 2)) := ⟨rfl, rfl, rfl, by decide +kernel, rfl, by decide +kernel, by decide +kernel⟩
theorem ok_couple {f : Addr} {fd : FuncData} (F : Fun K "check_couple" "Book.check_couple" (inClass (top 8) 2) f fd) (T : Txt K mg C e) (D_check_person : MDef P w K mg base (CXR P w) e.Book "check_person" 1 ["self", "a"] (spCheckP e)) : FnOk P w K mg base (CXR P w) 2 f fd ["self", "man", "woman"] (spCouple e) := by
  refine F.okX sc_couple (fun vs H Q E h => ?_) (fun cdv A outer s H vs Q E hr hx h => ?_)
  · obtain ⟨p, fp, bk, i, j, rfl, _⟩ := h; rfl
  · obtain ⟨p, fp, bk, i, j, rfl, BA, si, sj, k, kP, kN⟩ := h
    obtain ⟨dx, a, b, c, d, qs, rfl, e1, e2, e3, e4, e5, e6, e7⟩ := id BA.ob
    refine ⟨_, (pss_cons (ps_expr (pe_methX (pv 0) T.cl_Book D_check_person hx.s hr (pa_cons (pv 1) pa_nil)))
      (pss_cons (ps_expr (pe_methX (pv 0) T.cl_Book D_check_person hx.s hr (pa_cons (pv 2) pa_nil)))
      (pss_one (ps_if (PW.pt (pw_or (pt_cmpR op_ne (pe_ix ix_list (pe_fld (pv 0) rfl) (pv 1) (fun _ _ => rfl)) pe_str (nomark _)) (pw_or1 (pt_cmpR op_ne (pe_ix ix_list (pe_fld (pv 0) rfl) (pv 2) (fun _ _ => rfl)) pe_str (nomark _))))) (pss_one (ps_rais hx T.m_NoParents T.x_NoParents hr rfl (pa_cons (pe_join (pj_cst (pj_int (pv 1) (pj_cst (pj_int (pv 2) pj_nil))))) pa_nil))) pss_nil)))), ?_⟩
    refine ⟨_, rfl, p, dx, _, rfl, e1, bno .., _, rfl, p, _, bk, i, rfl, BA, si, fun hi v hv => ?_, fun z => kP fun q => z q.1⟩
    refine ⟨_, rfl, p, dx, _, rfl, e1, bno .., _, rfl, p, _, bk, j, rfl, BA, sj, fun hj v hv => ?_, fun z => kP fun q => z q.2⟩
    have kN := kN hi hj
    obtain ⟨m, rfl, hm, _⟩ := toN hi
    obtain ⟨f', rfl, hf, _⟩ := toN hj
    obtain ⟨x, hx⟩ : ∃ x, bk.ps[m]? = some x := ⟨_, List.getElem?_eq_getElem hm⟩
    obtain ⟨y, hy⟩ : ∃ y, bk.ps[f']? = some y := ⟨_, List.getElem?_eq_getElem hf⟩
    have no : ∀ z : ¬ Cpl bk (m : Int) (f' : Int), E (.ref e.NoParents) none H := kN
    have rs : ∀ z : ¬ Cpl bk (m : Int) (f' : Int), _ := fun z => no z
    refine ⟨_, rfl, p, e.Book, dx, _, _, rfl, e1, T.cl_Book, T.n_sexes, bfl_s .., _, rfl, a, _, _, _, rfl, rfl, SqL.of e2, sexs_at hx perSex, rfl, _, rfl, ?_⟩
    show if (!decide (sexV x.1 = V.str "man")) = true then _ else _
    rw [sex_man]
    cases s1 : x.1
    · refine iteT (iteT ⟨by decide, _, rfl, _, rfl, si, by decide, by decide, _, rfl, _, rfl, sj, by decide, by decide, fun _ => ⟨one_fits, no fun ⟨m', f2, h1, h2, h3, h4⟩ => ?_⟩⟩)
      have := Int.ofNat.inj h1
      subst this
      have := h3.uniq ⟨x, hx, s1⟩
      cases this
    refine iteF ?_
    refine ⟨_, rfl, p, e.Book, dx, _, _, rfl, e1, T.cl_Book, T.n_sexes, bfl_s .., _, rfl, a, _, _, _, rfl, rfl, SqL.of e2, sexs_at hy perSex, rfl, _, rfl, ?_⟩
    show if (!decide (sexV y.1 = V.str "woman")) = true then _ else _
    rw [sex_woman]
    cases s2 : y.1
    · exact iteF (k ⟨m, f', rfl, rfl, ⟨x, hx, s1⟩, ⟨y, hy, s2⟩⟩)
    · refine iteT ⟨by decide, _, rfl, _, rfl, si, by decide, by decide, _, rfl, _, rfl, sj, by decide, by decide, fun _ => ⟨one_fits, no fun ⟨m', f2, h1, h2, h3, h4⟩ => ?_⟩⟩
      have := Int.ofNat.inj h2
      subst this
      have := h4.uniq ⟨y, hy, s2⟩
      cases this
theorem sc_room : FnScope ["self"] ["self"] (defScope (inClass (top 8) 3)) := ⟨rfl, rfl, rfl, by decide +kernel, rfl, by decide +kernel, by decide +kernel⟩
theorem ok_room {f : Addr} {fd : FuncData} (F : Fun K "check_room" "Book.check_room" (inClass (top 8) 3) f fd) (T : Txt K mg C e) : FnOk P w K mg base (CXR P w) 1 f fd ["self"] (spRoom e) := by
  refine F.okX sc_room (fun vs H Q E h => ?_) (fun cdv A outer s H vs Q E hr hx h => ?_)
  · obtain ⟨p, fp, bk, rfl, _⟩ := h; rfl
  · obtain ⟨p, fp, bk, rfl, BA, k, kE⟩ := h
    obtain ⟨dx, a, b, c, d, qs, rfl, e1, e2, e3, e4, e5, e6, e7⟩ := BA.ob
    refine ⟨_, (pss_one (ps_if (pt_cmpR op_ge (pe_callB call_len_seq rfl T.z_len PySem.boot_len (pa_cons (pe_fld (pv 0) rfl) pa_nil)) (pe_globE rfl T.g_MOST_PERSONS) (nomark _)) (pss_one (ps_rais hx T.m_TooMany T.x_TooMany hr rfl (pa_cons (pe_join (pj_cst (pj_int (pe_globE rfl T.g_MOST_PERSONS) (pj_cst pj_nil)))) pa_nil))) pss_nil)), ?_⟩
    refine ⟨_, rfl, p, e.Book, dx, _, _, rfl, e1, T.cl_Book, T.n_sexes, bfl_s .., a, _, rfl, .inl (SqL.of e2), _, _, rfl, rfl, _, rfl, ?_⟩
    rw [List.length_map]
    refine iteD2 (fun q => ?_) (fun q => k (by omega))
    exact ⟨by decide, _, rfl, log_small (by decide), by decide, by decide, by decide, fun _ => ⟨one_fits, kE (by omega)⟩⟩
end


--CUT
/-! books: the deeds and the questions -/
theorem inV_natL (f : Nat) (l : List Nat) : inV (nat f) (natL l) = decide (f ∈ l) := by
  unfold inV natL
  rw [List.any_map]
  by_cases h : f ∈ l
  · rw [decide_eq_true h]
    exact List.any_eq_true.mpr ⟨f, h, by show ((f : Int) == (f : Int)) = true; simp⟩
  · rw [decide_eq_false h]
    refine List.any_eq_false.mpr fun x hx z => h ?_
    have z' : ((x : Int) == (f : Int)) = true := z
    have : x = f := by have := eq_of_beq z'; omega
    rw [← this]; exact hx
theorem flat_natL (l : List Nat) : (natL l).all flatV = true := by
  unfold natL
  rw [List.all_map]
  exact List.all_eq_true.mpr fun _ _ => rfl
theorem mates_none {bk : Bk} (h : BkOk bk) {i : Nat} (hi : bk.ps.length ≤ i) : mates bk.prs i = [] := by
  unfold mates
  have a : bk.prs.filter (fun q => decide (q.1 = i)) = [] := List.filter_eq_nil_iff.mpr fun r hr => by
    rw [decide_eq_false (fun z => by have := (h.pr r hr).1.lt; omega)]; exact Bool.false_ne_true
  have b : bk.prs.filter (fun q => decide (q.2 = i)) = [] := List.filter_eq_nil_iff.mpr fun r hr => by
    rw [decide_eq_false (fun z => by have := (h.pr r hr).2.lt; omega)]; exact Bool.false_ne_true
  rw [a, b]; rfl
theorem mem_mates {prs : List (Nat × Nat)} {i j : Nat} : j ∈ mates prs i ↔ (i, j) ∈ prs ∨ (j, i) ∈ prs := by
  unfold mates
  rw [List.mem_append, List.mem_map, List.mem_map]
  constructor
  · rintro (⟨q, hq, rfl⟩ | ⟨q, hq, rfl⟩)
    · obtain ⟨h1, h2⟩ := List.mem_filter.mp hq
      have h2 : q.1 = i := of_decide_eq_true h2
      subst h2; exact .inl h1
    · obtain ⟨h1, h2⟩ := List.mem_filter.mp hq
      have h2 : q.2 = i := of_decide_eq_true h2
      subst h2; exact .inr h1
  · rintro (h | h)
    · exact .inl ⟨(i, j), List.mem_filter.mpr ⟨h, decide_eq_true rfl⟩, rfl⟩
    · exact .inr ⟨(j, i), List.mem_filter.mpr ⟨h, decide_eq_true rfl⟩, rfl⟩
theorem mates_len (prs : List (Nat × Nat)) (i : Nat) : (mates prs i).length ≤ 2 * prs.length := by
  unfold mates
  rw [List.length_append, List.length_map, List.length_map]
  have := List.length_filter_le (fun q : Nat × Nat => decide (q.1 = i)) prs
  have := List.length_filter_le (fun q : Nat × Nat => decide (q.2 = i)) prs
  omega
section
variable {P : Program} {w : World} {K : PySem.W.Frag} {mg : Str → Option Value} {base : Heap} {CX : CXT} {C : Addr} {e : Ad}
theorem sc_enter : FnScope ["self", "sex", "father", "mother"] ["self", "sex", "father", "mother"] (defScope (inClass (top 8) 4)) := ⟨rfl, rfl, rfl, by decide +kernel, rfl, by decide +kernel, by decide +kernel⟩
theorem ok_enter {f : Addr} {fd : FuncData} (F : Fun K "enter" "Book.enter" (inClass (top 8) 4) f fd) (T : Txt K mg C e) : FnOk P w K mg base CX 1 f fd ["self", "sex", "father", "mother"] (spEnter e) := by
  refine F.okN sc_enter (fun vs H Q E h => ?_) (fun cdv A outer s H vs Q E hr h => ?_)
  · obtain ⟨p, fp, bk, x, rfl, _⟩ := h; rfl
  · obtain ⟨p, fp, bk, x, rfl, BA, n60, hx, k⟩ := h
    have ok := BA.ok
    have ndf := BA.nd
    obtain ⟨dx, a, b, c, d, qs, rfl, e1, e2, e3, e4, e5, e6, e7⟩ := id BA.ob
    have big : 100 ≤ sizeLine := by decide
    have pa : p ≠ a := ne_of e1 e2 (by intro z; cases z)
    have pb : p ≠ b := ne_of e1 e3 (by intro z; cases z)
    have pc : p ≠ c := ne_of e1 e4 (by intro z; cases z)
    have pd : p ≠ d := ne_of e1 e5 (by intro z; cases z)
    have nd := ndf
    simp only [List.nodup_cons, List.mem_cons, not_or] at nd
    obtain ⟨⟨ab, ac, ad, aq⟩, ⟨bc, bd, bq⟩, ⟨cd, cq⟩, dq, nq⟩ := nd
    refine ⟨_, (pss_cons (ps_expr (pe_bm PySem.F.plainAttrs_list PySem.F.slot_list_append PySem.F.type_list_append mt_append (pe_fld (pv 0) rfl) (pa_cons (pv 1) pa_nil)))
      (pss_cons (ps_expr (pe_bm PySem.F.plainAttrs_list PySem.F.slot_list_append PySem.F.type_list_append mt_append (pe_fld (pv 0) rfl) (pa_cons (pv 2) pa_nil)))
      (pss_cons (ps_expr (pe_bm PySem.F.plainAttrs_list PySem.F.slot_list_append PySem.F.type_list_append mt_append (pe_fld (pv 0) rfl) (pa_cons (pv 3) pa_nil)))
      (pss_cons (ps_expr (pe_bm PySem.F.plainAttrs_list PySem.F.slot_list_append PySem.F.type_list_append mt_append (pe_fld (pv 0) rfl) (pa_cons (pe_lst pa_nil) pa_nil)))
      (pss_one (ps_ret (pe_op op_sub (pe_callB call_len_seq rfl T.z_len PySem.boot_len (pa_cons (pe_fld (pv 0) rfl) pa_nil)) pe_int))))))), ?_⟩
    refine ⟨_, rfl, p, e.Book, dx, _, _, rfl, e1, T.cl_Book, T.n_sexes, bfl_s .., .inl ⟨rfl, _, SqL.of e2⟩, _, rfl, a, _, _, rfl, rfl, e2, by rw [List.length_map]; omega, ?_⟩
    generalize hH1 : upd H a _ = H1
    have p1 : H1 p = some (.ins e.Book dx (bfl a b c d)) := by rw [← hH1, upd_ne pa]; exact e1
    have b1 : H1 b = some (.lst (bk.ps.map faV)) := by rw [← hH1, upd_ne (Ne.symm ab)]; exact e3
    refine ⟨_, rfl, p, e.Book, dx, _, _, rfl, p1, T.cl_Book, T.n_fathers, bfl_f .., .inl ⟨rfl, _, SqL.of b1⟩, _, rfl, b, _, _, rfl, rfl, b1, by rw [List.length_map]; omega, ?_⟩
    generalize hH2 : upd H1 b _ = H2
    have p2 : H2 p = some (.ins e.Book dx (bfl a b c d)) := by rw [← hH2, upd_ne pb]; exact p1
    have c2 : H2 c = some (.lst (bk.ps.map moV)) := by rw [← hH2, upd_ne (Ne.symm bc), ← hH1, upd_ne (Ne.symm ac)]; exact e4
    refine ⟨_, rfl, p, e.Book, dx, _, _, rfl, p2, T.cl_Book, T.n_mothers, bfl_m .., .inl ⟨rfl, _, SqL.of c2⟩, _, rfl, c, _, _, rfl, rfl, c2, by rw [List.length_map]; omega, ?_⟩
    generalize hH3 : upd H2 c _ = H3
    have p3 : H3 p = some (.ins e.Book dx (bfl a b c d)) := by rw [← hH3, upd_ne pc]; exact p2
    have d3 : H3 d = some (.lst (qs.map V.ref)) := by rw [← hH3, upd_ne (Ne.symm cd), ← hH2, upd_ne (Ne.symm bd), ← hH1, upd_ne (Ne.symm ad)]; exact e5
    have o3 : ∀ r o, H r = some o → r ≠ a → r ≠ b → r ≠ c → H3 r = some o := fun r o h z1 z2 z3 => by rw [← hH3, upd_ne z3, ← hH2, upd_ne z2, ← hH1, upd_ne z1]; exact h
    have a3 : H3 a = some (.lst (bk.ps.map perSex ++ [sexV x.1])) := by rw [← hH3, upd_ne ac, ← hH2, upd_ne ab, ← hH1, upd_same]
    have b3 : H3 b = some (.lst (bk.ps.map faV ++ [faV x])) := by rw [← hH3, upd_ne bc, ← hH2, upd_same]
    have c3 : H3 c = some (.lst (bk.ps.map moV ++ [moV x])) := by rw [← hH3, upd_same]
    clear hH3 hH2 hH1
    refine ⟨_, rfl, p, e.Book, dx, _, _, rfl, p3, T.cl_Book, T.n_partner_lists, bfl_p .., .inl ⟨rfl, _, SqL.of d3⟩, by decide, fun q hq => ?_⟩
    have qd : d ≠ q := ne_of_none d3 hq
    have qH : H q = none := by
      cases z : H q with
      | none => rfl
      | some o =>
        have w1 : q ≠ a := fun y => by subst y; rw [a3] at hq; cases hq
        have w2 : q ≠ b := fun y => by subst y; rw [b3] at hq; cases hq
        have w3 : q ≠ c := fun y => by subst y; rw [c3] at hq; cases hq
        rw [o3 q o z w1 w2 w3] at hq; cases hq
    refine ⟨d, _, _, rfl, rfl, by rw [upd_ne qd]; exact d3, by rw [List.length_map, e6]; omega, ?_⟩
    generalize hH5 : upd (upd H3 q _) d _ = H5
    have o5 : ∀ r o, H3 r = some o → r ≠ d → H5 r = some o := fun r o h z => by rw [← hH5, upd_ne z, upd_ne (ne_of_none h hq)]; exact h
    have d5 : H5 d = some (.lst ((qs ++ [q]).map V.ref)) := by rw [← hH5, upd_same, List.map_append]; rfl
    have q5 : H5 q = some (.lst []) := by rw [← hH5, upd_ne (Ne.symm qd), upd_same]
    have p5 := o5 p _ p3 pd
    have a5 := o5 a _ a3 ad
    refine ⟨_, rfl, p, e.Book, dx, _, _, rfl, p5, T.cl_Book, T.n_sexes, bfl_s .., a, _, rfl, .inl (SqL.of a5), _, _, rfl, rfl, ?_⟩
    have ev : V.int (((bk.ps.map perSex ++ [sexV x.1]).length : Nat) - (1 : Int)) = nat bk.ps.length := by
      rw [List.length_append, List.length_map]; show V.int _ = V.int _; congr 1; show ((bk.ps.length + 1 : Nat) : Int) - 1 = _; omega
    show Q (V.int (((bk.ps.map perSex ++ [sexV x.1]).length : Nat) - (1 : Int))) H5
    rw [ev]
    refine k ((a :: b :: c :: d :: qs) ++ [q]) H5 ⟨ok.added n60 hx, ?_, dx, a, b, c, d, qs ++ [q], rfl, p5, ?_, ?_, ?_, d5, ?_, fun i r hi => ?_⟩ (fun r o hr hn => ?_) (fun r hr => ?_) (fun r hr => ?_)
    · rw [List.nodup_append]
      refine ⟨ndf, List.nodup_cons.mpr ⟨fun y => (List.not_mem_nil y), List.nodup_nil⟩, fun r hr t ht z => ?_⟩
      rw [List.mem_singleton.mp ht] at z
      subst z
      obtain ⟨o, ho⟩ := BA.held (List.mem_cons_of_mem _ hr)
      rw [qH] at ho; cases ho
    · rw [a5]; show _ = some (HO.lst ((bk.ps ++ [x]).map perSex)); rw [List.map_append]; rfl
    · rw [o5 b _ b3 bd]; show _ = some (HO.lst ((bk.ps ++ [x]).map faV)); rw [List.map_append]; rfl
    · rw [o5 c _ c3 cd]; show _ = some (HO.lst ((bk.ps ++ [x]).map moV)); rw [List.map_append]; rfl
    · show (qs ++ [q]).length = (bk.ps ++ [x]).length; rw [List.length_append, List.length_append, e6]; rfl
    · show H5 r = some (.lst (natL (mates bk.prs i)))
      by_cases z : i < qs.length
      · rw [List.getElem?_append_left z] at hi
        have rm := List.mem_of_getElem? hi
        exact o5 r _ (o3 r _ (e7 i r hi) (fun y => aq (y ▸ rm)) (fun y => bq (y ▸ rm)) (fun y => cq (y ▸ rm))) (fun y => dq (y ▸ rm))
      · have hlt := (List.getElem?_eq_some_iff.mp hi).1
        rw [List.length_append] at hlt
        have h1 : [q].length = 1 := rfl
        have hi' : i = qs.length := by omega
        subst hi'
        rw [List.getElem?_append_right (Nat.le_refl _), Nat.sub_self] at hi
        cases Option.some.inj hi
        rw [mates_none ok (by omega)]
        exact q5
    · simp only [List.mem_cons, not_or] at hn
      exact o5 r o (o3 r o hr hn.1 hn.2.1 hn.2.2.1) hn.2.2.2.1
    · rcases List.mem_append.mp hr with z | z
      · exact .inl z
      · rw [List.mem_singleton.mp z]; exact .inr qH
    · exact List.mem_append_left _ hr
theorem sc_pair : FnScope ["self", "man", "woman"] ["self", "man", "woman"] (defScope (inClass (top 8) 5)) := ⟨rfl, rfl, rfl, by decide +kernel, rfl, by decide +kernel, by decide +kernel⟩
theorem ok_pair {f : Addr} {fd : FuncData} (F : Fun K "pair" "Book.pair" (inClass (top 8) 5) f fd) (T : Txt K mg C e) : FnOk P w K mg base CX 1 f fd ["self", "man", "woman"] (spPair e) := by
  refine F.okN sc_pair (fun vs H Q E h => ?_) (fun cdv A outer s H vs Q E hr h => ?_)
  · obtain ⟨p, fp, bk, m, f, rfl, _⟩ := h; rfl
  · obtain ⟨p, fp, bk, m, f, rfl, BA, l1000, hm, hf, k⟩ := h
    have ok := BA.ok
    have ndf := BA.nd
    obtain ⟨dx, a, b, c, d, qs, rfl, e1, e2, e3, e4, e5, e6, e7⟩ := id BA.ob
    have big : 4000 ≤ sizeLine := by decide
    have nd := ndf
    simp only [List.nodup_cons, List.mem_cons, not_or] at nd
    obtain ⟨⟨ab, ac, ad, aq⟩, ⟨bc, bd, bq⟩, ⟨cd, cq⟩, dq, nq⟩ := nd
    have mf : m ≠ f := fun z => by subst z; cases hm.uniq hf
    have lm : m < qs.length := by rw [e6]; exact hm.lt
    have lf : f < qs.length := by rw [e6]; exact hf.lt
    obtain ⟨qm, hqm⟩ : ∃ q, qs[m]? = some q := ⟨_, List.getElem?_eq_getElem lm⟩
    obtain ⟨qf, hqf⟩ : ∃ q, qs[f]? = some q := ⟨_, List.getElem?_eq_getElem lf⟩
    have nqq : qm ≠ qf := fun z => mf ((List.getElem?_inj lm nq).mp (by rw [hqm, hqf, z]))
    have atm : atI (qs.map V.ref) (m : Int) = some (.ref qm) := atI_nat (by rw [List.getElem?_map, hqm]; rfl)
    have atf : atI (qs.map V.ref) (f : Int) = some (.ref qf) := atI_nat (by rw [List.getElem?_map, hqf]; rfl)
    have pm : p ≠ qm := ne_of e1 (e7 m qm hqm) (by intro z; cases z)
    have dm : d ≠ qm := fun z => dq (z ▸ List.mem_of_getElem? hqm)
    have iff : f ∈ mates bk.prs m ↔ (m, f) ∈ bk.prs := by
      rw [mem_mates]
      refine ⟨fun h => h.elim id fun z => ?_, .inl⟩
      cases (ok.pr _ z).1.uniq hf
    refine ⟨_, (pss_one (ps_if (pt_cmpR op_notIn_seq (pv 2) (pe_ix ix_list (pe_fld (pv 0) rfl) (pv 1) (fun _ _ => rfl)) (by with_unfolding_all rfl)) (pss_cons (ps_expr (pe_bm PySem.F.plainAttrs_list PySem.F.slot_list_append PySem.F.type_list_append mt_append (pe_ix ix_list (pe_fld (pv 0) rfl) (pv 1) (fun _ _ => rfl)) (pa_cons (pv 2) pa_nil)))
      (pss_one (ps_expr (pe_bm PySem.F.plainAttrs_list PySem.F.slot_list_append PySem.F.type_list_append mt_append (pe_ix ix_list (pe_fld (pv 0) rfl) (pv 2) (fun _ _ => rfl)) (pa_cons (pv 1) pa_nil))))) pss_nil)), ?_⟩
    refine ⟨_, rfl, _, rfl, p, e.Book, dx, _, _, rfl, e1, T.cl_Book, T.n_partner_lists, bfl_p .., _, rfl, d, _, _, _, rfl, rfl, SqL.of e5, atm, qm, _, rfl, .inl (SqL.of (e7 m qm hqm)), rfl, flat_natL _, _, rfl, ?_⟩
    show if (!inV (nat f) (natL (mates bk.prs m))) = true then _ else _
    rw [inV_natL]
    by_cases q : (m, f) ∈ bk.prs
    · rw [decide_eq_true (iff.mpr q)]
      have eb : bk.pair (m, f) = bk := by unfold Bk.pair; rw [if_pos q]
      rw [eb] at k
      exact iteF (k _ H BA (fun c o h _ => h) (fun c h => .inl h) fun c h => h)
    · rw [decide_eq_false (fun z => q (iff.mp z))]
      refine iteT ?_
      have lenm := mates_len bk.prs m
      have lenf := mates_len bk.prs f
      have pl := ok.pl
      refine ⟨_, rfl, p, e.Book, dx, _, _, rfl, e1, T.cl_Book, T.n_partner_lists, bfl_p .., _, rfl, d, _, _, _, rfl, rfl, SqL.of e5, atm, .inl ⟨rfl, _, SqL.of (e7 m qm hqm)⟩, _, rfl, qm, _, _, rfl, rfl, e7 m qm hqm, by rw [natL_len]; omega, ?_⟩
      generalize hH1 : upd H qm _ = H1
      have p1 : H1 p = some (.ins e.Book dx (bfl a b c d)) := by rw [← hH1, upd_ne pm]; exact e1
      have d1 : H1 d = some (.lst (qs.map V.ref)) := by rw [← hH1, upd_ne dm]; exact e5
      have f1 : H1 qf = some (.lst (natL (mates bk.prs f))) := by rw [← hH1, upd_ne (Ne.symm nqq)]; exact e7 f qf hqf
      refine ⟨_, rfl, p, e.Book, dx, _, _, rfl, p1, T.cl_Book, T.n_partner_lists, bfl_p .., _, rfl, d, _, _, _, rfl, rfl, SqL.of d1, atf, .inl ⟨rfl, _, SqL.of f1⟩, _, rfl, qf, _, _, rfl, rfl, f1, by rw [natL_len]; omega, ?_⟩
      generalize hH2 : upd H1 qf _ = H2
      have o2 : ∀ r o, H r = some o → r ≠ qm → r ≠ qf → H2 r = some o := fun r o h z1 z2 => by rw [← hH2, upd_ne z2, ← hH1, upd_ne z1]; exact h
      have m2 : H2 qm = some (.lst (natL (mates bk.prs m ++ [f]))) := by rw [← hH2, upd_ne nqq, ← hH1, upd_same]; unfold natL; rw [List.map_append]; rfl
      have f2 : H2 qf = some (.lst (natL (mates bk.prs f ++ [m]))) := by rw [← hH2, upd_same]; unfold natL; rw [List.map_append]; rfl
      clear hH1 hH2
      have eb : bk.pair (m, f) = ⟨bk.ps, bk.prs ++ [(m, f)]⟩ := by unfold Bk.pair; rw [if_neg q]
      have okp := ok.paired (q := (m, f)) l1000 hm hf
      rw [eb] at k okp
      have inq : ∀ {r}, r ∈ [a, b, c, d] → r ≠ qm ∧ r ≠ qf := fun {r} hr => by
        simp only [List.mem_cons, List.not_mem_nil, or_false] at hr
        have hm := List.mem_of_getElem? hqm
        have hf := List.mem_of_getElem? hqf
        rcases hr with rfl | rfl | rfl | rfl
        · exact ⟨fun z => aq (z ▸ hm), fun z => aq (z ▸ hf)⟩
        · exact ⟨fun z => bq (z ▸ hm), fun z => bq (z ▸ hf)⟩
        · exact ⟨fun z => cq (z ▸ hm), fun z => cq (z ▸ hf)⟩
        · exact ⟨fun z => dq (z ▸ hm), fun z => dq (z ▸ hf)⟩
      have pf : p ≠ qf := ne_of e1 (e7 f qf hqf) (by intro z; cases z)
      refine k (a :: b :: c :: d :: qs) H2 ⟨okp, ndf, dx, a, b, c, d, qs, rfl, o2 _ _ e1 pm pf, o2 _ _ e2 (inq (by simp)).1 (inq (by simp)).2, o2 _ _ e3 (inq (by simp)).1 (inq (by simp)).2, o2 _ _ e4 (inq (by simp)).1 (inq (by simp)).2, o2 _ _ e5 (inq (by simp)).1 (inq (by simp)).2, e6, fun i r hi => ?_⟩ (fun r o hr hn => ?_) (fun r hr => .inl hr) fun r hr => hr
      · have sn := mates_snoc bk.prs (m, f) i fun z r hr y => by
          have z' : m = i := z
          subst z'
          have := (ok.pr r hr).2
          rw [y] at this
          cases this.uniq hm
        show H2 r = some (.lst (natL (mates (bk.prs ++ [(m, f)]) i)))
        rw [sn]
        by_cases z1 : i = m
        · subst z1
          rw [hqm] at hi
          cases Option.some.inj hi
          rw [if_pos rfl, if_neg (Ne.symm mf), List.append_nil]
          exact m2
        · by_cases z2 : i = f
          · subst z2
            rw [hqf] at hi
            cases Option.some.inj hi
            rw [if_neg (Ne.symm z1), if_pos rfl, List.nil_append]
            exact f2
          · rw [if_neg (fun y => z1 y.symm), if_neg (fun y => z2 y.symm), List.nil_append, List.append_nil]
            have li : i < qs.length := (List.getElem?_eq_some_iff.mp hi).1
            exact o2 r _ (e7 i r hi) (fun y => z1 ((List.getElem?_inj li nq).mp (by rw [hi, hqm, y]))) (fun y => z2 ((List.getElem?_inj li nq).mp (by rw [hi, hqf, y])))
      · simp only [List.mem_cons, not_or] at hn
        exact o2 r o hr (fun z => hn.2.2.2.2 (z ▸ List.mem_of_getElem? hqm)) (fun z => hn.2.2.2.2 (z ▸ List.mem_of_getElem? hqf))
theorem sc_come : FnScope ["self", "sex"] ["self", "sex"] (defScope (inClass (top 8) 6)) := ⟨rfl, rfl, rfl, by decide +kernel, rfl, by decide +kernel, by decide +kernel⟩
theorem ok_come {f : Addr} {fd : FuncData} (F : Fun K "come" "Book.come" (inClass (top 8) 6) f fd) (T : Txt K mg C e) (D_check_room : MDef P w K mg base (CXR P w) e.Book "check_room" 1 ["self"] (spRoom e)) (D_enter : MDef P w K mg base (CXR P w) e.Book "enter" 1 ["self", "sex", "father", "mother"] (spEnter e)) : FnOk P w K mg base (CXR P w) 2 f fd ["self", "sex"] (spCome e) := by
  refine F.okX sc_come (fun vs H Q E h => ?_) (fun cdv A outer s H vs Q E hr hx h => ?_)
  · obtain ⟨p, fp, bk, s, rfl, _⟩ := h; rfl
  · obtain ⟨p, fp, bk, s, rfl, BA, k, kE⟩ := h
    obtain ⟨dx, a, b, c, d, qs, rfl, e1, e2, e3, e4, e5, e6, e7⟩ := id BA.ob
    refine ⟨_, (pss_cons (ps_expr (pe_methX0 (pv 0) T.cl_Book D_check_room hx.s hr))
      (pss_one (ps_ret (pe_methX (pv 0) T.cl_Book D_enter hx.s hr (pa_cons (pv 1) (pa_cons pe_non (pa_cons pe_non pa_nil))))))), ?_⟩
    exact ⟨_, rfl, p, dx, _, rfl, e1, bno .., p, _, bk, rfl, BA, fun n60 => ⟨_, rfl, p, dx, _, rfl, e1, bno .., _, rfl, p, _, bk, (s, none), rfl, BA, n60, (fun q z => by cases z), k n60⟩, kE⟩
theorem sc_born : FnScope ["self", "sex", "father", "mother"] ["self", "sex", "father", "mother"] (defScope (inClass (top 8) 7)) := ⟨rfl, rfl, rfl, by decide +kernel, rfl, by decide +kernel, by decide +kernel⟩
theorem ok_born {f : Addr} {fd : FuncData} (F : Fun K "born" "Book.born" (inClass (top 8) 7) f fd) (T : Txt K mg C e) (D_check_couple : MDef P w K mg base (CXR P w) e.Book "check_couple" 2 ["self", "man", "woman"] (spCouple e)) (D_check_room : MDef P w K mg base (CXR P w) e.Book "check_room" 1 ["self"] (spRoom e)) (D_pair : MDef P w K mg base (CXR P w) e.Book "pair" 1 ["self", "man", "woman"] (spPair e)) (D_enter : MDef P w K mg base (CXR P w) e.Book "enter" 1 ["self", "sex", "father", "mother"] (spEnter e)) : FnOk P w K mg base (CXR P w) 3 f fd ["self", "sex", "father", "mother"] (spBorn e) := by
  refine F.okX sc_born (fun vs H Q E h => ?_) (fun cdv A outer s H vs Q E hr hx h => ?_)
  · obtain ⟨p, fp, bk, s, i, j, rfl, _⟩ := h; rfl
  · obtain ⟨p, fp, bk, s, i, j, rfl, BA, si, sj, k, kP, kN, kM⟩ := h
    obtain ⟨dx, a, b, c, d, qs, hfp, e1, e2, e3, e4, e5, e6, e7⟩ := id BA.ob
    refine ⟨_, (pss_cons (ps_expr (pe_methX (pv 0) T.cl_Book D_check_couple hx.s hr (pa_cons (pv 2) (pa_cons (pv 3) pa_nil))))
      (pss_cons (ps_expr (pe_methX0 (pv 0) T.cl_Book D_check_room hx.s hr))
      (pss_cons (ps_expr (pe_methX (pv 0) T.cl_Book D_pair hx.s hr (pa_cons (pv 2) (pa_cons (pv 3) pa_nil))))
      (pss_one (ps_ret (pe_methX (pv 0) T.cl_Book D_enter hx.s hr (pa_cons (pv 1) (pa_cons (pv 2) (pa_cons (pv 3) pa_nil))))))))), ?_⟩
    refine ⟨_, rfl, p, dx, _, rfl, e1, bno .., _, rfl, _, rfl, p, fp, bk, i, j, rfl, BA, si, sj, fun cp => ?_, kP, kN⟩
    refine ⟨_, rfl, p, dx, _, rfl, e1, bno .., p, fp, bk, rfl, BA, fun n60 => ?_, kM cp⟩
    obtain ⟨m, f', rfl, rfl, hm, hf⟩ := cp
    obtain ⟨l1000, k⟩ := k m f' rfl rfl hm hf n60
    refine ⟨_, rfl, p, dx, _, rfl, e1, bno .., _, rfl, _, rfl, p, fp, bk, m, f', rfl, BA, l1000, hm, hf, fun fp1 H1 BA1 kp1 fr1 sb1 => ?_⟩
    obtain ⟨dx1, a1, b1, c1, d1, qs1, hfp1, f1, _⟩ := id BA1.ob
    refine ⟨_, rfl, p, dx1, _, rfl, f1, bno .., _, rfl, _, rfl, _, rfl, p, fp1, bk.pair (m, f'), (s, some (m, f')), rfl, BA1, n60, fun q z => ?_, fun fp2 H2 BA2 kp2 fr2 sb2 => ?_⟩
    · cases Option.some.inj z
      exact ⟨hm, hf, mem_pair⟩
    · refine k fp2 H2 BA2 (fun c o hc hn => ?_) (fun c hc => ?_) fun c hc => sb2 c (sb1 c hc)
      · refine kp2 c o (kp1 c o hc hn) fun z => ?_
        rcases fr1 c z with y | y
        · exact hn y
        · rw [y] at hc; cases hc
      · rcases fr2 c hc with z | z
        · exact fr1 c z
        · exact .inr (gone BA1 kp1 sb1 c z)
theorem sc_wed : FnScope ["self", "man", "woman"] ["self", "man", "woman"] (defScope (inClass (top 8) 8)) := ⟨rfl, rfl, rfl, by decide +kernel, rfl, by decide +kernel, by decide +kernel⟩
theorem ok_wed {f : Addr} {fd : FuncData} (F : Fun K "wed" "Book.wed" (inClass (top 8) 8) f fd) (T : Txt K mg C e) (D_check_couple : MDef P w K mg base (CXR P w) e.Book "check_couple" 2 ["self", "man", "woman"] (spCouple e)) (D_pair : MDef P w K mg base (CXR P w) e.Book "pair" 1 ["self", "man", "woman"] (spPair e)) : FnOk P w K mg base (CXR P w) 3 f fd ["self", "man", "woman"] (spWed e) := by
  refine F.okX sc_wed (fun vs H Q E h => ?_) (fun cdv A outer s H vs Q E hr hx h => ?_)
  · obtain ⟨p, fp, bk, i, j, rfl, _⟩ := h; rfl
  · obtain ⟨p, fp, bk, i, j, rfl, BA, si, sj, k, kP, kN⟩ := h
    obtain ⟨dx, a, b, c, d, qs, hfp, e1, e2, e3, e4, e5, e6, e7⟩ := id BA.ob
    refine ⟨_, (pss_cons (ps_expr (pe_methX (pv 0) T.cl_Book D_check_couple hx.s hr (pa_cons (pv 1) (pa_cons (pv 2) pa_nil))))
      (pss_one (ps_expr (pe_methX (pv 0) T.cl_Book D_pair hx.s hr (pa_cons (pv 1) (pa_cons (pv 2) pa_nil)))))), ?_⟩
    refine ⟨_, rfl, p, dx, _, rfl, e1, bno .., _, rfl, _, rfl, p, fp, bk, i, j, rfl, BA, si, sj, fun cp => ?_, kP, kN⟩
    obtain ⟨m, f', rfl, rfl, hm, hf⟩ := cp
    obtain ⟨l1000, k⟩ := k m f' rfl rfl hm hf
    exact ⟨_, rfl, p, dx, _, rfl, e1, bno .., _, rfl, _, rfl, p, fp, bk, m, f', rfl, BA, l1000, hm, hf, k⟩
theorem sc_sizeb : FnScope ["self"] ["self"] (defScope (inClass (top 8) 9)) := ⟨rfl, rfl, rfl, by decide +kernel, rfl, by decide +kernel, by decide +kernel⟩
theorem ok_sizeb {f : Addr} {fd : FuncData} (F : Fun K "size" "Book.size" (inClass (top 8) 9) f fd) (T : Txt K mg C e) : FnOk P w K mg base CX 1 f fd ["self"] (spSizeB e) := by
  refine F.okN sc_sizeb (fun vs H Q E h => ?_) (fun cdv A outer s H vs Q E hr h => ?_)
  · obtain ⟨p, fp, bk, rfl, _⟩ := h; rfl
  · obtain ⟨p, fp, bk, rfl, BA, k⟩ := h
    obtain ⟨dx, a, b, c, d, qs, hfp, e1, e2, e3, e4, e5, e6, e7⟩ := id BA.ob
    refine ⟨_, (pss_one (ps_ret (pe_callB call_len_seq rfl T.z_len PySem.boot_len (pa_cons (pe_fld (pv 0) rfl) pa_nil)))), ?_⟩
    refine ⟨_, rfl, p, e.Book, dx, _, _, rfl, e1, T.cl_Book, T.n_sexes, bfl_s .., a, _, rfl, .inl (SqL.of e2), ?_⟩
    rw [List.length_map]
    exact k
theorem sc_sexof : FnScope ["self", "a"] ["self", "a"] (defScope (inClass (top 8) 10)) := ⟨rfl, rfl, rfl, by decide +kernel, rfl, by decide +kernel, by decide +kernel⟩
theorem ok_sexof {f : Addr} {fd : FuncData} (F : Fun K "sex_of" "Book.sex_of" (inClass (top 8) 10) f fd) (T : Txt K mg C e) (D_check_person : MDef P w K mg base (CXR P w) e.Book "check_person" 1 ["self", "a"] (spCheckP e)) : FnOk P w K mg base (CXR P w) 2 f fd ["self", "a"] (spSexOf e) := by
  refine F.okX sc_sexof (fun vs H Q E h => ?_) (fun cdv A outer s H vs Q E hr hx h => ?_)
  · obtain ⟨p, fp, bk, i, rfl, _⟩ := h; rfl
  · obtain ⟨p, fp, bk, i, rfl, BA, sm, k, kE⟩ := h
    obtain ⟨dx, a, b, c, d, qs, hfp, e1, e2, e3, e4, e5, e6, e7⟩ := id BA.ob
    refine ⟨_, (pss_cons (ps_expr (pe_methX (pv 0) T.cl_Book D_check_person hx.s hr (pa_cons (pv 1) pa_nil)))
      (pss_one (ps_ret (pe_ix ix_list (pe_fld (pv 0) rfl) (pv 1) (fun _ _ => rfl))))), ?_⟩
    refine ⟨_, rfl, p, dx, _, rfl, e1, bno .., _, rfl, p, fp, bk, i, rfl, BA, sm, fun hi v hv => ?_, kE⟩
    have k := k hi
    obtain ⟨n, rfl, hn, _⟩ := toN hi
    rw [Int.toNat_natCast] at k
    have hx : bk.ps[n]? = some bk.ps[n] := List.getElem?_eq_getElem hn
    exact ⟨_, rfl, p, e.Book, dx, _, _, rfl, e1, T.cl_Book, T.n_sexes, bfl_s .., _, rfl, a, _, _, _, rfl, rfl, SqL.of e2, sexs_at hx perSex, k _ ⟨_, hx, rfl⟩⟩
theorem sc_fatherb : FnScope ["self", "a"] ["self", "a"] (defScope (inClass (top 8) 11)) := ⟨rfl, rfl, rfl, by decide +kernel, rfl, by decide +kernel, by decide +kernel⟩
theorem ok_fatherb {f : Addr} {fd : FuncData} (F : Fun K "father" "Book.father" (inClass (top 8) 11) f fd) (T : Txt K mg C e) (D_check_person : MDef P w K mg base (CXR P w) e.Book "check_person" 1 ["self", "a"] (spCheckP e)) : FnOk P w K mg base (CXR P w) 2 f fd ["self", "a"] (spFatherB e) := by
  refine F.okX sc_fatherb (fun vs H Q E h => ?_) (fun cdv A outer s H vs Q E hr hx h => ?_)
  · obtain ⟨p, fp, bk, i, rfl, _⟩ := h; rfl
  · obtain ⟨p, fp, bk, i, rfl, BA, sm, k, kE⟩ := h
    obtain ⟨dx, a, b, c, d, qs, hfp, e1, e2, e3, e4, e5, e6, e7⟩ := id BA.ob
    refine ⟨_, (pss_cons (ps_expr (pe_methX (pv 0) T.cl_Book D_check_person hx.s hr (pa_cons (pv 1) pa_nil)))
      (pss_one (ps_ret (pe_ix ix_list (pe_fld (pv 0) rfl) (pv 1) (fun _ _ => rfl))))), ?_⟩
    refine ⟨_, rfl, p, dx, _, rfl, e1, bno .., _, rfl, p, fp, bk, i, rfl, BA, sm, fun hi v hv => ?_, kE⟩
    have k := k hi
    obtain ⟨n, rfl, hn, _⟩ := toN hi
    rw [Int.toNat_natCast] at k
    have hx : bk.ps[n]? = some bk.ps[n] := List.getElem?_eq_getElem hn
    exact ⟨_, rfl, p, e.Book, dx, _, _, rfl, e1, T.cl_Book, T.n_fathers, bfl_f .., _, rfl, b, _, _, _, rfl, rfl, SqL.of e3, sexs_at hx faV, k _ ⟨_, hx, rfl⟩⟩
theorem sc_motherb : FnScope ["self", "a"] ["self", "a"] (defScope (inClass (top 8) 12)) := ⟨rfl, rfl, rfl, by decide +kernel, rfl, by decide +kernel, by decide +kernel⟩
theorem ok_motherb {f : Addr} {fd : FuncData} (F : Fun K "mother" "Book.mother" (inClass (top 8) 12) f fd) (T : Txt K mg C e) (D_check_person : MDef P w K mg base (CXR P w) e.Book "check_person" 1 ["self", "a"] (spCheckP e)) : FnOk P w K mg base (CXR P w) 2 f fd ["self", "a"] (spMotherB e) := by
  refine F.okX sc_motherb (fun vs H Q E h => ?_) (fun cdv A outer s H vs Q E hr hx h => ?_)
  · obtain ⟨p, fp, bk, i, rfl, _⟩ := h; rfl
  · obtain ⟨p, fp, bk, i, rfl, BA, sm, k, kE⟩ := h
    obtain ⟨dx, a, b, c, d, qs, hfp, e1, e2, e3, e4, e5, e6, e7⟩ := id BA.ob
    refine ⟨_, (pss_cons (ps_expr (pe_methX (pv 0) T.cl_Book D_check_person hx.s hr (pa_cons (pv 1) pa_nil)))
      (pss_one (ps_ret (pe_ix ix_list (pe_fld (pv 0) rfl) (pv 1) (fun _ _ => rfl))))), ?_⟩
    refine ⟨_, rfl, p, dx, _, rfl, e1, bno .., _, rfl, p, fp, bk, i, rfl, BA, sm, fun hi v hv => ?_, kE⟩
    have k := k hi
    obtain ⟨n, rfl, hn, _⟩ := toN hi
    rw [Int.toNat_natCast] at k
    have hx : bk.ps[n]? = some bk.ps[n] := List.getElem?_eq_getElem hn
    exact ⟨_, rfl, p, e.Book, dx, _, _, rfl, e1, T.cl_Book, T.n_mothers, bfl_m .., _, rfl, c, _, _, _, rfl, rfl, SqL.of e4, sexs_at hx moV, k _ ⟨_, hx, rfl⟩⟩
end


--CUT
/-! books: made, asked for lists -/
theorem nodup_len : ∀ (n : Nat) (l : List Nat), l.Nodup → (∀ x ∈ l, x < n) → l.length ≤ n
  | 0, l, _, h => by
    cases l with
    | nil => exact Nat.le_refl _
    | cons a r => exact absurd (h a (List.mem_cons_self ..)) (Nat.not_lt_zero _)
  | n + 1, l, nd, h => by
    by_cases m : n ∈ l
    · have e := List.length_erase_of_mem m
      have := nodup_len n (l.erase n) (nd.erase n) fun x hx => by
        have := (nd.mem_erase_iff).mp hx
        have := h x this.2
        omega
      omega
    · have := nodup_len n l nd fun x hx => by
        have := h x hx
        have : x ≠ n := fun z => m (z ▸ hx)
        omega
      omega
theorem mates_nd {bk : Bk} (ok : BkOk bk) (i : Nat) : (mates bk.prs i).Nodup := by
  unfold mates
  rw [List.nodup_append]
  refine ⟨?_, ?_, fun a ha b hb e => ?_⟩
  · refine List.pairwise_map.mpr ((ok.nd.filter _).imp_of_mem fun {x y} hx hy hne z => hne ?_)
    have h1 : x.1 = i := of_decide_eq_true (List.mem_filter.mp hx).2
    have h2 : y.1 = i := of_decide_eq_true (List.mem_filter.mp hy).2
    exact Prod.ext (h1.trans h2.symm) z
  · refine List.pairwise_map.mpr ((ok.nd.filter _).imp_of_mem fun {x y} hx hy hne z => hne ?_)
    have h1 : x.2 = i := of_decide_eq_true (List.mem_filter.mp hx).2
    have h2 : y.2 = i := of_decide_eq_true (List.mem_filter.mp hy).2
    exact Prod.ext z (h1.trans h2.symm)
  · subst e
    obtain ⟨x, hx, rfl⟩ := List.mem_map.mp ha
    obtain ⟨y, hy, e⟩ := List.mem_map.mp hb
    have s1 := (ok.pr x (List.mem_filter.mp hx).1).2
    have s2 := (ok.pr y (List.mem_filter.mp hy).1).1
    rw [e] at s2
    cases s1.uniq s2
theorem mates_lt {bk : Bk} (ok : BkOk bk) {i j : Nat} (h : j ∈ mates bk.prs i) : j < bk.ps.length := by
  rcases mem_mates.mp h with z | z
  · exact (ok.pr _ z).2.lt
  · exact (ok.pr _ z).1.lt
theorem mates_60 {bk : Bk} (ok : BkOk bk) (i : Nat) : (mates bk.prs i).length ≤ 60 :=
  Nat.le_trans (nodup_len _ _ (mates_nd ok i) fun _ h => mates_lt ok h) ok.n60
theorem natL_int (w : List Nat) : natL w = (w.map fun (k : Nat) => (k : Int)).map V.int := by
  unfold natL
  rw [List.map_map]
  rfl
theorem toNats {ns : List Int} {l : List Nat} (h : ns.Perm (l.map fun (k : Nat) => (k : Int))) (s : ns.Pairwise (· ≤ ·)) : ∃ r : List Nat, ns.map V.int = natL r ∧ r.Perm l ∧ r.Pairwise (· ≤ ·) := by
  have nn : ∀ i ∈ ns, 0 ≤ i := fun i hi => by
    obtain ⟨c, _, rfl⟩ := List.mem_map.mp (h.mem_iff.mp hi)
    exact Int.natCast_nonneg c
  refine ⟨ns.map Int.toNat, ?_, ?_, ?_⟩
  · rw [natL_int, List.map_map (f := Int.toNat)]
    have e : ns = ns.map ((fun (k : Nat) => (k : Int)) ∘ Int.toNat) := by
      conv => lhs; rw [← List.map_id ns]
      exact List.map_congr_left fun i hi => (Int.toNat_of_nonneg (nn i hi)).symm
    rw [← e]
  · have q := h.map Int.toNat
    rw [List.map_map] at q
    have e : l.map (Int.toNat ∘ fun (k : Nat) => (k : Int)) = l := by
      conv => rhs; rw [← List.map_id l]
      exact List.map_congr_left fun i _ => Int.toNat_natCast i
    rw [e] at q
    exact q
  · refine List.pairwise_map.mpr (s.imp_of_mem fun {a b} ha hb hab => ?_)
    have := nn a ha
    have := nn b hb
    omega
theorem sorted_uniqN : ∀ {a b : List Nat}, a.Perm b → a.Pairwise (· ≤ ·) → b.Pairwise (· ≤ ·) → a = b
  | [], b, h, _, _ => (List.nil_perm.mp h).symm ▸ rfl
  | x :: a, [], h, _, _ => by have := h.length_eq; cases this
  | x :: a, y :: b, h, p, q => by
    rw [List.pairwise_cons] at p q
    have e : x = y := by
      have h1 : x ≤ y := by
        rcases List.mem_cons.mp (h.mem_iff.mpr (List.mem_cons_self ..) : y ∈ x :: a) with z | z
        · omega
        · exact p.1 y z
      have h2 : y ≤ x := by
        rcases List.mem_cons.mp (h.mem_iff.mp (List.mem_cons_self ..) : x ∈ y :: b) with z | z
        · omega
        · exact q.1 x z
      omega
    subst e
    rw [sorted_uniqN ((List.perm_cons x).mp h) p.2 q.2]
section
variable {P : Program} {w : World} {K : PySem.W.Frag} {mg : Str → Option Value} {base : Heap} {CX : CXT} {C : Addr} {e : Ad}
theorem sc_binit : FnScope ["self"] ["self"] (defScope (inClass (top 8) 0)) := ⟨rfl, rfl, rfl, by decide +kernel, rfl, by decide +kernel, by decide +kernel⟩
theorem ok_binit {f : Addr} {fd : FuncData} (F : Fun K "__init__" "Book.__init__" (inClass (top 8) 0) f fd) (T : Txt K mg C e) : FnOk P w K mg base CX 1 f fd ["self"] (spBookInit e) := by
  refine F.okN sc_binit (fun vs H Q E h => ?_) (fun cdv A outer s H vs Q E hr h => ?_)
  · obtain ⟨x, dx, rfl, _⟩ := h; rfl
  · obtain ⟨x, dx, rfl, hx, k⟩ := h
    refine ⟨_, (pss_cons (ps_fld (pv 0) (pe_lst pa_nil) rfl)
      (pss_cons (ps_fld (pv 0) (pe_lst pa_nil) rfl)
      (pss_cons (ps_fld (pv 0) (pe_lst pa_nil) rfl)
      (pss_one (ps_fld (pv 0) (pe_lst pa_nil) rfl))))), ?_⟩
    refine ⟨by decide, fun a ha => ?_⟩
    have xa : x ≠ a := ne_of_none hx ha
    refine ⟨_, rfl, x, e.Book, dx, [], rfl, (by rw [upd_ne xa]; exact hx), T.cl_Book, T.n_sexes, (by show 0 < 1000; decide), ?_⟩
    generalize hH1 : upd (upd H a _) x _ = H1
    have x1 : H1 x = some (.ins e.Book dx (putF "sexes" (.ref a) [])) := by rw [← hH1, upd_same]
    have a1 : H1 a = some (.lst []) := by rw [← hH1, upd_ne (Ne.symm xa), upd_same]
    have o1 : ∀ r o, H r = some o → r ≠ x → H1 r = some o := fun r o h z => by rw [← hH1, upd_ne z, upd_ne (ne_of_none h ha)]; exact h
    clear hH1
    refine ⟨by decide, fun b hb => ?_⟩
    have xb : x ≠ b := ne_of_none x1 hb
    refine ⟨_, rfl, x, e.Book, dx, _, rfl, (by rw [upd_ne xb]; exact x1), T.cl_Book, T.n_fathers, (by show 1 < 1000; decide), ?_⟩
    generalize hH2 : upd (upd H1 b _) x _ = H2
    have x2 : H2 x = some (.ins e.Book dx (putF "fathers" (.ref b) (putF "sexes" (.ref a) []))) := by rw [← hH2, upd_same]
    have b2 : H2 b = some (.lst []) := by rw [← hH2, upd_ne (Ne.symm xb), upd_same]
    have o2 : ∀ r o, H1 r = some o → r ≠ x → H2 r = some o := fun r o h z => by rw [← hH2, upd_ne z, upd_ne (ne_of_none h hb)]; exact h
    clear hH2
    refine ⟨by decide, fun c hc => ?_⟩
    have xc : x ≠ c := ne_of_none x2 hc
    refine ⟨_, rfl, x, e.Book, dx, _, rfl, (by rw [upd_ne xc]; exact x2), T.cl_Book, T.n_mothers, (by show 2 < 1000; decide), ?_⟩
    generalize hH3 : upd (upd H2 c _) x _ = H3
    have x3 : H3 x = some (.ins e.Book dx (putF "mothers" (.ref c) (putF "fathers" (.ref b) (putF "sexes" (.ref a) [])))) := by rw [← hH3, upd_same]
    have c3 : H3 c = some (.lst []) := by rw [← hH3, upd_ne (Ne.symm xc), upd_same]
    have o3 : ∀ r o, H2 r = some o → r ≠ x → H3 r = some o := fun r o h z => by rw [← hH3, upd_ne z, upd_ne (ne_of_none h hc)]; exact h
    clear hH3
    refine ⟨by decide, fun d hd => ?_⟩
    have xd : x ≠ d := ne_of_none x3 hd
    refine ⟨_, rfl, x, e.Book, dx, _, rfl, (by rw [upd_ne xd]; exact x3), T.cl_Book, T.n_partner_lists, (by show 3 < 1000; decide), ?_⟩
    generalize hH4 : upd (upd H3 d _) x _ = H4
    have x4 : H4 x = some (.ins e.Book dx (bfl a b c d)) := by rw [← hH4, upd_same]; rfl
    have d4 : H4 d = some (.lst []) := by rw [← hH4, upd_ne (Ne.symm xd), upd_same]
    have o4 : ∀ r o, H3 r = some o → r ≠ x → H4 r = some o := fun r o h z => by rw [← hH4, upd_ne z, upd_ne (ne_of_none h hd)]; exact h
    clear hH4
    have fb : H b = none := by
      cases z : H b with
      | none => rfl
      | some o => rw [o1 b o z (Ne.symm xb)] at hb; cases hb
    have fc : H c = none := by
      cases z : H c with
      | none => rfl
      | some o => rw [o2 c o (o1 c o z (Ne.symm xc)) (Ne.symm xc)] at hc; cases hc
    have fd' : H d = none := by
      cases z : H d with
      | none => rfl
      | some o => rw [o3 d o (o2 d o (o1 d o z (Ne.symm xd)) (Ne.symm xd)) (Ne.symm xd)] at hd; cases hd
    have ab : a ≠ b := ne_of_none a1 hb
    have ac : a ≠ c := ne_of_none (o2 a _ a1 (Ne.symm xa)) hc
    have ad : a ≠ d := ne_of_none (o3 a _ (o2 a _ a1 (Ne.symm xa)) (Ne.symm xa)) hd
    have bc : b ≠ c := ne_of_none b2 hc
    have bd : b ≠ d := ne_of_none (o3 b _ b2 (Ne.symm xb)) hd
    have cd : c ≠ d := ne_of_none c3 hd
    refine k [a, b, c, d] H4 (fun r o hr z => o4 r o (o3 r o (o2 r o (o1 r o hr z) z) z) z) (fun r hr => ?_) ⟨⟨by show 0 ≤ 60; decide, by show 0 ≤ 1000; decide, (fun x hx => by cases hx), (fun q hq => by cases hq), List.nodup_nil⟩, ?_, dx, a, b, c, d, [], rfl, x4, o4 a _ (o3 a _ (o2 a _ a1 (Ne.symm xa)) (Ne.symm xa)) (Ne.symm xa), o4 b _ (o3 b _ b2 (Ne.symm xb)) (Ne.symm xb), o4 c _ c3 (Ne.symm xc), d4, rfl, fun i q hi => by cases hi⟩
    · simp only [List.mem_cons, List.not_mem_nil, or_false] at hr
      rcases hr with rfl | rfl | rfl | rfl
      · exact ha
      · exact fb
      · exact fc
      · exact fd'
    · simp only [List.nodup_cons, List.mem_cons, List.not_mem_nil, or_false, not_or, not_false_eq_true, and_true]
      exact ⟨⟨ab, ac, ad⟩, ⟨bc, bd⟩, cd, trivial, List.nodup_nil⟩
theorem sc_partnersb : FnScope ["self", "a"] ["self", "a"] (defScope (inClass (top 8) 13)) := ⟨rfl, rfl, rfl, by decide +kernel, rfl, by decide +kernel, by decide +kernel⟩
theorem ok_partnersb {f : Addr} {fd : FuncData} (F : Fun K "partners" "Book.partners" (inClass (top 8) 13) f fd) (T : Txt K mg C e) (D_check_person : MDef P w K mg base (CXR P w) e.Book "check_person" 1 ["self", "a"] (spCheckP e)) : FnOk P w K mg base (CXR P w) 2 f fd ["self", "a"] (spPartnersB e) := by
  refine F.okX sc_partnersb (fun vs H Q E h => ?_) (fun cdv A outer s H vs Q E hr hx h => ?_)
  · obtain ⟨p, fp, bk, i, rfl, _⟩ := h; rfl
  · obtain ⟨p, fp, bk, i, rfl, BA, sm, k, kE⟩ := h
    obtain ⟨dx, a, b, c, d, qs, hfp, e1, e2, e3, e4, e5, e6, e7⟩ := id BA.ob
    refine ⟨_, (pss_cons (ps_expr (pe_methX (pv 0) T.cl_Book D_check_person hx.s hr (pa_cons (pv 1) pa_nil)))
      (pss_one (ps_ret (pe_callB call_sorted rfl T.z_sorted bt_sorted (pa_cons (pe_ix ix_list (pe_fld (pv 0) rfl) (pv 1) (fun _ _ => rfl)) pa_nil))))), ?_⟩
    refine ⟨_, rfl, p, dx, _, rfl, e1, bno .., _, rfl, p, fp, bk, i, rfl, BA, sm, fun hi v hv => ?_, kE⟩
    have k := k hi
    obtain ⟨n, rfl, hn, _⟩ := toN hi
    rw [Int.toNat_natCast] at k
    have lq : n < qs.length := by rw [e6]; exact hn
    have hq : qs[n]? = some qs[n] := List.getElem?_eq_getElem lq
    have m60 := mates_60 BA.ok n
    refine ⟨_, rfl, p, e.Book, dx, _, _, rfl, e1, T.cl_Book, T.n_partner_lists, bfl_p .., _, rfl, d, _, _, _, rfl, rfl, SqL.of e5, atI_nat (by rw [List.getElem?_map, hq]; rfl), qs[n], _, rfl, SqL.of (by rw [← natL_int]; exact e7 n _ hq), by rw [List.length_map]; omega, fun l ns hl hp hs => ?_⟩
    obtain ⟨r, er, pr, sr⟩ := toNats hp hs
    rw [er]
    exact k r l _ ⟨pr, sr⟩ hl (same_new hl) upd_same
theorem sc_childrenb : FnScope ["self", "a"] ["self", "a"] (defScope (inClass (top 8) 14)) := ⟨rfl, rfl, rfl, by decide +kernel, rfl, by decide +kernel, by decide +kernel⟩
theorem fa_flat (x : Per) : flatV (faV x) = true := by unfold faV; cases x.2 <;> rfl
theorem mo_flat (x : Per) : flatV (moV x) = true := by unfold moV; cases x.2 <;> rfl
theorem ok_childrenb {f : Addr} {fd : FuncData} (F : Fun K "children" "Book.children" (inClass (top 8) 14) f fd) (T : Txt K mg C e) (D_check_person : MDef P w K mg base (CXR P w) e.Book "check_person" 1 ["self", "a"] (spCheckP e)) : FnOk P w K mg base (CXR P w) 2 f fd ["self", "a"] (spChildrenB e) := by
  refine F.okX sc_childrenb (fun vs H Q E h => ?_) (fun cdv A outer s H vs Q E hr hx h => ?_)
  · obtain ⟨p, fp, bk, i, rfl, _⟩ := h; rfl
  · obtain ⟨p, fp, bk, i, rfl, BA, sm, k, kE⟩ := h
    obtain ⟨dx, a, b, c, d, qs, hfp, e1, e2, e3, e4, e5, e6, e7⟩ := id BA.ob
    have n60 := BA.ok.n60
    refine ⟨_, (pss_cons (ps_expr (pe_methX (pv 0) T.cl_Book D_check_person hx.s hr (pa_cons (pv 1) pa_nil)))
      (pss_one (ps_ret (pe_compF (fv := [("a", 1), ("self", 0)]) ⟨rfl, by decide +kernel, rfl, by decide +kernel, rfl, by decide +kernel, ⟨⟨rfl, Or.inl rfl, Or.inl rfl, rfl⟩, ⟨⟨rfl, Or.inl rfl, Or.inl rfl, rfl⟩, trivial⟩⟩, rfl, rfl⟩ rfl (pi_range1 rfl T.z_range (pa_cons (pe_callB call_len_seq rfl T.z_len PySem.boot_len (pa_cons (pe_fld (pv 0) rfl) pa_nil)) pa_nil)) (fun _ _ _ => (pv 0)) (fun _ _ _ => (pt_cmpR op_in_seq (pv 1) (pe_tup (pa_cons (pe_ix ix_list (pe_fld (pv 2) rfl) (pv 0) (fun _ _ => rfl)) (pa_cons (pe_ix ix_list (pe_fld (pv 2) rfl) (pv 0) (fun _ _ => rfl)) pa_nil))) (by with_unfolding_all rfl))))))), ?_⟩
    refine ⟨_, rfl, p, dx, _, rfl, e1, bno .., _, rfl, p, fp, bk, i, rfl, BA, sm, fun hi v hv => ?_, kE⟩
    have k := k hi
    obtain ⟨n, rfl, hn, _⟩ := toN hi
    rw [Int.toNat_natCast] at k
    refine ⟨_, rfl, p, e.Book, dx, _, _, rfl, e1, T.cl_Book, T.n_sexes, bfl_s .., a, _, rfl, .inl (SqL.of e2), _, rfl, by rw [List.length_map]; omega, by rw [List.length_map]; omega, ?_⟩
    rw [List.length_map, Int.toNat_natCast]
    refine comp_rangeF0 (fun i => match bk.ps[i]? with
      | some x => inV (nat n) [faV x, moV x]
      | none => false) nat (Nat.le_trans n60 (by decide)) (fun i H' R hi sm kk _ _ _ => ?_) (fun i H' R hi pi sm kk _ _ _ => ⟨_, rfl, kk _ (Same.refl _)⟩) fun D H2 hD s2 hl2 => k (kids bk n) D H2 rfl hD s2 hl2
    have hx : bk.ps[i]? = some bk.ps[i] := List.getElem?_eq_getElem hi
    rw [hx] at kk
    refine ⟨_, rfl, _, rfl, p, e.Book, dx, _, _, rfl, sm _ _ e1, T.cl_Book, T.n_fathers, bfl_f .., _, rfl, b, _, _, _, rfl, rfl, SqL.of (sm _ _ e3), sexs_at hx faV, _, rfl, p, e.Book, dx, _, _, rfl, sm _ _ e1, T.cl_Book, T.n_mothers, bfl_m .., _, rfl, c, _, _, _, rfl, rfl, SqL.of (sm _ _ e4), sexs_at hx moV, two_fits, fun t ht => ?_⟩
    refine ⟨t, _, rfl, .inr (SqT.of upd_same), rfl, ?_, _, rfl, kk _ (same_new ht)⟩
    show (flatV (faV bk.ps[i]) && (flatV (moV bk.ps[i]) && true)) = true
    rw [fa_flat, mo_flat]; rfl
end


--CUT
/-! the laws' own people and pairs, and what is put into a book -/
def perT (x : Per) : List V := [sexV x.1, faV x, moV x]
def prT (q : Nat × Nat) : List V := [nat q.1, nat q.2]
structure PeopleAt (H : Hp) (LP : Addr) (ts : List Addr) (ps : List Per) : Prop where
  l : H LP = some (.lst (ts.map V.ref))
  t : TsAt H ts (ps.map perT)
structure PairsAt (H : Hp) (LR : Addr) (us : List Addr) (prs : List (Nat × Nat)) : Prop where
  l : H LR = some (.lst (us.map V.ref))
  t : TsAt H us (prs.map prT)
theorem PeopleAt.same {H H' : Hp} {LP : Addr} {ts : List Addr} {ps : List Per} (h : PeopleAt H LP ts ps) (s : Same H H') : PeopleAt H' LP ts ps := ⟨s _ _ h.l, h.t.same s⟩
theorem PairsAt.same {H H' : Hp} {LR : Addr} {us : List Addr} {prs : List (Nat × Nat)} (h : PairsAt H LR us prs) (s : Same H H') : PairsAt H' LR us prs := ⟨s _ _ h.l, h.t.same s⟩
theorem PeopleAt.len {H : Hp} {LP : Addr} {ts : List Addr} {ps : List Per} (h : PeopleAt H LP ts ps) : ts.length = ps.length := by rw [h.t.len, List.length_map]
theorem PairsAt.len {H : Hp} {LR : Addr} {us : List Addr} {prs : List (Nat × Nat)} (h : PairsAt H LR us prs) : us.length = prs.length := by rw [h.t.len, List.length_map]
theorem PeopleAt.at_ {H : Hp} {LP : Addr} {ts : List Addr} {ps : List Per} (h : PeopleAt H LP ts ps) {i : Nat} {x : Per} (hx : ps[i]? = some x) : ∃ t, ts[i]? = some t ∧ atI (ts.map V.ref) (i : Int) = some (.ref t) ∧ H t = some (.tup (perT x)) := by
  obtain ⟨t, h1, h2⟩ := h.t.get (i := i) (xs := perT x) (by rw [List.getElem?_map, hx]; rfl)
  exact ⟨t, h1, atI_nat (by rw [List.getElem?_map, h1]; rfl), h2⟩
theorem PairsAt.at_ {H : Hp} {LR : Addr} {us : List Addr} {prs : List (Nat × Nat)} (h : PairsAt H LR us prs) {i : Nat} {q : Nat × Nat} (hx : prs[i]? = some q) : ∃ t, us[i]? = some t ∧ H t = some (.tup (prT q)) :=
  h.t.get (by rw [List.getElem?_map, hx]; rfl)
/-- a book and the law's own account of it -/
structure Acc (B : Addr) (H : Hp) (b LP LR : Addr) (fp ts us : List Addr) (bk : Bk) : Prop where
  bo : BookAt B H b fp bk
  pe : PeopleAt H LP ts bk.ps
  pa : PairsAt H LR us bk.prs
  nP : LP ∉ fp
  nR : LR ∉ fp
  ne : LP ≠ LR
theorem Acc.same {B : Addr} {H H' : Hp} {b LP LR : Addr} {fp ts us : List Addr} {bk : Bk} (h : Acc B H b LP LR fp ts us bk) (s : Same H H') : Acc B H' b LP LR fp ts us bk := ⟨h.bo.same s, h.pe.same s, h.pa.same s, h.nP, h.nR, h.ne⟩
/-- what a book writes to are lists -/
theorem BookAt.lists {B : Addr} {H : Hp} {p : Addr} {fp : List Addr} {bk : Bk} (T : BookAt B H p fp bk) {c : Addr} (hc : c ∈ fp) : ∃ xs, H c = some (.lst xs) := by
  obtain ⟨ok, nd, dx, a, b, c1, d, qs, rfl, e1, e2, e3, e4, e5, e6, e7⟩ := T
  simp only [List.mem_cons] at hc
  rcases hc with rfl | rfl | rfl | rfl | h
  · exact ⟨_, e2⟩
  · exact ⟨_, e3⟩
  · exact ⟨_, e4⟩
  · exact ⟨_, e5⟩
  · obtain ⟨i, hi⟩ := List.getElem?_of_mem h
    exact ⟨_, e7 i c hi⟩
theorem BookAt.notin {B : Addr} {H : Hp} {p : Addr} {fp : List Addr} {bk : Bk} (T : BookAt B H p fp bk) {t : Addr} {xs : List V} (h : H t = some (.tup xs)) : t ∉ fp := fun z => by
  obtain ⟨ys, hy⟩ := T.lists z
  rw [h] at hy; cases hy
inductive Com where
  | come (s : Bool)
  | wed (m f : Nat)
  | born (s : Bool) (m f : Nat)
def comT : Com → List V
  | .come s => [sexV s, .non, .non]
  | .wed m f => [.str "wed", nat m, nat f]
  | .born s m f => [sexV s, nat m, nat f]
def ComOk (bk : Bk) : Com → Prop
  | .come _ => True
  | .wed m f => IsS bk m true ∧ IsS bk f false
  | .born _ m f => IsS bk m true ∧ IsS bk f false
def doC (bk : Bk) : Com → Bk
  | .come s => bk.add (s, none)
  | .wed m f => bk.pair (m, f)
  | .born s m f => (bk.pair (m, f)).add (s, some (m, f))
theorem sex_wed (s : Bool) : ¬ (sexV s = V.str "wed") := by cases s <;> decide +kernel
theorem any_prs (prs : List (Nat × Nat)) (q : Nat × Nat) : ((prs.map prT).any fun ys => eqVs ys [nat q.1, nat q.2]) = decide (q ∈ prs) := by
  rw [List.any_map]
  have e : ∀ r : Nat × Nat, eqVs (prT r) [nat q.1, nat q.2] = decide (r = q) := fun r => by
    show (((r.1 : Int) == (q.1 : Int)) && (((r.2 : Int) == (q.2 : Int)) && true)) = decide (r = q)
    by_cases h : r = q
    · subst h; rw [decide_eq_true rfl]; simp
    · rw [decide_eq_false h, Bool.eq_false_iff]
      intro z
      rw [Bool.and_true, Bool.and_eq_true] at z
      have z1 := eq_of_beq z.1
      have z2 := eq_of_beq z.2
      exact h (Prod.ext (by omega) (by omega))
  by_cases h : q ∈ prs
  · rw [decide_eq_true h]
    exact List.any_eq_true.mpr ⟨q, h, by show eqVs (prT q) _ = true; rw [e]; exact decide_eq_true rfl⟩
  · rw [decide_eq_false h]
    refine List.any_eq_false.mpr fun r hr z => h ?_
    have z' : eqVs (prT r) [nat q.1, nat q.2] = true := z
    rw [e] at z'
    rw [← of_decide_eq_true z']; exact hr
theorem fl_pr (prs : List (Nat × Nat)) : ∀ ys ∈ prs.map prT, ys.all flatV = true := fun ys hy => by
  obtain ⟨q, _, rfl⟩ := List.mem_map.mp hy
  rfl
def spComer : Sp := fun vs H Q _ => ∃ (LP : Addr) (ts : List Addr) (bk : Bk) (z : Int), vs = [.ref LP, .int z] ∧ PeopleAt H LP ts bk.ps ∧ bk.ps.length ≤ 60 ∧ ∀ t c H', H t = none → Same H H' → H' t = some (.tup (comT c)) → ComOk bk c → Q (.ref t) H'
/-- the account behind a deed -/
def AfterA (B : Addr) (H : Hp) (b LP LR : Addr) (fp : List Addr) (bk' : Bk) (K : Hp → Prop) : Prop :=
  ∀ fp' ts' us' H', Acc B H' b LP LR fp' ts' us' bk' → (∀ c o, H c = some o → c ∉ LP :: LR :: fp → H' c = some o) → (∀ c ∈ fp', c ∈ fp ∨ H c = none) → K H'
def spPut (e : Ad) : Sp := fun vs H Q _ => ∃ (b LP LR t : Addr) (fp ts us : List Addr) (bk : Bk) (c : Com), vs = [.ref b, .ref LP, .ref LR, .ref t] ∧ Acc e.Book H b LP LR fp ts us bk ∧ H t = some (.tup (comT c)) ∧ ComOk bk c ∧ bk.ps.length < 60 ∧ bk.prs.length < 1000 ∧ AfterA e.Book H b LP LR fp (doC bk c) (Q (.bl true))
theorem men_at {bk : Bk} {H : Hp} {LP : Addr} {ts : List Addr} (h : PeopleAt H LP ts bk.ps) {i : Nat} (hi : i < bk.ps.length) : ∃ t x, ts[i]? = some t ∧ bk.ps[i]? = some x ∧ atI (ts.map V.ref) (i : Int) = some (.ref t) ∧ H t = some (.tup (perT x)) := by
  obtain ⟨t, a, b, c⟩ := h.at_ (List.getElem?_eq_getElem hi)
  exact ⟨t, _, a, List.getElem?_eq_getElem hi, b, c⟩
/-- the men, the women -/
def ofSex (bk : Bk) (s : Bool) (i : Nat) : Bool := match bk.ps[i]? with
  | some x => x.1 == s
  | none => false
theorem ofSex_eq {bk : Bk} {i : Nat} {x : Per} (hx : bk.ps[i]? = some x) (s : Bool) : ofSex bk s i = (x.1 == s) := by unfold ofSex; rw [hx]
theorem eq_true_b (b : Bool) : b = (b == true) := by cases b <;> rfl
theorem eq_false_b (b : Bool) : (!b) = (b == false) := by cases b <;> rfl
def sexL (bk : Bk) (s : Bool) : List Nat := (List.range bk.ps.length).filter (ofSex bk s)
theorem mem_sexL {bk : Bk} {s : Bool} {i : Nat} : i ∈ sexL bk s ↔ IsS bk i s := by
  unfold sexL ofSex
  rw [List.mem_filter, List.mem_range]
  constructor
  · rintro ⟨h1, h2⟩
    rw [List.getElem?_eq_getElem h1] at h2
    exact ⟨_, List.getElem?_eq_getElem h1, eq_of_beq h2⟩
  · rintro ⟨x, hx, rfl⟩
    refine ⟨(List.getElem?_eq_some_iff.mp hx).1, ?_⟩
    rw [hx]; simp
theorem sexL_len (bk : Bk) (s : Bool) : (sexL bk s).length ≤ bk.ps.length := by
  have := List.length_filter_le (ofSex bk s) (List.range bk.ps.length)
  rw [List.length_range] at this
  exact this
theorem pick_of (l : List Nat) (z : Int) (h : 0 < l.length) : ∃ i, i ∈ l ∧ atI (natL l) (z % ((natL l).length : Nat)) = some (nat i) := by
  rw [natL_len]
  obtain ⟨q, hq, lt⟩ := emod_nat z h
  rw [hq]
  exact ⟨l[q], List.getElem_mem lt, atI_nat (natL_get (List.getElem?_eq_getElem lt))⟩
section
variable {P : Program} {w : World} {K : PySem.W.Frag} {mg : Str → Option Value} {base : Heap} {CX : CXT} {C : Addr} {e : Ad}
theorem sc_comer : FnScope ["people", "cell", "sex", "men", "women", "kind", "man", "woman"] ["people", "cell"] (defScope (top 13)) := ⟨rfl, rfl, rfl, by decide +kernel, rfl, by decide +kernel, by decide +kernel⟩
theorem ok_comer {f : Addr} {fd : FuncData} (F : Fun K "_law_comer" "_law_comer" (top 13) f fd) (T : Txt K mg C e) : FnOk P w K mg base CX 1 f fd ["people", "cell"] spComer := by
  refine F.okN sc_comer (fun vs H Q E h => ?_) (fun cdv A outer s H vs Q E hr h => ?_)
  · obtain ⟨LP, ts, bk, z, rfl, _⟩ := h; rfl
  · obtain ⟨LP, ts, bk, z, rfl, pe, n60, k⟩ := h
    have nd := sc_comer.nd
    refine ⟨_, (pss_cons (ps_set (i := 2) nd rfl (Or.inl rfl) (pe_ix ix_list (pe_lst (pa_cons pe_str (pa_cons pe_str pa_nil))) (pe_op op_mod (pv 1) pe_int) (fun _ _ => rfl)))
      (pss_cons (ps_setCompF (i := 3) nd rfl (Or.inl rfl) (fv := [("people", 0)]) ⟨rfl, by decide +kernel, rfl, by decide +kernel, rfl, by decide +kernel, ⟨⟨rfl, Or.inl rfl, Or.inl rfl, rfl⟩, trivial⟩, rfl, rfl⟩ rfl (pi_range1 rfl T.z_range (pa_cons (pe_callB call_len_seq rfl T.z_len PySem.boot_len (pa_cons (pv 0) pa_nil)) pa_nil)) (fun _ _ _ => (pv 0)) (fun _ _ _ => (pt_cmpR op_eq (pe_ix ix_tup (pe_ix ix_list (pv 1) (pv 0) (fun _ _ => rfl)) pe_int (fun _ _ => rfl)) pe_str (nomark _))))
      (pss_cons (ps_setCompF (i := 4) nd rfl (Or.inl rfl) (fv := [("people", 0)]) ⟨rfl, by decide +kernel, rfl, by decide +kernel, rfl, by decide +kernel, ⟨⟨rfl, Or.inl rfl, Or.inl rfl, rfl⟩, trivial⟩, rfl, rfl⟩ rfl (pi_range1 rfl T.z_range (pa_cons (pe_callB call_len_seq rfl T.z_len PySem.boot_len (pa_cons (pv 0) pa_nil)) pa_nil)) (fun _ _ _ => (pv 0)) (fun _ _ _ => (pt_cmpR op_eq (pe_ix ix_tup (pe_ix ix_list (pv 1) (pv 0) (fun _ _ => rfl)) pe_int (fun _ _ => rfl)) pe_str (nomark _))))
      (pss_cons (ps_set (i := 5) nd rfl (Or.inl rfl) (pe_op op_mod (pe_op op_fdiv (pv 1) pe_int) pe_int))
      (pss_cons (ps_if (PW.pt (pw_or (pt_cmpR op_eq (pv 5) pe_int (nomark _)) (pw_or (pt_cmpR op_eq (pe_callB call_len_seq rfl T.z_len PySem.boot_len (pa_cons (pv 3) pa_nil)) pe_int (nomark _)) (pw_or1 (pt_cmpR op_eq (pe_callB call_len_seq rfl T.z_len PySem.boot_len (pa_cons (pv 4) pa_nil)) pe_int (nomark _)))))) (pss_one (ps_ret (pe_tup (pa_cons (pv 2) (pa_cons pe_non (pa_cons pe_non pa_nil)))))) pss_nil)
      (pss_cons (ps_set (i := 6) nd rfl (Or.inl rfl) (pe_ix ix_list (pv 3) (pe_op op_mod (pe_op op_fdiv (pv 1) pe_int) (pe_callB call_len_seq rfl T.z_len PySem.boot_len (pa_cons (pv 3) pa_nil))) (fun _ _ => rfl)))
      (pss_cons (ps_set (i := 7) nd rfl (Or.inl rfl) (pe_ix ix_list (pv 4) (pe_op op_mod (pe_op op_fdiv (pv 1) pe_int) (pe_callB call_len_seq rfl T.z_len PySem.boot_len (pa_cons (pv 4) pa_nil))) (fun _ _ => rfl)))
      (pss_cons (ps_if (pt_cmpR op_eq (pv 5) pe_int (nomark _)) (pss_one (ps_ret (pe_tup (pa_cons pe_str (pa_cons (pv 6) (pa_cons (pv 7) pa_nil)))))) pss_nil)
      (pss_one (ps_ret (pe_tup (pa_cons (pv 2) (pa_cons (pv 6) (pa_cons (pv 7) pa_nil)))))))))))))), ?_⟩
    have tl := pe.len
    obtain ⟨sx, hsx⟩ := pick_sex (z % 2) (Int.emod_nonneg _ (by decide)) (Int.emod_lt_of_pos _ (by decide))
    -- sex
    refine ⟨(show 2 ≤ sizeLine by decide), fun L hL => ⟨_, rfl, _, _, rfl, rfl, (show (0 : Int) < 2 by decide), L, _, _, _, rfl, rfl, SqL.of upd_same, hsx, ?_⟩⟩
    have s1 := same_new (o := .lst [V.str "man", V.str "woman"]) hL
    generalize upd H L _ = H1 at s1
    walk_at "ns"
    -- men
    refine ⟨_, rfl, LP, _, rfl, .inl (SqL.of (s1 _ _ pe.l)), _, rfl, by rw [List.length_map, tl]; omega, by rw [List.length_map, tl]; omega, ?_⟩
    rw [List.length_map, tl, Int.toNat_natCast]
    refine comp_rangeF0 (ofSex bk true) nat (Nat.le_trans n60 (by decide)) (fun i H' R hi sm kk _ _ _ => ?_) (fun i H' R hi pi sm kk _ _ _ => ⟨_, rfl, kk _ (Same.refl _)⟩) fun D1 H2 hD1 s2 hl2 => ?_
    · obtain ⟨t, x, _, hx, h1, h2⟩ := men_at (pe.same (s1.trans sm)) hi
      refine ⟨_, rfl, _, rfl, LP, _, _, _, rfl, rfl, SqL.of ((s1.trans sm) _ _ pe.l), h1, t, _, 0, _, rfl, rfl, SqT.of h2, rfl, rfl, _, rfl, ?_⟩
      have : decide (sexV x.1 = V.str "man") = ofSex bk true i := by rw [sex_man, ofSex_eq hx]; exact eq_true_b _
      show R (decide (sexV x.1 = V.str "man")) H'
      rw [this]; exact kk _ (Same.refl _)
    walk_at "ns"
    -- women
    have s12 := s1.trans s2
    refine ⟨_, rfl, LP, _, rfl, .inl (SqL.of (s12 _ _ pe.l)), _, rfl, by rw [List.length_map, tl]; omega, by rw [List.length_map, tl]; omega, ?_⟩
    rw [List.length_map, tl, Int.toNat_natCast]
    refine comp_rangeF0 (ofSex bk false) nat (Nat.le_trans n60 (by decide)) (fun i H' R hi sm kk _ _ _ => ?_) (fun i H' R hi pi sm kk _ _ _ => ⟨_, rfl, kk _ (Same.refl _)⟩) fun D2 H3 hD2 s3 hl3 => ?_
    · obtain ⟨t, x, _, hx, h1, h2⟩ := men_at (pe.same (s12.trans sm)) hi
      refine ⟨_, rfl, _, rfl, LP, _, _, _, rfl, rfl, SqL.of ((s12.trans sm) _ _ pe.l), h1, t, _, 0, _, rfl, rfl, SqT.of h2, rfl, rfl, _, rfl, ?_⟩
      have : decide (sexV x.1 = V.str "woman") = ofSex bk false i := by rw [sex_woman, ofSex_eq hx]; exact eq_false_b _
      show R (decide (sexV x.1 = V.str "woman")) H'
      rw [this]; exact kk _ (Same.refl _)
    have g2 : H3 D1 = some (.lst (natL (sexL bk true))) := s3 _ _ hl2
    have g3 : H3 D2 = some (.lst (natL (sexL bk false))) := hl3
    have s13 := s12.trans s3
    walk_at "ns"
    -- kind
    refine ⟨_, rfl, _, _, rfl, rfl, ⟨by decide, by decide⟩, _, _, rfl, rfl, (show (0 : Int) < 6 by decide), ?_⟩
    have nobody : ∀ H4 t, Same H3 H4 → H4 t = none → Q (.ref t) (upd H4 t (.tup [sexV sx, .non, .non])) := fun H4 t s4 ht => k t (.come sx) _ ((s13.trans s4).free ht) ((s13.trans s4).trans (same_new ht)) upd_same trivial
    walk_at "ns"
    refine ⟨_, rfl, rfl, _, rfl, iteD2 (fun _ => iteT ?_) (fun _ => ?_)⟩
    · exact ⟨_, rfl, (show 3 ≤ sizeLine by decide), fun t ht => nobody _ t (Same.refl _) ht⟩
    refine ⟨_, rfl, D1, _, rfl, .inl (SqL.of g2), rfl, _, rfl, iteD2 (fun _ => iteT ?_) (fun z1 => ?_)⟩
    · exact ⟨_, rfl, (show 3 ≤ sizeLine by decide), fun t ht => nobody _ t (Same.refl _) ht⟩
    refine ⟨_, rfl, D2, _, rfl, .inl (SqL.of g3), rfl, _, rfl, iteD2 (fun _ => ?_) (fun z2 => ?_)⟩
    · exact ⟨_, rfl, (show 3 ≤ sizeLine by decide), fun t ht => nobody _ t (Same.refl _) ht⟩
    have l1 : 0 < (sexL bk true).length := by
      rcases Nat.eq_zero_or_pos (sexL bk true).length with q | q
      · exact absurd (by rw [natL_len, q]; rfl) z1
      · exact q
    have l2 : 0 < (sexL bk false).length := by
      rcases Nat.eq_zero_or_pos (sexL bk false).length with q | q
      · exact absurd (by rw [natL_len, q]; rfl) z2
      · exact q
    obtain ⟨m, hm, am⟩ := pick_of (sexL bk true) (z / 12) l1
    obtain ⟨f', hf, af⟩ := pick_of (sexL bk false) (z / 97) l2
    have sm := mem_sexL.mp hm
    have sf := mem_sexL.mp hf
    have p1 : (0 : Int) < ((natL (sexL bk true)).length : Nat) := by rw [natL_len]; omega
    have p2 : (0 : Int) < ((natL (sexL bk false)).length : Nat) := by rw [natL_len]; omega
    refine ⟨_, rfl, _, rfl, _, _, rfl, rfl, ⟨by decide, by decide⟩, _, rfl, D1, _, rfl, .inl (SqL.of g2), _, _, rfl, rfl, p1, D1, _, _, _, rfl, rfl, SqL.of g2, am, ?_⟩
    walk_at "ns"
    refine ⟨_, rfl, _, rfl, _, _, rfl, rfl, ⟨by decide, by decide⟩, _, rfl, D2, _, rfl, .inl (SqL.of g3), _, _, rfl, rfl, p2, D2, _, _, _, rfl, rfl, SqL.of g3, af, ?_⟩
    walk_at "ns"
    refine ⟨_, rfl, rfl, _, rfl, iteD2 (fun _ => ?_) (fun _ => ?_)⟩
    · exact ⟨_, rfl, _, rfl, (show 3 ≤ sizeLine by decide), fun t ht => k t (.wed m f') _ (s13.free ht) (s13.trans (same_new ht)) upd_same ⟨sm, sf⟩⟩
    · exact ⟨_, rfl, _, rfl, _, rfl, (show 3 ≤ sizeLine by decide), fun t ht => k t (.born sx m f') _ (s13.free ht) (s13.trans (same_new ht)) upd_same ⟨sm, sf⟩⟩
end


--CUT
theorem BookAt.pne {B : Addr} {H : Hp} {p : Addr} {fp : List Addr} {bk : Bk} (T : BookAt B H p fp bk) {l : Addr} {xs : List V} (h : H l = some (.lst xs)) : p ≠ l := fun z => by
  obtain ⟨dx, a, b, c1, d, qs, _, e1, _⟩ := T.ob
  rw [z, h] at e1; cases e1
theorem Acc.person {B : Addr} {H : Hp} {b LP LR t : Addr} {fp ts us : List Addr} {bk : Bk} {x : Per} (h : Acc B H b LP LR fp ts us bk) (ht : H t = some (.tup (perT x))) {H1 : Hp} (hH : upd H LP (.lst (ts.map V.ref ++ [.ref t])) = H1) :
    BookAt B H1 b fp bk ∧ PeopleAt H1 LP (ts ++ [t]) (bk.ps ++ [x]) ∧ PairsAt H1 LR us bk.prs ∧ ∀ r o, H r = some o → r ≠ LP → H1 r = some o := by
  have o1 : ∀ r o, H r = some o → r ≠ LP → H1 r = some o := fun r o h z => by rw [← hH, upd_ne z]; exact h
  have tn : ∀ r xs, H r = some (.tup xs) → H1 r = some (.tup xs) := fun r xs hr => o1 r _ hr fun z => by rw [z, h.pe.l] at hr; cases hr
  refine ⟨h.bo.keep fun c o hc hm => o1 c o hc fun z => ?_, ⟨by rw [← hH, upd_same, List.map_append]; rfl, ?_⟩, ⟨o1 _ _ h.pa.l (Ne.symm h.ne), h.pa.t.keep fun p xs _ hp => tn p xs hp⟩, o1⟩
  · rcases List.mem_cons.mp hm with y | y
    · exact h.bo.pne h.pe.l (y.symm.trans z)
    · exact h.nP (z ▸ y)
  · rw [List.map_append]
    exact (h.pe.t.keep fun p xs _ hp => tn p xs hp).snoc (tn _ _ ht)
theorem len_sub (n : Nat) (l : List V) (h : l.length = n + 1) : V.int ((l.length : Nat) - (1 : Int)) = nat n := by
  rw [h]; show V.int _ = V.int _; congr 1; omega
section
variable {P : Program} {w : World} {K : PySem.W.Frag} {mg : Str → Option Value} {base : Heap} {CX : CXT} {C : Addr} {e : Ad}
theorem sc_put : FnScope ["book", "people", "pairs", "comer"] ["book", "people", "pairs", "comer"] (defScope (top 14)) := ⟨rfl, rfl, rfl, by decide +kernel, rfl, by decide +kernel, by decide +kernel⟩
theorem ok_put {f : Addr} {fd : FuncData} (F : Fun K "_law_put" "_law_put" (top 14) f fd) (T : Txt K mg C e) (hE : NoE (CXR P w)) (D_come : MDef P w K mg base (CXR P w) e.Book "come" 2 ["self", "sex"] (spCome e)) (D_born : MDef P w K mg base (CXR P w) e.Book "born" 3 ["self", "sex", "father", "mother"] (spBorn e)) (D_wed : MDef P w K mg base (CXR P w) e.Book "wed" 3 ["self", "man", "woman"] (spWed e)) : FnOk P w K mg base (CXR P w) 4 f fd ["book", "people", "pairs", "comer"] (spPut e) := by
  refine F.okN sc_put (fun vs H Q E h => ?_) (fun cdv A outer s H vs Q E hr h => ?_)
  · obtain ⟨b, LP, LR, t, fp, ts, us, bk, c, rfl, _⟩ := h; rfl
  · obtain ⟨b, LP, LR, t, fp, ts, us, bk, c, rfl, ac, ht, ok, n60, l1000, k⟩ := h
    have big : 4000 ≤ sizeLine := by decide
    have tl := ac.pe.len
    have ul := ac.pa.len
    have p9 : (60 : Nat) < 10 ^ 9 := by decide
    have sn : ∀ i : Nat, i < 60 → Sn (i : Int) := fun i h => log_small (by show ((i : Nat) : Int).natAbs < 10 ^ 9; omega)
    -- the pairs' step, for both
    have pstep : ∀ (m f' : Nat) (H1 : Hp) (us : List Addr), PairsAt H1 LR us bk.prs → us.length = bk.prs.length → ∀ u H2, upd H1 LR (.lst (us.map V.ref ++ [.ref u])) = H2 → H1 u = some (.tup [nat m, nat f']) → (m, f') ∉ bk.prs → PairsAt H2 LR (us ++ [u]) (bk.pair (m, f')).prs := by
      intro m f' H1 us pa ul u H2 hH hu q
      have e1 : (bk.pair (m, f')).prs = bk.prs ++ [(m, f')] := by unfold Bk.pair; rw [if_neg q]
      have tn : ∀ r xs, H1 r = some (.tup xs) → H2 r = some (.tup xs) := fun r xs hr => by
        rw [← hH, upd_ne (fun z => by rw [z, pa.l] at hr; cases hr)]; exact hr
      rw [e1]
      refine ⟨by rw [← hH, upd_same, List.map_append]; rfl, ?_⟩
      rw [List.map_append]
      exact (pa.t.keep fun p xs _ hp => tn p xs hp).snoc (tn _ _ hu)
    have pnone : ∀ (m f' : Nat), (m, f') ∈ bk.prs → (bk.pair (m, f')).prs = bk.prs := fun m f' q => by unfold Bk.pair; rw [if_pos q]
    refine ⟨_, (pss_cons (ps_if (pt_cmpR op_ne (pe_ix ix_tup (pv 3) pe_int (fun _ _ => rfl)) pe_str (nomark _)) (pss_one (ps_expr (pe_bm PySem.F.plainAttrs_list PySem.F.slot_list_append PySem.F.type_list_append mt_append (pv 1) (pa_cons (pv 3) pa_nil)))) pss_nil)
      (pss_cons (ps_if (pt_cmpR op_isN (pe_ix ix_tup (pv 3) pe_int (fun _ _ => rfl)) pe_non (nomark _)) (pss_one (ps_ret (pe_cmpR op_eq (pe_methD (pv 0) T.cl_Book D_come hE hr (pa_cons (pe_ix ix_tup (pv 3) pe_int (fun _ _ => rfl)) pa_nil)) (pe_op op_sub (pe_callB call_len_seq rfl T.z_len PySem.boot_len (pa_cons (pv 1) pa_nil)) pe_int) (nomark _)))) pss_nil)
      (pss_cons (ps_join (ps_if (pt_cmpR (op_notIn_ts (hu_of hr)) (pe_tup (pa_cons (pe_ix ix_tup (pv 3) pe_int (fun _ _ => rfl)) (pa_cons (pe_ix ix_tup (pv 3) pe_int (fun _ _ => rfl)) pa_nil))) (pv 2) (by with_unfolding_all rfl)) (pss_one (ps_expr (pe_bm PySem.F.plainAttrs_list PySem.F.slot_list_append PySem.F.type_list_append mt_append (pv 2) (pa_cons (pe_tup (pa_cons (pe_ix ix_tup (pv 3) pe_int (fun _ _ => rfl)) (pa_cons (pe_ix ix_tup (pv 3) pe_int (fun _ _ => rfl)) pa_nil))) pa_nil)))) pss_nil))
      (pss_cons (ps_if (pt_cmpR op_eq (pe_ix ix_tup (pv 3) pe_int (fun _ _ => rfl)) pe_str (nomark _)) (pss_one (ps_ret (pe_cmpR op_isN (pe_methD (pv 0) T.cl_Book D_wed hE hr (pa_cons (pe_ix ix_tup (pv 3) pe_int (fun _ _ => rfl)) (pa_cons (pe_ix ix_tup (pv 3) pe_int (fun _ _ => rfl)) pa_nil))) pe_non (nomark _)))) pss_nil)
      (pss_one (ps_ret (pe_cmpR op_eq (pe_methD (pv 0) T.cl_Book D_born hE hr (pa_cons (pe_ix ix_tup (pv 3) pe_int (fun _ _ => rfl)) (pa_cons (pe_ix ix_tup (pv 3) pe_int (fun _ _ => rfl)) (pa_cons (pe_ix ix_tup (pv 3) pe_int (fun _ _ => rfl)) pa_nil)))) (pe_op op_sub (pe_callB call_len_seq rfl T.z_len PySem.boot_len (pa_cons (pv 1) pa_nil)) pe_int) (nomark _)))))))), ?_⟩
    cases c with
    | come sx =>
      refine ⟨_, rfl, t, _, 0, _, rfl, rfl, SqT.of ht, rfl, rfl, _, rfl, ?_⟩
      show if (!decide (sexV sx = V.str "wed")) = true then _ else _
      rw [decide_eq_false (sex_wed sx)]
      refine iteT ?_
      refine ⟨_, rfl, .inl ⟨rfl, _, SqL.of ac.pe.l⟩, _, rfl, LP, _, _, rfl, rfl, ac.pe.l, by rw [List.length_map, tl]; omega, ?_⟩
      generalize hH1 : upd H LP _ = H1
      obtain ⟨BA1, PE1, PA1, o1⟩ := ac.person (x := (sx, none)) ht hH1
      have tP : t ≠ LP := fun z => by rw [z, ac.pe.l] at ht; cases ht
      have ht1 := o1 _ _ ht tP
      obtain ⟨dx, a1, b1, c1, d1, qs1, hfp1, f1, _⟩ := id BA1.ob
      refine ⟨_, rfl, t, _, 1, _, rfl, rfl, SqT.of ht1, rfl, rfl, _, rfl, iteD rfl ?_⟩
      refine ⟨_, rfl, b, dx, _, rfl, f1, bno .., _, rfl, t, _, 0, _, rfl, rfl, SqT.of ht1, rfl, b, fp, bk, sx, rfl, BA1, fun _ fp2 H2 BA2 kp2 fr2 sb2 => ?_, fun z => absurd z (by omega)⟩
      have nP2 : LP ∉ fp2 := fun z => (fr2 _ z).elim ac.nP fun y => by rw [PE1.l] at y; cases y
      have nR2 : LR ∉ fp2 := fun z => (fr2 _ z).elim ac.nR fun y => by rw [PA1.l] at y; cases y
      have PE2 : PeopleAt H2 LP (ts ++ [t]) (bk.ps ++ [(sx, none)]) := ⟨kp2 _ _ PE1.l ac.nP, PE1.t.keep fun p xs _ hp => kp2 _ _ hp (BA1.notin hp)⟩
      have PA2 : PairsAt H2 LR us bk.prs := ⟨kp2 _ _ PA1.l ac.nR, PA1.t.keep fun p xs _ hp => kp2 _ _ hp (BA1.notin hp)⟩
      refine ⟨_, rfl, LP, _, rfl, .inl (SqL.of PE2.l), _, _, rfl, rfl, rfl, ?_⟩
      have ev := len_sub bk.ps.length ((ts ++ [t]).map V.ref) (by rw [List.length_map, List.length_append, tl]; rfl)
      show Q (.bl (decide (nat bk.ps.length = V.int ((((ts ++ [t]).map V.ref).length : Nat) - (1 : Int))))) H2
      rw [ev, decide_eq_true rfl]
      refine k fp2 (ts ++ [t]) us H2 ⟨BA2, PE2, PA2, nP2, nR2, ac.ne⟩ (fun c o hc hn => ?_) fun c hc => ?_
      · simp only [List.mem_cons, not_or] at hn
        exact kp2 c o (o1 c o hc hn.1) hn.2.2
      · rcases fr2 c hc with z | z
        · exact .inl z
        · refine .inr ?_
          cases y : H c with
          | none => rfl
          | some o =>
            have : c ≠ LP := fun q => nP2 (q ▸ hc)
            rw [o1 c o y this] at z; cases z
    | wed m f' =>
      obtain ⟨hm, hf⟩ := ok
      refine ⟨_, rfl, t, _, 0, _, rfl, rfl, SqT.of ht, rfl, rfl, _, rfl, iteF ?_⟩
      refine ⟨_, rfl, t, _, 1, _, rfl, rfl, SqT.of ht, rfl, rfl, _, rfl, iteDn (by intro z; cases z) ?_⟩
      refine ⟨fun σ' H' => σ' = [some (.ref b), some (.ref LP), some (.ref LR), some (.ref t)] ∧ ∃ us', PairsAt H' LR us' (bk.pair (m, f')).prs ∧ ∀ r o, H r = some o → r ≠ LR → H' r = some o, ?_, ?_⟩
      · refine ⟨_, rfl, t, _, 1, _, rfl, rfl, SqT.of ht, rfl, _, rfl, t, _, 2, _, rfl, rfl, SqT.of ht, rfl, two_fits, fun u hu => ?_⟩
        have s1 := same_new (o := .tup [nat m, nat f']) hu
        have g1 : (upd H u (.tup [nat m, nat f'])) u = some (.tup [nat m, nat f']) := upd_same
        generalize upd H u (.tup [nat m, nat f']) = H1 at s1 g1
        have pa1 := ac.pa.same s1
        refine ⟨_, rfl, u, LR, us, _, _, rfl, rfl, g1, SqL.of pa1.l, pa1.t, rfl, fl_pr _, _, rfl, ?_⟩
        show if (!((bk.prs.map prT).any fun ys => eqVs ys [nat m, nat f'])) = true then _ else _
        rw [any_prs _ (m, f')]
        by_cases q : (m, f') ∈ bk.prs
        · rw [decide_eq_true q]
          exact iteF ⟨rfl, us, by rw [pnone m f' q]; exact pa1, fun r o hr _ => s1 _ _ hr⟩
        · rw [decide_eq_false q]
          refine iteT ?_
          refine ⟨_, rfl, .inl ⟨rfl, _, SqL.of pa1.l⟩, _, rfl, t, _, 1, _, rfl, rfl, SqT.of (s1 _ _ ht), rfl, _, rfl, t, _, 2, _, rfl, rfl, SqT.of (s1 _ _ ht), rfl, two_fits, fun u2 hu2 => ?_⟩
          have s2 := same_new (o := .tup [nat m, nat f']) hu2
          have g2 : (upd H1 u2 (.tup [nat m, nat f'])) u2 = some (.tup [nat m, nat f']) := upd_same
          generalize upd H1 u2 (.tup [nat m, nat f']) = H2 at s2 g2
          have pa2 := pa1.same s2
          refine ⟨LR, _, _, rfl, rfl, pa2.l, by rw [List.length_map, ul]; omega, rfl, us ++ [u2], pstep m f' H2 us pa2 ul u2 _ rfl g2 q, fun r o hr z => ?_⟩
          rw [upd_ne z]; exact (s1.trans s2) _ _ hr
      rintro σ' H1 ⟨rfl, us1, PA1, o1⟩
      have BA1 : BookAt e.Book H1 b fp bk := ac.bo.keep fun c o hc hm => o1 c o hc fun z => by
        rcases List.mem_cons.mp hm with y | y
        · exact ac.bo.pne ac.pa.l (y.symm.trans z)
        · exact ac.nR (z ▸ y)
      have PE1 : PeopleAt H1 LP ts bk.ps := ⟨o1 _ _ ac.pe.l ac.ne, ac.pe.t.keep fun p xs _ hp => o1 _ _ hp fun z => by rw [z, ac.pa.l] at hp; cases hp⟩
      have ht1 := o1 _ _ ht fun z => by rw [z, ac.pa.l] at ht; cases ht
      obtain ⟨dx, a1, b1, c1, d1, qs1, hfp1, f1, _⟩ := id BA1.ob
      refine ⟨_, rfl, t, _, 0, _, rfl, rfl, SqT.of ht1, rfl, rfl, _, rfl, iteD rfl ?_⟩
      have lm := hm.lt
      have lf := hf.lt
      refine ⟨_, rfl, b, dx, _, rfl, f1, bno .., _, rfl, t, _, 1, _, rfl, rfl, SqT.of ht1, rfl, _, rfl, t, _, 2, _, rfl, rfl, SqT.of ht1, rfl, b, fp, bk, (m : Int), (f' : Int), rfl, BA1, sn m (by omega), sn f' (by omega), fun m2 f2 em ef _ _ => ⟨l1000, fun fp2 H2 BA2 kp2 fr2 sb2 => ?_⟩, fun z => absurd ⟨⟨by omega, by omega⟩, ⟨by omega, by omega⟩⟩ z, fun _ _ z => absurd ⟨m, f', rfl, rfl, hm, hf⟩ z⟩
      have em' := Int.ofNat.inj em
      have ef' := Int.ofNat.inj ef
      subst em' ef'
      have nP2 : LP ∉ fp2 := fun z => (fr2 _ z).elim ac.nP fun y => by rw [PE1.l] at y; cases y
      have nR2 : LR ∉ fp2 := fun z => (fr2 _ z).elim ac.nR fun y => by rw [PA1.l] at y; cases y
      have PE2 : PeopleAt H2 LP ts bk.ps := ⟨kp2 _ _ PE1.l ac.nP, PE1.t.keep fun p xs _ hp => kp2 _ _ hp (BA1.notin hp)⟩
      have PA2 : PairsAt H2 LR us1 (bk.pair (m, f')).prs := ⟨kp2 _ _ PA1.l ac.nR, PA1.t.keep fun p xs _ hp => kp2 _ _ hp (BA1.notin hp)⟩
      refine ⟨rfl, ?_⟩
      show Q (.bl (decide (V.non = V.non))) H2
      rw [decide_eq_true rfl]
      refine k fp2 ts us1 H2 ⟨BA2, PE2, PA2, nP2, nR2, ac.ne⟩ (fun c o hc hn => ?_) fun c hc => ?_
      · simp only [List.mem_cons, not_or] at hn
        exact kp2 c o (o1 c o hc hn.2.1) hn.2.2
      · rcases fr2 c hc with z | z
        · exact .inl z
        · refine .inr ?_
          cases y : H c with
          | none => rfl
          | some o =>
            have : c ≠ LR := fun q => nR2 (q ▸ hc)
            rw [o1 c o y this] at z; cases z
    | born sx m f' =>
      obtain ⟨hm, hf⟩ := ok
      refine ⟨_, rfl, t, _, 0, _, rfl, rfl, SqT.of ht, rfl, rfl, _, rfl, ?_⟩
      show if (!decide (sexV sx = V.str "wed")) = true then _ else _
      rw [decide_eq_false (sex_wed sx)]
      refine iteT ?_
      refine ⟨_, rfl, .inl ⟨rfl, _, SqL.of ac.pe.l⟩, _, rfl, LP, _, _, rfl, rfl, ac.pe.l, by rw [List.length_map, tl]; omega, ?_⟩
      generalize hH0 : upd H LP _ = H0
      obtain ⟨BA0, PE0, PA0, o0⟩ := ac.person (x := (sx, some (m, f'))) ht hH0
      have tP : t ≠ LP := fun z => by rw [z, ac.pe.l] at ht; cases ht
      have ht0 := o0 _ _ ht tP
      refine ⟨_, rfl, t, _, 1, _, rfl, rfl, SqT.of ht0, rfl, rfl, _, rfl, iteDn (by intro z; cases z) ?_⟩
      refine ⟨fun σ' H' => σ' = [some (.ref b), some (.ref LP), some (.ref LR), some (.ref t)] ∧ ∃ us', PairsAt H' LR us' (bk.pair (m, f')).prs ∧ ∀ r o, H0 r = some o → r ≠ LR → H' r = some o, ?_, ?_⟩
      · refine ⟨_, rfl, t, _, 1, _, rfl, rfl, SqT.of ht0, rfl, _, rfl, t, _, 2, _, rfl, rfl, SqT.of ht0, rfl, two_fits, fun u hu => ?_⟩
        have s1 := same_new (o := .tup [nat m, nat f']) hu
        have g1 : (upd H0 u (.tup [nat m, nat f'])) u = some (.tup [nat m, nat f']) := upd_same
        generalize upd H0 u (.tup [nat m, nat f']) = H1 at s1 g1
        have pa1 := PA0.same s1
        refine ⟨_, rfl, u, LR, us, _, _, rfl, rfl, g1, SqL.of pa1.l, pa1.t, rfl, fl_pr _, _, rfl, ?_⟩
        show if (!((bk.prs.map prT).any fun ys => eqVs ys [nat m, nat f'])) = true then _ else _
        rw [any_prs _ (m, f')]
        by_cases q : (m, f') ∈ bk.prs
        · rw [decide_eq_true q]
          exact iteF ⟨rfl, us, by rw [pnone m f' q]; exact pa1, fun r o hr _ => s1 _ _ hr⟩
        · rw [decide_eq_false q]
          refine iteT ?_
          refine ⟨_, rfl, .inl ⟨rfl, _, SqL.of pa1.l⟩, _, rfl, t, _, 1, _, rfl, rfl, SqT.of (s1 _ _ ht0), rfl, _, rfl, t, _, 2, _, rfl, rfl, SqT.of (s1 _ _ ht0), rfl, two_fits, fun u2 hu2 => ?_⟩
          have s2 := same_new (o := .tup [nat m, nat f']) hu2
          have g2 : (upd H1 u2 (.tup [nat m, nat f'])) u2 = some (.tup [nat m, nat f']) := upd_same
          generalize upd H1 u2 (.tup [nat m, nat f']) = H2 at s2 g2
          have pa2 := pa1.same s2
          refine ⟨LR, _, _, rfl, rfl, pa2.l, by rw [List.length_map, ul]; omega, rfl, us ++ [u2], pstep m f' H2 us pa2 ul u2 _ rfl g2 q, fun r o hr z => ?_⟩
          rw [upd_ne z]; exact (s1.trans s2) _ _ hr
      rintro σ' H1 ⟨rfl, us1, PA1, o1⟩
      have BA1 : BookAt e.Book H1 b fp bk := BA0.keep fun c o hc hm => o1 c o hc fun z => by
        rcases List.mem_cons.mp hm with y | y
        · exact BA0.pne PA0.l (y.symm.trans z)
        · exact ac.nR (z ▸ y)
      have PE1 : PeopleAt H1 LP (ts ++ [t]) (bk.ps ++ [(sx, some (m, f'))]) := ⟨o1 _ _ PE0.l ac.ne, PE0.t.keep fun p xs _ hp => o1 _ _ hp fun z => by rw [z, PA0.l] at hp; cases hp⟩
      have ht1 := o1 _ _ ht0 fun z => by rw [z, PA0.l] at ht0; cases ht0
      obtain ⟨dx, a1, b1, c1, d1, qs1, hfp1, f1, _⟩ := id BA1.ob
      refine ⟨_, rfl, t, _, 0, _, rfl, rfl, SqT.of ht1, rfl, rfl, _, rfl, iteDn (sex_wed sx) ?_⟩
      have lm := hm.lt
      have lf := hf.lt
      refine ⟨_, rfl, b, dx, _, rfl, f1, bno .., _, rfl, t, _, 0, _, rfl, rfl, SqT.of ht1, rfl, _, rfl, t, _, 1, _, rfl, rfl, SqT.of ht1, rfl, _, rfl, t, _, 2, _, rfl, rfl, SqT.of ht1, rfl, b, fp, bk, sx, (m : Int), (f' : Int), rfl, BA1, sn m (by omega), sn f' (by omega), fun m2 f2 em ef _ _ _ => ⟨l1000, fun fp2 H2 BA2 kp2 fr2 sb2 => ?_⟩, fun z => absurd ⟨⟨by omega, by omega⟩, ⟨by omega, by omega⟩⟩ z, fun _ _ z => absurd ⟨m, f', rfl, rfl, hm, hf⟩ z, fun _ z => absurd z (by omega)⟩
      have em' := Int.ofNat.inj em
      have ef' := Int.ofNat.inj ef
      subst em' ef'
      have nP2 : LP ∉ fp2 := fun z => (fr2 _ z).elim ac.nP fun y => by rw [PE1.l] at y; cases y
      have nR2 : LR ∉ fp2 := fun z => (fr2 _ z).elim ac.nR fun y => by rw [PA1.l] at y; cases y
      have PE2 : PeopleAt H2 LP (ts ++ [t]) (bk.ps ++ [(sx, some (m, f'))]) := ⟨kp2 _ _ PE1.l ac.nP, PE1.t.keep fun p xs _ hp => kp2 _ _ hp (BA1.notin hp)⟩
      have PA2 : PairsAt H2 LR us1 (bk.pair (m, f')).prs := ⟨kp2 _ _ PA1.l ac.nR, PA1.t.keep fun p xs _ hp => kp2 _ _ hp (BA1.notin hp)⟩
      refine ⟨_, rfl, LP, _, rfl, .inl (SqL.of PE2.l), _, _, rfl, rfl, rfl, ?_⟩
      have ev := len_sub bk.ps.length ((ts ++ [t]).map V.ref) (by rw [List.length_map, List.length_append, tl]; rfl)
      show Q (.bl (decide (nat bk.ps.length = V.int ((((ts ++ [t]).map V.ref).length : Nat) - (1 : Int))))) H2
      rw [ev, decide_eq_true rfl]
      refine k fp2 (ts ++ [t]) us1 H2 ⟨BA2, PE2, PA2, nP2, nR2, ac.ne⟩ (fun c o hc hn => ?_) fun c hc => ?_
      · simp only [List.mem_cons, not_or] at hn
        exact kp2 c o (o1 c o (o0 c o hc hn.1) hn.2.1) hn.2.2
      · rcases fr2 c hc with z | z
        · exact .inl z
        · refine .inr ?_
          cases y : H c with
          | none => rfl
          | some o =>
            have y1 : c ≠ LR := fun q => nR2 (q ▸ hc)
            have y2 : c ≠ LP := fun q => nP2 (q ▸ hc)
            rw [o1 c o (o0 c o y y2) y1] at z; cases z
end


--CUT
/-! the law of a book -/
inductive Why where
  | person
  | parents
  | many
def markL : Why → List V
  | .person => [.bl true, .bl false, .bl false]
  | .parents => [.bl false, .bl true, .bl false]
  | .many => [.bl false, .bl false, .bl true]
theorem Cpl.inB {bk : Bk} {i j : Int} (h : Cpl bk i j) : InB bk i ∧ InB bk j := by
  obtain ⟨m, f, rfl, rfl, h1, h2⟩ := h
  have := h1.lt
  have := h2.lt
  exact ⟨⟨by omega, by omega⟩, ⟨by omega, by omega⟩⟩
def Ref (bk : Bk) (way : Nat) (i j : Int) : Why → Prop
  | .person => ((way = 0 ∨ way = 1) ∧ ¬ (InB bk i ∧ InB bk j)) ∨ ((way = 3 ∨ way = 4 ∨ way = 5 ∨ way = 6 ∨ way = 7) ∧ ¬ InB bk i)
  | .parents => (way = 0 ∨ way = 1) ∧ InB bk i ∧ InB bk j ∧ ¬ Cpl bk i j
  | .many => (way = 0 ∧ Cpl bk i j ∧ 60 ≤ bk.ps.length) ∨ (way = 2 ∧ 60 ≤ bk.ps.length)
def spRefused9 (e : Ad) : Sp := fun vs H Q _ => ∃ (b : Addr) (fp : List Addr) (bk : Bk) (way : Nat) (sx : Bool) (i j : Int) (r : Why), vs = [.ref b, nat way, sexV sx, .int i, .int j] ∧ BookAt e.Book H b fp bk ∧ Sn i ∧ Sn j ∧ Ref bk way i j r ∧
  ∀ D H', H D = none → Same H H' → H' D = some (.lst (markL r)) → Q (.ref D) H'
def spParent : Sp := fun vs H Q _ => ∃ v, vs = [v, v] ∧ (v = .non ∨ ∃ n : Nat, v = nat n) ∧ Q (.bl true) H
def spIll (e : Ad) : Sp := fun vs H Q _ => ∃ (b LP : Addr) (fp ts : List Addr) (bk : Bk) (z : Int), vs = [.ref b, .ref LP, .int z] ∧ BookAt e.Book H b fp bk ∧ PeopleAt H LP ts bk.ps ∧ ∀ H', Same H H' → Q (.bl true) H'
section
variable {P : Program} {w : World} {K : PySem.W.Frag} {mg : Str → Option Value} {base : Heap} {CX : CXT} {C : Addr} {e : Ad}
theorem sc_refused9 : FnScope ["book", "way", "sex", "one", "other", "marks", "e"] ["book", "way", "sex", "one", "other"] (defScope (top 15)) := ⟨rfl, rfl, rfl, by decide +kernel, rfl, by decide +kernel, by decide +kernel⟩
theorem ok_refused9 {f : Addr} {fd : FuncData} (F : Fun K "_law_refused" "_law_refused" (top 15) f fd) (T : Txt K mg C e) (D_born : MDef P w K mg base (CXR P w) e.Book "born" 3 ["self", "sex", "father", "mother"] (spBorn e)) (D_wed : MDef P w K mg base (CXR P w) e.Book "wed" 3 ["self", "man", "woman"] (spWed e)) (D_come : MDef P w K mg base (CXR P w) e.Book "come" 2 ["self", "sex"] (spCome e)) (D_sex_of : MDef P w K mg base (CXR P w) e.Book "sex_of" 2 ["self", "a"] (spSexOf e)) (D_father : MDef P w K mg base (CXR P w) e.Book "father" 2 ["self", "a"] (spFatherB e)) (D_mother : MDef P w K mg base (CXR P w) e.Book "mother" 2 ["self", "a"] (spMotherB e)) (D_partners : MDef P w K mg base (CXR P w) e.Book "partners" 2 ["self", "a"] (spPartnersB e)) (D_children : MDef P w K mg base (CXR P w) e.Book "children" 2 ["self", "a"] (spChildrenB e)) : FnOk P w K mg base (CXR P w) 4 f fd ["book", "way", "sex", "one", "other"] (spRefused9 e) := by
  refine F.okN sc_refused9 (fun vs H Q E h => ?_) (fun cdv A outer s H vs Q E hr h => ?_)
  · obtain ⟨b, fp, bk, way, sx, i, j, r, rfl, _⟩ := h; rfl
  · obtain ⟨b, fp, bk, way, sx, i, j, r, rfl, BA0, si, sj, ref, k⟩ := h
    have nd := sc_refused9.nd
    refine ⟨_, (pss_cons (ps_set (i := 5) nd rfl (Or.inl rfl) (pe_lst pa_nil))
      (pss_cons (ps_try (i := 6) nd rfl rfl T.m_KinError rfl (fun _ _ => (pss_one (ps_if (pt_cmpR op_eq (pv 1) pe_int (nomark _)) (pss_one (ps_expr (pe_methX (pv 0) T.cl_Book D_born exitsT hr (pa_cons (pv 2) (pa_cons (pv 3) (pa_cons (pv 4) pa_nil)))))) (pss_one (ps_if (pt_cmpR op_eq (pv 1) pe_int (nomark _)) (pss_one (ps_expr (pe_methX (pv 0) T.cl_Book D_wed exitsT hr (pa_cons (pv 3) (pa_cons (pv 4) pa_nil))))) (pss_one (ps_if (pt_cmpR op_eq (pv 1) pe_int (nomark _)) (pss_one (ps_expr (pe_methX (pv 0) T.cl_Book D_come exitsT hr (pa_cons (pv 2) pa_nil)))) (pss_one (ps_if (pt_cmpR op_eq (pv 1) pe_int (nomark _)) (pss_one (ps_expr (pe_methX (pv 0) T.cl_Book D_sex_of exitsT hr (pa_cons (pv 3) pa_nil)))) (pss_one (ps_if (pt_cmpR op_eq (pv 1) pe_int (nomark _)) (pss_one (ps_expr (pe_methX (pv 0) T.cl_Book D_father exitsT hr (pa_cons (pv 3) pa_nil)))) (pss_one (ps_if (pt_cmpR op_eq (pv 1) pe_int (nomark _)) (pss_one (ps_expr (pe_methX (pv 0) T.cl_Book D_mother exitsT hr (pa_cons (pv 3) pa_nil)))) (pss_one (ps_if (pt_cmpR op_eq (pv 1) pe_int (nomark _)) (pss_one (ps_expr (pe_methX (pv 0) T.cl_Book D_partners exitsT hr (pa_cons (pv 3) pa_nil)))) (pss_one (ps_expr (pe_methX (pv 0) T.cl_Book D_children exitsT hr (pa_cons (pv 3) pa_nil))))))))))))))))))) (fun _ => (pss_one (ps_set (i := 5) nd rfl (Or.inl rfl) (pe_lst (pa_cons (pe_callB call_isinstX rfl T.z_isinstance bt_isinstance (pa_cons (pv 6) (pa_cons (pe_globC rfl T.m_NoPerson) pa_nil))) (pa_cons (pe_callB call_isinstX rfl T.z_isinstance bt_isinstance (pa_cons (pv 6) (pa_cons (pe_globC rfl T.m_NoParents) pa_nil))) (pa_cons (pe_callB call_isinstX rfl T.z_isinstance bt_isinstance (pa_cons (pv 6) (pa_cons (pe_globC rfl T.m_TooMany) pa_nil))) pa_nil))))))))
      (pss_one (ps_ret (pv 5))))), ?_⟩
    refine ⟨by decide, fun D0 hD0 => ?_⟩
    have s0 : Same H (upd H D0 (.lst [])) := same_new hD0
    generalize upd H D0 (.lst []) = H0 at s0
    intro _
    have BA := BA0.same s0
    obtain ⟨dx, a1, b1, c1, d1, qs1, hfp1, e1, _⟩ := id BA.ob
    have fin : ∀ (a : Addr) (b1 b2 b3 : Bool) (D : Addr), H0 a = none → ∀ o, (upd H0 a o) D = none → [V.bl b1, V.bl b2, V.bl b3] = markL r → Q (.ref D) (upd (upd H0 a o) D (.lst [.bl b1, .bl b2, .bl b3])) := by
      intro a b1 b2 b3 D ha o hD er
      have s2 := s0.trans (same_new ha (o := o))
      exact k D _ (s2.free hD) (s2.trans (same_new hD)) (by rw [upd_same, er])
    cases r with
    | person =>
      rcases ref with ⟨rfl | rfl, z⟩ | ⟨rfl | rfl | rfl | rfl | rfl, z⟩
      · exact ⟨_, rfl, rfl, _, rfl, iteD rfl ⟨_, rfl, b, dx, _, rfl, e1, bno .., _, rfl, _, rfl, _, rfl, b, fp, bk, sx, i, j, rfl, BA, si, sj, fun m f' em ef h1 h2 n6 => (show False from z (Cpl.inB ⟨m, f', em, ef, h1, h2⟩)).elim, fun _ => ⟨T.w_NoPerson, fun a ha => ⟨_, rfl, a, _, _, _, _, rfl, upd_same, rfl, T.c_NoPerson, T.k_NoPerson_NoPerson, _, rfl, a, _, _, _, _, rfl, upd_same, rfl, T.c_NoPerson, T.k_NoPerson_NoParents, _, rfl, a, _, _, _, _, rfl, upd_same, rfl, T.c_NoPerson, T.k_NoPerson_TooMany, by decide, fun D hD => ⟨_, rfl, fin a _ _ _ D ha _ hD rfl⟩⟩⟩, fun q1 q2 _ => absurd ⟨q1, q2⟩ z, fun q _ => absurd q.inB z⟩⟩
      · exact ⟨_, rfl, rfl, _, rfl, iteDn (by decide) ⟨_, rfl, rfl, _, rfl, iteD rfl ⟨_, rfl, b, dx, _, rfl, e1, bno .., _, rfl, _, rfl, b, fp, bk, i, j, rfl, BA, si, sj, fun m f' em ef h1 h2 => (show False from z (Cpl.inB ⟨m, f', em, ef, h1, h2⟩)).elim, fun _ => ⟨T.w_NoPerson, fun a ha => ⟨_, rfl, a, _, _, _, _, rfl, upd_same, rfl, T.c_NoPerson, T.k_NoPerson_NoPerson, _, rfl, a, _, _, _, _, rfl, upd_same, rfl, T.c_NoPerson, T.k_NoPerson_NoParents, _, rfl, a, _, _, _, _, rfl, upd_same, rfl, T.c_NoPerson, T.k_NoPerson_TooMany, by decide, fun D hD => ⟨_, rfl, fin a _ _ _ D ha _ hD rfl⟩⟩⟩, fun q1 q2 _ => absurd ⟨q1, q2⟩ z⟩⟩⟩
      · exact ⟨_, rfl, rfl, _, rfl, iteDn (by decide) ⟨_, rfl, rfl, _, rfl, iteDn (by decide) ⟨_, rfl, rfl, _, rfl, iteDn (by decide) ⟨_, rfl, rfl, _, rfl, iteD rfl ⟨_, rfl, b, dx, _, rfl, e1, bno .., _, rfl, b, fp, bk, i, rfl, BA, si, fun q => absurd q z, fun _ => ⟨T.w_NoPerson, fun a ha => ⟨_, rfl, a, _, _, _, _, rfl, upd_same, rfl, T.c_NoPerson, T.k_NoPerson_NoPerson, _, rfl, a, _, _, _, _, rfl, upd_same, rfl, T.c_NoPerson, T.k_NoPerson_NoParents, _, rfl, a, _, _, _, _, rfl, upd_same, rfl, T.c_NoPerson, T.k_NoPerson_TooMany, by decide, fun D hD => ⟨_, rfl, fin a _ _ _ D ha _ hD rfl⟩⟩⟩⟩⟩⟩⟩⟩
      · exact ⟨_, rfl, rfl, _, rfl, iteDn (by decide) ⟨_, rfl, rfl, _, rfl, iteDn (by decide) ⟨_, rfl, rfl, _, rfl, iteDn (by decide) ⟨_, rfl, rfl, _, rfl, iteDn (by decide) ⟨_, rfl, rfl, _, rfl, iteD rfl ⟨_, rfl, b, dx, _, rfl, e1, bno .., _, rfl, b, fp, bk, i, rfl, BA, si, fun q => absurd q z, fun _ => ⟨T.w_NoPerson, fun a ha => ⟨_, rfl, a, _, _, _, _, rfl, upd_same, rfl, T.c_NoPerson, T.k_NoPerson_NoPerson, _, rfl, a, _, _, _, _, rfl, upd_same, rfl, T.c_NoPerson, T.k_NoPerson_NoParents, _, rfl, a, _, _, _, _, rfl, upd_same, rfl, T.c_NoPerson, T.k_NoPerson_TooMany, by decide, fun D hD => ⟨_, rfl, fin a _ _ _ D ha _ hD rfl⟩⟩⟩⟩⟩⟩⟩⟩⟩
      · exact ⟨_, rfl, rfl, _, rfl, iteDn (by decide) ⟨_, rfl, rfl, _, rfl, iteDn (by decide) ⟨_, rfl, rfl, _, rfl, iteDn (by decide) ⟨_, rfl, rfl, _, rfl, iteDn (by decide) ⟨_, rfl, rfl, _, rfl, iteDn (by decide) ⟨_, rfl, rfl, _, rfl, iteD rfl ⟨_, rfl, b, dx, _, rfl, e1, bno .., _, rfl, b, fp, bk, i, rfl, BA, si, fun q => absurd q z, fun _ => ⟨T.w_NoPerson, fun a ha => ⟨_, rfl, a, _, _, _, _, rfl, upd_same, rfl, T.c_NoPerson, T.k_NoPerson_NoPerson, _, rfl, a, _, _, _, _, rfl, upd_same, rfl, T.c_NoPerson, T.k_NoPerson_NoParents, _, rfl, a, _, _, _, _, rfl, upd_same, rfl, T.c_NoPerson, T.k_NoPerson_TooMany, by decide, fun D hD => ⟨_, rfl, fin a _ _ _ D ha _ hD rfl⟩⟩⟩⟩⟩⟩⟩⟩⟩⟩
      · exact ⟨_, rfl, rfl, _, rfl, iteDn (by decide) ⟨_, rfl, rfl, _, rfl, iteDn (by decide) ⟨_, rfl, rfl, _, rfl, iteDn (by decide) ⟨_, rfl, rfl, _, rfl, iteDn (by decide) ⟨_, rfl, rfl, _, rfl, iteDn (by decide) ⟨_, rfl, rfl, _, rfl, iteDn (by decide) ⟨_, rfl, rfl, _, rfl, iteD rfl ⟨_, rfl, b, dx, _, rfl, e1, bno .., _, rfl, b, fp, bk, i, rfl, BA, si, fun q => absurd q z, fun _ => ⟨T.w_NoPerson, fun a ha => ⟨_, rfl, a, _, _, _, _, rfl, upd_same, rfl, T.c_NoPerson, T.k_NoPerson_NoPerson, _, rfl, a, _, _, _, _, rfl, upd_same, rfl, T.c_NoPerson, T.k_NoPerson_NoParents, _, rfl, a, _, _, _, _, rfl, upd_same, rfl, T.c_NoPerson, T.k_NoPerson_TooMany, by decide, fun D hD => ⟨_, rfl, fin a _ _ _ D ha _ hD rfl⟩⟩⟩⟩⟩⟩⟩⟩⟩⟩⟩
      · exact ⟨_, rfl, rfl, _, rfl, iteDn (by decide) ⟨_, rfl, rfl, _, rfl, iteDn (by decide) ⟨_, rfl, rfl, _, rfl, iteDn (by decide) ⟨_, rfl, rfl, _, rfl, iteDn (by decide) ⟨_, rfl, rfl, _, rfl, iteDn (by decide) ⟨_, rfl, rfl, _, rfl, iteDn (by decide) ⟨_, rfl, rfl, _, rfl, iteDn (by decide) ⟨_, rfl, b, dx, _, rfl, e1, bno .., _, rfl, b, fp, bk, i, rfl, BA, si, fun q => absurd q z, fun _ => ⟨T.w_NoPerson, fun a ha => ⟨_, rfl, a, _, _, _, _, rfl, upd_same, rfl, T.c_NoPerson, T.k_NoPerson_NoPerson, _, rfl, a, _, _, _, _, rfl, upd_same, rfl, T.c_NoPerson, T.k_NoPerson_NoParents, _, rfl, a, _, _, _, _, rfl, upd_same, rfl, T.c_NoPerson, T.k_NoPerson_TooMany, by decide, fun D hD => ⟨_, rfl, fin a _ _ _ D ha _ hD rfl⟩⟩⟩⟩⟩⟩⟩⟩⟩⟩⟩
    | parents =>
      obtain ⟨rfl | rfl, z⟩ := ref
      · exact ⟨_, rfl, rfl, _, rfl, iteD rfl ⟨_, rfl, b, dx, _, rfl, e1, bno .., _, rfl, _, rfl, _, rfl, b, fp, bk, sx, i, j, rfl, BA, si, sj, fun m f' em ef h1 h2 n6 => (show False from z.2.2 ⟨m, f', em, ef, h1, h2⟩).elim, fun q => absurd ⟨z.1, z.2.1⟩ q, fun _ _ _ => ⟨T.w_NoParents, fun a ha => ⟨_, rfl, a, _, _, _, _, rfl, upd_same, rfl, T.c_NoParents, T.k_NoParents_NoPerson, _, rfl, a, _, _, _, _, rfl, upd_same, rfl, T.c_NoParents, T.k_NoParents_NoParents, _, rfl, a, _, _, _, _, rfl, upd_same, rfl, T.c_NoParents, T.k_NoParents_TooMany, by decide, fun D hD => ⟨_, rfl, fin a _ _ _ D ha _ hD rfl⟩⟩⟩, fun q _ => absurd q z.2.2⟩⟩
      · exact ⟨_, rfl, rfl, _, rfl, iteDn (by decide) ⟨_, rfl, rfl, _, rfl, iteD rfl ⟨_, rfl, b, dx, _, rfl, e1, bno .., _, rfl, _, rfl, b, fp, bk, i, j, rfl, BA, si, sj, fun m f' em ef h1 h2 => (show False from z.2.2 ⟨m, f', em, ef, h1, h2⟩).elim, fun q => absurd ⟨z.1, z.2.1⟩ q, fun _ _ _ => ⟨T.w_NoParents, fun a ha => ⟨_, rfl, a, _, _, _, _, rfl, upd_same, rfl, T.c_NoParents, T.k_NoParents_NoPerson, _, rfl, a, _, _, _, _, rfl, upd_same, rfl, T.c_NoParents, T.k_NoParents_NoParents, _, rfl, a, _, _, _, _, rfl, upd_same, rfl, T.c_NoParents, T.k_NoParents_TooMany, by decide, fun D hD => ⟨_, rfl, fin a _ _ _ D ha _ hD rfl⟩⟩⟩⟩⟩⟩
    | many =>
      rcases ref with ⟨rfl, z⟩ | ⟨rfl, z⟩
      · exact ⟨_, rfl, rfl, _, rfl, iteD rfl ⟨_, rfl, b, dx, _, rfl, e1, bno .., _, rfl, _, rfl, _, rfl, b, fp, bk, sx, i, j, rfl, BA, si, sj, fun m f' em ef h1 h2 n6 => (show False from by have := z.2; omega).elim, fun q => absurd z.1.inB q, fun _ _ q => absurd z.1 q, fun _ _ => ⟨T.w_TooMany, fun a ha => ⟨_, rfl, a, _, _, _, _, rfl, upd_same, rfl, T.c_TooMany, T.k_TooMany_NoPerson, _, rfl, a, _, _, _, _, rfl, upd_same, rfl, T.c_TooMany, T.k_TooMany_NoParents, _, rfl, a, _, _, _, _, rfl, upd_same, rfl, T.c_TooMany, T.k_TooMany_TooMany, by decide, fun D hD => ⟨_, rfl, fin a _ _ _ D ha _ hD rfl⟩⟩⟩⟩⟩
      · exact ⟨_, rfl, rfl, _, rfl, iteDn (by decide) ⟨_, rfl, rfl, _, rfl, iteDn (by decide) ⟨_, rfl, rfl, _, rfl, iteD rfl ⟨_, rfl, b, dx, _, rfl, e1, bno .., _, rfl, b, fp, bk, sx, rfl, BA, fun q => (show False by omega).elim, fun _ => ⟨T.w_TooMany, fun a ha => ⟨_, rfl, a, _, _, _, _, rfl, upd_same, rfl, T.c_TooMany, T.k_TooMany_NoPerson, _, rfl, a, _, _, _, _, rfl, upd_same, rfl, T.c_TooMany, T.k_TooMany_NoParents, _, rfl, a, _, _, _, _, rfl, upd_same, rfl, T.c_TooMany, T.k_TooMany_TooMany, by decide, fun D hD => ⟨_, rfl, fin a _ _ _ D ha _ hD rfl⟩⟩⟩⟩⟩⟩⟩
theorem sc_parent : FnScope ["found", "due"] ["found", "due"] (defScope (top 17)) := ⟨rfl, rfl, rfl, by decide +kernel, rfl, by decide +kernel, by decide +kernel⟩
theorem ok_parent {f : Addr} {fd : FuncData} (F : Fun K "_law_parent" "_law_parent" (top 17) f fd) (T : Txt K mg C e) (hE : NoE CX) (D__law_whole : Def P w K mg base CX "_law_whole" 1 ["found"] spWhole) : FnOk P w K mg base CX 2 f fd ["found", "due"] spParent := by
  refine F.okN sc_parent (fun vs H Q E h => ?_) (fun cdv A outer s H vs Q E hr h => ?_)
  · obtain ⟨v, rfl, _⟩ := h; rfl
  · obtain ⟨v, rfl, hv, k⟩ := h
    refine ⟨_, (pss_cons (ps_if (pt_cmpR op_isN (pv 1) pe_non (nomark _)) (pss_one (ps_ret (pe_cmpR op_isN (pv 0) pe_non (nomark _)))) pss_nil)
      (pss_one (ps_ret (pe_and (pe_callD D__law_whole hE hr rfl (pa_cons (pv 0) pa_nil)) (pe_one (pe_cmpR op_eq (pv 0) (pv 1) (nomark _))))))), ?_⟩
    rcases hv with rfl | ⟨n, rfl⟩
    · refine ⟨_, rfl, rfl, _, rfl, iteD rfl ⟨_, rfl, rfl, ?_⟩⟩
      show Q (.bl (decide (V.non = V.non))) H
      rw [decide_eq_true rfl]; exact k
    · refine ⟨_, rfl, rfl, _, rfl, iteDn (by intro z; cases z) ?_⟩
      refine ⟨_, rfl, (n : Int), rfl, _, rfl, iteT ?_⟩
      refine ⟨_, rfl, _, rfl, rfl, ?_⟩
      show Q (.bl (decide (nat n = nat n))) H
      rw [decide_eq_true rfl]; exact k
end


--CUT
theorem pick_far (n : Nat) (hn : n ≤ 60) (y q : Int) (y0 : 0 ≤ y) (y9 : y < 9) (q0 : 0 ≤ q) (q4 : q < 4) : ∃ i : Int, atI [nat n, V.int (-1), V.int ((n : Int) + y), V.int (0 - 2 - y)] q = some (.int i) ∧ ¬ InC n i ∧ Sn i := by
  have p9 : (100 : Nat) < 10 ^ 9 := by decide
  have c : q = 0 ∨ q = 1 ∨ q = 2 ∨ q = 3 := by omega
  rcases c with rfl | rfl | rfl | rfl
  · exact ⟨(n : Int), rfl, fun z => by have := z.2; omega, log_small (by omega)⟩
  · exact ⟨-1, rfl, fun z => by have := z.1; omega, log_small (by decide)⟩
  · exact ⟨(n : Int) + y, rfl, fun z => by have := z.2; omega, log_small (by omega)⟩
  · exact ⟨0 - 2 - y, rfl, fun z => by have := z.1; omega, log_small (by omega)⟩
section
variable {P : Program} {w : World} {K : PySem.W.Frag} {mg : Str → Option Value} {base : Heap} {CX : CXT} {C : Addr} {e : Ad}
theorem sc_ill : FnScope ["book", "people", "cell", "size", "sex", "far", "other", "two", "one"] ["book", "people", "cell"] (defScope (top 16)) := ⟨rfl, rfl, rfl, by decide +kernel, rfl, by decide +kernel, by decide +kernel⟩
theorem ok_ill {f : Addr} {fd : FuncData} (F : Fun K "_law_ill" "_law_ill" (top 16) f fd) (T : Txt K mg C e) (hE : NoE (CXR P w)) (D__law_refused : Def P w K mg base (CXR P w) "_law_refused" 4 ["book", "way", "sex", "one", "other"] (spRefused9 e)) : FnOk P w K mg base (CXR P w) 5 f fd ["book", "people", "cell"] (spIll e) := by
  refine F.okN sc_ill (fun vs H Q E h => ?_) (fun cdv A outer s H vs Q E hr h => ?_)
  · obtain ⟨b, LP, fp, ts, bk, z, rfl, _⟩ := h; rfl
  · obtain ⟨b, LP, fp, ts, bk, z, rfl, BA, pe, k⟩ := h
    have nd := sc_ill.nd
    have hu := hr.units0
    have tl := pe.len
    have n60 := BA.ok.n60
    have p9 : (100 : Nat) < 10 ^ 9 := by decide
    refine ⟨_, (pss_cons (ps_set (i := 3) nd rfl (Or.inl rfl) (pe_callB call_len_seq rfl T.z_len PySem.boot_len (pa_cons (pv 1) pa_nil)))
      (pss_cons (ps_set (i := 4) nd rfl (Or.inl rfl) (pe_ix ix_list (pe_lst (pa_cons pe_str (pa_cons pe_str pa_nil))) (pe_op op_mod (pv 2) pe_int) (fun _ _ => rfl)))
      (pss_cons (ps_set (i := 5) nd rfl (Or.inl rfl) (pe_ix ix_list (pe_lst (pa_cons (pv 3) (pa_cons (pe_un un_neg pe_int) (pa_cons (pe_op op_add (pv 3) (pe_op op_mod (pe_op op_fdiv (pv 2) pe_int) pe_int)) (pa_cons (pe_op op_sub (pe_op op_sub pe_int pe_int) (pe_op op_mod (pe_op op_fdiv (pv 2) pe_int) pe_int)) pa_nil))))) (pe_op op_mod (pe_op op_fdiv (pv 2) pe_int) pe_int) (fun _ _ => rfl)))
      (pss_cons (ps_set (i := 6) nd rfl (Or.inl rfl) (pe_op op_mod (pe_op op_fdiv (pv 2) pe_int) (pe_callB (call_max2 rfl) rfl T.z_max bt_max (pa_cons pe_int (pa_cons (pv 3) pa_nil)))))
      (pss_cons (ps_if (PW.pt (pw_or (pt_cmpR op_eq (pv 3) pe_int (nomark _)) (pw_or1 (pt_cmpR op_eq (pe_op op_mod (pe_op op_fdiv (pv 2) pe_int) pe_int) pe_int (nomark _))))) (pss_cons (ps_set (i := 7) nd rfl (Or.inl rfl) (pe_ix ix_list (pe_lst (pa_cons (pe_tup (pa_cons (pv 5) (pa_cons (pv 6) pa_nil))) (pa_cons (pe_tup (pa_cons (pv 6) (pa_cons (pv 5) pa_nil))) (pa_cons (pe_tup (pa_cons (pv 5) (pa_cons (pv 5) pa_nil))) pa_nil)))) (pe_op op_mod (pe_op op_fdiv (pv 2) pe_int) pe_int) (fun _ _ => rfl)))
      (pss_one (ps_ret (pe_cmpR (op_eqL hu) (pe_callD D__law_refused hE hr rfl (pa_cons (pv 0) (pa_cons (pe_op op_mod (pe_op op_fdiv (pv 2) pe_int) pe_int) (pa_cons (pv 4) (pa_cons (pe_ix ix_tup (pv 7) pe_int (fun _ _ => rfl)) (pa_cons (pe_ix ix_tup (pv 7) pe_int (fun _ _ => rfl)) pa_nil)))))) (pe_lst (pa_cons pe_bl (pa_cons pe_bl (pa_cons pe_bl pa_nil)))) (nomark _))))) pss_nil)
      (pss_cons (ps_set (i := 8) nd rfl (Or.inl rfl) (pe_op op_mod (pe_op op_fdiv (pv 2) pe_int) (pv 3)))
      (pss_cons (ps_if (PW.pt (pw_and (pt_cmpR op_eq (pe_ix ix_tup (pe_ix ix_list (pv 1) (pv 8) (fun _ _ => rfl)) pe_int (fun _ _ => rfl)) pe_str (nomark _)) (pw_and1 (pt_cmpR op_eq (pe_ix ix_tup (pe_ix ix_list (pv 1) (pv 6) (fun _ _ => rfl)) pe_int (fun _ _ => rfl)) pe_str (nomark _))))) (pss_one (ps_ret (pe_cmpR (op_eqL hu) (pe_callD D__law_refused hE hr rfl (pa_cons (pv 0) (pa_cons (pe_op op_mod (pe_op op_fdiv (pv 2) pe_int) pe_int) (pa_cons (pv 4) (pa_cons (pv 6) (pa_cons (pv 8) pa_nil)))))) (pe_lst (pa_cons pe_bl (pa_cons pe_bl (pa_cons pe_bl pa_nil)))) (nomark _)))) pss_nil)
      (pss_one (ps_ret (pe_cmpR (op_eqL hu) (pe_callD D__law_refused hE hr rfl (pa_cons (pv 0) (pa_cons (pe_op op_mod (pe_op op_fdiv (pv 2) pe_int) pe_int) (pa_cons (pv 4) (pa_cons (pv 8) (pa_cons (pv 6) pa_nil)))))) (pe_lst (pa_cons pe_bl (pa_cons pe_bl (pa_cons pe_bl pa_nil)))) (nomark _))))))))))), ?_⟩
    refine ⟨_, rfl, LP, _, rfl, .inl (SqL.of pe.l), ?_⟩
    rw [List.length_map, tl]
    walk_at "ns"
    obtain ⟨sx, hsx⟩ := pick_sex (z % 2) (Int.emod_nonneg _ (by decide)) (Int.emod_lt_of_pos _ (by decide))
    refine ⟨(show 2 ≤ sizeLine by decide), fun L hL => ⟨_, rfl, _, _, rfl, rfl, (show (0 : Int) < 2 by decide), L, _, _, _, rfl, rfl, SqL.of upd_same, hsx, ?_⟩⟩
    have s1 := same_new (o := .lst [V.str "man", V.str "woman"]) hL
    generalize upd H L _ = H1 at s1
    walk_at "ns"
    -- far
    obtain ⟨far, hfar, nfar, sfar⟩ := pick_far bk.ps.length n60 (z / 8 % 9) (z / 2 % 4) (Int.emod_nonneg _ (by decide)) (Int.emod_lt_of_pos _ (by decide)) (Int.emod_nonneg _ (by decide)) (Int.emod_lt_of_pos _ (by decide))
    refine ⟨_, rfl, _, rfl, _, rfl, _, rfl, _, _, rfl, rfl, ⟨by decide, by decide⟩, _, _, rfl, rfl, (show (0 : Int) < 9 by decide), _, _, rfl, rfl, _, _, rfl, rfl, _, rfl, _, _, rfl, rfl, ⟨by decide, by decide⟩, _, _, rfl, rfl, (show (0 : Int) < 9 by decide), _, _, rfl, rfl, (show 4 ≤ sizeLine by decide), fun L2 hL2 => ⟨_, rfl, _, _, rfl, rfl, ⟨by decide, by decide⟩, _, _, rfl, rfl, (show (0 : Int) < 4 by decide), L2, _, _, _, rfl, rfl, SqL.of upd_same, hfar, ?_⟩⟩
    have s2' := same_new (o := .lst [nat bk.ps.length, V.int (-1), V.int ((bk.ps.length : Int) + z / 8 % 9), V.int (0 - 2 - z / 8 % 9)]) hL2
    have s2 := s1.trans s2'
    clear s2'
    generalize upd H1 L2 _ = H2 at s2
    walk_at "ns"
    -- other
    obtain ⟨ot, hot, lot⟩ : ∃ ot : Nat, z / 8 % (if (bk.ps.length : Int) > 1 then (bk.ps.length : Int) else 1) = (ot : Int) ∧ (bk.ps.length ≠ 0 → ot < bk.ps.length) ∧ ot < 60 := by
      by_cases c : (bk.ps.length : Int) > 1
      · rw [if_pos c]
        obtain ⟨q, h1, h2⟩ := emod_nat (z / 8) (show 0 < bk.ps.length by omega)
        exact ⟨q, h1, fun _ => h2, by omega⟩
      · rw [if_neg c]
        exact ⟨0, by omega, fun q => by omega, by decide⟩
    have sot : Sn (ot : Int) := log_small (by omega)
    have pm : (0 : Int) < (if (bk.ps.length : Int) > 1 then (bk.ps.length : Int) else 1) := by split <;> omega
    refine ⟨_, rfl, _, _, rfl, rfl, ⟨by decide, by decide⟩, _, rfl, _, _, rfl, _, _, rfl, rfl, pm, ?_⟩
    walk_at "ns"
    rw [hot]
    obtain ⟨wy, hwy, lwy⟩ : ∃ q : Nat, z / 5 % 2 = (q : Int) ∧ q < 2 := emod_nat (z / 5) (show 0 < 2 by decide)
    have w01 : wy = 0 ∨ wy = 1 := by omega
    have BA2 := BA.same s2
    have pe2 := pe.same s2
    refine ⟨_, rfl, rfl, _, rfl, iteD2 (fun _ => iteT ?_) (fun nz => ⟨_, rfl, _, _, rfl, rfl, ⟨by decide, by decide⟩, _, _, rfl, rfl, (show (0 : Int) < 2 by decide), rfl, _, rfl, iteD2 (fun _ => ?_) (fun _ => ?_)⟩)⟩
    ·
      -- two
      refine ⟨_, rfl, _, rfl, two_fits, fun t1 ht1 => ⟨_, rfl, _, rfl, two_fits, fun t2 ht2 => ⟨_, rfl, _, rfl, two_fits, fun t3 ht3 => ⟨(show 3 ≤ sizeLine by decide), fun L3 hL3 => ?_⟩⟩⟩⟩
      have a1 : (upd H2 t1 (.tup [.int far, nat ot])) t1 = some (.tup [.int far, nat ot]) := upd_same
      have r1 := same_new (o := .tup [.int far, nat ot]) ht1
      generalize upd H2 t1 (.tup [.int far, nat ot]) = G1 at a1 r1 ht2 ht3 hL3
      have a2 : (upd G1 t2 (.tup [nat ot, .int far])) t2 = some (.tup [nat ot, .int far]) := upd_same
      have r2 := same_new (o := .tup [nat ot, .int far]) ht2
      generalize upd G1 t2 (.tup [nat ot, .int far]) = G2 at a2 r2 ht3 hL3
      have a3 : (upd G2 t3 (.tup [.int far, .int far])) t3 = some (.tup [.int far, .int far]) := upd_same
      have r3 := same_new (o := .tup [.int far, .int far]) ht3
      generalize upd G2 t3 (.tup [.int far, .int far]) = G3 at a3 r3 hL3
      have r4 := same_new (o := .lst [.ref t1, .ref t2, .ref t3]) hL3
      have aL : (upd G3 L3 (.lst [.ref t1, .ref t2, .ref t3])) L3 = some (.lst [.ref t1, .ref t2, .ref t3]) := upd_same
      generalize upd G3 L3 (.lst [.ref t1, .ref t2, .ref t3]) = G4 at r4 aL
      have r14 := r1.trans (r2.trans (r3.trans r4))
      obtain ⟨t, x, y, hat, htt, nxy, sx', sy'⟩ : ∃ t x y, atI [V.ref t1, V.ref t2, V.ref t3] (z / 144 % 3) = some (.ref t) ∧ G4 t = some (.tup [.int x, .int y]) ∧ ¬ (InB bk x ∧ InB bk y) ∧ Sn x ∧ Sn y := by
        have c3 : z / 144 % 3 = 0 ∨ z / 144 % 3 = 1 ∨ z / 144 % 3 = 2 := by omega
        rcases c3 with c | c | c <;> rw [c]
        · exact ⟨t1, far, ot, rfl, r4 _ _ (r3 _ _ (r2 _ _ a1)), fun q => nfar q.1, sfar, sot⟩
        · exact ⟨t2, ot, far, rfl, r4 _ _ (r3 _ _ a2), fun q => nfar q.2, sot, sfar⟩
        · exact ⟨t3, far, far, rfl, r4 _ _ a3, fun q => nfar q.1, sfar, sfar⟩
      refine ⟨_, rfl, _, _, rfl, rfl, ⟨by decide, by decide⟩, _, _, rfl, rfl, (show (0 : Int) < 3 by decide),  L3, _, _, _, rfl, rfl, SqL.of aL, hat, ?_⟩
      walk_at "ns"
      refine ⟨_, rfl, _, rfl, _, _, rfl, rfl, ⟨by decide, by decide⟩, _, _, rfl, rfl, (show (0 : Int) < 2 by decide), _, rfl, _, rfl, t, _, 0, _, rfl, rfl, SqT.of htt, rfl, _, rfl, t, _, 1, _, rfl, rfl, SqT.of htt, rfl, b, fp, bk, wy, sx, x, y, .person, by show [V.ref b, V.int (z / 5 % 2), sexV sx, V.int x, V.int y] = _; rw [hwy], BA2.same r14, sx', sy', .inl ⟨w01, nxy⟩, fun D G5 hD r5 hl5 => ?_⟩
      refine ⟨(show 3 ≤ sizeLine by decide), fun M hM => ⟨D, M, _, _, rfl, rfl, SqL.of (same_new hM _ _ hl5), SqL.of upd_same, rfl, rfl, ?_⟩⟩
      exact k _ (s2.trans (r14.trans (r5.trans (same_new hM))))
    ·
      -- two
      refine ⟨_, rfl, _, rfl, two_fits, fun t1 ht1 => ⟨_, rfl, _, rfl, two_fits, fun t2 ht2 => ⟨_, rfl, _, rfl, two_fits, fun t3 ht3 => ⟨(show 3 ≤ sizeLine by decide), fun L3 hL3 => ?_⟩⟩⟩⟩
      have a1 : (upd H2 t1 (.tup [.int far, nat ot])) t1 = some (.tup [.int far, nat ot]) := upd_same
      have r1 := same_new (o := .tup [.int far, nat ot]) ht1
      generalize upd H2 t1 (.tup [.int far, nat ot]) = G1 at a1 r1 ht2 ht3 hL3
      have a2 : (upd G1 t2 (.tup [nat ot, .int far])) t2 = some (.tup [nat ot, .int far]) := upd_same
      have r2 := same_new (o := .tup [nat ot, .int far]) ht2
      generalize upd G1 t2 (.tup [nat ot, .int far]) = G2 at a2 r2 ht3 hL3
      have a3 : (upd G2 t3 (.tup [.int far, .int far])) t3 = some (.tup [.int far, .int far]) := upd_same
      have r3 := same_new (o := .tup [.int far, .int far]) ht3
      generalize upd G2 t3 (.tup [.int far, .int far]) = G3 at a3 r3 hL3
      have r4 := same_new (o := .lst [.ref t1, .ref t2, .ref t3]) hL3
      have aL : (upd G3 L3 (.lst [.ref t1, .ref t2, .ref t3])) L3 = some (.lst [.ref t1, .ref t2, .ref t3]) := upd_same
      generalize upd G3 L3 (.lst [.ref t1, .ref t2, .ref t3]) = G4 at r4 aL
      have r14 := r1.trans (r2.trans (r3.trans r4))
      obtain ⟨t, x, y, hat, htt, nxy, sx', sy'⟩ : ∃ t x y, atI [V.ref t1, V.ref t2, V.ref t3] (z / 144 % 3) = some (.ref t) ∧ G4 t = some (.tup [.int x, .int y]) ∧ ¬ (InB bk x ∧ InB bk y) ∧ Sn x ∧ Sn y := by
        have c3 : z / 144 % 3 = 0 ∨ z / 144 % 3 = 1 ∨ z / 144 % 3 = 2 := by omega
        rcases c3 with c | c | c <;> rw [c]
        · exact ⟨t1, far, ot, rfl, r4 _ _ (r3 _ _ (r2 _ _ a1)), fun q => nfar q.1, sfar, sot⟩
        · exact ⟨t2, ot, far, rfl, r4 _ _ (r3 _ _ a2), fun q => nfar q.2, sot, sfar⟩
        · exact ⟨t3, far, far, rfl, r4 _ _ a3, fun q => nfar q.1, sfar, sfar⟩
      refine ⟨_, rfl, _, _, rfl, rfl, ⟨by decide, by decide⟩, _, _, rfl, rfl, (show (0 : Int) < 3 by decide),  L3, _, _, _, rfl, rfl, SqL.of aL, hat, ?_⟩
      walk_at "ns"
      refine ⟨_, rfl, _, rfl, _, _, rfl, rfl, ⟨by decide, by decide⟩, _, _, rfl, rfl, (show (0 : Int) < 2 by decide), _, rfl, _, rfl, t, _, 0, _, rfl, rfl, SqT.of htt, rfl, _, rfl, t, _, 1, _, rfl, rfl, SqT.of htt, rfl, b, fp, bk, wy, sx, x, y, .person, by show [V.ref b, V.int (z / 5 % 2), sexV sx, V.int x, V.int y] = _; rw [hwy], BA2.same r14, sx', sy', .inl ⟨w01, nxy⟩, fun D G5 hD r5 hl5 => ?_⟩
      refine ⟨(show 3 ≤ sizeLine by decide), fun M hM => ⟨D, M, _, _, rfl, rfl, SqL.of (same_new hM _ _ hl5), SqL.of upd_same, rfl, rfl, ?_⟩⟩
      exact k _ (s2.trans (r14.trans (r5.trans (same_new hM))))
    · -- two persons of the book
      have n0 : bk.ps.length ≠ 0 := fun q => nz (by show nat _ = V.int 0; rw [q]; rfl)
      obtain ⟨on, hon, lon⟩ := emod_nat (z / 11) (show 0 < bk.ps.length by omega)
      have lot' := lot.1 n0
      refine ⟨_, rfl, _, _, rfl, rfl, ⟨by decide, by decide⟩, _, rfl, _, _, rfl, rfl, (show (0 : Int) < (bk.ps.length : Int) by omega), ?_⟩
      have hon' : z / 11 % (bk.ps.length : Int) = (on : Int) := hon
      walk_at "ns"
      rw [hon']
      obtain ⟨t1, x1, _, hx1, at1, g1⟩ := men_at pe2 lon
      obtain ⟨t2, x2, _, hx2, at2, g2⟩ := men_at pe2 lot'
      have ion : InB bk (on : Int) := ⟨by omega, by omega⟩
      have iot : InB bk (ot : Int) := ⟨by omega, by omega⟩
      have son : Sn (on : Int) := log_small (by omega)
      have one : ¬ Cpl bk (on : Int) (ot : Int) → ∀ (R : V → Hp → Prop), True := fun _ _ => trivial
      refine ⟨_, rfl, _, rfl, LP, _, _, _, rfl, rfl, SqL.of pe2.l, at1, t1, _, 0, _, rfl, rfl, SqT.of g1, rfl, rfl, _, rfl, ?_⟩
      show if decide (sexV x1.1 = V.str "man") = true then _ else _
      rw [sex_man]
      have other : ¬ (x1.1 = true ∧ x2.1 = false) → ¬ Cpl bk (on : Int) (ot : Int) := fun no ⟨m, f', em, ef, h1, h2⟩ => by
        have := Int.ofNat.inj em
        have := Int.ofNat.inj ef
        subst m f'
        exact no ⟨(h1.uniq ⟨x1, hx1, rfl⟩).symm, (h2.uniq ⟨x2, hx2, rfl⟩).symm⟩
      have swap : x1.1 = true → ¬ Cpl bk (ot : Int) (on : Int) := fun y ⟨m, f', em, ef, h1, h2⟩ => by
        have := Int.ofNat.inj ef
        subst f'
        have := h2.uniq ⟨x1, hx1, y⟩
        cases this
      cases c1 : x1.1
      · refine iteF (iteF ?_)
        refine ⟨_, rfl, _, rfl, _, _, rfl, rfl, ⟨by decide, by decide⟩, _, _, rfl, rfl, (show (0 : Int) < 2 by decide), _, rfl, _, rfl, _, rfl, b, fp, bk, wy, sx, (on : Int), (ot : Int), .parents, by show [V.ref b, V.int (z / 5 % 2), sexV sx, nat on, nat ot] = _; rw [hwy], BA2, son, sot, ⟨w01, ion, iot, (other (by rw [c1]; rintro ⟨y, _⟩; cases y))⟩, fun D G5 hD r5 hl5 => ?_⟩
        refine ⟨(show 3 ≤ sizeLine by decide), fun M hM => ⟨D, M, _, _, rfl, rfl, SqL.of (same_new hM _ _ hl5), SqL.of upd_same, rfl, rfl, ?_⟩⟩
        exact k _ (s2.trans (r5.trans (same_new hM)))
      · refine iteT ?_
        refine ⟨_, rfl, _, rfl, LP, _, _, _, rfl, rfl, SqL.of pe2.l, at2, t2, _, 0, _, rfl, rfl, SqT.of g2, rfl, rfl, _, rfl, ?_⟩
        show if decide (sexV x2.1 = V.str "woman") = true then _ else _
        rw [sex_woman]
        cases c2 : x2.1
        · refine iteT ?_
          refine ⟨_, rfl, _, rfl, _, _, rfl, rfl, ⟨by decide, by decide⟩, _, _, rfl, rfl, (show (0 : Int) < 2 by decide), _, rfl, _, rfl, _, rfl, b, fp, bk, wy, sx, (ot : Int), (on : Int), .parents, by show [V.ref b, V.int (z / 5 % 2), sexV sx, nat ot, nat on] = _; rw [hwy], BA2, sot, son, ⟨w01, iot, ion, (swap c1)⟩, fun D G5 hD r5 hl5 => ?_⟩
          refine ⟨(show 3 ≤ sizeLine by decide), fun M hM => ⟨D, M, _, _, rfl, rfl, SqL.of (same_new hM _ _ hl5), SqL.of upd_same, rfl, rfl, ?_⟩⟩
          exact k _ (s2.trans (r5.trans (same_new hM)))
        · refine iteF ?_
          refine ⟨_, rfl, _, rfl, _, _, rfl, rfl, ⟨by decide, by decide⟩, _, _, rfl, rfl, (show (0 : Int) < 2 by decide), _, rfl, _, rfl, _, rfl, b, fp, bk, wy, sx, (on : Int), (ot : Int), .parents, by show [V.ref b, V.int (z / 5 % 2), sexV sx, nat on, nat ot] = _; rw [hwy], BA2, son, sot, ⟨w01, ion, iot, (other (by rw [c2]; rintro ⟨_, y⟩; cases y))⟩, fun D G5 hD r5 hl5 => ?_⟩
          refine ⟨(show 3 ≤ sizeLine by decide), fun M hM => ⟨D, M, _, _, rfl, rfl, SqL.of (same_new hM _ _ hl5), SqL.of upd_same, rfl, rfl, ?_⟩⟩
          exact k _ (s2.trans (r5.trans (same_new hM)))
end


--CUT
def spTold (e : Ad) : Sp := fun vs H Q _ => ∃ (b LP LR : Addr) (fp ts us : List Addr) (bk : Bk), vs = [.ref b, .ref LP, .ref LR] ∧ Acc e.Book H b LP LR fp ts us bk ∧ ∀ H', Same H H' → Q (.bl true) H'
theorem filter_idx {α β : Type} (xs : List α) (p : α → Bool) (f : α → β) (p' : Nat → Bool) (f' : Nat → β) (h : ∀ (i : Nat) x, xs[i]? = some x → p' i = p x ∧ f' i = f x) : ((List.range xs.length).filter p').map f' = (xs.filter p).map f := by
  induction xs generalizing p' f' with
  | nil => rfl
  | cons x xs ih =>
    rw [List.length_cons, List.range_succ_eq_map, List.filter_cons, List.filter_cons]
    obtain ⟨h1, h2⟩ := h 0 x rfl
    have ih := ih (p' ∘ Nat.succ) (f' ∘ Nat.succ) fun i y hy => h (i + 1) y (by simpa using hy)
    rw [List.filter_map, h1]
    cases p x
    · simp only [Bool.false_eq_true, if_false]
      rw [List.map_map]
      exact ih
    · simp only [if_true, List.map_cons, h2]
      rw [List.map_map]
      congr 1
section
variable {P : Program} {w : World} {K : PySem.W.Frag} {mg : Str → Option Value} {base : Heap} {CX : CXT} {C : Addr} {e : Ad}
theorem sc_told : FnScope ["book", "people", "pairs", "a", "mates", "young"] ["book", "people", "pairs"] (defScope (top 18)) := ⟨rfl, rfl, rfl, by decide +kernel, rfl, by decide +kernel, by decide +kernel⟩
theorem ok_told {f : Addr} {fd : FuncData} (F : Fun K "_law_told" "_law_told" (top 18) f fd) (T : Txt K mg C e) (hE : NoE (CXR P w)) (D_size : MDef P w K mg base (CXR P w) e.Book "size" 1 ["self"] (spSizeB e)) (D_sex_of : MDef P w K mg base (CXR P w) e.Book "sex_of" 2 ["self", "a"] (spSexOf e)) (D_father : MDef P w K mg base (CXR P w) e.Book "father" 2 ["self", "a"] (spFatherB e)) (D_mother : MDef P w K mg base (CXR P w) e.Book "mother" 2 ["self", "a"] (spMotherB e)) (D_partners : MDef P w K mg base (CXR P w) e.Book "partners" 2 ["self", "a"] (spPartnersB e)) (D_children : MDef P w K mg base (CXR P w) e.Book "children" 2 ["self", "a"] (spChildrenB e)) (D__law_whole : Def P w K mg base (CXR P w) "_law_whole" 1 ["found"] spWhole) (D__law_parent : Def P w K mg base (CXR P w) "_law_parent" 2 ["found", "due"] spParent) (D__law_same_numbers : Def P w K mg base (CXR P w) "_law_same_numbers" 2 ["found", "due"] spSameN) : FnOk P w K mg base (CXR P w) 3 f fd ["book", "people", "pairs"] (spTold e) := by
  refine F.okN sc_told (fun vs H Q E h => ?_) (fun cdv A outer s H vs Q E hr h => ?_)
  · obtain ⟨b, LP, LR, fp, ts, us, bk, rfl, _⟩ := h; rfl
  · obtain ⟨b, LP, LR, fp, ts, us, bk, rfl, ac, k⟩ := h
    have nd := sc_told.nd
    have tl := ac.pe.len
    have ul := ac.pa.len
    have ok := ac.bo.ok
    have n60 := ok.n60
    have pl := ok.pl
    have big : 4000 ≤ sizeLine := by decide
    have p9 : (100 : Nat) < 10 ^ 9 := by decide
    refine ⟨_, (pss_cons (ps_for PassesOwn.never rfl (pi_range1 rfl T.z_range (pa_cons (pe_callB call_len_seq rfl T.z_len PySem.boot_len (pa_cons (pv 1) pa_nil)) pa_nil)) (pg_name (i := 3) nd rfl (Or.inr rfl)) (pss_cons (ps_set (i := 4) nd rfl (Or.inl rfl) (pe_op op_cat (pe_compF (fv := [("a", 3)]) ⟨rfl, by decide +kernel, rfl, by decide +kernel, rfl, by decide +kernel, ⟨⟨rfl, Or.inl rfl, Or.inl rfl, rfl⟩, trivial⟩, rfl, rfl⟩ rfl (pi_list (pv 2)) (fun _ _ _ => (pe_ix ix_tup (pv 0) pe_int (fun _ _ => rfl))) (fun _ _ _ => (pt_cmpR op_eq (pe_ix ix_tup (pv 0) pe_int (fun _ _ => rfl)) (pv 1) (nomark _)))) (pe_compF (fv := [("a", 3)]) ⟨rfl, by decide +kernel, rfl, by decide +kernel, rfl, by decide +kernel, ⟨⟨rfl, Or.inl rfl, Or.inl rfl, rfl⟩, trivial⟩, rfl, rfl⟩ rfl (pi_list (pv 2)) (fun _ _ _ => (pe_ix ix_tup (pv 0) pe_int (fun _ _ => rfl))) (fun _ _ _ => (pt_cmpR op_eq (pe_ix ix_tup (pv 0) pe_int (fun _ _ => rfl)) (pv 1) (nomark _))))))
      (pss_cons (ps_setCompF (i := 5) nd rfl (Or.inl rfl) (fv := [("a", 3), ("people", 1)]) ⟨rfl, by decide +kernel, rfl, by decide +kernel, rfl, by decide +kernel, ⟨⟨rfl, Or.inl rfl, Or.inl rfl, rfl⟩, ⟨⟨rfl, Or.inl rfl, Or.inl rfl, rfl⟩, trivial⟩⟩, rfl, rfl⟩ rfl (pi_range1 rfl T.z_range (pa_cons (pe_callB call_len_seq rfl T.z_len PySem.boot_len (pa_cons (pv 1) pa_nil)) pa_nil)) (fun _ _ _ => (pv 0)) (fun _ _ _ => (pt_cmpR op_in_seq (pv 1) (pe_slice sl_tup (pe_ix ix_list (pv 2) (pv 0) (fun _ _ => rfl)) (po_some pe_int) po_none) (by with_unfolding_all rfl))))
      (pss_cons (ps_if (PW.pt (pw_or (pt_cmpR op_ne (pe_methD (pv 0) T.cl_Book D_sex_of hE hr (pa_cons (pv 3) pa_nil)) (pe_ix ix_tup (pe_ix ix_list (pv 1) (pv 3) (fun _ _ => rfl)) pe_int (fun _ _ => rfl)) (nomark _)) (pw_or1 (pt_not (pt_val (pe_callD D__law_parent hE hr rfl (pa_cons (pe_methD (pv 0) T.cl_Book D_father hE hr (pa_cons (pv 3) pa_nil)) (pa_cons (pe_ix ix_tup (pe_ix ix_list (pv 1) (pv 3) (fun _ _ => rfl)) pe_int (fun _ _ => rfl)) pa_nil)))))))) (pss_one (ps_ret pe_bl)) pss_nil)
      (pss_cons (ps_if (PW.pt (pw_or (pt_not (pt_val (pe_callD D__law_parent hE hr rfl (pa_cons (pe_methD (pv 0) T.cl_Book D_mother hE hr (pa_cons (pv 3) pa_nil)) (pa_cons (pe_ix ix_tup (pe_ix ix_list (pv 1) (pv 3) (fun _ _ => rfl)) pe_int (fun _ _ => rfl)) pa_nil))))) (pw_or1 (pt_not (pt_val (pe_callD D__law_same_numbers hE hr rfl (pa_cons (pe_methD (pv 0) T.cl_Book D_children hE hr (pa_cons (pv 3) pa_nil)) (pa_cons (pv 5) pa_nil)))))))) (pss_one (ps_ret pe_bl)) pss_nil)
      (pss_cons (ps_if (pt_not (pt_val (pe_callD D__law_same_numbers hE hr rfl (pa_cons (pe_methD (pv 0) T.cl_Book D_partners hE hr (pa_cons (pv 3) pa_nil)) (pa_cons (pe_callB call_sorted rfl T.z_sorted bt_sorted (pa_cons (pv 4) pa_nil)) pa_nil))))) (pss_one (ps_ret pe_bl)) pss_nil)
      (pss_cons (ps_expr (pe_bm PySem.F.plainAttrs_list PySem.F.slot_list_append PySem.F.type_list_append mt_append (pe_methD (pv 0) T.cl_Book D_partners hE hr (pa_cons (pv 3) pa_nil)) (pa_cons (pv 3) pa_nil)))
      (pss_one (ps_expr (pe_bm0 PySem.F.plainAttrs_list PySem.F.slot_list_clear PySem.F.type_list_clear mt_clear (pe_methD (pv 0) T.cl_Book D_children hE hr (pa_cons (pv 3) pa_nil))))))))))))
      (pss_one (ps_ret (pe_and (pe_callD D__law_whole hE hr rfl (pa_cons (pe_methD0 (pv 0) T.cl_Book D_size hE hr) pa_nil)) (pe_one (pe_cmpR op_eq (pe_methD0 (pv 0) T.cl_Book D_size hE hr) (pe_callB call_len_seq rfl T.z_len PySem.boot_len (pa_cons (pv 1) pa_nil)) (nomark _))))))), ?_⟩
    refine ⟨_, rfl, LP, _, rfl, .inl (SqL.of ac.pe.l), _, rfl, by rw [List.length_map, tl]; omega, by rw [List.length_map, tl]; omega, ?_⟩
    rw [List.length_map, tl, Int.toNat_natCast]
    refine for_range0 (fun i σ H2 => (∃ o1 o2 o3, σ = [some (.ref b), some (.ref LP), some (.ref LR), o1, o2, o3]) ∧ Same H H2) ⟨⟨none, none, none, rfl⟩, Same.refl _⟩ ?_ ?_
    · rintro i σ H2 hi ⟨⟨o1, o2, o3, rfl⟩, s2⟩
      have ac2 := ac.same s2
      obtain ⟨dx, a1, b1, c1, d1, qs1, hfp1, e1, _⟩ := id ac2.bo.ob
      have sni : Sn (i : Int) := log_small (by show ((i : Nat) : Int).natAbs < 10 ^ 9; omega)
      have ini : InB bk (i : Int) := ⟨by omega, by omega⟩
      obtain ⟨x, hx⟩ : ∃ x, bk.ps[i]? = some x := ⟨_, List.getElem?_eq_getElem hi⟩
      have hxu : ∀ y, bk.ps[((i : Nat) : Int).toNat]? = some y → y = x := fun y hy => by rw [Int.toNat_natCast, hx] at hy; exact (Option.some.inj hy).symm
      walk_at "ns"
      -- mates
      refine ⟨_, rfl, LR, rfl, ⟨_, SqL.of ac2.pa.l⟩, ?_⟩
      refine comp_listF (fun j => match bk.prs[j]? with
        | some q => decide (q.1 = i)
        | none => false) (fun j => match bk.prs[j]? with
        | some q => nat q.2
        | none => .non) (SqL.of ac2.pa.l) (by rw [List.length_map, ul]; omega) (fun j v H' R hj sm kk _ _ _ => ?_) (fun j v H' R hj pj sm kk _ _ _ => ?_) fun D1 H3 hD1 s3 hl3 => ?_
      · rw [List.getElem?_map] at hj
        obtain ⟨t, ht, rfl⟩ := Option.map_eq_some_iff.mp hj
        have jl : j < bk.prs.length := by rw [← ul]; exact (List.getElem?_eq_some_iff.mp ht).1
        obtain ⟨t', ht', g⟩ := (ac2.same sm).pa.at_ (List.getElem?_eq_getElem jl)
        rw [ht] at ht'
        cases Option.some.inj ht'
        rw [List.getElem?_eq_getElem jl] at kk
        refine ⟨_, rfl, t, _, 0, _, rfl, rfl, SqT.of g, rfl, _, rfl, rfl, _, rfl, ?_⟩
        show R (decide (nat bk.prs[j].1 = nat i)) H'
        have : decide (nat bk.prs[j].1 = nat i) = decide (bk.prs[j].1 = i) := by
          by_cases q : bk.prs[j].1 = i
          · rw [decide_eq_true q, decide_eq_true (by rw [q])]
          · rw [decide_eq_false q, decide_eq_false (fun z => q (by have := V.int.inj z; omega))]
        rw [this]; exact kk _ (Same.refl _)
      · rw [List.getElem?_map] at hj
        obtain ⟨t, ht, rfl⟩ := Option.map_eq_some_iff.mp hj
        have jl : j < bk.prs.length := by rw [← ul]; exact (List.getElem?_eq_some_iff.mp ht).1
        obtain ⟨t', ht', g⟩ := (ac2.same sm).pa.at_ (List.getElem?_eq_getElem jl)
        rw [ht] at ht'
        cases Option.some.inj ht'
        rw [List.getElem?_eq_getElem jl] at kk
        exact ⟨_, rfl, t, _, 1, _, rfl, rfl, SqT.of g, rfl, kk _ (Same.refl _)⟩
      have ac3 := ac2.same s3
      refine ⟨_, rfl, LR, rfl, ⟨_, SqL.of ac3.pa.l⟩, ?_⟩
      refine comp_listF (fun j => match bk.prs[j]? with
        | some q => decide (q.2 = i)
        | none => false) (fun j => match bk.prs[j]? with
        | some q => nat q.1
        | none => .non) (SqL.of ac3.pa.l) (by rw [List.length_map, ul]; omega) (fun j v H' R hj sm kk _ _ _ => ?_) (fun j v H' R hj pj sm kk _ _ _ => ?_) fun D2 H4 hD2 s4 hl4 => ?_
      · rw [List.getElem?_map] at hj
        obtain ⟨t, ht, rfl⟩ := Option.map_eq_some_iff.mp hj
        have jl : j < bk.prs.length := by rw [← ul]; exact (List.getElem?_eq_some_iff.mp ht).1
        obtain ⟨t', ht', g⟩ := (ac3.same sm).pa.at_ (List.getElem?_eq_getElem jl)
        rw [ht] at ht'
        cases Option.some.inj ht'
        rw [List.getElem?_eq_getElem jl] at kk
        refine ⟨_, rfl, t, _, 1, _, rfl, rfl, SqT.of g, rfl, _, rfl, rfl, _, rfl, ?_⟩
        show R (decide (nat bk.prs[j].2 = nat i)) H'
        have : decide (nat bk.prs[j].2 = nat i) = decide (bk.prs[j].2 = i) := by
          by_cases q : bk.prs[j].2 = i
          · rw [decide_eq_true q, decide_eq_true (by rw [q])]
          · rw [decide_eq_false q, decide_eq_false (fun z => q (by have := V.int.inj z; omega))]
        rw [this]; exact kk _ (Same.refl _)
      · rw [List.getElem?_map] at hj
        obtain ⟨t, ht, rfl⟩ := Option.map_eq_some_iff.mp hj
        have jl : j < bk.prs.length := by rw [← ul]; exact (List.getElem?_eq_some_iff.mp ht).1
        obtain ⟨t', ht', g⟩ := (ac3.same sm).pa.at_ (List.getElem?_eq_getElem jl)
        rw [ht] at ht'
        cases Option.some.inj ht'
        rw [List.getElem?_eq_getElem jl] at kk
        exact ⟨_, rfl, t, _, 0, _, rfl, rfl, SqT.of g, rfl, kk _ (Same.refl _)⟩
      rw [List.length_map, ul, filter_idx bk.prs (fun q => decide (q.1 = i)) (fun q => nat q.2) _ _ (fun j q hq => by rw [hq]; exact ⟨rfl, rfl⟩)] at hl3
      rw [List.length_map, ul, filter_idx bk.prs (fun q => decide (q.2 = i)) (fun q => nat q.1) _ _ (fun j q hq => by rw [hq]; exact ⟨rfl, rfl⟩)] at hl4
      have f1 := List.length_filter_le (fun q : Nat × Nat => decide (q.1 = i)) bk.prs
      have f2 := List.length_filter_le (fun q : Nat × Nat => decide (q.2 = i)) bk.prs
      refine ⟨D1, D2, _, _, rfl, rfl, s4 _ _ hl3, hl4, by rw [List.length_map, List.length_map]; omega, fun M hM => ?_⟩
      have em : (bk.prs.filter fun q => decide (q.1 = i)).map (fun q => nat q.2) ++ (bk.prs.filter fun q => decide (q.2 = i)).map (fun q => nat q.1) = natL (mates bk.prs i) := by
        unfold mates natL
        rw [List.map_append, List.map_map, List.map_map]
        rfl
      rw [em]
      have s5 := same_new (o := .lst (natL (mates bk.prs i))) hM
      have gM : (upd H4 M (.lst (natL (mates bk.prs i)))) M = some (.lst (natL (mates bk.prs i))) := upd_same
      generalize upd H4 M (.lst (natL (mates bk.prs i))) = H5 at s5 gM
      have s25 := s3.trans (s4.trans s5)
      have ac5 := ac2.same s25
      walk_at "ns"
      -- young
      refine ⟨_, rfl, LP, _, rfl, .inl (SqL.of ac5.pe.l), _, rfl, by rw [List.length_map, tl]; omega, by rw [List.length_map, tl]; omega, ?_⟩
      rw [List.length_map, tl, Int.toNat_natCast]
      refine comp_rangeF0 (fun j => match bk.ps[j]? with
        | some x => inV (nat i) [faV x, moV x]
        | none => false) nat (Nat.le_trans n60 (by decide)) (fun j H' R hj sm kk _ _ _ => ?_) (fun j H' R hj pj sm kk _ _ _ => ⟨_, rfl, kk _ (Same.refl _)⟩) fun Y H6 hY s6 hl6 => ?_
      · obtain ⟨t, y, _, hy, at1, g1⟩ := men_at (ac5.same sm).pe hj
        rw [hy] at kk
        refine ⟨_, rfl, _, rfl, _, rfl, LP, _, _, _, rfl, rfl, SqL.of (ac5.same sm).pe.l, at1, _, rfl, t, _, rfl, SqT.of g1, fun z => absurd (show HT.sIx 3 0 (some 1) = 0 from z.1) (by decide), fun t2 ht2 => ?_⟩
        refine ⟨t2, _, rfl, .inr (SqT.of upd_same), rfl, ?_, _, rfl, kk _ (same_new ht2)⟩
        show (flatV (faV y) && (flatV (moV y) && true)) = true
        rw [fa_flat, mo_flat]; rfl
      have hY6 : H6 Y = some (.lst (natL (kids bk i))) := hl6
      have ac6 := ac5.same s6
      obtain ⟨t, x', ht0, hx', at1, g1⟩ := men_at ac6.pe hi
      rw [hx] at hx'
      cases Option.some.inj hx'
      have fao : faV x = .non ∨ ∃ n : Nat, faV x = nat n := by unfold faV; cases x.2 with
        | none => exact .inl rfl
        | some q => exact .inr ⟨q.1, rfl⟩
      have moo : moV x = .non ∨ ∃ n : Nat, moV x = nat n := by unfold moV; cases x.2 with
        | none => exact .inl rfl
        | some q => exact .inr ⟨q.2, rfl⟩
      have e16 := (s25.trans s6) _ _ e1
      walk_at "ns"
      refine ⟨_, rfl, b, dx, _, rfl, e16, bno .., _, rfl, b, fp, bk, (i : Int), rfl, ac6.bo, sni, fun _ v hv => ?_, fun z => absurd ini z⟩
      obtain ⟨y, hy, rfl⟩ := hv
      cases hxu y hy
      refine ⟨_, rfl, _, rfl, LP, _, _, _, rfl, rfl, SqL.of ac6.pe.l, at1, t, _, 0, _, rfl, rfl, SqT.of g1, rfl, rfl, _, rfl, ?_⟩
      show if (!decide (sexV x.1 = sexV x.1)) = true then _ else _
      rw [decide_eq_true rfl]
      refine iteF ?_
      refine ⟨_, rfl, b, dx, _, rfl, e16, bno .., _, rfl, b, fp, bk, (i : Int), rfl, ac6.bo, sni, fun _ v hv => ?_, fun z => absurd ini z⟩
      obtain ⟨y', hy', rfl⟩ := hv
      cases hxu y' hy'
      refine ⟨_, rfl, _, rfl, LP, _, _, _, rfl, rfl, SqL.of ac6.pe.l, at1, t, _, 1, _, rfl, rfl, SqT.of g1, rfl, _, rfl, fao, _, rfl, iteF ?_⟩
      -- mother, children
      refine ⟨_, rfl, b, dx, _, rfl, e16, bno .., _, rfl, b, fp, bk, (i : Int), rfl, ac6.bo, sni, fun _ v hv => ?_, fun z => absurd ini z⟩
      obtain ⟨y'', hy'', rfl⟩ := hv
      cases hxu y'' hy''
      refine ⟨_, rfl, _, rfl, LP, _, _, _, rfl, rfl, SqL.of ac6.pe.l, at1, t, _, 2, _, rfl, rfl, SqT.of g1, rfl, _, rfl, moo, _, rfl, iteF ?_⟩
      refine ⟨_, rfl, b, dx, _, rfl, e16, bno .., _, rfl, b, fp, bk, (i : Int), rfl, ac6.bo, sni, fun _ l D H7 hR hD s7 hl7 => ?_, fun z => absurd ini z⟩
      rw [Int.toNat_natCast] at hR
      subst hR
      have kl : (kids bk i).length ≤ 1000 := by
        have := List.length_filter_le (fun i_1 => match bk.ps[i_1]? with
          | some x => inV (nat i) [faV x, moV x]
          | none => false) (List.range bk.ps.length)
        rw [List.length_range] at this
        exact Nat.le_trans this (by omega)
      refine ⟨_, rfl, D, Y, _, _, rfl, by rw [← natL_int]; exact hl7, by rw [← natL_int]; exact s7 _ _ hY6, by rw [List.length_map]; exact kl, _, rfl, ?_⟩
      rw [decide_eq_true rfl]
      refine iteF ?_
      -- partners
      have ac7 := ac6.same s7
      refine ⟨_, rfl, b, dx, _, rfl, s7 _ _ e16, bno .., _, rfl, b, fp, bk, (i : Int), rfl, ac7.bo, sni, fun _ l D7 H8 hR hD7 s8 hl8 => ?_, fun z => absurd ini z⟩
      rw [Int.toNat_natCast] at hR
      have m60 := mates_60 ok i
      refine ⟨_, rfl, M, _, rfl, SqL.of (by rw [← natL_int]; exact s8 _ _ (s7 _ _ (s6 _ _ gM))), by rw [List.length_map]; omega, fun l2 ns hl2 hp hs => ?_⟩
      obtain ⟨r, er, pr, sr⟩ := toNats hp hs
      have lr : r = l := sorted_uniqN (pr.trans hR.1.symm) sr hR.2
      subst lr
      rw [er]
      have s9 := same_new (o := .lst (natL r)) hl2
      have g9 : (upd H8 l2 (.lst (natL r))) l2 = some (.lst (natL r)) := upd_same
      generalize upd H8 l2 (.lst (natL r)) = H9 at s9 g9
      have lr60 : r.length ≤ 60 := by rw [pr.length_eq]; exact m60
      refine ⟨D7, l2, _, _, rfl, by rw [← natL_int]; exact s9 _ _ hl8, by rw [← natL_int]; exact g9, by rw [List.length_map]; omega, _, rfl, ?_⟩
      rw [decide_eq_true rfl]
      refine iteF ?_
      have ac9 := ac7.same (s8.trans s9)
      have e19 := (s8.trans s9) _ _ (s7 _ _ e16)
      refine ⟨_, rfl, b, dx, _, rfl, e19, bno .., _, rfl, b, fp, bk, (i : Int), rfl, ac9.bo, sni, fun _ l D9 H10 hR2 hD9 s10 hl10 => ?_, fun z => absurd ini z⟩
      rw [Int.toNat_natCast] at hR2
      have ll : l.length ≤ 60 := by rw [hR2.1.length_eq]; exact m60
      refine ⟨.inl ⟨rfl, _, SqL.of hl10⟩, _, rfl, D9, _, _, rfl, rfl, hl10, by rw [natL_len]; omega, ?_⟩
      generalize hH11 : upd H10 D9 _ = H11
      have s11 : Same H9 H11 := by rw [← hH11]; exact same_upd s10 hD9
      clear hH11
      refine ⟨_, rfl, b, dx, _, rfl, s11 _ _ e19, bno .., _, rfl, b, fp, bk, (i : Int), rfl, (ac9.same s11).bo, sni, fun _ l D11 H12 hR3 hD11 s12 hl12 => ?_, fun z => absurd ini z⟩
      refine ⟨.inl ⟨rfl, _, SqL.of hl12⟩, D11, _, rfl, rfl, hl12, ⟨_, _, _, rfl⟩, ?_⟩
      exact s2.trans (s25.trans (s6.trans (s7.trans (s8.trans (s9.trans (s11.trans (same_upd s12 hD11)))))))
    · rintro σ H2 ⟨⟨o1, o2, o3, rfl⟩, s2⟩
      have ac2 := ac.same s2
      obtain ⟨dx, a1, b1, c1, d1, qs1, hfp1, e1, _⟩ := id ac2.bo.ob
      refine ⟨_, rfl, b, dx, _, rfl, e1, bno .., b, fp, bk, rfl, ac2.bo, (bk.ps.length : Int), rfl, _, rfl, iteT ?_⟩
      refine ⟨_, rfl, b, dx, _, rfl, e1, bno .., b, fp, bk, rfl, ac2.bo, _, rfl, LP, _, rfl, .inl (SqL.of ac2.pe.l), rfl, ?_⟩
      have : decide (nat bk.ps.length = V.int (((ts.map V.ref).length : Nat) : Int)) = true := by rw [List.length_map, tl]; exact decide_eq_true rfl
      show Q (.bl (decide (nat bk.ps.length = V.int (((ts.map V.ref).length : Nat) : Int)))) H2
      rw [this]
      exact k H2 s2
end


--CUT
/-- the script, or whatever else stays: known, or apart from what is written to -/
def ScrAt (K : PySem.W.Frag) (H : Hp) (a : Addr) (xs : List V) (av : List Addr) : Prop :=
  (∀ H', SqL K H' a xs) ∨ (Rd H a (.lst xs) ∧ a ∉ av)
theorem ScrAt.sq {K : PySem.W.Frag} {H : Hp} {a : Addr} {xs : List V} {av : List Addr} (h : ScrAt K H a xs av) : SqL K H a xs := by
  rcases h with h | h
  · exact h H
  · exact .inl h.1
theorem ScrAt.of {K : PySem.W.Frag} {H : Hp} {a : Addr} {xs : List V} {av : List Addr} (h : SqL K H a xs) (n : ∀ o, H a = some o → a ∉ av) : ScrAt K H a xs av := by
  rcases h with h | h
  · refine .inr ⟨h, ?_⟩
    rcases h with h | ⟨o, h⟩
    · exact n _ h
    · exact n _ h
  · exact .inl fun H' => .inr h
theorem ScrAt.go {K : PySem.W.Frag} {H H' : Hp} {a : Addr} {xs : List V} {av av' : List Addr} (h : ScrAt K H a xs av) (kp : ∀ c o, H c = some o → c ∉ av → H' c = some o) (fr : ∀ c ∈ av', c ∈ av ∨ H c = none) : ScrAt K H' a xs av' := by
  rcases h with h | ⟨h, n⟩
  · exact .inl h
  · have key : ∀ o, H a = some o → H' a = some o ∧ a ∉ av' := fun o ho => ⟨kp a o ho n, fun z => (fr a z).elim n fun y => by rw [y] at ho; cases ho⟩
    rcases h with h | ⟨o, h⟩
    · exact .inr ⟨.inl (key _ h).1, (key _ h).2⟩
    · exact .inr ⟨.inr ⟨o, (key _ h).1⟩, (key _ h).2⟩
theorem ScrAt.same {K : PySem.W.Frag} {H H' : Hp} {a : Addr} {xs : List V} {av : List Addr} (h : ScrAt K H a xs av) (s : Same H H') : ScrAt K H' a xs av := h.go (fun c o hc _ => s c o hc) fun c hc => .inl hc
theorem doC_len (bk : Bk) (c : Com) : (doC bk c).prs.length ≤ bk.prs.length + 1 := by
  have pl : ∀ q, (bk.pair q).prs.length ≤ bk.prs.length + 1 := fun q => by
    unfold Bk.pair
    by_cases z : q ∈ bk.prs
    · rw [if_pos z]; exact Nat.le_succ _
    · rw [if_neg z, List.length_append]; exact Nat.le_refl _
  cases c with
  | come s => exact Nat.le_succ _
  | wed m f => exact pl _
  | born s m f => exact pl _
theorem atI_last {α : Type} (xs : List α) (x : α) : atI (xs ++ [x]) (-1) = some x := by
  unfold atI ixN
  rw [if_neg (by decide), List.length_append]
  have h1 : [x].length = 1 := rfl
  rw [if_pos (by rw [h1]; omega)]
  show (xs ++ [x])[(-1 + ((xs.length + 1 : Nat) : Int)).toNat]? = some x
  have : (-1 + ((xs.length + 1 : Nat) : Int)).toNat = xs.length := by omega
  rw [this, List.getElem?_append_right (Nat.le_refl _), Nat.sub_self]
  rfl
theorem pick_last (l : List Nat) (h : 0 < l.length) : ∃ i, i ∈ l ∧ atI (natL l) (-1) = some (nat i) := by
  have ne : l ≠ [] := fun z => by rw [z] at h; cases h
  refine ⟨l.getLast ne, List.getLast_mem ne, ?_⟩
  have e : natL l = natL l.dropLast ++ [nat (l.getLast ne)] := by
    conv => lhs; rw [← List.dropLast_concat_getLast ne]
    unfold natL
    rw [List.map_append]
    rfl
  rw [e]
  exact atI_last _ _
theorem pick_first (l : List Nat) (h : 0 < l.length) : ∃ i, i ∈ l ∧ atI (natL l) 0 = some (nat i) := by
  cases l with
  | nil => cases h
  | cons x r => exact ⟨x, List.mem_cons_self .., atI_nat (j := 0) rfl⟩
theorem pick_far3 (n : Nat) (hn : n ≤ 60) (y q : Int) (y0 : 0 ≤ y) (y9 : y < 9) (q0 : 0 ≤ q) (q3 : q < 3) : ∃ i : Int, atI [nat n, V.int (-1), V.int ((n : Int) + 1 + y)] q = some (.int i) ∧ ¬ InC n i ∧ Sn i := by
  have p9 : (100 : Nat) < 10 ^ 9 := by decide
  have c : q = 0 ∨ q = 1 ∨ q = 2 := by omega
  rcases c with rfl | rfl | rfl
  · exact ⟨(n : Int), rfl, fun z => by have := z.2; omega, log_small (by omega)⟩
  · exact ⟨-1, rfl, fun z => by have := z.1; omega, log_small (by decide)⟩
  · exact ⟨(n : Int) + 1 + y, rfl, fun z => by have := z.2; omega, log_small (by omega)⟩
theorem cut_one (xs : List V) : cutV xs (some 1) none = xs.drop 1 := by
  cases xs with
  | nil => rfl
  | cons x r => exact cut_dropN (x :: r) 1 (Nat.le_add_left _ _)
section
variable {P : Program} {w : World} {K : PySem.W.Frag} {mg : Str → Option Value} {base : Heap} {CX : CXT} {C : Addr} {e : Ad}
theorem sc_law : FnScope ["script", "book", "people", "pairs", "cell", "first", "far", "way", "k", "men", "women"] ["script"] (defScope (top 19)) := ⟨rfl, rfl, rfl, by decide +kernel, rfl, by decide +kernel, by decide +kernel⟩
theorem ok_law {f : Addr} {fd : FuncData} (F : Fun K "law" "law" (top 19) f fd) (T : Txt K mg C e) (hE : NoE (CXR P w))
    (D__law_cell_at : Def P w K mg base (CXR P w) "_law_cell_at" 1 ["script", "k"] (spCellAt K)) (D__law_comer : Def P w K mg base (CXR P w) "_law_comer" 1 ["people", "cell"] spComer) (D__law_put : Def P w K mg base (CXR P w) "_law_put" 4 ["book", "people", "pairs", "comer"] (spPut e)) (D__law_refused : Def P w K mg base (CXR P w) "_law_refused" 4 ["book", "way", "sex", "one", "other"] (spRefused9 e)) (D__law_ill : Def P w K mg base (CXR P w) "_law_ill" 5 ["book", "people", "cell"] (spIll e)) (D__law_told : Def P w K mg base (CXR P w) "_law_told" 3 ["book", "people", "pairs"] (spTold e)) (D_Book : CDef P w K mg base (CXR P w) "Book" e.Book 1 ["self"] (spBookInit e)) (D_come : MDef P w K mg base (CXR P w) e.Book "come" 2 ["self", "sex"] (spCome e)) :
    FnOk P w K mg base (CXR P w) 6 f fd ["script"] (spLaw K) := by
  refine F.okN sc_law (fun vs H Q E h => ?_) (fun cdv A outer s H vs Q E hr h => ?_)
  · obtain ⟨a, ns, rfl, _⟩ := h; rfl
  · obtain ⟨a, ns, rfl, n63, hS, k⟩ := h
    have nd := sc_law.nd
    have hu := hr.units0
    have big : 4000 ≤ sizeLine := by decide
    have p9 : (100 : Nat) < 10 ^ 9 := by decide
    refine ⟨_, (pss_cons (ps_set (i := 1) nd rfl (Or.inl rfl) (pe_makeD0 D_Book hE hr rfl))
      (pss_cons (ps_set (i := 2) nd rfl (Or.inr rfl) (pe_lst pa_nil))
      (pss_cons (ps_set (i := 3) nd rfl (Or.inl rfl) (pe_lst pa_nil))
      (pss_cons (ps_for PassesOwn.never rfl (pi_list (pe_slice sl_list (pv 0) (po_some pe_int) po_none)) (pg_name (i := 4) nd rfl (Or.inl rfl)) (pss_one (ps_if (pt_cmpR op_eq (pe_op op_mod (pv 4) pe_int) pe_int (nomark _)) (pss_one (ps_if (pt_not (pt_val (pe_callD D__law_ill hE hr rfl (pa_cons (pv 1) (pa_cons (pv 2) (pa_cons (pe_op op_fdiv (pv 4) pe_int) pa_nil)))))) (pss_one (ps_ret pe_bl)) pss_nil)) (pss_one (ps_if (PW.pt (pw_and (pt_cmpR op_lt (pe_callB call_len_seq rfl T.z_len PySem.boot_len (pa_cons (pv 2) pa_nil)) pe_int (nomark _)) (pw_and1 (pt_not (pt_val (pe_callD D__law_put hE hr rfl (pa_cons (pv 1) (pa_cons (pv 2) (pa_cons (pv 3) (pa_cons (pe_callD D__law_comer hE hr rfl (pa_cons (pv 2) (pa_cons (pe_op op_fdiv (pv 4) pe_int) pa_nil))) pa_nil)))))))))) (pss_one (ps_ret pe_bl)) pss_nil)))))
      (pss_cons (ps_if (pt_not (pt_val (pe_callD D__law_told hE hr rfl (pa_cons (pv 1) (pa_cons (pv 2) (pa_cons (pv 3) pa_nil)))))) (pss_one (ps_ret pe_bl)) pss_nil)
      (pss_cons (ps_set (i := 5) nd rfl (Or.inl rfl) (pe_callD D__law_cell_at hE hr rfl (pa_cons (pv 0) (pa_cons pe_int pa_nil))))
      (pss_cons (ps_set (i := 6) nd rfl (Or.inl rfl) (pe_ix ix_list (pe_lst (pa_cons (pe_callB call_len_seq rfl T.z_len PySem.boot_len (pa_cons (pv 2) pa_nil)) (pa_cons (pe_un un_neg pe_int) (pa_cons (pe_op op_add (pe_op op_add (pe_callB call_len_seq rfl T.z_len PySem.boot_len (pa_cons (pv 2) pa_nil)) pe_int) (pe_op op_mod (pv 5) pe_int)) pa_nil)))) (pe_op op_mod (pv 5) pe_int) (fun _ _ => rfl)))
      (pss_cons (ps_for PassesOwn.never rfl (pi_range2 rfl T.z_range (pa_cons pe_int (pa_cons pe_int pa_nil))) (pg_name (i := 7) nd rfl (Or.inl rfl)) (pss_one (ps_if (pt_cmpR (op_neL hu) (pe_callD D__law_refused hE hr rfl (pa_cons (pv 1) (pa_cons (pv 7) (pa_cons pe_str (pa_cons (pv 6) (pa_cons pe_int pa_nil)))))) (pe_lst (pa_cons pe_bl (pa_cons pe_bl (pa_cons pe_bl pa_nil)))) (nomark _)) (pss_one (ps_ret pe_bl)) pss_nil)))
      (pss_cons (ps_if (pt_cmpR op_ne (pe_op op_mod (pv 5) pe_int) pe_int (nomark _)) (pss_one (ps_ret (pe_callD D__law_told hE hr rfl (pa_cons (pv 1) (pa_cons (pv 2) (pa_cons (pv 3) pa_nil)))))) pss_nil)
      (pss_cons (ps_for PassesOwn.never rfl (pi_range1 rfl T.z_range (pa_cons (pe_op op_sub pe_int (pe_callB call_len_seq rfl T.z_len PySem.boot_len (pa_cons (pv 2) pa_nil))) pa_nil)) (pg_name (i := 8) nd rfl (Or.inl rfl)) (pss_cons (ps_expr (pe_bm PySem.F.plainAttrs_list PySem.F.slot_list_append PySem.F.type_list_append mt_append (pv 2) (pa_cons (pe_tup (pa_cons (pe_ix ix_list (pe_lst (pa_cons pe_str (pa_cons pe_str pa_nil))) (pe_op op_mod (pv 8) pe_int) (fun _ _ => rfl)) (pa_cons pe_non (pa_cons pe_non pa_nil)))) pa_nil)))
      (pss_one (ps_if (pt_cmpR op_ne (pe_methD (pv 1) T.cl_Book D_come hE hr (pa_cons (pe_ix ix_tup (pe_ix ix_list (pv 2) (pe_un un_neg pe_int) (fun _ _ => rfl)) pe_int (fun _ _ => rfl)) pa_nil)) (pe_op op_sub (pe_callB call_len_seq rfl T.z_len PySem.boot_len (pa_cons (pv 2) pa_nil)) pe_int) (nomark _)) (pss_one (ps_ret pe_bl)) pss_nil))))
      (pss_cons (ps_if (pt_cmpR (op_neL hu) (pe_callD D__law_refused hE hr rfl (pa_cons (pv 1) (pa_cons pe_int (pa_cons pe_str (pa_cons pe_int (pa_cons pe_int pa_nil)))))) (pe_lst (pa_cons pe_bl (pa_cons pe_bl (pa_cons pe_bl pa_nil)))) (nomark _)) (pss_one (ps_ret pe_bl)) pss_nil)
      (pss_cons (ps_setCompF (i := 9) nd rfl (Or.inl rfl) (fv := [("people", 2)]) ⟨rfl, by decide +kernel, rfl, by decide +kernel, rfl, by decide +kernel, ⟨⟨rfl, Or.inl rfl, Or.inl rfl, rfl⟩, trivial⟩, rfl, rfl⟩ rfl (pi_range1 rfl T.z_range (pa_cons pe_int pa_nil)) (fun _ _ _ => (pv 0)) (fun _ _ _ => (pt_cmpR op_eq (pe_ix ix_tup (pe_ix ix_list (pv 1) (pv 0) (fun _ _ => rfl)) pe_int (fun _ _ => rfl)) pe_str (nomark _))))
      (pss_cons (ps_setCompF (i := 10) nd rfl (Or.inl rfl) (fv := [("people", 2)]) ⟨rfl, by decide +kernel, rfl, by decide +kernel, rfl, by decide +kernel, ⟨⟨rfl, Or.inl rfl, Or.inl rfl, rfl⟩, trivial⟩, rfl, rfl⟩ rfl (pi_range1 rfl T.z_range (pa_cons pe_int pa_nil)) (fun _ _ _ => (pv 0)) (fun _ _ _ => (pt_cmpR op_eq (pe_ix ix_tup (pe_ix ix_list (pv 1) (pv 0) (fun _ _ => rfl)) pe_int (fun _ _ => rfl)) pe_str (nomark _))))
      (pss_cons (ps_join (ps_if (PW.pt (pw_and (pt_cmpR op_gt (pe_callB call_len_seq rfl T.z_len PySem.boot_len (pa_cons (pv 9) pa_nil)) pe_int (nomark _)) (pw_and1 (pt_cmpR op_gt (pe_callB call_len_seq rfl T.z_len PySem.boot_len (pa_cons (pv 10) pa_nil)) pe_int (nomark _))))) (pss_cons (ps_if (pt_cmpR (op_neL hu) (pe_callD D__law_refused hE hr rfl (pa_cons (pv 1) (pa_cons pe_int (pa_cons pe_str (pa_cons (pe_ix ix_list (pv 9) pe_int (fun _ _ => rfl)) (pa_cons (pe_ix ix_list (pv 10) (pe_un un_neg pe_int) (fun _ _ => rfl)) pa_nil)))))) (pe_lst (pa_cons pe_bl (pa_cons pe_bl (pa_cons pe_bl pa_nil)))) (nomark _)) (pss_one (ps_ret pe_bl)) pss_nil)
      (pss_one (ps_if (pt_cmpR (op_neL hu) (pe_callD D__law_refused hE hr rfl (pa_cons (pv 1) (pa_cons pe_int (pa_cons pe_str (pa_cons (pe_ix ix_list (pv 10) pe_int (fun _ _ => rfl)) (pa_cons (pe_ix ix_list (pv 9) (pe_un un_neg pe_int) (fun _ _ => rfl)) pa_nil)))))) (pe_lst (pa_cons pe_bl (pa_cons pe_bl (pa_cons pe_bl pa_nil)))) (nomark _)) (pss_one (ps_ret pe_bl)) pss_nil))) pss_nil))
      (pss_one (ps_ret (pe_and (pe_cmpR (op_eqL hu) (pe_callD D__law_refused hE hr rfl (pa_cons (pv 1) (pa_cons pe_int (pa_cons pe_str (pa_cons pe_int (pa_cons pe_int pa_nil)))))) (pe_lst (pa_cons pe_bl (pa_cons pe_bl (pa_cons pe_bl pa_nil)))) (nomark _)) (pe_one (pe_callD D__law_told hE hr rfl (pa_cons (pv 1) (pa_cons (pv 2) (pa_cons (pv 3) pa_nil)))))))))))))))))))))), ?_⟩
    -- book
    intro b dx nx ndx nex
    have sx : Same H (upd (upd H dx (.own b)) b (.ins e.Book dx [])) := same_upd (same_new ndx) nx
    refine ⟨b, dx, rfl, upd_same, fun fp0 H0 kp0 fr0 BA0 => ⟨rfl, ?_⟩⟩
    have s0 : Same H H0 := fun c o h => kp0 c o (sx c o h) (ne_of_none h nx)
    have fr0' : ∀ c ∈ fp0, H c = none := fun c hc => by
      cases z : H c with
      | none => rfl
      | some o => have := sx c o z; rw [fr0 c hc] at this; cases this
    clear kp0 sx
    walk_at "ns"
    -- people, pairs
    refine ⟨by decide, fun LP hLP => ?_⟩
    have s1 := same_new (o := .lst []) hLP
    have gP : (upd H0 LP (.lst [])) LP = some (.lst []) := upd_same
    generalize upd H0 LP (.lst []) = H1 at s1 gP
    walk_at "ns"
    refine ⟨by decide, fun LR hLR => ?_⟩
    have s2 := same_new (o := .lst []) hLR
    have gR : (upd H1 LR (.lst [])) LR = some (.lst []) := upd_same
    generalize upd H1 LR (.lst []) = H2 at s2 gR
    have ac0 : Acc e.Book H2 b LP LR fp0 [] [] ⟨[], []⟩ := by
      refine ⟨BA0.same (s1.trans s2), ⟨s2 _ _ gP, TsAt.nil⟩, ⟨gR, TsAt.nil⟩, fun z => ?_, fun z => ?_, ne_of_none gP hLR⟩
      · obtain ⟨o, ho⟩ := BA0.held (List.mem_cons_of_mem b z)
        rw [hLP] at ho; cases ho
      · obtain ⟨o, ho⟩ := (BA0.same s1).held (List.mem_cons_of_mem b z)
        rw [hLR] at ho; cases ho
    have nP : H LP = none := s0.free hLP
    have nR : H LR = none := (s0.trans s1).free hLR
    have av0 : ∀ c ∈ LP :: LR :: fp0, H c = none := fun c hc => by
      simp only [List.mem_cons] at hc
      rcases hc with rfl | rfl | hc
      · exact nP
      · exact nR
      · exact fr0' c hc
    have sc0 : ScrAt K H2 a (ns.map V.int) (LP :: LR :: fp0) := (ScrAt.of (av := LP :: LR :: fp0) hS fun o ho z => by rw [av0 a z] at ho; cases ho).same (s0.trans (s1.trans s2))
    walk_at "ns"
    -- the loop
    refine ⟨_, rfl, _, rfl, a, _, rfl, sc0.sq, fun L hL => ?_⟩
    rw [cut_one]
    have s3 := same_new (o := .lst ((ns.map V.int).drop 1)) hL
    have gL : (upd H2 L (.lst ((ns.map V.int).drop 1))) L = some (.lst ((ns.map V.int).drop 1)) := upd_same
    generalize upd H2 L (.lst ((ns.map V.int).drop 1)) = H3 at s3 gL
    have scL : ScrAt K H3 L ((ns.map V.int).drop 1) (LP :: LR :: fp0) := .inr ⟨.inl gL, fun z => by
      simp only [List.mem_cons] at z
      rcases z with rfl | rfl | z
      · rw [ac0.pe.l] at hL; cases hL
      · rw [ac0.pa.l] at hL; cases hL
      · obtain ⟨o, ho⟩ := ac0.bo.held (List.mem_cons_of_mem b z)
        rw [hL] at ho; cases ho⟩
    refine ⟨L, rfl, ⟨_, scL.sq⟩, for_list (xs := (ns.map V.int).drop 1) (fun i σ G => (∃ o, σ = [some (.ref a), some (.ref b), some (.ref LP), some (.ref LR), o, none, none, none, none, none, none]) ∧ ∃ fp ts us bk, Acc e.Book G b LP LR fp ts us bk ∧ ScrAt K G a (ns.map V.int) (LP :: LR :: fp) ∧ ScrAt K G L ((ns.map V.int).drop 1) (LP :: LR :: fp) ∧ bk.prs.length ≤ i) ⟨⟨none, rfl⟩, fp0, [], [], ⟨[], []⟩, ac0.same s3, sc0.same s3, scL, Nat.le_refl _⟩ (fun i σ G _ ⟨_, fp, ts, us, bk, _, _, sl, _⟩ => sl.sq) ?_ ?_⟩
    · rintro i v σ G hi ⟨⟨o, rfl⟩, fp, ts, us, bk, ac, sa, sl, pl⟩
      have li : i < 63 := by
        have := (List.getElem?_eq_some_iff.mp hi).1
        rw [List.length_drop, List.length_map] at this
        omega
      obtain ⟨z, rfl⟩ : ∃ z : Int, v = .int z := by
        rw [List.getElem?_drop, List.getElem?_map] at hi
        obtain ⟨z, _, rfl⟩ := Option.map_eq_some_iff.mp hi
        exact ⟨z, rfl⟩
      walk_at "ns"
      have tl := ac.pe.len
      have n60 := ac.bo.ok.n60
      refine ⟨_, rfl, _, _, rfl, rfl, (show (0 : Int) < 9 by decide), rfl, _, rfl, iteD2 (fun _ => ?_) (fun _ => ?_)⟩
      · refine ⟨_, rfl, _, rfl, _, rfl, _, _, rfl, rfl, ⟨by decide, by decide⟩, b, LP, fp, ts, bk, z / 9, rfl, ac.bo, ac.pe, fun G1 s4 => ⟨_, rfl, iteF ?_⟩⟩
        exact ⟨⟨_, rfl⟩, fp, ts, us, bk, ac.same s4, sa.same s4, sl.same s4, Nat.le_succ_of_le pl⟩
      · refine ⟨_, rfl, LP, _, rfl, .inl (SqL.of ac.pe.l), _, _, rfl, rfl, _, rfl, ?_⟩
        rw [List.length_map, tl]
        refine iteD2 (fun lt => ?_) (fun _ => iteF ⟨⟨_, rfl⟩, fp, ts, us, bk, ac, sa, sl, Nat.le_succ_of_le pl⟩)
        refine ⟨_, rfl, _, rfl, _, rfl, _, rfl, _, rfl, _, _, rfl, rfl, ⟨by decide, by decide⟩, LP, ts, bk, z / 9, rfl, ac.pe, n60, fun t c G1 ht s4 gt okc => ?_⟩
        refine ⟨b, LP, LR, t, fp, ts, us, bk, c, rfl, ac.same s4, gt, okc, by omega, by omega, fun fp2 ts2 us2 G2 ac2 kp2 fr2 => ⟨_, rfl, iteF ?_⟩⟩
        have av2 : ∀ c ∈ LP :: LR :: fp2, c ∈ LP :: LR :: fp ∨ G1 c = none := fun c hc => by
          simp only [List.mem_cons] at hc ⊢
          rcases hc with h | h | h
          · exact .inl (.inl h)
          · exact .inl (.inr (.inl h))
          · rcases fr2 c h with y | y
            · exact .inl (.inr (.inr y))
            · exact .inr y
        exact ⟨⟨_, rfl⟩, fp2, ts2, us2, doC bk c, ac2, (sa.same s4).go kp2 av2, (sl.same s4).go kp2 av2, Nat.le_trans (doC_len bk c) (Nat.succ_le_succ pl)⟩
    rintro σ G ⟨⟨o, rfl⟩, fp, ts, us, bk, ac, sa, _, pl⟩
    have pl63 : bk.prs.length ≤ 100 := by
      rw [List.length_drop, List.length_map] at pl
      omega
    clear pl scL gL sc0 av0 nP nR ac0 fr0' s3 s0 s1 s2 BA0 gP gR
    have tl := ac.pe.len
    have n60 := ac.bo.ok.n60
    walk_at "ns"
    refine ⟨_, rfl, _, rfl, _, rfl, b, LP, LR, fp, ts, us, bk, rfl, ac, fun G1 s4 => ⟨_, rfl, iteF ?_⟩⟩
    -- first, far
    refine ⟨_, rfl, a, ns, 0, rfl, s4.seq sa.sq, fun z => ?_⟩
    have ac1 := ac.same s4
    walk_at "ns"
    obtain ⟨far, hfar, nfar, sfar⟩ := pick_far3 bk.ps.length n60 (z % 9) (z % 3) (Int.emod_nonneg _ (by decide)) (Int.emod_lt_of_pos _ (by decide)) (Int.emod_nonneg _ (by decide)) (Int.emod_lt_of_pos _ (by decide))
    refine ⟨_, rfl, LP, _, rfl, .inl (SqL.of ac1.pe.l), _, rfl, _, rfl, LP, _, rfl, .inl (SqL.of ac1.pe.l), _, _, rfl, rfl, _, rfl, _, _, rfl, rfl, (show (0 : Int) < 9 by decide), _, _, rfl, rfl, (show 3 ≤ sizeLine by decide), fun L2 hL2 => ⟨_, rfl, _, _, rfl, rfl, (show (0 : Int) < 3 by decide), L2, _, _, _, rfl, rfl, SqL.of upd_same, by rw [List.length_map, tl]; exact hfar, ?_⟩⟩
    have s5 := same_new (o := .lst [V.int (((ts.map V.ref).length : Nat) : Int), V.int (-1), V.int ((((ts.map V.ref).length : Nat) : Int) + 1 + z % 9)]) hL2
    generalize upd G1 L2 _ = G2 at s5
    have ac2 := ac1.same s5
    walk_at "ns"
    -- the five ways
    refine ⟨3, 8, rfl, by decide, ?_⟩
    refine for_range (lo := 3) (n := 5) (fun i σ G' => (∃ o, σ = [some (.ref a), some (.ref b), some (.ref LP), some (.ref LR), _, some (.int z), some (.int far), o, none, none, none]) ∧ Same G2 G') ⟨⟨none, rfl⟩, Same.refl _⟩ ?_ ?_
    · rintro i σ G3 hi ⟨⟨o, rfl⟩, s6⟩
      walk_at "ns"
      have e3 : V.int (3 + (i : Int)) = nat (3 + i) := by show V.int _ = V.int _; rw [Int.natCast_add]; rfl
      refine ⟨_, rfl, _, rfl, _, rfl, b, fp, bk, 3 + i, true, far, 0, .person, by show [V.ref b, V.int (3 + (i : Int)), V.str "man", V.int far, V.int 0] = _; rw [e3]; rfl, (ac2.same s6).bo, sfar, log_small (by decide), .inr ⟨by omega, nfar⟩, fun D G4 hD s7 hl7 => ?_⟩
      refine ⟨(show 3 ≤ sizeLine by decide), fun M hM => ⟨D, M, _, _, rfl, rfl, SqL.of (same_new hM _ _ hl7), SqL.of upd_same, rfl, rfl, _, rfl, iteF ?_⟩⟩
      exact ⟨⟨_, rfl⟩, s6.trans (s7.trans (same_new hM))⟩
    rintro σ G3 ⟨⟨o, rfl⟩, s6⟩
    have ac3 := ac2.same s6
    walk_at "ns"
    refine ⟨_, rfl, _, _, rfl, rfl, (show (0 : Int) < 5 by decide), rfl, _, rfl, ?_⟩
    refine iteB (fun _ => ?_) (fun _ => ?_)
    · exact ⟨_, rfl, _, rfl, _, rfl, b, LP, LR, fp, ts, us, bk, rfl, ac3, fun G4 _ => k G4⟩
    -- up to sixty
    refine ⟨_, rfl, LP, _, rfl, .inl (SqL.of ac3.pe.l), _, _, rfl, rfl, _, rfl, by rw [List.length_map, tl]; omega, by rw [List.length_map, tl]; omega, ?_⟩
    rw [List.length_map, tl]
    have e60 : ((60 : Int) - (bk.ps.length : Int)).toNat = 60 - bk.ps.length := by omega
    rw [e60]
    refine for_range0 (fun i σ G' => (∃ o, σ = [some (.ref a), some (.ref b), some (.ref LP), some (.ref LR), _, some (.int z), some (.int far), _, o, none, none]) ∧ ∃ fp ts us bk', Acc e.Book G' b LP LR fp ts us bk' ∧ bk'.ps.length = bk.ps.length + i ∧ bk'.prs = bk.prs) ⟨⟨none, rfl⟩, fp, ts, us, bk, ac3, rfl, rfl⟩ ?_ ?_
    · rintro i σ G4 hi ⟨⟨o, rfl⟩, fp, ts, us, bk', ac4, el, ep⟩
      have tl4 := ac4.pe.len
      walk_at "ns"
      have hc : (i : Int) % 2 = 0 ∨ (i : Int) % 2 = 1 := by omega
      obtain ⟨sx, hsx⟩ := pick_sex ((i : Int) % 2) (by omega) (by omega)
      refine ⟨_, rfl, .inl ⟨rfl, _, SqL.of ac4.pe.l⟩, (show 2 ≤ sizeLine by decide), fun L3 hL3 => ⟨_, rfl, _, _, rfl, rfl, (show (0 : Int) < 2 by decide), L3, _, _, _, rfl, rfl, SqL.of upd_same, hsx, (show 3 ≤ sizeLine by decide), fun t ht => ?_⟩⟩
      have s7 := (same_new (o := .lst [V.str "man", V.str "woman"]) hL3).trans (same_new (o := .tup [sexV sx, .non, .non]) ht)
      have gt : (upd (upd G4 L3 (.lst [V.str "man", V.str "woman"])) t (.tup [sexV sx, .non, .non])) t = some (.tup (perT (sx, none))) := upd_same
      generalize upd (upd G4 L3 (.lst [V.str "man", V.str "woman"])) t (.tup [sexV sx, .non, .non]) = G5 at s7 gt
      have ac5 := ac4.same s7
      refine ⟨LP, _, _, rfl, rfl, ac5.pe.l, by rw [List.length_map, tl4]; omega, ?_⟩
      generalize hH6 : upd G5 LP _ = G6
      obtain ⟨BA6, PE6, PA6, o6⟩ := ac5.person (x := (sx, none)) gt hH6
      have gt6 := o6 _ _ gt fun q => by rw [q, ac5.pe.l] at gt; cases gt
      obtain ⟨dx6, a1, b1, c1, d1, qs1, hfp1, f1, _⟩ := id BA6.ob
      have al : atI ((ts ++ [t]).map V.ref) (-1) = some (.ref t) := by rw [List.map_append]; exact atI_last _ _
      refine ⟨_, rfl, b, dx6, _, rfl, f1, bno .., _, rfl, _, rfl, LP, _, _, _, rfl, rfl, SqL.of PE6.l, al, t, _, 0, _, rfl, rfl, SqT.of gt6, rfl, b, fp, bk', sx, rfl, BA6, fun _ fp2 G7 BA7 kp7 fr7 sb7 => ?_, fun q => absurd q (by omega)⟩
      have nP7 : LP ∉ fp2 := fun q => (fr7 _ q).elim ac5.nP fun y => by rw [PE6.l] at y; cases y
      have nR7 : LR ∉ fp2 := fun q => (fr7 _ q).elim ac5.nR fun y => by rw [PA6.l] at y; cases y
      have PE7 : PeopleAt G7 LP (ts ++ [t]) (bk'.ps ++ [(sx, none)]) := ⟨kp7 _ _ PE6.l ac5.nP, PE6.t.keep fun p xs _ hp => kp7 _ _ hp (BA6.notin hp)⟩
      have PA7 : PairsAt G7 LR us bk'.prs := ⟨kp7 _ _ PA6.l ac5.nR, PA6.t.keep fun p xs _ hp => kp7 _ _ hp (BA6.notin hp)⟩
      refine ⟨_, rfl, LP, _, rfl, .inl (SqL.of PE7.l), _, _, rfl, rfl, rfl, _, rfl, ?_⟩
      have ev := len_sub bk'.ps.length ((ts ++ [t]).map V.ref) (by rw [List.length_map, List.length_append, tl4]; rfl)
      show if (!decide (nat bk'.ps.length = V.int ((((ts ++ [t]).map V.ref).length : Nat) - (1 : Int)))) = true then _ else _
      rw [ev, decide_eq_true rfl]
      refine iteF ⟨⟨_, rfl⟩, fp2, ts ++ [t], us, bk'.add (sx, none), ⟨BA7, PE7, PA7, nP7, nR7, ac5.ne⟩, ?_, ep⟩
      show (bk'.ps ++ [(sx, none)]).length = _
      rw [List.length_append, el]; exact Nat.add_assoc _ _ _
    rintro σ G4 ⟨⟨o, rfl⟩, fp, ts, us, bk', ac4, el, ep⟩
    have e6 : bk'.ps.length = 60 := by omega
    have ok4 := ac4.bo.ok
    clear ac3 ac2 ac1 ac s4 s5 s6 sa el nfar sfar hfar pl63 n60 tl ep e60
    have s0n : Sn 0 := log_small (by decide)
    walk_at "ns"
    refine ⟨_, rfl, b, fp, bk', 2, false, 0, 0, .many, rfl, ac4.bo, s0n, s0n, .inr ⟨rfl, by omega⟩, fun D G5 hD s7 hl7 => ?_⟩
    refine ⟨(show 3 ≤ sizeLine by decide), fun M hM => ⟨D, M, _, _, rfl, rfl, SqL.of (same_new hM _ _ hl7), SqL.of upd_same, rfl, rfl, _, rfl, iteF ?_⟩⟩
    have s8 := s7.trans (same_new (o := .lst [V.bl false, V.bl false, V.bl true]) hM)
    generalize upd G5 M _ = G6 at s8
    have ac6 := ac4.same s8
    walk_at "ns"
    -- men, women
    refine ⟨_, rfl, by decide, by decide, ?_⟩
    refine comp_rangeF0 (n := 60) (ofSex bk' true) nat (by decide) (fun i H' R hi sm kk _ _ _ => ?_) (fun i H' R hi pi sm kk _ _ _ => ⟨_, rfl, kk _ (Same.refl _)⟩) fun D1 G7 hD1 s9 hl9 => ?_
    · obtain ⟨t, x, _, hx, h1, h2⟩ := men_at (ac6.same sm).pe (by omega : i < bk'.ps.length)
      refine ⟨_, rfl, _, rfl, LP, _, _, _, rfl, rfl, SqL.of (ac6.same sm).pe.l, h1, t, _, 0, _, rfl, rfl, SqT.of h2, rfl, rfl, _, rfl, ?_⟩
      have : decide (sexV x.1 = V.str "man") = ofSex bk' true i := by rw [sex_man, ofSex_eq hx]; exact eq_true_b _
      show R (decide (sexV x.1 = V.str "man")) H'
      rw [this]; exact kk _ (Same.refl _)
    have ac7 := ac6.same s9
    walk_at "ns"
    refine ⟨_, rfl, by decide, by decide, ?_⟩
    refine comp_rangeF0 (n := 60) (ofSex bk' false) nat (by decide) (fun i H' R hi sm kk _ _ _ => ?_) (fun i H' R hi pi sm kk _ _ _ => ⟨_, rfl, kk _ (Same.refl _)⟩) fun D2 G8 hD2 s10 hl10 => ?_
    · obtain ⟨t, x, _, hx, h1, h2⟩ := men_at (ac7.same sm).pe (by omega : i < bk'.ps.length)
      refine ⟨_, rfl, _, rfl, LP, _, _, _, rfl, rfl, SqL.of (ac7.same sm).pe.l, h1, t, _, 0, _, rfl, rfl, SqT.of h2, rfl, rfl, _, rfl, ?_⟩
      have : decide (sexV x.1 = V.str "woman") = ofSex bk' false i := by rw [sex_woman, ofSex_eq hx]; exact eq_false_b _
      show R (decide (sexV x.1 = V.str "woman")) H'
      rw [this]; exact kk _ (Same.refl _)
    have ac8 := ac7.same s10
    have g1 : G8 D1 = some (.lst (natL (sexL bk' true))) := by unfold sexL; rw [e6]; exact s10 _ _ hl9
    have g2 : G8 D2 = some (.lst (natL (sexL bk' false))) := by unfold sexL; rw [e6]; exact hl10
    walk_at "ns"
    refine ⟨fun σ' G' => (∃ o4 o7 o8, σ' = [some (.ref a), some (.ref b), some (.ref LP), some (.ref LR), o4, some (.int z), some (.int far), o7, o8, some (.ref D1), some (.ref D2)]) ∧ Same G8 G', ?_, ?_⟩
    · refine ⟨_, rfl, D1, _, rfl, .inl (SqL.of g1), _, _, rfl, rfl, _, rfl, iteD2 (fun l1 => ?_) (fun _ => iteF ⟨⟨_, _, _, rfl⟩, Same.refl _⟩)⟩
      refine ⟨_, rfl, D2, _, rfl, .inl (SqL.of g2), _, _, rfl, rfl, _, rfl, iteD2 (fun l2 => ?_) (fun _ => ⟨⟨_, _, _, rfl⟩, Same.refl _⟩)⟩
      rw [natL_len] at l1 l2
      have l1' : 0 < (sexL bk' true).length := by omega
      have l2' : 0 < (sexL bk' false).length := by omega
      obtain ⟨m1, hm1, am1⟩ := pick_first _ l1'
      obtain ⟨m2, hm2, am2⟩ := pick_last _ l1'
      obtain ⟨w1, hw1, aw1⟩ := pick_first _ l2'
      obtain ⟨w2, hw2, aw2⟩ := pick_last _ l2'
      have im1 := mem_sexL.mp hm1
      have im2 := mem_sexL.mp hm2
      have iw1 := mem_sexL.mp hw1
      have iw2 := mem_sexL.mp hw2
      have lm1 := im1.lt
      have lm2 := im2.lt
      have lw1 := iw1.lt
      have lw2 := iw2.lt
      have sn : ∀ i : Nat, i < bk'.ps.length → Sn (i : Int) := fun i h => log_small (by show ((i : Nat) : Int).natAbs < 10 ^ 9; omega)
      refine ⟨_, rfl, _, rfl, D1, _, _, _, rfl, rfl, SqL.of g1, am1, _, rfl, _, rfl, D2, _, _, _, rfl, rfl, SqL.of g2, aw2, b, fp, bk', 0, true, (m1 : Int), (w2 : Int), .many, rfl, ac8.bo, sn m1 lm1, sn w2 lw2, .inl ⟨rfl, ⟨m1, w2, rfl, rfl, im1, iw2⟩, by omega⟩, fun D G9 hD s11 hl11 => ?_⟩
      refine ⟨(show 3 ≤ sizeLine by decide), fun M hM => ⟨D, M, _, _, rfl, rfl, SqL.of (same_new hM _ _ hl11), SqL.of upd_same, rfl, rfl, _, rfl, iteF ?_⟩⟩
      have s12 := s11.trans (same_new (o := .lst [V.bl false, V.bl false, V.bl true]) hM)
      generalize upd G9 M _ = G10 at s12
      refine ⟨_, rfl, _, rfl, D2, _, _, _, rfl, rfl, SqL.of (s12 _ _ g2), aw1, _, rfl, _, rfl, D1, _, _, _, rfl, rfl, SqL.of (s12 _ _ g1), am2, b, fp, bk', 0, true, (w1 : Int), (m2 : Int), .parents, rfl, (ac8.same s12).bo, sn w1 lw1, sn m2 lm2, ⟨.inl rfl, ⟨by omega, by omega⟩, ⟨by omega, by omega⟩, fun ⟨m', f', em, ef, h1, h2⟩ => ?_⟩, fun D' G11 hD' s13 hl13 => ?_⟩
      · have := Int.ofNat.inj em
        subst this
        cases h1.uniq iw1
      refine ⟨(show 3 ≤ sizeLine by decide), fun M' hM' => ⟨D', M', _, _, rfl, rfl, SqL.of (same_new hM' _ _ hl13), SqL.of upd_same, rfl, rfl, _, rfl, iteF ?_⟩⟩
      exact ⟨⟨_, _, _, rfl⟩, s12.trans (s13.trans (same_new hM'))⟩
    rintro σ G9 ⟨⟨o4, o7, o8, rfl⟩, s11⟩
    have ac9 := ac8.same s11
    walk_at "ns"
    refine ⟨_, rfl, b, fp, bk', 0, true, 60, 0, .person, rfl, ac9.bo, log_small (by decide), s0n, .inl ⟨.inl rfl, fun q => by have := q.1.2; omega⟩, fun D G10 hD s12 hl12 => ?_⟩
    refine ⟨(show 3 ≤ sizeLine by decide), fun M hM => ⟨D, M, _, _, rfl, rfl, SqL.of (same_new hM _ _ hl12), SqL.of upd_same, rfl, rfl, _, rfl, iteT ?_⟩⟩
    exact ⟨_, rfl, _, rfl, _, rfl, b, LP, LR, fp, ts, us, bk', rfl, ac9.same (s12.trans (same_new hM)), fun G11 _ => k G11⟩
end


set_option maxHeartbeats 0 in
theorem all_mk {l : PySem.W.OpenLaw} {w : World} {K : PySem.W.Frag} {h : Heap} {mg : Str → Option Value} {fa : Addr} (X : K.In h) (G : h.Ns mainGlobals mg) (hfa : mg "law" = some (.ref fa))
    {a_KinError : Addr}
    {a_NoPerson : Addr}
    {a_NoParents : Addr}
    {a_TooMany : Addr}
    {a_Book : Addr}
    {oc_d__law_cell_at kV_d__law_cell_at dc_d__law_cell_at pm_d__law_cell_at cd_d__law_cell_at ct_d__law_cell_at : Value} {od_d__law_cell_at an_d__law_cell_at : Option Addr} {sl_d__law_cell_at : Array (Option Value)} {f_d__law_cell_at : Addr}
    {oc_d__law_comer kV_d__law_comer dc_d__law_comer pm_d__law_comer cd_d__law_comer ct_d__law_comer : Value} {od_d__law_comer an_d__law_comer : Option Addr} {sl_d__law_comer : Array (Option Value)} {f_d__law_comer : Addr}
    {oc_m_check_room kV_m_check_room dc_m_check_room pm_m_check_room cd_m_check_room ct_m_check_room : Value} {od_m_check_room an_m_check_room : Option Addr} {sl_m_check_room : Array (Option Value)} {f_m_check_room : Addr}
    {oc_m_enter kV_m_enter dc_m_enter pm_m_enter cd_m_enter ct_m_enter : Value} {od_m_enter an_m_enter : Option Addr} {sl_m_enter : Array (Option Value)} {f_m_enter : Addr}
    {oc_m_come kV_m_come dc_m_come pm_m_come cd_m_come ct_m_come : Value} {od_m_come an_m_come : Option Addr} {sl_m_come : Array (Option Value)} {f_m_come : Addr}
    {oc_m_check_person kV_m_check_person dc_m_check_person pm_m_check_person cd_m_check_person ct_m_check_person : Value} {od_m_check_person an_m_check_person : Option Addr} {sl_m_check_person : Array (Option Value)} {f_m_check_person : Addr}
    {oc_m_check_couple kV_m_check_couple dc_m_check_couple pm_m_check_couple cd_m_check_couple ct_m_check_couple : Value} {od_m_check_couple an_m_check_couple : Option Addr} {sl_m_check_couple : Array (Option Value)} {f_m_check_couple : Addr}
    {oc_m_pair kV_m_pair dc_m_pair pm_m_pair cd_m_pair ct_m_pair : Value} {od_m_pair an_m_pair : Option Addr} {sl_m_pair : Array (Option Value)} {f_m_pair : Addr}
    {oc_m_born kV_m_born dc_m_born pm_m_born cd_m_born ct_m_born : Value} {od_m_born an_m_born : Option Addr} {sl_m_born : Array (Option Value)} {f_m_born : Addr}
    {oc_m_wed kV_m_wed dc_m_wed pm_m_wed cd_m_wed ct_m_wed : Value} {od_m_wed an_m_wed : Option Addr} {sl_m_wed : Array (Option Value)} {f_m_wed : Addr}
    {oc_d__law_put kV_d__law_put dc_d__law_put pm_d__law_put cd_d__law_put ct_d__law_put : Value} {od_d__law_put an_d__law_put : Option Addr} {sl_d__law_put : Array (Option Value)} {f_d__law_put : Addr}
    {oc_m_sex_of kV_m_sex_of dc_m_sex_of pm_m_sex_of cd_m_sex_of ct_m_sex_of : Value} {od_m_sex_of an_m_sex_of : Option Addr} {sl_m_sex_of : Array (Option Value)} {f_m_sex_of : Addr}
    {oc_m_father kV_m_father dc_m_father pm_m_father cd_m_father ct_m_father : Value} {od_m_father an_m_father : Option Addr} {sl_m_father : Array (Option Value)} {f_m_father : Addr}
    {oc_m_mother kV_m_mother dc_m_mother pm_m_mother cd_m_mother ct_m_mother : Value} {od_m_mother an_m_mother : Option Addr} {sl_m_mother : Array (Option Value)} {f_m_mother : Addr}
    {oc_m_partners kV_m_partners dc_m_partners pm_m_partners cd_m_partners ct_m_partners : Value} {od_m_partners an_m_partners : Option Addr} {sl_m_partners : Array (Option Value)} {f_m_partners : Addr}
    {oc_m_children kV_m_children dc_m_children pm_m_children cd_m_children ct_m_children : Value} {od_m_children an_m_children : Option Addr} {sl_m_children : Array (Option Value)} {f_m_children : Addr}
    {oc_d__law_refused kV_d__law_refused dc_d__law_refused pm_d__law_refused cd_d__law_refused ct_d__law_refused : Value} {od_d__law_refused an_d__law_refused : Option Addr} {sl_d__law_refused : Array (Option Value)} {f_d__law_refused : Addr}
    {oc_d__law_ill kV_d__law_ill dc_d__law_ill pm_d__law_ill cd_d__law_ill ct_d__law_ill : Value} {od_d__law_ill an_d__law_ill : Option Addr} {sl_d__law_ill : Array (Option Value)} {f_d__law_ill : Addr}
    {oc_m_size kV_m_size dc_m_size pm_m_size cd_m_size ct_m_size : Value} {od_m_size an_m_size : Option Addr} {sl_m_size : Array (Option Value)} {f_m_size : Addr}
    {oc_d__law_whole kV_d__law_whole dc_d__law_whole pm_d__law_whole cd_d__law_whole ct_d__law_whole : Value} {od_d__law_whole an_d__law_whole : Option Addr} {sl_d__law_whole : Array (Option Value)} {f_d__law_whole : Addr}
    {oc_d__law_parent kV_d__law_parent dc_d__law_parent pm_d__law_parent cd_d__law_parent ct_d__law_parent : Value} {od_d__law_parent an_d__law_parent : Option Addr} {sl_d__law_parent : Array (Option Value)} {f_d__law_parent : Addr}
    {oc_d__law_same_numbers kV_d__law_same_numbers dc_d__law_same_numbers pm_d__law_same_numbers cd_d__law_same_numbers ct_d__law_same_numbers : Value} {od_d__law_same_numbers an_d__law_same_numbers : Option Addr} {sl_d__law_same_numbers : Array (Option Value)} {f_d__law_same_numbers : Addr}
    {oc_d__law_told kV_d__law_told dc_d__law_told pm_d__law_told cd_d__law_told ct_d__law_told : Value} {od_d__law_told an_d__law_told : Option Addr} {sl_d__law_told : Array (Option Value)} {f_d__law_told : Addr}
    {oc_m_Book___init__ kV_m_Book___init__ dc_m_Book___init__ pm_m_Book___init__ cd_m_Book___init__ ct_m_Book___init__ : Value} {od_m_Book___init__ an_m_Book___init__ : Option Addr} {sl_m_Book___init__ : Array (Option Value)} {f_m_Book___init__ : Addr}
    {oc_d_law kV_d_law dc_d_law pm_d_law cd_d_law ct_d_law : Value} {od_d_law an_d_law : Option Addr} {sl_d_law : Array (Option Value)} {f_d_law : Addr}
    {t_MOST_PERSONS : Tok}
    (b_KinError : PySem.W.nsIn K mainGlobals "KinError" = some (some (.ref a_KinError)))
    (b_NoPerson : PySem.W.nsIn K mainGlobals "NoPerson" = some (some (.ref a_NoPerson)))
    (b_NoParents : PySem.W.nsIn K mainGlobals "NoParents" = some (some (.ref a_NoParents)))
    (b_TooMany : PySem.W.nsIn K mainGlobals "TooMany" = some (some (.ref a_TooMany)))
    (b_Book : PySem.W.nsIn K mainGlobals "Book" = some (some (.ref a_Book)))
    (pg_Book : PySem.W.plainGet K a_Book Str.empty = true)
    (hd_Book : PySem.W.hasDictIn K a_Book = true)
    (po_Book : PySem.W.plainOver K a_Book = true)
    (sa_Book : PySem.W.findIn K (.ref a_Book) "__setattr__" = some (some (.builtin "object.__setattr__")))
    (mk_Book : PySem.W.makesIn K a_Book = true)
    (kc_Book : PySem.W.keepIn K (.ref a_Book) = true)
    (n_sexes : PySem.W.findIn K (.ref a_Book) "sexes" = some none)
    (n_fathers : PySem.W.findIn K (.ref a_Book) "fathers" = some none)
    (n_mothers : PySem.W.findIn K (.ref a_Book) "mothers" = some none)
    (n_partner_lists : PySem.W.findIn K (.ref a_Book) "partner_lists" = some none)
    (kd1 : PySem.W.specialIn K (.builtin "object.__class__") "__get__" = some (some (.builtin "getset_descriptor.__get__")))
    (kd2 : PySem.W.takesIn K (.builtin "object.__class__") = some true)
    (x_NoPerson : PySem.W.excIn K a_NoPerson bmVE "ValueError.__new__" = true)
    (c1_NoPerson : PySem.W.isClsIn K a_NoPerson = true)
    (c2_NoPerson : PySem.W.findIn K (.ref a_NoPerson) "__getattribute__" = some (some (.builtin "BaseException.__getattribute__")))
    (c3_NoPerson : PySem.W.findIn K (.ref a_NoPerson) "__getattr__" = some none)
    (c4_NoPerson : PySem.W.findIn K (.ref a_NoPerson) "__class__" = some (some (.builtin "object.__class__")))
    (c5_NoPerson : PySem.W.mroIn K a_NoPerson (.type "object") = some true)
    (c6_NoPerson : PySem.W.mroIn K a_NoPerson (.type "BaseException") = some true)
    (w_NoPerson : PySem.W.exmOne K (.ref a_NoPerson) (.ref a_KinError) = some true)
    (v_NoPerson : PySem.W.kitOne K (.ref a_NoPerson) (.type "ValueError") = some true)
    (k_NoPerson_NoPerson : PySem.W.kitOne K (.ref a_NoPerson) (.ref a_NoPerson) = some true)
    (k_NoPerson_NoParents : PySem.W.kitOne K (.ref a_NoPerson) (.ref a_NoParents) = some false)
    (k_NoPerson_TooMany : PySem.W.kitOne K (.ref a_NoPerson) (.ref a_TooMany) = some false)
    (x_NoParents : PySem.W.excIn K a_NoParents bmVE "ValueError.__new__" = true)
    (c1_NoParents : PySem.W.isClsIn K a_NoParents = true)
    (c2_NoParents : PySem.W.findIn K (.ref a_NoParents) "__getattribute__" = some (some (.builtin "BaseException.__getattribute__")))
    (c3_NoParents : PySem.W.findIn K (.ref a_NoParents) "__getattr__" = some none)
    (c4_NoParents : PySem.W.findIn K (.ref a_NoParents) "__class__" = some (some (.builtin "object.__class__")))
    (c5_NoParents : PySem.W.mroIn K a_NoParents (.type "object") = some true)
    (c6_NoParents : PySem.W.mroIn K a_NoParents (.type "BaseException") = some true)
    (w_NoParents : PySem.W.exmOne K (.ref a_NoParents) (.ref a_KinError) = some true)
    (v_NoParents : PySem.W.kitOne K (.ref a_NoParents) (.type "ValueError") = some true)
    (k_NoParents_NoPerson : PySem.W.kitOne K (.ref a_NoParents) (.ref a_NoPerson) = some false)
    (k_NoParents_NoParents : PySem.W.kitOne K (.ref a_NoParents) (.ref a_NoParents) = some true)
    (k_NoParents_TooMany : PySem.W.kitOne K (.ref a_NoParents) (.ref a_TooMany) = some false)
    (x_TooMany : PySem.W.excIn K a_TooMany bmVE "ValueError.__new__" = true)
    (c1_TooMany : PySem.W.isClsIn K a_TooMany = true)
    (c2_TooMany : PySem.W.findIn K (.ref a_TooMany) "__getattribute__" = some (some (.builtin "BaseException.__getattribute__")))
    (c3_TooMany : PySem.W.findIn K (.ref a_TooMany) "__getattr__" = some none)
    (c4_TooMany : PySem.W.findIn K (.ref a_TooMany) "__class__" = some (some (.builtin "object.__class__")))
    (c5_TooMany : PySem.W.mroIn K a_TooMany (.type "object") = some true)
    (c6_TooMany : PySem.W.mroIn K a_TooMany (.type "BaseException") = some true)
    (w_TooMany : PySem.W.exmOne K (.ref a_TooMany) (.ref a_KinError) = some true)
    (v_TooMany : PySem.W.kitOne K (.ref a_TooMany) (.type "ValueError") = some true)
    (k_TooMany_NoPerson : PySem.W.kitOne K (.ref a_TooMany) (.ref a_NoPerson) = some false)
    (k_TooMany_NoParents : PySem.W.kitOne K (.ref a_TooMany) (.ref a_NoParents) = some false)
    (k_TooMany_TooMany : PySem.W.kitOne K (.ref a_TooMany) (.ref a_TooMany) = some true)
    (a_d__law_cell_at : PySem.W.nsIn K mainGlobals "_law_cell_at" = some (some (.ref f_d__law_cell_at)))
    (l_d__law_cell_at : K.lookup f_d__law_cell_at = some ⟨oc_d__law_cell_at, od_d__law_cell_at, .func (PySem.W.fnOf "_law_cell_at" "_law_cell_at" (defArgs (top 10)) (defBody (top 10)) (defScope (top 10)) .none kV_d__law_cell_at dc_d__law_cell_at pm_d__law_cell_at an_d__law_cell_at cd_d__law_cell_at ct_d__law_cell_at), sl_d__law_cell_at⟩)
    (cc_d__law_cell_at : PySem.W.codeIn K cd_d__law_cell_at "_law_cell_at" = true)
    (kk_d__law_cell_at : PySem.W.keepIn K (.ref f_d__law_cell_at) = true)
    (a_d__law_comer : PySem.W.nsIn K mainGlobals "_law_comer" = some (some (.ref f_d__law_comer)))
    (l_d__law_comer : K.lookup f_d__law_comer = some ⟨oc_d__law_comer, od_d__law_comer, .func (PySem.W.fnOf "_law_comer" "_law_comer" (defArgs (top 13)) (defBody (top 13)) (defScope (top 13)) .none kV_d__law_comer dc_d__law_comer pm_d__law_comer an_d__law_comer cd_d__law_comer ct_d__law_comer), sl_d__law_comer⟩)
    (cc_d__law_comer : PySem.W.codeIn K cd_d__law_comer "_law_comer" = true)
    (kk_d__law_comer : PySem.W.keepIn K (.ref f_d__law_comer) = true)
    (a_m_check_room : PySem.W.findIn K (.ref a_Book) "check_room" = some (some (.ref f_m_check_room)))
    (i_m_check_room : PySem.W.isFn K (.ref f_m_check_room) = true)
    (l_m_check_room : K.lookup f_m_check_room = some ⟨oc_m_check_room, od_m_check_room, .func (PySem.W.fnOf "check_room" "Book.check_room" (defArgs (inClass (top 8) 3)) (defBody (inClass (top 8) 3)) (defScope (inClass (top 8) 3)) .none kV_m_check_room dc_m_check_room pm_m_check_room an_m_check_room cd_m_check_room ct_m_check_room), sl_m_check_room⟩)
    (cc_m_check_room : PySem.W.codeIn K cd_m_check_room "Book.check_room" = true)
    (kk_m_check_room : PySem.W.keepIn K (.ref f_m_check_room) = true)
    (a_m_enter : PySem.W.findIn K (.ref a_Book) "enter" = some (some (.ref f_m_enter)))
    (i_m_enter : PySem.W.isFn K (.ref f_m_enter) = true)
    (l_m_enter : K.lookup f_m_enter = some ⟨oc_m_enter, od_m_enter, .func (PySem.W.fnOf "enter" "Book.enter" (defArgs (inClass (top 8) 4)) (defBody (inClass (top 8) 4)) (defScope (inClass (top 8) 4)) .none kV_m_enter dc_m_enter pm_m_enter an_m_enter cd_m_enter ct_m_enter), sl_m_enter⟩)
    (cc_m_enter : PySem.W.codeIn K cd_m_enter "Book.enter" = true)
    (kk_m_enter : PySem.W.keepIn K (.ref f_m_enter) = true)
    (a_m_come : PySem.W.findIn K (.ref a_Book) "come" = some (some (.ref f_m_come)))
    (i_m_come : PySem.W.isFn K (.ref f_m_come) = true)
    (l_m_come : K.lookup f_m_come = some ⟨oc_m_come, od_m_come, .func (PySem.W.fnOf "come" "Book.come" (defArgs (inClass (top 8) 6)) (defBody (inClass (top 8) 6)) (defScope (inClass (top 8) 6)) .none kV_m_come dc_m_come pm_m_come an_m_come cd_m_come ct_m_come), sl_m_come⟩)
    (cc_m_come : PySem.W.codeIn K cd_m_come "Book.come" = true)
    (kk_m_come : PySem.W.keepIn K (.ref f_m_come) = true)
    (a_m_check_person : PySem.W.findIn K (.ref a_Book) "check_person" = some (some (.ref f_m_check_person)))
    (i_m_check_person : PySem.W.isFn K (.ref f_m_check_person) = true)
    (l_m_check_person : K.lookup f_m_check_person = some ⟨oc_m_check_person, od_m_check_person, .func (PySem.W.fnOf "check_person" "Book.check_person" (defArgs (inClass (top 8) 1)) (defBody (inClass (top 8) 1)) (defScope (inClass (top 8) 1)) .none kV_m_check_person dc_m_check_person pm_m_check_person an_m_check_person cd_m_check_person ct_m_check_person), sl_m_check_person⟩)
    (cc_m_check_person : PySem.W.codeIn K cd_m_check_person "Book.check_person" = true)
    (kk_m_check_person : PySem.W.keepIn K (.ref f_m_check_person) = true)
    (a_m_check_couple : PySem.W.findIn K (.ref a_Book) "check_couple" = some (some (.ref f_m_check_couple)))
    (i_m_check_couple : PySem.W.isFn K (.ref f_m_check_couple) = true)
    (l_m_check_couple : K.lookup f_m_check_couple = some ⟨oc_m_check_couple, od_m_check_couple, .func (PySem.W.fnOf "check_couple" "Book.check_couple" (defArgs (inClass (top 8) 2)) (defBody (inClass (top 8) 2)) (defScope (inClass (top 8) 2)) .none kV_m_check_couple dc_m_check_couple pm_m_check_couple an_m_check_couple cd_m_check_couple ct_m_check_couple), sl_m_check_couple⟩)
    (cc_m_check_couple : PySem.W.codeIn K cd_m_check_couple "Book.check_couple" = true)
    (kk_m_check_couple : PySem.W.keepIn K (.ref f_m_check_couple) = true)
    (a_m_pair : PySem.W.findIn K (.ref a_Book) "pair" = some (some (.ref f_m_pair)))
    (i_m_pair : PySem.W.isFn K (.ref f_m_pair) = true)
    (l_m_pair : K.lookup f_m_pair = some ⟨oc_m_pair, od_m_pair, .func (PySem.W.fnOf "pair" "Book.pair" (defArgs (inClass (top 8) 5)) (defBody (inClass (top 8) 5)) (defScope (inClass (top 8) 5)) .none kV_m_pair dc_m_pair pm_m_pair an_m_pair cd_m_pair ct_m_pair), sl_m_pair⟩)
    (cc_m_pair : PySem.W.codeIn K cd_m_pair "Book.pair" = true)
    (kk_m_pair : PySem.W.keepIn K (.ref f_m_pair) = true)
    (a_m_born : PySem.W.findIn K (.ref a_Book) "born" = some (some (.ref f_m_born)))
    (i_m_born : PySem.W.isFn K (.ref f_m_born) = true)
    (l_m_born : K.lookup f_m_born = some ⟨oc_m_born, od_m_born, .func (PySem.W.fnOf "born" "Book.born" (defArgs (inClass (top 8) 7)) (defBody (inClass (top 8) 7)) (defScope (inClass (top 8) 7)) .none kV_m_born dc_m_born pm_m_born an_m_born cd_m_born ct_m_born), sl_m_born⟩)
    (cc_m_born : PySem.W.codeIn K cd_m_born "Book.born" = true)
    (kk_m_born : PySem.W.keepIn K (.ref f_m_born) = true)
    (a_m_wed : PySem.W.findIn K (.ref a_Book) "wed" = some (some (.ref f_m_wed)))
    (i_m_wed : PySem.W.isFn K (.ref f_m_wed) = true)
    (l_m_wed : K.lookup f_m_wed = some ⟨oc_m_wed, od_m_wed, .func (PySem.W.fnOf "wed" "Book.wed" (defArgs (inClass (top 8) 8)) (defBody (inClass (top 8) 8)) (defScope (inClass (top 8) 8)) .none kV_m_wed dc_m_wed pm_m_wed an_m_wed cd_m_wed ct_m_wed), sl_m_wed⟩)
    (cc_m_wed : PySem.W.codeIn K cd_m_wed "Book.wed" = true)
    (kk_m_wed : PySem.W.keepIn K (.ref f_m_wed) = true)
    (a_d__law_put : PySem.W.nsIn K mainGlobals "_law_put" = some (some (.ref f_d__law_put)))
    (l_d__law_put : K.lookup f_d__law_put = some ⟨oc_d__law_put, od_d__law_put, .func (PySem.W.fnOf "_law_put" "_law_put" (defArgs (top 14)) (defBody (top 14)) (defScope (top 14)) .none kV_d__law_put dc_d__law_put pm_d__law_put an_d__law_put cd_d__law_put ct_d__law_put), sl_d__law_put⟩)
    (cc_d__law_put : PySem.W.codeIn K cd_d__law_put "_law_put" = true)
    (kk_d__law_put : PySem.W.keepIn K (.ref f_d__law_put) = true)
    (a_m_sex_of : PySem.W.findIn K (.ref a_Book) "sex_of" = some (some (.ref f_m_sex_of)))
    (i_m_sex_of : PySem.W.isFn K (.ref f_m_sex_of) = true)
    (l_m_sex_of : K.lookup f_m_sex_of = some ⟨oc_m_sex_of, od_m_sex_of, .func (PySem.W.fnOf "sex_of" "Book.sex_of" (defArgs (inClass (top 8) 10)) (defBody (inClass (top 8) 10)) (defScope (inClass (top 8) 10)) .none kV_m_sex_of dc_m_sex_of pm_m_sex_of an_m_sex_of cd_m_sex_of ct_m_sex_of), sl_m_sex_of⟩)
    (cc_m_sex_of : PySem.W.codeIn K cd_m_sex_of "Book.sex_of" = true)
    (kk_m_sex_of : PySem.W.keepIn K (.ref f_m_sex_of) = true)
    (a_m_father : PySem.W.findIn K (.ref a_Book) "father" = some (some (.ref f_m_father)))
    (i_m_father : PySem.W.isFn K (.ref f_m_father) = true)
    (l_m_father : K.lookup f_m_father = some ⟨oc_m_father, od_m_father, .func (PySem.W.fnOf "father" "Book.father" (defArgs (inClass (top 8) 11)) (defBody (inClass (top 8) 11)) (defScope (inClass (top 8) 11)) .none kV_m_father dc_m_father pm_m_father an_m_father cd_m_father ct_m_father), sl_m_father⟩)
    (cc_m_father : PySem.W.codeIn K cd_m_father "Book.father" = true)
    (kk_m_father : PySem.W.keepIn K (.ref f_m_father) = true)
    (a_m_mother : PySem.W.findIn K (.ref a_Book) "mother" = some (some (.ref f_m_mother)))
    (i_m_mother : PySem.W.isFn K (.ref f_m_mother) = true)
    (l_m_mother : K.lookup f_m_mother = some ⟨oc_m_mother, od_m_mother, .func (PySem.W.fnOf "mother" "Book.mother" (defArgs (inClass (top 8) 12)) (defBody (inClass (top 8) 12)) (defScope (inClass (top 8) 12)) .none kV_m_mother dc_m_mother pm_m_mother an_m_mother cd_m_mother ct_m_mother), sl_m_mother⟩)
    (cc_m_mother : PySem.W.codeIn K cd_m_mother "Book.mother" = true)
    (kk_m_mother : PySem.W.keepIn K (.ref f_m_mother) = true)
    (a_m_partners : PySem.W.findIn K (.ref a_Book) "partners" = some (some (.ref f_m_partners)))
    (i_m_partners : PySem.W.isFn K (.ref f_m_partners) = true)
    (l_m_partners : K.lookup f_m_partners = some ⟨oc_m_partners, od_m_partners, .func (PySem.W.fnOf "partners" "Book.partners" (defArgs (inClass (top 8) 13)) (defBody (inClass (top 8) 13)) (defScope (inClass (top 8) 13)) .none kV_m_partners dc_m_partners pm_m_partners an_m_partners cd_m_partners ct_m_partners), sl_m_partners⟩)
    (cc_m_partners : PySem.W.codeIn K cd_m_partners "Book.partners" = true)
    (kk_m_partners : PySem.W.keepIn K (.ref f_m_partners) = true)
    (a_m_children : PySem.W.findIn K (.ref a_Book) "children" = some (some (.ref f_m_children)))
    (i_m_children : PySem.W.isFn K (.ref f_m_children) = true)
    (l_m_children : K.lookup f_m_children = some ⟨oc_m_children, od_m_children, .func (PySem.W.fnOf "children" "Book.children" (defArgs (inClass (top 8) 14)) (defBody (inClass (top 8) 14)) (defScope (inClass (top 8) 14)) .none kV_m_children dc_m_children pm_m_children an_m_children cd_m_children ct_m_children), sl_m_children⟩)
    (cc_m_children : PySem.W.codeIn K cd_m_children "Book.children" = true)
    (kk_m_children : PySem.W.keepIn K (.ref f_m_children) = true)
    (a_d__law_refused : PySem.W.nsIn K mainGlobals "_law_refused" = some (some (.ref f_d__law_refused)))
    (l_d__law_refused : K.lookup f_d__law_refused = some ⟨oc_d__law_refused, od_d__law_refused, .func (PySem.W.fnOf "_law_refused" "_law_refused" (defArgs (top 15)) (defBody (top 15)) (defScope (top 15)) .none kV_d__law_refused dc_d__law_refused pm_d__law_refused an_d__law_refused cd_d__law_refused ct_d__law_refused), sl_d__law_refused⟩)
    (cc_d__law_refused : PySem.W.codeIn K cd_d__law_refused "_law_refused" = true)
    (kk_d__law_refused : PySem.W.keepIn K (.ref f_d__law_refused) = true)
    (a_d__law_ill : PySem.W.nsIn K mainGlobals "_law_ill" = some (some (.ref f_d__law_ill)))
    (l_d__law_ill : K.lookup f_d__law_ill = some ⟨oc_d__law_ill, od_d__law_ill, .func (PySem.W.fnOf "_law_ill" "_law_ill" (defArgs (top 16)) (defBody (top 16)) (defScope (top 16)) .none kV_d__law_ill dc_d__law_ill pm_d__law_ill an_d__law_ill cd_d__law_ill ct_d__law_ill), sl_d__law_ill⟩)
    (cc_d__law_ill : PySem.W.codeIn K cd_d__law_ill "_law_ill" = true)
    (kk_d__law_ill : PySem.W.keepIn K (.ref f_d__law_ill) = true)
    (a_m_size : PySem.W.findIn K (.ref a_Book) "size" = some (some (.ref f_m_size)))
    (i_m_size : PySem.W.isFn K (.ref f_m_size) = true)
    (l_m_size : K.lookup f_m_size = some ⟨oc_m_size, od_m_size, .func (PySem.W.fnOf "size" "Book.size" (defArgs (inClass (top 8) 9)) (defBody (inClass (top 8) 9)) (defScope (inClass (top 8) 9)) .none kV_m_size dc_m_size pm_m_size an_m_size cd_m_size ct_m_size), sl_m_size⟩)
    (cc_m_size : PySem.W.codeIn K cd_m_size "Book.size" = true)
    (kk_m_size : PySem.W.keepIn K (.ref f_m_size) = true)
    (a_d__law_whole : PySem.W.nsIn K mainGlobals "_law_whole" = some (some (.ref f_d__law_whole)))
    (l_d__law_whole : K.lookup f_d__law_whole = some ⟨oc_d__law_whole, od_d__law_whole, .func (PySem.W.fnOf "_law_whole" "_law_whole" (defArgs (top 11)) (defBody (top 11)) (defScope (top 11)) .none kV_d__law_whole dc_d__law_whole pm_d__law_whole an_d__law_whole cd_d__law_whole ct_d__law_whole), sl_d__law_whole⟩)
    (cc_d__law_whole : PySem.W.codeIn K cd_d__law_whole "_law_whole" = true)
    (kk_d__law_whole : PySem.W.keepIn K (.ref f_d__law_whole) = true)
    (a_d__law_parent : PySem.W.nsIn K mainGlobals "_law_parent" = some (some (.ref f_d__law_parent)))
    (l_d__law_parent : K.lookup f_d__law_parent = some ⟨oc_d__law_parent, od_d__law_parent, .func (PySem.W.fnOf "_law_parent" "_law_parent" (defArgs (top 17)) (defBody (top 17)) (defScope (top 17)) .none kV_d__law_parent dc_d__law_parent pm_d__law_parent an_d__law_parent cd_d__law_parent ct_d__law_parent), sl_d__law_parent⟩)
    (cc_d__law_parent : PySem.W.codeIn K cd_d__law_parent "_law_parent" = true)
    (kk_d__law_parent : PySem.W.keepIn K (.ref f_d__law_parent) = true)
    (a_d__law_same_numbers : PySem.W.nsIn K mainGlobals "_law_same_numbers" = some (some (.ref f_d__law_same_numbers)))
    (l_d__law_same_numbers : K.lookup f_d__law_same_numbers = some ⟨oc_d__law_same_numbers, od_d__law_same_numbers, .func (PySem.W.fnOf "_law_same_numbers" "_law_same_numbers" (defArgs (top 12)) (defBody (top 12)) (defScope (top 12)) .none kV_d__law_same_numbers dc_d__law_same_numbers pm_d__law_same_numbers an_d__law_same_numbers cd_d__law_same_numbers ct_d__law_same_numbers), sl_d__law_same_numbers⟩)
    (cc_d__law_same_numbers : PySem.W.codeIn K cd_d__law_same_numbers "_law_same_numbers" = true)
    (kk_d__law_same_numbers : PySem.W.keepIn K (.ref f_d__law_same_numbers) = true)
    (a_d__law_told : PySem.W.nsIn K mainGlobals "_law_told" = some (some (.ref f_d__law_told)))
    (l_d__law_told : K.lookup f_d__law_told = some ⟨oc_d__law_told, od_d__law_told, .func (PySem.W.fnOf "_law_told" "_law_told" (defArgs (top 18)) (defBody (top 18)) (defScope (top 18)) .none kV_d__law_told dc_d__law_told pm_d__law_told an_d__law_told cd_d__law_told ct_d__law_told), sl_d__law_told⟩)
    (cc_d__law_told : PySem.W.codeIn K cd_d__law_told "_law_told" = true)
    (kk_d__law_told : PySem.W.keepIn K (.ref f_d__law_told) = true)
    (a_m_Book___init__ : PySem.W.findIn K (.ref a_Book) "__init__" = some (some (.ref f_m_Book___init__)))
    (i_m_Book___init__ : PySem.W.isFn K (.ref f_m_Book___init__) = true)
    (l_m_Book___init__ : K.lookup f_m_Book___init__ = some ⟨oc_m_Book___init__, od_m_Book___init__, .func (PySem.W.fnOf "__init__" "Book.__init__" (defArgs (inClass (top 8) 0)) (defBody (inClass (top 8) 0)) (defScope (inClass (top 8) 0)) .none kV_m_Book___init__ dc_m_Book___init__ pm_m_Book___init__ an_m_Book___init__ cd_m_Book___init__ ct_m_Book___init__), sl_m_Book___init__⟩)
    (cc_m_Book___init__ : PySem.W.codeIn K cd_m_Book___init__ "Book.__init__" = true)
    (kk_m_Book___init__ : PySem.W.keepIn K (.ref f_m_Book___init__) = true)
    (a_d_law : PySem.W.nsIn K mainGlobals "law" = some (some (.ref f_d_law)))
    (l_d_law : K.lookup f_d_law = some ⟨oc_d_law, od_d_law, .func (PySem.W.fnOf "law" "law" (defArgs (top 19)) (defBody (top 19)) (defScope (top 19)) .none kV_d_law dc_d_law pm_d_law an_d_law cd_d_law ct_d_law), sl_d_law⟩)
    (cc_d_law : PySem.W.codeIn K cd_d_law "law" = true)
    (kk_d_law : PySem.W.keepIn K (.ref f_d_law) = true)
    (g_MOST_PERSONS : PySem.W.nsIn K mainGlobals "MOST_PERSONS" = some (some (.int 60 t_MOST_PERSONS)))
    (z_ValueError : PySem.W.nsIn K mainGlobals "ValueError" = some none)
    (z_bool : PySem.W.nsIn K mainGlobals "bool" = some none)
    (z_int : PySem.W.nsIn K mainGlobals "int" = some none)
    (z_isinstance : PySem.W.nsIn K mainGlobals "isinstance" = some none)
    (z_len : PySem.W.nsIn K mainGlobals "len" = some none)
    (z_list : PySem.W.nsIn K mainGlobals "list" = some none)
    (z_max : PySem.W.nsIn K mainGlobals "max" = some none)
    (z_range : PySem.W.nsIn K mainGlobals "range" = some none)
    (z_sorted : PySem.W.nsIn K mainGlobals "sorted" = some none) :
    ∃ fd : FuncData, (∀ (s : Shared) (v : Value), BindsTo s fd ⟨[v], []⟩ [("script", v)]) ∧ ∀ base : Heap, K.In base → base.Ns mainGlobals mg → FnOk l.prog w K mg base (CXR l.prog w) 6 fa fd ["script"] (spLaw K) := by
  have ee := hfa.symm.trans (PySem.W.mg_of X G a_d_law)
  cases ee
  have T : Txt K mg 0 ⟨a_KinError, a_NoPerson, a_NoParents, a_TooMany, a_Book⟩ := ⟨PySem.W.mg_of X G b_Book, ⟨pg_Book, hd_Book, po_Book, sa_Book⟩, n_sexes, n_fathers, n_mothers, n_partner_lists, PySem.W.mg_none_of X G z_ValueError, PySem.W.mg_none_of X G z_bool, PySem.W.mg_none_of X G z_int, PySem.W.mg_none_of X G z_isinstance, PySem.W.mg_none_of X G z_len, PySem.W.mg_none_of X G z_list, PySem.W.mg_none_of X G z_max, PySem.W.mg_none_of X G z_range, PySem.W.mg_none_of X G z_sorted, ⟨_, PySem.W.mg_of X G g_MOST_PERSONS, ⟨_, rfl⟩⟩, ⟨kd1, kd2⟩, PySem.W.mg_of X G b_KinError, PySem.W.mg_of X G b_NoPerson, x_NoPerson, ⟨c1_NoPerson, c2_NoPerson, c3_NoPerson, c4_NoPerson, kd1, kd2, c5_NoPerson, c6_NoPerson⟩, w_NoPerson, v_NoPerson, k_NoPerson_NoPerson, k_NoPerson_NoParents, k_NoPerson_TooMany, PySem.W.mg_of X G b_NoParents, x_NoParents, ⟨c1_NoParents, c2_NoParents, c3_NoParents, c4_NoParents, kd1, kd2, c5_NoParents, c6_NoParents⟩, w_NoParents, v_NoParents, k_NoParents_NoPerson, k_NoParents_NoParents, k_NoParents_TooMany, PySem.W.mg_of X G b_TooMany, x_TooMany, ⟨c1_TooMany, c2_TooMany, c3_TooMany, c4_TooMany, kd1, kd2, c5_TooMany, c6_TooMany⟩, w_TooMany, v_TooMany, k_TooMany_NoPerson, k_TooMany_NoParents, k_TooMany_TooMany⟩
  have hE : NoE (CXR l.prog w) := noER
  have F_d__law_cell_at := fun_mk (st := (top 10)) l_d__law_cell_at cc_d__law_cell_at kk_d__law_cell_at
  have b_d__law_cell_at := F_d__law_cell_at.binds (ps := ["script", "k"]) fun _ _ _ _ _ _ us hl => match us, hl with | [_, _], _ => rfl
  have F_d__law_comer := fun_mk (st := (top 13)) l_d__law_comer cc_d__law_comer kk_d__law_comer
  have b_d__law_comer := F_d__law_comer.binds (ps := ["people", "cell"]) fun _ _ _ _ _ _ us hl => match us, hl with | [_, _], _ => rfl
  have F_m_check_room := fun_mk (st := (inClass (top 8) 3)) l_m_check_room cc_m_check_room kk_m_check_room
  have b_m_check_room := F_m_check_room.binds (ps := ["self"]) fun _ _ _ _ _ _ us hl => match us, hl with | [_], _ => rfl
  have F_m_enter := fun_mk (st := (inClass (top 8) 4)) l_m_enter cc_m_enter kk_m_enter
  have b_m_enter := F_m_enter.binds (ps := ["self", "sex", "father", "mother"]) fun _ _ _ _ _ _ us hl => match us, hl with | [_, _, _, _], _ => rfl
  have F_m_come := fun_mk (st := (inClass (top 8) 6)) l_m_come cc_m_come kk_m_come
  have b_m_come := F_m_come.binds (ps := ["self", "sex"]) fun _ _ _ _ _ _ us hl => match us, hl with | [_, _], _ => rfl
  have F_m_check_person := fun_mk (st := (inClass (top 8) 1)) l_m_check_person cc_m_check_person kk_m_check_person
  have b_m_check_person := F_m_check_person.binds (ps := ["self", "a"]) fun _ _ _ _ _ _ us hl => match us, hl with | [_, _], _ => rfl
  have F_m_check_couple := fun_mk (st := (inClass (top 8) 2)) l_m_check_couple cc_m_check_couple kk_m_check_couple
  have b_m_check_couple := F_m_check_couple.binds (ps := ["self", "man", "woman"]) fun _ _ _ _ _ _ us hl => match us, hl with | [_, _, _], _ => rfl
  have F_m_pair := fun_mk (st := (inClass (top 8) 5)) l_m_pair cc_m_pair kk_m_pair
  have b_m_pair := F_m_pair.binds (ps := ["self", "man", "woman"]) fun _ _ _ _ _ _ us hl => match us, hl with | [_, _, _], _ => rfl
  have F_m_born := fun_mk (st := (inClass (top 8) 7)) l_m_born cc_m_born kk_m_born
  have b_m_born := F_m_born.binds (ps := ["self", "sex", "father", "mother"]) fun _ _ _ _ _ _ us hl => match us, hl with | [_, _, _, _], _ => rfl
  have F_m_wed := fun_mk (st := (inClass (top 8) 8)) l_m_wed cc_m_wed kk_m_wed
  have b_m_wed := F_m_wed.binds (ps := ["self", "man", "woman"]) fun _ _ _ _ _ _ us hl => match us, hl with | [_, _, _], _ => rfl
  have F_d__law_put := fun_mk (st := (top 14)) l_d__law_put cc_d__law_put kk_d__law_put
  have b_d__law_put := F_d__law_put.binds (ps := ["book", "people", "pairs", "comer"]) fun _ _ _ _ _ _ us hl => match us, hl with | [_, _, _, _], _ => rfl
  have F_m_sex_of := fun_mk (st := (inClass (top 8) 10)) l_m_sex_of cc_m_sex_of kk_m_sex_of
  have b_m_sex_of := F_m_sex_of.binds (ps := ["self", "a"]) fun _ _ _ _ _ _ us hl => match us, hl with | [_, _], _ => rfl
  have F_m_father := fun_mk (st := (inClass (top 8) 11)) l_m_father cc_m_father kk_m_father
  have b_m_father := F_m_father.binds (ps := ["self", "a"]) fun _ _ _ _ _ _ us hl => match us, hl with | [_, _], _ => rfl
  have F_m_mother := fun_mk (st := (inClass (top 8) 12)) l_m_mother cc_m_mother kk_m_mother
  have b_m_mother := F_m_mother.binds (ps := ["self", "a"]) fun _ _ _ _ _ _ us hl => match us, hl with | [_, _], _ => rfl
  have F_m_partners := fun_mk (st := (inClass (top 8) 13)) l_m_partners cc_m_partners kk_m_partners
  have b_m_partners := F_m_partners.binds (ps := ["self", "a"]) fun _ _ _ _ _ _ us hl => match us, hl with | [_, _], _ => rfl
  have F_m_children := fun_mk (st := (inClass (top 8) 14)) l_m_children cc_m_children kk_m_children
  have b_m_children := F_m_children.binds (ps := ["self", "a"]) fun _ _ _ _ _ _ us hl => match us, hl with | [_, _], _ => rfl
  have F_d__law_refused := fun_mk (st := (top 15)) l_d__law_refused cc_d__law_refused kk_d__law_refused
  have b_d__law_refused := F_d__law_refused.binds (ps := ["book", "way", "sex", "one", "other"]) fun _ _ _ _ _ _ us hl => match us, hl with | [_, _, _, _, _], _ => rfl
  have F_d__law_ill := fun_mk (st := (top 16)) l_d__law_ill cc_d__law_ill kk_d__law_ill
  have b_d__law_ill := F_d__law_ill.binds (ps := ["book", "people", "cell"]) fun _ _ _ _ _ _ us hl => match us, hl with | [_, _, _], _ => rfl
  have F_m_size := fun_mk (st := (inClass (top 8) 9)) l_m_size cc_m_size kk_m_size
  have b_m_size := F_m_size.binds (ps := ["self"]) fun _ _ _ _ _ _ us hl => match us, hl with | [_], _ => rfl
  have F_d__law_whole := fun_mk (st := (top 11)) l_d__law_whole cc_d__law_whole kk_d__law_whole
  have b_d__law_whole := F_d__law_whole.binds (ps := ["found"]) fun _ _ _ _ _ _ us hl => match us, hl with | [_], _ => rfl
  have F_d__law_parent := fun_mk (st := (top 17)) l_d__law_parent cc_d__law_parent kk_d__law_parent
  have b_d__law_parent := F_d__law_parent.binds (ps := ["found", "due"]) fun _ _ _ _ _ _ us hl => match us, hl with | [_, _], _ => rfl
  have F_d__law_same_numbers := fun_mk (st := (top 12)) l_d__law_same_numbers cc_d__law_same_numbers kk_d__law_same_numbers
  have b_d__law_same_numbers := F_d__law_same_numbers.binds (ps := ["found", "due"]) fun _ _ _ _ _ _ us hl => match us, hl with | [_, _], _ => rfl
  have F_d__law_told := fun_mk (st := (top 18)) l_d__law_told cc_d__law_told kk_d__law_told
  have b_d__law_told := F_d__law_told.binds (ps := ["book", "people", "pairs"]) fun _ _ _ _ _ _ us hl => match us, hl with | [_, _, _], _ => rfl
  have F_m_Book___init__ := fun_mk (st := (inClass (top 8) 0)) l_m_Book___init__ cc_m_Book___init__ kk_m_Book___init__
  have b_m_Book___init__ := F_m_Book___init__.binds (ps := ["self"]) fun _ _ _ _ _ _ us hl => match us, hl with | [_], _ => rfl
  have F_d_law := fun_mk (st := (top 19)) l_d_law cc_d_law kk_d_law
  have b_d_law := F_d_law.binds (ps := ["script"]) fun _ _ _ _ _ _ us hl => match us, hl with | [_], _ => rfl
  refine ⟨PySem.W.fnOf "law" "law" (defArgs (top 19)) (defBody (top 19)) (defScope (top 19)) .none kV_d_law dc_d_law pm_d_law an_d_law cd_d_law ct_d_law, fun s v => .of_eq rfl, fun base _ _ => ?_⟩
  have D__law_cell_at : Def l.prog w K mg base (CXR l.prog w) "_law_cell_at" 1 ["script", "k"] (spCellAt K) := ⟨_, _, PySem.W.mg_of X G a_d__law_cell_at, kk_d__law_cell_at, b_d__law_cell_at, ok_cell F_d__law_cell_at T⟩
  have D__law_comer : Def l.prog w K mg base (CXR l.prog w) "_law_comer" 1 ["people", "cell"] spComer := ⟨_, _, PySem.W.mg_of X G a_d__law_comer, kk_d__law_comer, b_d__law_comer, ok_comer F_d__law_comer T⟩
  have D_check_room : MDef l.prog w K mg base (CXR l.prog w) a_Book "check_room" 1 ["self"] (spRoom (⟨a_KinError, a_NoPerson, a_NoParents, a_TooMany, a_Book⟩ : Ad)) := ⟨_, _, ⟨a_m_check_room, i_m_check_room, kk_m_check_room⟩, b_m_check_room, ok_room F_m_check_room T⟩
  have D_enter : MDef l.prog w K mg base (CXR l.prog w) a_Book "enter" 1 ["self", "sex", "father", "mother"] (spEnter (⟨a_KinError, a_NoPerson, a_NoParents, a_TooMany, a_Book⟩ : Ad)) := ⟨_, _, ⟨a_m_enter, i_m_enter, kk_m_enter⟩, b_m_enter, ok_enter F_m_enter T⟩
  have D_come : MDef l.prog w K mg base (CXR l.prog w) a_Book "come" 2 ["self", "sex"] (spCome (⟨a_KinError, a_NoPerson, a_NoParents, a_TooMany, a_Book⟩ : Ad)) := ⟨_, _, ⟨a_m_come, i_m_come, kk_m_come⟩, b_m_come, ok_come F_m_come T D_check_room D_enter⟩
  have D_check_person : MDef l.prog w K mg base (CXR l.prog w) a_Book "check_person" 1 ["self", "a"] (spCheckP (⟨a_KinError, a_NoPerson, a_NoParents, a_TooMany, a_Book⟩ : Ad)) := ⟨_, _, ⟨a_m_check_person, i_m_check_person, kk_m_check_person⟩, b_m_check_person, ok_checkp F_m_check_person T⟩
  have D_check_couple : MDef l.prog w K mg base (CXR l.prog w) a_Book "check_couple" 2 ["self", "man", "woman"] (spCouple (⟨a_KinError, a_NoPerson, a_NoParents, a_TooMany, a_Book⟩ : Ad)) := ⟨_, _, ⟨a_m_check_couple, i_m_check_couple, kk_m_check_couple⟩, b_m_check_couple, ok_couple F_m_check_couple T D_check_person⟩
  have D_pair : MDef l.prog w K mg base (CXR l.prog w) a_Book "pair" 1 ["self", "man", "woman"] (spPair (⟨a_KinError, a_NoPerson, a_NoParents, a_TooMany, a_Book⟩ : Ad)) := ⟨_, _, ⟨a_m_pair, i_m_pair, kk_m_pair⟩, b_m_pair, ok_pair F_m_pair T⟩
  have D_born : MDef l.prog w K mg base (CXR l.prog w) a_Book "born" 3 ["self", "sex", "father", "mother"] (spBorn (⟨a_KinError, a_NoPerson, a_NoParents, a_TooMany, a_Book⟩ : Ad)) := ⟨_, _, ⟨a_m_born, i_m_born, kk_m_born⟩, b_m_born, ok_born F_m_born T D_check_couple D_check_room D_pair D_enter⟩
  have D_wed : MDef l.prog w K mg base (CXR l.prog w) a_Book "wed" 3 ["self", "man", "woman"] (spWed (⟨a_KinError, a_NoPerson, a_NoParents, a_TooMany, a_Book⟩ : Ad)) := ⟨_, _, ⟨a_m_wed, i_m_wed, kk_m_wed⟩, b_m_wed, ok_wed F_m_wed T D_check_couple D_pair⟩
  have D__law_put : Def l.prog w K mg base (CXR l.prog w) "_law_put" 4 ["book", "people", "pairs", "comer"] (spPut (⟨a_KinError, a_NoPerson, a_NoParents, a_TooMany, a_Book⟩ : Ad)) := ⟨_, _, PySem.W.mg_of X G a_d__law_put, kk_d__law_put, b_d__law_put, ok_put F_d__law_put T hE D_come D_born D_wed⟩
  have D_sex_of : MDef l.prog w K mg base (CXR l.prog w) a_Book "sex_of" 2 ["self", "a"] (spSexOf (⟨a_KinError, a_NoPerson, a_NoParents, a_TooMany, a_Book⟩ : Ad)) := ⟨_, _, ⟨a_m_sex_of, i_m_sex_of, kk_m_sex_of⟩, b_m_sex_of, ok_sexof F_m_sex_of T D_check_person⟩
  have D_father : MDef l.prog w K mg base (CXR l.prog w) a_Book "father" 2 ["self", "a"] (spFatherB (⟨a_KinError, a_NoPerson, a_NoParents, a_TooMany, a_Book⟩ : Ad)) := ⟨_, _, ⟨a_m_father, i_m_father, kk_m_father⟩, b_m_father, ok_fatherb F_m_father T D_check_person⟩
  have D_mother : MDef l.prog w K mg base (CXR l.prog w) a_Book "mother" 2 ["self", "a"] (spMotherB (⟨a_KinError, a_NoPerson, a_NoParents, a_TooMany, a_Book⟩ : Ad)) := ⟨_, _, ⟨a_m_mother, i_m_mother, kk_m_mother⟩, b_m_mother, ok_motherb F_m_mother T D_check_person⟩
  have D_partners : MDef l.prog w K mg base (CXR l.prog w) a_Book "partners" 2 ["self", "a"] (spPartnersB (⟨a_KinError, a_NoPerson, a_NoParents, a_TooMany, a_Book⟩ : Ad)) := ⟨_, _, ⟨a_m_partners, i_m_partners, kk_m_partners⟩, b_m_partners, ok_partnersb F_m_partners T D_check_person⟩
  have D_children : MDef l.prog w K mg base (CXR l.prog w) a_Book "children" 2 ["self", "a"] (spChildrenB (⟨a_KinError, a_NoPerson, a_NoParents, a_TooMany, a_Book⟩ : Ad)) := ⟨_, _, ⟨a_m_children, i_m_children, kk_m_children⟩, b_m_children, ok_childrenb F_m_children T D_check_person⟩
  have D__law_refused : Def l.prog w K mg base (CXR l.prog w) "_law_refused" 4 ["book", "way", "sex", "one", "other"] (spRefused9 (⟨a_KinError, a_NoPerson, a_NoParents, a_TooMany, a_Book⟩ : Ad)) := ⟨_, _, PySem.W.mg_of X G a_d__law_refused, kk_d__law_refused, b_d__law_refused, ok_refused9 F_d__law_refused T D_born D_wed D_come D_sex_of D_father D_mother D_partners D_children⟩
  have D__law_ill : Def l.prog w K mg base (CXR l.prog w) "_law_ill" 5 ["book", "people", "cell"] (spIll (⟨a_KinError, a_NoPerson, a_NoParents, a_TooMany, a_Book⟩ : Ad)) := ⟨_, _, PySem.W.mg_of X G a_d__law_ill, kk_d__law_ill, b_d__law_ill, ok_ill F_d__law_ill T hE D__law_refused⟩
  have D_size : MDef l.prog w K mg base (CXR l.prog w) a_Book "size" 1 ["self"] (spSizeB (⟨a_KinError, a_NoPerson, a_NoParents, a_TooMany, a_Book⟩ : Ad)) := ⟨_, _, ⟨a_m_size, i_m_size, kk_m_size⟩, b_m_size, ok_sizeb F_m_size T⟩
  have D__law_whole : Def l.prog w K mg base (CXR l.prog w) "_law_whole" 1 ["found"] spWhole := ⟨_, _, PySem.W.mg_of X G a_d__law_whole, kk_d__law_whole, b_d__law_whole, ok_whole F_d__law_whole T⟩
  have D__law_parent : Def l.prog w K mg base (CXR l.prog w) "_law_parent" 2 ["found", "due"] spParent := ⟨_, _, PySem.W.mg_of X G a_d__law_parent, kk_d__law_parent, b_d__law_parent, ok_parent F_d__law_parent T hE D__law_whole⟩
  have D__law_same_numbers : Def l.prog w K mg base (CXR l.prog w) "_law_same_numbers" 2 ["found", "due"] spSameN := ⟨_, _, PySem.W.mg_of X G a_d__law_same_numbers, kk_d__law_same_numbers, b_d__law_same_numbers, ok_samen F_d__law_same_numbers T hE D__law_whole⟩
  have D__law_told : Def l.prog w K mg base (CXR l.prog w) "_law_told" 3 ["book", "people", "pairs"] (spTold (⟨a_KinError, a_NoPerson, a_NoParents, a_TooMany, a_Book⟩ : Ad)) := ⟨_, _, PySem.W.mg_of X G a_d__law_told, kk_d__law_told, b_d__law_told, ok_told F_d__law_told T hE D_size D_sex_of D_father D_mother D_partners D_children D__law_whole D__law_parent D__law_same_numbers⟩
  have D_Book : CDef l.prog w K mg base (CXR l.prog w) "Book" a_Book 1 ["self"] (spBookInit (⟨a_KinError, a_NoPerson, a_NoParents, a_TooMany, a_Book⟩ : Ad)) := ⟨_, _, PySem.W.mg_of X G b_Book, ⟨mk_Book, a_m_Book___init__, i_m_Book___init__, kc_Book⟩, b_m_Book___init__, ok_binit F_m_Book___init__ T⟩
  exact ok_law F_d_law T hE D__law_cell_at D__law_comer D__law_put D__law_refused D__law_ill D__law_told D_Book D_come
theorem walk {l : PySem.W.OpenLaw} {q : Program} {loose : List Str} {XP : (Str → Option Value) → Heap → Prop} {YP : World → Heap → Prop} {d : DefRec} {K : Params → PySem.W.Frag} (hn : l.most = some 63) (hdf : d.params.defaults = [])
    (hY : ∀ (w : World) (h : Heap), YP w h → (K w.params).In h)
    (F : ∀ (w : World) (mg : Str → Option Value) (fa : Addr) (h : Heap), (K w.params).In h → h.Ns mainGlobals mg → mg d.name = some (.ref fa) →
      ∃ fd : FuncData, (∀ (s : Shared) (u : Value), BindsTo s fd ⟨[u], []⟩ [("script", u)]) ∧ ∀ base : Heap, (K w.params).In base → base.Ns mainGlobals mg → FnOk l.prog w (K w.params) mg base (CXR l.prog w) 6 fa fd ["script"] (spLaw (K w.params))) :
    PySem.W.WalkO q loose XP YP l.row.toRowW d [] (fun f vs => PySem.call f vs) :=
  L2.walk_of (n := 63) (k := 6) (x := "script") (CX := fun w => CXR l.prog w) (sp := fun w => spLaw (K w.params)) hn (by decide) hdf ⟨rfl, by decide, by decide, rfl⟩ hY F (fun _ _ a ns hl _ hS => ⟨a, ns, rfl, hl, hS, fun _ => rfl⟩) fun _ _ _ _ _ ⟨_, _, _, _, _, z⟩ => z
end Prf
open PySem PySem.W PyProof.Rows
set_option maxRecDepth 100000 in
set_option maxHeartbeats 0 in
theorem PySem.Challenge.cw_kinturns_k09_a_book_of_kin_holds : PySem.Challenge.rw_kinturns_k09_a_book_of_kin.Holds := by
  w_on; o_law; k_head; (case hw => w_witness2)
  k_fill
  refine Prf.walk (l := PySem.Challenge.rw_kinturns_k09_a_book_of_kin) rfl rfl (fun w h Y => PySem.W.kIn_of Y) ?F
  case F =>
    intro w mg fa h KX G hmg
    refine' Prf.all_mk KX G hmg ?b_KinError ?b_NoPerson ?b_NoParents ?b_TooMany ?b_Book ?pg_Book ?hd_Book ?po_Book ?sa_Book ?mk_Book ?kc_Book ?n_sexes ?n_fathers ?n_mothers ?n_partner_lists ?kd1 ?kd2 ?x_NoPerson ?c1_NoPerson ?c2_NoPerson ?c3_NoPerson ?c4_NoPerson ?c5_NoPerson ?c6_NoPerson ?w_NoPerson ?v_NoPerson ?k_NoPerson_NoPerson ?k_NoPerson_NoParents ?k_NoPerson_TooMany ?x_NoParents ?c1_NoParents ?c2_NoParents ?c3_NoParents ?c4_NoParents ?c5_NoParents ?c6_NoParents ?w_NoParents ?v_NoParents ?k_NoParents_NoPerson ?k_NoParents_NoParents ?k_NoParents_TooMany ?x_TooMany ?c1_TooMany ?c2_TooMany ?c3_TooMany ?c4_TooMany ?c5_TooMany ?c6_TooMany ?w_TooMany ?v_TooMany ?k_TooMany_NoPerson ?k_TooMany_NoParents ?k_TooMany_TooMany ?a_d__law_cell_at ?l_d__law_cell_at ?cc_d__law_cell_at ?kk_d__law_cell_at ?a_d__law_comer ?l_d__law_comer ?cc_d__law_comer ?kk_d__law_comer ?a_m_check_room ?i_m_check_room ?l_m_check_room ?cc_m_check_room ?kk_m_check_room ?a_m_enter ?i_m_enter ?l_m_enter ?cc_m_enter ?kk_m_enter ?a_m_come ?i_m_come ?l_m_come ?cc_m_come ?kk_m_come ?a_m_check_person ?i_m_check_person ?l_m_check_person ?cc_m_check_person ?kk_m_check_person ?a_m_check_couple ?i_m_check_couple ?l_m_check_couple ?cc_m_check_couple ?kk_m_check_couple ?a_m_pair ?i_m_pair ?l_m_pair ?cc_m_pair ?kk_m_pair ?a_m_born ?i_m_born ?l_m_born ?cc_m_born ?kk_m_born ?a_m_wed ?i_m_wed ?l_m_wed ?cc_m_wed ?kk_m_wed ?a_d__law_put ?l_d__law_put ?cc_d__law_put ?kk_d__law_put ?a_m_sex_of ?i_m_sex_of ?l_m_sex_of ?cc_m_sex_of ?kk_m_sex_of ?a_m_father ?i_m_father ?l_m_father ?cc_m_father ?kk_m_father ?a_m_mother ?i_m_mother ?l_m_mother ?cc_m_mother ?kk_m_mother ?a_m_partners ?i_m_partners ?l_m_partners ?cc_m_partners ?kk_m_partners ?a_m_children ?i_m_children ?l_m_children ?cc_m_children ?kk_m_children ?a_d__law_refused ?l_d__law_refused ?cc_d__law_refused ?kk_d__law_refused ?a_d__law_ill ?l_d__law_ill ?cc_d__law_ill ?kk_d__law_ill ?a_m_size ?i_m_size ?l_m_size ?cc_m_size ?kk_m_size ?a_d__law_whole ?l_d__law_whole ?cc_d__law_whole ?kk_d__law_whole ?a_d__law_parent ?l_d__law_parent ?cc_d__law_parent ?kk_d__law_parent ?a_d__law_same_numbers ?l_d__law_same_numbers ?cc_d__law_same_numbers ?kk_d__law_same_numbers ?a_d__law_told ?l_d__law_told ?cc_d__law_told ?kk_d__law_told ?a_m_Book___init__ ?i_m_Book___init__ ?l_m_Book___init__ ?cc_m_Book___init__ ?kk_m_Book___init__ ?a_d_law ?l_d_law ?cc_d_law ?kk_d_law ?g_MOST_PERSONS ?z_ValueError ?z_bool ?z_int ?z_isinstance ?z_len ?z_list ?z_max ?z_range ?z_sorted
    (case b_KinError => k_is)
    (case b_NoPerson => k_is)
    (case b_NoParents => k_is)
    (case b_TooMany => k_is)
    (case b_Book => k_is)
    (case pg_Book => k_is)
    (case hd_Book => k_is)
    (case po_Book => k_is)
    (case sa_Book => k_is)
    (case mk_Book => k_is)
    (case kc_Book => k_is)
    (case n_sexes => k_is)
    (case n_fathers => k_is)
    (case n_mothers => k_is)
    (case n_partner_lists => k_is)
    (case kd1 => k_is)
    (case kd2 => k_is)
    (case x_NoPerson => k_exc)
    (case c1_NoPerson => k_is)
    (case c2_NoPerson => k_is)
    (case c3_NoPerson => k_is)
    (case c4_NoPerson => k_is)
    (case c5_NoPerson => k_is)
    (case c6_NoPerson => k_is)
    (case w_NoPerson => kts_exm)
    (case v_NoPerson => kit_is)
    (case k_NoPerson_NoPerson => kit_is)
    (case k_NoPerson_NoParents => kit_is)
    (case k_NoPerson_TooMany => kit_is)
    (case x_NoParents => k_exc)
    (case c1_NoParents => k_is)
    (case c2_NoParents => k_is)
    (case c3_NoParents => k_is)
    (case c4_NoParents => k_is)
    (case c5_NoParents => k_is)
    (case c6_NoParents => k_is)
    (case w_NoParents => kts_exm)
    (case v_NoParents => kit_is)
    (case k_NoParents_NoPerson => kit_is)
    (case k_NoParents_NoParents => kit_is)
    (case k_NoParents_TooMany => kit_is)
    (case x_TooMany => k_exc)
    (case c1_TooMany => k_is)
    (case c2_TooMany => k_is)
    (case c3_TooMany => k_is)
    (case c4_TooMany => k_is)
    (case c5_TooMany => k_is)
    (case c6_TooMany => k_is)
    (case w_TooMany => kts_exm)
    (case v_TooMany => kit_is)
    (case k_TooMany_NoPerson => kit_is)
    (case k_TooMany_NoParents => kit_is)
    (case k_TooMany_TooMany => kit_is)
    (case a_d__law_cell_at => k_is)
    (case l_d__law_cell_at => k_is)
    (case cc_d__law_cell_at => k_is)
    (case kk_d__law_cell_at => k_is)
    (case a_d__law_comer => k_is)
    (case l_d__law_comer => k_is)
    (case cc_d__law_comer => k_is)
    (case kk_d__law_comer => k_is)
    (case a_m_check_room => k_is)
    (case i_m_check_room => k_is)
    (case l_m_check_room => k_is)
    (case cc_m_check_room => k_is)
    (case kk_m_check_room => k_is)
    (case a_m_enter => k_is)
    (case i_m_enter => k_is)
    (case l_m_enter => k_is)
    (case cc_m_enter => k_is)
    (case kk_m_enter => k_is)
    (case a_m_come => k_is)
    (case i_m_come => k_is)
    (case l_m_come => k_is)
    (case cc_m_come => k_is)
    (case kk_m_come => k_is)
    (case a_m_check_person => k_is)
    (case i_m_check_person => k_is)
    (case l_m_check_person => k_is)
    (case cc_m_check_person => k_is)
    (case kk_m_check_person => k_is)
    (case a_m_check_couple => k_is)
    (case i_m_check_couple => k_is)
    (case l_m_check_couple => k_is)
    (case cc_m_check_couple => k_is)
    (case kk_m_check_couple => k_is)
    (case a_m_pair => k_is)
    (case i_m_pair => k_is)
    (case l_m_pair => k_is)
    (case cc_m_pair => k_is)
    (case kk_m_pair => k_is)
    (case a_m_born => k_is)
    (case i_m_born => k_is)
    (case l_m_born => k_is)
    (case cc_m_born => k_is)
    (case kk_m_born => k_is)
    (case a_m_wed => k_is)
    (case i_m_wed => k_is)
    (case l_m_wed => k_is)
    (case cc_m_wed => k_is)
    (case kk_m_wed => k_is)
    (case a_d__law_put => k_is)
    (case l_d__law_put => k_is)
    (case cc_d__law_put => k_is)
    (case kk_d__law_put => k_is)
    (case a_m_sex_of => k_is)
    (case i_m_sex_of => k_is)
    (case l_m_sex_of => k_is)
    (case cc_m_sex_of => k_is)
    (case kk_m_sex_of => k_is)
    (case a_m_father => k_is)
    (case i_m_father => k_is)
    (case l_m_father => k_is)
    (case cc_m_father => k_is)
    (case kk_m_father => k_is)
    (case a_m_mother => k_is)
    (case i_m_mother => k_is)
    (case l_m_mother => k_is)
    (case cc_m_mother => k_is)
    (case kk_m_mother => k_is)
    (case a_m_partners => k_is)
    (case i_m_partners => k_is)
    (case l_m_partners => k_is)
    (case cc_m_partners => k_is)
    (case kk_m_partners => k_is)
    (case a_m_children => k_is)
    (case i_m_children => k_is)
    (case l_m_children => k_is)
    (case cc_m_children => k_is)
    (case kk_m_children => k_is)
    (case a_d__law_refused => k_is)
    (case l_d__law_refused => k_is)
    (case cc_d__law_refused => k_is)
    (case kk_d__law_refused => k_is)
    (case a_d__law_ill => k_is)
    (case l_d__law_ill => k_is)
    (case cc_d__law_ill => k_is)
    (case kk_d__law_ill => k_is)
    (case a_m_size => k_is)
    (case i_m_size => k_is)
    (case l_m_size => k_is)
    (case cc_m_size => k_is)
    (case kk_m_size => k_is)
    (case a_d__law_whole => k_is)
    (case l_d__law_whole => k_is)
    (case cc_d__law_whole => k_is)
    (case kk_d__law_whole => k_is)
    (case a_d__law_parent => k_is)
    (case l_d__law_parent => k_is)
    (case cc_d__law_parent => k_is)
    (case kk_d__law_parent => k_is)
    (case a_d__law_same_numbers => k_is)
    (case l_d__law_same_numbers => k_is)
    (case cc_d__law_same_numbers => k_is)
    (case kk_d__law_same_numbers => k_is)
    (case a_d__law_told => k_is)
    (case l_d__law_told => k_is)
    (case cc_d__law_told => k_is)
    (case kk_d__law_told => k_is)
    (case a_m_Book___init__ => k_is)
    (case i_m_Book___init__ => k_is)
    (case l_m_Book___init__ => k_is)
    (case cc_m_Book___init__ => k_is)
    (case kk_m_Book___init__ => k_is)
    (case a_d_law => k_is)
    (case l_d_law => k_is)
    (case cc_d_law => k_is)
    (case kk_d_law => k_is)
    (case g_MOST_PERSONS => k_is)
    (case z_ValueError => k_is)
    (case z_bool => k_is)
    (case z_int => k_is)
    (case z_isinstance => k_is)
    (case z_len => k_is)
    (case z_list => k_is)
    (case z_max => k_is)
    (case z_range => k_is)
    (case z_sorted => k_is)
#print axioms PySem.Challenge.cw_kinturns_k09_a_book_of_kin_holds
